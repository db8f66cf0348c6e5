/- ShiftBytes holds of every number, size and text: the program's Lay and Take answer as the document says; no condition. -/
import Derived.Test.YtdegladjmbllbaaRows
import Derived.WalkKit
import Derived.ProofKit
import Derived.OpenShut
import Derived.ShutString
import Derived.Test.YtdegladjmbllbaaTk
import Derived.ChangeOld
import Derived.Below
import Derived.WalkSmall
namespace Go.Proofs.Ytdegladjmbllbaa.shiftBytes
open Go.ChangeShapes Go.WideShapes Go.ChangeAt Go.RowKit
open Go.ChangeMaps (open_string shut_string)
set_option linter.unusedVariables false

/-! ### both answer alike -/
theorem below_new (w : World) (c : Array Value) : Below w.heap.size w (w.alloc (.cells c 5)) := (Below.refl _ _).alloc (Nat.le_refl _) _

theorem shown_below (w : World) : Calls Try.prog 9 #[] w fun e w' => e = .returned (.bool true) ∧ Below w.heap.size w w' := by
  have hm : (mixV 1 == 12994781566227106604) = true := by decide +kernel
  have hh : (headV 5 true == 11) = true := by decide +kernel
  have hs : ((strOfNums (layN 258 2)).toList == [2, 1]) = true := by decide +kernel
  go_enter Try.func9, Try.ntmps9
  go_wp2_with fail
  refine (mix_any _ _).mono ?_
  rintro e w' ⟨rfl, rfl⟩
  go_wp2_with fail
  refine (head_any _ _ _).mono ?_
  rintro e w' ⟨rfl, rfl⟩
  go_wp2_with fail
  refine (stamp_any _ _).mono ?_
  rintro e w' ⟨rfl, rfl⟩
  go_wp2_with fail
  refine (lay2 _ _).mono ?_
  rintro e w1 ⟨rfl, c, hw1⟩
  have hb : Below w'.heap.size w' w1 := by rw [hw1]; exact below_new _ _
  clear hw1
  go_wp2
  go_ret
  exact ⟨rfl, hb⟩

theorem lay_both (x n : Int) (h0 : -9223372036854775808 ≤ x) (h1 : x ≤ 9223372036854775807) : ∃ (b : ByteArray) (u : Int),
    (∀ w, Calls Try.prog 30 #[.int .i64 x, .int .i64 n] w fun r w' => r = .returned (.tuple #[.string b, .int .i64 u]) ∧ Below w.heap.size w w') ∧
    (∀ w, Calls Try.prog 31 #[.int .i64 x, .int .i64 n] w fun r w' => r = .returned (.tuple #[.string b, .int .i64 u]) ∧ Below w.heap.size w w') := by
  by_cases h : n = 1 ∨ n = 2 ∨ n = 4 ∨ n = 8
  · rcases h with rfl | rfl | rfl | rfl
    · exact ⟨_, _, fun w => (lay1 x w).mono fun e w' ⟨he, c, hw⟩ => ⟨he, by rw [hw]; exact below_new _ _⟩, fun w => rlay_any x 1 h0 h1 (by decide) w⟩
    · exact ⟨_, _, fun w => (lay2 x w).mono fun e w' ⟨he, c, hw⟩ => ⟨he, by rw [hw]; exact below_new _ _⟩, fun w => rlay_any x 2 h0 h1 (by decide) w⟩
    · exact ⟨_, _, fun w => (lay4 x w).mono fun e w' ⟨he, c, hw⟩ => ⟨he, by rw [hw]; exact below_new _ _⟩, fun w => rlay_any x 4 h0 h1 (by decide) w⟩
    · exact ⟨_, _, fun w => (lay8 x w).mono fun e w' ⟨he, c, hw⟩ => ⟨he, by rw [hw]; exact below_new _ _⟩, fun w => rlay_any x 8 h0 h1 (by decide) w⟩
  · exact ⟨_, _, fun w => (lay_not x n w h).mono fun e w' ⟨he, hw⟩ => ⟨he, by rw [hw]; exact Below.refl _ _⟩, fun w => (rlay_not x n w h).mono fun e w' ⟨he, hw⟩ => ⟨he, by rw [hw]; exact Below.refl _ _⟩⟩

theorem below_drawn (w w' : World) (h : ∃ n, w' = w.drewN n) : Below w.heap.size w w' := by
  obtain ⟨n, rfl⟩ := h
  exact below_drewN (Below.refl _ _) _

theorem take_both (s : ByteArray) (n : Int) (hs : s.size ≤ maxLen) : ∃ v u : Int,
    (∀ w, Calls Try.prog 32 #[.string s, .int .i64 n] w fun r w' => r = .returned (.tuple #[.int .i64 v, .int .i64 u]) ∧ Below w.heap.size w w') ∧
    (∀ w, Calls Try.prog 33 #[.string s, .int .i64 n] w fun r w' => r = .returned (.tuple #[.int .i64 v, .int .i64 u]) ∧ w' = w) := by
  by_cases h : n = 1 ∨ n = 2 ∨ n = 4 ∨ n = 8
  · by_cases hl : (s.size : Int) < n
    · exact ⟨_, _, fun w => (take_short s n w h hl).mono fun e w' ⟨he, hw⟩ => ⟨he, by rw [hw]; exact Below.refl _ _⟩, fun w => rtake_short s n w h hl⟩
    · rcases h with rfl | rfl | rfl | rfl
      · have hn : 1 ≤ s.size := by omega
        refine ⟨_, _, fun w => (take1 s w hs hn).mono fun e w' ⟨he, hw⟩ => ⟨he, below_drawn _ _ hw⟩, fun w => ?_⟩
        rcases Int.lt_or_le (s[0].toNat : Int) 128 with hc | hc
        · exact rtake1p s w hs hn hc
        · exact rtake1n s w hs hn hc
      · have hn : 2 ≤ s.size := by omega
        refine ⟨_, _, fun w => (take2 s w hs hn).mono fun e w' ⟨he, hw⟩ => ⟨he, below_drawn _ _ hw⟩, fun w => ?_⟩
        rcases Int.lt_or_le (s[1].toNat : Int) 128 with hc | hc
        · exact rtake2p s w hs hn hc
        · exact rtake2n s w hs hn hc
      · have hn : 4 ≤ s.size := by omega
        refine ⟨_, _, fun w => (take4 s w hs hn).mono fun e w' ⟨he, hw⟩ => ⟨he, below_drawn _ _ hw⟩, fun w => ?_⟩
        rcases Int.lt_or_le (s[3].toNat : Int) 128 with hc | hc
        · exact rtake4p s w hs hn hc
        · exact rtake4n s w hs hn hc
      · have hn : 8 ≤ s.size := by omega
        refine ⟨_, _, fun w => (take8 s w hs hn).mono fun e w' ⟨he, hw⟩ => ⟨he, below_drawn _ _ hw⟩, fun w => ?_⟩
        rcases Int.lt_or_le (s[7].toNat : Int) 128 with hc | hc
        · exact rtake8p s w hs hn hc
        · exact rtake8n s w hs hn hc
  · exact ⟨_, _, fun w => (take_not s n w h).mono fun e w' ⟨he, hw⟩ => ⟨he, by rw [hw]; exact Below.refl _ _⟩, fun w => rtake_not s n w h⟩

theorem below_then {a b c : World} (h : Below a.heap.size a b) (k : Below b.heap.size b c) : Below a.heap.size a c := h.trans (k.mono h.size)

theorem own : ownKnob Try.prog.godebug = none := by kernel_rfl

/-! ### the walk -/
theorem walk (a0 : Int) (a1 : Int) (a2 : ByteArray) (w0 : (Lit.int .i64 a0).wf = true) (w1 : (Lit.int .i64 a1).wf = true) (w2 : a2.size ≤ maxLen) (w : World) :
    Calls Try.prog 8 #[.int .i64 a0, .int .i64 a1, .string a2] w fun e w' => e = .returned (.bool true) ∧ Below w.heap.size w w' := by
  have hb := bd_i64 a0 w0
  obtain ⟨b, u, h1, h2⟩ := lay_both a0 a1 hb.1 hb.2
  obtain ⟨v, o, h3, h4⟩ := take_both a2 a1 w2
  have H1 := fun w => h1 w
  have H2 := fun w => h2 w
  have H3 := fun w => h3 w
  have H4 := fun w => h4 w
  clear h1 h2 h3 h4
  replace H1 : Hid _ := H1
  replace H2 : Hid _ := H2
  replace H3 : Hid _ := H3
  replace H4 : Hid _ := H4
  clear hb
  go_enter Try.func8, Try.ntmps8
  go_wp2_with fail
  refine (shown_below _).mono ?_
  rintro e w1 ⟨rfl, hg1⟩
  go_wp2_with fail
  refine (H1.out _).mono ?_
  rintro e w2 ⟨rfl, hg2⟩
  go_wp2_with fail
  refine (H2.out _).mono ?_
  rintro e w3 ⟨rfl, hg3⟩
  go_wp2_with fail
  refine (H3.out _).mono ?_
  rintro e w4 ⟨rfl, hg4⟩
  go_wp2_with fail
  refine (H4.out _).mono ?_
  rintro e w5 ⟨rfl, rfl⟩
  go_wp2
  go_ret
  exact ⟨rfl, below_then (below_then (below_then hg1 hg2) hg3) hg4⟩

/-! ### the row -/
set_option maxRecDepth 100000 in
theorem lifted (os : Os) (started : os.Started) (H : Type) (enc : TypeId × Value → H) :
    ReturnsInHanded {} Try.checked os 8 .any (Rows.shiftBytesSpec.pre6 enc Try.prog Try.f8 Rows.shiftBytesRow.domain false) (Rows.shiftBytesSpec.post enc Try.prog Try.f8 false true false false) := by
  refine returnsInHanded_of_change (C := Try.checked) own started (by kernel_rfl) Try.func8
    (ChangeSpec.witness6 (enc := enc) (C := Try.checked) false ⟨#[], #[.int .i64 0, .int .i64 0, .string ByteArray.empty], []⟩ 8 (by kernel_rfl) (by kernel_rfl) (by kernel_rfl) (by kernel_rfl)) ?_
  intro W base args ds gs before hval0 hW hcnd _
  have hval : ∀ (j : Nat) t v, Try.f8.params[j]? = some t → args[j]? = some v → Value.okWide Try.prog W .any base t v := hval0
  have hW' := hW
  obtain ⟨p, q, hA0, hV, rfl, hfz, hnd⟩ := hW
  have hA : DataW.TrodAll enc Try.prog W 0 (fun _ => true) true Try.f8.params.toList args.toList ds p := hA0
  rw [Try.params8] at hA hval
  obtain ⟨v0, vs0, d0, ds0, p0, q0, hargs, rfl, rfl, h0, r0⟩ := trodAll_cons hA
  obtain ⟨v1, vs1, d1, ds1, p1, q1, rfl, rfl, rfl, h1, r1⟩ := trodAll_cons r0
  obtain ⟨v2, vs2, d2, ds2, p2, q2, rfl, rfl, rfl, h2, r2⟩ := trodAll_cons r1
  obtain ⟨rfl, rfl, rfl⟩ := trodAll_nil r2
  obtain rfl : args = #[v0, v1, v2] := by cases args; simp_all
  obtain ⟨rfl, rfl⟩ := trodVars_none hV
  obtain ⟨a0, rfl, rfl, rfl, w0⟩ := open_int Try.underlying2 (hval 0 2 v0 rfl rfl) h0
  obtain ⟨a1, rfl, rfl, rfl, w1⟩ := open_int Try.underlying3 (hval 1 3 v1 rfl rfl) h1
  obtain ⟨a2, rfl, rfl, rfl, w2⟩ := open_string Try.underlying9 (hval 2 9 v2 rfl rfl) h2
  clear hA0 hval0
  simp only [List.append_nil] at hW'
  refine (walk a0 a1 a2 w0 w1 w2 W).mono fun e W' ⟨he, hg⟩ => ?_
  subst he
  exact ⟨_, rfl, _, _, _, [], _, [], hW', trodAll_mk1 (shut_bool Try.underlying4 _), (trodAll_cons_mk (shut_int Try.underlying2 w0) (trodAll_cons_mk (shut_int Try.underlying3 w1) (trodAll_cons_mk (shut_string Try.underlying9 w2) trodAll_mk0))), rfl, hg.frame _, fun h => by cases h⟩

theorem over : Rows.shiftBytesRow.holds Try.pinned (OpenSpec.ofChange Rows.shiftBytesSpec) :=
  OpenClaim.holds_of_wide 8 Try.f8 rfl rfl rfl rfl rfl rfl rfl ⟨rfl, rfl, rfl, rfl, rfl⟩ rfl rfl rfl rfl rfl (by kernel_rfl) Try.func8 (by kernel_rfl)
    (of_decide_eq_true (by kernel_rfl)) (by unfold Func.isWrapper; first | (rw [if_pos (by decide +kernel)]; kernel_rfl) | (rw [if_neg (by decide +kernel)]; exact ⟨rfl, rfl⟩))
    (fun os started H enc _ => lifted os started H enc)

theorem proved : Rows.ShiftBytesSaid :=
  over
#print axioms proved
end Go.Proofs.Ytdegladjmbllbaa.shiftBytes
