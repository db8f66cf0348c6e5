/- ShiftBack holds of every word, number, stamp, mark and value: what the program turns, heads and lays comes back as it was; no condition. -/
import Derived.Test.YtdegladjmbllbabBase
namespace Go.Proofs.Ytdegladjmbllbab.shiftBack
open Go.ChangeShapes Go.WideShapes Go.ChangeAt Go.RowKit
set_option linter.unusedVariables false

/-! ### there and back -/
theorem le_lay (t : ByteArray) (x : Int) (n : Nat) (hn : n ≤ t.size) (h : ∀ i (hi : i < n), (t[i].toNat : Int) = xb x i % 256) : leN t n + 256 ^ n * xb x n = x := by
  induction n with
  | zero => simp [leN, xb_zero]
  | succ n ih =>
    have ih := ih (by omega) (fun i hi => h i (by omega))
    rw [le_succ t n (by omega), h n (by omega), ← xb_succ, Int.pow_succ]
    have e : xb x n % 256 * 256 ^ n + 256 ^ n * 256 * (xb x n / 256) = 256 ^ n * xb x n := by
      have e2 : xb x n = 256 * (xb x n / 256) + xb x n % 256 := by omega
      rw [Int.mul_assoc, Int.mul_comm (xb x n % 256), ← Int.mul_add, Int.add_comm, ← e2]
    omega

theorem take_lay8 (t : ByteArray) (x : Int) (hn : 8 ≤ t.size) (h0 : -9223372036854775808 ≤ x) (h1 : x ≤ 9223372036854775807) (h : ∀ i (hi : i < 8), (t[i].toNat : Int) = xb x i % 256) : takeV t 8 = x := by
  have hl := le_lay t x 8 hn h
  have hb := le_bd t 8 hn
  have e1 : (256 : Int) ^ 8 = 18446744073709551616 := by decide
  have e2 : 128 * (256 : Int) ^ (8 - 1) = 9223372036854775808 := by decide
  unfold takeV
  rw [e1] at hl hb ⊢
  rw [e2]
  split <;> omega
theorem take_lay1 (t : ByteArray) (x : Int) (hn : 1 ≤ t.size) (h0 : -128 ≤ x) (h1 : x ≤ 127) (h : ∀ i (hi : i < 1), (t[i].toNat : Int) = xb x i % 256) : takeV t 1 = x := by
  have hl := le_lay t x 1 hn h
  have hb := le_bd t 1 hn
  have e1 : (256 : Int) ^ 1 = 256 := by decide
  have e2 : 128 * (256 : Int) ^ (1 - 1) = 128 := by decide
  unfold takeV
  rw [e1] at hl hb ⊢
  rw [e2]
  split <;> omega

theorem str_size (x : Int) (n : Nat) : (strOfNums (layN x n)).size = n := by rw [strOfNums_size, lay_len]
theorem str_byte (x : Int) (n i : Nat) (hi : i < n) (h : i < (strOfNums (layN x n)).size) : ((strOfNums (layN x n))[i].toNat : Int) = xb x i % 256 := by
  have e : (strOfNums (layN x n))[i] = UInt8.ofNat (xb x i % 256).toNat := by
    show (strOfNums (layN x n)).data[i]'_ = _
    simp [strOfNums, layN]
  rw [e]
  have hlt : (xb x i % 256).toNat < 256 := by omega
  rw [UInt8.toNat_ofNat_of_lt' hlt]
  omega
theorem app_byte (a b : ByteArray) (i : Nat) (hi : i < a.size) (h : i < (a ++ b).size) : (a ++ b)[i] = a[i] := by
  exact ByteArray.getElem_append_left hi

def more : ByteArray := ⟨#[109, 111, 114, 101]⟩

theorem back_turn (x n : Int) (h0 : 0 ≤ x) (h1 : x ≤ 18446744073709551615) : turnV (turnV x (n.tmod 64 % 64).toNat) (wrap64 (-n.tmod 64) % 64).toNat = x := by
  have hb : -64 < n.tmod 64 ∧ n.tmod 64 < 64 := by
    have hp : (0 : Int) < 64 := by decide
    rcases Int.lt_or_le (n.tmod 64) 0 with h | h
    · obtain ⟨_, _, e⟩ := tmod_low n 64 hp h
      omega
    · have e := tmod_high n 64 hp h
      omega
  have e : (wrap64 (-n.tmod 64) % 64).toNat = (64 - (n.tmod 64 % 64).toNat) % 64 := by unfold wrap64; omega
  rw [e]
  exact turn_back x _ h0 (by omega) (by omega)

theorem half_bd (s : Int) (h0 : -9223372036854775808 ≤ s) (h1 : s ≤ 9223372036854775807) : -4611686018427387904 ≤ s.tdiv 2 ∧ s.tdiv 2 ≤ 4611686018427387903 := by
  have e := Int.mul_tdiv_add_tmod s 2
  rcases Int.lt_or_le (s.tmod 2) 0 with h | h
  · obtain ⟨_, _, e2⟩ := tmod_low s 2 (by decide) h
    omega
  · have e2 := tmod_high s 2 (by decide) h
    omega
theorem head_is (s : Int) (d : Bool) (h0 : -4611686018427387904 ≤ s) (h1 : s ≤ 4611686018427387903) : headV s d / 2 = s ∧ (headV s d % 2 == 1) = d := by
  cases d
  · have e : headV s false = s * 2 := by simp [headV]; unfold wrap64; omega
    rw [e]
    exact ⟨by omega, by simp⟩
  · have e : headV s true = s * 2 + 1 := by simp [headV]; unfold wrap64; omega
    rw [e]
    exact ⟨by omega, by simp⟩
theorem small_bd (v : Int) : -128 ≤ v.tmod 128 ∧ v.tmod 128 ≤ 127 := by
  rcases Int.lt_or_le (v.tmod 128) 0 with h | h
  · obtain ⟨_, _, e2⟩ := tmod_low v 128 (by decide) h
    omega
  · have e2 := tmod_high v 128 (by decide) h
    omega

set_option maxHeartbeats 1000000 in
theorem walk (x n st : Int) (d : Bool) (v : Int) (wx : (Lit.int .u64 x).wf = true) (wn : (Lit.int .i64 n).wf = true) (ws : (Lit.int .i64 st).wf = true) (wv : (Lit.int .i64 v).wf = true) (w : World) :
    Calls Try.prog 4 #[.agg #[.int .u64 x, .int .i64 n, .int .i64 st, .bool d, .int .i64 v]] w fun e w' => e = .returned (.bool true) ∧ Below w.heap.size w w' := by
  have hx := bd_u64 x wx
  have hs := bd_i64 st ws
  have hv := bd_i64 v wv
  clear wx wn ws wv
  have hh := half_bd st hs.1 hs.2
  have hB1 : (turnV (turnV x (n.tmod 64 % 64).toNat) (wrap64 (-n.tmod 64) % 64).toNat == x) = true := by rw [back_turn x n hx.1 hx.2]; simp
  have hB2 : (headV (st.tdiv 2) d / 2 == st.tdiv 2) = true := by rw [(head_is _ d hh.1 hh.2).1]; simp
  have hB3 : ((headV (st.tdiv 2) d % 2 == 1) == d) = true := by rw [(head_is _ d hh.1 hh.2).2]; simp
  have hz8 : (strOfNums (layN v 8)).size = 8 := str_size v 8
  have hB4 : (takeV (strOfNums (layN v 8) ++ ⟨#[109, 111, 114, 101]⟩) 8 == v) = true := by
    rw [take_lay8 _ v (by rw [ByteArray.size_append, hz8]; omega) hv.1 hv.2 (fun i hi => by rw [app_byte _ _ i (by rw [hz8]; exact hi)]; exact str_byte v 8 i hi _)]
    simp
  have hB6 : (takeV (strOfNums (layN (v.tmod 128) 1)) 1 == v.tmod 128) = true := by
    rw [take_lay1 _ _ (by rw [str_size]; omega) (small_bd v).1 (small_bd v).2 (fun i hi => str_byte _ 1 i hi _)]
    simp
  have HT : Hid (0 ≤ turnV x (n.tmod 64 % 64).toNat ∧ turnV x (n.tmod 64 % 64).toNat < 18446744073709551616) := turn_bd x _ hx.1 (by omega) (by omega)
  clear hh hv
  go_enter Try.func4, Try.ntmps4
  go_wp2_with fail
  refine (shown_below _).mono ?_
  rintro e w1 ⟨rfl, hg1⟩
  go_wp2_with fail
  refine (turn_any _ _ hx.1 hx.2 _).mono ?_
  rintro e w' ⟨rfl, rfl⟩
  go_wp2_with fail
  refine (turn_any _ _ HT.out.1 (by have := HT.out.2; omega) _).mono ?_
  rintro e w' ⟨rfl, rfl⟩
  go_wp2_with fail
  refine (head_any _ _ _).mono ?_
  rintro e w' ⟨rfl, rfl⟩
  go_wp2_with fail
  refine (stamp_any _ _).mono ?_
  rintro e w' ⟨rfl, rfl⟩
  go_wp2_with fail
  refine (done_any _ _).mono ?_
  rintro e w' ⟨rfl, rfl⟩
  go_wp2_with fail
  refine (lay8 _ _).mono ?_
  rintro e w2 ⟨rfl, c, hw2⟩
  have hg2 : Below w'.heap.size w' w2 := by rw [hw2]; exact below_new _ _
  clear hw2
  go_wp2_with fail
  refine (take8 _ _ (by rw [ByteArray.size_append, str_size]; show _ ≤ _; unfold maxLen; decide) (by rw [ByteArray.size_append, str_size]; omega)).mono ?_
  rintro e w3 ⟨rfl, hw3⟩
  have hg3 := below_drawn _ _ hw3
  clear hw3
  go_wp2_with fail
  refine (lay1 _ _).mono ?_
  rintro e w4 ⟨rfl, c, hw4⟩
  have hg4 : Below w3.heap.size w3 w4 := by rw [hw4]; exact below_new _ _
  clear hw4
  go_wp2_with fail
  refine (take1 _ _ (by rw [str_size]; unfold maxLen; decide) (by rw [str_size]; omega)).mono ?_
  rintro e w5 ⟨rfl, hw5⟩
  have hg5 := below_drawn _ _ hw5
  clear hw5
  go_wp2
  go_ret
  exact ⟨rfl, (below_then ((Below.refl _ _).alloc (Nat.le_refl _) _) (below_then (below_then (below_then (below_then hg1 hg2) hg3) hg4) hg5))⟩

/-! ### the row -/
theorem own : ownKnob Try.prog.godebug = none := by kernel_rfl
theorem laidOut : laidOutB Try.prog = true := by kernel_rfl

theorem five {α : Type} {cs : Array α} (h : cs.size = 5) : ∃ c0 c1 c2 c3 c4, cs = #[c0, c1, c2, c3, c4] := by
  obtain ⟨l⟩ := cs
  match l, h with
  | [c0, c1, c2, c3, c4], _ => exact ⟨c0, c1, c2, c3, c4, rfl⟩

set_option maxRecDepth 100000 in
theorem lifted (os : Os) (started : os.Started) (H : Type) (enc : TypeId × Value → H) :
    ReturnsInHanded {} Try.checked os 4 .any (Rows.shiftBackSpec.pre6 enc Try.prog Try.f4 Rows.shiftBackRow.domain false) (Rows.shiftBackSpec.post enc Try.prog Try.f4 false true false false) := by
  refine returnsInHanded_of_change (C := Try.checked) own started (by kernel_rfl) Try.func4
    (ChangeSpec.witness6 (enc := enc) (C := Try.checked) false ⟨#[], #[.agg #[.int .u64 0, .int .i64 0, .int .i64 0, .bool false, .int .i64 0]], []⟩ 8 (by kernel_rfl) (by kernel_rfl) (by kernel_rfl) (by kernel_rfl)) ?_
  intro W base args ds gs before hval0 hW hcnd _
  have hval : ∀ (j : Nat) t v, Try.f4.params[j]? = some t → args[j]? = some v → Value.okWide Try.prog W .any base t v := hval0
  have hW' := hW
  obtain ⟨p, q, hA0, hV, rfl, hfz, hnd⟩ := hW
  have hA : DataW.TrodAll enc Try.prog W 0 (fun _ => true) true Try.f4.params.toList args.toList ds p := hA0
  rw [Try.params4] at hA hval
  obtain ⟨v0, vs0, d0, ds0, p0, q0, hargs, rfl, rfl, h0, r0⟩ := trodAll_cons hA
  obtain ⟨rfl, rfl, rfl⟩ := trodAll_nil r0
  obtain rfl : args = #[v0] := by cases args; simp_all
  obtain ⟨rfl, rfl⟩ := trodVars_none hV
  have k0 := h0
  have lt0 : ∀ x ∈ p0, x.block < W.heap.size := by obtain ⟨m, hm⟩ := k0; exact DataW.trod_lt m _ _ _ hm
  obtain ⟨cs, rfl, hsz⟩ := okWide_struct Try.underlying27 (hval 0 27 v0 rfl rfl)
  obtain ⟨c0, c1, c2, c3, c4, rfl⟩ := five (hsz.trans (by kernel_rfl))
  obtain ⟨fuel, hf⟩ := h0
  obtain ⟨xs, m, _, hx, hl, hlen, hfd⟩ := DataW.trod_struct Try.underlying27 hf
  have e22 : Try.prog.cellsOf 22 = 1 := by kernel_rfl
  have e3 : Try.prog.cellsOf 3 = 1 := by kernel_rfl
  have e2 : Try.prog.cellsOf 2 = 1 := by kernel_rfl
  have e4 : Try.prog.cellsOf 4 = 1 := by kernel_rfl
  match xs, hlen with
  | [y0, y1, y2, y3, y4], _ =>
    have g0 := hfd 0 _ rfl
    have g1 := hfd 1 _ rfl
    have g2 := hfd 2 _ rfl
    have g3 := hfd 3 _ rfl
    have g4 := hfd 4 _ rfl
    simp [Value.cells, e22, e3, e2, e4] at g0 g1 g2 g3 g4
    obtain ⟨a0, z0, _, w0⟩ := DataW.trod_int Try.underlying22 g0
    obtain ⟨a1, z1, _, w1⟩ := DataW.trod_int Try.underlying3 g1
    obtain ⟨a2, z2, _, w2⟩ := DataW.trod_int Try.underlying2 g2
    obtain ⟨a3, z3, _⟩ := DataW.trod_bool Try.underlying4 g3
    obtain ⟨a4, z4, _, w4⟩ := DataW.trod_int Try.underlying2 g4
    simp only [List.cons.injEq, and_true] at z0 z1 z2 z3 z4
    subst z0 z1 z2 z3 z4
    clear hA0 hval0
    refine (walk a0 a1 a2 a3 a4 w0 w1 w2 w4 W).mono fun e W' ⟨he, bel⟩ => ?_
    subst he
    exact ⟨_, rfl, _, _, _, [], _, [], hW', trodAll_mk1 (shut_bool Try.underlying4 _), (trodAll_cons_mk (Below.trod laidOut (by kernel_rfl) (of_decide_eq_true (by kernel_rfl)) k0 bel lt0) trodAll_mk0), rfl, bel.frame _, fun h => by cases h⟩

theorem over : Rows.shiftBackRow.holds Try.pinned (OpenSpec.ofChange Rows.shiftBackSpec) :=
  OpenClaim.holds_of_wide 4 Try.f4 rfl rfl rfl rfl rfl rfl rfl ⟨rfl, rfl, rfl, rfl, rfl⟩ rfl rfl rfl rfl rfl (by kernel_rfl) Try.func4 (by kernel_rfl)
    (of_decide_eq_true (by kernel_rfl)) (by unfold Func.isWrapper; first | (rw [if_pos (by decide +kernel)]; kernel_rfl) | (rw [if_neg (by decide +kernel)]; exact ⟨rfl, rfl⟩))
    (fun os started H enc _ => lifted os started H enc)

theorem proved : Rows.ShiftBackSaid :=
  over
#print axioms proved
end Go.Proofs.Ytdegladjmbllbab.shiftBack
