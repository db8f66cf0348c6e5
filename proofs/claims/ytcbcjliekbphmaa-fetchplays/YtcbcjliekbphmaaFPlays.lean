/- FetchPlays of the landed program: a machine made of anything over a memory of every size, whatever others store into its words between two steps: every answer and every access is the document's; for every input the law answers true, and the input reads as it did. -/
import Derived.Test.YtcbcjliekbphmaaRows
import Derived.Test.YtcbcjliekbphmaaFtP
import Derived.Test.YtcbcjliekbphmaaFcR
import Derived.WalkKit
import Derived.ProofKit
import Derived.OpenShut
import Derived.ChangeOld
import Derived.Below
import Derived.Deep.DeepHandedRow
import Derived.HandedShaped
namespace Go.Proofs.Ytcbcjliekbphmaa.fetchPlays
open Go.ChangeShapes Go.WideShapes Go.ChangeAt Go.RowKit

theorem own : ownKnob Try.prog.godebug = none := by kernel_rfl
theorem laidOut : laidOutB Try.prog = true := by kernel_rfl
theorem cells_in : Try.prog.cellsOf 27 = 14 := by kernel_rfl
theorem cells_int : Try.prog.cellsOf 3 = 1 := by kernel_rfl
theorem cells_i64 : Try.prog.cellsOf 2 = 1 := by kernel_rfl
theorem cells_acts : Try.prog.cellsOf 25 = 1 := by kernel_rfl
theorem len14 {α : Type} {l : List α} (h : l.length = 14) : ∃ a b c d e f g h i j k m n o, l = [a, b, c, d, e, f, g, h, i, j, k, m, n, o] := by
  match l, h with
  | [a, b, c, d, e, f, g, h, i, j, k, m, n, o], _ => exact ⟨a, b, c, d, e, f, g, h, i, j, k, m, n, o, rfl⟩
theorem len7 {α : Type} {l : List α} (h : l.length = 7) : ∃ a b c d e f g, l = [a, b, c, d, e, f, g] := by
  match l, h with
  | [a, b, c, d, e, f, g], _ => exact ⟨a, b, c, d, e, f, g, rfl⟩
theorem walk (w : World) (s z : Int) (hz : W64 z) (rd : List Nat) (hr : Sg.Ok rd) (cell cs rg : Int) (v : Value) (S : List At) (hv : BLst w v S) :
    Calls Try.prog 3 #[.agg (playC s z rd cell cs rg v)] w fun e w' => e = .returned (.bool true) ∧ Below w.heap.size w w' := by
  cases h : takesF s z cell with
  | false =>
    obtain ⟨x, cap, rfl, _⟩ := hv
    exact fplays_no w s z rd cell cs rg x _ cap hr h
  | true =>
    have h' := h
    unfold takesF takesK at h'
    simp only [Bool.and_eq_true, decide_eq_true_eq] at h'
    obtain ⟨s', rfl⟩ := Int.eq_ofNat_of_zero_le (show 0 ≤ s by omega)
    cases hm : takes cs rg with
    | false =>
      obtain ⟨x, cap, rfl, _⟩ := hv
      exact fplays_may w s' z rd cell cs rg x _ cap hr h hz.2 hm
    | true =>
      have hm' := hm
      unfold takes at hm'
      simp only [Bool.and_eq_true, decide_eq_true_eq] at hm'
      obtain ⟨c', rfl⟩ := Int.eq_ofNat_of_zero_le (show 0 ≤ cs by omega)
      obtain ⟨r', rfl⟩ := Int.eq_ofNat_of_zero_le (show 0 ≤ rg by omega)
      exact fplays_yes w s' z rd cell c' r' hr h hz.2 hm v S hv

set_option maxRecDepth 100000 in
theorem lifted (os : Os) (started : os.Started) (H : Type) (enc : TypeId × Value → H) :
    ReturnsInHanded {} Try.checked os 3 .any (Rows.fetchPlaysSpec.pre6 enc Try.prog Try.f3 Rows.fetchPlaysRow.domain false) (Rows.fetchPlaysSpec.post enc Try.prog Try.f3 false true false false) := by
  refine returnsInHanded_of_change_shaped (C := Try.checked) own started (by kernel_rfl) Try.func3
    (ChangeSpec.witness6 (enc := enc) (C := Try.checked) false ⟨#[], #[.agg #[.int .i64 0, .int .i64 0, .int .u64 0, .int .u64 0, .int .u64 0, .int .u64 0, .int .u64 0, .int .u64 0, .int .u64 0, .int .u64 0, .int .i64 0, .int .i64 0, .int .i64 0, .slice none 0 0]], []⟩ 8 (by kernel_rfl) (by kernel_rfl) (by kernel_rfl) (by kernel_rfl)) ?_
  intro W base args ds gs before hval0 hW hcnd hR _ _
  have hval : ∀ (j : Nat) t v, Try.f3.params[j]? = some t → args[j]? = some v → Value.okWide Try.prog W .any base t v := hval0
  have hW' := hW
  obtain ⟨p, q, hA0, hV, rfl, hfz, hnd⟩ := hW
  have hA : DataW.TrodAll enc Try.prog W 0 (fun _ => true) true Try.f3.params.toList args.toList ds p := hA0
  rw [Try.params3] at hA hval
  obtain ⟨v0, vs0, d0, ds0, p0, q0, hargs, rfl, rfl, h0, r0⟩ := trodAll_cons hA
  obtain ⟨rfl, rfl, rfl⟩ := trodAll_nil r0
  obtain rfl : args = #[v0] := by cases args; simp_all
  obtain ⟨rfl, rfl⟩ := trodVars_none hV
  have k0 := h0
  have lt0 : ∀ x ∈ p0, x.block < W.heap.size := by obtain ⟨m, hm⟩ := k0; exact DataW.trod_lt m _ _ _ hm
  have hR0 : (d0.weights Try.prog 27).all (· ≤ reachBytes) = true := by
    have hR1 : (DataW.weightsEach Try.prog (Try.f3.params.toList ++ []) ([d0] ++ [])).all (· ≤ reachBytes) = true := hR
    rw [Try.params3] at hR1
    simpa [DataW.weightsEach] using hR1
  obtain ⟨cs, rfl, hsz⟩ := okWide_struct Try.underlying27 (hval 0 27 v0 rfl rfl)
  obtain ⟨fuel, hf⟩ := h0
  obtain ⟨xs, m, _, hx, hl, hlen, hfd⟩ := DataW.trod_struct Try.underlying27 hf
  obtain ⟨l⟩ := cs
  have hl6 : l.length = 14 := hsz.trans cells_in
  obtain ⟨c0, c1, c2, c3, c4, c5, c6, c7, c8, c9, c10, c11, c12, c13, rfl⟩ := len14 hl6
  obtain ⟨y0, y1, y2, y3, y4, y5, y6, rfl⟩ := len7 hlen
  have g0 := hfd 0 _ rfl
  have g1 := hfd 1 _ rfl
  have g2 := hfd 2 _ rfl
  have g3 := hfd 3 _ rfl
  have g4 := hfd 4 _ rfl
  have g5 := hfd 5 _ rfl
  have g6 := hfd 6 _ rfl
  simp [Value.cells, cells_int, cells_i64, cells_acts, Sg.cells_sig] at g0 g1 g2 g3 g4 g5 g6
  obtain ⟨a0, z0, _, _⟩ := DataW.trod_int Try.underlying3 g0
  obtain ⟨a1, z1, _, hwf⟩ := DataW.trod_int Try.underlying2 g1
  obtain ⟨rd, hrd, z2⟩ := sig_of_cells g2 rfl
  obtain ⟨a3, z3, _, _⟩ := DataW.trod_int Try.underlying3 g3
  obtain ⟨a4, z4, _, _⟩ := DataW.trod_int Try.underlying3 g4
  obtain ⟨a5, z5, _, _⟩ := DataW.trod_int Try.underlying3 g5
  have hd : d0 = .agg ([y0, y1, y2, y3, y4, y5, y6].map (·.1)) := (Prod.mk.inj hx).1
  have hR2 : (y6.1.weights Try.prog 25).all (· ≤ reachBytes) = true := by
    rw [hd] at hR0
    simp [DataW.weights, DataW.weightsEach, Try.underlying27] at hR0
    simp only [List.all_eq_true, decide_eq_true_eq]
    exact hR0.2.2.2.2.2.2
  obtain ⟨v, S, z6, hS⟩ := open_acts7 hR2 g6
  simp only [List.cons.injEq, and_true] at z0 z1 z2 z3 z4 z5 z6
  obtain ⟨rfl, rfl, rfl, rfl, rfl, rfl, rfl, rfl⟩ := z2
  subst z0 z1 z3 z4 z5 z6
  clear hA0 hval0
  refine (walk W a0 a1 (bd_i64 _ hwf) rd hrd a3 a4 a5 _ S hS).mono fun e W' ⟨he, bel⟩ => ?_
  subst he
  exact ⟨_, rfl, _, _, _, [], _, [], hW', trodAll_mk1 (shut_bool Try.underlying4 _), (trodAll_cons_mk (Below.trod laidOut (by kernel_rfl) (of_decide_eq_true (by kernel_rfl)) k0 bel lt0) trodAll_mk0), rfl, bel.frame _, fun h => by cases h⟩

theorem over : Rows.fetchPlaysRow.holds Try.pinned (OpenSpec.ofChange Rows.fetchPlaysSpec) :=
  OpenClaim.holds_of_wide 3 Try.f3 rfl rfl rfl rfl rfl rfl rfl ⟨rfl, rfl, rfl, rfl, rfl⟩ rfl rfl rfl rfl rfl (by kernel_rfl) Try.func3 (by kernel_rfl)
    (of_decide_eq_true (by kernel_rfl)) (by unfold Func.isWrapper; first | (rw [if_pos (by decide +kernel)]; kernel_rfl) | (rw [if_neg (by decide +kernel)]; exact ⟨rfl, rfl⟩))
    (fun os started H enc _ => lifted os started H enc)

theorem proved : Rows.FetchPlaysSaid :=
  over
#print axioms proved
end Go.Proofs.Ytcbcjliekbphmaa.fetchPlays
