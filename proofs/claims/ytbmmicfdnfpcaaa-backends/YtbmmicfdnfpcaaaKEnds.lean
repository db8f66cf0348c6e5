/- BackEnds of the landed program: over any words, behind any steps: once the heads of all older slots say that their entries are complete it is through within len + 11 steps, none of which waits, and its cells are what they were to become; for every input the law answers true, and the input reads as it did. -/
import Derived.Test.YtbmmicfdnfpcaaaRows
import Derived.Test.YtbmmicfdnfpcaaaBkV
import Derived.Test.YtbmmicfdnfpcaaaBkR
import Derived.WalkKit
import Derived.ProofKit
import Derived.OpenShut
import Derived.ChangeOld
import Derived.Below
import Derived.Deep.DeepHandedRow
import Derived.HandedShaped
namespace Go.Proofs.Ytbmmicfdnfpcaaa.backEnds
open Go.ChangeShapes Go.WideShapes Go.ChangeAt Go.RowKit

theorem own : ownKnob Try.prog.godebug = none := by kernel_rfl
theorem laidOut : laidOutB Try.prog = true := by kernel_rfl
theorem cells_in : Try.prog.cellsOf 70 = 5 := by kernel_rfl
theorem cells_int : Try.prog.cellsOf 3 = 1 := by kernel_rfl
theorem cells_bool : Try.prog.cellsOf 4 = 1 := by kernel_rfl
theorem cells_acts : Try.prog.cellsOf 26 = 1 := by kernel_rfl
theorem cells_wrs : Try.prog.cellsOf 25 = 1 := by kernel_rfl
theorem len5 {α : Type} {l : List α} (h : l.length = 5) : ∃ a b c d e, l = [a, b, c, d, e] := by
  match l, h with
  | [a, b, c, d, e], _ => exact ⟨a, b, c, d, e, rfl⟩

set_option maxRecDepth 100000 in
theorem lifted (os : Os) (started : os.Started) (H : Type) (enc : TypeId × Value → H) :
    ReturnsInHanded {} Try.checked os 4 .any (Rows.backEndsSpec.pre6 enc Try.prog Try.f4 Rows.backEndsRow.domain false) (Rows.backEndsSpec.post enc Try.prog Try.f4 false true false false) := by
  refine returnsInHanded_of_change_shaped (C := Try.checked) own started (by kernel_rfl) Try.func4
    (ChangeSpec.witness6 (enc := enc) (C := Try.checked) false ⟨#[], #[.agg #[.int .i64 0, .bool false, .int .i64 0, .slice none 0 0, .slice none 0 0]], []⟩ 8 (by kernel_rfl) (by kernel_rfl) (by kernel_rfl) (by kernel_rfl)) ?_
  intro W base args ds gs before hval0 hW hcnd hR _ _
  have hval : ∀ (j : Nat) t v, Try.f4.params[j]? = some t → args[j]? = some v → Value.okWide Try.prog W .any base t v := hval0
  have hW' := hW
  obtain ⟨p, q, hA0, hV, rfl, hfz, hnd⟩ := hW
  have hA : DataW.TrodAll enc Try.prog W 0 (fun _ => true) true Try.f4.params.toList args.toList ds p := hA0
  rw [Try.params4] at hA hval
  obtain ⟨v0, vs0, d0, ds0, p0, q0, hargs, rfl, rfl, h0, r0⟩ := trodAll_cons hA
  obtain ⟨rfl, rfl, rfl⟩ := trodAll_nil r0
  obtain rfl : args = #[v0] := by cases args; simp_all
  obtain ⟨rfl, rfl⟩ := trodVars_none hV
  have k0 := h0
  have lt0 : ∀ x ∈ p0, x.block < W.heap.size := by obtain ⟨m, hm⟩ := k0; exact DataW.trod_lt m _ _ _ hm
  have hR0 : (d0.weights Try.prog 70).all (· ≤ reachBytes) = true := by
    have hR1 : (DataW.weightsEach Try.prog (Try.f4.params.toList ++ []) ([d0] ++ [])).all (· ≤ reachBytes) = true := hR
    rw [Try.params4] at hR1
    simpa [DataW.weightsEach] using hR1
  obtain ⟨cs, rfl, hsz⟩ := okWide_struct Try.underlying70 (hval 0 70 v0 rfl rfl)
  obtain ⟨fuel, hf⟩ := h0
  obtain ⟨xs, m, _, hx, hl, hlen, hfd⟩ := DataW.trod_struct Try.underlying70 hf
  obtain ⟨l⟩ := cs
  have hl5 : l.length = 5 := hsz.trans cells_in
  obtain ⟨c0, c1, c2, c3, c4, rfl⟩ := len5 hl5
  obtain ⟨y0, y1, y2, y3, y4, rfl⟩ := len5 hlen
  have g0 := hfd 0 _ rfl
  have g1 := hfd 1 _ rfl
  have g2 := hfd 2 _ rfl
  have g3 := hfd 3 _ rfl
  have g4 := hfd 4 _ rfl
  simp [Value.cells, cells_int, cells_bool, cells_acts, cells_wrs] at g0 g1 g2 g3 g4
  obtain ⟨a0, z0, _, _⟩ := DataW.trod_int Try.underlying3 g0
  obtain ⟨a1, z1, _⟩ := DataW.trod_bool Try.underlying4 g1
  obtain ⟨a2, z2, _, _⟩ := DataW.trod_int Try.underlying3 g2
  have hd : d0 = .agg ([y0, y1, y2, y3, y4].map (·.1)) := (Prod.mk.inj hx).1
  have hR2 : (y3.1.weights Try.prog 25).all (· ≤ reachBytes) = true ∧ (y4.1.weights Try.prog 26).all (· ≤ reachBytes) = true := by
    rw [hd] at hR0
    simp [DataW.weights, DataW.weightsEach, Try.underlying70] at hR0
    simp only [List.all_eq_true, decide_eq_true_eq]
    exact ⟨hR0.2.2.2.1, hR0.2.2.2.2⟩
  obtain ⟨wv, V, z3, hV3, hv64, _⟩ := open_wl hR2.1 g3
  obtain ⟨v, S, z4, hS⟩ := open_acts7 hR2.2 g4
  simp only [List.cons.injEq, and_true] at z0 z1 z2 z3 z4
  subst z0 z1 z2 z3 z4
  clear hA0 hval0
  refine (ends_walk W a0 a1 a2 hV3 hv64 hS).mono fun e W' ⟨he, bel⟩ => ?_
  subst he
  exact ⟨_, rfl, _, _, _, [], _, [], hW', trodAll_mk1 (shut_bool Try.underlying4 _), (trodAll_cons_mk (Below.trod laidOut (by kernel_rfl) (of_decide_eq_true (by kernel_rfl)) k0 bel lt0) trodAll_mk0), rfl, bel.frame _, fun h => by cases h⟩

theorem over : Rows.backEndsRow.holds Try.pinned (OpenSpec.ofChange Rows.backEndsSpec) :=
  OpenClaim.holds_of_wide 4 Try.f4 rfl rfl rfl rfl rfl rfl rfl ⟨rfl, rfl, rfl, rfl, rfl⟩ rfl rfl rfl rfl rfl (by kernel_rfl) Try.func4 (by kernel_rfl)
    (of_decide_eq_true (by kernel_rfl)) (by unfold Func.isWrapper; first | (rw [if_pos (by decide +kernel)]; kernel_rfl) | (rw [if_neg (by decide +kernel)]; exact ⟨rfl, rfl⟩))
    (fun os started H enc _ => lifted os started H enc)

theorem proved : Rows.BackEndsSaid :=
  over
#print axioms proved
end Go.Proofs.Ytbmmicfdnfpcaaa.backEnds
