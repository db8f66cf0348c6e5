/- MemTells of the landed program: behind every script, over a memory of every size, each word is what the log says of it, and each load and swap told what the log had said by then; for every input the law answers true, and the input reads as it did. -/
import Derived.Test.YtbfhhignhbamnaaRows
import Derived.Test.YtbfhhignhbamnaaMemT
import Derived.WalkKit
import Derived.ProofKit
import Derived.OpenShut
import Derived.ChangeOld
import Derived.Below
import Derived.Deep.DeepHandedRow
import Derived.HandedShaped
namespace Go.Proofs.Ytbfhhignhbamnaa.memTells
open Go.ChangeShapes Go.WideShapes Go.ChangeAt Go.RowKit

theorem own : ownKnob Try.prog.godebug = none := by kernel_rfl
theorem laidOut : laidOutB Try.prog = true := by kernel_rfl
theorem cells_in : Try.prog.cellsOf 42 = 6 := by kernel_rfl
theorem cells_acts : Try.prog.cellsOf 22 = 1 := by kernel_rfl
theorem len4 {α : Type} {l : List α} (h : l.length = 4) : ∃ a b c d, l = [a, b, c, d] := by
  match l, h with
  | [a, b, c, d], _ => exact ⟨a, b, c, d, rfl⟩

theorem walk (w : World) (c r : Int) (v : Value) (S : List Tk) (hv : ALst w v S) (a : Ad) :
    Calls Try.prog 4 #[.agg #[.int .i64 c, .int .i64 r, v, .int .i64 a.k, .int .i64 a.i, .int .i64 a.j]] w fun e w' => e = .returned (.bool true) ∧ Below w.heap.size w w' := by
  cases h : takes c r with
  | false =>
    obtain ⟨x, cap, rfl, _⟩ := hv
    exact tells_no w c r x S.length cap a.k a.i a.j h
  | true =>
    simp only [takes, Bool.and_eq_true, decide_eq_true_eq] at h
    obtain ⟨c', rfl⟩ := Int.eq_ofNat_of_zero_le (show 0 ≤ c by omega)
    obtain ⟨r', rfl⟩ := Int.eq_ofNat_of_zero_le (show 0 ≤ r by omega)
    exact tells_yes w c' r' (by omega) (by omega) v S hv a.k a.i a.j

set_option maxRecDepth 100000 in
theorem lifted (os : Os) (started : os.Started) (H : Type) (enc : TypeId × Value → H) :
    ReturnsInHanded {} Try.checked os 4 .any (Rows.memTellsSpec.pre6 enc Try.prog Try.f4 Rows.memTellsRow.domain false) (Rows.memTellsSpec.post enc Try.prog Try.f4 false true false false) := by
  refine returnsInHanded_of_change_shaped (C := Try.checked) own started (by kernel_rfl) Try.func4
    (ChangeSpec.witness6 (enc := enc) (C := Try.checked) false ⟨#[], #[.agg #[.int .i64 0, .int .i64 0, .slice none 0 0, .int .i64 0, .int .i64 0, .int .i64 0]], []⟩ 8 (by kernel_rfl) (by kernel_rfl) (by kernel_rfl) (by kernel_rfl)) ?_
  intro W base args ds gs before hval0 hW hcnd hR _ _
  have hval : ∀ (j : Nat) t v, Try.f4.params[j]? = some t → args[j]? = some v → Value.okWide Try.prog W .any base t v := hval0
  have hW' := hW
  obtain ⟨p, q, hA0, hV, rfl, hfz, hnd⟩ := hW
  have hA : DataW.TrodAll enc Try.prog W 0 (fun _ => true) true Try.f4.params.toList args.toList ds p := hA0
  rw [Try.params4] at hA hval
  obtain ⟨v0, vs0, d0, ds0, p0, q0, hargs, rfl, rfl, h0, r0⟩ := trodAll_cons hA
  obtain ⟨rfl, rfl, rfl⟩ := trodAll_nil r0
  obtain rfl : args = #[v0] := by cases args; simp_all
  obtain ⟨rfl, rfl⟩ := trodVars_none hV
  have k0 := h0
  have lt0 : ∀ x ∈ p0, x.block < W.heap.size := by obtain ⟨m, hm⟩ := k0; exact DataW.trod_lt m _ _ _ hm
  have hR0 : (d0.weights Try.prog 42).all (· ≤ reachBytes) = true := by
    have hR1 : (DataW.weightsEach Try.prog (Try.f4.params.toList ++ []) ([d0] ++ [])).all (· ≤ reachBytes) = true := hR
    rw [Try.params4] at hR1
    simpa [DataW.weightsEach] using hR1
  obtain ⟨cs, rfl, hsz⟩ := okWide_struct Try.underlying42 (hval 0 42 v0 rfl rfl)
  obtain ⟨fuel, hf⟩ := h0
  obtain ⟨xs, m, _, hx, hl, hlen, hfd⟩ := DataW.trod_struct Try.underlying42 hf
  obtain ⟨l⟩ := cs
  have hl6 : l.length = 6 := hsz.trans cells_in
  obtain ⟨c0, c1, c2, c3, c4, c5, rfl⟩ := len6 hl6
  obtain ⟨y0, y1, y2, y3, rfl⟩ := len4 hlen
  have g0 := hfd 0 _ rfl
  have g1 := hfd 1 _ rfl
  have g2 := hfd 2 _ rfl
  have g3 := hfd 3 _ rfl
  simp [Value.cells, cells_int, cells_acts, cells_addr] at g0 g1 g2 g3
  obtain ⟨a0, z0, _, _⟩ := DataW.trod_int Try.underlying3 g0
  obtain ⟨a1, z1, _, _⟩ := DataW.trod_int Try.underlying3 g1
  obtain ⟨a3, z3⟩ := addr_of_cells g3
  have hd : d0 = .agg ([y0, y1, y2, y3].map (·.1)) := (Prod.mk.inj hx).1
  have hR2 : (y2.1.weights Try.prog 22).all (· ≤ reachBytes) = true := by
    rw [hd] at hR0
    simp [DataW.weights, DataW.weightsEach, Try.underlying42] at hR0
    simp only [List.all_eq_true, decide_eq_true_eq]
    exact hR0.2.2.1
  obtain ⟨v, S, z2, hS⟩ := open_acts hR2 g2
  simp only [adC, List.cons.injEq, and_true] at z0 z1 z2 z3
  obtain ⟨rfl, rfl, rfl⟩ := z3
  subst z0 z1 z2
  clear hA0 hval0
  refine (walk W a0 a1 _ S hS a3).mono fun e W' ⟨he, bel⟩ => ?_
  subst he
  exact ⟨_, rfl, _, _, _, [], _, [], hW', trodAll_mk1 (shut_bool Try.underlying4 _), (trodAll_cons_mk (Below.trod laidOut (by kernel_rfl) (of_decide_eq_true (by kernel_rfl)) k0 bel lt0) trodAll_mk0), rfl, bel.frame _, fun h => by cases h⟩

theorem over : Rows.memTellsRow.holds Try.pinned (OpenSpec.ofChange Rows.memTellsSpec) :=
  OpenClaim.holds_of_wide 4 Try.f4 rfl rfl rfl rfl rfl rfl rfl ⟨rfl, rfl, rfl, rfl, rfl⟩ rfl rfl rfl rfl rfl (by kernel_rfl) Try.func4 (by kernel_rfl)
    (of_decide_eq_true (by kernel_rfl)) (by unfold Func.isWrapper; first | (rw [if_pos (by decide +kernel)]; kernel_rfl) | (rw [if_neg (by decide +kernel)]; exact ⟨rfl, rfl⟩))
    (fun os started H enc _ => lifted os started H enc)

theorem proved : Rows.MemTellsSaid :=
  over
#print axioms proved
end Go.Proofs.Ytbfhhignhbamnaa.memTells
