/- Lists of writes that are handed in to the statements of layer 11. -/
import Derived.Test.YtbmmicfdnfpcaaaBkN
import Derived.Test.YtbmmicfdnfpcaaaActL
namespace Go.Proofs.Ytbmmicfdnfpcaaa
open Go.ChangeShapes Go.WideShapes Go.ChangeAt Go.RowKit

theorem cells_wr11 : Try.prog.cellsOf 36 = 2 := by kernel_rfl
theorem bytes_wr11 : Try.prog.bytesOf 36 = 16 := by kernel_rfl
theorem cells_int11 : Try.prog.cellsOf 3 = 1 := by kernel_rfl
theorem cells_i6411 : Try.prog.cellsOf 2 = 1 := by kernel_rfl
theorem len2' {α : Type} {l : List α} (h : l.length = 2) : ∃ a b, l = [a, b] := by
  match l, h with
  | [a, b], _ => exact ⟨a, b, rfl⟩
theorem wr11_of_cells {H : Type} {enc : TypeId × Value → H} {W : World} {fuel : Nat} {cs : List Value} {x : DataW H × List MemPlace}
    (hf : DataW.trod enc Try.prog W 0 (fun _ => true) true fuel 36 cs = some x) : ∃ s : Wt, cs = [.int .i64 s.c, .int .i64 s.v] ∧ W64 s.v ∧ W64 s.c := by
  obtain ⟨xs, m, _, hx, hl, hlen, hfd⟩ := DataW.trod_struct Try.underlying36 hf
  have hl2 : cs.length = 2 := by rw [hl, cells_wr11]
  obtain ⟨c0, c1, rfl⟩ := len2' hl2
  obtain ⟨y0, y1, rfl⟩ := len2' hlen
  have g0 := hfd 0 _ rfl
  have g1 := hfd 1 _ rfl
  simp [cells_int11, cells_i6411] at g0 g1
  obtain ⟨a0, z0, _, hw0⟩ := DataW.trod_int Try.underlying3 g0
  obtain ⟨a1, z1, _, hwf⟩ := DataW.trod_int Try.underlying2 g1
  simp only [List.cons.injEq, and_true] at z0 z1
  subst z0 z1
  exact ⟨⟨a0, a1⟩, rfl, w64_of_wf hwf, w64_of_wf hw0⟩
theorem open_wl {H : Type} {enc : TypeId × Value → H} {W : World} {fuel : Nat} {cs : List Value} {x : DataW H × List MemPlace} (hw : (x.1.weights Try.prog 25).all (· ≤ reachBytes) = true)
    (hf : DataW.trod enc Try.prog W 0 (fun _ => true) true fuel 25 cs = some x) : ∃ v S, cs = [v] ∧ WL W v S ∧ (∀ i, i < S.length → W64 (S.getD i noWt).v) ∧ ∀ i, i < S.length → W64 (S.getD i noWt).c := by
  rcases Go.Deep.open_slice Try.underlying25 hf with ⟨hcs, hx⟩ | ⟨x0, n, c, m, n', D, Pl, hcs, _, hl, hm, hmm, hx, hcell⟩
  · exact ⟨_, [], hcs, ⟨none, _, rfl, by simp, Or.inl rfl⟩, fun i hi => absurd hi (by simp), fun i hi => absurd hi (by simp)⟩
  · have hmc : m = c := by simpa using hmm
    subst hmc
    have hlen : n ≤ 8796093022208 := by
      rw [hx] at hw
      simp only [DataW.weights, Try.underlying25, List.all_cons, Bool.and_eq_true, decide_eq_true_eq, bytes_wr11, List.length_map, List.length_range] at hw
      have := hw.1
      unfold reachBytes at this
      omega
    have hrow : ∀ i, i < n → ∃ s : Wt, (W.cell? (x0.add (i * 2)) = some (.int .i64 s.c) ∧ W.cell? ((x0.add (i * 2)).add 1) = some (.int .i64 s.v)) ∧ (W64 s.v ∧ W64 s.c) ∧ x0.block < W.heap.size := fun i hi => by
      obtain ⟨cs', hc, ht⟩ := hcell i (by omega)
      obtain ⟨s, rfl, hfit⟩ := wr11_of_cells ht
      rw [cells_wr11] at hc
      have hj : ∀ j, j < 2 → W.cell? ((x0.add (i * 2)).add j) = [Value.int .i64 s.c, .int .i64 s.v][j]? := fun j hj => (World.cells?_some hc).2.2 j hj
      refine ⟨s, ⟨?_, ?_⟩, hfit, ?_⟩
      · have := hj 0 (by decide); rw [add_zero'] at this; exact this
      · exact hj 1 (by decide)
      · have := World.block_lt_of_cell? _ _ ((hj 0 (by decide)).trans (show _ = some (Value.int .i64 s.c) from rfl))
        rwa [add_block, add_block] at this
    obtain ⟨S, hSl, hS⟩ := list_choose noWt _ n hrow
    refine ⟨_, S, hcs, ⟨some x0, m, by rw [hSl], by omega, ?_⟩, fun i hi => (hS i (by omega)).2.1.1, fun i hi => (hS i (by omega)).2.1.2⟩
    by_cases h0 : n = 0
    · exact Or.inl (List.length_eq_zero_iff.1 (by omega))
    · exact Or.inr ⟨x0, rfl, (hS 0 (by omega)).2.2, fun i hi => (hS i (by omega)).1⟩
end Go.Proofs.Ytbmmicfdnfpcaaa
