/- Acts of layer 12's statements that are handed in; the second form's bound. -/
import Derived.Test.YtgjahjnomfijfaaGreatJTyMTyL
import Derived.Test.YtgjahjnomfijfaaGreatJMemIMemN
import Derived.Test.YtgjahjnomfijfaaGreatMath
import Derived.Deep.Slices
namespace Go.Proofs.YtgjahjnomfijfaaGreat
open Go.ChangeShapes Go.WideShapes Go.ChangeAt Go.RowKit
theorem cbulk_one {H : Type} (d : DataW H) : 1 ≤ Rows.uptoBulk d := by
 cases d with
 | lit l => cases l <;> simp [Rows.uptoBulk]
 | nil => simp [Rows.uptoBulk]
 | ptr d => simp [Rows.uptoBulk]
 | slice elems spare => simp [Rows.uptoBulk]
 | agg parts => simp [Rows.uptoBulk]
 | iface t d => simp [Rows.uptoBulk]
 | map entries => simp [Rows.uptoBulk]
 | held h => simp [Rows.uptoBulk]
theorem cbulk_len {H : Type} (l : List (DataW H)) : l.length ≤ Rows.uptoBulkAll l := by
 induction l with
 | nil => simp [Rows.uptoBulkAll]
 | cons x r ih => have := cbulk_one x; simp only [Rows.uptoBulkAll, List.length_cons]; omega
theorem cells_act12 : Tryz.prog.cellsOf 36 = 12 := by kernel_rfl
theorem cells_want12 : Tryz.prog.cellsOf 32 = 4 := by kernel_rfl
theorem cells_addr12 : Tryz.prog.cellsOf 34 = 3 := by kernel_rfl
theorem cells_int12 : Tryz.prog.cellsOf 3 = 1 := by kernel_rfl
theorem cells_i6412 : Tryz.prog.cellsOf 2 = 1 := by kernel_rfl
theorem len12' {α : Type} {l : List α} (h : l.length = 12) : ∃ a b c d e f g h i j k m, l = [a, b, c, d, e, f, g, h, i, j, k, m] := by
 match l, h with
 | [a, b, c, d, e, f, g, h, i, j, k, m], _ => exact ⟨a, b, c, d, e, f, g, h, i, j, k, m, rfl⟩
theorem len7' {α : Type} {l : List α} (h : l.length = 7) : ∃ a b c d e f g, l = [a, b, c, d, e, f, g] := by
 match l, h with
 | [a, b, c, d, e, f, g], _ => exact ⟨a, b, c, d, e, f, g, rfl⟩
theorem len4c {α : Type} {l : List α} (h : l.length = 4) : ∃ a b c d, l = [a, b, c, d] := by
 match l, h with
 | [a, b, c, d], _ => exact ⟨a, b, c, d, rfl⟩
theorem want_of_cells {H : Type} {enc : TypeId × Value → H} {W : World} {fuel : Nat} {cs : List Value} {x : DataW H × List MemPlace}
  (hf : DataW.trod enc Tryz.prog W 0 (fun _ => true) true fuel 32 cs = some x) : ∃ s : Wa, cs = [.int .i64 s.kind, .int .i64 s.cell, .int .i64 s.value, .int .i64 s.code] ∧ W64 s.value := by
 obtain ⟨xs, m, _, hx, hl, hlen, hfd⟩ := DataW.trod_struct Tryz.underlying32 hf
 have hl4 : cs.length = 4 := by rw [hl, cells_want12]
 obtain ⟨c0, c1, c2, c3, rfl⟩ := len4c hl4
 obtain ⟨y0, y1, y2, y3, rfl⟩ := len4c hlen
 have g0 := hfd 0 _ rfl
 have g1 := hfd 1 _ rfl
 have g2 := hfd 2 _ rfl
 have g3 := hfd 3 _ rfl
 simp [cells_int12, cells_i6412] at g0 g1 g2 g3
 obtain ⟨a0, z0, _, _⟩ := DataW.trod_int Tryz.underlying3 g0
 obtain ⟨a1, z1, _, _⟩ := DataW.trod_int Tryz.underlying3 g1
 obtain ⟨a2, z2, _, hwf⟩ := DataW.trod_int Tryz.underlying2 g2
 obtain ⟨a3, z3, _, _⟩ := DataW.trod_int Tryz.underlying3 g3
 simp only [List.cons.injEq, and_true] at z0 z1 z2 z3
 subst z0 z1 z2 z3
 exact ⟨⟨a0, a1, a2, a3⟩, rfl, bd_i64 _ hwf⟩
theorem act12_of_cells {H : Type} {enc : TypeId × Value → H} {W : World} {fuel : Nat} {cs : List Value} {x : DataW H × List MemPlace}
  (hf : DataW.trod enc Tryz.prog W 0 (fun _ => true) true fuel 36 cs = some x) : ∃ s : At, cs = atC s ∧ W64 s.w.value := by
 obtain ⟨xs, m, _, hx, hl, hlen, hfd⟩ := DataW.trod_struct Tryz.underlying36 hf
 have hl12 : cs.length = 12 := by rw [hl, cells_act12]
 obtain ⟨c0, c1, c2, c3, c4, c5, c6, c7, c8, c9, c10, c11, rfl⟩ := len12' hl12
 obtain ⟨y0, y1, y2, y3, y4, y5, y6, rfl⟩ := len7' hlen
 have g0 := hfd 0 _ rfl
 have g1 := hfd 1 _ rfl
 have g2 := hfd 2 _ rfl
 have g3 := hfd 3 _ rfl
 have g4 := hfd 4 _ rfl
 have g5 := hfd 5 _ rfl
 have g6 := hfd 6 _ rfl
 simp [cells_int12, cells_i6412, cells_want12, cells_addr12] at g0 g1 g2 g3 g4 g5 g6
 obtain ⟨a0, z0, _, _⟩ := DataW.trod_int Tryz.underlying3 g0
 obtain ⟨a1, z1, _, _⟩ := DataW.trod_int Tryz.underlying3 g1
 obtain ⟨a2, z2, _, _⟩ := DataW.trod_int Tryz.underlying3 g2
 obtain ⟨a3, z3, hwf⟩ := want_of_cells g3
 obtain ⟨a4, z4, _, _⟩ := DataW.trod_int Tryz.underlying3 g4
 obtain ⟨a5, z5⟩ := addr_of_cells g5
 obtain ⟨a6, z6, _, _⟩ := DataW.trod_int Tryz.underlying2 g6
 simp only [adC, List.cons.injEq, and_true] at z0 z1 z2 z3 z4 z5 z6
 obtain ⟨rfl, rfl, rfl, rfl⟩ := z3
 obtain ⟨rfl, rfl, rfl⟩ := z5
 subst z0 z1 z2 z4 z6
 exact ⟨⟨a0, a1, a2, a3, a4, a5.k, a5.i, a5.j, a6⟩, rfl, hwf⟩
theorem open_acts12 {H : Type} {enc : TypeId × Value → H} {W : World} {fuel : Nat} {cs : List Value} {x : DataW H × List MemPlace} (hb : Rows.uptoBulk x.1 ≤ 1048576)
  (hf : DataW.trod enc Tryz.prog W 0 (fun _ => true) true fuel 25 cs = some x) : ∃ v S, cs = [v] ∧ AcL W v S ∧ AcOk S := by
 rcases Go.Deep.open_slice Tryz.underlying25 hf with ⟨hcs, hx⟩ | ⟨x0, n, c, m, n', D, Pl, hcs, _, hl, hm, hmm, hx, hcell⟩
 ·exact ⟨_, [], hcs, ⟨none, _, rfl, by simp, Or.inl rfl⟩, fun i hi => absurd hi (by simp)⟩
 ·have hmc : m = c := by simpa using hmm
  subst hmc
  have hn : n ≤ 1048576 := by
   have := cbulk_len ((List.range n).map D)
   rw [hx] at hb
   simp only [Rows.uptoBulk] at hb
   simp at this
   omega
  have hrow : ∀ i, i < n → ∃ s : At, (∀ j u, (atC s)[j]? = some u → W.cell? ((x0.add (i * 12)).add j) = some u) ∧ W64 s.w.value ∧ x0.block < W.heap.size := fun i hi => by
   obtain ⟨cs', hc, ht⟩ := hcell i (by omega)
   obtain ⟨s, rfl, hfit⟩ := act12_of_cells ht
   rw [cells_act12] at hc
   have hj : ∀ j, j < 12 → W.cell? ((x0.add (i * 12)).add j) = (atC s)[j]? := fun j hj => (World.cells?_some hc).2.2 j hj
   refine ⟨s, fun j u hu => ?_, hfit, ?_⟩
   ·have hj12 : j < 12 := by
     have := List.getElem?_eq_some_iff.1 hu
     obtain ⟨h, _⟩ := this
     simpa [atC] using h
    rw [hj j hj12]; exact hu
   ·have := World.block_lt_of_cell? _ _ ((hj 0 (by decide)).trans (show _ = some (Value.int .i64 s.kind) from rfl))
    rwa [add_block, add_block] at this
  obtain ⟨S, hSl, hS⟩ := list_choose noAt _ n hrow
  refine ⟨_, S, hcs, ⟨some x0, m, by rw [hSl], by omega, ?_⟩, fun i hi => (hS i (by omega)).2.1⟩
  by_cases h0 : n = 0
  ·exact Or.inl (List.length_eq_zero_iff.1 (by omega))
  ·exact Or.inr ⟨x0, rfl, (hS 0 (by omega)).2.2, fun i hi => (hS i (by omega)).1⟩
end Go.Proofs.YtgjahjnomfijfaaGreat
