/- Acts of the statements of layers 7 and 8 that are handed in. -/
import Derived.Test.YtbmmicfdnfpcaaaBegM
import Derived.Test.YtbmmicfdnfpcaaaAns
import Derived.Test.YtbmmicfdnfpcaaaMemI
import Derived.Test.YtbmmicfdnfpcaaaMath
import Derived.Deep.Slices
namespace Go.Proofs.Ytbmmicfdnfpcaaa
open Go.ChangeShapes Go.WideShapes Go.ChangeAt Go.RowKit

/-- An act. -/
structure At where
  k : Int
  t : Int
  a : Ad
  v : Int
def noAt : At := ⟨0, 0, ⟨0, 0, 0⟩, 0⟩
def Row6 (w : World) (y : Addr) (x : At) : Prop := w.cell? y = some (.int .i64 x.k) ∧ w.cell? (y.add 1) = some (.int .i64 x.t) ∧ w.cell? (y.add 2) = some (.int .i64 x.a.k) ∧ w.cell? (y.add 3) = some (.int .i64 x.a.i) ∧ w.cell? (y.add 4) = some (.int .i64 x.a.j) ∧ w.cell? (y.add 5) = some (.int .i64 x.v)
theorem Row6.later {w w' : World} {y : Addr} {x : At} {B : Nat} (h : Row6 w y x) (hb : Below B w w') (hy : y.block < B) : Row6 w' y x :=
  ⟨cell_later hb hy h.1, cell_later hb (by rw [add_block]; exact hy) h.2.1, cell_later hb (by rw [add_block]; exact hy) h.2.2.1, cell_later hb (by rw [add_block]; exact hy) h.2.2.2.1, cell_later hb (by rw [add_block]; exact hy) h.2.2.2.2.1, cell_later hb (by rw [add_block]; exact hy) h.2.2.2.2.2⟩

/-- A list of acts lies behind a slice. -/
def BLst (w : World) (v : Value) (S : List At) : Prop := ∃ a cap, v = .slice a S.length cap ∧ S.length ≤ 2932031007317 ∧ (∀ i, i < S.length → W64 (S.getD i noAt).v) ∧ (S = [] ∨ ∃ x, a = some x ∧ x.block < w.heap.size ∧ ∀ i, i < S.length → Row6 w (x.add (i * 6)) (S.getD i noAt))

theorem cells_act7 : Try.prog.cellsOf 48 = 6 := by kernel_rfl
theorem bytes_act7 : Try.prog.bytesOf 48 = 48 := by kernel_rfl
theorem cells_addr7 : Try.prog.cellsOf 46 = 3 := by kernel_rfl
theorem cells_int7 : Try.prog.cellsOf 3 = 1 := by kernel_rfl
theorem cells_i647 : Try.prog.cellsOf 2 = 1 := by kernel_rfl
theorem len4' {α : Type} {l : List α} (h : l.length = 4) : ∃ a b c d, l = [a, b, c, d] := by
  match l, h with
  | [a, b, c, d], _ => exact ⟨a, b, c, d, rfl⟩
theorem w64_of_wf {z : Int} (h : (Lit.int .i64 z).wf = true) : W64 z := bd_i64 z h
theorem act7_of_cells {H : Type} {enc : TypeId × Value → H} {W : World} {fuel : Nat} {cs : List Value} {x : DataW H × List MemPlace}
    (hf : DataW.trod enc Try.prog W 0 (fun _ => true) true fuel 48 cs = some x) : ∃ s : At, cs = [.int .i64 s.k, .int .i64 s.t, .int .i64 s.a.k, .int .i64 s.a.i, .int .i64 s.a.j, .int .i64 s.v] ∧ W64 s.v := by
  obtain ⟨xs, m, _, hx, hl, hlen, hfd⟩ := DataW.trod_struct Try.underlying48 hf
  have hl6 : cs.length = 6 := by rw [hl, cells_act7]
  obtain ⟨c0, c1, c2, c3, c4, c5, rfl⟩ := len6 hl6
  obtain ⟨y0, y1, y2, y3, rfl⟩ := len4' hlen
  have g0 := hfd 0 _ rfl
  have g1 := hfd 1 _ rfl
  have g2 := hfd 2 _ rfl
  have g3 := hfd 3 _ rfl
  simp [cells_int7, cells_i647, cells_addr7] at g0 g1 g2 g3
  obtain ⟨a0, z0, _, _⟩ := DataW.trod_int Try.underlying3 g0
  obtain ⟨a1, z1, _, _⟩ := DataW.trod_int Try.underlying3 g1
  obtain ⟨a2, z2⟩ := addr_of_cells g2
  obtain ⟨a4, z4, _, hwf⟩ := DataW.trod_int Try.underlying2 g3
  simp only [adC, List.cons.injEq, and_true] at z0 z1 z2 z4
  obtain ⟨rfl, rfl, rfl⟩ := z2
  subst z0 z1 z4
  exact ⟨⟨a0, a1, a2, a4⟩, rfl, w64_of_wf hwf⟩
theorem open_acts7 {H : Type} {enc : TypeId × Value → H} {W : World} {fuel : Nat} {cs : List Value} {x : DataW H × List MemPlace} (hw : (x.1.weights Try.prog 26).all (· ≤ reachBytes) = true)
    (hf : DataW.trod enc Try.prog W 0 (fun _ => true) true fuel 26 cs = some x) : ∃ v S, cs = [v] ∧ BLst W v S := by
  rcases Go.Deep.open_slice Try.underlying26 hf with ⟨hcs, hx⟩ | ⟨x0, n, c, m, n', D, Pl, hcs, _, hl, hm, hmm, hx, hcell⟩
  · exact ⟨_, [], hcs, none, _, rfl, by simp, fun i hi => absurd hi (by simp), Or.inl rfl⟩
  · have hmc : m = c := by simpa using hmm
    subst hmc
    have hlen : n ≤ 2932031007317 := by
      rw [hx] at hw
      simp only [DataW.weights, Try.underlying26, List.all_cons, Bool.and_eq_true, decide_eq_true_eq, bytes_act7, List.length_map, List.length_range] at hw
      have := hw.1
      unfold reachBytes at this
      omega
    have hrow : ∀ i, i < n → ∃ s : At, Row6 W (x0.add (i * 6)) s ∧ W64 s.v ∧ x0.block < W.heap.size := fun i hi => by
      obtain ⟨cs', hc, ht⟩ := hcell i (by omega)
      obtain ⟨s, rfl, hfit⟩ := act7_of_cells ht
      rw [cells_act7] at hc
      have hj : ∀ j, j < 6 → W.cell? ((x0.add (i * 6)).add j) = [Value.int .i64 s.k, .int .i64 s.t, .int .i64 s.a.k, .int .i64 s.a.i, .int .i64 s.a.j, .int .i64 s.v][j]? := fun j hj => (World.cells?_some hc).2.2 j hj
      refine ⟨s, ⟨?_, ?_, ?_, ?_, ?_, ?_⟩, hfit, ?_⟩
      · have := hj 0 (by decide); rw [add_zero'] at this; exact this
      · exact hj 1 (by decide)
      · exact hj 2 (by decide)
      · exact hj 3 (by decide)
      · exact hj 4 (by decide)
      · exact hj 5 (by decide)
      · have := World.block_lt_of_cell? _ _ ((hj 0 (by decide)).trans (show _ = some (Value.int .i64 s.k) from rfl))
        rwa [add_block, add_block] at this
    obtain ⟨S, hSl, hS⟩ := list_choose noAt _ n hrow
    refine ⟨_, S, hcs, some x0, m, by rw [hSl], by omega, fun i hi => (hS i (by omega)).2.1, ?_⟩
    by_cases h0 : n = 0
    · exact Or.inl (List.length_eq_zero_iff.1 (by omega))
    · exact Or.inr ⟨x0, rfl, (hS 0 (by omega)).2.2, fun i hi => (hS i (by omega)).1⟩

end Go.Proofs.Ytbmmicfdnfpcaaa
