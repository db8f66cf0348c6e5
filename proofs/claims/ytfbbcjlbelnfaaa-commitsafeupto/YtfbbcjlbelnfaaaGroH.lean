/- Turns that are handed in: a number and a list of writes each; the second form's bound. -/
import Derived.Test.YtfbbcjlbelnfaaaGroA
import Derived.Deep.Slices
namespace Go.Proofs.Ytfbbcjlbelnfaaa
open Go.ChangeShapes Go.WideShapes Go.ChangeAt Go.RowKit

structure Tn where
  k : Int
  l : List Wt
def noTn : Tn := ⟨0, []⟩
/-- A list of turns lies behind a slice. -/
def TnLst (w : World) (v : Value) (S : List Tn) : Prop := ∃ a cap, v = .slice a S.length cap ∧ S.length ≤ 1048576 ∧ (S = [] ∨ ∃ x, a = some x ∧ x.block < w.heap.size ∧ ∀ i, i < S.length → w.cell? (x.add (i * 2)) = some (.int .i64 (S.getD i noTn).k) ∧ ∃ u, w.cell? ((x.add (i * 2)).add 1) = some u ∧ WLst w u (S.getD i noTn).l)

theorem gbulk_one {H : Type} (d : DataW H) : 1 ≤ Rows.uptoBulk d := by
  cases d with
  | lit l => cases l <;> simp [Rows.uptoBulk]
  | nil => simp [Rows.uptoBulk]
  | ptr d => simp [Rows.uptoBulk]
  | slice elems spare => simp [Rows.uptoBulk]
  | agg parts => simp [Rows.uptoBulk]
  | iface t d => simp [Rows.uptoBulk]
  | map entries => simp [Rows.uptoBulk]
  | held h => simp [Rows.uptoBulk]
theorem gbulk_len {H : Type} (l : List (DataW H)) : l.length ≤ Rows.uptoBulkAll l := by
  induction l with
  | nil => simp [Rows.uptoBulkAll]
  | cons x r ih => have := gbulk_one x; simp only [Rows.uptoBulkAll, List.length_cons]; omega
theorem gbulk_mem {H : Type} {l : List (DataW H)} {d : DataW H} (h : d ∈ l) : Rows.uptoBulk d ≤ Rows.uptoBulkAll l := by
  induction l with
  | nil => simp at h
  | cons x r ih =>
    simp only [Rows.uptoBulkAll]
    rcases List.mem_cons.1 h with rfl | h
    · omega
    · have := ih h; omega
theorem gcells_wr : Try.prog.cellsOf 117 = 2 := by kernel_rfl
theorem gcells_turn : Try.prog.cellsOf 75 = 2 := by kernel_rfl
theorem gcells_int : Try.prog.cellsOf 3 = 1 := by kernel_rfl
theorem gcells_i64 : Try.prog.cellsOf 2 = 1 := by kernel_rfl
theorem gcells_wrs : Try.prog.cellsOf 73 = 1 := by kernel_rfl
theorem glen2 {α : Type} {l : List α} (h : l.length = 2) : ∃ a b, l = [a, b] := by
  match l, h with
  | [a, b], _ => exact ⟨a, b, rfl⟩
theorem gwr_of_cells {H : Type} {enc : TypeId × Value → H} {W : World} {fuel : Nat} {cs : List Value} {x : DataW H × List MemPlace}
    (hf : DataW.trod enc Try.prog W 0 (fun _ => true) true fuel 117 cs = some x) : ∃ s : Wt, cs = [.int .i64 s.c, .int .i64 s.v] := by
  obtain ⟨xs, m, _, hx, hl, hlen, hfd⟩ := DataW.trod_struct Try.underlying117 hf
  have hl2 : cs.length = 2 := by rw [hl, gcells_wr]
  obtain ⟨c0, c1, rfl⟩ := glen2 hl2
  obtain ⟨y0, y1, rfl⟩ := glen2 hlen
  have g0 := hfd 0 _ rfl
  have g1 := hfd 1 _ rfl
  simp [gcells_int, gcells_i64] at g0 g1
  obtain ⟨a0, z0, _, _⟩ := DataW.trod_int Try.underlying3 g0
  obtain ⟨a1, z1, _, _⟩ := DataW.trod_int Try.underlying2 g1
  simp only [List.cons.injEq, and_true] at z0 z1
  subst z0 z1
  exact ⟨⟨a0, a1⟩, rfl⟩
theorem open_gwrs {H : Type} {enc : TypeId × Value → H} {W : World} {fuel : Nat} {cs : List Value} {x : DataW H × List MemPlace} (hb : Rows.uptoBulk x.1 ≤ 1048576)
    (hf : DataW.trod enc Try.prog W 0 (fun _ => true) true fuel 73 cs = some x) : ∃ v S, cs = [v] ∧ WLst W v S := by
  rcases Go.Deep.open_slice Try.underlying73 hf with ⟨hcs, hx⟩ | ⟨x0, n, c, m, n', D, Pl, hcs, _, hl, hm, hmm, hx, hcell⟩
  · exact ⟨_, [], hcs, none, _, rfl, by simp, Or.inl rfl⟩
  · have hmc : m = c := by simpa using hmm
    subst hmc
    have hn : n ≤ 1048576 := by
      have := gbulk_len ((List.range n).map D)
      rw [hx] at hb
      simp only [Rows.uptoBulk] at hb
      simp at this
      omega
    have hrow : ∀ i, i < n → ∃ s : Wt, (W.cell? (x0.add (i * 2)) = some (.int .i64 s.c) ∧ W.cell? ((x0.add (i * 2)).add 1) = some (.int .i64 s.v)) ∧ x0.block < W.heap.size := fun i hi => by
      obtain ⟨cs', hc, ht⟩ := hcell i (by omega)
      obtain ⟨s, rfl⟩ := gwr_of_cells ht
      rw [gcells_wr] at hc
      have hj : ∀ j, j < 2 → W.cell? ((x0.add (i * 2)).add j) = [Value.int .i64 s.c, .int .i64 s.v][j]? := fun j hj => (World.cells?_some hc).2.2 j hj
      have h0 := hj 0 (by decide)
      rw [add_zero'] at h0
      refine ⟨s, ⟨h0, hj 1 (by decide)⟩, ?_⟩
      have := World.block_lt_of_cell? _ _ (h0.trans (show _ = some (Value.int .i64 s.c) from rfl))
      rwa [add_block] at this
    obtain ⟨S, hSl, hS⟩ := list_choose noWt _ n hrow
    refine ⟨_, S, hcs, some x0, m, by rw [hSl], by omega, ?_⟩
    by_cases h0 : n = 0
    · exact Or.inl (List.length_eq_zero_iff.1 (by omega))
    · exact Or.inr ⟨x0, rfl, (hS 0 (by omega)).2, fun i hi => (hS i (by omega)).1⟩
theorem gturn_of_cells {H : Type} {enc : TypeId × Value → H} {W : World} {fuel : Nat} {cs : List Value} {x : DataW H × List MemPlace} (hb : Rows.uptoBulk x.1 ≤ 1048576)
    (hf : DataW.trod enc Try.prog W 0 (fun _ => true) true fuel 75 cs = some x) : ∃ (s : Tn) (u : Value), cs = [.int .i64 s.k, u] ∧ WLst W u s.l := by
  obtain ⟨xs, m, _, hx, hl, hlen, hfd⟩ := DataW.trod_struct Try.underlying75 hf
  have hl2 : cs.length = 2 := by rw [hl, gcells_turn]
  obtain ⟨c0, c1, rfl⟩ := glen2 hl2
  obtain ⟨y0, y1, rfl⟩ := glen2 hlen
  have g0 := hfd 0 _ rfl
  have g1 := hfd 1 _ rfl
  simp [gcells_int, gcells_wrs] at g0 g1
  obtain ⟨a0, z0, _, _⟩ := DataW.trod_int Try.underlying3 g0
  have hb1 : Rows.uptoBulk y1.1 ≤ 1048576 := by
    rw [hx] at hb
    simp [Rows.uptoBulk, Rows.uptoBulkAll] at hb
    omega
  obtain ⟨v, S, z1, hS⟩ := open_gwrs hb1 g1
  simp only [List.cons.injEq, and_true] at z0 z1
  subst z0 z1
  exact ⟨⟨a0, S⟩, c1, rfl, hS⟩
theorem open_turns {H : Type} {enc : TypeId × Value → H} {W : World} {fuel : Nat} {cs : List Value} {x : DataW H × List MemPlace} (hb : Rows.uptoBulk x.1 ≤ 1048576)
    (hf : DataW.trod enc Try.prog W 0 (fun _ => true) true fuel 64 cs = some x) : ∃ v S, cs = [v] ∧ TnLst W v S := by
  rcases Go.Deep.open_slice Try.underlying64 hf with ⟨hcs, hx⟩ | ⟨x0, n, c, m, n', D, Pl, hcs, _, hl, hm, hmm, hx, hcell⟩
  · exact ⟨_, [], hcs, none, _, rfl, by simp, Or.inl rfl⟩
  · have hmc : m = c := by simpa using hmm
    subst hmc
    have hb2 : Rows.uptoBulkAll ((List.range n).map D) ≤ 1048576 := by
      rw [hx] at hb
      simp only [Rows.uptoBulk] at hb
      omega
    have hn : n ≤ 1048576 := by
      have := gbulk_len ((List.range n).map D)
      simp at this
      omega
    have hrow : ∀ i, i < n → ∃ s : Tn, (W.cell? (x0.add (i * 2)) = some (.int .i64 s.k) ∧ ∃ u, W.cell? ((x0.add (i * 2)).add 1) = some u ∧ WLst W u s.l) ∧ x0.block < W.heap.size := fun i hi => by
      obtain ⟨cs', hc, ht⟩ := hcell i (by omega)
      have hbi : Rows.uptoBulk (D i) ≤ 1048576 := Nat.le_trans (gbulk_mem (List.mem_map.2 ⟨i, List.mem_range.2 hi, rfl⟩)) hb2
      obtain ⟨s, u, rfl, hu⟩ := gturn_of_cells (x := (D i, Pl i)) hbi ht
      rw [gcells_turn] at hc
      have hj : ∀ j, j < 2 → W.cell? ((x0.add (i * 2)).add j) = [Value.int .i64 s.k, u][j]? := fun j hj => (World.cells?_some hc).2.2 j hj
      have h0 := hj 0 (by decide)
      rw [add_zero'] at h0
      refine ⟨s, ⟨h0, u, hj 1 (by decide), hu⟩, ?_⟩
      have := World.block_lt_of_cell? _ _ (h0.trans (show _ = some (Value.int .i64 s.k) from rfl))
      rwa [add_block] at this
    obtain ⟨S, hSl, hS⟩ := list_choose noTn _ n hrow
    refine ⟨_, S, hcs, some x0, m, by rw [hSl], by omega, ?_⟩
    by_cases h0 : n = 0
    · exact Or.inl (List.length_eq_zero_iff.1 (by omega))
    · exact Or.inr ⟨x0, rfl, (hS 0 (by omega)).2, fun i hi => (hS i (by omega)).1⟩
end Go.Proofs.Ytfbbcjlbelnfaaa
