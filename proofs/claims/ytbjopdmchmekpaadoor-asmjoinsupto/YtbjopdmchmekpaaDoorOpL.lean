/- Lists of instructions: as they lie, as they are handed in; Same. -/
import Derived.Test.YtbjopdmchmekpaaDoorCodB
import Derived.Test.YtbjopdmchmekpaaDoorCodP
import Derived.Deep.DeepHandedRow
namespace Go.Proofs.YtbjopdmchmekpaaDoor
open Go.ChangeShapes Go.WideShapes Go.ChangeAt Go.RowKit

def opC (x : Int × Int) : List Value := [.int .i64 x.1, .int .i64 x.2]
def opsC (l : List (Int × Int)) : List Value := l.flatMap opC
theorem opsC_len (l : List (Int × Int)) : (opsC l).length = l.length * 2 := by
  induction l with
  | nil => rfl
  | cons x l ih => simp only [opsC, List.flatMap_cons, List.length_append, List.length_cons] at ih ⊢; rw [ih]; simp [opC]; omega
theorem opsC_snoc (l : List (Int × Int)) (x : Int × Int) : opsC (l ++ [x]) = opsC l ++ [.int .i64 x.1, .int .i64 x.2] := by simp [opsC, opC]
theorem opsC_get (l : List (Int × Int)) (i : Nat) (hi : i < l.length) : (opsC l)[i * 2]? = some (.int .i64 (l.getD i (0, 0)).1) ∧ (opsC l)[i * 2 + 1]? = some (.int .i64 (l.getD i (0, 0)).2) := by
  induction l generalizing i with
  | nil => simp at hi
  | cons x l ih =>
    have e : opsC (x :: l) = opC x ++ opsC l := rfl
    have h2 : (opC x).length = 2 := rfl
    rw [e]
    cases i with
    | zero => exact ⟨rfl, rfl⟩
    | succ i =>
      obtain ⟨h1, h3⟩ := ih i (by simpa using hi)
      rw [List.getElem?_append_right (by omega), List.getElem?_append_right (by omega), h2, show (i + 1) * 2 - 2 = i * 2 by omega, show (i + 1) * 2 + 1 - 2 = i * 2 + 1 by omega, h1, h3]
      simp
/-- A list of instructions lies behind a slice. -/
def OLst (w : World) (v : Value) (l : List (Int × Int)) : Prop := ∃ a cap, v = .slice a l.length cap ∧ l.length ≤ 8796093022208 ∧ (l.length = 0 ∨ ∃ x, a = some x ∧ x.block < w.heap.size ∧ ∀ i, i < l.length →
  w.cell? (x.add (i * 2)) = some (.int .i64 (l.getD i (0, 0)).1) ∧ w.cell? ⟨(x.add (i * 2)).block, (x.add (i * 2)).off + 1, none⟩ = some (.int .i64 (l.getD i (0, 0)).2))
theorem OLst.later {w w' : World} {v : Value} {l : List (Int × Int)} {B : Nat} (h : OLst w v l) (hb : Below B w w') (hB : w.heap.size ≤ B) : OLst w' v l := by
  obtain ⟨a, cap, hv, hm, hl⟩ := h
  refine ⟨a, cap, hv, hm, ?_⟩
  rcases hl with h0 | ⟨x, hx, hxb, hc⟩
  · exact Or.inl h0
  · exact Or.inr ⟨x, hx, Nat.lt_of_lt_of_le hxb hb.size, fun i hi => ⟨cell_later hb (by rw [add_block]; omega) (hc i hi).1, cell_later (a := ⟨(x.add (i * 2)).block, (x.add (i * 2)).off + 1, none⟩) hb (show (x.add (i * 2)).block < B by rw [add_block]; omega) (hc i hi).2⟩⟩
theorem OLst.of_own {w : World} {base : Nat} {v : Value} {l : List (Int × Int)} (h : w.ownsRow base 53 2 v l.length (opsC l)) (hn : l.length ≤ 8796093022208) : OLst w v l := by
  have hc := h
  obtain ⟨_, h⟩ := h
  rcases h with ⟨rfl, h0⟩ | ⟨g, cap, cur, rfl, hg, hb, _⟩
  · exact ⟨none, 0, by rw [h0], hn, Or.inl h0⟩
  · refine ⟨some ⟨g, 0, none⟩, cap, rfl, hn, ?_⟩
    by_cases h0 : l.length = 0
    · exact Or.inl h0
    · refine Or.inr ⟨⟨g, 0, none⟩, rfl, heap_lt hb, fun i hi => ?_⟩
      obtain ⟨h1, h2⟩ := opsC_get l i hi
      have e : (⟨g, 0, none⟩ : Addr).add (i * 2) = ⟨g, i * 2, none⟩ := by unfold Addr.add; split <;> simp_all
      rw [e]
      exact ⟨own_cells hc _ _ h1, own_cells hc _ _ h2⟩

/-! ### lists that are handed in -/
theorem ocells_int : Tryd.prog.cellsOf 3 = 1 := by kernel_rfl
theorem ocells_i64 : Tryd.prog.cellsOf 2 = 1 := by kernel_rfl
theorem ocells_op : Tryd.prog.cellsOf 53 = 2 := by kernel_rfl
theorem obytes_op : Tryd.prog.bytesOf 53 = 16 := by kernel_rfl
theorem olen2 {α : Type} {l : List α} (h : l.length = 2) : ∃ a b, l = [a, b] := by
  match l, h with
  | [a, b], _ => exact ⟨a, b, rfl⟩
theorem op_of_cells {H : Type} {enc : TypeId × Value → H} {W : World} {fuel : Nat} {cs : List Value} {x : DataW H × List MemPlace}
    (hf : DataW.trod enc Tryd.prog W 0 (fun _ => true) true fuel 53 cs = some x) : ∃ a b : Int, cs = [.int .i64 a, .int .i64 b] := by
  obtain ⟨xs, m, _, hx, hl, hlen, hfd⟩ := DataW.trod_struct Tryd.underlying53 hf
  have hl2 : cs.length = 2 := by rw [hl, ocells_op]
  obtain ⟨c0, c1, rfl⟩ := olen2 hl2
  obtain ⟨y0, y1, rfl⟩ := olen2 hlen
  have g0 := hfd 0 _ rfl
  have g1 := hfd 1 _ rfl
  simp [ocells_int, ocells_i64] at g0 g1
  obtain ⟨a0, z0, _, _⟩ := DataW.trod_int Tryd.underlying3 g0
  obtain ⟨a1, z1, _, _⟩ := DataW.trod_int Tryd.underlying2 g1
  simp only [List.cons.injEq, and_true] at z0 z1
  subst z0 z1
  exact ⟨a0, a1, rfl⟩
theorem open_ops {H : Type} {enc : TypeId × Value → H} {W : World} {fuel : Nat} {cs : List Value} {x : DataW H × List MemPlace} (hw : (x.1.weights Tryd.prog 28).all (· ≤ reachBytes) = true)
    (hf : DataW.trod enc Tryd.prog W 0 (fun _ => true) true fuel 28 cs = some x) : ∃ v l, cs = [v] ∧ OLst W v l := by
  rcases Go.Deep.open_slice Tryd.underlying28 hf with ⟨hcs, hx⟩ | ⟨x0, n, c, m, n', D, Pl, hcs, _, hl, hm, hmm, hx, hcell⟩
  · exact ⟨_, [], hcs, none, _, rfl, by simp, Or.inl rfl⟩
  · have hmc : m = c := by simpa using hmm
    subst hmc
    have hlen : n ≤ 8796093022208 := by
      rw [hx] at hw
      simp only [DataW.weights, Tryd.underlying28, List.all_cons, Bool.and_eq_true, decide_eq_true_eq, obytes_op, List.length_map, List.length_range] at hw
      have := hw.1
      unfold reachBytes at this
      omega
    have hrow : ∀ i, i < n → ∃ r : Int × Int, (W.cell? (x0.add (i * 2)) = some (.int .i64 r.1) ∧ W.cell? ⟨(x0.add (i * 2)).block, (x0.add (i * 2)).off + 1, none⟩ = some (.int .i64 r.2)) ∧ x0.block < W.heap.size := fun i hi => by
      obtain ⟨cs', hc, ht⟩ := hcell i (by omega)
      obtain ⟨a, b, rfl⟩ := op_of_cells ht
      rw [ocells_op] at hc
      have hj := (World.cells?_some hc).2.2
      have hb0 : W.cell? ((x0.add (i * 2)).add 0) = some (.int .i64 a) := by rw [hj 0 (by decide)]; simp
      have hb1 : W.cell? ((x0.add (i * 2)).add 1) = some (.int .i64 b) := by rw [hj 1 (by decide)]; simp
      rw [add_zero'] at hb0
      rw [add_pos' _ _ (by decide)] at hb1
      refine ⟨(a, b), ⟨hb0, hb1⟩, ?_⟩
      have := World.block_lt_of_cell? _ _ hb0
      rwa [add_block] at this
    obtain ⟨S, hSl, hS⟩ := list_choose ((0 : Int), (0 : Int)) _ n hrow
    refine ⟨_, S, hcs, some x0, m, by rw [hSl], by omega, ?_⟩
    by_cases h0 : n = 0
    · exact Or.inl (by omega)
    · exact Or.inr ⟨x0, rfl, (hS 0 (by omega)).2, fun i hi => (hS i (by omega)).1⟩
set_option maxRecDepth 100000 in
theorem ops_arg {H : Type} {enc : TypeId × Value → H} {W : World} {base : Nat} {v : Value} {d : DataW H} {p : List MemPlace} (hw : (d.weights Tryd.prog 28).all (· ≤ reachBytes) = true)
    (hv : Value.okWide Tryd.prog W .any base 28 v) (h : DataW.Trod enc Tryd.prog W 0 (fun _ => true) true 28 v d p) : ∃ l, OLst W v l := by
  obtain ⟨a, len, cap, rfl⟩ := okWide_slice Tryd.underlying28 hv
  obtain ⟨fuel, hf⟩ := h
  obtain ⟨v', l, hc, hS⟩ := open_ops hw hf
  simp [Value.cells] at hc
  subst hc
  exact ⟨l, hS⟩

/-! ### Same -/
theorem take_ne {l m : List (Int × Int)} {i : Nat} (h1 : i < l.length) (h2 : i < m.length) (h : l.take i = m.take i) (hx : l.getD i (0, 0) = m.getD i (0, 0)) : l.take (i + 1) = m.take (i + 1) := by
  rw [List.take_succ_eq_append_getElem h1, List.take_succ_eq_append_getElem h2, h]
  simp [List.getD, h1, h2] at hx
  rw [hx]