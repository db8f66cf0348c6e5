/- A list of numbers behind a slice, the signature of a list of cells, and what the program's Of answers. -/
import Derived.Test.YtbmmicfdnfpcaaaSigP
import Derived.Test.YtbmmicfdnfpcaaaSigR
namespace Go.Proofs.Ytbmmicfdnfpcaaa.Sg
open Go.ChangeShapes Go.WideShapes Go.ChangeAt Go.RowKit

/-- A list of numbers lies behind a slice. -/
def Lst (w : World) (v : Value) (l : List Int) : Prop := ∃ a cap, v = .slice a l.length cap ∧ l.length ≤ 9223372036854775807 ∧ (l = [] ∨ ∃ x, a = some x ∧ ∀ i, i < l.length → w.cell? (x.add i) = some (.int .i64 (l.getD i 0)))
theorem Lst.later {w w' : World} {v : Value} {l : List Int} (h : Lst w v l) (hb : Below w.heap.size w w') : Lst w' v l := by
  obtain ⟨a, cap, hv, hm, hl⟩ := h
  refine ⟨a, cap, hv, hm, ?_⟩
  rcases hl with h0 | ⟨x, hx, hc⟩
  · exact Or.inl h0
  · exact Or.inr ⟨x, hx, fun i hi => cell_later hb (hc i hi)⟩
theorem add_at (g i : Nat) : (⟨g, 0, none⟩ : Addr).add i = ⟨g, i, none⟩ := by unfold Addr.add; split <;> simp_all

/-! ### the signature of a list of cells -/
def ofTo (l : List Int) (i : Nat) : List Nat := (l.take i).foldl (fun s c => put s (sigN c)) nought
def ofAll (l : List Int) : List Nat := l.foldl (fun s c => put s (sigN c)) nought
theorem ofTo_zero (l : List Int) : ofTo l 0 = nought := rfl
theorem ofTo_all (l : List Int) : ofTo l l.length = ofAll l := by unfold ofTo ofAll; rw [List.take_length]
theorem ofTo_succ (l : List Int) (i : Nat) (h : i < l.length) : ofTo l (i + 1) = put (ofTo l i) (sigN (l.getD i 0)) := by
  unfold ofTo
  rw [List.take_add_one, List.foldl_append]
  simp [h]
theorem ok_ofTo (l : List Int) (i : Nat) : Ok (ofTo l i) := by
  unfold ofTo
  generalize l.take i = m
  suffices h : ∀ (m : List Int) (s : List Nat), Ok s → Ok (m.foldl (fun s c => put s (sigN c)) s) from h m nought ok_nought
  intro m
  induction m with
  | nil => intro s hs; exact hs
  | cons c m ih => intro s hs; exact ih _ (ok_put hs _ (sigN_lt c))
theorem ok_ofAll (l : List Int) : Ok (ofAll l) := by rw [← ofTo_all]; exact ok_ofTo _ _

/-- Two rows, one behind the other. -/
def Two (b : Nat) (w : World) (c0 c1 : Array Value) : Prop := w.heap[b]? = some (.cells c0 57 (0, 0)) ∧ w.heap[b + 1]? = some (.cells c1 57 (0, 0))
theorem Two.later {b : Nat} {w w' : World} {c0 c1 : Array Value} (h : Two b w c0 c1) (hb : Below w.heap.size w w') : Two b w' c0 c1 := ⟨row_later h.1 hb, row_later h.2 hb⟩
theorem Two.set1 {b : Nat} {w : World} {c0 c1 : Array Value} (h : Two b w c0 c1) (c : Array Value) : Two b (w.setRow (b + 1) c) c0 c :=
  ⟨by rw [setRow_other _ _ _ _ (by omega)]; exact h.1, setRow_heap _ _ _ _ _ _ h.2⟩
theorem Two.new (w : World) (c0 c1 : Array Value) : Two w.heap.size ((w.alloc (.cells c0 57)).alloc (.cells c1 57)) c0 c1 :=
  ⟨heap_alloc2_old _ _ _, heap_alloc2_new _ _ _⟩

theorem below_undrew {w w' : World} (h : Below w.drew.heap.size w.drew w') : Below w.heap.size w w' := ⟨h.os, h.tape, h.output, h.size, h.block⟩
end Go.Proofs.Ytbmmicfdnfpcaaa.Sg