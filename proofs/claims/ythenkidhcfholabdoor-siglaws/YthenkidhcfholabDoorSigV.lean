/- What the document's answer tells of unions and meets. -/
import Derived.Test.YthenkidhcfholabDoorSigR
import Derived.Test.YthenkidhcfholabDoorSigE
namespace Go.Proofs.YthenkidhcfholabDoor
open Go.ChangeShapes Go.WideShapes Go.ChangeAt Go.RowKit

/-- A row of a block, later. -/
theorem row_later {w w' : World} {b : Nat} {o : Obj} (h : w.heap[b]? = some o) (hb : Below w.heap.size w w') : w'.heap[b]? = some o := by
  rw [hb.block b (Array.getElem?_eq_some_iff.1 h).1, h]

/-- The cells of a row of eight. -/
theorem row_cells {w : World} {b : Nat} {t : TypeId} {cs : Array Value} (h : w.heap[b]? = some (.cells cs t (0, 0))) (hz : cs.size = 8) :
    w.cell? ⟨b, 0, none⟩ = some (cs[0]'(by omega)) ∧ w.cell? ⟨b, 1, none⟩ = some (cs[1]'(by omega)) ∧ w.cell? ⟨b, 2, none⟩ = some (cs[2]'(by omega)) ∧ w.cell? ⟨b, 3, none⟩ = some (cs[3]'(by omega)) ∧
    w.cell? ⟨b, 4, none⟩ = some (cs[4]'(by omega)) ∧ w.cell? ⟨b, 5, none⟩ = some (cs[5]'(by omega)) ∧ w.cell? ⟨b, 6, none⟩ = some (cs[6]'(by omega)) ∧ w.cell? ⟨b, 7, none⟩ = some (cs[7]'(by omega)) := by
  simp [cell_of_row _ _ _ _ _ _ h, hz]

/-- Four rows, one behind the other, from a place on. -/
def Four (b : Nat) (w : World) (c0 c1 c2 c3 : Array Value) : Prop :=
  w.heap[b]? = some (.cells c0 24 (0, 0)) ∧ w.heap[b + 1]? = some (.cells c1 24 (0, 0)) ∧ w.heap[b + 1 + 1]? = some (.cells c2 24 (0, 0)) ∧ w.heap[b + 1 + 1 + 1]? = some (.cells c3 24 (0, 0))
theorem Four.later {b : Nat} {w w' : World} {c0 c1 c2 c3 : Array Value} (h : Four b w c0 c1 c2 c3) (hb : Below w.heap.size w w') : Four b w' c0 c1 c2 c3 :=
  ⟨row_later h.1 hb, row_later h.2.1 hb, row_later h.2.2.1 hb, row_later h.2.2.2 hb⟩
theorem Four.set3 {b : Nat} {w : World} {c0 c1 c2 c3 : Array Value} (h : Four b w c0 c1 c2 c3) (c : Array Value) : Four b (w.setRow (b + 1 + 1 + 1) c) c0 c1 c2 c :=
  ⟨by rw [setRow_other _ _ _ _ (by omega)]; exact h.1, by rw [setRow_other _ _ _ _ (by omega)]; exact h.2.1, by rw [setRow_other _ _ _ _ (by omega)]; exact h.2.2.1, setRow_heap _ _ _ _ _ _ h.2.2.2⟩
theorem Four.new (w : World) (c0 c1 c2 c3 : Array Value) : Four w.heap.size ((((w.alloc (.cells c0 24)).alloc (.cells c1 24)).alloc (.cells c2 24)).alloc (.cells c3 24)) c0 c1 c2 c3 := by
  refine ⟨?_, ?_, ?_, ?_⟩
  · rw [Below.heap_alloc _ _ _ (by simp; omega), Below.heap_alloc _ _ _ (by simp; omega), Below.heap_alloc _ _ _ (by simp)]; exact heap_alloc_new _ _
  · rw [Below.heap_alloc _ _ _ (by simp)]; exact row_3_1 _ _ _ _
  · rw [Below.heap_alloc _ _ _ (by simp)]; exact row_3_2 _ _ _ _
  · have := row_3_2 (w.alloc (.cells c0 24)) (.cells c1 24) (.cells c2 24) (.cells c3 24); simpa using this
