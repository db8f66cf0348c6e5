/- One of the transactions that a call tells. -/
import Derived.Test.YtadollckekddgaaDoorHiL
namespace Go.Proofs.YtadollckekddgaaDoor.Hi
open Go.ChangeShapes Go.WideShapes Go.ChangeAt Go.RowKit
set_option linter.unusedVariables false

theorem t6s_get (l : List Tr) (i j : Nat) (hi : i < l.length) (hj : j < 6) : (t6s l)[i * 6 + j]? = (t6 (nt l i))[j]? := by
  induction l generalizing i with
  | nil => simp at hi
  | cons e l ih =>
    show (t6 e ++ t6s l)[i * 6 + j]? = _
    have h6 : (t6 e).length = 6 := rfl
    cases i with
    | zero => rw [List.getElem?_append_left (by omega)]; simp [nt]
    | succ i =>
      rw [List.getElem?_append_right (by omega), h6, show (i + 1) * 6 + j - 6 = i * 6 + j by omega, ih i (by simpa using hi)]
      simp [nt]
/-- One of the transactions, as a walk asks for its cells. -/
theorem row6 {w : World} {B : Nat} {sa : Option Addr} {cap n : Nat} {L : List Tr} (h : w.ownsRow B 33 6 (.slice sa n cap) n (t6s L)) (hn : L.length = n) {q : Nat} (hq : q < n) :
    ∃ g, sa = some ⟨g, 0, none⟩ ∧ B ≤ g ∧ g < w.heap.size ∧ ∀ j, j < 6 → w.cell? ⟨g, q * 6 + j, none⟩ = (t6 (nt L q))[j]? := by
  have h0 := h
  rcases h.2 with ⟨_, e⟩ | ⟨g, cap', cur, e, hb, hg, _⟩
  · omega
  · simp at e
    refine ⟨g, e.1, hb, heap_lt hg, fun j hj => ?_⟩
    rw [e.1] at h0
    have hlt : q * 6 + j < (t6s L).length := by rw [t6s_len, hn]; omega
    rw [← t6s_get L q j (by omega) hj, List.getElem?_eq_getElem hlt]
    exact own_cells h0 (q * 6 + j) _ (List.getElem?_eq_getElem hlt)
end Go.Proofs.YtadollckekddgaaDoor.Hi
