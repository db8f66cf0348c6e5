/- The laws' comparisons of numbers. -/
import Derived.Test.YtadollckekddgaaDoorHiIc
namespace Go.Proofs.YtadollckekddgaaDoor.Hi
open Go.ChangeShapes Go.WideShapes Go.ChangeAt Go.RowKit
set_option linter.unusedVariables false
theorem same_ni {a b : List Int} (hl : a.length = b.length) (h : ∀ j, j < a.length → ni a j = ni b j) : a = b := by
  apply List.ext_getElem hl
  intro i h1 h2
  rw [← ni_get h1, ← ni_get h2]
  exact h i h1
theorem il_cells {w : World} {v : Value} {l : List Int} (h : IL w v l) : ∃ a cap, v = .slice a l.length cap ∧ l.length ≤ 17592186044416 ∧ ∀ i, i < l.length → ∃ x, a = some x ∧ x.block < w.heap.size ∧ w.cell? (x.add i) = some (.int .i64 (ni l i)) := by
  obtain ⟨a, cap, rfl, hm, _, _, _, hl⟩ := h
  refine ⟨a, cap, rfl, hm, fun i hi => ?_⟩
  obtain ⟨x, h1, h2, h3⟩ := hl.resolve_left (by omega)
  exact ⟨x, h1, h2, h3 i hi⟩