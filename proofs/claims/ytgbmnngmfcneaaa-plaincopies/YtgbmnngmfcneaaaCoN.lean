/- A list in memory of its own: the law's numbers. -/
import Derived.Test.YtgbmnngmfcneaaaCoR
namespace Go.Proofs.Ytgbmnngmfcneaaa
open Go.ChangeShapes Go.WideShapes Go.ChangeAt Go.RowKit
attribute [local go_sem ↓] Go.wp_at_zero Go.wp_at_succ

theorem num_snoc (l : List Int) (j : Nat) (h : j < l.length) : numC (l.take (j + 1)) = numC (l.take j) ++ [.int .i64 (nth l j)] := by
  rw [List.take_succ_eq_append_getElem h, numC_snoc, nth_at h]