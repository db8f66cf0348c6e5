/- Base and Cells: the program's. -/
import Derived.Test.YtgbmnngmfcneaaaPcC
namespace Go.Proofs.Ytgbmnngmfcneaaa.Pc
open Go.ChangeShapes Go.WideShapes Go.ChangeAt Go.RowKit
attribute [local go_sem ↓] Go.wp_at_zero Go.wp_at_succ

theorem sum_bd {R : List Rg} {p : Int} {j : Nat} (hp : 0 ≤ p ∧ p ≤ 64) (h8 : R.length ≤ 8) (hj : j < R.length) : wrap64 (p + sumV (R.take j) + szV (nthR R j)) = p + sumV (R.take (j + 1)) := by
  have h1 := sum_le (R.take (j + 1))
  have h2 : (R.take (j + 1)).length ≤ 8 := by simp; omega
  rw [sum_take hj] at h1 ⊢
  unfold wrap64
  omega
def Two (x : Int × Int) (w : World) : Ending → World → Prop := fun e w' => e = .returned (.tuple #[.int .i64 x.1, .int .i64 x.2]) ∧ Below w.heap.size w w'