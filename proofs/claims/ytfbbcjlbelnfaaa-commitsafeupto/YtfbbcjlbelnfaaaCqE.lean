/- CheckElse walked. -/
import Derived.Test.YtfbbcjlbelnfaaaCqS
namespace Go.Proofs.Ytfbbcjlbelnfaaa
open Go.ChangeShapes Go.WideShapes Go.ChangeAt Go.RowKit
attribute [local go_sem ↓] Go.wp_at_zero Go.wp_at_succ

def takesK (s z : Int) : Bool := decide (1 ≤ s) && decide (s ≤ 16) && decide (0 ≤ z)
theorem ctakes_any (s z : Int) (w : World) : Calls Try.prog 27 #[.int .i64 s, .int .i64 z] w fun e w' => e = .returned (.bool (takesK s z)) ∧ w' = w := by
  unfold takesK
  by_cases h1 : 1 ≤ s
  · have d1 : decide (1 ≤ s) = true := decide_eq_true h1
    by_cases h2 : s ≤ 16
    · have d2 : decide (s ≤ 16) = true := decide_eq_true h2
      rw [d1, d2]
      clear h1 h2
      go_enter Try.func27, Try.ntmps27
      go_wp2
      go_ret
      exact ⟨rfl, rfl⟩
    · have d2 : decide (s ≤ 16) = false := decide_eq_false h2
      rw [d1, d2]
      clear h1 h2
      go_enter Try.func27, Try.ntmps27
      go_wp2
      go_ret
      exact ⟨rfl, rfl⟩
  · have d1 : decide (1 ≤ s) = false := decide_eq_false h1
    rw [d1]
    clear h1
    go_enter Try.func27, Try.ntmps27
    go_wp2
    go_ret
    exact ⟨rfl, rfl⟩
def elC (s z : Int) (rd : List Nat) (r : Int) : Array Value := #[.int .i64 s, .int .i64 z, rdV rd 0, rdV rd 1, rdV rd 2, rdV rd 3, rdV rd 4, rdV rd 5, rdV rd 6, rdV rd 7, .int .i64 r]