/- The four kinds' sizes, the program's and the document's. -/
import Derived.Test.YtgbmnngmfcneaaaPcM
namespace Go.Proofs.Ytgbmnngmfcneaaa.Pc
open Go.ChangeShapes Go.WideShapes Go.ChangeAt Go.RowKit
attribute [local go_sem ↓] Go.wp_at_zero Go.wp_at_succ

def capB (m : Int) : Bool := decide (0 ≤ m) && decide (m ≤ 16)
theorem capB_yes {m : Int} (h : capB m = true) : 0 ≤ m ∧ m ≤ 16 := by simpa [capB] using h
theorem capR (w : World) (m : Int) : Calls Try.prog 71 #[.int .i64 m] w fun e w' => e = .returned (.bool (capB m)) ∧ w' = w := by
  unfold capB
  cases h : decide (0 ≤ m) with
  | false =>
    go_enter Try.func71, Try.ntmps71
    go_wp2
    go_ret
    exact ⟨by simp, rfl⟩
  | true =>
    cases h2 : decide (m ≤ 16) with
    | false =>
      go_enter Try.func71, Try.ntmps71
      go_wp2
      go_ret
      exact ⟨by simp, rfl⟩
    | true =>
      go_enter Try.func71, Try.ntmps71
      go_wp2
      go_ret
      exact ⟨by simp, rfl⟩
theorem rs15 (w : World) {m : Int} (h : capB m = true) : Calls Try.prog 72 #[.int .i64 m] w fun e w' => e = .returned (.int .i64 (m)) ∧ w' = w := by
  have HC : Hid (∀ w : World, Calls Try.prog 71 #[.int .i64 m] w fun e w' => e = .returned (.bool (capB m)) ∧ w' = w) := fun w => capR w m
  rw [h] at HC
  clear h
  go_enter Try.func72, Try.ntmps72
  go_wp2_with fail
  refine (HC.out _).mono ?_
  rintro e w1 ⟨rfl, rfl⟩
  go_wp2_with fail
  go_ret
  exact ⟨rfl, rfl⟩
theorem rs16 (w : World) {m : Int} (h : capB m = true) : Calls Try.prog 73 #[.int .i64 m] w fun e w' => e = .returned (.int .i64 (m + 2)) ∧ w' = w := by
  have HC : Hid (∀ w : World, Calls Try.prog 71 #[.int .i64 m] w fun e w' => e = .returned (.bool (capB m)) ∧ w' = w) := fun w => capR w m
  have hm := capB_yes h
  have HW : Hid (wrap64 (m + 2) = m + 2) := by have : wrap64 (m + 2) = m + 2 := (by unfold wrap64; omega); exact this
  clear hm
  rw [h] at HC
  clear h
  go_enter Try.func73, Try.ntmps73
  go_wp2_with fail
  refine (HC.out _).mono ?_
  rintro e w1 ⟨rfl, rfl⟩
  go_wp2_with fail
  go_ret
  exact ⟨by show Ending.returned (.int .i64 (wrap64 (m + 2))) = _; rw [HW.out], rfl⟩
theorem rs17 (w : World) {m : Int} (h : capB m = true) : Calls Try.prog 74 #[.int .i64 m] w fun e w' => e = .returned (.int .i64 (3 * m + 1)) ∧ w' = w := by
  have HC : Hid (∀ w : World, Calls Try.prog 71 #[.int .i64 m] w fun e w' => e = .returned (.bool (capB m)) ∧ w' = w) := fun w => capR w m
  have hm := capB_yes h
  have HW : Hid (wrap64 (wrap64 (3 * m) + 1) = 3 * m + 1) := by have : wrap64 (wrap64 (3 * m) + 1) = 3 * m + 1 := (by unfold wrap64; omega); exact this
  clear hm
  rw [h] at HC
  clear h
  go_enter Try.func74, Try.ntmps74
  go_wp2_with fail
  refine (HC.out _).mono ?_
  rintro e w1 ⟨rfl, rfl⟩
  go_wp2_with fail
  go_ret
  exact ⟨by show Ending.returned (.int .i64 (wrap64 (wrap64 (3 * m) + 1))) = _; rw [HW.out], rfl⟩
theorem rs18 (w : World) {m : Int} (h : capB m = true) : Calls Try.prog 75 #[.int .i64 m] w fun e w' => e = .returned (.int .i64 (2 * m + 3)) ∧ w' = w := by
  have HC : Hid (∀ w : World, Calls Try.prog 71 #[.int .i64 m] w fun e w' => e = .returned (.bool (capB m)) ∧ w' = w) := fun w => capR w m
  have hm := capB_yes h
  have HW : Hid (wrap64 (wrap64 (2 * m) + 3) = 2 * m + 3) := by have : wrap64 (wrap64 (2 * m) + 3) = 2 * m + 3 := (by unfold wrap64; omega); exact this
  clear hm
  rw [h] at HC
  clear h
  go_enter Try.func75, Try.ntmps75
  go_wp2_with fail
  refine (HC.out _).mono ?_
  rintro e w1 ⟨rfl, rfl⟩
  go_wp2_with fail
  go_ret
  exact ⟨by show Ending.returned (.int .i64 (wrap64 (wrap64 (2 * m) + 3))) = _; rw [HW.out], rfl⟩