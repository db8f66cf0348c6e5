/- The four kinds' sizes, the program's and the document's. -/
import Derived.Test.YtceogkgnapdeiaaPcM
namespace Go.Proofs.Ytceogkgnapdeiaa.Pc
open Go.ChangeShapes Go.WideShapes Go.ChangeAt Go.RowKit
attribute [local go_sem ↓] Go.wp_at_zero Go.wp_at_succ

def capB (m : Int) : Bool := decide (0 ≤ m) && decide (m ≤ 16)
theorem capB_yes {m : Int} (h : capB m = true) : 0 ≤ m ∧ m ≤ 16 := by simpa [capB] using h
theorem cap15 (w : World) (m : Int) : Calls Try.prog 34 #[.int .i64 m] w fun e w' => e = .returned (.bool (capB m)) ∧ w' = w := by
  unfold capB
  cases h : decide (0 ≤ m) with
  | false =>
    go_enter Try.func34, Try.ntmps34
    go_wp2
    go_ret
    exact ⟨by simp, rfl⟩
  | true =>
    cases h2 : decide (m ≤ 16) with
    | false =>
      go_enter Try.func34, Try.ntmps34
      go_wp2
      go_ret
      exact ⟨by simp, rfl⟩
    | true =>
      go_enter Try.func34, Try.ntmps34
      go_wp2
      go_ret
      exact ⟨by simp, rfl⟩
theorem cap16 (w : World) (m : Int) : Calls Try.prog 35 #[.int .i64 m] w fun e w' => e = .returned (.bool (capB m)) ∧ w' = w := by
  unfold capB
  cases h : decide (0 ≤ m) with
  | false =>
    go_enter Try.func35, Try.ntmps35
    go_wp2
    go_ret
    exact ⟨by simp, rfl⟩
  | true =>
    cases h2 : decide (m ≤ 16) with
    | false =>
      go_enter Try.func35, Try.ntmps35
      go_wp2
      go_ret
      exact ⟨by simp, rfl⟩
    | true =>
      go_enter Try.func35, Try.ntmps35
      go_wp2
      go_ret
      exact ⟨by simp, rfl⟩
theorem cap17 (w : World) (m : Int) : Calls Try.prog 36 #[.int .i64 m] w fun e w' => e = .returned (.bool (capB m)) ∧ w' = w := by
  unfold capB
  cases h : decide (0 ≤ m) with
  | false =>
    go_enter Try.func36, Try.ntmps36
    go_wp2
    go_ret
    exact ⟨by simp, rfl⟩
  | true =>
    cases h2 : decide (m ≤ 16) with
    | false =>
      go_enter Try.func36, Try.ntmps36
      go_wp2
      go_ret
      exact ⟨by simp, rfl⟩
    | true =>
      go_enter Try.func36, Try.ntmps36
      go_wp2
      go_ret
      exact ⟨by simp, rfl⟩
theorem cap18 (w : World) (m : Int) : Calls Try.prog 37 #[.int .i64 m] w fun e w' => e = .returned (.bool (capB m)) ∧ w' = w := by
  unfold capB
  cases h : decide (0 ≤ m) with
  | false =>
    go_enter Try.func37, Try.ntmps37
    go_wp2
    go_ret
    exact ⟨by simp, rfl⟩
  | true =>
    cases h2 : decide (m ≤ 16) with
    | false =>
      go_enter Try.func37, Try.ntmps37
      go_wp2
      go_ret
      exact ⟨by simp, rfl⟩
    | true =>
      go_enter Try.func37, Try.ntmps37
      go_wp2
      go_ret
      exact ⟨by simp, rfl⟩
theorem capR (w : World) (m : Int) : Calls Try.prog 20 #[.int .i64 m] w fun e w' => e = .returned (.bool (capB m)) ∧ w' = w := by
  unfold capB
  cases h : decide (0 ≤ m) with
  | false =>
    go_enter Try.func20, Try.ntmps20
    go_wp2
    go_ret
    exact ⟨by simp, rfl⟩
  | true =>
    cases h2 : decide (m ≤ 16) with
    | false =>
      go_enter Try.func20, Try.ntmps20
      go_wp2
      go_ret
      exact ⟨by simp, rfl⟩
    | true =>
      go_enter Try.func20, Try.ntmps20
      go_wp2
      go_ret
      exact ⟨by simp, rfl⟩
theorem keyof19 (w : World) {m : Int} (h : capB m = true) : Calls Try.prog 40 #[.int .i64 m] w fun e w' => e = .returned (.int .i64 (2 * m + 1)) ∧ w' = w := by
  have hm := capB_yes h
  have HW : Hid (wrap64 (1 + wrap64 (2 * m)) = 2 * m + 1) := by have : wrap64 (1 + wrap64 (2 * m)) = 2 * m + 1 := (by unfold wrap64; omega); exact this
  clear hm h
  go_enter Try.func40, Try.ntmps40
  go_wp2_with fail
  go_ret
  exact ⟨by rw [← HW.out]; rfl, rfl⟩
theorem nextof19 (w : World) {m : Int} (h : capB m = true) : Calls Try.prog 38 #[.int .i64 m] w fun e w' => e = .returned (.int .i64 (2 * m + 2)) ∧ w' = w := by
  have HK : Hid (∀ w : World, Calls Try.prog 40 #[.int .i64 m] w fun e w' => e = .returned (.int .i64 (2 * m + 1)) ∧ w' = w) := fun w => keyof19 w h
  have hm := capB_yes h
  have HW : Hid (wrap64 ((2 * m + 1) + 1) = 2 * m + 2) := by have : wrap64 ((2 * m + 1) + 1) = 2 * m + 2 := (by unfold wrap64; omega); exact this
  clear hm h
  generalize 2 * m + 1 = y at *
  go_enter Try.func38, Try.ntmps38
  go_wp2_with fail
  refine (HK.out _).mono ?_
  rintro e w1 ⟨rfl, rfl⟩
  go_wp2_with fail
  go_ret
  exact ⟨by rw [← HW.out]; rfl, rfl⟩
theorem sz15 (w : World) {m : Int} (h : capB m = true) : Calls Try.prog 29 #[.int .i64 m] w fun e w' => e = .returned (.int .i64 (m)) ∧ w' = w := by
  have HC : Hid (∀ w : World, Calls Try.prog 34 #[.int .i64 m] w fun e w' => e = .returned (.bool (capB m)) ∧ w' = w) := fun w => cap15 w m
  rw [h] at HC
  clear h
  go_enter Try.func29, Try.ntmps29
  go_wp2_with fail
  refine (HC.out _).mono ?_
  rintro e w1 ⟨rfl, rfl⟩
  go_wp2_with fail
  go_ret
  exact ⟨rfl, rfl⟩
theorem rs15 (w : World) {m : Int} (h : capB m = true) : Calls Try.prog 21 #[.int .i64 m] w fun e w' => e = .returned (.int .i64 (m)) ∧ w' = w := by
  have HC : Hid (∀ w : World, Calls Try.prog 20 #[.int .i64 m] w fun e w' => e = .returned (.bool (capB m)) ∧ w' = w) := fun w => capR w m
  rw [h] at HC
  clear h
  go_enter Try.func21, Try.ntmps21
  go_wp2_with fail
  refine (HC.out _).mono ?_
  rintro e w1 ⟨rfl, rfl⟩
  go_wp2_with fail
  go_ret
  exact ⟨rfl, rfl⟩
theorem sz16 (w : World) {m : Int} (h : capB m = true) : Calls Try.prog 30 #[.int .i64 m] w fun e w' => e = .returned (.int .i64 (m + 2)) ∧ w' = w := by
  have HC : Hid (∀ w : World, Calls Try.prog 35 #[.int .i64 m] w fun e w' => e = .returned (.bool (capB m)) ∧ w' = w) := fun w => cap16 w m
  have hm := capB_yes h
  have HW : Hid (wrap64 (2 + m) = m + 2) := by have : wrap64 (2 + m) = m + 2 := (by unfold wrap64; omega); exact this
  clear hm
  rw [h] at HC
  clear h
  go_enter Try.func30, Try.ntmps30
  go_wp2_with fail
  refine (HC.out _).mono ?_
  rintro e w1 ⟨rfl, rfl⟩
  go_wp2_with fail
  go_ret
  exact ⟨by show Ending.returned (.int .i64 (wrap64 (2 + m))) = _; rw [HW.out], rfl⟩
theorem rs16 (w : World) {m : Int} (h : capB m = true) : Calls Try.prog 22 #[.int .i64 m] w fun e w' => e = .returned (.int .i64 (m + 2)) ∧ w' = w := by
  have HC : Hid (∀ w : World, Calls Try.prog 20 #[.int .i64 m] w fun e w' => e = .returned (.bool (capB m)) ∧ w' = w) := fun w => capR w m
  have hm := capB_yes h
  have HW : Hid (wrap64 (m + 2) = m + 2) := by have : wrap64 (m + 2) = m + 2 := (by unfold wrap64; omega); exact this
  clear hm
  rw [h] at HC
  clear h
  go_enter Try.func22, Try.ntmps22
  go_wp2_with fail
  refine (HC.out _).mono ?_
  rintro e w1 ⟨rfl, rfl⟩
  go_wp2_with fail
  go_ret
  exact ⟨by show Ending.returned (.int .i64 (wrap64 (m + 2))) = _; rw [HW.out], rfl⟩
theorem sz17 (w : World) {m : Int} (h : capB m = true) : Calls Try.prog 31 #[.int .i64 m] w fun e w' => e = .returned (.int .i64 (3 * m + 1)) ∧ w' = w := by
  have HC : Hid (∀ w : World, Calls Try.prog 36 #[.int .i64 m] w fun e w' => e = .returned (.bool (capB m)) ∧ w' = w) := fun w => cap17 w m
  have hm := capB_yes h
  have HW : Hid (wrap64 (1 + wrap64 (3 * m)) = 3 * m + 1) := by have : wrap64 (1 + wrap64 (3 * m)) = 3 * m + 1 := (by unfold wrap64; omega); exact this
  clear hm
  rw [h] at HC
  clear h
  go_enter Try.func31, Try.ntmps31
  go_wp2_with fail
  refine (HC.out _).mono ?_
  rintro e w1 ⟨rfl, rfl⟩
  go_wp2_with fail
  go_ret
  exact ⟨by show Ending.returned (.int .i64 (wrap64 (1 + wrap64 (3 * m)))) = _; rw [HW.out], rfl⟩
theorem rs17 (w : World) {m : Int} (h : capB m = true) : Calls Try.prog 23 #[.int .i64 m] w fun e w' => e = .returned (.int .i64 (3 * m + 1)) ∧ w' = w := by
  have HC : Hid (∀ w : World, Calls Try.prog 20 #[.int .i64 m] w fun e w' => e = .returned (.bool (capB m)) ∧ w' = w) := fun w => capR w m
  have hm := capB_yes h
  have HW : Hid (wrap64 (wrap64 (3 * m) + 1) = 3 * m + 1) := by have : wrap64 (wrap64 (3 * m) + 1) = 3 * m + 1 := (by unfold wrap64; omega); exact this
  clear hm
  rw [h] at HC
  clear h
  go_enter Try.func23, Try.ntmps23
  go_wp2_with fail
  refine (HC.out _).mono ?_
  rintro e w1 ⟨rfl, rfl⟩
  go_wp2_with fail
  go_ret
  exact ⟨by show Ending.returned (.int .i64 (wrap64 (wrap64 (3 * m) + 1))) = _; rw [HW.out], rfl⟩
theorem rs18 (w : World) {m : Int} (h : capB m = true) : Calls Try.prog 24 #[.int .i64 m] w fun e w' => e = .returned (.int .i64 (2 * m + 3)) ∧ w' = w := by
  have HC : Hid (∀ w : World, Calls Try.prog 20 #[.int .i64 m] w fun e w' => e = .returned (.bool (capB m)) ∧ w' = w) := fun w => capR w m
  have hm := capB_yes h
  have HW : Hid (wrap64 (wrap64 (2 * m) + 3) = 2 * m + 3) := by have : wrap64 (wrap64 (2 * m) + 3) = 2 * m + 3 := (by unfold wrap64; omega); exact this
  clear hm
  rw [h] at HC
  clear h
  go_enter Try.func24, Try.ntmps24
  go_wp2_with fail
  refine (HC.out _).mono ?_
  rintro e w1 ⟨rfl, rfl⟩
  go_wp2_with fail
  go_ret
  exact ⟨by show Ending.returned (.int .i64 (wrap64 (wrap64 (2 * m) + 3))) = _; rw [HW.out], rfl⟩
theorem sz18 (w : World) {m : Int} (h : capB m = true) : Calls Try.prog 32 #[.int .i64 m] w fun e w' => e = .returned (.int .i64 (2 * m + 3)) ∧ w' = w := by
  have HC : Hid (∀ w : World, Calls Try.prog 37 #[.int .i64 m] w fun e w' => e = .returned (.bool (capB m)) ∧ w' = w) := fun w => cap18 w m
  have HN : Hid (∀ w : World, Calls Try.prog 38 #[.int .i64 m] w fun e w' => e = .returned (.int .i64 (2 * m + 2)) ∧ w' = w) := fun w => nextof19 w h
  have hm := capB_yes h
  have HW : Hid (wrap64 ((2 * m + 2) + 1) = 2 * m + 3) := by have : wrap64 ((2 * m + 2) + 1) = 2 * m + 3 := (by unfold wrap64; omega); exact this
  clear hm
  rw [h] at HC
  clear h
  generalize 2 * m + 2 = y at *
  go_enter Try.func32, Try.ntmps32
  go_wp2_with fail
  refine (HC.out _).mono ?_
  rintro e w1 ⟨rfl, rfl⟩
  go_wp2_with fail
  refine (HN.out _).mono ?_
  rintro e w1 ⟨rfl, rfl⟩
  go_wp2_with fail
  go_ret
  exact ⟨by show Ending.returned (.int .i64 (wrap64 (y + 1))) = _; rw [HW.out], rfl⟩
end Go.Proofs.Ytceogkgnapdeiaa.Pc
