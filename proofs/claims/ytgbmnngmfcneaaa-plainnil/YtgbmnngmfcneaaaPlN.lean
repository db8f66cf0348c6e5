/- A nil state; PlainNil walked. -/
import Derived.Test.YtgbmnngmfcneaaaBlk
import Derived.RegionTactic
import Derived.BigRegion
namespace Go.Proofs.Ytgbmnngmfcneaaa.Pl
open Go.ChangeShapes Go.WideShapes Go.ChangeAt Go.RowKit
attribute [local go_sem ↓] Go.wp_at_zero Go.wp_at_succ

theorem nil_hasc (w : World) : Calls Try.prog 36 #[.pointer none] w fun e w' => e = .returned (.bool false) ∧ w' = w := by
  go_enter Try.func36, Try.ntmps36
  go_wp2
  go_ret
  exact ⟨rfl, rfl⟩
theorem nil_load (w : World) (p : Int) : Calls Try.prog 20 #[.pointer none, .int .i64 p] w fun e w' => e = .returned (.int .i64 0) ∧ w' = w := by
  have HH : Hid (∀ w : World, Calls Try.prog 36 #[.pointer none] w fun e w' => e = .returned (.bool false) ∧ w' = w) := fun w => nil_hasc w
  go_enter Try.func20, Try.ntmps20
  go_wp2_with fail
  refine (HH.out _).mono ?_
  rintro e w1 ⟨rfl, rfl⟩
  go_wp2_with fail
  go_ret
  exact ⟨rfl, rfl⟩
theorem nil_store (w : World) (p v : Int) : Calls Try.prog 19 #[.pointer none, .int .i64 p, .int .i64 v] w fun e w' => e = .returned (.tuple #[]) ∧ w' = w := by
  have HH : Hid (∀ w : World, Calls Try.prog 36 #[.pointer none] w fun e w' => e = .returned (.bool false) ∧ w' = w) := fun w => nil_hasc w
  go_enter Try.func19, Try.ntmps19
  go_wp2_with fail
  refine (HH.out _).mono ?_
  rintro e w1 ⟨rfl, rfl⟩
  go_wp2_with fail
  refine bodyPost_end (results_none rfl _ _ _) rfl ?_
  exact ⟨rfl, rfl⟩
theorem nil_call (w : World) (r c : Int) (va : Value) : Calls Try.prog 14 #[.pointer none, .int .i64 r, .int .i64 c, va] w fun e w' => e = .returned (.tuple #[.int .i64 0, .int .i64 0, .int .i64 1]) ∧ w' = w := by
  go_enter Try.func14, Try.ntmps14
  go_wp2_with fail
  go_ret3
  exact ⟨rfl, rfl⟩
theorem nil_raw (w : World) : Calls Try.prog 17 #[.pointer none] w fun e w' => e = .returned (.slice none 0 0) ∧ w' = w := by
  go_enter Try.func17, Try.ntmps17
  go_wp2
  go_ret
  exact ⟨rfl, rfl⟩
theorem nil_shapes (w : World) : Calls Try.prog 18 #[.pointer none] w fun e w' => e = .returned (.slice none 0 0) ∧ w' = w := by
  go_enter Try.func18, Try.ntmps18
  go_wp2
  go_ret
  exact ⟨rfl, rfl⟩
theorem nil_copy (w : World) : Calls Try.prog 10 #[.pointer none] w fun e w' => e = .returned (.pointer none) ∧ w' = w := by
  go_enter Try.func10, Try.ntmps10
  go_wp2
  go_ret
  exact ⟨rfl, rfl⟩
theorem nil_walk {w : World} (p v c : Int) : Calls Try.prog 7 #[.int .i64 p, .int .i64 v, .int .i64 c] w fun e w' => e = .returned (.bool true) ∧ Below w.heap.size w w' := by
  have H1 : Hid (∀ w : World, Calls Try.prog 20 #[.pointer none, .int .i64 p] w fun e w' => e = .returned (.int .i64 0) ∧ w' = w) := fun w => nil_load w p
  have H2 : Hid (∀ w : World, Calls Try.prog 19 #[.pointer none, .int .i64 p, .int .i64 v] w fun e w' => e = .returned (.tuple #[]) ∧ w' = w) := fun w => nil_store w p v
  have H3 : Hid (∀ (w : World) (va : Value), Calls Try.prog 14 #[.pointer none, .int .i64 c, .int .i64 c, va] w fun e w' => e = .returned (.tuple #[.int .i64 0, .int .i64 0, .int .i64 1]) ∧ w' = w) := fun w va => nil_call w c c va
  have H4 : Hid (∀ w : World, Calls Try.prog 17 #[.pointer none] w fun e w' => e = .returned (.slice none 0 0) ∧ w' = w) := fun w => nil_raw w
  have H5 : Hid (∀ w : World, Calls Try.prog 18 #[.pointer none] w fun e w' => e = .returned (.slice none 0 0) ∧ w' = w) := fun w => nil_shapes w
  have H6 : Hid (∀ w : World, Calls Try.prog 10 #[.pointer none] w fun e w' => e = .returned (.pointer none) ∧ w' = w) := fun w => nil_copy w
  go_enter Try.func7, Try.ntmps7
  go_wp2_with fail
  refine (H1.out _).mono ?_
  rintro e w1 ⟨rfl, hw⟩
  obtain rfl := hw.symm
  go_wp2_with fail
  refine (H2.out _).mono ?_
  rintro e w1 ⟨rfl, hw⟩
  obtain rfl := hw.symm
  go_wp2_with fail
  refine (H3.out _ _).mono ?_
  rintro e w1 ⟨rfl, hw⟩
  obtain rfl := hw.symm
  go_wp2_with fail
  refine (H4.out _).mono ?_
  rintro e w1 ⟨rfl, hw⟩
  obtain rfl := hw.symm
  go_wp2_with fail
  refine (H5.out _).mono ?_
  rintro e w1 ⟨rfl, hw⟩
  obtain rfl := hw.symm
  go_wp2_with fail
  refine (H6.out _).mono ?_
  rintro e w1 ⟨rfl, hw⟩
  obtain rfl := hw.symm
  go_wp2_with fail
  go_ret
  exact ⟨rfl, below_a1 _ _⟩
end Go.Proofs.Ytgbmnngmfcneaaa.Pl
