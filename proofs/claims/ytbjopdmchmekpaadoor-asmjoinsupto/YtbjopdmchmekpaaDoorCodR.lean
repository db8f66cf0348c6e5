/- The document's At. -/
import Derived.Test.YtbjopdmchmekpaaDoorCodB
namespace Go.Proofs.YtbjopdmchmekpaaDoor
open Go.ChangeShapes Go.WideShapes Go.ChangeAt Go.RowKit

theorem rwidth_any (c : Nat) (hc : c ≤ 40) (w : World) : Calls Tryd.prog 32 #[.int .i64 (c : Int)] w fun e w' => e = .returned (.int .i64 (wdC c : Int)) ∧ w' = w := by
  have h : c = 0 ∨ c = 1 ∨ c = 2 ∨ c = 3 ∨ c = 4 ∨ c = 5 ∨ c = 6 ∨ c = 7 ∨ c = 8 ∨ c = 9 ∨ c = 10 ∨ c = 11 ∨ c = 12 ∨ c = 13 ∨ c = 14 ∨ c = 15 ∨ c = 16 ∨ c = 17 ∨ c = 18 ∨ c = 19 ∨ c = 20 ∨ c = 21 ∨ c = 22 ∨ c = 23 ∨ c = 24 ∨ c = 25 ∨ c = 26 ∨ c = 27 ∨ c = 28 ∨ c = 29 ∨ c = 30 ∨ c = 31 ∨ c = 32 ∨ c = 33 ∨ c = 34 ∨ c = 35 ∨ c = 36 ∨ c = 37 ∨ c = 38 ∨ c = 39 ∨ c = 40 := by omega
  rcases h with rfl | rfl | rfl | rfl | rfl | rfl | rfl | rfl | rfl | rfl | rfl | rfl | rfl | rfl | rfl | rfl | rfl | rfl | rfl | rfl | rfl | rfl | rfl | rfl | rfl | rfl | rfl | rfl | rfl | rfl | rfl | rfl | rfl | rfl | rfl | rfl | rfl | rfl | rfl | rfl | rfl
  all_goals
    go_enter Tryd.func32, Tryd.ntmps32
    go_wp2
    go_ret
    exact ⟨rfl, rfl⟩
theorem rwidth_no (c : Int) (hc : ¬ (0 ≤ c ∧ c ≤ 40)) (w : World) : Calls Tryd.prog 32 #[.int .i64 c] w fun e w' => e = .returned (.int .i64 (-1)) ∧ w' = w := by
  by_cases h : c < 0
  · go_enter Tryd.func32, Tryd.ntmps32
    go_wp2
    go_ret
    exact ⟨rfl, rfl⟩
  · have h1 : (40 : Int) < c := by omega
    go_enter Tryd.func32, Tryd.ntmps32
    go_wp2
    go_ret
    exact ⟨rfl, rfl⟩
theorem rrange_sw (c : Nat) (hc : c = 1 ∨ c = 2 ∨ c = 24 ∨ c = 25 ∨ c = 3 ∨ c = 23 ∨ c = 26) (w : World) : Calls Tryd.prog 41 #[.int .i64 (c : Int)] w fun e w' => e = .returned (.tuple #[.int .i64 (loC c), .int .i64 (hiC c)]) ∧ w' = w := by
  rcases hc with rfl | rfl | rfl | rfl | rfl | rfl | rfl
  all_goals
    go_enter Tryd.func41, Tryd.ntmps41
    go_wp2
    go_ret2
    exact ⟨rfl, rfl⟩
theorem rrange_go (c : Nat) (hc : ¬ (c = 1 ∨ c = 2 ∨ c = 24 ∨ c = 25 ∨ c = 3 ∨ c = 23 ∨ c = 26)) (v hi : Int) (hv : v = 1 ∧ hi = 255 ∨ v = 0 ∧ hi = 0) (w : World) (HW : Hid (∀ w, Calls Tryd.prog 32 #[.int .i64 (c : Int)] w fun e w' => e = .returned (.int .i64 v) ∧ w' = w)) :
    Calls Tryd.prog 41 #[.int .i64 (c : Int)] w fun e w' => e = .returned (.tuple #[.int .i64 0, .int .i64 hi]) ∧ w' = w := by
  have h1 : ((c : Int) == 1) = false := by simp; omega
  have h2 : ((c : Int) == 2) = false := by simp; omega
  have h3 : ((c : Int) == 24) = false := by simp; omega
  have h4 : ((c : Int) == 25) = false := by simp; omega
  have h5 : ((c : Int) == 3) = false := by simp; omega
  have h6 : ((c : Int) == 23) = false := by simp; omega
  have h7 : ((c : Int) == 26) = false := by simp; omega
  clear hc
  rcases hv with ⟨rfl, rfl⟩ | ⟨rfl, rfl⟩
  all_goals
    go_enter Tryd.func41, Tryd.ntmps41
    go_wp2_with fail
    refine (HW.out _).mono ?_
    rintro e w' ⟨rfl, rfl⟩
    go_wp2
    go_ret2
    exact ⟨rfl, rfl⟩
theorem rrange_any (c : Nat) (hc : c ≤ 40) (w : World) : Calls Tryd.prog 41 #[.int .i64 (c : Int)] w fun e w' => e = .returned (.tuple #[.int .i64 (loC c), .int .i64 (hiC c)]) ∧ w' = w := by
  by_cases h : c = 1 ∨ c = 2 ∨ c = 24 ∨ c = 25 ∨ c = 3 ∨ c = 23 ∨ c = 26
  · exact rrange_sw c h w
  · have hl : loC c = 0 := by unfold loC; rw [if_neg (by omega), if_neg (by omega), if_neg (by omega)]
    rw [hl]
    refine rrange_go c h (wdC c : Int) (hiC c) ?_ w (fun w => rwidth_any c hc w)
    by_cases h2 : c = 28 ∨ 33 ≤ c
    · have e1 : wdC c = 1 := by unfold wdC; rw [if_neg (by omega), if_neg (by omega), if_pos (by omega)]
      have e2 : hiC c = 255 := by unfold hiC; rw [if_neg (by omega), if_neg (by omega), if_neg (by omega), if_neg (by omega), if_neg (by omega), if_pos h2]
      rw [e1, e2]; exact Or.inl ⟨rfl, rfl⟩
    · have e1 : wdC c = 0 := by unfold wdC; rw [if_neg (by omega), if_neg (by omega), if_neg (by omega)]
      have e2 : hiC c = 0 := by unfold hiC; rw [if_neg (by omega), if_neg (by omega), if_neg (by omega), if_neg (by omega), if_neg (by omega), if_neg h2]
      rw [e1, e2]; exact Or.inr ⟨rfl, rfl⟩
end Go.Proofs.YtbjopdmchmekpaaDoor
