/- The document's queue (layer 16): Size, Arity, Behind, Next. -/
import Derived.Test.YtkikogalaejnlabQuK
import Derived.Test.YtkikogalaejnlabCoR
namespace Go.Proofs.Ytkikogalaejnlab.Qu
open Go.ChangeShapes Go.WideShapes Go.ChangeAt Go.RowKit
attribute [local go_sem ↓] Go.wp_at_zero Go.wp_at_succ

theorem rsize_any (w : World) (m : Int) : Calls Try.prog 20 #[.int .i64 m] w fun e w' => e = .returned (.int .i64 (sizeV m)) ∧ w' = w := by
  have HC : Hid (∀ w : World, Calls Try.prog 19 #[.int .i64 m] w fun e w' => e = .returned (.bool (decide (0 ≤ m) && decide (m ≤ 16))) ∧ w' = w) := fun w => rright_any w m
  by_cases hm : 0 ≤ m ∧ m ≤ 16
  · have e1 : (decide (0 ≤ m) && decide (m ≤ 16)) = true := by simp [hm]
    rw [e1] at HC
    have HV : Hid (sizeV m = m + 2) := by unfold sizeV; rw [if_pos hm]; exact rfl
    have hw : wrap64 (m + 2) = m + 2 := by unfold wrap64; omega
    clear hm e1
    go_enter Try.func20, Try.ntmps20
    go_wp2_with fail
    refine (HC.out _).mono ?_
    rintro e w1 ⟨rfl, rfl⟩
    go_wp2_with fail
    go_ret
    exact ⟨by rw [HV.out]; show Ending.returned (.int .i64 (wrap64 (m + 2))) = _; rw [hw], rfl⟩
  · have e1 : (decide (0 ≤ m) && decide (m ≤ 16)) = false := by
      rw [Bool.eq_false_iff]
      intro h
      simp only [Bool.and_eq_true, decide_eq_true_eq] at h
      exact hm h
    rw [e1] at HC
    have HV : Hid (sizeV m = 0) := by unfold sizeV; rw [if_neg hm]; exact rfl
    clear hm e1
    go_enter Try.func20, Try.ntmps20
    go_wp2_with fail
    refine (HC.out _).mono ?_
    rintro e w1 ⟨rfl, rfl⟩
    go_wp2_with fail
    go_ret
    exact ⟨by rw [HV.out]; rfl, rfl⟩
theorem rarity_any (w : World) (c : Int) : Calls Try.prog 10 #[.int .i64 c] w fun e w' => e = .returned (.int .i64 (arV c)) ∧ w' = w := by
  by_cases h1 : c = 3
  · subst h1
    go_enter Try.func10, Try.ntmps10
    go_wp2
    go_ret
    exact ⟨rfl, rfl⟩
  · by_cases h2 : c = 2
    · subst h2
      go_enter Try.func10, Try.ntmps10
      go_wp2
      go_ret
      exact ⟨rfl, rfl⟩
    · by_cases h3 : c = 5
      · subst h3
        go_enter Try.func10, Try.ntmps10
        go_wp2
        go_ret
        exact ⟨rfl, rfl⟩
      · have HE : Hid (arV c = -1) := by unfold arV; rw [if_neg h1, if_neg h2, if_neg h3]; exact rfl
        have e1 : (c == 3) = false := by simpa using h1
        have e2 : (c == 2) = false := by simpa using h2
        have e3 : (c == 5) = false := by simpa using h3
        clear h1 h2 h3
        go_enter Try.func10, Try.ntmps10
        go_wp2
        go_ret
        exact ⟨by rw [HE.out]; rfl, rfl⟩
theorem uw_uw (k : Int) : IntKind.u64.wrap (uW k) = uW k := by
  rw [uw_wrap]
  unfold uW
  omega
theorem rbeh_math (f k n : Int) (hn : 0 < n ∧ n ≤ 16) : wrap64 ((IntKind.u64.wrap ((IntKind.u64.wrap f).tmod n + (uW k).tmod n)).tmod n) = behV f k n := by
  have := beh_math f k n hn
  rw [uw_wrap k] at this
  exact this
theorem rbeh_any (w : World) (f k n : Int) (hn : 0 < n ∧ n ≤ 16) : Calls Try.prog 21 #[.int .i64 f, .int .u64 (uW k), .int .i64 n] w fun e w' => e = .returned (.int .i64 (behV f k n)) ∧ Below w.heap.size w w' := by
  have HB : Hid (wrap64 ((IntKind.u64.wrap ((IntKind.u64.wrap f).tmod n + (uW k).tmod n)).tmod n) = behV f k n) := rbeh_math f k n hn
  generalize uW k = kk at *
  go_enter Try.func21, Try.ntmps21
  go_wp2_with fail
  go_quiet (fail)
  go_wp2_with fail
  go_ret
  exact ⟨by rw [← HB.out]; rfl, below_drawn (Below.refl _ _) _⟩
/-- The answer is laid into its variable. -/
theorem Mid.lay {w w4 : World} (h : Mid w w4) {x : Wn} {cs : Array Value} (hcs : Hid (wnC x = cs)) : ∃ w5, (storeCells ⟨w.heap.size, 0, none⟩ cs.toList 0).run Try.prog w4 = .ok () w5 ∧ Hid (w5.heap[w.heap.size]? = some (.cells cs 24 (0, 0)) ∧ Below w.heap.size w w5) := by
  have hr := row_next h
  have hb := below_next h
  rw [← hcs.out]
  exact ⟨w4.setRow w.heap.size (wnC x), store_wn hr rfl rfl (wnC_one x), setRow_heap _ _ _ _ _ _ hr, below_row hb _ (Nat.le_refl _) _⟩