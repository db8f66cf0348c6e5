/- Heads, stamps and slots: what each small function of the program and of the document's answer does. -/
import Derived.Test.YtbmmicfdnfpcaaaRows
import Derived.Test.YtbmmicfdnfpcaaaMath
import Derived.Test.YtbmmicfdnfpcaaaRngM
import Derived.WalkKit
import Derived.ProofKit
import Derived.OpenShut
import Derived.ShutString
import Derived.WalkSpells
import Derived.WalkLawsBesides
namespace Go.Proofs.Ytbmmicfdnfpcaaa
open Go.ChangeShapes Go.WideShapes Go.ChangeAt Go.RowKit

theorem stamp_any (x : Int) (w : World) : Calls Try.prog 82 #[.int .i64 x] w fun e w' => e = .returned (.int .i64 (x / 2)) ∧ w' = w := by
  go_enter Try.func82, Try.ntmps82
  go_wp2
  go_ret
  exact ⟨rfl, rfl⟩

theorem done_any (x : Int) (w : World) : Calls Try.prog 83 #[.int .i64 x] w fun e w' => e = .returned (.bool (x % 2 == 1)) ∧ w' = w := by
  have h1 := and1 x
  go_enter Try.func83, Try.ntmps83
  go_wp2
  go_ret
  exact ⟨rfl, rfl⟩

theorem rstamp_any (x : Int) (h0 : -9223372036854775808 ≤ x) (h1 : x ≤ 9223372036854775807) (w : World) : Calls Try.prog 56 #[.int .i64 x] w fun e w' => e = .returned (.int .i64 (x / 2)) ∧ w' = w := by
  by_cases h : x.tmod 2 < 0
  · have H : Hid (wrap64 ((wrap64 (x - 1)).tdiv 2) = x / 2) := stamp_neg x h0 h1 h
    clear h0 h1
    go_enter Try.func56, Try.ntmps56
    go_wp2
    go_ret
    exact ⟨by simp [H.out], rfl⟩
  · have h' : 0 ≤ x.tmod 2 := by omega
    have H : Hid (wrap64 ((wrap64 (x - x.tmod 2)).tdiv 2) = x / 2) := stamp_pos x h0 h1 h'
    clear h h0 h1
    go_enter Try.func56, Try.ntmps56
    go_wp2
    go_ret
    exact ⟨by simp [H.out], rfl⟩

theorem rdone_any (x : Int) (w : World) : Calls Try.prog 57 #[.int .i64 x] w fun e w' => e = .returned (.bool (x % 2 == 1)) ∧ w' = w := by
  go_enter Try.func57, Try.ntmps57
  go_wp2
  go_ret
  exact ⟨by simp [← done_eq], rfl⟩

theorem isSize_any (s : Int) (w : World) : Calls Try.prog 70 #[.int .i64 s] w fun e w' => e = .returned (.bool (sizeOk s)) ∧ w' = w := by
  unfold sizeOk
  by_cases h1 : 1 ≤ s
  · have e1 : decide (1 ≤ s) = true := decide_eq_true h1
    clear h1
    go_enter Try.func70, Try.ntmps70
    go_wp2
    go_ret
    exact ⟨by simp [e1], rfl⟩
  · have e1 : decide (1 ≤ s) = false := decide_eq_false h1
    clear h1
    go_enter Try.func70, Try.ntmps70
    go_wp2
    go_ret
    exact ⟨by simp [e1], rfl⟩

theorem slot_any (st s : Int) (w : World) : Calls Try.prog 61 #[.int .i64 st, .int .i64 s] w fun e w' => e = .returned (.int .i64 (slotV st s)) ∧ w' = w := by
  unfold slotV
  by_cases hs : sizeOk s = true
  · have hb := sizeOk_iff.mp hs
    by_cases ht : st.tmod s < 0
    · have ⟨_, _, e⟩ := tmod_low st s (by omega) ht
      have hm1 := Int.emod_nonneg st (show s ≠ 0 by omega)
      have hm2 := Int.emod_lt_of_pos st (show 0 < s by omega)
      have HE : Hid (wrap64 (st.tmod s + s) = st % s) := by unfold wrap64; rw [Hid, e]; omega
      have hd : decide (st.tmod s < 0) = true := decide_eq_true ht
      have hz : ¬ s = 0 := by omega
      rw [if_pos hs, ← HE.out]
      clear e hm1 hm2 HE ht hb
      go_enter Try.func61, Try.ntmps61
      go_wp2_with fail
      refine (isSize_any _ _).mono ?_
      rintro e w' ⟨rfl, rfl⟩
      rw [hs]
      go_wp2
      go_ret
      exact ⟨rfl, rfl⟩
    · have e := tmod_high st s (by omega) (by omega)
      have hd : decide (st.tmod s < 0) = false := decide_eq_false ht
      have hz : ¬ s = 0 := by omega
      rw [if_pos hs, ← e]
      clear e ht hb
      go_enter Try.func61, Try.ntmps61
      go_wp2_with fail
      refine (isSize_any _ _).mono ?_
      rintro e w' ⟨rfl, rfl⟩
      rw [hs]
      go_wp2
      go_ret
      exact ⟨rfl, rfl⟩
  · have hs' : sizeOk s = false := by simpa using hs
    rw [if_neg hs]
    clear hs
    go_enter Try.func61, Try.ntmps61
    go_wp2_with fail
    refine (isSize_any _ _).mono ?_
    rintro e w' ⟨rfl, rfl⟩
    rw [hs']
    go_wp2
    go_ret
    exact ⟨rfl, rfl⟩

theorem rslot_any (st s : Int) (w : World) : Calls Try.prog 35 #[.int .i64 st, .int .i64 s] w fun e w' => e = .returned (.int .i64 (slotV st s)) ∧ w' = w := by
  unfold slotV
  by_cases hs : sizeOk s = true
  · have hb := sizeOk_iff.mp hs
    have d1 : decide (s < 1) = false := decide_eq_false (by omega)
    have d2 : decide (s > 16) = false := decide_eq_false (by omega)
    by_cases ht : st.tmod s < 0
    · have ⟨_, _, e⟩ := tmod_low st s (by omega) ht
      have hm1 := Int.emod_nonneg st (show s ≠ 0 by omega)
      have hm2 := Int.emod_lt_of_pos st (show 0 < s by omega)
      have HE : Hid (wrap64 (st.tmod s + s) = st % s) := by unfold wrap64; rw [Hid, e]; omega
      have hd : decide (st.tmod s < 0) = true := decide_eq_true ht
      have hz : ¬ s = 0 := by omega
      rw [if_pos hs, ← HE.out]
      clear e hm1 hm2 HE ht hb
      go_enter Try.func35, Try.ntmps35
      go_wp2
      go_ret
      exact ⟨rfl, rfl⟩
    · have e := tmod_high st s (by omega) (by omega)
      have hd : decide (st.tmod s < 0) = false := decide_eq_false ht
      have hz : ¬ s = 0 := by omega
      rw [if_pos hs, ← e]
      clear e ht hb
      go_enter Try.func35, Try.ntmps35
      go_wp2
      go_ret
      exact ⟨rfl, rfl⟩
  · have hs' : ¬ (1 ≤ s ∧ s ≤ 16) := fun e => hs (sizeOk_iff.mpr e)
    rw [if_neg hs]
    clear hs
    by_cases h1 : s < 1
    · have d1 : decide (s < 1) = true := decide_eq_true h1
      clear hs' h1
      go_enter Try.func35, Try.ntmps35
      go_wp2
      go_ret
      exact ⟨rfl, rfl⟩
    · have d1 : decide (s < 1) = false := decide_eq_false h1
      have d2 : decide (s > 16) = true := decide_eq_true (by omega)
      clear hs' h1
      go_enter Try.func35, Try.ntmps35
      go_wp2
      go_ret
      exact ⟨rfl, rfl⟩

theorem laid_any (h st : Int) (w : World) : Calls Try.prog 80 #[.int .i64 h, .int .i64 st] w fun e w' => e = .returned (.bool (laidV h st)) ∧ w' = w := by
  go_enter Try.func80, Try.ntmps80
  go_wp2_with fail
  refine (stamp_any _ _).mono ?_
  rintro e w' ⟨rfl, rfl⟩
  go_wp2
  go_ret
  exact ⟨rfl, rfl⟩

theorem rlaid_any (h st : Int) (h0 : -9223372036854775808 ≤ h) (h1 : h ≤ 9223372036854775807) (w : World) : Calls Try.prog 39 #[.int .i64 h, .int .i64 st] w fun e w' => e = .returned (.bool (laidV h st)) ∧ w' = w := by
  go_enter Try.func39, Try.ntmps39
  go_wp2_with fail
  refine (rstamp_any _ h0 h1 _).mono ?_
  rintro e w' ⟨rfl, rfl⟩
  go_wp2
  go_ret
  exact ⟨rfl, rfl⟩

theorem over_any (h st : Int) (w : World) : Calls Try.prog 76 #[.int .i64 h, .int .i64 st] w fun e w' => e = .returned (.bool (overV h st)) ∧ w' = w := by
  unfold overV
  cases d1 : decide (st < 1)
  · cases d2 : decide (h / 2 > st)
    · cases d3 : laidV h st
      · go_enter Try.func76, Try.ntmps76
        go_wp2_with fail
        refine (stamp_any _ _).mono ?_
        rintro e w' ⟨rfl, rfl⟩
        go_wp2_with fail
        refine (laid_any _ _ _).mono ?_
        rintro e w' ⟨rfl, rfl⟩
        rw [d3]
        go_wp2
        go_ret
        exact ⟨rfl, rfl⟩
      · go_enter Try.func76, Try.ntmps76
        go_wp2_with fail
        refine (stamp_any _ _).mono ?_
        rintro e w' ⟨rfl, rfl⟩
        go_wp2_with fail
        refine (laid_any _ _ _).mono ?_
        rintro e w' ⟨rfl, rfl⟩
        rw [d3]
        go_wp2_with fail
        refine (done_any _ _).mono ?_
        rintro e w' ⟨rfl, rfl⟩
        go_wp2
        go_ret
        exact ⟨rfl, rfl⟩
    · go_enter Try.func76, Try.ntmps76
      go_wp2_with fail
      refine (stamp_any _ _).mono ?_
      rintro e w' ⟨rfl, rfl⟩
      go_wp2
      go_ret
      exact ⟨rfl, rfl⟩
  · go_enter Try.func76, Try.ntmps76
    go_wp2
    go_ret
    exact ⟨rfl, rfl⟩

theorem rover_any (h st : Int) (h0 : -9223372036854775808 ≤ h) (h1 : h ≤ 9223372036854775807) (w : World) : Calls Try.prog 38 #[.int .i64 h, .int .i64 st] w fun e w' => e = .returned (.bool (overV h st)) ∧ w' = w := by
  unfold overV laidV
  have HS : Hid (∀ w, Calls Try.prog 56 #[.int .i64 h] w fun e w' => e = .returned (.int .i64 (h / 2)) ∧ w' = w) := rstamp_any _ h0 h1
  clear h0 h1
  cases d1 : decide (st < 1)
  · cases d2 : decide (h / 2 > st)
    · cases d3 : h / 2 == st
      all_goals
        go_enter Try.func38, Try.ntmps38
        go_wp2_with fail
        refine (HS.out _).mono ?_
        rintro e w' ⟨rfl, rfl⟩
        go_wp2_with fail
        refine (rdone_any _ _).mono ?_
        rintro e w' ⟨rfl, rfl⟩
        go_wp2
        go_ret
        exact ⟨rfl, rfl⟩
    · go_enter Try.func38, Try.ntmps38
      go_wp2_with fail
      refine (HS.out _).mono ?_
      rintro e w' ⟨rfl, rfl⟩
      go_wp2_with fail
      refine (rdone_any _ _).mono ?_
      rintro e w' ⟨rfl, rfl⟩
      go_wp2
      go_ret
      exact ⟨rfl, rfl⟩
  · go_enter Try.func38, Try.ntmps38
    go_wp2
    go_ret
    exact ⟨rfl, rfl⟩
