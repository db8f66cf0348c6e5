/- Heads, stamps and slots: what each small function of the program and of the document's answer does. -/
import Derived.Test.YtfbbcjlbelnfaaaRows
import Derived.Test.YtfbbcjlbelnfaaaMath
import Derived.Test.YtfbbcjlbelnfaaaJMemMBegM
import Derived.WalkKit
import Derived.ProofKit
import Derived.OpenShut
import Derived.ShutString
import Derived.WalkSpells
import Derived.WalkLawsBesides
namespace Go.Proofs.Ytfbbcjlbelnfaaa
open Go.ChangeShapes Go.WideShapes Go.ChangeAt Go.RowKit

theorem stamp_any (x : Int) (w : World) : Calls Try.prog 90 #[.int .i64 x] w fun e w' => e = .returned (.int .i64 (x / 2)) ∧ w' = w := by
  go_enter Try.func90, Try.ntmps90
  go_wp2
  go_ret
  exact ⟨rfl, rfl⟩

theorem done_any (x : Int) (w : World) : Calls Try.prog 91 #[.int .i64 x] w fun e w' => e = .returned (.bool (x % 2 == 1)) ∧ w' = w := by
  have h1 := and1 x
  go_enter Try.func91, Try.ntmps91
  go_wp2
  go_ret
  exact ⟨rfl, rfl⟩

theorem rstamp_any (x : Int) (h0 : -9223372036854775808 ≤ x) (h1 : x ≤ 9223372036854775807) (w : World) : Calls Try.prog 77 #[.int .i64 x] w fun e w' => e = .returned (.int .i64 (x / 2)) ∧ w' = w := by
  by_cases h : x.tmod 2 < 0
  · have H : Hid (wrap64 ((wrap64 (x - 1)).tdiv 2) = x / 2) := stamp_neg x h0 h1 h
    clear h0 h1
    go_enter Try.func77, Try.ntmps77
    go_wp2
    go_ret
    exact ⟨by simp [H.out], rfl⟩
  · have h' : 0 ≤ x.tmod 2 := by omega
    have H : Hid (wrap64 ((wrap64 (x - x.tmod 2)).tdiv 2) = x / 2) := stamp_pos x h0 h1 h'
    clear h h0 h1
    go_enter Try.func77, Try.ntmps77
    go_wp2
    go_ret
    exact ⟨by simp [H.out], rfl⟩

theorem rdone_any (x : Int) (w : World) : Calls Try.prog 78 #[.int .i64 x] w fun e w' => e = .returned (.bool (x % 2 == 1)) ∧ w' = w := by
  go_enter Try.func78, Try.ntmps78
  go_wp2
  go_ret
  exact ⟨by simp [← done_eq], rfl⟩

theorem isSize_any (s : Int) (w : World) : Calls Try.prog 92 #[.int .i64 s] w fun e w' => e = .returned (.bool (sizeOk s)) ∧ w' = w := by
  unfold sizeOk
  by_cases h1 : 1 ≤ s
  · have e1 : decide (1 ≤ s) = true := decide_eq_true h1
    clear h1
    go_enter Try.func92, Try.ntmps92
    go_wp2
    go_ret
    exact ⟨by simp [e1], rfl⟩
  · have e1 : decide (1 ≤ s) = false := decide_eq_false h1
    clear h1
    go_enter Try.func92, Try.ntmps92
    go_wp2
    go_ret
    exact ⟨by simp [e1], rfl⟩

theorem slot_any (st s : Int) (w : World) : Calls Try.prog 84 #[.int .i64 st, .int .i64 s] w fun e w' => e = .returned (.int .i64 (slotV st s)) ∧ w' = w := by
  unfold slotV
  by_cases hs : sizeOk s = true
  · have hb := sizeOk_iff.mp hs
    by_cases ht : st.tmod s < 0
    · have ⟨_, _, e⟩ := tmod_low st s (by omega) ht
      have hm1 := Int.emod_nonneg st (show s ≠ 0 by omega)
      have hm2 := Int.emod_lt_of_pos st (show 0 < s by omega)
      have HE : Hid (wrap64 (st.tmod s + s) = st % s) := by unfold wrap64; rw [Hid, e]; omega
      have hd : decide (st.tmod s < 0) = true := decide_eq_true ht
      have hz : ¬ s = 0 := by omega
      rw [if_pos hs, ← HE.out]
      clear e hm1 hm2 HE ht hb
      go_enter Try.func84, Try.ntmps84
      go_wp2_with fail
      refine (isSize_any _ _).mono ?_
      rintro e w' ⟨rfl, rfl⟩
      rw [hs]
      go_wp2
      go_ret
      exact ⟨rfl, rfl⟩
    · have e := tmod_high st s (by omega) (by omega)
      have hd : decide (st.tmod s < 0) = false := decide_eq_false ht
      have hz : ¬ s = 0 := by omega
      rw [if_pos hs, ← e]
      clear e ht hb
      go_enter Try.func84, Try.ntmps84
      go_wp2_with fail
      refine (isSize_any _ _).mono ?_
      rintro e w' ⟨rfl, rfl⟩
      rw [hs]
      go_wp2
      go_ret
      exact ⟨rfl, rfl⟩
  · have hs' : sizeOk s = false := by simpa using hs
    rw [if_neg hs]
    clear hs
    go_enter Try.func84, Try.ntmps84
    go_wp2_with fail
    refine (isSize_any _ _).mono ?_
    rintro e w' ⟨rfl, rfl⟩
    rw [hs']
    go_wp2
    go_ret
    exact ⟨rfl, rfl⟩

theorem rslot_any (st s : Int) (w : World) : Calls Try.prog 57 #[.int .i64 st, .int .i64 s] w fun e w' => e = .returned (.int .i64 (slotV st s)) ∧ w' = w := by
  unfold slotV
  by_cases hs : sizeOk s = true
  · have hb := sizeOk_iff.mp hs
    have d1 : decide (s < 1) = false := decide_eq_false (by omega)
    have d2 : decide (s > 16) = false := decide_eq_false (by omega)
    by_cases ht : st.tmod s < 0
    · have ⟨_, _, e⟩ := tmod_low st s (by omega) ht
      have hm1 := Int.emod_nonneg st (show s ≠ 0 by omega)
      have hm2 := Int.emod_lt_of_pos st (show 0 < s by omega)
      have HE : Hid (wrap64 (st.tmod s + s) = st % s) := by unfold wrap64; rw [Hid, e]; omega
      have hd : decide (st.tmod s < 0) = true := decide_eq_true ht
      have hz : ¬ s = 0 := by omega
      rw [if_pos hs, ← HE.out]
      clear e hm1 hm2 HE ht hb
      go_enter Try.func57, Try.ntmps57
      go_wp2
      go_ret
      exact ⟨rfl, rfl⟩
    · have e := tmod_high st s (by omega) (by omega)
      have hd : decide (st.tmod s < 0) = false := decide_eq_false ht
      have hz : ¬ s = 0 := by omega
      rw [if_pos hs, ← e]
      clear e ht hb
      go_enter Try.func57, Try.ntmps57
      go_wp2
      go_ret
      exact ⟨rfl, rfl⟩
  · have hs' : ¬ (1 ≤ s ∧ s ≤ 16) := fun e => hs (sizeOk_iff.mpr e)
    rw [if_neg hs]
    clear hs
    by_cases h1 : s < 1
    · have d1 : decide (s < 1) = true := decide_eq_true h1
      clear hs' h1
      go_enter Try.func57, Try.ntmps57
      go_wp2
      go_ret
      exact ⟨rfl, rfl⟩
    · have d1 : decide (s < 1) = false := decide_eq_false h1
      have d2 : decide (s > 16) = true := decide_eq_true (by omega)
      clear hs' h1
      go_enter Try.func57, Try.ntmps57
      go_wp2
      go_ret
      exact ⟨rfl, rfl⟩

theorem laid_any (h st : Int) (w : World) : Calls Try.prog 89 #[.int .i64 h, .int .i64 st] w fun e w' => e = .returned (.bool (laidV h st)) ∧ w' = w := by
  go_enter Try.func89, Try.ntmps89
  go_wp2_with fail
  refine (stamp_any _ _).mono ?_
  rintro e w' ⟨rfl, rfl⟩
  go_wp2
  go_ret
  exact ⟨rfl, rfl⟩

theorem rlaid_any (h st : Int) (h0 : -9223372036854775808 ≤ h) (h1 : h ≤ 9223372036854775807) (w : World) : Calls Try.prog 95 #[.int .i64 h, .int .i64 st] w fun e w' => e = .returned (.bool (laidV h st)) ∧ w' = w := by
  go_enter Try.func95, Try.ntmps95
  go_wp2_with fail
  refine (rstamp_any _ h0 h1 _).mono ?_
  rintro e w' ⟨rfl, rfl⟩
  go_wp2
  go_ret
  exact ⟨rfl, rfl⟩

theorem over_any (h st : Int) (w : World) : Calls Try.prog 73 #[.int .i64 h, .int .i64 st] w fun e w' => e = .returned (.bool (overV h st)) ∧ w' = w := by
  unfold overV
  cases d1 : decide (st < 1)
  · cases d2 : decide (h / 2 > st)
    · cases d3 : laidV h st
      · go_enter Try.func73, Try.ntmps73
        go_wp2_with fail
        refine (stamp_any _ _).mono ?_
        rintro e w' ⟨rfl, rfl⟩
        go_wp2_with fail
        refine (laid_any _ _ _).mono ?_
        rintro e w' ⟨rfl, rfl⟩
        rw [d3]
        go_wp2
        go_ret
        exact ⟨rfl, rfl⟩
      · go_enter Try.func73, Try.ntmps73
        go_wp2_with fail
        refine (stamp_any _ _).mono ?_
        rintro e w' ⟨rfl, rfl⟩
        go_wp2_with fail
        refine (laid_any _ _ _).mono ?_
        rintro e w' ⟨rfl, rfl⟩
        rw [d3]
        go_wp2_with fail
        refine (done_any _ _).mono ?_
        rintro e w' ⟨rfl, rfl⟩
        go_wp2
        go_ret
        exact ⟨rfl, rfl⟩
    · go_enter Try.func73, Try.ntmps73
      go_wp2_with fail
      refine (stamp_any _ _).mono ?_
      rintro e w' ⟨rfl, rfl⟩
      go_wp2
      go_ret
      exact ⟨rfl, rfl⟩
  · go_enter Try.func73, Try.ntmps73
    go_wp2
    go_ret
    exact ⟨rfl, rfl⟩

theorem rover_any (h st : Int) (h0 : -9223372036854775808 ≤ h) (h1 : h ≤ 9223372036854775807) (w : World) : Calls Try.prog 60 #[.int .i64 h, .int .i64 st] w fun e w' => e = .returned (.bool (overV h st)) ∧ w' = w := by
  unfold overV laidV
  have HS : Hid (∀ w, Calls Try.prog 77 #[.int .i64 h] w fun e w' => e = .returned (.int .i64 (h / 2)) ∧ w' = w) := rstamp_any _ h0 h1
  clear h0 h1
  cases d1 : decide (st < 1)
  · cases d2 : decide (h / 2 > st)
    · cases d3 : h / 2 == st
      all_goals
        go_enter Try.func60, Try.ntmps60
        go_wp2_with fail
        refine (HS.out _).mono ?_
        rintro e w' ⟨rfl, rfl⟩
        go_wp2_with fail
        refine (rdone_any _ _).mono ?_
        rintro e w' ⟨rfl, rfl⟩
        go_wp2
        go_ret
        exact ⟨rfl, rfl⟩
    · go_enter Try.func60, Try.ntmps60
      go_wp2_with fail
      refine (HS.out _).mono ?_
      rintro e w' ⟨rfl, rfl⟩
      go_wp2_with fail
      refine (rdone_any _ _).mono ?_
      rintro e w' ⟨rfl, rfl⟩
      go_wp2
      go_ret
      exact ⟨rfl, rfl⟩
  · go_enter Try.func60, Try.ntmps60
    go_wp2
    go_ret
    exact ⟨rfl, rfl⟩

theorem free_any (h st s : Int) (h0 : -9223372036854775808 ≤ st) (h1 : st ≤ 9223372036854775807) (w : World) : Calls Try.prog 75 #[.int .i64 h, .int .i64 st, .int .i64 s] w fun e w' => e = .returned (.bool (freeV h st s)) ∧ w' = w := by
  unfold freeV
  cases hs : sizeOk s
  · clear h0 h1
    go_enter Try.func75, Try.ntmps75
    go_wp2_with fail
    refine (isSize_any _ _).mono ?_
    rintro e w' ⟨rfl, rfl⟩
    rw [hs]
    go_wp2
    go_ret
    exact ⟨rfl, rfl⟩
  · have hb := sizeOk_iff.mp hs
    cases d1 : decide (st ≤ s)
    · have hd : ¬ st ≤ s := by simpa using d1
      have HW : Hid (wrap64 (st - s) = st - s) := by unfold wrap64; rw [Hid]; omega
      clear h0 h1 hb hd
      go_enter Try.func75, Try.ntmps75
      go_wp2_with fail
      refine (isSize_any _ _).mono ?_
      rintro e w' ⟨rfl, rfl⟩
      rw [hs]
      go_wp2_with fail
      refine (over_any _ _ _).mono ?_
      rintro e w' ⟨rfl, rfl⟩
      rw [HW.out]
      go_wp2
      go_ret
      exact ⟨rfl, rfl⟩
    · clear h0 h1 hb
      go_enter Try.func75, Try.ntmps75
      go_wp2_with fail
      refine (isSize_any _ _).mono ?_
      rintro e w' ⟨rfl, rfl⟩
      rw [hs]
      go_wp2
      go_ret
      exact ⟨rfl, rfl⟩

theorem rfree_any (h st s : Int) (h0 : -9223372036854775808 ≤ st) (h1 : st ≤ 9223372036854775807) (k0 : -9223372036854775808 ≤ h) (k1 : h ≤ 9223372036854775807) (w : World) : Calls Try.prog 59 #[.int .i64 h, .int .i64 st, .int .i64 s] w fun e w' => e = .returned (.bool (freeV h st s)) ∧ w' = w := by
  unfold freeV
  cases hs : sizeOk s
  · have hs' : ¬ (1 ≤ s ∧ s ≤ 16) := fun e => by rw [sizeOk_iff.mpr e] at hs; exact absurd hs (by decide)
    clear h0 h1 k0 k1
    by_cases h1 : s < 1
    · have d1 : decide (s < 1) = true := decide_eq_true h1
      clear hs' h1
      go_enter Try.func59, Try.ntmps59
      go_wp2
      go_ret
      exact ⟨rfl, rfl⟩
    · have d1 : decide (s < 1) = false := decide_eq_false h1
      have d2 : decide (s > 16) = true := decide_eq_true (by omega)
      clear hs' h1
      go_enter Try.func59, Try.ntmps59
      go_wp2
      go_ret
      exact ⟨rfl, rfl⟩
  · have hb := sizeOk_iff.mp hs
    have d1 : decide (s < 1) = false := decide_eq_false (by omega)
    have d2 : decide (s > 16) = false := decide_eq_false (by omega)
    have HK : Hid (-9223372036854775808 ≤ h ∧ h ≤ 9223372036854775807) := ⟨k0, k1⟩
    clear k0 k1
    cases d3 : decide (st ≤ s)
    · have hd : ¬ st ≤ s := by simpa using d3
      have HW : Hid (wrap64 (st - s) = st - s) := by unfold wrap64; rw [Hid]; omega
      clear h0 h1 hb hd
      go_enter Try.func59, Try.ntmps59
      go_wp2_with fail
      refine (rover_any _ _ HK.out.1 HK.out.2 _).mono ?_
      rintro e w' ⟨rfl, rfl⟩
      rw [HW.out]
      go_wp2
      go_ret
      exact ⟨rfl, rfl⟩
    · clear h0 h1 hb
      go_enter Try.func59, Try.ntmps59
      go_wp2
      go_ret
      exact ⟨rfl, rfl⟩
end Go.Proofs.Ytfbbcjlbelnfaaa
