/- A region's size: the program's and the document's. -/
import Derived.Test.YtgbmnngmfcneaaaPcA
import Derived.Laws.EntriesVeiled
namespace Go.Proofs.Ytgbmnngmfcneaaa.Pc
open Go.ChangeShapes Go.WideShapes Go.ChangeAt Go.RowKit
attribute [local go_sem ↓] Go.wp_at_zero Go.wp_at_succ

def regV (x : Rg) : Value := .agg #[.int .i64 x.1, .int .i64 x.2]
theorem isreg_any (w : World) (x : Rg) : Calls Try.prog 70 #[regV x] w fun e w' => e = .returned (.bool (okR x)) ∧ Below w.heap.size w w' := by
  obtain ⟨k, m⟩ := x
  unfold regV okR
  dsimp only
  cases h1 : decide (1 ≤ k) <;> cases h2 : decide (k ≤ 4) <;> cases h3 : decide (0 ≤ m) <;> cases h4 : decide (m ≤ 16)
  all_goals
    go_enter Try.func70, Try.ntmps70
    go_wp2
    go_ret
    exact ⟨by simp, by first | exact Below.refl _ _ | exact below_a1 _ _⟩
theorem row_nx {w w' : World} {o : Obj} (hb : Below (w.alloc o).heap.size (w.alloc o) w') : w'.heap[w.heap.size]? = some o := by
  rw [hb.block _ (by simp)]; exact heap_alloc_new _ _
theorem okR_parts {x : Rg} (h : okR x = true) : (x.1 = 1 ∨ x.1 = 2 ∨ x.1 = 3 ∨ x.1 = 4) ∧ capB x.2 = true := by
  simp only [okR, Bool.and_eq_true, decide_eq_true_eq] at h
  refine ⟨by omega, ?_⟩
  simp only [capB, Bool.and_eq_true, decide_eq_true_eq]
  omega
def Sans (x : Rg) (w : World) : Ending → World → Prop := fun e w' => e = .returned (.tuple #[.int .i64 (szV x), .int .i64 (erV x)]) ∧ Below w.heap.size w w'
theorem rsize_any (w : World) (x : Rg) : Calls Try.prog 53 #[regV x] w (Sans x w) := by
  have HR : Hid (∀ w : World, Calls Try.prog 71 #[.int .i64 x.2] w fun e w' => e = .returned (.bool (capB x.2)) ∧ w' = w) := fun w => capR w x.2
  obtain ⟨k, m⟩ := x
  dsimp only at HR
  cases hm : capB m with
  | false =>
    have h : okR (k, m) = false := by
      rw [Bool.eq_false_iff]
      intro h
      rw [(okR_parts h).2] at hm
      cases hm
    unfold Sans szV erV
    rw [h]
    rw [hm] at HR
    clear h hm
    unfold regV
    dsimp only
    go_enter Try.func53, Try.ntmps53
    go_wp2_with fail
    refine (HR.out _).mono ?_
    rintro e w1 ⟨rfl, rfl⟩
    go_wp2_with fail
    go_ret2
    exact ⟨rfl, below_a1 _ _⟩
  | true =>
    have H1 : Hid (∀ w : World, Calls Try.prog 72 #[.int .i64 m] w fun e w' => e = .returned (.int .i64 m) ∧ w' = w) := fun w => rs15 w hm
    have H2 : Hid (∀ w : World, Calls Try.prog 73 #[.int .i64 m] w fun e w' => e = .returned (.int .i64 (m + 2)) ∧ w' = w) := fun w => rs16 w hm
    have H3 : Hid (∀ w : World, Calls Try.prog 74 #[.int .i64 m] w fun e w' => e = .returned (.int .i64 (3 * m + 1)) ∧ w' = w) := fun w => rs17 w hm
    have H4 : Hid (∀ w : World, Calls Try.prog 75 #[.int .i64 m] w fun e w' => e = .returned (.int .i64 (2 * m + 3)) ∧ w' = w) := fun w => rs18 w hm
    by_cases hk : 1 ≤ k ∧ k ≤ 4
    · have h : okR (k, m) = true := by
        have := capB_yes hm
        simp only [okR, Bool.and_eq_true, decide_eq_true_eq]
        omega
      have hk' := (okR_parts h).1
      unfold Sans szV erV
      rw [h]
      rw [hm] at HR
      clear h hm hk
      unfold regV
      dsimp only at hk' ⊢
      rcases hk' with rfl | rfl | rfl | rfl
      · go_enter Try.func53, Try.ntmps53
        go_wp2_with fail
        refine (HR.out _).mono ?_
        rintro e w1 ⟨rfl, rfl⟩
        go_wp2_with fail
        refine (H1.out _).mono ?_
        rintro e w1 ⟨rfl, rfl⟩
        go_wp2_with fail
        go_ret2
        exact ⟨rfl, below_a1 _ _⟩
      · go_enter Try.func53, Try.ntmps53
        go_wp2_with fail
        refine (HR.out _).mono ?_
        rintro e w1 ⟨rfl, rfl⟩
        go_wp2_with fail
        refine (H2.out _).mono ?_
        rintro e w1 ⟨rfl, rfl⟩
        go_wp2_with fail
        go_ret2
        exact ⟨rfl, below_a1 _ _⟩
      · go_enter Try.func53, Try.ntmps53
        go_wp2_with fail
        refine (HR.out _).mono ?_
        rintro e w1 ⟨rfl, rfl⟩
        go_wp2_with fail
        refine (H3.out _).mono ?_
        rintro e w1 ⟨rfl, rfl⟩
        go_wp2_with fail
        go_ret2
        exact ⟨rfl, below_a1 _ _⟩
      · go_enter Try.func53, Try.ntmps53
        go_wp2_with fail
        refine (HR.out _).mono ?_
        rintro e w1 ⟨rfl, rfl⟩
        go_wp2_with fail
        refine (H4.out _).mono ?_
        rintro e w1 ⟨rfl, rfl⟩
        go_wp2_with fail
        go_ret2
        exact ⟨rfl, below_a1 _ _⟩
    · have h : okR (k, m) = false := by
        rw [Bool.eq_false_iff]
        intro h
        have := (okR_parts h).1
        dsimp only at this
        omega
      have n1 : (k == 1) = false := by simpa using (by omega : ¬ k = 1)
      have n2 : (k == 2) = false := by simpa using (by omega : ¬ k = 2)
      have n3 : (k == 3) = false := by simpa using (by omega : ¬ k = 3)
      have n4 : (k == 4) = false := by simpa using (by omega : ¬ k = 4)
      unfold Sans szV erV
      rw [h]
      rw [hm] at HR
      clear h hm hk
      unfold regV
      dsimp only
      go_enter Try.func53, Try.ntmps53
      go_wp2_with fail
      refine (HR.out _).mono ?_
      rintro e w1 ⟨rfl, rfl⟩
      go_wp2_with fail
      go_ret2
      exact ⟨rfl, below_a1 _ _⟩
end Go.Proofs.Ytgbmnngmfcneaaa.Pc
