/- Addresses compared. -/
import Derived.Test.YtbfhhignhbamnaaTouA
namespace Go.Proofs.Ytbfhhignhbamnaa
open Go.ChangeShapes Go.WideShapes Go.ChangeAt Go.RowKit
open Go.Sort (grow grow_grow alloc_eq_grow)
attribute [local go_sem ↓] Go.wp_at_zero Go.wp_at_succ

def cmpAd (a b : Ad) : Int := orI (cmpI a.k b.k) (cmpI a.i b.i) (cmpI a.j b.j)
theorem grow_drewN (w : World) (os : Array Obj) (q : Nat) : (grow w os).drewN q = grow (w.drewN q) os := rfl
theorem grow3 (w : World) (a b c : Obj) : (((w.alloc a).alloc b).alloc c).drew = grow (w.drewN 1) #[a, b, c] := by
  rw [alloc_eq_grow, alloc_eq_grow, alloc_eq_grow, grow_grow, grow_grow]; rfl

set_option maxRecDepth 100000 in
set_option maxHeartbeats 6400000 in
theorem compare_any (a b : Ad) (w : World) :
    Calls Try.prog 36 #[.agg #[.int .i64 a.k, .int .i64 a.i, .int .i64 a.j], .agg #[.int .i64 b.k, .int .i64 b.i, .int .i64 b.j]] w fun e w' => e = .returned (.int .i64 (cmpAd a b)) ∧ ∃ q os, w' = grow (w.drewN q) os := by
  obtain ⟨k, i, j⟩ := a
  obtain ⟨k', i', j'⟩ := b
  have HC : Hid (∀ (x y : Int) (w : World), Calls Try.prog 43 #[.int .i64 x, .int .i64 y] w fun e w' => e = .returned (.int .i64 (cmpI x y)) ∧ w' = w) := cmp_any
  unfold cmpAd
  generalize hx1 : cmpI k k' = x1
  generalize hx2 : cmpI i i' = x2
  generalize hx3 : cmpI j j' = x3
  have HCM : Hid (∀ (x y : Int) (w : World), Calls Try.prog 43 #[.int .i64 x, .int .i64 y] w fun e w' => e = .returned (.int .i64 (cmpI x y)) ∧ w' = w) := cmp_any
  have HO : Hid (∀ (w : World) (g : Nat), w.cell? ⟨g, 0, none⟩ = some (.int .i64 x1) → w.cell? ⟨g, 1, none⟩ = some (.int .i64 x2) → w.cell? ⟨g, 2, none⟩ = some (.int .i64 x3) → Calls Try.prog 42 #[.slice (some ⟨g, 0, none⟩) 3 3] w fun e w' => e = .returned (.int .i64 (orI x1 x2 x3)) ∧ w' = w) := fun w g => or_any x1 x2 x3 w g
  clear HC
  go_enter Try.func36, Try.ntmps36
  go_wp2_with fail
  go_region_held3 (fun w' => w'.cell? ⟨w.heap.size, 0, none⟩ = some (.int .i64 k) ∧ w'.cell? ⟨w.heap.size, 1, none⟩ = some (.int .i64 i) ∧ w'.cell? ⟨w.heap.size, 2, none⟩ = some (.int .i64 j) ∧ w'.cell? ⟨w.heap.size + 1, 0, none⟩ = some (.int .i64 k') ∧ w'.cell? ⟨w.heap.size + 1, 1, none⟩ = some (.int .i64 i') ∧ w'.cell? ⟨w.heap.size + 1, 2, none⟩ = some (.int .i64 j'))
    (first
      | go_keep)
    (first
      | (go_at_call 43; refine (HCM.out _ _ _).mono ?_; rintro e w' ⟨rfl, rfl⟩; rw [hx1])
      | (go_at_call 43; refine (HCM.out _ _ _).mono ?_; rintro e w' ⟨rfl, rfl⟩; rw [hx2])
      | (go_at_call 43; refine (HCM.out _ _ _).mono ?_; rintro e w' ⟨rfl, rfl⟩; rw [hx3])
      | (go_at_call 42; refine (HO.out _ _ (by rw [cl_drew, cell_at (h3_2 _ _ _ _)]; rfl) (by rw [cl_drew, cell_at (h3_2 _ _ _ _)]; rfl) (by rw [cl_drew, cell_at (h3_2 _ _ _ _)]; rfl)).mono ?_; rintro e w' ⟨rfl, rfl⟩))
  all_goals
    go_wp2
    go_ret
    exact ⟨rfl, 1, _, grow3 _ _ _ _⟩

theorem cmpI_lt (x y : Int) : cmpI x y < 0 ↔ x < y := by
  unfold cmpI
  split
  · omega
  · split <;> omega
theorem cmpI_zero (x y : Int) : cmpI x y = 0 ↔ x = y := by
  unfold cmpI
  split
  · omega
  · split <;> omega
theorem cmpAd_lt (a b : Ad) : decide (cmpAd a b < 0) = ahead a b := by
  rw [Bool.eq_iff_iff, ahead_iff, decide_eq_true_eq]
  unfold cmpAd orI
  have h1 := cmpI_lt a.k b.k
  have h2 := cmpI_lt a.i b.i
  have h3 := cmpI_lt a.j b.j
  have z1 := cmpI_zero a.k b.k
  have z2 := cmpI_zero a.i b.i
  split
  · omega
  · split <;> omega

set_option maxRecDepth 100000 in
theorem closure_any (x y : To) (w : World) :
    Calls Try.prog 35 #[.agg (toC x).toArray, .agg (toC y).toArray] w fun e w' => e = .returned (.int .i64 (cmpAd x.a y.a)) ∧ ∃ q os, w' = grow (w.drewN q) os := by
  obtain ⟨⟨k, i, j⟩, l, s, v⟩ := x
  obtain ⟨⟨k', i', j'⟩, l', s', v'⟩ := y
  have HC : Hid (∀ w : World, Calls Try.prog 36 #[.agg #[.int .i64 k, .int .i64 i, .int .i64 j], .agg #[.int .i64 k', .int .i64 i', .int .i64 j']] w fun e w' => e = .returned (.int .i64 (cmpAd ⟨k, i, j⟩ ⟨k', i', j'⟩)) ∧ ∃ q os, w' = grow (w.drewN q) os) := compare_any ⟨k, i, j⟩ ⟨k', i', j'⟩
  unfold toC
  generalize cmpAd ⟨k, i, j⟩ ⟨k', i', j'⟩ = r at *
  go_enter Try.func35, Try.ntmps35
  go_wp2_with fail
  refine (HC.out _).mono ?_
  rintro e w1 ⟨rfl, q, os, hw⟩
  have HW : Hid (∃ q os, w1 = grow (w.drewN q) os) := ⟨q, _, by rw [hw, alloc_eq_grow, alloc_eq_grow, grow_grow, grow_drewN]; exact grow_grow _ _ _⟩
  clear hw
  go_wp2
  go_ret
  exact ⟨rfl, HW.out⟩
end Go.Proofs.Ytbfhhignhbamnaa
