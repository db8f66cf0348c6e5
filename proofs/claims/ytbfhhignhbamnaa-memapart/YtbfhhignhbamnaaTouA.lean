/- An access reckoned, addresses compared, touches sorted. -/
import Derived.Test.YtbfhhignhbamnaaRefE
import Derived.Test.YtbfhhignhbamnaaTouM
import Derived.Test.YtbfhhignhbamnaaSort
namespace Go.Proofs.Ytbfhhignhbamnaa
open Go.ChangeShapes Go.WideShapes Go.ChangeAt Go.RowKit
open Go.Sort (grow grow_grow alloc_eq_grow)
attribute [local go_sem ↓] Go.wp_at_zero Go.wp_at_succ

def toC (t : To) : List Value := [.int .i64 t.a.k, .int .i64 t.a.i, .int .i64 t.a.j, .int .i64 t.l, .int .i64 t.s, .int .i64 t.w]

/-- One more at a place. -/
theorem reckon_any (w : World) (g o : Nat) (k l s v : Int) (hk : k = 1 ∨ k = 2 ∨ k = 3) (h3 : w.cell? ⟨g, o + 3, none⟩ = some (.int .i64 l)) (h4 : w.cell? ⟨g, o + 4, none⟩ = some (.int .i64 s)) (h5 : w.cell? ⟨g, o + 5, none⟩ = some (.int .i64 v))
    (f3 : w.frozen? ⟨g, o + 3, none⟩ = false) (f4 : w.frozen? ⟨g, o + 4, none⟩ = false) (f5 : w.frozen? ⟨g, o + 5, none⟩ = false) (b1 : 0 ≤ l ∧ l ≤ 2199023255552) (b2 : 0 ≤ s ∧ s ≤ 2199023255552) (b3 : 0 ≤ v ∧ v ≤ 2199023255552) :
    Calls Try.prog 33 #[.pointer (some ⟨g, o, none⟩), .int .i64 k] w fun e w' => e = .returned (.tuple #[]) ∧ w' = (if k = 1 then w.setCell ⟨g, o + 3, none⟩ (.int .i64 (l + 1)) else if k = 2 then w.setCell ⟨g, o + 4, none⟩ (.int .i64 (s + 1)) else w.setCell ⟨g, o + 5, none⟩ (.int .i64 (v + 1))) := by
  rcases hk with rfl | rfl | rfl
  · go_enter Try.func33, Try.ntmps33
    go_wp2
    first | refine bodyPost_end (results_none rfl _ _ _) rfl ?_ | refine bodyPost_ret (results_none rfl _ _ _) rfl ?_
    exact ⟨rfl, rfl⟩
  · go_enter Try.func33, Try.ntmps33
    go_wp2
    first | refine bodyPost_end (results_none rfl _ _ _) rfl ?_ | refine bodyPost_ret (results_none rfl _ _ _) rfl ?_
    exact ⟨rfl, rfl⟩
  · go_enter Try.func33, Try.ntmps33
    go_wp2
    first | refine bodyPost_end (results_none rfl _ _ _) rfl ?_ | refine bodyPost_ret (results_none rfl _ _ _) rfl ?_
    exact ⟨rfl, rfl⟩

def cmpI (x y : Int) : Int := if x < y then -1 else if y < x then 1 else 0
theorem cmp_any (x y : Int) (w : World) : Calls Try.prog 43 #[.int .i64 x, .int .i64 y] w fun e w' => e = .returned (.int .i64 (cmpI x y)) ∧ w' = w := by
  by_cases h1 : x < y
  · go_enter Try.func43, Try.ntmps43
    go_wp2
    go_ret
    exact ⟨by simp [cmpI, h1], rfl⟩
  · by_cases h2 : y < x
    · go_enter Try.func43, Try.ntmps43
      go_wp2
      go_ret
      exact ⟨by simp [cmpI, h1, h2], rfl⟩
    · go_enter Try.func43, Try.ntmps43
      go_wp2
      go_ret
      exact ⟨by unfold cmpI; rw [if_neg (by omega), if_neg (by omega)]; rfl, rfl⟩
def orI (x y z : Int) : Int := if x ≠ 0 then x else if y ≠ 0 then y else z
theorem or_any (x y z : Int) (w : World) (g : Nat) (h0 : w.cell? ⟨g, 0, none⟩ = some (.int .i64 x)) (h1 : w.cell? ⟨g, 1, none⟩ = some (.int .i64 y)) (h2 : w.cell? ⟨g, 2, none⟩ = some (.int .i64 z)) :
    Calls Try.prog 42 #[.slice (some ⟨g, 0, none⟩) 3 3] w fun e w' => e = .returned (.int .i64 (orI x y z)) ∧ w' = w := by
  by_cases e0 : x = 0
  · subst e0
    by_cases e1 : y = 0
    · subst e1
      by_cases e2 : z = 0
      · subst e2
        go_enter Try.func42, Try.ntmps42
        go_wp2
        refine wp_loop_rounds 4 ?_
        rw [rounds_succ]
        go_wp2
        rw [rounds_succ]
        go_wp2
        rw [rounds_succ]
        go_wp2
        rw [rounds_succ]
        go_wp2
        go_ret
        exact ⟨by simp [orI], rfl⟩
      · have b : (z != 0) = true := by simpa using e2
        go_enter Try.func42, Try.ntmps42
        go_wp2
        refine wp_loop_rounds 4 ?_
        rw [rounds_succ]
        go_wp2
        rw [rounds_succ]
        go_wp2
        rw [rounds_succ]
        go_wp2
        go_ret
        exact ⟨by simp [orI], rfl⟩
    · have b : (y != 0) = true := by simpa using e1
      go_enter Try.func42, Try.ntmps42
      go_wp2
      refine wp_loop_rounds 4 ?_
      rw [rounds_succ]
      go_wp2
      rw [rounds_succ]
      go_wp2
      go_ret
      exact ⟨by simp [orI, e1], rfl⟩
  · have b : (x != 0) = true := by simpa using e0
    go_enter Try.func42, Try.ntmps42
    go_wp2
    refine wp_loop_rounds 4 ?_
    rw [rounds_succ]
    go_wp2
    go_ret
    exact ⟨by simp [orI, e0], rfl⟩
end Go.Proofs.Ytbfhhignhbamnaa
