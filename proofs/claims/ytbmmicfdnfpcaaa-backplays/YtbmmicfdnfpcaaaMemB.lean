/- Where the program finds a word. -/
import Derived.Test.YtbmmicfdnfpcaaaMemA
namespace Go.Proofs.Ytbmmicfdnfpcaaa
set_option linter.unusedVariables false
open Go.ChangeShapes Go.WideShapes Go.ChangeAt Go.RowKit

theorem below_alloc {w w' : World} (h : Below w.heap.size w w') (o : Obj) : Below w.heap.size w (w'.alloc o) := h.alloc h.size o
theorem below_drawn {w w' : World} (h : Below w.heap.size w w') (n : Nat) : Below w.heap.size w (w'.drewN n) := ⟨h.os, h.tape, h.output, h.size, h.block⟩
theorem below_a1 (w : World) (o1 : Obj) : Below w.heap.size w (w.alloc o1) := below_alloc (Below.refl _ _) _
theorem below_then {w w1 w2 : World} (h : Below w.heap.size w w1) (k : Below w1.heap.size w1 w2) : Below w.heap.size w w2 := h.trans (k.mono h.size)

/-- Where a word stands, or nowhere. -/
def ptr_ (c r M H S C : Nat) (a : Ad) : Value := if isAd c r a then .pointer (some (at_ M H S C a)) else .pointer none
theorem below_s (x y : Int) (b : Bool) (h : (decide (0 ≤ x) && decide (x < y)) = b) (w : World) : Calls Try.prog 51 #[.int .i64 x, .int .i64 y] w fun e w' => e = .returned (.bool b) ∧ w' = w :=
  (below_any _ _ _).mono fun e w' ⟨h1, h2⟩ => ⟨by rw [h1, h], h2⟩

theorem word_none (w : World) (M H S C c r : Nat) (k i j : Int) (h1 : w.cell? ⟨M, 1, none⟩ = some (.slice (some ⟨H, 0, none⟩) r r)) (h2 : w.cell? ⟨M, 2, none⟩ = some (.slice (some ⟨S, 0, none⟩) r r)) (h3 : w.cell? ⟨M, 3, none⟩ = some (.slice (some ⟨C, 0, none⟩) c c)) (hr : r < 1000000) (hc : c < 1000000) (hk : k ≠ 1 ∧ k ≠ 2 ∧ k ≠ 3 ∧ k ≠ 4) :
    Calls Try.prog 29 #[.pointer (some ⟨M, 0, none⟩), .agg #[.int .i64 k, .int .i64 i, .int .i64 j]] w fun e w' => e = .returned (.pointer none) ∧ Below w.heap.size w w' := by
  have n1 : (k == 1) = false := by simp; omega
  have n2 : (k == 2) = false := by simp; omega
  have n3 : (k == 3) = false := by simp; omega
  have n4 : (k == 4) = false := by simp; omega
  clear hk
  have hM : M < w.heap.size := World.block_lt_of_cell? w _ h1
  go_enter Try.func29, Try.ntmps29
  go_wp2
  go_quiet (fail)
  go_wp2
  go_quiet (fail)
  go_wp2
  go_quiet (fail)
  go_wp2
  go_ret
  exact ⟨rfl, below_drawn (below_drawn (below_drawn (below_a1 _ _) _) _) _⟩

theorem word_newest (w : World) (M H S C c r : Nat) (k i j : Int) (h1 : w.cell? ⟨M, 1, none⟩ = some (.slice (some ⟨H, 0, none⟩) r r)) (h2 : w.cell? ⟨M, 2, none⟩ = some (.slice (some ⟨S, 0, none⟩) r r)) (h3 : w.cell? ⟨M, 3, none⟩ = some (.slice (some ⟨C, 0, none⟩) c c)) (hr : r < 1000000) (hc : c < 1000000) (hk : k = 1) (hi : i = 0) (hj : j = 0) :
    Calls Try.prog 29 #[.pointer (some ⟨M, 0, none⟩), .agg #[.int .i64 k, .int .i64 i, .int .i64 j]] w fun e w' => e = .returned (.pointer (some ⟨M, 0, none⟩)) ∧ Below w.heap.size w w' := by
  subst hk hi hj
  have hM : M < w.heap.size := World.block_lt_of_cell? w _ h1
  go_enter Try.func29, Try.ntmps29
  go_wp2
  go_ret
  exact ⟨rfl, below_a1 _ _⟩

theorem word_newest1 (w : World) (M H S C c r : Nat) (k i j : Int) (h1 : w.cell? ⟨M, 1, none⟩ = some (.slice (some ⟨H, 0, none⟩) r r)) (h2 : w.cell? ⟨M, 2, none⟩ = some (.slice (some ⟨S, 0, none⟩) r r)) (h3 : w.cell? ⟨M, 3, none⟩ = some (.slice (some ⟨C, 0, none⟩) c c)) (hr : r < 1000000) (hc : c < 1000000) (hk : k = 1) (hi : i ≠ 0) :
    Calls Try.prog 29 #[.pointer (some ⟨M, 0, none⟩), .agg #[.int .i64 k, .int .i64 i, .int .i64 j]] w fun e w' => e = .returned (.pointer none) ∧ Below w.heap.size w w' := by
  subst hk
  have ni : (i == 0) = false := by simpa using hi
  clear hi
  have hM : M < w.heap.size := World.block_lt_of_cell? w _ h1
  go_enter Try.func29, Try.ntmps29
  go_wp2
  go_quiet (fail)
  go_wp2
  go_quiet (fail)
  go_wp2
  go_quiet (fail)
  go_wp2
  go_ret
  exact ⟨rfl, below_drawn (below_drawn (below_drawn (below_a1 _ _) _) _) _⟩

theorem word_newest2 (w : World) (M H S C c r : Nat) (k i j : Int) (h1 : w.cell? ⟨M, 1, none⟩ = some (.slice (some ⟨H, 0, none⟩) r r)) (h2 : w.cell? ⟨M, 2, none⟩ = some (.slice (some ⟨S, 0, none⟩) r r)) (h3 : w.cell? ⟨M, 3, none⟩ = some (.slice (some ⟨C, 0, none⟩) c c)) (hr : r < 1000000) (hc : c < 1000000) (hk : k = 1) (hi : i = 0) (hj : j ≠ 0) :
    Calls Try.prog 29 #[.pointer (some ⟨M, 0, none⟩), .agg #[.int .i64 k, .int .i64 i, .int .i64 j]] w fun e w' => e = .returned (.pointer none) ∧ Below w.heap.size w w' := by
  subst hk hi
  have nj : (j == 0) = false := by simpa using hj
  clear hj
  have hM : M < w.heap.size := World.block_lt_of_cell? w _ h1
  go_enter Try.func29, Try.ntmps29
  go_wp2
  go_quiet (fail)
  go_wp2
  go_quiet (fail)
  go_wp2
  go_quiet (fail)
  go_wp2
  go_ret
  exact ⟨rfl, below_drawn (below_drawn (below_drawn (below_a1 _ _) _) _) _⟩

theorem word_head (w : World) (M H S C c r : Nat) (k i j : Int) (h1 : w.cell? ⟨M, 1, none⟩ = some (.slice (some ⟨H, 0, none⟩) r r)) (h2 : w.cell? ⟨M, 2, none⟩ = some (.slice (some ⟨S, 0, none⟩) r r)) (h3 : w.cell? ⟨M, 3, none⟩ = some (.slice (some ⟨C, 0, none⟩) c c)) (hr : r < 1000000) (hc : c < 1000000) (hk : k = 2) (n : Nat) (hi : i = (n : Int)) (hn : n < r) (hj : j = 0) :
    Calls Try.prog 29 #[.pointer (some ⟨M, 0, none⟩), .agg #[.int .i64 k, .int .i64 i, .int .i64 j]] w fun e w' => e = .returned (.pointer (some ⟨H, n, none⟩)) ∧ Below w.heap.size w w' := by
  subst hk hi hj
  have HB : Hid (∀ (x0 : World), Calls Try.prog 51 #[.int .i64 (n : Int), .int .i64 (r : Int)] x0 fun e x1 => e = .returned (.bool true) ∧ x1 = x0) := fun x0 => below_s (n : Int) (r : Int) true (by simp; omega) x0
  have hx : ((n : Int) < (r : Int)) := by omega
  have hM : M < w.heap.size := World.block_lt_of_cell? w _ h1
  go_enter Try.func29, Try.ntmps29
  go_wp2
  go_quiet ((go_at_call 51; refine (HB.out _).mono ?_; rintro e x0 ⟨rfl, rfl⟩; exact ⟨rfl, _, rfl⟩))
  go_wp2
  go_quiet (fail)
  go_wp2
  go_ret
  exact ⟨rfl, below_drawn (below_drawn (below_a1 _ _) _) _⟩

theorem word_head1 (w : World) (M H S C c r : Nat) (k i j : Int) (h1 : w.cell? ⟨M, 1, none⟩ = some (.slice (some ⟨H, 0, none⟩) r r)) (h2 : w.cell? ⟨M, 2, none⟩ = some (.slice (some ⟨S, 0, none⟩) r r)) (h3 : w.cell? ⟨M, 3, none⟩ = some (.slice (some ⟨C, 0, none⟩) c c)) (hr : r < 1000000) (hc : c < 1000000) (hk : k = 2) (hi : ¬ (0 ≤ i ∧ i < (r : Int))) :
    Calls Try.prog 29 #[.pointer (some ⟨M, 0, none⟩), .agg #[.int .i64 k, .int .i64 i, .int .i64 j]] w fun e w' => e = .returned (.pointer none) ∧ Below w.heap.size w w' := by
  subst hk
  have HB : Hid (∀ (x0 : World), Calls Try.prog 51 #[.int .i64 i, .int .i64 (r : Int)] x0 fun e x1 => e = .returned (.bool false) ∧ x1 = x0) := fun x0 => below_s i (r : Int) false (by simp; omega) x0
  clear hi
  have hM : M < w.heap.size := World.block_lt_of_cell? w _ h1
  go_enter Try.func29, Try.ntmps29
  go_wp2
  go_quiet ((go_at_call 51; refine (HB.out _).mono ?_; rintro e x0 ⟨rfl, rfl⟩; exact ⟨rfl, _, rfl⟩))
  go_wp2
  go_quiet (fail)
  go_wp2
  go_quiet (fail)
  go_wp2
  go_ret
  exact ⟨rfl, below_drawn (below_drawn (below_drawn (below_a1 _ _) _) _) _⟩

theorem word_head2 (w : World) (M H S C c r : Nat) (k i j : Int) (h1 : w.cell? ⟨M, 1, none⟩ = some (.slice (some ⟨H, 0, none⟩) r r)) (h2 : w.cell? ⟨M, 2, none⟩ = some (.slice (some ⟨S, 0, none⟩) r r)) (h3 : w.cell? ⟨M, 3, none⟩ = some (.slice (some ⟨C, 0, none⟩) c c)) (hr : r < 1000000) (hc : c < 1000000) (hk : k = 2) (hi : 0 ≤ i ∧ i < (r : Int)) (hj : j ≠ 0) :
    Calls Try.prog 29 #[.pointer (some ⟨M, 0, none⟩), .agg #[.int .i64 k, .int .i64 i, .int .i64 j]] w fun e w' => e = .returned (.pointer none) ∧ Below w.heap.size w w' := by
  subst hk
  have HB : Hid (∀ (x0 : World), Calls Try.prog 51 #[.int .i64 i, .int .i64 (r : Int)] x0 fun e x1 => e = .returned (.bool true) ∧ x1 = x0) := fun x0 => below_s i (r : Int) true (by simp; omega) x0
  have nj : (j == 0) = false := by simpa using hj
  clear hi hj
  have hM : M < w.heap.size := World.block_lt_of_cell? w _ h1
  go_enter Try.func29, Try.ntmps29
  go_wp2
  go_quiet ((go_at_call 51; refine (HB.out _).mono ?_; rintro e x0 ⟨rfl, rfl⟩; exact ⟨rfl, _, rfl⟩))
  go_wp2
  go_quiet (fail)
  go_wp2
  go_quiet (fail)
  go_wp2
  go_ret
  exact ⟨rfl, below_drawn (below_drawn (below_drawn (below_a1 _ _) _) _) _⟩

theorem word_cell (w : World) (M H S C c r : Nat) (k i j : Int) (h1 : w.cell? ⟨M, 1, none⟩ = some (.slice (some ⟨H, 0, none⟩) r r)) (h2 : w.cell? ⟨M, 2, none⟩ = some (.slice (some ⟨S, 0, none⟩) r r)) (h3 : w.cell? ⟨M, 3, none⟩ = some (.slice (some ⟨C, 0, none⟩) c c)) (hr : r < 1000000) (hc : c < 1000000) (hk : k = 4) (n : Nat) (hi : i = (n : Int)) (hn : n < c) (hj : j = 0) :
    Calls Try.prog 29 #[.pointer (some ⟨M, 0, none⟩), .agg #[.int .i64 k, .int .i64 i, .int .i64 j]] w fun e w' => e = .returned (.pointer (some ⟨C, n, none⟩)) ∧ Below w.heap.size w w' := by
  subst hk hi hj
  have HB : Hid (∀ (x0 : World), Calls Try.prog 51 #[.int .i64 (n : Int), .int .i64 (c : Int)] x0 fun e x1 => e = .returned (.bool true) ∧ x1 = x0) := fun x0 => below_s (n : Int) (c : Int) true (by simp; omega) x0
  have hx : ((n : Int) < (c : Int)) := by omega
  have hM : M < w.heap.size := World.block_lt_of_cell? w _ h1
  go_enter Try.func29, Try.ntmps29
  go_wp2
  go_quiet (fail)
  go_wp2
  go_quiet (fail)
  go_wp2
  go_quiet ((go_at_call 51; refine (HB.out _).mono ?_; rintro e x0 ⟨rfl, rfl⟩; exact ⟨rfl, _, rfl⟩))
  go_wp2
  go_quiet (fail)
  go_wp2
  go_ret
  exact ⟨rfl, below_drawn (below_drawn (below_drawn (below_drawn (below_a1 _ _) _) _) _) _⟩

theorem word_cell1 (w : World) (M H S C c r : Nat) (k i j : Int) (h1 : w.cell? ⟨M, 1, none⟩ = some (.slice (some ⟨H, 0, none⟩) r r)) (h2 : w.cell? ⟨M, 2, none⟩ = some (.slice (some ⟨S, 0, none⟩) r r)) (h3 : w.cell? ⟨M, 3, none⟩ = some (.slice (some ⟨C, 0, none⟩) c c)) (hr : r < 1000000) (hc : c < 1000000) (hk : k = 4) (hi : ¬ (0 ≤ i ∧ i < (c : Int))) :
    Calls Try.prog 29 #[.pointer (some ⟨M, 0, none⟩), .agg #[.int .i64 k, .int .i64 i, .int .i64 j]] w fun e w' => e = .returned (.pointer none) ∧ Below w.heap.size w w' := by
  subst hk
  have HB : Hid (∀ (x0 : World), Calls Try.prog 51 #[.int .i64 i, .int .i64 (c : Int)] x0 fun e x1 => e = .returned (.bool false) ∧ x1 = x0) := fun x0 => below_s i (c : Int) false (by simp; omega) x0
  clear hi
  have hM : M < w.heap.size := World.block_lt_of_cell? w _ h1
  go_enter Try.func29, Try.ntmps29
  go_wp2
  go_quiet (fail)
  go_wp2
  go_quiet (fail)
  go_wp2
  go_quiet ((go_at_call 51; refine (HB.out _).mono ?_; rintro e x0 ⟨rfl, rfl⟩; exact ⟨rfl, _, rfl⟩))
  go_wp2
  go_ret
  exact ⟨rfl, below_drawn (below_drawn (below_drawn (below_a1 _ _) _) _) _⟩

theorem word_cell2 (w : World) (M H S C c r : Nat) (k i j : Int) (h1 : w.cell? ⟨M, 1, none⟩ = some (.slice (some ⟨H, 0, none⟩) r r)) (h2 : w.cell? ⟨M, 2, none⟩ = some (.slice (some ⟨S, 0, none⟩) r r)) (h3 : w.cell? ⟨M, 3, none⟩ = some (.slice (some ⟨C, 0, none⟩) c c)) (hr : r < 1000000) (hc : c < 1000000) (hk : k = 4) (hi : 0 ≤ i ∧ i < (c : Int)) (hj : j ≠ 0) :
    Calls Try.prog 29 #[.pointer (some ⟨M, 0, none⟩), .agg #[.int .i64 k, .int .i64 i, .int .i64 j]] w fun e w' => e = .returned (.pointer none) ∧ Below w.heap.size w w' := by
  subst hk
  have HB : Hid (∀ (x0 : World), Calls Try.prog 51 #[.int .i64 i, .int .i64 (c : Int)] x0 fun e x1 => e = .returned (.bool true) ∧ x1 = x0) := fun x0 => below_s i (c : Int) true (by simp; omega) x0
  have nj : (j == 0) = false := by simpa using hj
  clear hi hj
  have hM : M < w.heap.size := World.block_lt_of_cell? w _ h1
  go_enter Try.func29, Try.ntmps29
  go_wp2
  go_quiet (fail)
  go_wp2
  go_quiet (fail)
  go_wp2
  go_quiet ((go_at_call 51; refine (HB.out _).mono ?_; rintro e x0 ⟨rfl, rfl⟩; exact ⟨rfl, _, rfl⟩))
  go_wp2
  go_ret
  exact ⟨rfl, below_drawn (below_drawn (below_drawn (below_a1 _ _) _) _) _⟩

theorem word_sig (w : World) (M H S C c r : Nat) (k i j : Int) (h1 : w.cell? ⟨M, 1, none⟩ = some (.slice (some ⟨H, 0, none⟩) r r)) (h2 : w.cell? ⟨M, 2, none⟩ = some (.slice (some ⟨S, 0, none⟩) r r)) (h3 : w.cell? ⟨M, 3, none⟩ = some (.slice (some ⟨C, 0, none⟩) c c)) (hr : r < 1000000) (hc : c < 1000000) (hk : k = 3) (n m : Nat) (hi : i = (n : Int)) (hn : n < r) (hj : j = (m : Int)) (hm : m < 8) :
    Calls Try.prog 29 #[.pointer (some ⟨M, 0, none⟩), .agg #[.int .i64 k, .int .i64 i, .int .i64 j]] w fun e w' => e = .returned (.pointer (some ⟨S, n * 8 + m, none⟩)) ∧ Below w.heap.size w w' := by
  subst hk hi hj
  have d1 : (decide (0 ≤ (n : Int)) && decide ((n : Int) < (r : Int))) = true := by simp; omega
  have d2 : (decide (0 ≤ (m : Int)) && decide ((m : Int) < 8)) = true := by simp; omega
  have hx : ((n : Int) < (r : Int)) := by omega
  have hy : ((m : Int) < 8) := by omega
  have hM : M < w.heap.size := World.block_lt_of_cell? w _ h1
  go_enter Try.func29, Try.ntmps29
  go_wp2
  go_quiet (fail)
  go_wp2
  go_quiet ((go_at_call 51; refine (below_any _ _ _).mono ?_; rintro e x0 ⟨rfl, rfl⟩; refine ⟨?_, _, rfl⟩; first | rw [d1] | rw [d2]))
  go_wp2
  go_quiet (fail)
  go_wp2
  go_ret
  exact ⟨rfl, below_drawn (below_drawn (below_drawn (below_a1 _ _) _) _) _⟩

theorem word_sig1 (w : World) (M H S C c r : Nat) (k i j : Int) (h1 : w.cell? ⟨M, 1, none⟩ = some (.slice (some ⟨H, 0, none⟩) r r)) (h2 : w.cell? ⟨M, 2, none⟩ = some (.slice (some ⟨S, 0, none⟩) r r)) (h3 : w.cell? ⟨M, 3, none⟩ = some (.slice (some ⟨C, 0, none⟩) c c)) (hr : r < 1000000) (hc : c < 1000000) (hk : k = 3) (hi : ¬ (0 ≤ i ∧ i < (r : Int))) :
    Calls Try.prog 29 #[.pointer (some ⟨M, 0, none⟩), .agg #[.int .i64 k, .int .i64 i, .int .i64 j]] w fun e w' => e = .returned (.pointer none) ∧ Below w.heap.size w w' := by
  subst hk
  have HB : Hid (∀ (x0 : World), Calls Try.prog 51 #[.int .i64 i, .int .i64 (r : Int)] x0 fun e x1 => e = .returned (.bool false) ∧ x1 = x0) := fun x0 => below_s i (r : Int) false (by simp; omega) x0
  clear hi
  have hM : M < w.heap.size := World.block_lt_of_cell? w _ h1
  go_enter Try.func29, Try.ntmps29
  go_wp2
  go_quiet (fail)
  go_wp2
  go_quiet ((go_at_call 51; refine (HB.out _).mono ?_; rintro e x0 ⟨rfl, rfl⟩; exact ⟨rfl, _, rfl⟩))
  go_wp2
  go_quiet (fail)
  go_wp2
  go_ret
  exact ⟨rfl, below_drawn (below_drawn (below_drawn (below_a1 _ _) _) _) _⟩

theorem word_sig2 (w : World) (M H S C c r : Nat) (k i j : Int) (h1 : w.cell? ⟨M, 1, none⟩ = some (.slice (some ⟨H, 0, none⟩) r r)) (h2 : w.cell? ⟨M, 2, none⟩ = some (.slice (some ⟨S, 0, none⟩) r r)) (h3 : w.cell? ⟨M, 3, none⟩ = some (.slice (some ⟨C, 0, none⟩) c c)) (hr : r < 1000000) (hc : c < 1000000) (hk : k = 3) (hi : 0 ≤ i ∧ i < (r : Int)) (hj : ¬ (0 ≤ j ∧ j < 8)) :
    Calls Try.prog 29 #[.pointer (some ⟨M, 0, none⟩), .agg #[.int .i64 k, .int .i64 i, .int .i64 j]] w fun e w' => e = .returned (.pointer none) ∧ Below w.heap.size w w' := by
  subst hk
  have d1 : (decide (0 ≤ i) && decide (i < (r : Int))) = true := by simp; omega
  have d2 : (decide (0 ≤ j) && decide (j < 8)) = false := by simp; omega
  clear hi hj
  have hM : M < w.heap.size := World.block_lt_of_cell? w _ h1
  go_enter Try.func29, Try.ntmps29
  go_wp2
  go_quiet (fail)
  go_wp2
  go_quiet ((go_at_call 51; refine (below_any _ _ _).mono ?_; rintro e x0 ⟨rfl, rfl⟩; refine ⟨?_, _, rfl⟩; first | rw [d1] | rw [d2]))
  go_wp2
  go_quiet (fail)
  go_wp2
  go_ret
  exact ⟨rfl, below_drawn (below_drawn (below_drawn (below_a1 _ _) _) _) _⟩

end Go.Proofs.Ytbmmicfdnfpcaaa
