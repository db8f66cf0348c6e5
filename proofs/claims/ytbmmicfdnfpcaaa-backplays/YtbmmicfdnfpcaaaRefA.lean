/- The document's memory as it lies: New, when two addresses are one, which are addresses. -/
import Derived.Test.YtbmmicfdnfpcaaaMemI
namespace Go.Proofs.Ytbmmicfdnfpcaaa
set_option linter.unusedVariables false
open Go.ChangeShapes Go.WideShapes Go.ChangeAt Go.RowKit

structure RefAt' (w : World) (base : Nat) (p : Value) (c r : Nat) (L : List Ac) (G : List Nat) (R : Nat) (v : Value) : Prop where
  p : p = .pointer (some ⟨R, 0, none⟩)
  m : w.heap[R]? = some (.cells #[.int .i64 (c : Int), .int .i64 (r : Int), v] 67 (0, 0))
  own : w.ownsRow base 92 8 v L.length (logC L)
  F : G = R :: v.ownBlock.toList
  bR : base ≤ R
def RefAt (w : World) (base : Nat) (p : Value) (c r : Nat) (L : List Ac) (G : List Nat) : Prop := ∃ R v, RefAt' w base p c r L G R v
theorem RefAt.lt {w : World} {base : Nat} {p : Value} {c r : Nat} {L : List Ac} {F : List Nat} (h : RefAt w base p c r L F) : ∀ b ∈ F, base ≤ b ∧ b < w.heap.size := by
  obtain ⟨R, v, h⟩ := h
  intro b hb
  rw [h.F] at hb
  simp only [List.mem_cons, Option.mem_toList] at hb
  rcases hb with rfl | hb
  · exact ⟨h.bR, heap_lt h.m⟩
  · exact own_block h.own b (by simpa using hb)
theorem RefAt.keep {w w' : World} {base : Nat} {p : Value} {c r : Nat} {L : List Ac} {F G : List Nat} (h : RefAt w base p c r L F) (k : Keep G w w') (hd : ∀ b ∈ F, b ∉ G) : RefAt w' base p c r L F := by
  obtain ⟨R, v, h⟩ := h
  have hF := h.F
  refine ⟨R, v, h.p, ?_, own_keep h.own k (fun b hb => hd b ?_), h.F, h.bR⟩
  · rw [k.block _ (heap_lt h.m) (hd _ (by rw [hF]; simp))]; exact h.m
  · rw [hF, hb]; simp
theorem RefAt.below {w w' : World} {base : Nat} {p : Value} {c r : Nat} {L : List Ac} {F : List Nat} (h : RefAt w base p c r L F) (k : Below w.heap.size w w') : RefAt w' base p c r L F := h.keep (Keep.of_below k []) (fun _ _ => by simp)
theorem RefAt.ptr {w : World} {base : Nat} {p : Value} {c r : Nat} {L : List Ac} {F : List Nat} (h : RefAt w base p c r L F) : ∃ M, p = .pointer (some ⟨M, 0, none⟩) := by
  obtain ⟨R, v, h⟩ := h
  exact ⟨R, h.p⟩

theorem rnew_any (c r : Nat) (w : World) : Calls Try.prog 11 #[.int .i64 (c : Int), .int .i64 (r : Int)] w fun e w' => ∃ p G, e = .returned p ∧ RefAt w' w.heap.size p c r [] G ∧ Below w.heap.size w w' := by
  go_enter Try.func11, Try.ntmps11
  go_wp2
  go_ret
  exact ⟨_, _, rfl, ⟨_, _, rfl, heap_alloc_new _ _, World.ownsRow_nil _ _ _ _, rfl, Nat.le_refl _⟩, below_a1 _ _⟩

theorem same_any (a b : Ad) (w : World) : Calls Try.prog 69 #[.agg #[.int .i64 a.k, .int .i64 a.i, .int .i64 a.j], .agg #[.int .i64 b.k, .int .i64 b.i, .int .i64 b.j]] w fun e w' => e = .returned (.bool (decide (a = b))) ∧ Below w.heap.size w w' := by
  obtain ⟨k, i, j⟩ := a
  obtain ⟨k', i', j'⟩ := b
  by_cases h1 : k = k'
  · by_cases h2 : i = i'
    · by_cases h3 : j = j'
      · subst h1 h2 h3
        go_enter Try.func69, Try.ntmps69
        go_wp2
        go_ret
        exact ⟨by simp, below_alloc (below_a1 _ _) _⟩
      · subst h1 h2
        have e3 : (j == j') = false := by simpa using h3
        go_enter Try.func69, Try.ntmps69
        go_wp2
        go_ret
        exact ⟨by simp [h3], below_alloc (below_a1 _ _) _⟩
    · subst h1
      have e3 : (i == i') = false := by simpa using h2
      go_enter Try.func69, Try.ntmps69
      go_wp2
      go_ret
      exact ⟨by simp [h2], below_alloc (below_a1 _ _) _⟩
  · have e3 : (k == k') = false := by simpa using h1
    go_enter Try.func69, Try.ntmps69
    go_wp2
    go_ret
    exact ⟨by simp [h1], below_alloc (below_a1 _ _) _⟩

theorem is_none (w : World) (M c r : Nat) (k i j : Int) (h0 : w.cell? ⟨M, 0, none⟩ = some (.int .i64 (c : Int))) (h1 : w.cell? ⟨M, 1, none⟩ = some (.int .i64 (r : Int))) (hk : k ≠ 1 ∧ k ≠ 2 ∧ k ≠ 3 ∧ k ≠ 4) :
    Calls Try.prog 31 #[.pointer (some ⟨M, 0, none⟩), .agg #[.int .i64 k, .int .i64 i, .int .i64 j]] w fun e w' => e = .returned (.bool false) ∧ Below w.heap.size w w' := by
  have n1 : (k == 1) = false := by simp; omega
  have n2 : (k == 2) = false := by simp; omega
  have n3 : (k == 3) = false := by simp; omega
  have n4 : (k == 4) = false := by simp; omega
  clear hk
  have hM : M < w.heap.size := World.block_lt_of_cell? w _ h0
  go_enter Try.func31, Try.ntmps31
  go_wp2
  go_ret
  exact ⟨by simp, below_a1 _ _⟩

theorem is_n (w : World) (M c r : Nat) (k i j : Int) (h0 : w.cell? ⟨M, 0, none⟩ = some (.int .i64 (c : Int))) (h1 : w.cell? ⟨M, 1, none⟩ = some (.int .i64 (r : Int))) (hk : k = 1) (hi : i = 0) (hj : j = 0) :
    Calls Try.prog 31 #[.pointer (some ⟨M, 0, none⟩), .agg #[.int .i64 k, .int .i64 i, .int .i64 j]] w fun e w' => e = .returned (.bool true) ∧ Below w.heap.size w w' := by
  subst hk hi hj
  have hM : M < w.heap.size := World.block_lt_of_cell? w _ h0
  go_enter Try.func31, Try.ntmps31
  go_wp2
  go_ret
  exact ⟨by simp, below_a1 _ _⟩

theorem is_n1 (w : World) (M c r : Nat) (k i j : Int) (h0 : w.cell? ⟨M, 0, none⟩ = some (.int .i64 (c : Int))) (h1 : w.cell? ⟨M, 1, none⟩ = some (.int .i64 (r : Int))) (hk : k = 1) (hi : i ≠ 0) :
    Calls Try.prog 31 #[.pointer (some ⟨M, 0, none⟩), .agg #[.int .i64 k, .int .i64 i, .int .i64 j]] w fun e w' => e = .returned (.bool false) ∧ Below w.heap.size w w' := by
  subst hk
  have ni : (i == 0) = false := by simpa using hi
  clear hi
  have hM : M < w.heap.size := World.block_lt_of_cell? w _ h0
  go_enter Try.func31, Try.ntmps31
  go_wp2
  go_ret
  exact ⟨by simp, below_a1 _ _⟩

theorem is_n2 (w : World) (M c r : Nat) (k i j : Int) (h0 : w.cell? ⟨M, 0, none⟩ = some (.int .i64 (c : Int))) (h1 : w.cell? ⟨M, 1, none⟩ = some (.int .i64 (r : Int))) (hk : k = 1) (hi : i = 0) (hj : j ≠ 0) :
    Calls Try.prog 31 #[.pointer (some ⟨M, 0, none⟩), .agg #[.int .i64 k, .int .i64 i, .int .i64 j]] w fun e w' => e = .returned (.bool false) ∧ Below w.heap.size w w' := by
  subst hk hi
  have nj : (j == 0) = false := by simpa using hj
  clear hj
  have hM : M < w.heap.size := World.block_lt_of_cell? w _ h0
  go_enter Try.func31, Try.ntmps31
  go_wp2
  go_ret
  exact ⟨by simp, below_a1 _ _⟩

theorem is_h (w : World) (M c r : Nat) (k i j : Int) (h0 : w.cell? ⟨M, 0, none⟩ = some (.int .i64 (c : Int))) (h1 : w.cell? ⟨M, 1, none⟩ = some (.int .i64 (r : Int))) (hk : k = 2) (hi : 0 ≤ i) (hn : i < (r : Int)) (hj : j = 0) :
    Calls Try.prog 31 #[.pointer (some ⟨M, 0, none⟩), .agg #[.int .i64 k, .int .i64 i, .int .i64 j]] w fun e w' => e = .returned (.bool true) ∧ Below w.heap.size w w' := by
  subst hk hj
  have hM : M < w.heap.size := World.block_lt_of_cell? w _ h0
  go_enter Try.func31, Try.ntmps31
  go_wp2
  go_quiet (fail)
  go_wp2
  go_ret
  exact ⟨by simp, below_drawn (below_a1 _ _) _⟩

theorem is_h1 (w : World) (M c r : Nat) (k i j : Int) (h0 : w.cell? ⟨M, 0, none⟩ = some (.int .i64 (c : Int))) (h1 : w.cell? ⟨M, 1, none⟩ = some (.int .i64 (r : Int))) (hk : k = 2) (hi : ¬ 0 ≤ i) :
    Calls Try.prog 31 #[.pointer (some ⟨M, 0, none⟩), .agg #[.int .i64 k, .int .i64 i, .int .i64 j]] w fun e w' => e = .returned (.bool false) ∧ Below w.heap.size w w' := by
  subst hk
  have dn : decide (0 ≤ i) = false := by simpa using hi
  have hM : M < w.heap.size := World.block_lt_of_cell? w _ h0
  go_enter Try.func31, Try.ntmps31
  go_wp2
  go_quiet (fail)
  go_wp2
  go_ret
  exact ⟨by simp, below_drawn (below_a1 _ _) _⟩

theorem is_h2 (w : World) (M c r : Nat) (k i j : Int) (h0 : w.cell? ⟨M, 0, none⟩ = some (.int .i64 (c : Int))) (h1 : w.cell? ⟨M, 1, none⟩ = some (.int .i64 (r : Int))) (hk : k = 2) (hi : 0 ≤ i) (hn : ¬ i < (r : Int)) :
    Calls Try.prog 31 #[.pointer (some ⟨M, 0, none⟩), .agg #[.int .i64 k, .int .i64 i, .int .i64 j]] w fun e w' => e = .returned (.bool false) ∧ Below w.heap.size w w' := by
  subst hk
  have dn : decide (i < (r : Int)) = false := by simpa using hn
  have hM : M < w.heap.size := World.block_lt_of_cell? w _ h0
  go_enter Try.func31, Try.ntmps31
  go_wp2
  go_quiet (fail)
  go_wp2
  go_ret
  exact ⟨by simp, below_drawn (below_a1 _ _) _⟩

theorem is_h3 (w : World) (M c r : Nat) (k i j : Int) (h0 : w.cell? ⟨M, 0, none⟩ = some (.int .i64 (c : Int))) (h1 : w.cell? ⟨M, 1, none⟩ = some (.int .i64 (r : Int))) (hk : k = 2) (hi : 0 ≤ i) (hn : i < (r : Int)) (hj : j ≠ 0) :
    Calls Try.prog 31 #[.pointer (some ⟨M, 0, none⟩), .agg #[.int .i64 k, .int .i64 i, .int .i64 j]] w fun e w' => e = .returned (.bool false) ∧ Below w.heap.size w w' := by
  subst hk
  have nj : (j == 0) = false := by simpa using hj
  clear hj
  have hM : M < w.heap.size := World.block_lt_of_cell? w _ h0
  go_enter Try.func31, Try.ntmps31
  go_wp2
  go_quiet (fail)
  go_wp2
  go_ret
  exact ⟨by simp, below_drawn (below_a1 _ _) _⟩

theorem is_c (w : World) (M c r : Nat) (k i j : Int) (h0 : w.cell? ⟨M, 0, none⟩ = some (.int .i64 (c : Int))) (h1 : w.cell? ⟨M, 1, none⟩ = some (.int .i64 (r : Int))) (hk : k = 4) (hi : 0 ≤ i) (hn : i < (c : Int)) (hj : j = 0) :
    Calls Try.prog 31 #[.pointer (some ⟨M, 0, none⟩), .agg #[.int .i64 k, .int .i64 i, .int .i64 j]] w fun e w' => e = .returned (.bool true) ∧ Below w.heap.size w w' := by
  subst hk hj
  have hM : M < w.heap.size := World.block_lt_of_cell? w _ h0
  go_enter Try.func31, Try.ntmps31
  go_wp2
  go_quiet (fail)
  go_wp2
  go_ret
  exact ⟨by simp, below_drawn (below_a1 _ _) _⟩

theorem is_c1 (w : World) (M c r : Nat) (k i j : Int) (h0 : w.cell? ⟨M, 0, none⟩ = some (.int .i64 (c : Int))) (h1 : w.cell? ⟨M, 1, none⟩ = some (.int .i64 (r : Int))) (hk : k = 4) (hi : ¬ 0 ≤ i) :
    Calls Try.prog 31 #[.pointer (some ⟨M, 0, none⟩), .agg #[.int .i64 k, .int .i64 i, .int .i64 j]] w fun e w' => e = .returned (.bool false) ∧ Below w.heap.size w w' := by
  subst hk
  have dn : decide (0 ≤ i) = false := by simpa using hi
  have hM : M < w.heap.size := World.block_lt_of_cell? w _ h0
  go_enter Try.func31, Try.ntmps31
  go_wp2
  go_quiet (fail)
  go_wp2
  go_ret
  exact ⟨by simp, below_drawn (below_a1 _ _) _⟩

theorem is_c2 (w : World) (M c r : Nat) (k i j : Int) (h0 : w.cell? ⟨M, 0, none⟩ = some (.int .i64 (c : Int))) (h1 : w.cell? ⟨M, 1, none⟩ = some (.int .i64 (r : Int))) (hk : k = 4) (hi : 0 ≤ i) (hn : ¬ i < (c : Int)) :
    Calls Try.prog 31 #[.pointer (some ⟨M, 0, none⟩), .agg #[.int .i64 k, .int .i64 i, .int .i64 j]] w fun e w' => e = .returned (.bool false) ∧ Below w.heap.size w w' := by
  subst hk
  have dn : decide (i < (c : Int)) = false := by simpa using hn
  have hM : M < w.heap.size := World.block_lt_of_cell? w _ h0
  go_enter Try.func31, Try.ntmps31
  go_wp2
  go_quiet (fail)
  go_wp2
  go_ret
  exact ⟨by simp, below_drawn (below_a1 _ _) _⟩

theorem is_c3 (w : World) (M c r : Nat) (k i j : Int) (h0 : w.cell? ⟨M, 0, none⟩ = some (.int .i64 (c : Int))) (h1 : w.cell? ⟨M, 1, none⟩ = some (.int .i64 (r : Int))) (hk : k = 4) (hi : 0 ≤ i) (hn : i < (c : Int)) (hj : j ≠ 0) :
    Calls Try.prog 31 #[.pointer (some ⟨M, 0, none⟩), .agg #[.int .i64 k, .int .i64 i, .int .i64 j]] w fun e w' => e = .returned (.bool false) ∧ Below w.heap.size w w' := by
  subst hk
  have nj : (j == 0) = false := by simpa using hj
  clear hj
  have hM : M < w.heap.size := World.block_lt_of_cell? w _ h0
  go_enter Try.func31, Try.ntmps31
  go_wp2
  go_quiet (fail)
  go_wp2
  go_ret
  exact ⟨by simp, below_drawn (below_a1 _ _) _⟩

theorem is_s (w : World) (M c r : Nat) (k i j : Int) (h0 : w.cell? ⟨M, 0, none⟩ = some (.int .i64 (c : Int))) (h1 : w.cell? ⟨M, 1, none⟩ = some (.int .i64 (r : Int))) (hk : k = 3) (hi : 0 ≤ i) (hn : i < (r : Int)) (hj : 0 ≤ j) (hm : j < 8) :
    Calls Try.prog 31 #[.pointer (some ⟨M, 0, none⟩), .agg #[.int .i64 k, .int .i64 i, .int .i64 j]] w fun e w' => e = .returned (.bool true) ∧ Below w.heap.size w w' := by
  subst hk
  have hM : M < w.heap.size := World.block_lt_of_cell? w _ h0
  go_enter Try.func31, Try.ntmps31
  go_wp2
  go_quiet (fail)
  go_wp2
  go_ret
  exact ⟨by simp, below_drawn (below_a1 _ _) _⟩

theorem is_s1 (w : World) (M c r : Nat) (k i j : Int) (h0 : w.cell? ⟨M, 0, none⟩ = some (.int .i64 (c : Int))) (h1 : w.cell? ⟨M, 1, none⟩ = some (.int .i64 (r : Int))) (hk : k = 3) (hi : ¬ 0 ≤ i) :
    Calls Try.prog 31 #[.pointer (some ⟨M, 0, none⟩), .agg #[.int .i64 k, .int .i64 i, .int .i64 j]] w fun e w' => e = .returned (.bool false) ∧ Below w.heap.size w w' := by
  subst hk
  have dn : decide (0 ≤ i) = false := by simpa using hi
  have hM : M < w.heap.size := World.block_lt_of_cell? w _ h0
  go_enter Try.func31, Try.ntmps31
  go_wp2
  go_quiet (fail)
  go_wp2
  go_ret
  exact ⟨by simp, below_drawn (below_a1 _ _) _⟩

theorem is_s2 (w : World) (M c r : Nat) (k i j : Int) (h0 : w.cell? ⟨M, 0, none⟩ = some (.int .i64 (c : Int))) (h1 : w.cell? ⟨M, 1, none⟩ = some (.int .i64 (r : Int))) (hk : k = 3) (hi : 0 ≤ i) (hn : ¬ i < (r : Int)) :
    Calls Try.prog 31 #[.pointer (some ⟨M, 0, none⟩), .agg #[.int .i64 k, .int .i64 i, .int .i64 j]] w fun e w' => e = .returned (.bool false) ∧ Below w.heap.size w w' := by
  subst hk
  have dn : decide (i < (r : Int)) = false := by simpa using hn
  have hM : M < w.heap.size := World.block_lt_of_cell? w _ h0
  go_enter Try.func31, Try.ntmps31
  go_wp2
  go_quiet (fail)
  go_wp2
  go_ret
  exact ⟨by simp, below_drawn (below_a1 _ _) _⟩

theorem is_s3 (w : World) (M c r : Nat) (k i j : Int) (h0 : w.cell? ⟨M, 0, none⟩ = some (.int .i64 (c : Int))) (h1 : w.cell? ⟨M, 1, none⟩ = some (.int .i64 (r : Int))) (hk : k = 3) (hi : 0 ≤ i) (hn : i < (r : Int)) (hj : ¬ 0 ≤ j) :
    Calls Try.prog 31 #[.pointer (some ⟨M, 0, none⟩), .agg #[.int .i64 k, .int .i64 i, .int .i64 j]] w fun e w' => e = .returned (.bool false) ∧ Below w.heap.size w w' := by
  subst hk
  have dn : decide (0 ≤ j) = false := by simpa using hj
  have hM : M < w.heap.size := World.block_lt_of_cell? w _ h0
  go_enter Try.func31, Try.ntmps31
  go_wp2
  go_quiet (fail)
  go_wp2
  go_ret
  exact ⟨by simp, below_drawn (below_a1 _ _) _⟩

theorem is_s4 (w : World) (M c r : Nat) (k i j : Int) (h0 : w.cell? ⟨M, 0, none⟩ = some (.int .i64 (c : Int))) (h1 : w.cell? ⟨M, 1, none⟩ = some (.int .i64 (r : Int))) (hk : k = 3) (hi : 0 ≤ i) (hn : i < (r : Int)) (hj : 0 ≤ j) (hm : ¬ j < 8) :
    Calls Try.prog 31 #[.pointer (some ⟨M, 0, none⟩), .agg #[.int .i64 k, .int .i64 i, .int .i64 j]] w fun e w' => e = .returned (.bool false) ∧ Below w.heap.size w w' := by
  subst hk
  have dn : decide (j < 8) = false := by simpa using hm
  have hM : M < w.heap.size := World.block_lt_of_cell? w _ h0
  go_enter Try.func31, Try.ntmps31
  go_wp2
  go_quiet (fail)
  go_wp2
  go_ret
  exact ⟨by simp, below_drawn (below_a1 _ _) _⟩

theorem is_any {w : World} {base : Nat} {p : Value} {c r : Nat} {L : List Ac} {F : List Nat} (h : RefAt w base p c r L F) (a : Ad) :
    Calls Try.prog 31 #[p, .agg #[.int .i64 a.k, .int .i64 a.i, .int .i64 a.j]] w fun e w' => e = .returned (.bool (isAd c r a)) ∧ Below w.heap.size w w' := by
  obtain ⟨M, v, h⟩ := h
  obtain rfl := h.p
  have h0 : w.cell? ⟨M, 0, none⟩ = some (.int .i64 (c : Int)) := by rw [cell_at h.m]; rfl
  have h1 : w.cell? ⟨M, 1, none⟩ = some (.int .i64 (r : Int)) := by rw [cell_at h.m]; rfl
  obtain ⟨k, i, j⟩ := a
  have goal : ∀ {b : Bool}, isAd c r ⟨k, i, j⟩ = b → (Calls Try.prog 31 #[.pointer (some ⟨M, 0, none⟩), .agg #[.int .i64 k, .int .i64 i, .int .i64 j]] w fun e w' => e = .returned (.bool b) ∧ Below w.heap.size w w') → Calls Try.prog 31 #[.pointer (some ⟨M, 0, none⟩), .agg #[.int .i64 k, .int .i64 i, .int .i64 j]] w fun e w' => e = .returned (.bool (isAd c r ⟨k, i, j⟩)) ∧ Below w.heap.size w w' := fun e h => by rw [e]; exact h
  show Calls Try.prog 31 #[.pointer (some ⟨M, 0, none⟩), .agg #[.int .i64 k, .int .i64 i, .int .i64 j]] w fun e w' => _
  by_cases k1 : k = 1
  · by_cases hi : i = 0
    · by_cases hj : j = 0
      · exact goal (by simp [isAd, k1, hi, hj]) (is_n w M c r k i j h0 h1 k1 hi hj)
      · exact goal (by simp [isAd, k1, hi, hj]) (is_n2 w M c r k i j h0 h1 k1 hi hj)
    · exact goal (by simp [isAd, k1, hi]) (is_n1 w M c r k i j h0 h1 k1 hi)
  by_cases k2 : k = 2
  · by_cases hi : 0 ≤ i
    · by_cases hn : i < (r : Int)
      · by_cases hj : j = 0
        · exact goal (by simp [isAd, k2, hi, hj, hn]) (is_h w M c r k i j h0 h1 k2 hi hn hj)
        · exact goal (by simp [isAd, k2, hj]) (is_h3 w M c r k i j h0 h1 k2 hi hn hj)
      · exact goal (by simp [isAd, k2]; omega) (is_h2 w M c r k i j h0 h1 k2 hi hn)
    · exact goal (by simp [isAd, k2]; omega) (is_h1 w M c r k i j h0 h1 k2 hi)
  by_cases k3 : k = 3
  · by_cases hi : 0 ≤ i
    · by_cases hn : i < (r : Int)
      · by_cases hj : 0 ≤ j
        · by_cases hm : j < 8
          · exact goal (by simp [isAd, k3, hi, hj, hn, hm]) (is_s w M c r k i j h0 h1 k3 hi hn hj hm)
          · exact goal (by simp [isAd, k3]; omega) (is_s4 w M c r k i j h0 h1 k3 hi hn hj hm)
        · exact goal (by simp [isAd, k3]; omega) (is_s3 w M c r k i j h0 h1 k3 hi hn hj)
      · exact goal (by simp [isAd, k3]; omega) (is_s2 w M c r k i j h0 h1 k3 hi hn)
    · exact goal (by simp [isAd, k3]; omega) (is_s1 w M c r k i j h0 h1 k3 hi)
  by_cases k4 : k = 4
  · by_cases hi : 0 ≤ i
    · by_cases hn : i < (c : Int)
      · by_cases hj : j = 0
        · exact goal (by simp [isAd, k4, hi, hj, hn]) (is_c w M c r k i j h0 h1 k4 hi hn hj)
        · exact goal (by simp [isAd, k4, hj]) (is_c3 w M c r k i j h0 h1 k4 hi hn hj)
      · exact goal (by simp [isAd, k4]; omega) (is_c2 w M c r k i j h0 h1 k4 hi hn)
    · exact goal (by simp [isAd, k4]; omega) (is_c1 w M c r k i j h0 h1 k4 hi)
  exact goal (by simp [isAd, k1, k2, k3, k4]) (is_none w M c r k i j h0 h1 ⟨k1, k2, k3, k4⟩)
end Go.Proofs.Ytbmmicfdnfpcaaa
