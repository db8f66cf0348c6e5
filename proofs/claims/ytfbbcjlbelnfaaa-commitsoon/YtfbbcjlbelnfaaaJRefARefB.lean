/- The document's memory as it lies: New, when two addresses are one, which are addresses. -/
import Derived.Test.YtfbbcjlbelnfaaaMemI
namespace Go.Proofs.Ytfbbcjlbelnfaaa
set_option linter.unusedVariables false
open Go.ChangeShapes Go.WideShapes Go.ChangeAt Go.RowKit

structure RefAt' (w : World) (base : Nat) (p : Value) (c r : Nat) (L : List Ac) (G : List Nat) (R : Nat) (v : Value) : Prop where
  p : p = .pointer (some ⟨R, 0, none⟩)
  m : w.heap[R]? = some (.cells #[.int .i64 (c : Int), .int .i64 (r : Int), v] 61 (0, 0))
  own : w.ownsRow base 103 8 v L.length (logC L)
  F : G = R :: v.ownBlock.toList
  bR : base ≤ R
def RefAt (w : World) (base : Nat) (p : Value) (c r : Nat) (L : List Ac) (G : List Nat) : Prop := ∃ R v, RefAt' w base p c r L G R v
theorem RefAt.lt {w : World} {base : Nat} {p : Value} {c r : Nat} {L : List Ac} {F : List Nat} (h : RefAt w base p c r L F) : ∀ b ∈ F, base ≤ b ∧ b < w.heap.size := by
  obtain ⟨R, v, h⟩ := h
  intro b hb
  rw [h.F] at hb
  simp only [List.mem_cons, Option.mem_toList] at hb
  rcases hb with rfl | hb
  · exact ⟨h.bR, heap_lt h.m⟩
  · exact own_block h.own b (by simpa using hb)
theorem RefAt.keep {w w' : World} {base : Nat} {p : Value} {c r : Nat} {L : List Ac} {F G : List Nat} (h : RefAt w base p c r L F) (k : Keep G w w') (hd : ∀ b ∈ F, b ∉ G) : RefAt w' base p c r L F := by
  obtain ⟨R, v, h⟩ := h
  have hF := h.F
  refine ⟨R, v, h.p, ?_, own_keep h.own k (fun b hb => hd b ?_), h.F, h.bR⟩
  · rw [k.block _ (heap_lt h.m) (hd _ (by rw [hF]; simp))]; exact h.m
  · rw [hF, hb]; simp
theorem RefAt.below {w w' : World} {base : Nat} {p : Value} {c r : Nat} {L : List Ac} {F : List Nat} (h : RefAt w base p c r L F) (k : Below w.heap.size w w') : RefAt w' base p c r L F := h.keep (Keep.of_below k []) (fun _ _ => by simp)
theorem RefAt.ptr {w : World} {base : Nat} {p : Value} {c r : Nat} {L : List Ac} {F : List Nat} (h : RefAt w base p c r L F) : ∃ M, p = .pointer (some ⟨M, 0, none⟩) := by
  obtain ⟨R, v, h⟩ := h
  exact ⟨R, h.p⟩

theorem rnew_any (c r : Nat) (w : World) : Calls Try.prog 11 #[.int .i64 (c : Int), .int .i64 (r : Int)] w fun e w' => ∃ p G, e = .returned p ∧ RefAt w' w.heap.size p c r [] G ∧ Below w.heap.size w w' := by
  go_enter Try.func11, Try.ntmps11
  go_wp2
  go_ret
  exact ⟨_, _, rfl, ⟨_, _, rfl, heap_alloc_new _ _, World.ownsRow_nil _ _ _ _, rfl, Nat.le_refl _⟩, below_a1 _ _⟩

theorem same_any (a b : Ad) (w : World) : Calls Try.prog 79 #[.agg #[.int .i64 a.k, .int .i64 a.i, .int .i64 a.j], .agg #[.int .i64 b.k, .int .i64 b.i, .int .i64 b.j]] w fun e w' => e = .returned (.bool (decide (a = b))) ∧ Below w.heap.size w w' := by
  obtain ⟨k, i, j⟩ := a
  obtain ⟨k', i', j'⟩ := b
  by_cases h1 : k = k'
  · by_cases h2 : i = i'
    · by_cases h3 : j = j'
      · subst h1 h2 h3
        go_enter Try.func79, Try.ntmps79
        go_wp2
        go_ret
        exact ⟨by simp, below_alloc (below_a1 _ _) _⟩
      · subst h1 h2
        have e3 : (j == j') = false := by simpa using h3
        go_enter Try.func79, Try.ntmps79
        go_wp2
        go_ret
        exact ⟨by simp [h3], below_alloc (below_a1 _ _) _⟩
    · subst h1
      have e3 : (i == i') = false := by simpa using h2
      go_enter Try.func79, Try.ntmps79
      go_wp2
      go_ret
      exact ⟨by simp [h2], below_alloc (below_a1 _ _) _⟩
  · have e3 : (k == k') = false := by simpa using h1
    go_enter Try.func79, Try.ntmps79
    go_wp2
    go_ret
    exact ⟨by simp [h1], below_alloc (below_a1 _ _) _⟩

theorem is_none (w : World) (M c r : Nat) (k i j : Int) (h0 : w.cell? ⟨M, 0, none⟩ = some (.int .i64 (c : Int))) (h1 : w.cell? ⟨M, 1, none⟩ = some (.int .i64 (r : Int))) (hk : k ≠ 1 ∧ k ≠ 2 ∧ k ≠ 3 ∧ k ≠ 4) :
    Calls Try.prog 30 #[.pointer (some ⟨M, 0, none⟩), .agg #[.int .i64 k, .int .i64 i, .int .i64 j]] w fun e w' => e = .returned (.bool false) ∧ Below w.heap.size w w' := by
  have n1 : (k == 1) = false := by simp; omega
  have n2 : (k == 2) = false := by simp; omega
  have n3 : (k == 3) = false := by simp; omega
  have n4 : (k == 4) = false := by simp; omega
  clear hk
  have hM : M < w.heap.size := World.block_lt_of_cell? w _ h0
  go_enter Try.func30, Try.ntmps30
  go_wp2
  go_ret
  exact ⟨by simp, below_a1 _ _⟩

theorem is_n (w : World) (M c r : Nat) (k i j : Int) (h0 : w.cell? ⟨M, 0, none⟩ = some (.int .i64 (c : Int))) (h1 : w.cell? ⟨M, 1, none⟩ = some (.int .i64 (r : Int))) (hk : k = 1) (hi : i = 0) (hj : j = 0) :
    Calls Try.prog 30 #[.pointer (some ⟨M, 0, none⟩), .agg #[.int .i64 k, .int .i64 i, .int .i64 j]] w fun e w' => e = .returned (.bool true) ∧ Below w.heap.size w w' := by
  subst hk hi hj
  have hM : M < w.heap.size := World.block_lt_of_cell? w _ h0
  go_enter Try.func30, Try.ntmps30
  go_wp2
  go_ret
  exact ⟨by simp, below_a1 _ _⟩

theorem is_n1 (w : World) (M c r : Nat) (k i j : Int) (h0 : w.cell? ⟨M, 0, none⟩ = some (.int .i64 (c : Int))) (h1 : w.cell? ⟨M, 1, none⟩ = some (.int .i64 (r : Int))) (hk : k = 1) (hi : i ≠ 0) :
    Calls Try.prog 30 #[.pointer (some ⟨M, 0, none⟩), .agg #[.int .i64 k, .int .i64 i, .int .i64 j]] w fun e w' => e = .returned (.bool false) ∧ Below w.heap.size w w' := by
  subst hk
  have ni : (i == 0) = false := by simpa using hi
  clear hi
  have hM : M < w.heap.size := World.block_lt_of_cell? w _ h0
  go_enter Try.func30, Try.ntmps30
  go_wp2
  go_ret
  exact ⟨by simp, below_a1 _ _⟩

theorem is_n2 (w : World) (M c r : Nat) (k i j : Int) (h0 : w.cell? ⟨M, 0, none⟩ = some (.int .i64 (c : Int))) (h1 : w.cell? ⟨M, 1, none⟩ = some (.int .i64 (r : Int))) (hk : k = 1) (hi : i = 0) (hj : j ≠ 0) :
    Calls Try.prog 30 #[.pointer (some ⟨M, 0, none⟩), .agg #[.int .i64 k, .int .i64 i, .int .i64 j]] w fun e w' => e = .returned (.bool false) ∧ Below w.heap.size w w' := by
  subst hk hi
  have nj : (j == 0) = false := by simpa using hj
  clear hj
  have hM : M < w.heap.size := World.block_lt_of_cell? w _ h0
  go_enter Try.func30, Try.ntmps30
  go_wp2
  go_ret
  exact ⟨by simp, below_a1 _ _⟩

theorem is_h (w : World) (M c r : Nat) (k i j : Int) (h0 : w.cell? ⟨M, 0, none⟩ = some (.int .i64 (c : Int))) (h1 : w.cell? ⟨M, 1, none⟩ = some (.int .i64 (r : Int))) (hk : k = 2) (hi : 0 ≤ i) (hn : i < (r : Int)) (hj : j = 0) :
    Calls Try.prog 30 #[.pointer (some ⟨M, 0, none⟩), .agg #[.int .i64 k, .int .i64 i, .int .i64 j]] w fun e w' => e = .returned (.bool true) ∧ Below w.heap.size w w' := by
  subst hk hj
  have hM : M < w.heap.size := World.block_lt_of_cell? w _ h0
  go_enter Try.func30, Try.ntmps30
  go_wp2
  go_quiet (fail)
  go_wp2
  go_ret
  exact ⟨by simp, below_drawn (below_a1 _ _) _⟩

theorem is_h1 (w : World) (M c r : Nat) (k i j : Int) (h0 : w.cell? ⟨M, 0, none⟩ = some (.int .i64 (c : Int))) (h1 : w.cell? ⟨M, 1, none⟩ = some (.int .i64 (r : Int))) (hk : k = 2) (hi : ¬ 0 ≤ i) :
    Calls Try.prog 30 #[.pointer (some ⟨M, 0, none⟩), .agg #[.int .i64 k, .int .i64 i, .int .i64 j]] w fun e w' => e = .returned (.bool false) ∧ Below w.heap.size w w' := by
  subst hk
  have dn : decide (0 ≤ i) = false := by simpa using hi
  have hM : M < w.heap.size := World.block_lt_of_cell? w _ h0
  go_enter Try.func30, Try.ntmps30
  go_wp2
  go_quiet (fail)
  go_wp2
  go_ret
  exact ⟨by simp, below_drawn (below_a1 _ _) _⟩

theorem is_h2 (w : World) (M c r : Nat) (k i j : Int) (h0 : w.cell? ⟨M, 0, none⟩ = some (.int .i64 (c : Int))) (h1 : w.cell? ⟨M, 1, none⟩ = some (.int .i64 (r : Int))) (hk : k = 2) (hi : 0 ≤ i) (hn : ¬ i < (r : Int)) :
    Calls Try.prog 30 #[.pointer (some ⟨M, 0, none⟩), .agg #[.int .i64 k, .int .i64 i, .int .i64 j]] w fun e w' => e = .returned (.bool false) ∧ Below w.heap.size w w' := by
  subst hk
  have dn : decide (i < (r : Int)) = false := by simpa using hn
  have hM : M < w.heap.size := World.block_lt_of_cell? w _ h0
  go_enter Try.func30, Try.ntmps30
  go_wp2
  go_quiet (fail)
  go_wp2
  go_ret
  exact ⟨by simp, below_drawn (below_a1 _ _) _⟩

theorem is_h3 (w : World) (M c r : Nat) (k i j : Int) (h0 : w.cell? ⟨M, 0, none⟩ = some (.int .i64 (c : Int))) (h1 : w.cell? ⟨M, 1, none⟩ = some (.int .i64 (r : Int))) (hk : k = 2) (hi : 0 ≤ i) (hn : i < (r : Int)) (hj : j ≠ 0) :
    Calls Try.prog 30 #[.pointer (some ⟨M, 0, none⟩), .agg #[.int .i64 k, .int .i64 i, .int .i64 j]] w fun e w' => e = .returned (.bool false) ∧ Below w.heap.size w w' := by
  subst hk
  have nj : (j == 0) = false := by simpa using hj
  clear hj
  have hM : M < w.heap.size := World.block_lt_of_cell? w _ h0
  go_enter Try.func30, Try.ntmps30
  go_wp2
  go_quiet (fail)
  go_wp2
  go_ret
  exact ⟨by simp, below_drawn (below_a1 _ _) _⟩

theorem is_c (w : World) (M c r : Nat) (k i j : Int) (h0 : w.cell? ⟨M, 0, none⟩ = some (.int .i64 (c : Int))) (h1 : w.cell? ⟨M, 1, none⟩ = some (.int .i64 (r : Int))) (hk : k = 4) (hi : 0 ≤ i) (hn : i < (c : Int)) (hj : j = 0) :
    Calls Try.prog 30 #[.pointer (some ⟨M, 0, none⟩), .agg #[.int .i64 k, .int .i64 i, .int .i64 j]] w fun e w' => e = .returned (.bool true) ∧ Below w.heap.size w w' := by
  subst hk hj
  have hM : M < w.heap.size := World.block_lt_of_cell? w _ h0
  go_enter Try.func30, Try.ntmps30
  go_wp2
  go_quiet (fail)
  go_wp2
  go_ret
  exact ⟨by simp, below_drawn (below_a1 _ _) _⟩

theorem is_c1 (w : World) (M c r : Nat) (k i j : Int) (h0 : w.cell? ⟨M, 0, none⟩ = some (.int .i64 (c : Int))) (h1 : w.cell? ⟨M, 1, none⟩ = some (.int .i64 (r : Int))) (hk : k = 4) (hi : ¬ 0 ≤ i) :
    Calls Try.prog 30 #[.pointer (some ⟨M, 0, none⟩), .agg #[.int .i64 k, .int .i64 i, .int .i64 j]] w fun e w' => e = .returned (.bool false) ∧ Below w.heap.size w w' := by
  subst hk
  have dn : decide (0 ≤ i) = false := by simpa using hi
  have hM : M < w.heap.size := World.block_lt_of_cell? w _ h0
  go_enter Try.func30, Try.ntmps30
  go_wp2
  go_quiet (fail)
  go_wp2
  go_ret
  exact ⟨by simp, below_drawn (below_a1 _ _) _⟩

theorem is_c2 (w : World) (M c r : Nat) (k i j : Int) (h0 : w.cell? ⟨M, 0, none⟩ = some (.int .i64 (c : Int))) (h1 : w.cell? ⟨M, 1, none⟩ = some (.int .i64 (r : Int))) (hk : k = 4) (hi : 0 ≤ i) (hn : ¬ i < (c : Int)) :
    Calls Try.prog 30 #[.pointer (some ⟨M, 0, none⟩), .agg #[.int .i64 k, .int .i64 i, .int .i64 j]] w fun e w' => e = .returned (.bool false) ∧ Below w.heap.size w w' := by
  subst hk
  have dn : decide (i < (c : Int)) = false := by simpa using hn
  have hM : M < w.heap.size := World.block_lt_of_cell? w _ h0
  go_enter Try.func30, Try.ntmps30
  go_wp2
  go_quiet (fail)
  go_wp2
  go_ret
  exact ⟨by simp, below_drawn (below_a1 _ _) _⟩

theorem is_c3 (w : World) (M c r : Nat) (k i j : Int) (h0 : w.cell? ⟨M, 0, none⟩ = some (.int .i64 (c : Int))) (h1 : w.cell? ⟨M, 1, none⟩ = some (.int .i64 (r : Int))) (hk : k = 4) (hi : 0 ≤ i) (hn : i < (c : Int)) (hj : j ≠ 0) :
    Calls Try.prog 30 #[.pointer (some ⟨M, 0, none⟩), .agg #[.int .i64 k, .int .i64 i, .int .i64 j]] w fun e w' => e = .returned (.bool false) ∧ Below w.heap.size w w' := by
  subst hk
  have nj : (j == 0) = false := by simpa using hj
  clear hj
  have hM : M < w.heap.size := World.block_lt_of_cell? w _ h0
  go_enter Try.func30, Try.ntmps30
  go_wp2
  go_quiet (fail)
  go_wp2
  go_ret
  exact ⟨by simp, below_drawn (below_a1 _ _) _⟩

theorem is_s (w : World) (M c r : Nat) (k i j : Int) (h0 : w.cell? ⟨M, 0, none⟩ = some (.int .i64 (c : Int))) (h1 : w.cell? ⟨M, 1, none⟩ = some (.int .i64 (r : Int))) (hk : k = 3) (hi : 0 ≤ i) (hn : i < (r : Int)) (hj : 0 ≤ j) (hm : j < 8) :
    Calls Try.prog 30 #[.pointer (some ⟨M, 0, none⟩), .agg #[.int .i64 k, .int .i64 i, .int .i64 j]] w fun e w' => e = .returned (.bool true) ∧ Below w.heap.size w w' := by
  subst hk
  have hM : M < w.heap.size := World.block_lt_of_cell? w _ h0
  go_enter Try.func30, Try.ntmps30
  go_wp2
  go_quiet (fail)
  go_wp2
  go_ret
  exact ⟨by simp, below_drawn (below_a1 _ _) _⟩

theorem is_s1 (w : World) (M c r : Nat) (k i j : Int) (h0 : w.cell? ⟨M, 0, none⟩ = some (.int .i64 (c : Int))) (h1 : w.cell? ⟨M, 1, none⟩ = some (.int .i64 (r : Int))) (hk : k = 3) (hi : ¬ 0 ≤ i) :
    Calls Try.prog 30 #[.pointer (some ⟨M, 0, none⟩), .agg #[.int .i64 k, .int .i64 i, .int .i64 j]] w fun e w' => e = .returned (.bool false) ∧ Below w.heap.size w w' := by
  subst hk
  have dn : decide (0 ≤ i) = false := by simpa using hi
  have hM : M < w.heap.size := World.block_lt_of_cell? w _ h0
  go_enter Try.func30, Try.ntmps30
  go_wp2
  go_quiet (fail)
  go_wp2
  go_ret
  exact ⟨by simp, below_drawn (below_a1 _ _) _⟩

theorem is_s2 (w : World) (M c r : Nat) (k i j : Int) (h0 : w.cell? ⟨M, 0, none⟩ = some (.int .i64 (c : Int))) (h1 : w.cell? ⟨M, 1, none⟩ = some (.int .i64 (r : Int))) (hk : k = 3) (hi : 0 ≤ i) (hn : ¬ i < (r : Int)) :
    Calls Try.prog 30 #[.pointer (some ⟨M, 0, none⟩), .agg #[.int .i64 k, .int .i64 i, .int .i64 j]] w fun e w' => e = .returned (.bool false) ∧ Below w.heap.size w w' := by
  subst hk
  have dn : decide (i < (r : Int)) = false := by simpa using hn
  have hM : M < w.heap.size := World.block_lt_of_cell? w _ h0
  go_enter Try.func30, Try.ntmps30
  go_wp2
  go_quiet (fail)
  go_wp2
  go_ret
  exact ⟨by simp, below_drawn (below_a1 _ _) _⟩

theorem is_s3 (w : World) (M c r : Nat) (k i j : Int) (h0 : w.cell? ⟨M, 0, none⟩ = some (.int .i64 (c : Int))) (h1 : w.cell? ⟨M, 1, none⟩ = some (.int .i64 (r : Int))) (hk : k = 3) (hi : 0 ≤ i) (hn : i < (r : Int)) (hj : ¬ 0 ≤ j) :
    Calls Try.prog 30 #[.pointer (some ⟨M, 0, none⟩), .agg #[.int .i64 k, .int .i64 i, .int .i64 j]] w fun e w' => e = .returned (.bool false) ∧ Below w.heap.size w w' := by
  subst hk
  have dn : decide (0 ≤ j) = false := by simpa using hj
  have hM : M < w.heap.size := World.block_lt_of_cell? w _ h0
  go_enter Try.func30, Try.ntmps30
  go_wp2
  go_quiet (fail)
  go_wp2
  go_ret
  exact ⟨by simp, below_drawn (below_a1 _ _) _⟩

theorem is_s4 (w : World) (M c r : Nat) (k i j : Int) (h0 : w.cell? ⟨M, 0, none⟩ = some (.int .i64 (c : Int))) (h1 : w.cell? ⟨M, 1, none⟩ = some (.int .i64 (r : Int))) (hk : k = 3) (hi : 0 ≤ i) (hn : i < (r : Int)) (hj : 0 ≤ j) (hm : ¬ j < 8) :
    Calls Try.prog 30 #[.pointer (some ⟨M, 0, none⟩), .agg #[.int .i64 k, .int .i64 i, .int .i64 j]] w fun e w' => e = .returned (.bool false) ∧ Below w.heap.size w w' := by
  subst hk
  have dn : decide (j < 8) = false := by simpa using hm
  have hM : M < w.heap.size := World.block_lt_of_cell? w _ h0
  go_enter Try.func30, Try.ntmps30
  go_wp2
  go_quiet (fail)
  go_wp2
  go_ret
  exact ⟨by simp, below_drawn (below_a1 _ _) _⟩

theorem is_any {w : World} {base : Nat} {p : Value} {c r : Nat} {L : List Ac} {F : List Nat} (h : RefAt w base p c r L F) (a : Ad) :
    Calls Try.prog 30 #[p, .agg #[.int .i64 a.k, .int .i64 a.i, .int .i64 a.j]] w fun e w' => e = .returned (.bool (isAd c r a)) ∧ Below w.heap.size w w' := by
  obtain ⟨M, v, h⟩ := h
  obtain rfl := h.p
  have h0 : w.cell? ⟨M, 0, none⟩ = some (.int .i64 (c : Int)) := by rw [cell_at h.m]; rfl
  have h1 : w.cell? ⟨M, 1, none⟩ = some (.int .i64 (r : Int)) := by rw [cell_at h.m]; rfl
  obtain ⟨k, i, j⟩ := a
  have goal : ∀ {b : Bool}, isAd c r ⟨k, i, j⟩ = b → (Calls Try.prog 30 #[.pointer (some ⟨M, 0, none⟩), .agg #[.int .i64 k, .int .i64 i, .int .i64 j]] w fun e w' => e = .returned (.bool b) ∧ Below w.heap.size w w') → Calls Try.prog 30 #[.pointer (some ⟨M, 0, none⟩), .agg #[.int .i64 k, .int .i64 i, .int .i64 j]] w fun e w' => e = .returned (.bool (isAd c r ⟨k, i, j⟩)) ∧ Below w.heap.size w w' := fun e h => by rw [e]; exact h
  show Calls Try.prog 30 #[.pointer (some ⟨M, 0, none⟩), .agg #[.int .i64 k, .int .i64 i, .int .i64 j]] w fun e w' => _
  by_cases k1 : k = 1
  · by_cases hi : i = 0
    · by_cases hj : j = 0
      · exact goal (by simp [isAd, k1, hi, hj]) (is_n w M c r k i j h0 h1 k1 hi hj)
      · exact goal (by simp [isAd, k1, hi, hj]) (is_n2 w M c r k i j h0 h1 k1 hi hj)
    · exact goal (by simp [isAd, k1, hi]) (is_n1 w M c r k i j h0 h1 k1 hi)
  by_cases k2 : k = 2
  · by_cases hi : 0 ≤ i
    · by_cases hn : i < (r : Int)
      · by_cases hj : j = 0
        · exact goal (by simp [isAd, k2, hi, hj, hn]) (is_h w M c r k i j h0 h1 k2 hi hn hj)
        · exact goal (by simp [isAd, k2, hj]) (is_h3 w M c r k i j h0 h1 k2 hi hn hj)
      · exact goal (by simp [isAd, k2]; omega) (is_h2 w M c r k i j h0 h1 k2 hi hn)
    · exact goal (by simp [isAd, k2]; omega) (is_h1 w M c r k i j h0 h1 k2 hi)
  by_cases k3 : k = 3
  · by_cases hi : 0 ≤ i
    · by_cases hn : i < (r : Int)
      · by_cases hj : 0 ≤ j
        · by_cases hm : j < 8
          · exact goal (by simp [isAd, k3, hi, hj, hn, hm]) (is_s w M c r k i j h0 h1 k3 hi hn hj hm)
          · exact goal (by simp [isAd, k3]; omega) (is_s4 w M c r k i j h0 h1 k3 hi hn hj hm)
        · exact goal (by simp [isAd, k3]; omega) (is_s3 w M c r k i j h0 h1 k3 hi hn hj)
      · exact goal (by simp [isAd, k3]; omega) (is_s2 w M c r k i j h0 h1 k3 hi hn)
    · exact goal (by simp [isAd, k3]; omega) (is_s1 w M c r k i j h0 h1 k3 hi)
  by_cases k4 : k = 4
  · by_cases hi : 0 ≤ i
    · by_cases hn : i < (c : Int)
      · by_cases hj : j = 0
        · exact goal (by simp [isAd, k4, hi, hj, hn]) (is_c w M c r k i j h0 h1 k4 hi hn hj)
        · exact goal (by simp [isAd, k4, hj]) (is_c3 w M c r k i j h0 h1 k4 hi hn hj)
      · exact goal (by simp [isAd, k4]; omega) (is_c2 w M c r k i j h0 h1 k4 hi hn)
    · exact goal (by simp [isAd, k4]; omega) (is_c1 w M c r k i j h0 h1 k4 hi)
  exact goal (by simp [isAd, k1, k2, k3, k4]) (is_none w M c r k i j h0 h1 ⟨k1, k2, k3, k4⟩)
end Go.Proofs.Ytfbbcjlbelnfaaa
/- The document's Word and Peek. -/
namespace Go.Proofs.Ytfbbcjlbelnfaaa
open Go.ChangeShapes Go.WideShapes Go.ChangeAt Go.RowKit

theorem take_snoc (L : List Ac) (q : Nat) (h : q < L.length) : L.take (q + 1) = L.take q ++ [L[q]] := by rw [List.take_add_one]; simp [h]

set_option maxRecDepth 10000 in
set_option maxHeartbeats 1600000 in
theorem rword_any {w : World} {base : Nat} {p : Value} {c r : Nat} {L : List Ac} {F : List Nat} (h : RefAt w base p c r L F) (hL : L.length ≤ 3298534883328) (a : Ad) :
    Calls Try.prog 61 #[p, .agg #[.int .i64 a.k, .int .i64 a.i, .int .i64 a.j]] w fun e w' => e = .returned (.int .i64 (wordOf L a)) ∧ Below w.heap.size w w' := by
  have HREF : Hid (RefAt w base p c r L F) := h
  obtain ⟨M, v, h⟩ := h
  obtain rfl := h.p
  have h2 : w.cell? ⟨M, 2, none⟩ = some v := by rw [cell_at h.m]; rfl
  have hM : M < w.heap.size := heap_lt h.m
  have HOWN : Hid (w.ownsRow base 103 8 v L.length (logC L)) := h.own
  obtain ⟨va, vc, rfl⟩ := own_slice h.own
  clear h
  obtain ⟨k, i, j⟩ := a
  have HTK : Hid (wordOf L ⟨k, i, j⟩ = wordOf (L.take L.length) ⟨k, i, j⟩) := by rw [Hid, List.take_length]
  have HZ : Hid (wordOf (L.take 0) ⟨k, i, j⟩ = if k = 2 then 1 else 0) := rfl
  have HSM : Hid (∀ (x : Ad) (w : World), Calls Try.prog 79 #[.agg #[.int .i64 x.k, .int .i64 x.i, .int .i64 x.j], .agg #[.int .i64 k, .int .i64 i, .int .i64 j]] w fun e w' => e = .returned (.bool (decide (x = ⟨k, i, j⟩))) ∧ Below w.heap.size w w') := fun x w => same_any x ⟨k, i, j⟩ w
  have HM : Hid (∀ n, L.length = n → L.length = n) := fun _ e => e
  generalize hn : L.length = n at *
  have HN : Hid (L.length = n) := hn
  clear hn HM
  show Calls Try.prog 61 #[.pointer (some ⟨M, 0, none⟩), .agg #[.int .i64 k, .int .i64 i, .int .i64 j]] w fun e w' => _
  go_enter Try.func61, Try.ntmps61
  go_wp2
  go_loopw [5] (fun iv wr => ∃ q : Nat, q ≤ n ∧ iv = .int .i64 ((q : Int) - 1) ∧ wordOf L ⟨k, i, j⟩ = wordOf (L.take q) ⟨k, i, j⟩ ∧ Below (w.alloc (.cells (adC ⟨k, i, j⟩) 46)).heap.size (w.alloc (.cells (adC ⟨k, i, j⟩) 46)) wr) (fun iv _ => (intOf iv + 1).toNat)
  case atStart => exact ⟨n, Nat.le_refl _, by go_num, HTK.out, Below.refl _ _⟩
  case round =>
    obtain ⟨q, hq, rfl, hw, hb⟩ := hrel
    have HW : Hid (wordOf L ⟨k, i, j⟩ = wordOf (L.take q) ⟨k, i, j⟩) := hw
    have HB : Hid (Below (w.alloc (.cells (adC ⟨k, i, j⟩) 46)).heap.size (w.alloc (.cells (adC ⟨k, i, j⟩) 46)) wr) := hb
    have HBW : Hid (Below w.heap.size w wr) := below_then (below_a1 _ _) hb
    obtain ⟨b0, b1, b2⟩ := box_cells (a := ⟨k, i, j⟩) hb
    clear hw hb
    have hc2 : wr.cell? ⟨M, 2, none⟩ = some (.slice va n vc) := cell_later HBW.out hM h2
    have hws : w.heap.size < wr.heap.size := by have := HB.out.size; simp at this; omega
    have hMs : M < wr.heap.size := by omega
    cases q with
    | zero =>
      have HE : Hid (wordOf L ⟨k, i, j⟩ = if k = 2 then 1 else 0) := HW.out.trans HZ.out
      have hz1 : ((0 : Nat) : Int) - 1 = -1 := rfl
      by_cases k2 : k = 2
      · subst k2
        have HE2 : Hid (wordOf L ⟨2, i, j⟩ = 1) := HE.out
        clear HE HZ HW
        go_wp2
        go_ret
        exact ⟨by rw [HE2.out]; rfl, HBW.out⟩
      · have HE2 : Hid (wordOf L ⟨k, i, j⟩ = 0) := by rw [Hid, HE.out, if_neg k2]
        have b : (k == 2) = false := by simpa using k2
        clear HE HZ HW k2
        go_wp2
        go_ret
        exact ⟨by rw [HE2.out]; rfl, HBW.out⟩
    | succ q =>
      have hz1 : ((q + 1 : Nat) : Int) - 1 = (q : Int) := by omega
      have hqn : q < n := by omega
      obtain ⟨g, cap, hform, hg1, hg2⟩ := HOWN.out.form (by omega)
      obtain ⟨rfl, _, rfl⟩ : va = some ⟨g, 0, none⟩ ∧ n = n ∧ vc = cap := by simpa using hform
      clear hform
      have hqL : q < L.length := by rw [HN.out]; exact hqn
      have hrow : Row8 wr ⟨g, q * 8, none⟩ (acC L[q]) := (own_row8 (by rw [HN.out]; exact HOWN.out) q hqL).later rfl HBW.out hg2
      have HS : Hid (wordOf (L.take (q + 1)) ⟨k, i, j⟩ = if hit L[q] ⟨k, i, j⟩ then L[q].v else wordOf (L.take q) ⟨k, i, j⟩) := by rw [Hid, take_snoc L q hqL, wordOf_snoc]
      have HSQ := HSM.out L[q].a
      rw [hz1]
      generalize L[q] = y at *
      obtain ⟨yt, yk, ⟨ya, yb, yc⟩, yo, yv, yy⟩ := y
      obtain ⟨d0, d1, d2, d3, d4, d5, d6, d7⟩ := row8_cells hrow rfl
      simp only [acC, List.getElem_toArray, List.getElem_cons_zero, List.getElem_cons_succ] at d0 d1 d2 d3 d4 d5 d6 d7
      clear hrow
      have HSR : Hid (∀ (w : World), Calls Try.prog 79 #[.agg #[.int .i64 ya, .int .i64 yb, .int .i64 yc], .agg #[.int .i64 k, .int .i64 i, .int .i64 j]] w fun e w' => e = .returned (.bool (decide ((⟨ya, yb, yc⟩ : Ad) = ⟨k, i, j⟩))) ∧ Below w.heap.size w w') := HSQ
      have hd : decide ((0 : Int) ≤ (q : Int)) = true := by simp
      have hx : (q : Int) < (n : Int) := by omega
      by_cases hy : (⟨ya, yb, yc⟩ : Ad) = ⟨k, i, j⟩
      · have HSR2 : Hid (∀ (w : World), Calls Try.prog 79 #[.agg #[.int .i64 ya, .int .i64 yb, .int .i64 yc], .agg #[.int .i64 k, .int .i64 i, .int .i64 j]] w fun e w' => e = .returned (.bool true) ∧ Below w.heap.size w w') := fun w => by have := HSR.out w; rwa [decide_eq_true hy] at this
        clear HSQ HSR
        have HS2 : Hid (wordOf L ⟨k, i, j⟩ = if (yk == 2 || yk == 3 && yy) then yv else wordOf (L.take q) ⟨k, i, j⟩) := by
          rw [Hid, HW.out, HS.out]; simp [hit, hy]
        clear HS HW hy
        go_wp2_with fail
        refine (HSR2.out _).mono ?_
        rintro e w5 ⟨rfl, hb5⟩
        have hc5 : w5.heap[wr.heap.size]? = some (.cells #[.int .i64 yt, .int .i64 yk, .int .i64 ya, .int .i64 yb, .int .i64 yc, .int .i64 yo, .int .i64 yv, .bool yy] 103) := by rw [hb5.block _ (by simp)]; exact heap_alloc_new _ _
        have e1 : w5.cell? ⟨wr.heap.size, 1, none⟩ = some (.int .i64 yk) := by rw [cell_at hc5]; rfl
        have e5 : w5.cell? ⟨wr.heap.size, 7, none⟩ = some (.bool yy) := by rw [cell_at hc5]; rfl
        have e4 : w5.cell? ⟨wr.heap.size, 6, none⟩ = some (.int .i64 yv) := by rw [cell_at hc5]; rfl
        have HB5 : Hid (Below (w.alloc (.cells (adC ⟨k, i, j⟩) 46)).heap.size (w.alloc (.cells (adC ⟨k, i, j⟩) 46)) w5) := below_then HB.out (below_then (below_a1 _ _) hb5)
        clear hb5 hc5 d0 d1 d2 d3 d4 d5 d6 d7
        by_cases y2 : yk = 2
        · subst y2
          go_wp2
          go_ret
          exact ⟨by rw [HS2.out]; rfl, below_then (below_a1 _ _) HB5.out⟩
        · have by2 : (yk == 2) = false := by simpa using y2
          by_cases y3 : yk = 3
          · subst y3
            clear by2 y2
            cases yy with
            | true =>
              go_wp2
              go_ret
              exact ⟨by rw [HS2.out]; rfl, below_then (below_a1 _ _) HB5.out⟩
            | false =>
              go_wp2
              go_roundw
              case rel => exact ⟨q, by omega, by go_num, by rw [HS2.out]; rfl, HB5.out⟩
              case measure => simp [intOf]
          · have by3 : (yk == 3) = false := by simpa using y3
            have HS3 : Hid (wordOf L ⟨k, i, j⟩ = wordOf (L.take q) ⟨k, i, j⟩) := by rw [Hid, HS2.out]; simp [by2, by3]
            clear y2 y3
            go_wp2
            go_roundw
            case rel => exact ⟨q, by omega, by go_num, HS3.out, HB5.out⟩
            case measure => simp [intOf]
      · have HSR2 : Hid (∀ (w : World), Calls Try.prog 79 #[.agg #[.int .i64 ya, .int .i64 yb, .int .i64 yc], .agg #[.int .i64 k, .int .i64 i, .int .i64 j]] w fun e w' => e = .returned (.bool false) ∧ Below w.heap.size w w') := fun w => by have := HSR.out w; rwa [decide_eq_false hy] at this
        clear HSQ HSR
        have HS2 : Hid (wordOf L ⟨k, i, j⟩ = wordOf (L.take q) ⟨k, i, j⟩) := by
          rw [Hid, HW.out, HS.out]; simp [hit, hy]
        clear HS HW hy
        go_wp2_with fail
        refine (HSR2.out _).mono ?_
        rintro e w5 ⟨rfl, hb5⟩
        have HB5 : Hid (Below (w.alloc (.cells (adC ⟨k, i, j⟩) 46)).heap.size (w.alloc (.cells (adC ⟨k, i, j⟩) 46)) w5) := below_then HB.out (below_then (below_a1 _ _) hb5)
        clear hb5 d0 d1 d2 d3 d4 d5 d6 d7
        go_wp2
        go_roundw
        case rel => exact ⟨q, by omega, by go_num, HS2.out, HB5.out⟩
        case measure => simp [intOf]
end Go.Proofs.Ytfbbcjlbelnfaaa
