/- The program's machine of layer 7: New, Start, goesOver, see, look. -/
import Derived.Test.YtcckdjmbjghbdaaBegM
import Derived.Test.YtcckdjmbjghbdaaRngA
import Derived.Test.YtcckdjmbjghbdaaMemH
import Derived.OwnWalk
namespace Go.Proofs.Ytcckdjmbjghbdaa
open Go.ChangeShapes Go.WideShapes Go.ChangeAt Go.RowKit
attribute [local go_sem ↓] Go.wp_at_zero Go.wp_at_succ

def bgC (s : Nat) (b : Bg) : Array Value := #[.int .i64 (s : Int), .int .i64 b.st, .int .i64 b.seen, .int .i64 b.stamp]
/-- A machine in a block of its own. -/
def BAt (w : World) (X s : Nat) (b : Bg) : Prop := w.heap[X]? = some (.cells (bgC s b) 71 (0, 0))
theorem BAt.keep {w w' : World} {X s : Nat} {b : Bg} {F : List Nat} (h : BAt w X s b) (k : Keep F w w') (hx : X ∉ F) : BAt w' X s b := by
  unfold BAt; rw [k.block _ (heap_lt h) hx]; exact h
theorem BAt.below {w w' : World} {X s : Nat} {b : Bg} {B : Nat} (h : BAt w X s b) (k : Below B w w') (hx : X < B) : BAt w' X s b := by
  unfold BAt; rw [k.block _ hx]; exact h
theorem BAt.cells {w : World} {X s : Nat} {b : Bg} (h : BAt w X s b) : w.cell? ⟨X, 0, none⟩ = some (.int .i64 (s : Int)) ∧ w.cell? ⟨X, 1, none⟩ = some (.int .i64 b.st) ∧ w.cell? ⟨X, 2, none⟩ = some (.int .i64 b.seen) ∧ w.cell? ⟨X, 3, none⟩ = some (.int .i64 b.stamp) :=
  ⟨by rw [cell_at h]; rfl, by rw [cell_at h]; rfl, by rw [cell_at h]; rfl, by rw [cell_at h]; rfl⟩

theorem bnew_yes (w : World) (s : Nat) (h1 : 1 ≤ s) (h2 : s ≤ 16) : Calls Try.prog 7 #[.int .i64 (s : Int)] w fun e w' => e = .returned (.tuple #[.pointer (some ⟨w.heap.size, 0, none⟩), .int .i64 0]) ∧ BAt w' w.heap.size s bgNew ∧ Below w.heap.size w w' := by
  have d1 : decide ((s : Int) < 1) = false := by simp; omega
  have d2 : decide ((16 : Int) < (s : Int)) = false := by simp; omega
  clear h1 h2
  go_enter Try.func7, Try.ntmps7
  go_wp2
  go_ret2
  exact ⟨rfl, heap_alloc_new _ _, below_a1 _ _⟩
theorem bnew_no (w : World) (s : Int) (h : ¬ (1 ≤ s ∧ s ≤ 16)) : Calls Try.prog 7 #[.int .i64 s] w fun e w' => e = .returned (.tuple #[.pointer none, .int .i64 1]) ∧ Below w.heap.size w w' := by
  by_cases h1 : s < 1
  · have d1 : decide (s < 1) = true := by simpa using h1
    clear h h1
    go_enter Try.func7, Try.ntmps7
    go_wp2
    go_ret2
    exact ⟨rfl, Below.refl _ _⟩
  · have d1 : decide (s < 1) = false := by simp; omega
    have d2 : decide (16 < s) = true := by simp; omega
    clear h h1
    go_enter Try.func7, Try.ntmps7
    go_wp2
    go_ret2
    exact ⟨rfl, Below.refl _ _⟩
theorem start_any {w : World} {X s : Nat} {b : Bg} (h : BAt w X s b) : Calls Try.prog 20 #[.pointer (some ⟨X, 0, none⟩)] w fun e w' => e = .returned (.tuple #[.int .i64 (if b.st = 2 then b.stamp else 0), .int .i64 (if b.st = 2 then b.seen else 0), .bool (decide (b.st = 2))]) ∧ Below w.heap.size w w' := by
  obtain ⟨x0, x1, x2, x3⟩ := h.cells
  obtain ⟨st, seen, stamp⟩ := b
  simp only at x1 x2 x3 ⊢
  by_cases e : st = 2
  · subst e
    clear h
    go_enter Try.func20, Try.ntmps20
    go_wp2
    first | (go_ret3; exact ⟨rfl, Below.refl _ _⟩) | (go_quiet (fail); go_wp2; go_ret3; exact ⟨rfl, below_drawn (Below.refl _ _) _⟩)
  · have d : decide (st = 2) = false := by simpa using e
    rw [if_neg e, if_neg e, d]
    clear h
    go_enter Try.func20, Try.ntmps20
    go_wp2
    first | (go_ret3; exact ⟨rfl, Below.refl _ _⟩) | (go_quiet (fail); go_wp2; go_ret3; exact ⟨rfl, below_drawn (Below.refl _ _) _⟩)
theorem goes_any {w : World} {base : Nat} {p : Value} {c r : Nat} {L : List Ac} {F : List Nat} {X s : Nat} {b : Bg} (hm : MemAt w base p c r L F) (h : BAt w X s b) :
    Calls Try.prog 25 #[.pointer (some ⟨X, 0, none⟩), p] w fun e w' => e = .returned (.bool (decide (r = s))) ∧ Below w.heap.size w w' := by
  have HS : Hid (Calls Try.prog 34 #[p] w fun e w' => e = .returned (.tuple #[.int .i64 (c : Int), .int .i64 (r : Int)]) ∧ Below w.heap.size w w') := sizes_any hm
  obtain ⟨M, rfl⟩ := hm.ptr
  have HX : Hid (BAt w X s b) := h
  have hx : X < w.heap.size := heap_lt h
  have hd : ((r : Int) == (s : Int)) = decide (r = s) := by rw [Bool.eq_iff_iff]; simp; try omega
  clear hm h
  go_enter Try.func25, Try.ntmps25
  go_wp2_with fail
  refine HS.out.mono ?_
  rintro e w1 ⟨rfl, hb⟩
  obtain ⟨x0, x1, x2, x3⟩ := (HX.out.below hb hx).cells
  have HB : Hid (Below w.heap.size w w1) := hb
  clear hb
  go_wp2
  go_ret
  exact ⟨rfl, HB.out⟩

theorem bset {w : World} {X s : Nat} {b : Bg} (h : BAt w X s b) (v : Int) :
    (w.setCell ⟨X, 1, none⟩ (.int .i64 v)).heap[X]? = some (.cells (bgC s ⟨v, b.seen, b.stamp⟩) 71 (0, 0)) ∧ (w.setCell ⟨X, 2, none⟩ (.int .i64 v)).heap[X]? = some (.cells (bgC s ⟨b.st, v, b.stamp⟩) 71 (0, 0)) ∧ (w.setCell ⟨X, 3, none⟩ (.int .i64 v)).heap[X]? = some (.cells (bgC s ⟨b.st, b.seen, v⟩) 71 (0, 0)) :=
  ⟨by rw [heap_set h]; rfl, by rw [heap_set h]; rfl, by rw [heap_set h]; rfl⟩

theorem keep1 {w0 w : World} {X : Nat} (k : Keep [X] w0 w) (i : Nat) (v : Value) : Keep [X] w0 (w.setCell ⟨X, i, none⟩ v) := k.setCell _ _ (Or.inl (by simp))
set_option maxRecDepth 10000 in
theorem see_any {w : World} {X s : Nat} {b : Bg} (h : BAt w X s b) (v : Int) :
    Calls Try.prog 27 #[.pointer (some ⟨X, 0, none⟩), .int .i64 v] w fun e w' => e = .returned (.tuple #[]) ∧ BAt w' X s (seeV v) ∧ Keep [X] w w' := by
  obtain ⟨x0, x1, x2, x3⟩ := h.cells
  have hx : X < w.heap.size := heap_lt h
  have f1 : w.frozen? ⟨X, 1, none⟩ = false := frozen_at h 1
  have f2 : w.frozen? ⟨X, 2, none⟩ = false := frozen_at h 2
  have f3 : w.frozen? ⟨X, 3, none⟩ = false := frozen_at h 3
  have HX : Hid (BAt w X s b) := h
  clear h
  unfold seeV
  by_cases hv : v < 1
  · rw [if_pos hv]
    by_cases h0 : v < 0
    · have hm : max v 0 = 0 := by omega
      go_enter Try.func27, Try.ntmps27
      go_wp2
      refine bodyPost_end (results_none rfl _ _ _) rfl ?_
      exact ⟨rfl, (bset (bset (bset (bset HX.out v).2.1 0).2.2 1).1 2).1, keep1 (keep1 (keep1 (keep1 (Keep.refl _ _) _ _) _ _) _ _) _ _⟩
    · have hm : max v 0 = v := by omega
      obtain rfl : v = 0 := by omega
      go_enter Try.func27, Try.ntmps27
      go_wp2
      refine bodyPost_end (results_none rfl _ _ _) rfl ?_
      exact ⟨rfl, (bset (bset (bset (bset HX.out 0).2.1 0).2.2 1).1 2).1, keep1 (keep1 (keep1 (keep1 (Keep.refl _ _) _ _) _ _) _ _) _ _⟩
  · rw [if_neg hv]
    have hm : max v 0 = v := by omega
    have hz : decide (v = 0) = false := by simp; omega
    go_enter Try.func27, Try.ntmps27
    go_wp2
    refine bodyPost_end (results_none rfl _ _ _) rfl ?_
    exact ⟨rfl, (bset (bset (bset HX.out v).2.1 v).2.2 1).1, keep1 (keep1 (keep1 (Keep.refl _ _) _ _) _ _) _ _⟩

set_option maxRecDepth 10000 in
theorem look_any {w : World} {X s : Nat} {b : Bg} (h : BAt w X s b) (hk : BOk s b) (h1 : b.st = 1) (v : Int) :
    Calls Try.prog 29 #[.pointer (some ⟨X, 0, none⟩), .int .i64 v] w fun e w' => e = .returned (.tuple #[]) ∧ BAt w' X s (lookV s b v) ∧ Keep [X] w w' := by
  obtain ⟨x0, x1, x2, x3⟩ := h.cells
  have hx : X < w.heap.size := heap_lt h
  have f1 : w.frozen? ⟨X, 1, none⟩ = false := frozen_at h 1
  have f3 : w.frozen? ⟨X, 3, none⟩ = false := frozen_at h 3
  have HX : Hid (BAt w X s b) := h
  have hs1 := hk.s1
  have hs2 := hk.s16
  obtain ⟨c1, c2, c3, c4⟩ : 1 ≤ b.stamp ∧ b.stamp ≤ b.seen ∧ b.seen - (s : Int) < b.stamp ∧ W64 b.seen := by
    rcases hk.c with ⟨c, _⟩ | ⟨_, c⟩ | ⟨c, _⟩
    · omega
    · exact c
    · omega
  obtain ⟨c4, c5⟩ := c4
  clear h hk
  obtain ⟨st, seen, stamp⟩ := b
  simp only at x1 x2 x3 c1 c2 c3 c4 c5 h1
  subst h1
  have HV : Hid (∀ w, Calls Try.prog 42 #[.int .i64 v, .int .i64 stamp] w fun e w' => e = .returned (.bool (overV v stamp)) ∧ w' = w) := over_any v stamp
  unfold lookV
  simp only
  have w1 : wrap64 (stamp - 1) = stamp - 1 := by unfold wrap64; omega
  have w2 : wrap64 (seen - (s : Int)) = seen - (s : Int) := by unfold wrap64; omega
  generalize overV v stamp = ov at *
  cases ov
  · rw [if_neg (by simp)]
    by_cases h1 : stamp - 1 < 1
    · rw [if_pos (Or.inl h1)]
      have d1 : decide (stamp - 1 < 1) = true := by simpa using h1
      go_enter Try.func29, Try.ntmps29
      go_wp2_with fail
      refine (HV.out _).mono ?_
      rintro e w' ⟨rfl, rfl⟩
      go_wp2
      go_quiet (fail)
      go_wp2
      refine bodyPost_end (results_none rfl _ _ _) rfl ?_
      exact ⟨rfl, (bset (bset HX.out (stamp - 1)).2.2 2).1, keep1 ((keep1 (Keep.refl _ _) _ _).drewN _) _ _⟩
    · have d1 : decide (stamp - 1 < 1) = false := by simpa using h1
      by_cases h2 : stamp - 1 = seen - (s : Int)
      · rw [if_pos (Or.inr h2)]
        have hq : (stamp - 1 == seen - (s : Int)) = true := by simpa using h2
        clear h2
        go_enter Try.func29, Try.ntmps29
        go_wp2_with fail
        refine (HV.out _).mono ?_
        rintro e w' ⟨rfl, rfl⟩
        go_wp2
        go_quiet (fail)
        go_wp2
        refine bodyPost_end (results_none rfl _ _ _) rfl ?_
        exact ⟨rfl, (bset (bset HX.out (stamp - 1)).2.2 2).1, keep1 ((keep1 (Keep.refl _ _) _ _).drewN _) _ _⟩
      · rw [if_neg (by omega)]
        go_enter Try.func29, Try.ntmps29
        go_wp2_with fail
        refine (HV.out _).mono ?_
        rintro e w' ⟨rfl, rfl⟩
        go_wp2
        go_quiet (fail)
        go_wp2
        refine bodyPost_end (results_none rfl _ _ _) rfl ?_
        exact ⟨rfl, (bset HX.out (stamp - 1)).2.2, (keep1 (Keep.refl _ _) _ _).drewN _⟩
  · rw [if_pos rfl]
    go_enter Try.func29, Try.ntmps29
    go_wp2_with fail
    refine (HV.out _).mono ?_
    rintro e w' ⟨rfl, rfl⟩
    go_wp2
    refine bodyPost_ret (results_none rfl _ _ _) rfl ?_
    exact ⟨rfl, (bset HX.out 2).1, keep1 (Keep.refl _ _) _ _⟩
end Go.Proofs.Ytcckdjmbjghbdaa
