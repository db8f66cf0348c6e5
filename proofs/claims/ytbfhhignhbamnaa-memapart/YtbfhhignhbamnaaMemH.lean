/- The document's examples, and which sizes may be. -/
import Derived.Test.YtbfhhignhbamnaaMemG
namespace Go.Proofs.Ytbfhhignhbamnaa
open Go.ChangeShapes Go.WideShapes Go.ChangeAt Go.RowKit

def takes (c r : Int) : Bool := decide (1 ≤ c) && decide (c ≤ 1024) && decide (1 ≤ r) && decide (r ≤ 16)
theorem takes_any (c r : Int) (w : World) : Calls Try.prog 8 #[.int .i64 c, .int .i64 r] w fun e w' => e = .returned (.bool (takes c r)) ∧ w' = w := by
  unfold takes
  by_cases c1 : 1 ≤ c
  · by_cases c2 : c ≤ 1024
    · by_cases r1 : 1 ≤ r
      · by_cases r2 : r ≤ 16
        · go_enter Try.func8, Try.ntmps8
          go_wp2
          go_ret
          exact ⟨by simp [c1, c2, r1, r2], rfl⟩
        · go_enter Try.func8, Try.ntmps8
          go_wp2
          go_ret
          exact ⟨by simp [r2], rfl⟩
      · go_enter Try.func8, Try.ntmps8
        go_wp2
        go_ret
        exact ⟨by simp; omega, rfl⟩
    · go_enter Try.func8, Try.ntmps8
      go_wp2
      go_ret
      exact ⟨by simp; omega, rfl⟩
  · go_enter Try.func8, Try.ntmps8
    go_wp2
    go_ret
    exact ⟨by simp; omega, rfl⟩

theorem MemAt.ptr {w : World} {base : Nat} {p : Value} {c r : Nat} {L : List Ac} {F : List Nat} (h : MemAt w base p c r L F) : ∃ M, p = .pointer (some ⟨M, 0, none⟩) := by
  obtain ⟨M, H, S, C, v, h⟩ := h
  exact ⟨M, h.p⟩
/-- What was below a memory's blocks stays. -/
theorem Next.below {F F' : List Nat} {w w' : World} {B : Nat} (h : Next F F' w w') (hB : B ≤ w.heap.size) (hF : ∀ b ∈ F, B ≤ b) : Below B w w' := h.1.below hB hF
theorem Next.cell {F F' : List Nat} {w w' : World} (h : Next F F' w w') (a : Addr) (ha : a.block ∉ F) {u : Value} (hc : w.cell? a = some u) : w'.cell? a = some u := by
  rw [World.cell?_of_block (h.1.block a.block (World.block_lt_of_cell? _ _ hc) ha)]
  exact hc

theorem Next.row {F F' : List Nat} {w w' : World} {B : Nat} {o : Obj} (h : Next F F' w w') (hb : w.heap[B]? = some o) (hB : B ∉ F) : w'.heap[B]? = some o := by
  rw [h.1.block B (heap_lt hb) hB]; exact hb
theorem Next.out {F F' : List Nat} {w w' : World} {B : Nat} (h : Next F F' w w') (hb : B < w.heap.size) (hB : B ∉ F) : B ∉ F' := fun hm => by
  rcases h.2 B hm with h1 | h1
  · exact hB h1
  · omega
/-- An address in a block of its own beside a memory. -/
structure Boxed (w0 w : World) (p : Value) (c r : Nat) (L : List Ac) (F : List Nat) (B : Nat) (a : Ad) : Prop where
  mem : MemAt w w0.heap.size p c r L F
  box : w.heap[B]? = some (.cells (adC a) 35)
  out : B ∉ F
  bel : Below w0.heap.size w0 w
theorem Boxed.next {w0 w w' : World} {p : Value} {c r : Nat} {L L' : List Ac} {F F' : List Nat} {B : Nat} {a : Ad} (h : Boxed w0 w p c r L F B a) (hm : MemAt w' w0.heap.size p c r L' F') (hn : Next F F' w w') : Boxed w0 w' p c r L' F' B a :=
  ⟨hm, hn.row h.box h.out, hn.out (heap_lt h.box) h.out, h.bel.trans (hn.below h.bel.size (fun b hb => (h.mem.lt b hb).1))⟩
theorem Boxed.later {w0 w w' : World} {p : Value} {c r : Nat} {L : List Ac} {F : List Nat} {B : Nat} {a : Ad} (h : Boxed w0 w p c r L F B a) (hb : Below w.heap.size w w') : Boxed w0 w' p c r L F B a := h.next (h.mem.below hb) (Next.of_below hb F)
theorem Boxed.cells {w0 w : World} {p : Value} {c r : Nat} {L : List Ac} {F : List Nat} {B : Nat} {a : Ad} (h : Boxed w0 w p c r L F B a) : w.cell? ⟨B, 0, none⟩ = some (.int .i64 a.k) ∧ w.cell? ⟨B, 1, none⟩ = some (.int .i64 a.i) ∧ w.cell? ⟨B, 2, none⟩ = some (.int .i64 a.j) :=
  ⟨by rw [cell_at h.box]; rfl, by rw [cell_at h.box]; rfl, by rw [cell_at h.box]; rfl⟩

set_option maxRecDepth 10000 in
theorem shown_any (w : World) : Calls Try.prog 6 #[] w fun e w' => e = .returned (.bool true) ∧ Below w.heap.size w w' := by
  have HN : Hid (∀ w : World, Calls Try.prog 7 #[.int .i64 4, .int .i64 2] w fun e w' => ∃ p F, e = .returned (.tuple #[p, .int .i64 0]) ∧ p ≠ .pointer none ∧ MemAt w' w.heap.size p 4 2 [] F ∧ Below w.heap.size w w') := fun w => new_yes w 4 2 (by decide) (by decide)
  have HS : Hid (∀ (w : World) base p F, MemAt w base p 4 2 [] F → base ≤ w.heap.size → Calls Try.prog 16 #[p, .int .i64 7, .agg #[.int .i64 4, .int .i64 3, .int .i64 0], .int .i64 9] w fun e w' => e = .returned (.int .i64 0) ∧ ∃ F', MemAt w' base p 4 2 [Ac.mk 7 2 ⟨4, 3, 0⟩ 0 9 false] F' ∧ Next F F' w w') := fun w base p F h hb => store_any h hb (by simp) 7 ⟨4, 3, 0⟩ 9
  have HW : Hid (∀ (w : World) base p F, MemAt w base p 4 2 [Ac.mk 7 2 ⟨4, 3, 0⟩ 0 9 false] F → base ≤ w.heap.size → Calls Try.prog 17 #[p, .int .i64 8, .agg #[.int .i64 4, .int .i64 3, .int .i64 0], .int .i64 9, .int .i64 5] w fun e w' => e = .returned (.tuple #[.bool true, .int .i64 0]) ∧ ∃ F', MemAt w' base p 4 2 [Ac.mk 7 2 ⟨4, 3, 0⟩ 0 9 false, Ac.mk 8 3 ⟨4, 3, 0⟩ 9 5 true] F' ∧ Next F F' w w') := fun w base p F h hb => swap_any h hb (by simp) 8 ⟨4, 3, 0⟩ 9 5
  have HL : Hid (∀ (w : World) base p F, MemAt w base p 4 2 [Ac.mk 7 2 ⟨4, 3, 0⟩ 0 9 false, Ac.mk 8 3 ⟨4, 3, 0⟩ 9 5 true] F → base ≤ w.heap.size → Calls Try.prog 15 #[p, .int .i64 7, .agg #[.int .i64 4, .int .i64 3, .int .i64 0]] w fun e w' => e = .returned (.tuple #[.int .i64 5, .int .i64 0]) ∧ ∃ F', MemAt w' base p 4 2 [Ac.mk 7 2 ⟨4, 3, 0⟩ 0 9 false, Ac.mk 8 3 ⟨4, 3, 0⟩ 9 5 true, Ac.mk 7 1 ⟨4, 3, 0⟩ 0 5 false] F' ∧ Next F F' w w') := fun w base p F h hb => load_any h hb (by simp) 7 ⟨4, 3, 0⟩
  have HC : Hid (∀ (w : World) base p F, MemAt w base p 4 2 [Ac.mk 7 2 ⟨4, 3, 0⟩ 0 9 false, Ac.mk 8 3 ⟨4, 3, 0⟩ 9 5 true, Ac.mk 7 1 ⟨4, 3, 0⟩ 0 5 false] F → Calls Try.prog 19 #[p] w fun e w' => e = .returned (.int .i64 3) ∧ w' = w) := fun w base p F h => count_any h
  have HP : Hid (∀ (w : World) base p F, MemAt w base p 4 2 [Ac.mk 7 2 ⟨4, 3, 0⟩ 0 9 false, Ac.mk 8 3 ⟨4, 3, 0⟩ 9 5 true, Ac.mk 7 1 ⟨4, 3, 0⟩ 0 5 false] F → Calls Try.prog 14 #[p, .agg #[.int .i64 2, .int .i64 1, .int .i64 0]] w fun e w' => e = .returned (.tuple #[.int .i64 1, .int .i64 0]) ∧ Below w.heap.size w w') := fun w base p F h => peek_any h ⟨2, 1, 0⟩
  have HX : Hid (∀ (w : World) base p F, MemAt w base p 4 2 [Ac.mk 7 2 ⟨4, 3, 0⟩ 0 9 false, Ac.mk 8 3 ⟨4, 3, 0⟩ 9 5 true, Ac.mk 7 1 ⟨4, 3, 0⟩ 0 5 false] F → base ≤ w.heap.size → Calls Try.prog 15 #[p, .int .i64 7, .agg #[.int .i64 4, .int .i64 4, .int .i64 0]] w fun e w' => e = .returned (.tuple #[.int .i64 0, .int .i64 1]) ∧ ∃ F', MemAt w' base p 4 2 [Ac.mk 7 2 ⟨4, 3, 0⟩ 0 9 false, Ac.mk 8 3 ⟨4, 3, 0⟩ 9 5 true, Ac.mk 7 1 ⟨4, 3, 0⟩ 0 5 false] F' ∧ Next F F' w w') := fun w base p F h hb => load_any h hb (by simp) 7 ⟨4, 4, 0⟩
  go_enter Try.func6, Try.ntmps6
  go_wp2_with fail
  refine (HN.out _).mono ?_
  rintro e w1 ⟨p, F1, rfl, _, hm, hb⟩
  obtain ⟨M, rfl⟩ := hm.ptr
  have HX1 : Hid (Boxed w (w1.alloc (.cells #[.int .i64 4, .int .i64 3, .int .i64 0] 35)) (.pointer (some ⟨M, 0, none⟩)) 4 2 [] F1 w1.heap.size ⟨4, 3, 0⟩) :=
    ⟨hm.below (below_a1 _ _), heap_alloc_new _ _, fun e => by have := (hm.lt _ e).2; omega, below_alloc hb _⟩
  generalize hB : w1.heap.size = B at HX1
  clear hm hb
  go_wp2_with fail
  refine (HS.out _ _ _ _ HX1.out.mem HX1.out.bel.size).mono ?_
  rintro e w2 ⟨rfl, F2, hm2, hn2⟩
  have HX2 : Hid (Boxed w w2 (.pointer (some ⟨M, 0, none⟩)) 4 2 _ F2 B ⟨4, 3, 0⟩) := HX1.out.next hm2 hn2
  obtain ⟨c0, c1, c2⟩ := HX2.out.cells
  clear hm2 hn2 hB HX1
  go_wp2_with fail
  refine (HW.out _ _ _ _ HX2.out.mem HX2.out.bel.size).mono ?_
  rintro e w3 ⟨rfl, F3, hm3, hn3⟩
  have HX3 : Hid (Boxed w w3 (.pointer (some ⟨M, 0, none⟩)) 4 2 _ F3 B ⟨4, 3, 0⟩) := HX2.out.next hm3 hn3
  clear c0 c1 c2
  obtain ⟨c0, c1, c2⟩ := HX3.out.cells
  clear hm3 hn3 HX2
  go_wp2_with fail
  refine (HL.out _ _ _ _ HX3.out.mem HX3.out.bel.size).mono ?_
  rintro e w4 ⟨rfl, F4, hm4, hn4⟩
  have HX4 : Hid (Boxed w w4 (.pointer (some ⟨M, 0, none⟩)) 4 2 _ F4 B ⟨4, 3, 0⟩) := HX3.out.next hm4 hn4
  clear hm4 hn4 HX3 c0 c1 c2
  go_wp2_with fail
  refine (HC.out _ _ _ _ HX4.out.mem).mono ?_
  rintro e w5 ⟨rfl, rfl⟩
  go_wp2_with fail
  refine (HP.out _ _ _ _ HX4.out.mem).mono ?_
  rintro e w6 ⟨rfl, hb6⟩
  have HX6 : Hid (Boxed w w6 (.pointer (some ⟨M, 0, none⟩)) 4 2 _ F4 B ⟨4, 3, 0⟩) := HX4.out.later hb6
  clear hb6 HX4
  go_wp2_with fail
  refine (HX.out _ _ _ _ HX6.out.mem HX6.out.bel.size).mono ?_
  rintro e w7 ⟨rfl, F7, hm7, hn7⟩
  have HX7 : Hid (Boxed w w7 (.pointer (some ⟨M, 0, none⟩)) 4 2 _ F7 B ⟨4, 3, 0⟩) := HX6.out.next hm7 hn7
  clear hm7 hn7 HX6
  go_wp2
  go_ret
  exact ⟨rfl, HX7.out.bel⟩
end Go.Proofs.Ytbfhhignhbamnaa
