/- The program's New. -/
import Derived.Test.YtbmmicfdnfpcaaaMemE
namespace Go.Proofs.Ytbmmicfdnfpcaaa
open Go.ChangeShapes Go.WideShapes Go.ChangeAt Go.RowKit
attribute [local go_sem ↓] Go.wp_at_zero Go.wp_at_succ

theorem info_i64 : (Try.prog.info? 2).map (fun i => (i.zero, i.size, i.bytes)) = some (some (.int .i64 0), 1, 8) := by kernel_rfl
theorem info_a8 : (Try.prog.info? 111).map (fun i => (i.zero, i.size, i.bytes)) = some (some (.agg #[.int .i64 0, .int .i64 0, .int .i64 0, .int .i64 0, .int .i64 0, .int .i64 0, .int .i64 0, .int .i64 0]), 8, 64) := by kernel_rfl
/-- What words are made of: all zero. -/
def zeros (n : Nat) : Array Value := ((List.range n).map fun _ => Value.int .i64 0).toArray
theorem zeros_one (n : Nat) : madeCells (Value.cells (.int .i64 0)) n = zeros n := by
  apply Array.ext_getElem?
  intro i
  unfold madeCells zeros
  by_cases h : i < n
  · have e : i % 1 = 0 := Nat.mod_one i
    simp [h, Value.cells, e]
  · simp [h]
theorem zeros_eight (n : Nat) : madeCells (Value.cells (.agg #[.int .i64 0, .int .i64 0, .int .i64 0, .int .i64 0, .int .i64 0, .int .i64 0, .int .i64 0, .int .i64 0])) n = zeros n := by
  apply Array.ext_getElem?
  intro i
  unfold madeCells zeros
  by_cases h : i < n
  · have e : i % 8 < 8 := Nat.mod_lt _ (by decide)
    simp [h, Value.cells]
    generalize i % 8 = q at e
    rcases q with _ | _ | _ | _ | _ | _ | _ | _ | q
    all_goals first | rfl | omega
  · simp [h]
theorem make_words (w : World) (n : Nat) (hn : n < 1000000) :
    (Instr.makeSlice 60 (.int .i64 (n : Int)) (.int .i64 (n : Int))).run Try.prog w = .ok (.slice (some ⟨w.heap.size, 0, none⟩) n n) (w.alloc (.cells (zeros n) 2)) := by
  obtain ⟨i0, hi, hz0, hz1, hz2⟩ := info_parts info_i64
  have := run_make (P := Try.prog) w 60 2 i0 _ Try.underlying60 hi hz0 .i64 .i64 (n : Int) (n : Int) (by omega) (by omega) (by rw [hz2]; omega) (by omega)
  rw [this]
  simp [hz1, zeros_one]
theorem make_rows (w : World) (n : Nat) (hn : n < 1000000) :
    (Instr.makeSlice 85 (.int .i64 (n : Int)) (.int .i64 (n : Int))).run Try.prog w = .ok (.slice (some ⟨w.heap.size, 0, none⟩) n n) (w.alloc (.cells (zeros (n * 8)) 111)) := by
  obtain ⟨i0, hi, hz0, hz1, hz2⟩ := info_parts info_a8
  have := run_make (P := Try.prog) w 85 111 i0 _ Try.underlying85 hi hz0 .i64 .i64 (n : Int) (n : Int) (by omega) (by omega) (by rw [hz2]; omega) (by omega)
  rw [this]
  simp [hz1, zeros_eight]

/-- The words while heads are laid. -/
def upTo (j : Nat) (a : Ad) : Int := if a.k = 2 ∧ a.i < (j : Int) then 1 else 0
theorem upTo_zero (r : Nat) : headC (upTo 0) r = zeros r := map_same_range (fun q _ => by simp [upTo])
theorem upTo_sig (j r : Nat) : sigC (upTo j) r = zeros (r * 8) := map_same_range (fun q _ => by simp [upTo])
theorem upTo_cell (j c : Nat) : cellC (upTo j) c = zeros c := map_same_range (fun q _ => by simp [upTo])
theorem upTo_set (j r : Nat) (h : j < r) : (headC (upTo j) r).setIfInBounds j (.int .i64 1) = headC (upTo (j + 1)) r :=
  map_set_range h (by
    have : (j : Int) < ((j + 1 : Nat) : Int) := by omega
    simp only [upTo, true_and, if_pos this]) (fun q hq => by
    have : ((q : Int) < ((j + 1 : Nat) : Int)) = ((q : Int) < (j : Int)) := by apply propext; omega
    simp only [upTo, true_and, this])
theorem upTo_all (r : Nat) : headC (upTo r) r = headC (wordOf []) r := map_same_range (fun q hq => by
  have : (q : Int) < (r : Int) := by omega
  simp [upTo, wordOf_nil, first, this])
structure Laying (w wr : World) (c r j : Nat) (H S C : Nat) : Prop where
  m : MemW wr c r (w.heap.size + 1 + 1 + 1) H S C (upTo j) (.slice none 0 0)
  b : Below w.heap.size w wr
  bH : w.heap.size ≤ H
  bS : w.heap.size ≤ S
  bC : w.heap.size ≤ C
theorem Laying.next {w wr : World} {c r j H S C : Nat} (h : Laying w wr c r j H S C) (hj : j < r) : Laying w (wr.setCell ⟨H, j, none⟩ (.int .i64 1)) c r (j + 1) H S C := by
  have mh : w.heap.size + 1 + 1 + 1 ≠ H := ne_of_type h.m.m h.m.h (by decide)
  have hs : H ≠ S := ne_of_type h.m.h h.m.s (by decide)
  refine ⟨⟨?_, ?_, ?_, ?_, h.m.ne⟩, h.b.setCell (by simpa using h.bH) _, h.bH, h.bS, h.bC⟩
  · rw [heap_set_other _ _ mh.symm]; exact h.m.m
  · rw [heap_set h.m.h, upTo_set _ _ hj]
  · rw [heap_set_other _ _ hs, upTo_sig]; have := h.m.s; rwa [upTo_sig] at this
  · rw [heap_set_other _ _ h.m.ne, upTo_cell]; have := h.m.c; rwa [upTo_cell] at this
theorem Laying.done {w wr : World} {c r H S C : Nat} (h : Laying w wr c r r H S C) (hc : c < 1000000) (hr : r < 1000000) : ∃ F, MemAt wr w.heap.size (.pointer (some ⟨w.heap.size + 1 + 1 + 1, 0, none⟩)) c r [] F := by
  refine ⟨_, _, H, S, C, .slice none 0 0, rfl, ⟨?_, ?_, ?_, ?_, h.m.ne⟩, World.ownsRow_nil _ _ _ _, rfl, by omega, h.bH, h.bS, h.bC, hc, hr⟩
  · exact h.m.m
  · rw [← upTo_all]; exact h.m.h
  · rw [show sigC (wordOf []) r = sigC (upTo r) r from map_same_range (fun q _ => by simp [upTo, wordOf_nil, first])]; exact h.m.s
  · rw [show cellC (wordOf []) c = cellC (upTo r) c from map_same_range (fun q _ => by simp [upTo, wordOf_nil, first])]; exact h.m.c

theorem h3_0 (w : World) (a b c : Obj) : (((w.alloc a).alloc b).alloc c).heap[w.heap.size]? = some a := by
  rw [Below.heap_alloc _ _ _ (by simp; omega)]; exact heap_alloc2_old _ _ _
theorem h3_1 (w : World) (a b c : Obj) : (((w.alloc a).alloc b).alloc c).heap[w.heap.size + 1]? = some b := by
  rw [Below.heap_alloc _ _ _ (by simp)]; exact heap_alloc2_new _ _ _
theorem h3_2 (w : World) (a b c : Obj) : (((w.alloc a).alloc b).alloc c).heap[w.heap.size + 1 + 1]? = some c := by
  have := heap_alloc2_new (w.alloc a) b c
  simpa using this
theorem laying_start {w : World} {o1 o2 o3 : Obj} {c r H S C : Nat} (h1 : (((w.alloc o1).alloc o2).alloc o3).heap[H]? = some (.cells (zeros r) 2)) (h2 : (((w.alloc o1).alloc o2).alloc o3).heap[S]? = some (.cells (zeros (r * 8)) 111)) (h3 : (((w.alloc o1).alloc o2).alloc o3).heap[C]? = some (.cells (zeros c) 2))
    (hne : H ≠ C) (bH : w.heap.size ≤ H) (bS : w.heap.size ≤ S) (bC : w.heap.size ≤ C) :
    Laying w ((((w.alloc o1).alloc o2).alloc o3).alloc (.cells #[.int .i64 0, .slice (some ⟨H, 0, none⟩) r r, .slice (some ⟨S, 0, none⟩) r r, .slice (some ⟨C, 0, none⟩) c c, .slice none 0 0] 87)).drew c r 0 H S C := by
  have hb : Below w.heap.size w ((((w.alloc o1).alloc o2).alloc o3).alloc (.cells #[.int .i64 0, .slice (some ⟨H, 0, none⟩) r r, .slice (some ⟨S, 0, none⟩) r r, .slice (some ⟨C, 0, none⟩) c c, .slice none 0 0] 87)).drew :=
    below_drawn (below_alloc (below_alloc (below_alloc (below_a1 _ _) _) _) _) 1
  refine ⟨⟨?_, ?_, ?_, ?_, hne⟩, hb, bH, bS, bC⟩
  · have := heap_alloc_new (((w.alloc o1).alloc o2).alloc o3) (.cells #[.int .i64 0, .slice (some ⟨H, 0, none⟩) r r, .slice (some ⟨S, 0, none⟩) r r, .slice (some ⟨C, 0, none⟩) c c, .slice none 0 0] 87)
    have hs : (((w.alloc o1).alloc o2).alloc o3).heap.size = w.heap.size + 1 + 1 + 1 := by simp
    have e : upTo 0 ⟨1, 0, 0⟩ = 0 := by simp [upTo]
    rw [hs] at this
    rw [e]
    exact this
  · rw [upTo_zero]
    have hl := heap_lt h1
    exact (Below.heap_alloc _ _ _ hl).trans h1
  · rw [upTo_sig]
    have hl := heap_lt h2
    exact (Below.heap_alloc _ _ _ hl).trans h2
  · rw [upTo_cell]
    have hl := heap_lt h3
    exact (Below.heap_alloc _ _ _ hl).trans h3

set_option maxRecDepth 100000 in
set_option maxHeartbeats 3200000 in
theorem new_yes (w : World) (c r : Nat) (hc : 1 ≤ c ∧ c ≤ 1024) (hr : 1 ≤ r ∧ r ≤ 16) :
    Calls Try.prog 10 #[.int .i64 (c : Int), .int .i64 (r : Int)] w fun e w' => ∃ p F, e = .returned (.tuple #[p, .int .i64 0]) ∧ p ≠ .pointer none ∧ MemAt w' w.heap.size p c r [] F ∧ Below w.heap.size w w' := by
  have c1 : ¬ ((c : Int) < 1) := by omega
  have c2 : ¬ ((1024 : Int) < (c : Int)) := by omega
  have r1 : ¬ ((r : Int) < 1) := by omega
  have r2 : ¬ ((16 : Int) < (r : Int)) := by omega
  have m1 := fun w => make_words w r (by omega)
  have m2 := fun w => make_words w c (by omega)
  have m3 := fun w => make_rows w r (by omega)
  go_enter Try.func10, Try.ntmps10
  go_wp2_with fail
  go_region
  all_goals
    go_wp2
    go_loopw [35] (fun i wr => ∃ j : Nat, j ≤ r ∧ i = .int .i64 j ∧ ∃ H S C, Laying w wr c r j H S C) (fun i _ => r - (intOf i).toNat)
    case atStart => exact ⟨0, Nat.zero_le _, rfl, _, _, _, laying_start (by first | exact h3_0 _ _ _ _ | exact h3_1 _ _ _ _ | exact h3_2 _ _ _ _) (by first | exact h3_0 _ _ _ _ | exact h3_1 _ _ _ _ | exact h3_2 _ _ _ _) (by first | exact h3_0 _ _ _ _ | exact h3_1 _ _ _ _ | exact h3_2 _ _ _ _) (by omega) (by omega) (by omega) (by omega)⟩
    case round =>
      obtain ⟨j, hj, rfl, H, S, C, hlay⟩ := hrel
      have HL : Hid (Laying w wr c r j H S C) := hlay
      have hcell : wr.cell? ⟨w.heap.size + 1 + 1 + 1, 1, none⟩ = some (.slice (some ⟨H, 0, none⟩) r r) := by rw [cell_at hlay.m.m]; rfl
      by_cases hlt : j < r
      · have hch : wr.cell? ⟨H, j, none⟩ = some (.int .i64 (upTo j ⟨2, j, 0⟩)) := by rw [cell_at hlay.m.h, headC_get _ _ _ hlt]
        have hfh : wr.frozen? ⟨H, j, none⟩ = false := frozen_at hlay.m.h j
        have hd : decide ((j : Int) < (r : Int)) = true := by simp; omega
        generalize upTo j ⟨2, j, 0⟩ = z at *
        clear hlay
        go_wp2
        go_roundw
        case rel => exact ⟨j + 1, by omega, by go_num, H, S, C, HL.out.next hlt⟩
        case measure => simp [intOf]; omega
      · obtain rfl : j = r := by omega
        clear hlay
        go_wp2
        go_ret2
        obtain ⟨F, hF⟩ := HL.out.done (by omega) (by omega)
        exact ⟨_, F, rfl, by simp, hF, HL.out.b⟩

theorem new_no (w : World) (c r : Int) (h : ¬ (1 ≤ c ∧ c ≤ 1024 ∧ 1 ≤ r ∧ r ≤ 16)) :
    Calls Try.prog 10 #[.int .i64 c, .int .i64 r] w fun e w' => e = .returned (.tuple #[.pointer none, .int .i64 1]) ∧ w' = w := by
  by_cases c1 : c < 1
  · clear h
    go_enter Try.func10, Try.ntmps10
    go_wp2
    go_ret2
    exact ⟨rfl, rfl⟩
  · by_cases c2 : 1024 < c
    · clear h
      go_enter Try.func10, Try.ntmps10
      go_wp2
      go_ret2
      exact ⟨rfl, rfl⟩
    · by_cases r1 : r < 1
      · clear h
        go_enter Try.func10, Try.ntmps10
        go_wp2
        go_ret2
        exact ⟨rfl, rfl⟩
      · have r2 : 16 < r := by omega
        clear h
        go_enter Try.func10, Try.ntmps10
        go_wp2
        go_ret2
        exact ⟨rfl, rfl⟩
end Go.Proofs.Ytbmmicfdnfpcaaa
