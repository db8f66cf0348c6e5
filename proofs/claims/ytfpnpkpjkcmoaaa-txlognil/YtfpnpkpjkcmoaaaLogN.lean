/- A log that is nil. -/
import Derived.Test.YtfpnpkpjkcmoaaaLogB
namespace Go.Proofs.Ytfpnpkpjkcmoaaa
open Go.ChangeShapes Go.WideShapes Go.ChangeAt Go.RowKit

theorem write_nil (c v : Int) (w : World) : Calls Try.prog 13 #[.pointer none, .int .i64 c, .int .i64 v] w fun e w' => e = .returned (.int .i64 1) ∧ w' = w := by
  go_enter Try.func13, Try.ntmps13
  go_wp2
  go_ret
  exact ⟨rfl, rfl⟩
theorem own_nil (c : Int) (w : World) : Calls Try.prog 19 #[.pointer none, .int .i64 c] w fun e w' => e = .returned (.tuple #[.int .i64 0, .bool false]) ∧ w' = w := by
  go_enter Try.func19, Try.ntmps19
  go_wp2
  go_ret2
  exact ⟨rfl, rfl⟩
theorem read_nil (c : Int) (w : World) : Calls Try.prog 14 #[.pointer none, .int .i64 c] w fun e w' => e = .returned (.tuple #[]) ∧ w' = w := by
  go_enter Try.func14, Try.ntmps14
  go_wp2
  refine bodyPost_ret (results_none rfl _ _ _) rfl ?_
  exact ⟨rfl, rfl⟩
theorem writes_nil (w : World) : Calls Try.prog 15 #[.pointer none] w fun e w' => e = .returned (.slice none 0 0) ∧ w' = w := by
  go_enter Try.func15, Try.ntmps15
  go_wp2
  go_ret
  exact ⟨rfl, rfl⟩
theorem lclear_nil (w : World) : Calls Try.prog 20 #[.pointer none] w fun e w' => e = .returned (.tuple #[]) ∧ w' = w := by
  go_enter Try.func20, Try.ntmps20
  go_wp2
  refine bodyPost_ret (results_none rfl _ _ _) rfl ?_
  exact ⟨rfl, rfl⟩
theorem reads_nil (w : World) : Calls Try.prog 18 #[.pointer none] w fun e w' => e = .returned (Sg.sv Sg.nought) ∧ Below w.heap.size w w' := by
  go_enter Try.func18, Try.ntmps18
  go_wp2
  exact Sg.ret_sig rfl rfl (heap_alloc_new w _) rfl rfl ⟨rfl, below_a1 _ _⟩
set_option maxRecDepth 10000 in
theorem sig_nil (w : World) : Calls Try.prog 16 #[.pointer none] w fun e w' => e = .returned (Sg.sv Sg.nought) ∧ Below w.heap.size w w' := by
  have HO : Hid (∀ w : World, Calls Try.prog 17 #[.slice none 0 0] w fun e w' => e = .returned (.agg (Sg.sc Sg.nought)) ∧ Below w.heap.size w w') := fun w => Sg.of_any w _ [] ⟨none, 0, rfl, by simp, Or.inl rfl⟩
  have hz : (Sg.sc Sg.nought).size = 8 := rfl
  have h1 := Sg.sc_one Sg.nought
  go_enter Try.func16, Try.ntmps16
  go_wp2_with fail
  refine (HO.out _).mono ?_
  rintro e w1 ⟨rfl, hb1⟩
  have HB1 : Hid (Below (w.heap.size + 1) (w.alloc (.cells (Sg.sc Sg.nought) 44)) w1) := by
    have e : (w.alloc (.cells (Sg.sc Sg.nought) 44)).heap.size = w.heap.size + 1 := by simp
    rw [Hid, ← e]; exact hb1
  have HA1 : Hid (Below w.heap.size w w1) := below_then (below_a1 _ _) hb1
  have HW2 : Hid (Sw w (w1.alloc (.cells (Sg.sc Sg.nought) 44)) w.heap.size w1.heap.size (Sg.sc Sg.nought)) := by
    refine ⟨?_, heap_alloc_new _ _, ?_, Nat.le_refl _, HA1.out.size, below_alloc HA1.out _⟩
    · rw [Below.heap_alloc _ _ _ (by have := HB1.out.size; simp at this; omega), HB1.out.block _ (by omega)]; exact heap_alloc_new _ _
    · have := HB1.out.size; simp at this; omega
  clear hb1
  have hst0 := fun (old : Array Value) (ho : old.size = 8) => Sg.store_1_0 (P := Try.prog) w1 44 old (Sg.sc Sg.nought) ho hz h1
  have hl3 := Sg.row_cells HW2.out.sig hz
  have hst := Sg.store_row (P := Try.prog) HW2.out.res rfl hz h1
  have HR : Hid ((((w1.alloc (.cells (Sg.sc Sg.nought) 44)).setRow w.heap.size (Sg.sc Sg.nought)).heap[w.heap.size]? = some (.cells (Sg.sc Sg.nought) 44 (0, 0)))) := setRow_heap _ _ _ _ _ _ HW2.out.res
  generalize hcs : Sg.sc Sg.nought = cs at *
  have HCS : Hid (Sg.sc Sg.nought = cs) := hcs
  clear hcs
  have hpo := Sg.pack8 cs hz
  go_wp2_with fail
  refine (writes_nil _).mono ?_
  rintro e w2 ⟨rfl, rfl⟩
  go_wp2
  refine wp_loop_rounds 1 ?_
  rw [rounds_succ]
  go_wp2
  exact Sg.ret_sig rfl rfl HR.out hz rfl ⟨by unfold Sg.sv; rw [HCS.out], Sg.below_setRow (below_alloc HA1.out _) _ (Nat.le_refl _) _⟩
end Go.Proofs.Ytfpnpkpjkcmoaaa
