/- Contracts of Lay and Take of the program, and of Take of the document's answer. -/
import Derived.Test.YtdegladjmbllbaaLay
import Derived.Deep.QuietTactic
import Derived.BigQuiet
namespace Go.Proofs.Ytdegladjmbllbaa
open Go.ChangeShapes Go.WideShapes Go.ChangeAt Go.RowKit

theorem bitsOf_any (j : Nat) (hj : j ≤ 8) (w : World) : Calls Try.prog 40 #[.int .i64 j] w fun e w' => e = .returned (.int .u64 ((8 * j : Nat) : Int)) ∧ w' = w := by
  go_enter Try.func40, Try.ntmps40
  go_wp2
  go_ret
  exact ⟨by simp; omega, rfl⟩

theorem layn (x : Int) : layN x 1 = [x % 256] ∧ layN x 2 = [x % 256, x / 256 % 256] ∧ layN x 4 = [x % 256, x / 256 % 256, x / 65536 % 256, x / 16777216 % 256] ∧
    layN x 8 = [x % 256, x / 256 % 256, x / 65536 % 256, x / 16777216 % 256, x / 4294967296 % 256, x / 1099511627776 % 256, x / 281474976710656 % 256, x / 72057594037927936 % 256] := by
  simp [layN, xb, List.range_succ]


theorem lay1 (x : Int) (w : World) : Calls Try.prog 30 #[.int .i64 x, .int .i64 1] w fun e w' => e = .returned (.tuple #[.string (strOfNums (layN x 1)), .int .i64 0]) ∧ ∃ c, w' = w.alloc (.cells c 5) := by
  have hmk : ∀ w, (Instr.makeSlice 57 (.int .i64 1) (.int .i64 1)).run Try.prog w = .ok (.slice (some ⟨w.heap.size, 0, none⟩) 1 1) (w.alloc (.cells #[.int .u8 0] 5)) := fun _ => by kernel_rfl
  have hcv := fun w : World => conv_new w [x % 256] 1 rfl #[.int .u8 (x % 256)] rfl
  have HL : Hid (layN x 1 = [x % 256]) := (layn x).1
  go_enter Try.func30, Try.ntmps30
  go_wp2
  refine wp_loop_rounds 2 ?_
  rw [rounds_succ]
  go_wp2
  rw [rounds_succ]
  go_wp2
  go_ret2
  exact ⟨by rw [HL.out]; rfl, _, rfl⟩

theorem lay2 (x : Int) (w : World) : Calls Try.prog 30 #[.int .i64 x, .int .i64 2] w fun e w' => e = .returned (.tuple #[.string (strOfNums (layN x 2)), .int .i64 0]) ∧ ∃ c, w' = w.alloc (.cells c 5) := by
  have hmk : ∀ w, (Instr.makeSlice 57 (.int .i64 2) (.int .i64 2)).run Try.prog w = .ok (.slice (some ⟨w.heap.size, 0, none⟩) 2 2) (w.alloc (.cells #[.int .u8 0, .int .u8 0] 5)) := fun _ => by kernel_rfl
  have hcv := fun w : World => conv_new w [x % 256, x / 256 % 256] 2 rfl #[.int .u8 (x % 256), .int .u8 (x / 256 % 256)] rfl
  have HL : Hid (layN x 2 = [x % 256, x / 256 % 256]) := (layn x).2.1
  go_enter Try.func30, Try.ntmps30
  go_wp2
  refine wp_loop_rounds 3 ?_
  rw [rounds_succ]
  go_wp2
  rw [rounds_succ]
  go_wp2
  rw [rounds_succ]
  go_wp2
  go_ret2
  exact ⟨by rw [HL.out]; rfl, _, rfl⟩

theorem lay4 (x : Int) (w : World) : Calls Try.prog 30 #[.int .i64 x, .int .i64 4] w fun e w' => e = .returned (.tuple #[.string (strOfNums (layN x 4)), .int .i64 0]) ∧ ∃ c, w' = w.alloc (.cells c 5) := by
  have hmk : ∀ w, (Instr.makeSlice 57 (.int .i64 4) (.int .i64 4)).run Try.prog w = .ok (.slice (some ⟨w.heap.size, 0, none⟩) 4 4) (w.alloc (.cells #[.int .u8 0, .int .u8 0, .int .u8 0, .int .u8 0] 5)) := fun _ => by kernel_rfl
  have hcv := fun w : World => conv_new w [x % 256, x / 256 % 256, x / 65536 % 256, x / 16777216 % 256] 4 rfl #[.int .u8 (x % 256), .int .u8 (x / 256 % 256), .int .u8 (x / 65536 % 256), .int .u8 (x / 16777216 % 256)] rfl
  have HL : Hid (layN x 4 = [x % 256, x / 256 % 256, x / 65536 % 256, x / 16777216 % 256]) := (layn x).2.2.1
  go_enter Try.func30, Try.ntmps30
  go_wp2
  refine wp_loop_rounds 5 ?_
  rw [rounds_succ]
  go_wp2
  rw [rounds_succ]
  go_wp2
  rw [rounds_succ]
  go_wp2
  rw [rounds_succ]
  go_wp2
  rw [rounds_succ]
  go_wp2
  go_ret2
  exact ⟨by rw [HL.out]; rfl, _, rfl⟩

theorem lay8 (x : Int) (w : World) : Calls Try.prog 30 #[.int .i64 x, .int .i64 8] w fun e w' => e = .returned (.tuple #[.string (strOfNums (layN x 8)), .int .i64 0]) ∧ ∃ c, w' = w.alloc (.cells c 5) := by
  have hmk : ∀ w, (Instr.makeSlice 57 (.int .i64 8) (.int .i64 8)).run Try.prog w = .ok (.slice (some ⟨w.heap.size, 0, none⟩) 8 8) (w.alloc (.cells #[.int .u8 0, .int .u8 0, .int .u8 0, .int .u8 0, .int .u8 0, .int .u8 0, .int .u8 0, .int .u8 0] 5)) := fun _ => by kernel_rfl
  have hcv := fun w : World => conv_new w [x % 256, x / 256 % 256, x / 65536 % 256, x / 16777216 % 256, x / 4294967296 % 256, x / 1099511627776 % 256, x / 281474976710656 % 256, x / 72057594037927936 % 256] 8 rfl #[.int .u8 (x % 256), .int .u8 (x / 256 % 256), .int .u8 (x / 65536 % 256), .int .u8 (x / 16777216 % 256), .int .u8 (x / 4294967296 % 256), .int .u8 (x / 1099511627776 % 256), .int .u8 (x / 281474976710656 % 256), .int .u8 (x / 72057594037927936 % 256)] rfl
  have HL : Hid (layN x 8 = [x % 256, x / 256 % 256, x / 65536 % 256, x / 16777216 % 256, x / 4294967296 % 256, x / 1099511627776 % 256, x / 281474976710656 % 256, x / 72057594037927936 % 256]) := (layn x).2.2.2
  go_enter Try.func30, Try.ntmps30
  go_wp2
  refine wp_loop_rounds 9 ?_
  rw [rounds_succ]
  go_wp2
  rw [rounds_succ]
  go_wp2
  rw [rounds_succ]
  go_wp2
  rw [rounds_succ]
  go_wp2
  rw [rounds_succ]
  go_wp2
  rw [rounds_succ]
  go_wp2
  rw [rounds_succ]
  go_wp2
  rw [rounds_succ]
  go_wp2
  rw [rounds_succ]
  go_wp2
  go_ret2
  exact ⟨by rw [HL.out]; rfl, _, rfl⟩
end Go.Proofs.Ytdegladjmbllbaa
