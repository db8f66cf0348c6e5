/- What the program's Take and Lay answer, size by size. -/
import Derived.Test.YtbjopdmchmekpaaDoorBlk
import Derived.Test.YtbjopdmchmekpaaDoorCodM
namespace Go.Proofs.YtbjopdmchmekpaaDoor
open Go.ChangeShapes Go.WideShapes Go.ChangeAt Go.RowKit

theorem bitsOf_any (j : Nat) (hj : j ≤ 8) (w : World) : Calls Tryd.prog 67 #[.int .i64 j] w fun e w' => e = .returned (.int .u64 ((8 * j : Nat) : Int)) ∧ w' = w := by
  go_enter Tryd.func67, Tryd.ntmps67
  go_wp2
  go_ret
  exact ⟨by simp; omega, rfl⟩
theorem isSize_any (n : Int) (w : World) (h : n = 1 ∨ n = 2 ∨ n = 4 ∨ n = 8) : Calls Tryd.prog 66 #[.int .i64 n] w fun e w' => e = .returned (.bool true) ∧ w' = w := by
  rcases h with rfl | rfl | rfl | rfl
  all_goals
    go_enter Tryd.func66, Tryd.ntmps66
    go_wp2
    go_ret
    exact ⟨rfl, rfl⟩
theorem take_short (s : ByteArray) (n : Int) (w : World) (h : n = 1 ∨ n = 2 ∨ n = 4 ∨ n = 8) (hl : (s.size : Int) < n) : Calls Tryd.prog 55 #[.string s, .int .i64 n] w fun e w' => e = .returned (.tuple #[.int .i64 0, .int .i64 1]) ∧ w' = w := by
  have HS : Hid (∀ w, Calls Tryd.prog 66 #[.int .i64 n] w fun e w' => e = .returned (.bool true) ∧ w' = w) := fun w => isSize_any n w h
  clear h
  go_enter Tryd.func55, Tryd.ntmps55
  go_wp2_with fail
  refine (HS.out _).mono ?_
  rintro e w' ⟨rfl, rfl⟩
  go_wp2
  go_ret2
  exact ⟨rfl, rfl⟩
theorem byte_bd (s : ByteArray) (n : Nat) (h : n < s.size) : 0 ≤ (s[n].toNat : Int) ∧ (s[n].toNat : Int) ≤ 255 := by
  have := s[n].toNat_lt
  omega
theorem take_is1 {f : Nat → Nat} (hf : ∀ i, f i < 256) : wrap64 (leF f 1 * 72057594037927936) / 72057594037927936 = takeF f 1 := by
  have hl := le_bd hf 1
  have e1 : (256 : Int) ^ 1 = 256 := by decide
  have e2 : 128 * (256 : Int) ^ (1 - 1) = 128 := by decide
  unfold takeF
  rw [e1] at hl ⊢
  rw [e2]
  unfold wrap64
  split <;> omega
theorem take_is2 {f : Nat → Nat} (hf : ∀ i, f i < 256) : wrap64 (leF f 2 * 281474976710656) / 281474976710656 = takeF f 2 := by
  have hl := le_bd hf 2
  have e1 : (256 : Int) ^ 2 = 65536 := by decide
  have e2 : 128 * (256 : Int) ^ (2 - 1) = 32768 := by decide
  unfold takeF
  rw [e1] at hl ⊢
  rw [e2]
  unfold wrap64
  split <;> omega
theorem take_is8 {f : Nat → Nat} (hf : ∀ i, f i < 256) : wrap64 (leF f 8) = takeF f 8 := by
  have hl := le_bd hf 8
  have e1 : (256 : Int) ^ 8 = 18446744073709551616 := by decide
  have e2 : 128 * (256 : Int) ^ (8 - 1) = 9223372036854775808 := by decide
  unfold takeF
  rw [e1] at hl ⊢
  rw [e2]
  unfold wrap64
  split <;> omega
set_option maxHeartbeats 400000 in
theorem take1 (s : ByteArray) (w : World) (hs : s.size ≤ maxLen) (h : 1 ≤ s.size) : Calls Tryd.prog 55 #[.string s, .int .i64 1] w fun e w' => e = .returned (.tuple #[.int .i64 (takeF (byt s) 1), .int .i64 0]) ∧ ∃ n, w' = w.drewN n := by
  unfold maxLen at hs
  have hd : decide ((s.size : Int) < 1) = false := by simp; omega
  have HT : Hid (_ = takeF (byt s) 1) := take_is1 (byt_lt s)
  go_enter Tryd.func55, Tryd.ntmps55
  go_wp2
  go_loopw [6, 19] (fun u i wr => ∃ j : Nat, j ≤ 1 ∧ i = .int .i64 j ∧ u = .int .u64 (leF (byt s) j) ∧ ∃ n, wr = w.drewN n) (fun _ i _ => 1 - (intOf i).toNat)
  case atStart => exact ⟨0, Nat.zero_le _, rfl, rfl, 0, rfl⟩
  case round =>
    obtain ⟨j, hj, rfl, rfl, hwr⟩ := hrel
    have HW : Hid (∃ n, wr = w.drewN n) := hwr
    clear hwr
    by_cases hlt : j < 1
    · have hjs : j < s.size := by omega
      have H : Hid (bits .or .u64 (leF (byt s) j) (IntKind.u64.wrap ((s[j].toNat : Int) * 2 ^ (8 * j))) = leF (byt s) (j + 1)) := by
        have := le_or (byt_lt s) j (by omega)
        rw [byt_at s j hjs] at this
        exact this
      have hc := byte_bd s j hjs
      clear HT
      go_wp2
      go_quiet ((go_at_call 67; exact Calls.quiet_of_same (bitsOf_any j (by omega) _)))
      go_wp2
      go_roundw
      case rel => exact ⟨j + 1, by omega, by go_num, by rw [← H.out], by obtain ⟨n, rfl⟩ := HW.out; exact ⟨_, World.drewN_drewN _ _ _⟩⟩
      case measure => simp [intOf]; omega
    · have e : j = 1 := by omega
      subst e
      have hl := le_bd (byt_lt s) 1
      go_wp2_with fail
      refine (bitsOf_any 1 (by decide) _).mono ?_
      rintro e w' ⟨rfl, rfl⟩
      go_wp2
      go_ret2
      exact ⟨by rw [← HT.out]; rfl, HW.out⟩
set_option maxHeartbeats 400000 in
theorem take2 (s : ByteArray) (w : World) (hs : s.size ≤ maxLen) (h : 2 ≤ s.size) : Calls Tryd.prog 55 #[.string s, .int .i64 2] w fun e w' => e = .returned (.tuple #[.int .i64 (takeF (byt s) 2), .int .i64 0]) ∧ ∃ n, w' = w.drewN n := by
  unfold maxLen at hs
  have hd : decide ((s.size : Int) < 2) = false := by simp; omega
  have HT : Hid (_ = takeF (byt s) 2) := take_is2 (byt_lt s)
  go_enter Tryd.func55, Tryd.ntmps55
  go_wp2
  go_loopw [6, 19] (fun u i wr => ∃ j : Nat, j ≤ 2 ∧ i = .int .i64 j ∧ u = .int .u64 (leF (byt s) j) ∧ ∃ n, wr = w.drewN n) (fun _ i _ => 2 - (intOf i).toNat)
  case atStart => exact ⟨0, Nat.zero_le _, rfl, rfl, 0, rfl⟩
  case round =>
    obtain ⟨j, hj, rfl, rfl, hwr⟩ := hrel
    have HW : Hid (∃ n, wr = w.drewN n) := hwr
    clear hwr
    by_cases hlt : j < 2
    · have hjs : j < s.size := by omega
      have H : Hid (bits .or .u64 (leF (byt s) j) (IntKind.u64.wrap ((s[j].toNat : Int) * 2 ^ (8 * j))) = leF (byt s) (j + 1)) := by
        have := le_or (byt_lt s) j (by omega)
        rw [byt_at s j hjs] at this
        exact this
      have hc := byte_bd s j hjs
      clear HT
      go_wp2
      go_quiet ((go_at_call 67; exact Calls.quiet_of_same (bitsOf_any j (by omega) _)))
      go_wp2
      go_roundw
      case rel => exact ⟨j + 1, by omega, by go_num, by rw [← H.out], by obtain ⟨n, rfl⟩ := HW.out; exact ⟨_, World.drewN_drewN _ _ _⟩⟩
      case measure => simp [intOf]; omega
    · have e : j = 2 := by omega
      subst e
      have hl := le_bd (byt_lt s) 2
      go_wp2_with fail
      refine (bitsOf_any 2 (by decide) _).mono ?_
      rintro e w' ⟨rfl, rfl⟩
      go_wp2
      go_ret2
      exact ⟨by rw [← HT.out]; rfl, HW.out⟩
set_option maxHeartbeats 400000 in
theorem take8 (s : ByteArray) (w : World) (hs : s.size ≤ maxLen) (h : 8 ≤ s.size) : Calls Tryd.prog 55 #[.string s, .int .i64 8] w fun e w' => e = .returned (.tuple #[.int .i64 (takeF (byt s) 8), .int .i64 0]) ∧ ∃ n, w' = w.drewN n := by
  unfold maxLen at hs
  have hd : decide ((s.size : Int) < 8) = false := by simp; omega
  have HT : Hid (_ = takeF (byt s) 8) := take_is8 (byt_lt s)
  go_enter Tryd.func55, Tryd.ntmps55
  go_wp2
  go_loopw [6, 19] (fun u i wr => ∃ j : Nat, j ≤ 8 ∧ i = .int .i64 j ∧ u = .int .u64 (leF (byt s) j) ∧ ∃ n, wr = w.drewN n) (fun _ i _ => 8 - (intOf i).toNat)
  case atStart => exact ⟨0, Nat.zero_le _, rfl, rfl, 0, rfl⟩
  case round =>
    obtain ⟨j, hj, rfl, rfl, hwr⟩ := hrel
    have HW : Hid (∃ n, wr = w.drewN n) := hwr
    clear hwr
    by_cases hlt : j < 8
    · have hjs : j < s.size := by omega
      have H : Hid (bits .or .u64 (leF (byt s) j) (IntKind.u64.wrap ((s[j].toNat : Int) * 2 ^ (8 * j))) = leF (byt s) (j + 1)) := by
        have := le_or (byt_lt s) j (by omega)
        rw [byt_at s j hjs] at this
        exact this
      have hc := byte_bd s j hjs
      clear HT
      go_wp2
      go_quiet ((go_at_call 67; exact Calls.quiet_of_same (bitsOf_any j (by omega) _)))
      go_wp2
      go_roundw
      case rel => exact ⟨j + 1, by omega, by go_num, by rw [← H.out], by obtain ⟨n, rfl⟩ := HW.out; exact ⟨_, World.drewN_drewN _ _ _⟩⟩
      case measure => simp [intOf]; omega
    · have e : j = 8 := by omega
      subst e
      have hl := le_bd (byt_lt s) 8
      go_wp2_with fail
      refine (bitsOf_any 8 (by decide) _).mono ?_
      rintro e w' ⟨rfl, rfl⟩
      go_wp2
      go_ret2
      exact ⟨by rw [← HT.out]; rfl, HW.out⟩
theorem conv_new (w : World) (xs : List Int) (n : Nat) (hn : xs.length = n) (c : Array Value) (hc : c = (xs.map (Value.int .u8)).toArray) :
    (convert 61 9 (.slice (some ⟨w.heap.size, 0, none⟩) n n)).run Tryd.prog (w.alloc (.cells c 5)) = .ok (.string (strOfNums xs)) (w.alloc (.cells c 5)) := by
  subst hc
  refine run_convert_bytes_arg _ 61 5 Tryd.underlying61 Tryd.underlying5 w.heap.size 0 n n xs hn (fun i hi => ?_) 9 Tryd.underlying9
  have hi' : i < xs.length := by omega
  simp [hi']
theorem lay1 (x : Int) (w : World) : Calls Tryd.prog 49 #[.int .i64 x, .int .i64 1] w fun e w' => e = .returned (.tuple #[.string (strOfNums (layN x 1)), .int .i64 0]) ∧ ∃ c, w' = w.alloc (.cells c 5) := by
  have hmk : ∀ w, (Instr.makeSlice 61 (.int .i64 1) (.int .i64 1)).run Tryd.prog w = .ok (.slice (some ⟨w.heap.size, 0, none⟩) 1 1) (w.alloc (.cells #[.int .u8 0] 5)) := fun _ => by kernel_rfl
  have hcv := fun w : World => conv_new w [x % 256] 1 rfl #[.int .u8 (x % 256)] rfl
  have HL : Hid (layN x 1 = [x % 256]) := (layn x).1
  go_enter Tryd.func49, Tryd.ntmps49
  go_wp2
  refine wp_loop_rounds 2 ?_
  rw [rounds_succ]
  go_wp2
  rw [rounds_succ]
  go_wp2
  go_ret2
  exact ⟨by rw [HL.out]; rfl, _, rfl⟩
theorem lay2 (x : Int) (w : World) : Calls Tryd.prog 49 #[.int .i64 x, .int .i64 2] w fun e w' => e = .returned (.tuple #[.string (strOfNums (layN x 2)), .int .i64 0]) ∧ ∃ c, w' = w.alloc (.cells c 5) := by
  have hmk : ∀ w, (Instr.makeSlice 61 (.int .i64 2) (.int .i64 2)).run Tryd.prog w = .ok (.slice (some ⟨w.heap.size, 0, none⟩) 2 2) (w.alloc (.cells #[.int .u8 0, .int .u8 0] 5)) := fun _ => by kernel_rfl
  have hcv := fun w : World => conv_new w [x % 256, x / 256 % 256] 2 rfl #[.int .u8 (x % 256), .int .u8 (x / 256 % 256)] rfl
  have HL : Hid (layN x 2 = [x % 256, x / 256 % 256]) := (layn x).2.1
  go_enter Tryd.func49, Tryd.ntmps49
  go_wp2
  refine wp_loop_rounds 3 ?_
  rw [rounds_succ]
  go_wp2
  rw [rounds_succ]
  go_wp2
  rw [rounds_succ]
  go_wp2
  go_ret2
  exact ⟨by rw [HL.out]; rfl, _, rfl⟩
theorem lay8 (x : Int) (w : World) : Calls Tryd.prog 49 #[.int .i64 x, .int .i64 8] w fun e w' => e = .returned (.tuple #[.string (strOfNums (layN x 8)), .int .i64 0]) ∧ ∃ c, w' = w.alloc (.cells c 5) := by
  have hmk : ∀ w, (Instr.makeSlice 61 (.int .i64 8) (.int .i64 8)).run Tryd.prog w = .ok (.slice (some ⟨w.heap.size, 0, none⟩) 8 8) (w.alloc (.cells #[.int .u8 0, .int .u8 0, .int .u8 0, .int .u8 0, .int .u8 0, .int .u8 0, .int .u8 0, .int .u8 0] 5)) := fun _ => by kernel_rfl
  have hcv := fun w : World => conv_new w [x % 256, x / 256 % 256, x / 65536 % 256, x / 16777216 % 256, x / 4294967296 % 256, x / 1099511627776 % 256, x / 281474976710656 % 256, x / 72057594037927936 % 256] 8 rfl #[.int .u8 (x % 256), .int .u8 (x / 256 % 256), .int .u8 (x / 65536 % 256), .int .u8 (x / 16777216 % 256), .int .u8 (x / 4294967296 % 256), .int .u8 (x / 1099511627776 % 256), .int .u8 (x / 281474976710656 % 256), .int .u8 (x / 72057594037927936 % 256)] rfl
  have HL : Hid (layN x 8 = [x % 256, x / 256 % 256, x / 65536 % 256, x / 16777216 % 256, x / 4294967296 % 256, x / 1099511627776 % 256, x / 281474976710656 % 256, x / 72057594037927936 % 256]) := (layn x).2.2.2
  go_enter Tryd.func49, Tryd.ntmps49
  go_wp2
  refine wp_loop_rounds 9 ?_
  rw [rounds_succ]
  go_wp2
  rw [rounds_succ]
  go_wp2
  rw [rounds_succ]
  go_wp2
  rw [rounds_succ]
  go_wp2
  rw [rounds_succ]
  go_wp2
  rw [rounds_succ]
  go_wp2
  rw [rounds_succ]
  go_wp2
  rw [rounds_succ]
  go_wp2
  rw [rounds_succ]
  go_wp2
  go_ret2
  exact ⟨by rw [HL.out]; rfl, _, rfl⟩
end Go.Proofs.YtbjopdmchmekpaaDoor
