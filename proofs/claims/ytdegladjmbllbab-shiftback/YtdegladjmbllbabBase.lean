/- What each small function of the program does, call by call: the contracts that the walks of ShiftApart and ShiftBack are made of. -/
import Derived.Test.YtdegladjmbllbabRows
import Derived.Test.YtdegladjmbllbabMath
import Derived.WalkKit
import Derived.ProofKit
import Derived.OpenShut
import Derived.ShutString
import Derived.WalkSpells
import Derived.WalkLawsBesides
import Derived.Laws.BytesArg
import Derived.Deep.QuietTactic
import Derived.BigQuiet
import Derived.ChangeOld
import Derived.Below
import Derived.WalkSmall
namespace Go.Proofs.Ytdegladjmbllbab
open Go.ChangeShapes Go.WideShapes Go.ChangeAt Go.RowKit

theorem mix_any (x : Int) (w : World) : Calls Try.prog 6 #[.int .u64 x] w fun e w' => e = .returned (.int .u64 (mixV x)) ∧ w' = w := by
  go_enter Try.func6, Try.ntmps6
  go_wp2
  go_ret
  exact ⟨rfl, rfl⟩

theorem head_any (x : Int) (d : Bool) (w : World) : Calls Try.prog 8 #[.int .i64 x, .bool d] w fun e w' => e = .returned (.int .i64 (headV x d)) ∧ w' = w := by
  have h1 := or1 x
  cases d
  all_goals
    go_enter Try.func8, Try.ntmps8
    go_wp2
    go_ret
    exact ⟨by simp [headV], rfl⟩

theorem stamp_any (x : Int) (w : World) : Calls Try.prog 9 #[.int .i64 x] w fun e w' => e = .returned (.int .i64 (x / 2)) ∧ w' = w := by
  go_enter Try.func9, Try.ntmps9
  go_wp2
  go_ret
  exact ⟨rfl, rfl⟩

theorem done_any (x : Int) (w : World) : Calls Try.prog 10 #[.int .i64 x] w fun e w' => e = .returned (.bool (x % 2 == 1)) ∧ w' = w := by
  have h1 := and1 x
  go_enter Try.func10, Try.ntmps10
  go_wp2
  go_ret
  exact ⟨rfl, rfl⟩

/-- 'string(b)' of a row that was just made. -/
theorem conv_new (w : World) (xs : List Int) (n : Nat) (hn : xs.length = n) (c : Array Value) (hc : c = (xs.map (Value.int .u8)).toArray) :
    (convert 40 9 (.slice (some ⟨w.heap.size, 0, none⟩) n n)).run Try.prog (w.alloc (.cells c 5)) = .ok (.string (strOfNums xs)) (w.alloc (.cells c 5)) := by
  subst hc
  refine run_convert_bytes_arg _ 40 5 Try.underlying40 Try.underlying5 w.heap.size 0 n n xs hn (fun i hi => ?_) 9 Try.underlying9
  have hi' : i < xs.length := by omega
  simp [hi']

theorem turn_any (x n : Int) (h0 : 0 ≤ x) (h1 : x ≤ 18446744073709551615) (w : World) : Calls Try.prog 7 #[.int .u64 x, .int .i64 n] w fun e w' => e = .returned (.int .u64 (turnV x (n % 64).toNat)) ∧ w' = w := by
  have hk := and63 n
  have hlt : (n % 64).toNat < 64 := by omega
  generalize (n % 64).toNat = k at *
  have H : Hid (bits .or .u64 (IntKind.u64.wrap (x * 2 ^ k)) (x / 2 ^ (64 - k)) = turnV x k) := turn_or x k h0 (by omega) hlt
  go_enter Try.func7, Try.ntmps7
  go_wp2
  go_ret
  exact ⟨by simp [H.out], rfl⟩

def xb (x : Int) (j : Nat) : Int := x / 256 ^ j

def layN (x : Int) (n : Nat) : List Int := (List.range n).map fun j => xb x j % 256

theorem pow256 (j : Nat) : (0 : Int) < 256 ^ j := Int.pow_pos (by decide)

theorem xb_zero (x : Int) : xb x 0 = x := by unfold xb; simp

theorem xb_succ (x : Int) (j : Nat) : xb x j / 256 = xb x (j + 1) := by
  unfold xb
  rw [Int.ediv_ediv_of_nonneg (Int.le_of_lt (pow256 j)), Int.pow_succ]

theorem xb_bd (x : Int) (j : Nat) (h0 : -9223372036854775808 ≤ x) (h1 : x ≤ 9223372036854775807) : -9223372036854775808 ≤ xb x j ∧ xb x j ≤ 9223372036854775807 := by
  induction j with
  | zero => rw [xb_zero]; exact ⟨h0, h1⟩
  | succ j ih => rw [← xb_succ]; omega

theorem lay_len (x : Int) (n : Nat) : (layN x n).length = n := by unfold layN; simp

theorem isSize_any (n : Int) (w : World) (h : n = 1 ∨ n = 2 ∨ n = 4 ∨ n = 8) : Calls Try.prog 13 #[.int .i64 n] w fun e w' => e = .returned (.bool true) ∧ w' = w := by
  rcases h with rfl | rfl | rfl | rfl
  all_goals
    go_enter Try.func13, Try.ntmps13
    go_wp2
    go_ret
    exact ⟨rfl, rfl⟩

theorem bitsOf_any (j : Nat) (hj : j ≤ 8) (w : World) : Calls Try.prog 14 #[.int .i64 j] w fun e w' => e = .returned (.int .u64 ((8 * j : Nat) : Int)) ∧ w' = w := by
  go_enter Try.func14, Try.ntmps14
  go_wp2
  go_ret
  exact ⟨by simp; omega, rfl⟩

theorem layn (x : Int) : layN x 1 = [x % 256] ∧ layN x 2 = [x % 256, x / 256 % 256] ∧ layN x 4 = [x % 256, x / 256 % 256, x / 65536 % 256, x / 16777216 % 256] ∧
    layN x 8 = [x % 256, x / 256 % 256, x / 65536 % 256, x / 16777216 % 256, x / 4294967296 % 256, x / 1099511627776 % 256, x / 281474976710656 % 256, x / 72057594037927936 % 256] := by
  simp [layN, xb, List.range_succ]

theorem lay1 (x : Int) (w : World) : Calls Try.prog 11 #[.int .i64 x, .int .i64 1] w fun e w' => e = .returned (.tuple #[.string (strOfNums (layN x 1)), .int .i64 0]) ∧ ∃ c, w' = w.alloc (.cells c 5) := by
  have hmk : ∀ w, (Instr.makeSlice 40 (.int .i64 1) (.int .i64 1)).run Try.prog w = .ok (.slice (some ⟨w.heap.size, 0, none⟩) 1 1) (w.alloc (.cells #[.int .u8 0] 5)) := fun _ => by kernel_rfl
  have hcv := fun w : World => conv_new w [x % 256] 1 rfl #[.int .u8 (x % 256)] rfl
  have HL : Hid (layN x 1 = [x % 256]) := (layn x).1
  go_enter Try.func11, Try.ntmps11
  go_wp2
  refine wp_loop_rounds 2 ?_
  rw [rounds_succ]
  go_wp2
  rw [rounds_succ]
  go_wp2
  go_ret2
  exact ⟨by rw [HL.out]; rfl, _, rfl⟩

theorem lay2 (x : Int) (w : World) : Calls Try.prog 11 #[.int .i64 x, .int .i64 2] w fun e w' => e = .returned (.tuple #[.string (strOfNums (layN x 2)), .int .i64 0]) ∧ ∃ c, w' = w.alloc (.cells c 5) := by
  have hmk : ∀ w, (Instr.makeSlice 40 (.int .i64 2) (.int .i64 2)).run Try.prog w = .ok (.slice (some ⟨w.heap.size, 0, none⟩) 2 2) (w.alloc (.cells #[.int .u8 0, .int .u8 0] 5)) := fun _ => by kernel_rfl
  have hcv := fun w : World => conv_new w [x % 256, x / 256 % 256] 2 rfl #[.int .u8 (x % 256), .int .u8 (x / 256 % 256)] rfl
  have HL : Hid (layN x 2 = [x % 256, x / 256 % 256]) := (layn x).2.1
  go_enter Try.func11, Try.ntmps11
  go_wp2
  refine wp_loop_rounds 3 ?_
  rw [rounds_succ]
  go_wp2
  rw [rounds_succ]
  go_wp2
  rw [rounds_succ]
  go_wp2
  go_ret2
  exact ⟨by rw [HL.out]; rfl, _, rfl⟩

theorem lay8 (x : Int) (w : World) : Calls Try.prog 11 #[.int .i64 x, .int .i64 8] w fun e w' => e = .returned (.tuple #[.string (strOfNums (layN x 8)), .int .i64 0]) ∧ ∃ c, w' = w.alloc (.cells c 5) := by
  have hmk : ∀ w, (Instr.makeSlice 40 (.int .i64 8) (.int .i64 8)).run Try.prog w = .ok (.slice (some ⟨w.heap.size, 0, none⟩) 8 8) (w.alloc (.cells #[.int .u8 0, .int .u8 0, .int .u8 0, .int .u8 0, .int .u8 0, .int .u8 0, .int .u8 0, .int .u8 0] 5)) := fun _ => by kernel_rfl
  have hcv := fun w : World => conv_new w [x % 256, x / 256 % 256, x / 65536 % 256, x / 16777216 % 256, x / 4294967296 % 256, x / 1099511627776 % 256, x / 281474976710656 % 256, x / 72057594037927936 % 256] 8 rfl #[.int .u8 (x % 256), .int .u8 (x / 256 % 256), .int .u8 (x / 65536 % 256), .int .u8 (x / 16777216 % 256), .int .u8 (x / 4294967296 % 256), .int .u8 (x / 1099511627776 % 256), .int .u8 (x / 281474976710656 % 256), .int .u8 (x / 72057594037927936 % 256)] rfl
  have HL : Hid (layN x 8 = [x % 256, x / 256 % 256, x / 65536 % 256, x / 16777216 % 256, x / 4294967296 % 256, x / 1099511627776 % 256, x / 281474976710656 % 256, x / 72057594037927936 % 256]) := (layn x).2.2.2
  go_enter Try.func11, Try.ntmps11
  go_wp2
  refine wp_loop_rounds 9 ?_
  rw [rounds_succ]
  go_wp2
  rw [rounds_succ]
  go_wp2
  rw [rounds_succ]
  go_wp2
  rw [rounds_succ]
  go_wp2
  rw [rounds_succ]
  go_wp2
  rw [rounds_succ]
  go_wp2
  rw [rounds_succ]
  go_wp2
  rw [rounds_succ]
  go_wp2
  rw [rounds_succ]
  go_wp2
  go_ret2
  exact ⟨by rw [HL.out]; rfl, _, rfl⟩

/-- The first n bytes of a text as a number, the lowest first. -/
def leN (s : ByteArray) : Nat → Int
  | 0 => 0
  | n + 1 => leN s n + (if h : n < s.size then (s[n].toNat : Int) else 0) * 256 ^ n

theorem le_succ (s : ByteArray) (n : Nat) (h : n < s.size) : leN s (n + 1) = leN s n + (s[n].toNat : Int) * 256 ^ n := by
  simp [leN, h]

theorem byte_bd (s : ByteArray) (n : Nat) (h : n < s.size) : 0 ≤ (s[n].toNat : Int) ∧ (s[n].toNat : Int) ≤ 255 := by
  have := s[n].toNat_lt
  omega

theorem le_bd (s : ByteArray) (n : Nat) (h : n ≤ s.size) : 0 ≤ leN s n ∧ leN s n < 256 ^ n := by
  induction n with
  | zero => simp [leN]
  | succ n ih =>
    have ih := ih (by omega)
    have hb := byte_bd s n (by omega)
    have hp := pow256 n
    rw [le_succ s n (by omega), Int.pow_succ]
    have h1 : 0 ≤ (s[n].toNat : Int) * 256 ^ n := Int.mul_nonneg hb.1 (Int.le_of_lt hp)
    have h2 : (s[n].toNat : Int) * 256 ^ n ≤ 255 * 256 ^ n := Int.mul_le_mul_of_nonneg_right hb.2 (Int.le_of_lt hp)
    omega

theorem le_or (s : ByteArray) (j : Nat) (hj : j < 8) (h : j < s.size) : bits .or .u64 (leN s j) (IntKind.u64.wrap ((s[j].toNat : Int) * 2 ^ (8 * j))) = leN s (j + 1) := by
  have hb := byte_bd s j h
  have hl := le_bd s j (by omega)
  have hl1 := le_bd s (j + 1) (by omega)
  have hp : (2 : Int) ^ (8 * j) = 256 ^ j := by rw [Int.pow_mul]; rfl
  rw [hp, le_succ s j h] at *
  generalize (s[j].toNat) = c at *
  obtain ⟨m, hm⟩ := Int.eq_ofNat_of_zero_le hl.1
  rw [hm] at hl hl1 ⊢
  have hpn : ((256 ^ j : Nat) : Int) = (256 : Int) ^ j := by simp
  have h8 : (256 : Nat) ^ (j + 1) ≤ 256 ^ 8 := Nat.pow_le_pow_right (by decide) (by omega)
  have h8' : (256 : Int) ^ (j + 1) ≤ 18446744073709551616 := by
    have e : ((256 ^ (j + 1) : Nat) : Int) = (256 : Int) ^ (j + 1) := by simp
    omega
  have hlt : m < 256 ^ j := by omega
  have hcm : c * 256 ^ j < 18446744073709551616 := by
    have e : ((c * 256 ^ j : Nat) : Int) = (c : Int) * 256 ^ j := by simp
    omega
  have e1 : IntKind.u64.wrap ((c : Int) * 256 ^ j) = ((c * 256 ^ j : Nat) : Int) := by
    rw [IntKind.wrap_u64]
    have e : ((c * 256 ^ j : Nat) : Int) = (c : Int) * 256 ^ j := by simp
    omega
  rw [e1, bits_or_u64_nat m _ (by omega) hcm]
  have h2 : 256 ^ j = 2 ^ (8 * j) := by rw [Nat.pow_mul]
  have hor := Nat.two_pow_add_eq_or_of_lt (i := 8 * j) (b := m) (by rw [← h2]; exact hlt) c
  rw [Nat.mul_comm, h2, Nat.or_comm, ← hor, Nat.mul_comm]
  rw [← hpn, h2]
  omega

def takeV (s : ByteArray) (n : Nat) : Int := if 128 * 256 ^ (n - 1) ≤ leN s n then leN s n - 256 ^ n else leN s n

theorem pow_split (i n : Nat) (h : i ≤ n) : (256 : Int) ^ n = 256 ^ (n - i) * 256 ^ i := by
  rw [← Int.pow_add]; rw [show n - i + i = n by omega]

theorem add_mul_byte (a q : Int) (i k : Nat) (hk : 0 < k) : (a + q * (256 ^ k * 256 ^ i)) / 256 ^ i % 256 = a / 256 ^ i % 256 := by
  have hp := pow256 i
  rw [← Int.mul_assoc, Int.add_mul_ediv_right _ _ (by omega)]
  obtain ⟨k', rfl⟩ : ∃ k', k = k' + 1 := ⟨k - 1, by omega⟩
  rw [Int.pow_succ, ← Int.mul_assoc]
  omega

theorem le_byte (s : ByteArray) (n i : Nat) (hi : i < n) (hn : n ≤ s.size) : xb (leN s n) i % 256 = (s[i].toNat : Int) := by
  induction n with
  | zero => omega
  | succ n ih =>
    have hb := byte_bd s n (by omega)
    rw [le_succ s n (by omega)]
    by_cases e : i = n
    · subst e
      have hl := le_bd s i (by omega)
      have hp := pow256 i
      unfold xb
      rw [Int.add_mul_ediv_right _ _ (by omega), Int.ediv_eq_zero_of_lt hl.1 hl.2]
      omega
    · have := ih (by omega) (by omega)
      unfold xb at this ⊢
      rw [pow_split i n (by omega), add_mul_byte _ _ _ _ (by omega)]
      exact this

theorem take_byte (s : ByteArray) (n i : Nat) (hi : i < n) (hn : n ≤ s.size) : xb (takeV s n) i % 256 = (s[i].toNat : Int) := by
  unfold takeV
  split
  · have h := le_byte s n i hi hn
    unfold xb at h ⊢
    have e : leN s n - 256 ^ n = leN s n + (-1) * (256 ^ (n - i) * 256 ^ i) := by rw [← pow_split i n (by omega)]; omega
    rw [e, add_mul_byte _ _ _ _ (by omega)]
    exact h
  · exact le_byte s n i hi hn

theorem take_top (s : ByteArray) (n : Nat) (h0 : 0 < n) (hn : n ≤ s.size) : (128 * 256 ^ (n - 1) ≤ leN s n ↔ 128 ≤ (s[n - 1].toNat : Int)) := by
  obtain ⟨k, rfl⟩ : ∃ k, n = k + 1 := ⟨n - 1, by omega⟩
  have hb := byte_bd s k (by omega)
  have hl := le_bd s k (by omega)
  have hp := pow256 k
  rw [le_succ s k (by omega)]
  simp only [Nat.add_sub_cancel]
  constructor
  · intro h
    rcases Int.lt_or_le (s[k].toNat : Int) 128 with h' | h'
    · exfalso
      have : (s[k].toNat : Int) * 256 ^ k ≤ 127 * 256 ^ k := Int.mul_le_mul_of_nonneg_right (by omega) (Int.le_of_lt hp)
      omega
    · exact h'
  · intro h
    have : 128 * 256 ^ k ≤ (s[k].toNat : Int) * 256 ^ k := Int.mul_le_mul_of_nonneg_right h (Int.le_of_lt hp)
    omega

theorem take_hi (s : ByteArray) (n : Nat) (hn : n ≤ s.size) : xb (takeV s n) n = if 128 * 256 ^ (n - 1) ≤ leN s n then -1 else 0 := by
  have hl := le_bd s n hn
  have hp := pow256 n
  unfold takeV xb
  split
  · have e : leN s n - 256 ^ n = leN s n + (-1) * 256 ^ n := by omega
    rw [e, Int.add_mul_ediv_right _ _ (by omega), Int.ediv_eq_zero_of_lt hl.1 hl.2]
    rfl
  · exact Int.ediv_eq_zero_of_lt hl.1 hl.2

theorem take_bd (s : ByteArray) (n : Nat) (h0 : 0 < n) (h8 : n ≤ 8) (hn : n ≤ s.size) : -9223372036854775808 ≤ takeV s n ∧ takeV s n ≤ 9223372036854775807 := by
  have hl := le_bd s n hn
  obtain ⟨k, rfl⟩ : ∃ k, n = k + 1 := ⟨n - 1, by omega⟩
  have hp := pow256 k
  have hk : (256 : Int) ^ k ≤ 72057594037927936 := by
    have h : (256 : Nat) ^ k ≤ 256 ^ 7 := Nat.pow_le_pow_right (by decide) (by omega)
    have e : ((256 ^ k : Nat) : Int) = (256 : Int) ^ k := by simp
    omega
  unfold takeV
  rw [Int.pow_succ] at hl ⊢
  simp only [Nat.add_sub_cancel]
  split <;> omega

theorem take_is1 (s : ByteArray) (hn : 1 ≤ s.size) : wrap64 (leN s 1 * 72057594037927936) / 72057594037927936 = takeV s 1 := by
  have hl := le_bd s 1 hn
  have e1 : (256 : Int) ^ 1 = 256 := by decide
  have e2 : 128 * (256 : Int) ^ (1 - 1) = 128 := by decide
  unfold takeV
  rw [e1] at hl ⊢
  rw [e2]
  unfold wrap64
  split <;> omega

theorem take_is8 (s : ByteArray) (hn : 8 ≤ s.size) : wrap64 (leN s 8) = takeV s 8 := by
  have hl := le_bd s 8 hn
  have e1 : (256 : Int) ^ 8 = 18446744073709551616 := by decide
  have e2 : 128 * (256 : Int) ^ (8 - 1) = 9223372036854775808 := by decide
  unfold takeV
  rw [e1] at hl ⊢
  rw [e2]
  unfold wrap64
  split <;> omega

set_option maxHeartbeats 400000 in
theorem take1 (s : ByteArray) (w : World) (hs : s.size ≤ maxLen) (h : 1 ≤ s.size) : Calls Try.prog 12 #[.string s, .int .i64 1] w fun e w' => e = .returned (.tuple #[.int .i64 (takeV s 1), .int .i64 0]) ∧ ∃ n, w' = w.drewN n := by
  unfold maxLen at hs
  have hd : decide ((s.size : Int) < 1) = false := by simp; omega
  have HT : Hid (_ = takeV s 1) := take_is1 s h
  go_enter Try.func12, Try.ntmps12
  go_wp2
  go_loopw [6, 19] (fun u i wr => ∃ j : Nat, j ≤ 1 ∧ i = .int .i64 j ∧ u = .int .u64 (leN s j) ∧ ∃ n, wr = w.drewN n) (fun _ i _ => 1 - (intOf i).toNat)
  case atStart => exact ⟨0, Nat.zero_le _, rfl, rfl, 0, rfl⟩
  case round =>
    obtain ⟨j, hj, rfl, rfl, hwr⟩ := hrel
    have HW : Hid (∃ n, wr = w.drewN n) := hwr
    clear hwr
    by_cases hlt : j < 1
    · have hjs : j < s.size := by omega
      have H : Hid (bits .or .u64 (leN s j) (IntKind.u64.wrap ((s[j].toNat : Int) * 2 ^ (8 * j))) = leN s (j + 1)) := le_or s j (by omega) hjs
      have hc := byte_bd s j hjs
      clear HT
      go_wp2
      go_quiet ((go_at_call 14; exact Calls.quiet_of_same (bitsOf_any j (by omega) _)))
      go_wp2
      go_roundw
      case rel => exact ⟨j + 1, by omega, by go_num, by rw [← H.out], by obtain ⟨n, rfl⟩ := HW.out; exact ⟨_, World.drewN_drewN _ _ _⟩⟩
      case measure => simp [intOf]; omega
    · have e : j = 1 := by omega
      subst e
      have hl := le_bd s 1 h
      go_wp2_with fail
      refine (bitsOf_any 1 (by decide) _).mono ?_
      rintro e w' ⟨rfl, rfl⟩
      go_wp2
      go_ret2
      exact ⟨by rw [← HT.out]; rfl, HW.out⟩

set_option maxHeartbeats 400000 in
theorem take8 (s : ByteArray) (w : World) (hs : s.size ≤ maxLen) (h : 8 ≤ s.size) : Calls Try.prog 12 #[.string s, .int .i64 8] w fun e w' => e = .returned (.tuple #[.int .i64 (takeV s 8), .int .i64 0]) ∧ ∃ n, w' = w.drewN n := by
  unfold maxLen at hs
  have hd : decide ((s.size : Int) < 8) = false := by simp; omega
  have HT : Hid (_ = takeV s 8) := take_is8 s h
  go_enter Try.func12, Try.ntmps12
  go_wp2
  go_loopw [6, 19] (fun u i wr => ∃ j : Nat, j ≤ 8 ∧ i = .int .i64 j ∧ u = .int .u64 (leN s j) ∧ ∃ n, wr = w.drewN n) (fun _ i _ => 8 - (intOf i).toNat)
  case atStart => exact ⟨0, Nat.zero_le _, rfl, rfl, 0, rfl⟩
  case round =>
    obtain ⟨j, hj, rfl, rfl, hwr⟩ := hrel
    have HW : Hid (∃ n, wr = w.drewN n) := hwr
    clear hwr
    by_cases hlt : j < 8
    · have hjs : j < s.size := by omega
      have H : Hid (bits .or .u64 (leN s j) (IntKind.u64.wrap ((s[j].toNat : Int) * 2 ^ (8 * j))) = leN s (j + 1)) := le_or s j (by omega) hjs
      have hc := byte_bd s j hjs
      clear HT
      go_wp2
      go_quiet ((go_at_call 14; exact Calls.quiet_of_same (bitsOf_any j (by omega) _)))
      go_wp2
      go_roundw
      case rel => exact ⟨j + 1, by omega, by go_num, by rw [← H.out], by obtain ⟨n, rfl⟩ := HW.out; exact ⟨_, World.drewN_drewN _ _ _⟩⟩
      case measure => simp [intOf]; omega
    · have e : j = 8 := by omega
      subst e
      have hl := le_bd s 8 h
      go_wp2_with fail
      refine (bitsOf_any 8 (by decide) _).mono ?_
      rintro e w' ⟨rfl, rfl⟩
      go_wp2
      go_ret2
      exact ⟨by rw [← HT.out]; rfl, HW.out⟩

theorem below_new (w : World) (c : Array Value) : Below w.heap.size w (w.alloc (.cells c 5)) := (Below.refl _ _).alloc (Nat.le_refl _) _

theorem shown_below (w : World) : Calls Try.prog 5 #[] w fun e w' => e = .returned (.bool true) ∧ Below w.heap.size w w' := by
  have hm : (mixV 1 == 12994781566227106604) = true := by decide +kernel
  have hh : (headV 5 true == 11) = true := by decide +kernel
  have hs : ((strOfNums (layN 258 2)).toList == [2, 1]) = true := by decide +kernel
  go_enter Try.func5, Try.ntmps5
  go_wp2_with fail
  refine (mix_any _ _).mono ?_
  rintro e w' ⟨rfl, rfl⟩
  go_wp2_with fail
  refine (head_any _ _ _).mono ?_
  rintro e w' ⟨rfl, rfl⟩
  go_wp2_with fail
  refine (stamp_any _ _).mono ?_
  rintro e w' ⟨rfl, rfl⟩
  go_wp2_with fail
  refine (lay2 _ _).mono ?_
  rintro e w1 ⟨rfl, c, hw1⟩
  have hb : Below w'.heap.size w' w1 := by rw [hw1]; exact below_new _ _
  clear hw1
  go_wp2
  go_ret
  exact ⟨rfl, hb⟩

theorem below_drawn (w w' : World) (h : ∃ n, w' = w.drewN n) : Below w.heap.size w w' := by
  obtain ⟨n, rfl⟩ := h
  exact below_drewN (Below.refl _ _) _

theorem below_then {a b c : World} (h : Below a.heap.size a b) (k : Below b.heap.size b c) : Below a.heap.size a c := h.trans (k.mono h.size)

end Go.Proofs.Ytdegladjmbllbab
