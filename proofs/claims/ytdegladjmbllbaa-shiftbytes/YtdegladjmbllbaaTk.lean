/- Contracts of Take, in the program and in the document's answer, for every text and every size. -/
import Derived.Test.YtdegladjmbllbaaTake
namespace Go.Proofs.Ytdegladjmbllbaa
open Go.ChangeShapes Go.WideShapes Go.ChangeAt Go.RowKit

/-- The first n bytes of a text as a number, the lowest first. -/
def leN (s : ByteArray) : Nat → Int
  | 0 => 0
  | n + 1 => leN s n + (if h : n < s.size then (s[n].toNat : Int) else 0) * 256 ^ n

theorem le_succ (s : ByteArray) (n : Nat) (h : n < s.size) : leN s (n + 1) = leN s n + (s[n].toNat : Int) * 256 ^ n := by
  simp [leN, h]
theorem byte_bd (s : ByteArray) (n : Nat) (h : n < s.size) : 0 ≤ (s[n].toNat : Int) ∧ (s[n].toNat : Int) ≤ 255 := by
  have := s[n].toNat_lt
  omega
theorem le_bd (s : ByteArray) (n : Nat) (h : n ≤ s.size) : 0 ≤ leN s n ∧ leN s n < 256 ^ n := by
  induction n with
  | zero => simp [leN]
  | succ n ih =>
    have ih := ih (by omega)
    have hb := byte_bd s n (by omega)
    have hp := pow256 n
    rw [le_succ s n (by omega), Int.pow_succ]
    have h1 : 0 ≤ (s[n].toNat : Int) * 256 ^ n := Int.mul_nonneg hb.1 (Int.le_of_lt hp)
    have h2 : (s[n].toNat : Int) * 256 ^ n ≤ 255 * 256 ^ n := Int.mul_le_mul_of_nonneg_right hb.2 (Int.le_of_lt hp)
    omega

theorem le_or (s : ByteArray) (j : Nat) (hj : j < 8) (h : j < s.size) : bits .or .u64 (leN s j) (IntKind.u64.wrap ((s[j].toNat : Int) * 2 ^ (8 * j))) = leN s (j + 1) := by
  have hb := byte_bd s j h
  have hl := le_bd s j (by omega)
  have hl1 := le_bd s (j + 1) (by omega)
  have hp : (2 : Int) ^ (8 * j) = 256 ^ j := by rw [Int.pow_mul]; rfl
  rw [hp, le_succ s j h] at *
  generalize (s[j].toNat) = c at *
  obtain ⟨m, hm⟩ := Int.eq_ofNat_of_zero_le hl.1
  rw [hm] at hl hl1 ⊢
  have hpn : ((256 ^ j : Nat) : Int) = (256 : Int) ^ j := by simp
  have h8 : (256 : Nat) ^ (j + 1) ≤ 256 ^ 8 := Nat.pow_le_pow_right (by decide) (by omega)
  have h8' : (256 : Int) ^ (j + 1) ≤ 18446744073709551616 := by
    have e : ((256 ^ (j + 1) : Nat) : Int) = (256 : Int) ^ (j + 1) := by simp
    omega
  have hlt : m < 256 ^ j := by omega
  have hcm : c * 256 ^ j < 18446744073709551616 := by
    have e : ((c * 256 ^ j : Nat) : Int) = (c : Int) * 256 ^ j := by simp
    omega
  have e1 : IntKind.u64.wrap ((c : Int) * 256 ^ j) = ((c * 256 ^ j : Nat) : Int) := by
    rw [IntKind.wrap_u64]
    have e : ((c * 256 ^ j : Nat) : Int) = (c : Int) * 256 ^ j := by simp
    omega
  rw [e1, bits_or_u64_nat m _ (by omega) hcm]
  have h2 : 256 ^ j = 2 ^ (8 * j) := by rw [Nat.pow_mul]
  have hor := Nat.two_pow_add_eq_or_of_lt (i := 8 * j) (b := m) (by rw [← h2]; exact hlt) c
  rw [Nat.mul_comm, h2, Nat.or_comm, ← hor, Nat.mul_comm]
  rw [← hpn, h2]
  omega

/-! ### a number taken up, with its sign -/
def takeV (s : ByteArray) (n : Nat) : Int := if 128 * 256 ^ (n - 1) ≤ leN s n then leN s n - 256 ^ n else leN s n

theorem pow_split (i n : Nat) (h : i ≤ n) : (256 : Int) ^ n = 256 ^ (n - i) * 256 ^ i := by
  rw [← Int.pow_add]; rw [show n - i + i = n by omega]

theorem add_mul_byte (a q : Int) (i k : Nat) (hk : 0 < k) : (a + q * (256 ^ k * 256 ^ i)) / 256 ^ i % 256 = a / 256 ^ i % 256 := by
  have hp := pow256 i
  rw [← Int.mul_assoc, Int.add_mul_ediv_right _ _ (by omega)]
  obtain ⟨k', rfl⟩ : ∃ k', k = k' + 1 := ⟨k - 1, by omega⟩
  rw [Int.pow_succ, ← Int.mul_assoc]
  omega

theorem le_byte (s : ByteArray) (n i : Nat) (hi : i < n) (hn : n ≤ s.size) : xb (leN s n) i % 256 = (s[i].toNat : Int) := by
  induction n with
  | zero => omega
  | succ n ih =>
    have hb := byte_bd s n (by omega)
    rw [le_succ s n (by omega)]
    by_cases e : i = n
    · subst e
      have hl := le_bd s i (by omega)
      have hp := pow256 i
      unfold xb
      rw [Int.add_mul_ediv_right _ _ (by omega), Int.ediv_eq_zero_of_lt hl.1 hl.2]
      omega
    · have := ih (by omega) (by omega)
      unfold xb at this ⊢
      rw [pow_split i n (by omega), add_mul_byte _ _ _ _ (by omega)]
      exact this

theorem take_byte (s : ByteArray) (n i : Nat) (hi : i < n) (hn : n ≤ s.size) : xb (takeV s n) i % 256 = (s[i].toNat : Int) := by
  unfold takeV
  split
  · have h := le_byte s n i hi hn
    unfold xb at h ⊢
    have e : leN s n - 256 ^ n = leN s n + (-1) * (256 ^ (n - i) * 256 ^ i) := by rw [← pow_split i n (by omega)]; omega
    rw [e, add_mul_byte _ _ _ _ (by omega)]
    exact h
  · exact le_byte s n i hi hn

theorem take_top (s : ByteArray) (n : Nat) (h0 : 0 < n) (hn : n ≤ s.size) : (128 * 256 ^ (n - 1) ≤ leN s n ↔ 128 ≤ (s[n - 1].toNat : Int)) := by
  obtain ⟨k, rfl⟩ : ∃ k, n = k + 1 := ⟨n - 1, by omega⟩
  have hb := byte_bd s k (by omega)
  have hl := le_bd s k (by omega)
  have hp := pow256 k
  rw [le_succ s k (by omega)]
  simp only [Nat.add_sub_cancel]
  constructor
  · intro h
    rcases Int.lt_or_le (s[k].toNat : Int) 128 with h' | h'
    · exfalso
      have : (s[k].toNat : Int) * 256 ^ k ≤ 127 * 256 ^ k := Int.mul_le_mul_of_nonneg_right (by omega) (Int.le_of_lt hp)
      omega
    · exact h'
  · intro h
    have : 128 * 256 ^ k ≤ (s[k].toNat : Int) * 256 ^ k := Int.mul_le_mul_of_nonneg_right h (Int.le_of_lt hp)
    omega

theorem take_hi (s : ByteArray) (n : Nat) (hn : n ≤ s.size) : xb (takeV s n) n = if 128 * 256 ^ (n - 1) ≤ leN s n then -1 else 0 := by
  have hl := le_bd s n hn
  have hp := pow256 n
  unfold takeV xb
  split
  · have e : leN s n - 256 ^ n = leN s n + (-1) * 256 ^ n := by omega
    rw [e, Int.add_mul_ediv_right _ _ (by omega), Int.ediv_eq_zero_of_lt hl.1 hl.2]
    rfl
  · exact Int.ediv_eq_zero_of_lt hl.1 hl.2

theorem take_bd (s : ByteArray) (n : Nat) (h0 : 0 < n) (h8 : n ≤ 8) (hn : n ≤ s.size) : -9223372036854775808 ≤ takeV s n ∧ takeV s n ≤ 9223372036854775807 := by
  have hl := le_bd s n hn
  obtain ⟨k, rfl⟩ : ∃ k, n = k + 1 := ⟨n - 1, by omega⟩
  have hp := pow256 k
  have hk : (256 : Int) ^ k ≤ 72057594037927936 := by
    have h : (256 : Nat) ^ k ≤ 256 ^ 7 := Nat.pow_le_pow_right (by decide) (by omega)
    have e : ((256 ^ k : Nat) : Int) = (256 : Int) ^ k := by simp
    omega
  unfold takeV
  rw [Int.pow_succ] at hl ⊢
  simp only [Nat.add_sub_cancel]
  split <;> omega

theorem take_is1 (s : ByteArray) (hn : 1 ≤ s.size) : wrap64 (leN s 1 * 72057594037927936) / 72057594037927936 = takeV s 1 := by
  have hl := le_bd s 1 hn
  have e1 : (256 : Int) ^ 1 = 256 := by decide
  have e2 : 128 * (256 : Int) ^ (1 - 1) = 128 := by decide
  unfold takeV
  rw [e1] at hl ⊢
  rw [e2]
  unfold wrap64
  split <;> omega
theorem take_is2 (s : ByteArray) (hn : 2 ≤ s.size) : wrap64 (leN s 2 * 281474976710656) / 281474976710656 = takeV s 2 := by
  have hl := le_bd s 2 hn
  have e1 : (256 : Int) ^ 2 = 65536 := by decide
  have e2 : 128 * (256 : Int) ^ (2 - 1) = 32768 := by decide
  unfold takeV
  rw [e1] at hl ⊢
  rw [e2]
  unfold wrap64
  split <;> omega
theorem take_is4 (s : ByteArray) (hn : 4 ≤ s.size) : wrap64 (leN s 4 * 4294967296) / 4294967296 = takeV s 4 := by
  have hl := le_bd s 4 hn
  have e1 : (256 : Int) ^ 4 = 4294967296 := by decide
  have e2 : 128 * (256 : Int) ^ (4 - 1) = 2147483648 := by decide
  unfold takeV
  rw [e1] at hl ⊢
  rw [e2]
  unfold wrap64
  split <;> omega
theorem take_is8 (s : ByteArray) (hn : 8 ≤ s.size) : wrap64 (leN s 8) = takeV s 8 := by
  have hl := le_bd s 8 hn
  have e1 : (256 : Int) ^ 8 = 18446744073709551616 := by decide
  have e2 : 128 * (256 : Int) ^ (8 - 1) = 9223372036854775808 := by decide
  unfold takeV
  rw [e1] at hl ⊢
  rw [e2]
  unfold wrap64
  split <;> omega

set_option maxHeartbeats 400000 in
theorem take1 (s : ByteArray) (w : World) (hs : s.size ≤ maxLen) (h : 1 ≤ s.size) : Calls Try.prog 32 #[.string s, .int .i64 1] w fun e w' => e = .returned (.tuple #[.int .i64 (takeV s 1), .int .i64 0]) ∧ ∃ n, w' = w.drewN n := by
  unfold maxLen at hs
  have hd : decide ((s.size : Int) < 1) = false := by simp; omega
  have HT : Hid (_ = takeV s 1) := take_is1 s h
  go_enter Try.func32, Try.ntmps32
  go_wp2
  go_loopw [6, 19] (fun u i wr => ∃ j : Nat, j ≤ 1 ∧ i = .int .i64 j ∧ u = .int .u64 (leN s j) ∧ ∃ n, wr = w.drewN n) (fun _ i _ => 1 - (intOf i).toNat)
  case atStart => exact ⟨0, Nat.zero_le _, rfl, rfl, 0, rfl⟩
  case round =>
    obtain ⟨j, hj, rfl, rfl, hwr⟩ := hrel
    have HW : Hid (∃ n, wr = w.drewN n) := hwr
    clear hwr
    by_cases hlt : j < 1
    · have hjs : j < s.size := by omega
      have H : Hid (bits .or .u64 (leN s j) (IntKind.u64.wrap ((s[j].toNat : Int) * 2 ^ (8 * j))) = leN s (j + 1)) := le_or s j (by omega) hjs
      have hc := byte_bd s j hjs
      clear HT
      go_wp2
      go_quiet ((go_at_call 40; exact Calls.quiet_of_same (bitsOf_any j (by omega) _)))
      go_wp2
      go_roundw
      case rel => exact ⟨j + 1, by omega, by go_num, by rw [← H.out], by obtain ⟨n, rfl⟩ := HW.out; exact ⟨_, World.drewN_drewN _ _ _⟩⟩
      case measure => simp [intOf]; omega
    · have e : j = 1 := by omega
      subst e
      have hl := le_bd s 1 h
      go_wp2_with fail
      refine (bitsOf_any 1 (by decide) _).mono ?_
      rintro e w' ⟨rfl, rfl⟩
      go_wp2
      go_ret2
      exact ⟨by rw [← HT.out]; rfl, HW.out⟩

set_option maxHeartbeats 400000 in
theorem take2 (s : ByteArray) (w : World) (hs : s.size ≤ maxLen) (h : 2 ≤ s.size) : Calls Try.prog 32 #[.string s, .int .i64 2] w fun e w' => e = .returned (.tuple #[.int .i64 (takeV s 2), .int .i64 0]) ∧ ∃ n, w' = w.drewN n := by
  unfold maxLen at hs
  have hd : decide ((s.size : Int) < 2) = false := by simp; omega
  have HT : Hid (_ = takeV s 2) := take_is2 s h
  go_enter Try.func32, Try.ntmps32
  go_wp2
  go_loopw [6, 19] (fun u i wr => ∃ j : Nat, j ≤ 2 ∧ i = .int .i64 j ∧ u = .int .u64 (leN s j) ∧ ∃ n, wr = w.drewN n) (fun _ i _ => 2 - (intOf i).toNat)
  case atStart => exact ⟨0, Nat.zero_le _, rfl, rfl, 0, rfl⟩
  case round =>
    obtain ⟨j, hj, rfl, rfl, hwr⟩ := hrel
    have HW : Hid (∃ n, wr = w.drewN n) := hwr
    clear hwr
    by_cases hlt : j < 2
    · have hjs : j < s.size := by omega
      have H : Hid (bits .or .u64 (leN s j) (IntKind.u64.wrap ((s[j].toNat : Int) * 2 ^ (8 * j))) = leN s (j + 1)) := le_or s j (by omega) hjs
      have hc := byte_bd s j hjs
      clear HT
      go_wp2
      go_quiet ((go_at_call 40; exact Calls.quiet_of_same (bitsOf_any j (by omega) _)))
      go_wp2
      go_roundw
      case rel => exact ⟨j + 1, by omega, by go_num, by rw [← H.out], by obtain ⟨n, rfl⟩ := HW.out; exact ⟨_, World.drewN_drewN _ _ _⟩⟩
      case measure => simp [intOf]; omega
    · have e : j = 2 := by omega
      subst e
      have hl := le_bd s 2 h
      go_wp2_with fail
      refine (bitsOf_any 2 (by decide) _).mono ?_
      rintro e w' ⟨rfl, rfl⟩
      go_wp2
      go_ret2
      exact ⟨by rw [← HT.out]; rfl, HW.out⟩

set_option maxHeartbeats 400000 in
theorem take4 (s : ByteArray) (w : World) (hs : s.size ≤ maxLen) (h : 4 ≤ s.size) : Calls Try.prog 32 #[.string s, .int .i64 4] w fun e w' => e = .returned (.tuple #[.int .i64 (takeV s 4), .int .i64 0]) ∧ ∃ n, w' = w.drewN n := by
  unfold maxLen at hs
  have hd : decide ((s.size : Int) < 4) = false := by simp; omega
  have HT : Hid (_ = takeV s 4) := take_is4 s h
  go_enter Try.func32, Try.ntmps32
  go_wp2
  go_loopw [6, 19] (fun u i wr => ∃ j : Nat, j ≤ 4 ∧ i = .int .i64 j ∧ u = .int .u64 (leN s j) ∧ ∃ n, wr = w.drewN n) (fun _ i _ => 4 - (intOf i).toNat)
  case atStart => exact ⟨0, Nat.zero_le _, rfl, rfl, 0, rfl⟩
  case round =>
    obtain ⟨j, hj, rfl, rfl, hwr⟩ := hrel
    have HW : Hid (∃ n, wr = w.drewN n) := hwr
    clear hwr
    by_cases hlt : j < 4
    · have hjs : j < s.size := by omega
      have H : Hid (bits .or .u64 (leN s j) (IntKind.u64.wrap ((s[j].toNat : Int) * 2 ^ (8 * j))) = leN s (j + 1)) := le_or s j (by omega) hjs
      have hc := byte_bd s j hjs
      clear HT
      go_wp2
      go_quiet ((go_at_call 40; exact Calls.quiet_of_same (bitsOf_any j (by omega) _)))
      go_wp2
      go_roundw
      case rel => exact ⟨j + 1, by omega, by go_num, by rw [← H.out], by obtain ⟨n, rfl⟩ := HW.out; exact ⟨_, World.drewN_drewN _ _ _⟩⟩
      case measure => simp [intOf]; omega
    · have e : j = 4 := by omega
      subst e
      have hl := le_bd s 4 h
      go_wp2_with fail
      refine (bitsOf_any 4 (by decide) _).mono ?_
      rintro e w' ⟨rfl, rfl⟩
      go_wp2
      go_ret2
      exact ⟨by rw [← HT.out]; rfl, HW.out⟩

set_option maxHeartbeats 400000 in
theorem take8 (s : ByteArray) (w : World) (hs : s.size ≤ maxLen) (h : 8 ≤ s.size) : Calls Try.prog 32 #[.string s, .int .i64 8] w fun e w' => e = .returned (.tuple #[.int .i64 (takeV s 8), .int .i64 0]) ∧ ∃ n, w' = w.drewN n := by
  unfold maxLen at hs
  have hd : decide ((s.size : Int) < 8) = false := by simp; omega
  have HT : Hid (_ = takeV s 8) := take_is8 s h
  go_enter Try.func32, Try.ntmps32
  go_wp2
  go_loopw [6, 19] (fun u i wr => ∃ j : Nat, j ≤ 8 ∧ i = .int .i64 j ∧ u = .int .u64 (leN s j) ∧ ∃ n, wr = w.drewN n) (fun _ i _ => 8 - (intOf i).toNat)
  case atStart => exact ⟨0, Nat.zero_le _, rfl, rfl, 0, rfl⟩
  case round =>
    obtain ⟨j, hj, rfl, rfl, hwr⟩ := hrel
    have HW : Hid (∃ n, wr = w.drewN n) := hwr
    clear hwr
    by_cases hlt : j < 8
    · have hjs : j < s.size := by omega
      have H : Hid (bits .or .u64 (leN s j) (IntKind.u64.wrap ((s[j].toNat : Int) * 2 ^ (8 * j))) = leN s (j + 1)) := le_or s j (by omega) hjs
      have hc := byte_bd s j hjs
      clear HT
      go_wp2
      go_quiet ((go_at_call 40; exact Calls.quiet_of_same (bitsOf_any j (by omega) _)))
      go_wp2
      go_roundw
      case rel => exact ⟨j + 1, by omega, by go_num, by rw [← H.out], by obtain ⟨n, rfl⟩ := HW.out; exact ⟨_, World.drewN_drewN _ _ _⟩⟩
      case measure => simp [intOf]; omega
    · have e : j = 8 := by omega
      subst e
      have hl := le_bd s 8 h
      go_wp2_with fail
      refine (bitsOf_any 8 (by decide) _).mono ?_
      rintro e w' ⟨rfl, rfl⟩
      go_wp2
      go_ret2
      exact ⟨by rw [← HT.out]; rfl, HW.out⟩

set_option maxRecDepth 100000 in
theorem rtake1n (s : ByteArray) (w : World) (hs : s.size ≤ maxLen) (h : 1 ≤ s.size) (hc : (128 : Int) ≤ (s[0].toNat : Int)) : Calls Try.prog 33 #[.string s, .int .i64 1] w fun e w' => e = .returned (.tuple #[.int .i64 (takeV s 1), .int .i64 0]) ∧ w' = w := by
  unfold maxLen at hs
  have hd : decide ((s.size : Int) < 1) = false := by simp; omega
  have hd2 : decide ((128 : Int) ≤ (s[0].toNat : Int)) = true := by simp; omega
  have HT : Hid (xb (takeV s 1) 1 = -1) := by
    show _ = _
    rw [take_hi s 1 h]
    have ht := take_top s 1 (by decide) h
    simp only [Nat.reduceSub] at ht
    rw [if_pos (by simpa using ht.2 hc)]
  have HB := take_bd s 1 (by decide) (by decide) h
  have HY : Hid (∀ i (hi : i < 1), xb (takeV s 1) i % 256 = (s[i].toNat : Int)) := fun i hi => take_byte s 1 i hi h
  generalize takeV s 1 = t at *
  clear hc
  go_enter Try.func33, Try.ntmps33
  go_wp2_with fail
  refine (sized_any 1 _ (by decide)).mono ?_
  rintro e w' ⟨rfl, rfl⟩
  go_wp2
  go_loop [7, 8] (fun u i => ∃ j : Nat, j ≤ 1 ∧ i = .int .i64 ((j : Int) - 1) ∧ u = .int .i64 (xb t j)) (fun _ i => (intOf i + 1).toNat)
  case atStart => exact ⟨1, Nat.le_refl _, rfl, by rw [HT.out]⟩
  case round =>
    obtain ⟨j, hj, rfl, rfl⟩ := hrel
    clear HT
    rcases j with _ | k
    · go_wp2
      go_ret2
      exact ⟨by simp [xb_zero], rfl⟩
    · have e : ((k + 1 : Nat) : Int) - 1 = (k : Int) := by omega
      rw [e]
      have hks : k < s.size := by omega
      have hb := byte_bd s k hks
      have hx := xb_bd t k HB.1 HB.2
      have hy : xb t (k + 1) = xb t k / 256 := (xb_succ t k).symm
      have hz := HY.out k (by omega)
      have h1 : -9223372036854775808 ≤ xb t (k + 1) * 256 := by omega
      have h2 : xb t (k + 1) * 256 ≤ 9223372036854775807 := by omega
      have h3 : xb t (k + 1) * 256 + (s[k].toNat : Int) ≤ 9223372036854775807 := by omega
      have HE : Hid (xb t (k + 1) * 256 + (s[k].toNat : Int) = xb t k) := by show _ = _; omega
      clear hy hz e hx
      go_wp2
      go_round
      case rel => exact ⟨k, by omega, rfl, by rw [HE.out]⟩
      case measure => simp [intOf]

set_option maxRecDepth 100000 in
theorem rtake1p (s : ByteArray) (w : World) (hs : s.size ≤ maxLen) (h : 1 ≤ s.size) (hc : (s[0].toNat : Int) < (128 : Int)) : Calls Try.prog 33 #[.string s, .int .i64 1] w fun e w' => e = .returned (.tuple #[.int .i64 (takeV s 1), .int .i64 0]) ∧ w' = w := by
  unfold maxLen at hs
  have hd : decide ((s.size : Int) < 1) = false := by simp; omega
  have hd2 : decide ((128 : Int) ≤ (s[0].toNat : Int)) = false := by simp; omega
  have HT : Hid (xb (takeV s 1) 1 = 0) := by
    show _ = _
    rw [take_hi s 1 h]
    have ht := take_top s 1 (by decide) h
    simp only [Nat.reduceSub] at ht
    rw [if_neg (by intro hh; have := ht.1 (by simpa using hh); omega)]
  have HB := take_bd s 1 (by decide) (by decide) h
  have HY : Hid (∀ i (hi : i < 1), xb (takeV s 1) i % 256 = (s[i].toNat : Int)) := fun i hi => take_byte s 1 i hi h
  generalize takeV s 1 = t at *
  clear hc
  go_enter Try.func33, Try.ntmps33
  go_wp2_with fail
  refine (sized_any 1 _ (by decide)).mono ?_
  rintro e w' ⟨rfl, rfl⟩
  go_wp2
  go_loop [7, 8] (fun u i => ∃ j : Nat, j ≤ 1 ∧ i = .int .i64 ((j : Int) - 1) ∧ u = .int .i64 (xb t j)) (fun _ i => (intOf i + 1).toNat)
  case atStart => exact ⟨1, Nat.le_refl _, rfl, by rw [HT.out]⟩
  case round =>
    obtain ⟨j, hj, rfl, rfl⟩ := hrel
    clear HT
    rcases j with _ | k
    · go_wp2
      go_ret2
      exact ⟨by simp [xb_zero], rfl⟩
    · have e : ((k + 1 : Nat) : Int) - 1 = (k : Int) := by omega
      rw [e]
      have hks : k < s.size := by omega
      have hb := byte_bd s k hks
      have hx := xb_bd t k HB.1 HB.2
      have hy : xb t (k + 1) = xb t k / 256 := (xb_succ t k).symm
      have hz := HY.out k (by omega)
      have h1 : -9223372036854775808 ≤ xb t (k + 1) * 256 := by omega
      have h2 : xb t (k + 1) * 256 ≤ 9223372036854775807 := by omega
      have h3 : xb t (k + 1) * 256 + (s[k].toNat : Int) ≤ 9223372036854775807 := by omega
      have HE : Hid (xb t (k + 1) * 256 + (s[k].toNat : Int) = xb t k) := by show _ = _; omega
      clear hy hz e hx
      go_wp2
      go_round
      case rel => exact ⟨k, by omega, rfl, by rw [HE.out]⟩
      case measure => simp [intOf]

set_option maxRecDepth 100000 in
theorem rtake2n (s : ByteArray) (w : World) (hs : s.size ≤ maxLen) (h : 2 ≤ s.size) (hc : (128 : Int) ≤ (s[1].toNat : Int)) : Calls Try.prog 33 #[.string s, .int .i64 2] w fun e w' => e = .returned (.tuple #[.int .i64 (takeV s 2), .int .i64 0]) ∧ w' = w := by
  unfold maxLen at hs
  have hd : decide ((s.size : Int) < 2) = false := by simp; omega
  have hd2 : decide ((128 : Int) ≤ (s[1].toNat : Int)) = true := by simp; omega
  have HT : Hid (xb (takeV s 2) 2 = -1) := by
    show _ = _
    rw [take_hi s 2 h]
    have ht := take_top s 2 (by decide) h
    simp only [Nat.reduceSub] at ht
    rw [if_pos (by simpa using ht.2 hc)]
  have HB := take_bd s 2 (by decide) (by decide) h
  have HY : Hid (∀ i (hi : i < 2), xb (takeV s 2) i % 256 = (s[i].toNat : Int)) := fun i hi => take_byte s 2 i hi h
  generalize takeV s 2 = t at *
  clear hc
  go_enter Try.func33, Try.ntmps33
  go_wp2_with fail
  refine (sized_any 2 _ (by decide)).mono ?_
  rintro e w' ⟨rfl, rfl⟩
  go_wp2
  go_loop [7, 8] (fun u i => ∃ j : Nat, j ≤ 2 ∧ i = .int .i64 ((j : Int) - 1) ∧ u = .int .i64 (xb t j)) (fun _ i => (intOf i + 1).toNat)
  case atStart => exact ⟨2, Nat.le_refl _, rfl, by rw [HT.out]⟩
  case round =>
    obtain ⟨j, hj, rfl, rfl⟩ := hrel
    clear HT
    rcases j with _ | k
    · go_wp2
      go_ret2
      exact ⟨by simp [xb_zero], rfl⟩
    · have e : ((k + 1 : Nat) : Int) - 1 = (k : Int) := by omega
      rw [e]
      have hks : k < s.size := by omega
      have hb := byte_bd s k hks
      have hx := xb_bd t k HB.1 HB.2
      have hy : xb t (k + 1) = xb t k / 256 := (xb_succ t k).symm
      have hz := HY.out k (by omega)
      have h1 : -9223372036854775808 ≤ xb t (k + 1) * 256 := by omega
      have h2 : xb t (k + 1) * 256 ≤ 9223372036854775807 := by omega
      have h3 : xb t (k + 1) * 256 + (s[k].toNat : Int) ≤ 9223372036854775807 := by omega
      have HE : Hid (xb t (k + 1) * 256 + (s[k].toNat : Int) = xb t k) := by show _ = _; omega
      clear hy hz e hx
      go_wp2
      go_round
      case rel => exact ⟨k, by omega, rfl, by rw [HE.out]⟩
      case measure => simp [intOf]

set_option maxRecDepth 100000 in
theorem rtake2p (s : ByteArray) (w : World) (hs : s.size ≤ maxLen) (h : 2 ≤ s.size) (hc : (s[1].toNat : Int) < (128 : Int)) : Calls Try.prog 33 #[.string s, .int .i64 2] w fun e w' => e = .returned (.tuple #[.int .i64 (takeV s 2), .int .i64 0]) ∧ w' = w := by
  unfold maxLen at hs
  have hd : decide ((s.size : Int) < 2) = false := by simp; omega
  have hd2 : decide ((128 : Int) ≤ (s[1].toNat : Int)) = false := by simp; omega
  have HT : Hid (xb (takeV s 2) 2 = 0) := by
    show _ = _
    rw [take_hi s 2 h]
    have ht := take_top s 2 (by decide) h
    simp only [Nat.reduceSub] at ht
    rw [if_neg (by intro hh; have := ht.1 (by simpa using hh); omega)]
  have HB := take_bd s 2 (by decide) (by decide) h
  have HY : Hid (∀ i (hi : i < 2), xb (takeV s 2) i % 256 = (s[i].toNat : Int)) := fun i hi => take_byte s 2 i hi h
  generalize takeV s 2 = t at *
  clear hc
  go_enter Try.func33, Try.ntmps33
  go_wp2_with fail
  refine (sized_any 2 _ (by decide)).mono ?_
  rintro e w' ⟨rfl, rfl⟩
  go_wp2
  go_loop [7, 8] (fun u i => ∃ j : Nat, j ≤ 2 ∧ i = .int .i64 ((j : Int) - 1) ∧ u = .int .i64 (xb t j)) (fun _ i => (intOf i + 1).toNat)
  case atStart => exact ⟨2, Nat.le_refl _, rfl, by rw [HT.out]⟩
  case round =>
    obtain ⟨j, hj, rfl, rfl⟩ := hrel
    clear HT
    rcases j with _ | k
    · go_wp2
      go_ret2
      exact ⟨by simp [xb_zero], rfl⟩
    · have e : ((k + 1 : Nat) : Int) - 1 = (k : Int) := by omega
      rw [e]
      have hks : k < s.size := by omega
      have hb := byte_bd s k hks
      have hx := xb_bd t k HB.1 HB.2
      have hy : xb t (k + 1) = xb t k / 256 := (xb_succ t k).symm
      have hz := HY.out k (by omega)
      have h1 : -9223372036854775808 ≤ xb t (k + 1) * 256 := by omega
      have h2 : xb t (k + 1) * 256 ≤ 9223372036854775807 := by omega
      have h3 : xb t (k + 1) * 256 + (s[k].toNat : Int) ≤ 9223372036854775807 := by omega
      have HE : Hid (xb t (k + 1) * 256 + (s[k].toNat : Int) = xb t k) := by show _ = _; omega
      clear hy hz e hx
      go_wp2
      go_round
      case rel => exact ⟨k, by omega, rfl, by rw [HE.out]⟩
      case measure => simp [intOf]

set_option maxRecDepth 100000 in
theorem rtake4n (s : ByteArray) (w : World) (hs : s.size ≤ maxLen) (h : 4 ≤ s.size) (hc : (128 : Int) ≤ (s[3].toNat : Int)) : Calls Try.prog 33 #[.string s, .int .i64 4] w fun e w' => e = .returned (.tuple #[.int .i64 (takeV s 4), .int .i64 0]) ∧ w' = w := by
  unfold maxLen at hs
  have hd : decide ((s.size : Int) < 4) = false := by simp; omega
  have hd2 : decide ((128 : Int) ≤ (s[3].toNat : Int)) = true := by simp; omega
  have HT : Hid (xb (takeV s 4) 4 = -1) := by
    show _ = _
    rw [take_hi s 4 h]
    have ht := take_top s 4 (by decide) h
    simp only [Nat.reduceSub] at ht
    rw [if_pos (by simpa using ht.2 hc)]
  have HB := take_bd s 4 (by decide) (by decide) h
  have HY : Hid (∀ i (hi : i < 4), xb (takeV s 4) i % 256 = (s[i].toNat : Int)) := fun i hi => take_byte s 4 i hi h
  generalize takeV s 4 = t at *
  clear hc
  go_enter Try.func33, Try.ntmps33
  go_wp2_with fail
  refine (sized_any 4 _ (by decide)).mono ?_
  rintro e w' ⟨rfl, rfl⟩
  go_wp2
  go_loop [7, 8] (fun u i => ∃ j : Nat, j ≤ 4 ∧ i = .int .i64 ((j : Int) - 1) ∧ u = .int .i64 (xb t j)) (fun _ i => (intOf i + 1).toNat)
  case atStart => exact ⟨4, Nat.le_refl _, rfl, by rw [HT.out]⟩
  case round =>
    obtain ⟨j, hj, rfl, rfl⟩ := hrel
    clear HT
    rcases j with _ | k
    · go_wp2
      go_ret2
      exact ⟨by simp [xb_zero], rfl⟩
    · have e : ((k + 1 : Nat) : Int) - 1 = (k : Int) := by omega
      rw [e]
      have hks : k < s.size := by omega
      have hb := byte_bd s k hks
      have hx := xb_bd t k HB.1 HB.2
      have hy : xb t (k + 1) = xb t k / 256 := (xb_succ t k).symm
      have hz := HY.out k (by omega)
      have h1 : -9223372036854775808 ≤ xb t (k + 1) * 256 := by omega
      have h2 : xb t (k + 1) * 256 ≤ 9223372036854775807 := by omega
      have h3 : xb t (k + 1) * 256 + (s[k].toNat : Int) ≤ 9223372036854775807 := by omega
      have HE : Hid (xb t (k + 1) * 256 + (s[k].toNat : Int) = xb t k) := by show _ = _; omega
      clear hy hz e hx
      go_wp2
      go_round
      case rel => exact ⟨k, by omega, rfl, by rw [HE.out]⟩
      case measure => simp [intOf]

set_option maxRecDepth 100000 in
theorem rtake4p (s : ByteArray) (w : World) (hs : s.size ≤ maxLen) (h : 4 ≤ s.size) (hc : (s[3].toNat : Int) < (128 : Int)) : Calls Try.prog 33 #[.string s, .int .i64 4] w fun e w' => e = .returned (.tuple #[.int .i64 (takeV s 4), .int .i64 0]) ∧ w' = w := by
  unfold maxLen at hs
  have hd : decide ((s.size : Int) < 4) = false := by simp; omega
  have hd2 : decide ((128 : Int) ≤ (s[3].toNat : Int)) = false := by simp; omega
  have HT : Hid (xb (takeV s 4) 4 = 0) := by
    show _ = _
    rw [take_hi s 4 h]
    have ht := take_top s 4 (by decide) h
    simp only [Nat.reduceSub] at ht
    rw [if_neg (by intro hh; have := ht.1 (by simpa using hh); omega)]
  have HB := take_bd s 4 (by decide) (by decide) h
  have HY : Hid (∀ i (hi : i < 4), xb (takeV s 4) i % 256 = (s[i].toNat : Int)) := fun i hi => take_byte s 4 i hi h
  generalize takeV s 4 = t at *
  clear hc
  go_enter Try.func33, Try.ntmps33
  go_wp2_with fail
  refine (sized_any 4 _ (by decide)).mono ?_
  rintro e w' ⟨rfl, rfl⟩
  go_wp2
  go_loop [7, 8] (fun u i => ∃ j : Nat, j ≤ 4 ∧ i = .int .i64 ((j : Int) - 1) ∧ u = .int .i64 (xb t j)) (fun _ i => (intOf i + 1).toNat)
  case atStart => exact ⟨4, Nat.le_refl _, rfl, by rw [HT.out]⟩
  case round =>
    obtain ⟨j, hj, rfl, rfl⟩ := hrel
    clear HT
    rcases j with _ | k
    · go_wp2
      go_ret2
      exact ⟨by simp [xb_zero], rfl⟩
    · have e : ((k + 1 : Nat) : Int) - 1 = (k : Int) := by omega
      rw [e]
      have hks : k < s.size := by omega
      have hb := byte_bd s k hks
      have hx := xb_bd t k HB.1 HB.2
      have hy : xb t (k + 1) = xb t k / 256 := (xb_succ t k).symm
      have hz := HY.out k (by omega)
      have h1 : -9223372036854775808 ≤ xb t (k + 1) * 256 := by omega
      have h2 : xb t (k + 1) * 256 ≤ 9223372036854775807 := by omega
      have h3 : xb t (k + 1) * 256 + (s[k].toNat : Int) ≤ 9223372036854775807 := by omega
      have HE : Hid (xb t (k + 1) * 256 + (s[k].toNat : Int) = xb t k) := by show _ = _; omega
      clear hy hz e hx
      go_wp2
      go_round
      case rel => exact ⟨k, by omega, rfl, by rw [HE.out]⟩
      case measure => simp [intOf]

set_option maxRecDepth 100000 in
theorem rtake8n (s : ByteArray) (w : World) (hs : s.size ≤ maxLen) (h : 8 ≤ s.size) (hc : (128 : Int) ≤ (s[7].toNat : Int)) : Calls Try.prog 33 #[.string s, .int .i64 8] w fun e w' => e = .returned (.tuple #[.int .i64 (takeV s 8), .int .i64 0]) ∧ w' = w := by
  unfold maxLen at hs
  have hd : decide ((s.size : Int) < 8) = false := by simp; omega
  have hd2 : decide ((128 : Int) ≤ (s[7].toNat : Int)) = true := by simp; omega
  have HT : Hid (xb (takeV s 8) 8 = -1) := by
    show _ = _
    rw [take_hi s 8 h]
    have ht := take_top s 8 (by decide) h
    simp only [Nat.reduceSub] at ht
    rw [if_pos (by simpa using ht.2 hc)]
  have HB := take_bd s 8 (by decide) (by decide) h
  have HY : Hid (∀ i (hi : i < 8), xb (takeV s 8) i % 256 = (s[i].toNat : Int)) := fun i hi => take_byte s 8 i hi h
  generalize takeV s 8 = t at *
  clear hc
  go_enter Try.func33, Try.ntmps33
  go_wp2_with fail
  refine (sized_any 8 _ (by decide)).mono ?_
  rintro e w' ⟨rfl, rfl⟩
  go_wp2
  go_loop [7, 8] (fun u i => ∃ j : Nat, j ≤ 8 ∧ i = .int .i64 ((j : Int) - 1) ∧ u = .int .i64 (xb t j)) (fun _ i => (intOf i + 1).toNat)
  case atStart => exact ⟨8, Nat.le_refl _, rfl, by rw [HT.out]⟩
  case round =>
    obtain ⟨j, hj, rfl, rfl⟩ := hrel
    clear HT
    rcases j with _ | k
    · go_wp2
      go_ret2
      exact ⟨by simp [xb_zero], rfl⟩
    · have e : ((k + 1 : Nat) : Int) - 1 = (k : Int) := by omega
      rw [e]
      have hks : k < s.size := by omega
      have hb := byte_bd s k hks
      have hx := xb_bd t k HB.1 HB.2
      have hy : xb t (k + 1) = xb t k / 256 := (xb_succ t k).symm
      have hz := HY.out k (by omega)
      have h1 : -9223372036854775808 ≤ xb t (k + 1) * 256 := by omega
      have h2 : xb t (k + 1) * 256 ≤ 9223372036854775807 := by omega
      have h3 : xb t (k + 1) * 256 + (s[k].toNat : Int) ≤ 9223372036854775807 := by omega
      have HE : Hid (xb t (k + 1) * 256 + (s[k].toNat : Int) = xb t k) := by show _ = _; omega
      clear hy hz e hx
      go_wp2
      go_round
      case rel => exact ⟨k, by omega, rfl, by rw [HE.out]⟩
      case measure => simp [intOf]

set_option maxRecDepth 100000 in
theorem rtake8p (s : ByteArray) (w : World) (hs : s.size ≤ maxLen) (h : 8 ≤ s.size) (hc : (s[7].toNat : Int) < (128 : Int)) : Calls Try.prog 33 #[.string s, .int .i64 8] w fun e w' => e = .returned (.tuple #[.int .i64 (takeV s 8), .int .i64 0]) ∧ w' = w := by
  unfold maxLen at hs
  have hd : decide ((s.size : Int) < 8) = false := by simp; omega
  have hd2 : decide ((128 : Int) ≤ (s[7].toNat : Int)) = false := by simp; omega
  have HT : Hid (xb (takeV s 8) 8 = 0) := by
    show _ = _
    rw [take_hi s 8 h]
    have ht := take_top s 8 (by decide) h
    simp only [Nat.reduceSub] at ht
    rw [if_neg (by intro hh; have := ht.1 (by simpa using hh); omega)]
  have HB := take_bd s 8 (by decide) (by decide) h
  have HY : Hid (∀ i (hi : i < 8), xb (takeV s 8) i % 256 = (s[i].toNat : Int)) := fun i hi => take_byte s 8 i hi h
  generalize takeV s 8 = t at *
  clear hc
  go_enter Try.func33, Try.ntmps33
  go_wp2_with fail
  refine (sized_any 8 _ (by decide)).mono ?_
  rintro e w' ⟨rfl, rfl⟩
  go_wp2
  go_loop [7, 8] (fun u i => ∃ j : Nat, j ≤ 8 ∧ i = .int .i64 ((j : Int) - 1) ∧ u = .int .i64 (xb t j)) (fun _ i => (intOf i + 1).toNat)
  case atStart => exact ⟨8, Nat.le_refl _, rfl, by rw [HT.out]⟩
  case round =>
    obtain ⟨j, hj, rfl, rfl⟩ := hrel
    clear HT
    rcases j with _ | k
    · go_wp2
      go_ret2
      exact ⟨by simp [xb_zero], rfl⟩
    · have e : ((k + 1 : Nat) : Int) - 1 = (k : Int) := by omega
      rw [e]
      have hks : k < s.size := by omega
      have hb := byte_bd s k hks
      have hx := xb_bd t k HB.1 HB.2
      have hy : xb t (k + 1) = xb t k / 256 := (xb_succ t k).symm
      have hz := HY.out k (by omega)
      have h1 : -9223372036854775808 ≤ xb t (k + 1) * 256 := by omega
      have h2 : xb t (k + 1) * 256 ≤ 9223372036854775807 := by omega
      have h3 : xb t (k + 1) * 256 + (s[k].toNat : Int) ≤ 9223372036854775807 := by omega
      have HE : Hid (xb t (k + 1) * 256 + (s[k].toNat : Int) = xb t k) := by show _ = _; omega
      clear hy hz e hx
      go_wp2
      go_round
      case rel => exact ⟨k, by omega, rfl, by rw [HE.out]⟩
      case measure => simp [intOf]

theorem take_not (s : ByteArray) (n : Int) (w : World) (h : ¬ (n = 1 ∨ n = 2 ∨ n = 4 ∨ n = 8)) : Calls Try.prog 32 #[.string s, .int .i64 n] w fun e w' => e = .returned (.tuple #[.int .i64 0, .int .i64 1]) ∧ w' = w := by
  have HS : Hid (∀ w, Calls Try.prog 39 #[.int .i64 n] w fun e w' => e = .returned (.bool false) ∧ w' = w) := fun w => isSize_not n w h
  clear h
  go_enter Try.func32, Try.ntmps32
  go_wp2_with fail
  refine (HS.out _).mono ?_
  rintro e w' ⟨rfl, rfl⟩
  go_wp2
  go_ret2
  exact ⟨rfl, rfl⟩
theorem rtake_not (s : ByteArray) (n : Int) (w : World) (h : ¬ (n = 1 ∨ n = 2 ∨ n = 4 ∨ n = 8)) : Calls Try.prog 33 #[.string s, .int .i64 n] w fun e w' => e = .returned (.tuple #[.int .i64 0, .int .i64 1]) ∧ w' = w := by
  have HS : Hid (∀ w, Calls Try.prog 41 #[.int .i64 n] w fun e w' => e = .returned (.bool false) ∧ w' = w) := fun w => sized_not n w h
  clear h
  go_enter Try.func33, Try.ntmps33
  go_wp2_with fail
  refine (HS.out _).mono ?_
  rintro e w' ⟨rfl, rfl⟩
  go_wp2
  go_ret2
  exact ⟨rfl, rfl⟩
theorem take_short (s : ByteArray) (n : Int) (w : World) (h : n = 1 ∨ n = 2 ∨ n = 4 ∨ n = 8) (hl : (s.size : Int) < n) : Calls Try.prog 32 #[.string s, .int .i64 n] w fun e w' => e = .returned (.tuple #[.int .i64 0, .int .i64 1]) ∧ w' = w := by
  have HS : Hid (∀ w, Calls Try.prog 39 #[.int .i64 n] w fun e w' => e = .returned (.bool true) ∧ w' = w) := fun w => isSize_any n w h
  clear h
  go_enter Try.func32, Try.ntmps32
  go_wp2_with fail
  refine (HS.out _).mono ?_
  rintro e w' ⟨rfl, rfl⟩
  go_wp2
  go_ret2
  exact ⟨rfl, rfl⟩
theorem rtake_short (s : ByteArray) (n : Int) (w : World) (h : n = 1 ∨ n = 2 ∨ n = 4 ∨ n = 8) (hl : (s.size : Int) < n) : Calls Try.prog 33 #[.string s, .int .i64 n] w fun e w' => e = .returned (.tuple #[.int .i64 0, .int .i64 1]) ∧ w' = w := by
  have HS : Hid (∀ w, Calls Try.prog 41 #[.int .i64 n] w fun e w' => e = .returned (.bool true) ∧ w' = w) := fun w => sized_any n w h
  clear h
  go_enter Try.func33, Try.ntmps33
  go_wp2_with fail
  refine (HS.out _).mono ?_
  rintro e w' ⟨rfl, rfl⟩
  go_wp2
  go_ret2
  exact ⟨rfl, rfl⟩
end Go.Proofs.Ytdegladjmbllbaa
