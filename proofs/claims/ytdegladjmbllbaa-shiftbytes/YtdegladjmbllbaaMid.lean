/- Contracts of the functions that call the small ones: mixing, turning, shifting, narrowing, in the program and in the document's answer. -/
import Derived.Test.YtdegladjmbllbaaLeaf
namespace Go.Proofs.Ytdegladjmbllbaa
open Go.ChangeShapes Go.WideShapes Go.ChangeAt Go.RowKit

theorem down33 (x : Int) (h0 : 0 ≤ x) (h1 : x ≤ 18446744073709551615) (w : World) : Calls Try.prog 34 #[.int .u64 x, .int .i64 33] w fun e w' => e = .returned (.int .u64 (x / 8589934592)) ∧ w' = w :=
  down_any x 33 (by decide) h0 h1 w
theorem down55 (x : Int) (h0 : 0 ≤ x) (h1 : x ≤ 18446744073709551615) (w : World) : Calls Try.prog 34 #[.int .u64 x, .int .i64 55] w fun e w' => e = .returned (.int .u64 (x / 36028797018963968)) ∧ w' = w :=
  down_any x 55 (by decide) h0 h1 w

theorem rmix_any (x : Int) (h0 : 0 ≤ x) (h1 : x ≤ 18446744073709551615) (w : World) : Calls Try.prog 11 #[.int .u64 x] w fun e w' => e = .returned (.int .u64 (mixV x)) ∧ w' = w := by
  go_enter Try.func11, Try.ntmps11
  go_wp2_with fail
  refine (down33 _ h0 h1 _).mono ?_
  rintro e w' ⟨rfl, rfl⟩
  go_wp2_with fail
  refine (times_any _ _ (fold_bd x).1 (fold_bd x).2 (by decide) (by decide) _).mono ?_
  rintro e w' ⟨rfl, rfl⟩
  go_wp2_with fail
  refine (down33 _ (wrap_bd _).1 (wrap_bd _).2 _).mono ?_
  rintro e w' ⟨rfl, rfl⟩
  go_wp2_with fail
  refine (times_any _ _ (fold_bd _).1 (fold_bd _).2 (by decide) (by decide) _).mono ?_
  rintro e w' ⟨rfl, rfl⟩
  go_wp2_with fail
  refine (down33 _ (wrap_bd _).1 (wrap_bd _).2 _).mono ?_
  rintro e w' ⟨rfl, rfl⟩
  go_wp2
  go_ret
  exact ⟨rfl, rfl⟩

/-- The bit of a cell. -/
def sigV (c : Int) : Int := wrap64 (mixV (IntKind.u64.wrap c) / 36028797018963968)
theorem sig_bd (c : Int) : 0 ≤ sigV c ∧ sigV c < 512 := by
  have h := mix_bd (IntKind.u64.wrap c)
  unfold sigV wrap64
  omega

theorem sighash_any (c : Int) (w : World) : Calls Try.prog 12 #[.int .i64 c] w fun e w' => e = .returned (.int .i64 (sigV c)) ∧ w' = w := by
  go_enter Try.func12, Try.ntmps12
  go_wp2_with fail
  refine (mix_any _ _).mono ?_
  rintro e w' ⟨rfl, rfl⟩
  go_wp2
  go_ret
  exact ⟨rfl, rfl⟩

theorem rsighash_any (c : Int) (w : World) : Calls Try.prog 13 #[.int .i64 c] w fun e w' => e = .returned (.int .i64 (sigV c)) ∧ w' = w := by
  go_enter Try.func13, Try.ntmps13
  go_wp2_with fail
  refine (rmix_any _ (wrap_bd _).1 (wrap_bd _).2 _).mono ?_
  rintro e w' ⟨rfl, rfl⟩
  go_wp2_with fail
  refine (down55 _ (mix_bd _).1 (mix_bd _).2 _).mono ?_
  rintro e w' ⟨rfl, rfl⟩
  go_wp2
  go_ret
  exact ⟨rfl, rfl⟩

theorem turn_any (x n : Int) (h0 : 0 ≤ x) (h1 : x ≤ 18446744073709551615) (w : World) : Calls Try.prog 14 #[.int .u64 x, .int .i64 n] w fun e w' => e = .returned (.int .u64 (turnV x (n % 64).toNat)) ∧ w' = w := by
  have hk := and63 n
  have hlt : (n % 64).toNat < 64 := by omega
  generalize (n % 64).toNat = k at *
  have H : Hid (bits .or .u64 (IntKind.u64.wrap (x * 2 ^ k)) (x / 2 ^ (64 - k)) = turnV x k) := turn_or x k h0 (by omega) hlt
  go_enter Try.func14, Try.ntmps14
  go_wp2
  go_ret
  exact ⟨by simp [H.out], rfl⟩

theorem rturn_any (x n : Int) (h0 : 0 ≤ x) (h1 : x ≤ 18446744073709551615) (w : World) : Calls Try.prog 15 #[.int .u64 x, .int .i64 n] w fun e w' => e = .returned (.int .u64 (turnV x (n % 64).toNat)) ∧ w' = w := by
  obtain ⟨k, hk, ht⟩ : ∃ k : Nat, (n % 64).toNat = k ∧ (n.tmod 64 = (k : Int) - 64 ∨ n.tmod 64 = (k : Int)) := by
    refine ⟨_, rfl, ?_⟩
    have hb := Int.emod_nonneg n (show (64 : Int) ≠ 0 by decide)
    rcases Int.lt_or_le (n.tmod 64) 0 with h | h
    · obtain ⟨_, _, e⟩ := tmod_low n 64 (by decide) h; left; omega
    · right; rw [tmod_high n 64 (by decide) h]; omega
  have hlt : k < 64 := by omega
  rw [hk]
  clear hk
  rcases ht with ht | ht
  · have hd : decide ((k : Int) - 64 < 0) = true := by simp; omega
    go_enter Try.func15, Try.ntmps15
    go_wp2
    go_loop [0, 6] (fun v i => ∃ j : Nat, j ≤ k ∧ i = .int .i64 j ∧ v = .int .u64 (turnV x j)) (fun _ i => k - (intOf i).toNat)
    case atStart => exact ⟨0, Nat.zero_le _, rfl, by rw [turn_zero x h0 (by omega)]⟩
    case round =>
      obtain ⟨j, hj, rfl, rfl⟩ := hrel
      have hb := turn_bd x j h0 (by omega) (by omega)
      by_cases hjk : j < k
      · have H : Hid (IntKind.u64.wrap (IntKind.u64.wrap (turnV x j + turnV x j) + turnV x j / 9223372036854775808) = turnV x (j + 1)) := turn_succ x j h0 (by omega) (by omega)
        go_wp2
        go_round
        case rel => exact ⟨j + 1, by omega, by go_num, by rw [H.out]⟩
        case measure => simp [intOf]; omega
      · have e : j = k := by omega
        subst e
        go_wp2
        go_ret
        exact ⟨rfl, rfl⟩
  · have hd : decide ((k : Int) < 0) = false := by simp
    go_enter Try.func15, Try.ntmps15
    go_wp2
    go_loop [0, 6] (fun v i => ∃ j : Nat, j ≤ k ∧ i = .int .i64 j ∧ v = .int .u64 (turnV x j)) (fun _ i => k - (intOf i).toNat)
    case atStart => exact ⟨0, Nat.zero_le _, rfl, by rw [turn_zero x h0 (by omega)]⟩
    case round =>
      obtain ⟨j, hj, rfl, rfl⟩ := hrel
      have hb := turn_bd x j h0 (by omega) (by omega)
      by_cases hjk : j < k
      · have H : Hid (IntKind.u64.wrap (IntKind.u64.wrap (turnV x j + turnV x j) + turnV x j / 9223372036854775808) = turnV x (j + 1)) := turn_succ x j h0 (by omega) (by omega)
        go_wp2
        go_round
        case rel => exact ⟨j + 1, by omega, by go_num, by rw [H.out]⟩
        case measure => simp [intOf]; omega
      · have e : j = k := by omega
        subst e
        go_wp2
        go_ret
        exact ⟨rfl, rfl⟩

/-! ### remainders and shifts -/
def p2 (k : Nat) : Int := 2 ^ k
theorem p2_zero : p2 0 = 1 := rfl
theorem p2_succ (k : Nat) : p2 k + p2 k = p2 (k + 1) := by unfold p2; rw [Int.pow_succ]; omega
theorem p2_bd (k : Nat) (h : k ≤ 62) : 1 ≤ p2 k ∧ p2 k ≤ 4611686018427387904 := by
  unfold p2
  constructor
  · have := two_pow_pos k; omega
  · have h1 : 2 ^ k ≤ 2 ^ 62 := Nat.pow_le_pow_right (by decide) h
    have h2 : ((2 ^ k : Nat) : Int) = (2 : Int) ^ k := by simp
    omega

theorem least_any (x : Int) (k : Nat) (hk : k ≤ 62) (w : World) : Calls Try.prog 36 #[.int .i64 x, .int .i64 k] w fun e w' => e = .returned (.int .i64 (x % p2 k)) ∧ w' = w := by
  go_enter Try.func36, Try.ntmps36
  go_wp2
  go_loop [5, 6] (fun m i => ∃ j : Nat, j ≤ k ∧ i = .int .i64 j ∧ m = .int .i64 (p2 j)) (fun _ i => k - (intOf i).toNat)
  case atStart => exact ⟨0, Nat.zero_le _, rfl, by rw [p2_zero]⟩
  case round =>
    obtain ⟨j, hj, rfl, rfl⟩ := hrel
    have hb := p2_bd j (by omega)
    by_cases hjk : j < k
    · have hb' := p2_bd (j + 1) (by omega)
      have HS : Hid (p2 j + p2 j = p2 (j + 1)) := p2_succ j
      have hs : p2 j + p2 j ≤ 4611686018427387904 := by rw [HS.out]; exact hb'.2
      go_wp2
      go_round
      case rel => exact ⟨j + 1, by omega, by go_num, by rw [← HS.out]⟩
      case measure => simp [intOf]; omega
    · have e : j = k := by omega
      subst e
      have hlo := Int.emod_nonneg x (show p2 j ≠ 0 by omega)
      have hhi := Int.emod_lt_of_pos x (show 0 < p2 j by omega)
      rcases Int.lt_or_le (x.tmod (p2 j)) 0 with h | h
      · obtain ⟨_, _, e⟩ := tmod_low x (p2 j) (by omega) h
        clear h
        go_wp2
        go_ret
        exact ⟨by simp, rfl⟩
      · have e := tmod_high x (p2 j) (by omega) h
        clear h
        go_wp2
        go_ret
        exact ⟨rfl, rfl⟩

theorem low_any (n : Int) (w : World) : Calls Try.prog 38 #[.int .i64 n] w fun e w' => e = .returned (.int .i64 ((n % 64).toNat : Int)) ∧ w' = w := by
  have hp : p2 6 = 64 := by decide
  have hc : ((n % 64).toNat : Int) = n % 64 := by omega
  have hl : 0 ≤ n % 64 := by omega
  have hh : n % 64 < 64 := by omega
  have hl6 := least_any n 6 (by decide) w
  rw [hp] at hl6
  have HC : Hid (((n % 64).toNat : Int) = n % 64) := hc
  clear hc hp
  have HL := hl6
  clear hl6
  go_enter Try.func38, Try.ntmps38
  go_wp2_with fail
  refine HL.mono ?_
  rintro e w' ⟨rfl, rfl⟩
  clear HL
  go_wp2
  go_ret
  exact ⟨by rw [HC.out]; simp, rfl⟩

theorem shl_any (x n : Int) (w : World) : Calls Try.prog 24 #[.int .i64 x, .int .i64 n] w fun e w' => e = .returned (.int .i64 (shlV x (n % 64).toNat)) ∧ w' = w := by
  have hk := and63 n
  have hlt : (n % 64).toNat < 64 := by omega
  generalize (n % 64).toNat = k at *
  go_enter Try.func24, Try.ntmps24
  go_wp2
  go_ret
  exact ⟨rfl, rfl⟩

theorem shr_any (x n : Int) (w : World) : Calls Try.prog 26 #[.int .i64 x, .int .i64 n] w fun e w' => e = .returned (.int .i64 (shrV x (n % 64).toNat)) ∧ w' = w := by
  have hk := and63 n
  have hlt : (n % 64).toNat < 64 := by omega
  generalize (n % 64).toNat = k at *
  go_enter Try.func26, Try.ntmps26
  go_wp2
  go_ret
  exact ⟨rfl, rfl⟩

theorem ushr_any (x n : Int) (w : World) : Calls Try.prog 28 #[.int .i64 x, .int .i64 n] w fun e w' => e = .returned (.int .i64 (wrap64 (shrV (IntKind.u64.wrap x) (n % 64).toNat))) ∧ w' = w := by
  have hk := and63 n
  have hlt : (n % 64).toNat < 64 := by omega
  generalize (n % 64).toNat = k at *
  go_enter Try.func28, Try.ntmps28
  go_wp2
  go_ret
  exact ⟨rfl, rfl⟩

theorem rshl_any (x n : Int) (hx0 : -9223372036854775808 ≤ x) (hx1 : x ≤ 9223372036854775807) (w : World) : Calls Try.prog 25 #[.int .i64 x, .int .i64 n] w fun e w' => e = .returned (.int .i64 (shlV x (n % 64).toNat)) ∧ w' = w := by
  have HL := low_any n w
  have hlt : (n % 64).toNat < 64 := by omega
  generalize (n % 64).toNat = k at *
  go_enter Try.func25, Try.ntmps25
  go_wp2_with fail
  refine HL.mono ?_
  rintro e w' ⟨rfl, rfl⟩
  clear HL
  go_wp2
  go_loop [0, 6] (fun v i => ∃ j : Nat, j ≤ k ∧ i = .int .i64 j ∧ v = .int .i64 (shlV x j)) (fun _ i => k - (intOf i).toNat)
  case atStart => exact ⟨0, Nat.zero_le _, rfl, by rw [shl_zero x hx0 hx1]⟩
  case round =>
    obtain ⟨j, hj, rfl, rfl⟩ := hrel
    by_cases hjk : j < k
    · have H : Hid (wrap64 (shlV x j + shlV x j) = shlV x (j + 1)) := shl_succ x j
      go_wp2
      go_round
      case rel => exact ⟨j + 1, by omega, by go_num, by rw [H.out]⟩
      case measure => simp [intOf]; omega
    · have e : j = k := by omega
      subst e
      go_wp2
      go_ret
      exact ⟨rfl, rfl⟩

theorem rshr_any (x n : Int) (hx0 : -9223372036854775808 ≤ x) (hx1 : x ≤ 9223372036854775807) (w : World) : Calls Try.prog 27 #[.int .i64 x, .int .i64 n] w fun e w' => e = .returned (.int .i64 (shrV x (n % 64).toNat)) ∧ w' = w := by
  have HL := low_any n w
  have hlt : (n % 64).toNat < 64 := by omega
  generalize (n % 64).toNat = k at *
  go_enter Try.func27, Try.ntmps27
  go_wp2_with fail
  refine HL.mono ?_
  rintro e w' ⟨rfl, rfl⟩
  clear HL
  go_wp2
  go_loop [0, 6] (fun v i => ∃ j : Nat, j ≤ k ∧ i = .int .i64 j ∧ v = .int .i64 (shrV x j)) (fun _ i => k - (intOf i).toNat)
  case atStart => exact ⟨0, Nat.zero_le _, rfl, by rw [shr_zero x]⟩
  case round =>
    obtain ⟨j, hj, rfl, rfl⟩ := hrel
    have hb := shr_bd x j hx0 hx1
    by_cases hjk : j < k
    · go_wp2_with fail
      refine (rstamp_any _ hb.1 hb.2 _).mono ?_
      rintro e w' ⟨rfl, rfl⟩
      go_wp2
      go_round
      case rel => exact ⟨j + 1, by omega, by go_num, by rw [shr_succ]⟩
      case measure => simp [intOf]; omega
    · have e : j = k := by omega
      subst e
      go_wp2
      go_ret
      exact ⟨rfl, rfl⟩

theorem rushr_any (x n : Int) (w : World) : Calls Try.prog 29 #[.int .i64 x, .int .i64 n] w fun e w' => e = .returned (.int .i64 (wrap64 (shrV (IntKind.u64.wrap x) (n % 64).toNat))) ∧ w' = w := by
  have HL := low_any n w
  have hlt : (n % 64).toNat < 64 := by omega
  generalize (n % 64).toNat = k at *
  go_enter Try.func29, Try.ntmps29
  go_wp2_with fail
  refine HL.mono ?_
  rintro e w' ⟨rfl, rfl⟩
  clear HL
  go_wp2_with fail
  refine (down_any _ k (by omega) (wrap_bd _).1 (wrap_bd _).2 _).mono ?_
  rintro e w' ⟨rfl, rfl⟩
  go_wp2
  go_ret
  exact ⟨rfl, rfl⟩
end Go.Proofs.Ytdegladjmbllbaa
