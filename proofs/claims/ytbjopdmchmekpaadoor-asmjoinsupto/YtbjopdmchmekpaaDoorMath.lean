/- Plain facts on words of 64 bits, on their wraps, shifts and bits: they import nothing of the program and speak of numbers alone. -/
import Derived.WalkKit
import Derived.Laws.Bits64
import Derived.Laws.Bits64b
namespace Go.Proofs.YtbjopdmchmekpaaDoor
open Go.RowKit (wrap64)

/-! ### bits of one word -/
theorem and63 (n : Int) : bits .and .u64 (IntKind.u64.wrap n) 63 = ((n % 64).toNat : Int) := by
  rw [IntKind.wrap_u64]
  obtain ⟨m, hm⟩ := Int.eq_ofNat_of_zero_le (Int.emod_nonneg n (show (18446744073709551616 : Int) ≠ 0 by decide))
  have hlt : m < 18446744073709551616 := by
    have := Int.emod_lt_of_pos n (show (0 : Int) < 18446744073709551616 by decide)
    omega
  rw [hm]
  have h := bits_and_u64_nat m 63 hlt (by decide)
  have h2 : m &&& 63 = m % 64 := Nat.and_two_pow_sub_one_eq_mod m 6
  rw [h2] at h
  refine Eq.trans h ?_
  omega

theorem and1 (x : Int) : bits .and .i64 x 1 = x % 2 := by
  show IntKind.i64.wrap ((BitVec.ofInt 64 x &&& BitVec.ofInt 64 1).toNat : Int) = _
  rw [BitVec.toNat_and, BitVec.toNat_ofInt, BitVec.toNat_ofInt]
  have e : ((1 : Int) % ((2 ^ 64 : Nat) : Int)).toNat = 1 := by decide
  rw [e, Nat.and_one_is_mod, IntKind.wrap_i64]
  omega

theorem or1 (x : Int) : bits .or .i64 (wrap64 (x * 2)) 1 = wrap64 (x * 2 + 1) := by
  show IntKind.i64.wrap ((BitVec.ofInt 64 (wrap64 (x * 2)) ||| BitVec.ofInt 64 1).toNat : Int) = _
  rw [BitVec.toNat_or, BitVec.toNat_ofInt, BitVec.toNat_ofInt]
  have e : ((1 : Int) % ((2 ^ 64 : Nat) : Int)).toNat = 1 := by decide
  have e2 : ((2 ^ 64 : Nat) : Int) = 18446744073709551616 := by decide
  rw [e, e2]
  generalize hq : (wrap64 (x * 2) % 18446744073709551616).toNat = q
  have hev : q % 2 = 0 := by unfold wrap64 at hq; omega
  have hor : q ||| 1 = q + 1 := by
    have h := Nat.two_pow_add_eq_or_of_lt (i := 1) (b := 1) (by decide) (q / 2)
    have : 2 ^ 1 * (q / 2) = q := by omega
    rw [this] at h
    exact h.symm
  rw [hor, IntKind.wrap_i64]
  unfold wrap64 at *
  omega

/-! ### powers of two and turning -/
theorem two_pow_pos (k : Nat) : (0 : Int) < 2 ^ k := by
  have := Nat.two_pow_pos k
  have h : ((2 ^ k : Nat) : Int) = (2 : Int) ^ k := by simp
  omega

theorem div_pow_succ (x : Int) (k : Nat) : x / 2 ^ k / 2 = x / 2 ^ (k + 1) := by
  rw [Int.ediv_ediv_of_nonneg (Int.le_of_lt (two_pow_pos k)), Int.pow_succ]

/-- A word turned to the left by k places. -/
def turnV (x : Int) (k : Nat) : Int := x * 2 ^ k % 18446744073709551616 + x / 2 ^ (64 - k)

theorem turn_nat (x k : Nat) (hx : x < 18446744073709551616) (hk : k ≤ 64) :
    x * 2 ^ k % 18446744073709551616 = x % 2 ^ (64 - k) * 2 ^ k ∧ x / 2 ^ (64 - k) < 2 ^ k := by
  have e : 2 ^ (64 - k) * 2 ^ k = 18446744073709551616 := by
    rw [← Nat.pow_add]; rw [show 64 - k + k = 64 by omega]
  constructor
  · rw [← e, Nat.mul_mod_mul_right]
  · rw [Nat.div_lt_iff_lt_mul (Nat.two_pow_pos _), Nat.mul_comm, e]; exact hx

theorem turn_or (x : Int) (k : Nat) (h0 : 0 ≤ x) (h1 : x < 18446744073709551616) (hk : k < 64) :
    bits .or .u64 (IntKind.u64.wrap (x * 2 ^ k)) (x / 2 ^ (64 - k)) = turnV x k := by
  obtain ⟨m, rfl⟩ := Int.eq_ofNat_of_zero_le h0
  have hm : m < 18446744073709551616 := by omega
  obtain ⟨ha, hb⟩ := turn_nat m k hm (by omega)
  have e1 : IntKind.u64.wrap ((m : Int) * 2 ^ k) = ((m * 2 ^ k % 18446744073709551616 : Nat) : Int) := by
    rw [IntKind.wrap_u64]; simp
  have e2 : (m : Int) / 2 ^ (64 - k) = ((m / 2 ^ (64 - k) : Nat) : Int) := by simp
  have hlt : m / 2 ^ (64 - k) < 18446744073709551616 := Nat.lt_of_le_of_lt (Nat.div_le_self _ _) hm
  unfold turnV
  rw [e1, e2, bits_or_u64_nat _ _ (Nat.mod_lt _ (by decide)) hlt, ha]
  have hor := Nat.two_pow_add_eq_or_of_lt hb (m % 2 ^ (64 - k))
  rw [Nat.mul_comm (m % 2 ^ (64 - k)) (2 ^ k), ← hor, Int.natCast_add, Nat.mul_comm (2 ^ k), ← ha]
  simp

theorem turn_cast (m k : Nat) : turnV (m : Int) k = ((m * 2 ^ k % 18446744073709551616 + m / 2 ^ (64 - k) : Nat) : Int) := by
  unfold turnV; simp

theorem turn_zero (x : Int) (h0 : 0 ≤ x) (h1 : x < 18446744073709551616) : turnV x 0 = x := by
  unfold turnV
  simp
  omega

/-- The word's parts: m = A * 2^(63 - k) + B. -/
theorem turn_parts (m k : Nat) (hm : m < 18446744073709551616) (hk : k < 64) :
    ∃ A C : Nat, A / 2 < 2 ^ k ∧ C + 2 ^ k ≤ 9223372036854775808 ∧ m * 2 ^ k % 18446744073709551616 + m / 2 ^ (64 - k) = A % 2 * 9223372036854775808 + C + A / 2 ∧
      m * 2 ^ (k + 1) % 18446744073709551616 + m / 2 ^ (64 - (k + 1)) = 2 * C + A := by
  obtain ⟨ha, hb⟩ := turn_nat m k hm (by omega)
  obtain ⟨ha', hb'⟩ := turn_nat m (k + 1) hm (by omega)
  obtain ⟨j, hj⟩ : ∃ j, 64 - (k + 1) = j := ⟨_, rfl⟩
  have hj1 : 64 - k = j + 1 := by omega
  have ej : 2 ^ j * 2 ^ k = 9223372036854775808 := by
    rw [← Nat.pow_add, show j + k = 63 by omega]
  have hq : m / 2 ^ (j + 1) = m / 2 ^ j / 2 := by rw [Nat.pow_succ, Nat.div_div_eq_div_mul]
  have hr : m % 2 ^ (j + 1) = m % 2 ^ j + 2 ^ j * (m / 2 ^ j % 2) := Nat.mod_pow_succ
  have hB : m % 2 ^ j < 2 ^ j := Nat.mod_lt _ (Nat.two_pow_pos _)
  refine ⟨m / 2 ^ j, m % 2 ^ j * 2 ^ k, ?_, ?_, ?_, ?_⟩
  · rw [← hq, ← hj1]; exact hb
  · have : (m % 2 ^ j + 1) * 2 ^ k ≤ 2 ^ j * 2 ^ k := Nat.mul_le_mul_right _ hB
    rw [ej, Nat.add_mul] at this
    omega
  · rw [ha, hj1, hr, hq, Nat.add_mul, Nat.mul_right_comm, ej]
    omega
  · rw [ha', hj, Nat.pow_succ, ← Nat.mul_assoc]
    omega

theorem turn_bd (x : Int) (k : Nat) (h0 : 0 ≤ x) (h1 : x < 18446744073709551616) (hk : k < 64) : 0 ≤ turnV x k ∧ turnV x k < 18446744073709551616 := by
  obtain ⟨m, rfl⟩ := Int.eq_ofNat_of_zero_le h0
  obtain ⟨A, C, hA, hC, e1, e2⟩ := turn_parts m k (by omega) hk
  rw [turn_cast, e1]
  generalize 2 ^ k = K at *
  omega

theorem turn_succ (x : Int) (k : Nat) (h0 : 0 ≤ x) (h1 : x < 18446744073709551616) (hk : k < 64) :
    IntKind.u64.wrap (IntKind.u64.wrap (turnV x k + turnV x k) + turnV x k / 9223372036854775808) = turnV x (k + 1) := by
  obtain ⟨m, rfl⟩ := Int.eq_ofNat_of_zero_le h0
  obtain ⟨A, C, hA, hC, e1, e2⟩ := turn_parts m k (by omega) hk
  rw [turn_cast, turn_cast, e1, e2, IntKind.wrap_u64, IntKind.wrap_u64]
  generalize 2 ^ k = K at *
  clear e1 e2
  have hT : ((A % 2 * 9223372036854775808 + C + A / 2 : Nat) : Int) / 9223372036854775808 = ((A % 2 : Nat) : Int) := by omega
  have hU : (((A % 2 * 9223372036854775808 + C + A / 2 : Nat) : Int) + ((A % 2 * 9223372036854775808 + C + A / 2 : Nat) : Int)) % 18446744073709551616 = ((2 * C + 2 * (A / 2) : Nat) : Int) := by omega
  rw [hT, hU]
  omega

/-- Turned and turned back. -/
theorem turn_back (x : Int) (k : Nat) (h0 : 0 ≤ x) (h1 : x < 18446744073709551616) (hk : k < 64) : turnV (turnV x k) ((64 - k) % 64) = x := by
  obtain ⟨m, rfl⟩ := Int.eq_ofNat_of_zero_le h0
  have hm : m < 18446744073709551616 := by omega
  by_cases hz : k = 0
  · subst hz
    rw [turn_zero _ h0 h1]
    exact turn_zero _ h0 h1
  · have e : (64 - k) % 64 = 64 - k := Nat.mod_eq_of_lt (by omega)
    obtain ⟨ha, hb⟩ := turn_nat m k hm (by omega)
    have hc : m % 2 ^ (64 - k) < 2 ^ (64 - k) := Nat.mod_lt _ (Nat.two_pow_pos _)
    have hdm := Nat.div_add_mod m (2 ^ (64 - k))
    have ep : 2 ^ k * 2 ^ (64 - k) = 18446744073709551616 := by
      rw [← Nat.pow_add]; rw [show k + (64 - k) = 64 by omega]
    rw [e, turn_cast, turn_cast, show 64 - (64 - k) = k by omega, ha]
    generalize m % 2 ^ (64 - k) = R at *
    generalize m / 2 ^ (64 - k) = Q at *
    have hd1 : (R * 2 ^ k + Q) / 2 ^ k = R := by
      rw [Nat.mul_comm, Nat.mul_add_div (Nat.two_pow_pos k), Nat.div_eq_of_lt hb]; rfl
    have hm1 : (R * 2 ^ k + Q) * 2 ^ (64 - k) % 18446744073709551616 = Q * 2 ^ (64 - k) := by
      have := Nat.mul_lt_mul_of_pos_right hb (Nat.two_pow_pos (64 - k))
      rw [ep] at this
      rw [Nat.add_mul, Nat.mul_assoc, ep, Nat.mul_add_mod', Nat.mod_eq_of_lt this]
    rw [hd1, hm1, Nat.mul_comm]
    omega

/-! ### a product modulo 2^64, bit by bit -/
def txV (x : Int) (i : Nat) : Int := x * 2 ^ i % 18446744073709551616
def tyV (y : Int) (i : Nat) : Int := y / 2 ^ i
def toV (x y : Int) (i : Nat) : Int := x * (y % 2 ^ i) % 18446744073709551616

theorem tx_bd (x : Int) (i : Nat) : 0 ≤ txV x i ∧ txV x i < 18446744073709551616 := by unfold txV; omega
theorem to_bd (x y : Int) (i : Nat) : 0 ≤ toV x y i ∧ toV x y i < 18446744073709551616 := by unfold toV; omega
theorem ty_bd (y : Int) (i : Nat) (h : 0 ≤ y) : 0 ≤ tyV y i := Int.ediv_nonneg h (Int.le_of_lt (two_pow_pos i))
theorem ty_le (y : Int) (i : Nat) (h : 0 ≤ y) (h1 : y ≤ 18446744073709551615) : tyV y i ≤ 18446744073709551615 := by
  have : tyV y i ≤ y := Int.ediv_le_self _ h
  omega
theorem tx_zero (x : Int) (h0 : 0 ≤ x) (h1 : x < 18446744073709551616) : txV x 0 = x := by unfold txV; simp; omega
theorem ty_zero (y : Int) : tyV y 0 = y := by unfold tyV; simp
theorem to_zero (x y : Int) : toV x y 0 = 0 := by unfold toV; simp [Int.emod_one]
theorem tx_succ (x : Int) (i : Nat) : IntKind.u64.wrap (txV x i + txV x i) = txV x (i + 1) := by
  rw [IntKind.wrap_u64]
  unfold txV
  rw [Int.pow_succ, ← Int.mul_assoc]
  generalize x * 2 ^ i = q
  omega
theorem ty_succ (y : Int) (i : Nat) : tyV y i / 2 = tyV y (i + 1) := div_pow_succ y i
theorem ymod (y : Int) (i : Nat) : y % 2 ^ (i + 1) = y % 2 ^ i + 2 ^ i * (y / 2 ^ i % 2) := by
  have hp := two_pow_pos i
  have e1 := Int.mul_ediv_add_emod y (2 ^ i)
  have e2 := Int.mul_ediv_add_emod (y / 2 ^ i) 2
  have e3 := Int.mul_ediv_add_emod y (2 ^ (i + 1))
  have e4 := div_pow_succ y i
  rw [e4] at e2
  rw [Int.pow_succ] at *
  have e5 : 2 ^ i * (2 * (y / (2 ^ i * 2)) + y / 2 ^ i % 2) = 2 ^ i * (y / 2 ^ i) := by rw [e2]
  rw [Int.mul_add, ← Int.mul_assoc] at e5
  omega
theorem to_odd (x y : Int) (i : Nat) (h : tyV y i % 2 = 1) : IntKind.u64.wrap (toV x y i + txV x i) = toV x y (i + 1) := by
  rw [IntKind.wrap_u64]
  unfold toV txV tyV at *
  rw [ymod, h, Int.mul_one, Int.mul_add, Int.emod_add_emod, Int.add_emod_emod]
theorem to_even (x y : Int) (i : Nat) (h : ¬ tyV y i % 2 = 1) : toV x y i = toV x y (i + 1) := by
  have h0 : y / 2 ^ i % 2 = 0 := by unfold tyV at h; omega
  unfold toV
  rw [ymod, h0, Int.mul_zero, Int.add_zero]
theorem to_end (x y : Int) (h0 : 0 ≤ y) (h1 : y < 18446744073709551616) : toV x y 64 = IntKind.u64.wrap (x * y) := by
  rw [IntKind.wrap_u64]
  unfold toV
  have e : (2 : Int) ^ 64 = 18446744073709551616 := by decide
  rw [e, Int.emod_eq_of_lt h0 h1]

/-! ### Mix -/
def fold33 (x : Int) : Int := bits .xor .u64 x (x / 8589934592)
def mixV (x : Int) : Int := fold33 (IntKind.u64.wrap (fold33 (IntKind.u64.wrap (fold33 x * 18397679294719823053)) * 14181476777654086739))

theorem fold_bd (x : Int) : 0 ≤ fold33 x ∧ fold33 x ≤ 18446744073709551615 := ⟨bits_lo_u64 _ _ _, bits_hi_u64 _ _ _⟩
theorem mix_bd (x : Int) : 0 ≤ mixV x ∧ mixV x ≤ 18446744073709551615 := fold_bd _

theorem fold_fold (x : Int) (h0 : 0 ≤ x) (h1 : x ≤ 18446744073709551615) : fold33 (fold33 x) = x := by
  obtain ⟨m, rfl⟩ := Int.eq_ofNat_of_zero_le h0
  have hm : m < 18446744073709551616 := by omega
  have e1 : fold33 (m : Int) = ((m ^^^ m / 8589934592 : Nat) : Int) := xorShift_u64 m 8589934592 hm
  have hlt : m ^^^ m / 8589934592 < 18446744073709551616 := Nat.xor_lt_two_pow (n := 64) hm (Nat.lt_of_le_of_lt (Nat.div_le_self _ _) hm)
  have e2 : fold33 ((m ^^^ m / 8589934592 : Nat) : Int) = (((m ^^^ m / 8589934592) ^^^ (m ^^^ m / 8589934592) / 8589934592 : Nat) : Int) := xorShift_u64 _ 8589934592 hlt
  rw [e1, e2]
  have e3 : (m ^^^ m / 8589934592) / 8589934592 = m / 8589934592 ^^^ m / 8589934592 / 8589934592 := by
    have hs : ∀ a : Nat, a / 8589934592 = a >>> 33 := fun a => (Nat.shiftRight_eq_div_pow a 33).symm
    rw [hs, hs, hs, Nat.shiftRight_xor_distrib]
  have e4 : m / 8589934592 / 8589934592 = 0 := by omega
  rw [e3, e4, Nat.xor_zero, Nat.xor_assoc, Nat.xor_self, Nat.xor_zero]

theorem mul_back (x c d : Int) (h0 : 0 ≤ x) (h1 : x ≤ 18446744073709551615) (hcd : c * d % 18446744073709551616 = 1) : IntKind.u64.wrap (IntKind.u64.wrap (x * c) * d) = x := by
  rw [IntKind.wrap_u64, IntKind.wrap_u64, Int.mul_emod, Int.emod_emod_of_dvd _ (Int.dvd_refl _), ← Int.mul_emod, Int.mul_assoc, Int.mul_emod, hcd, Int.mul_one, Int.emod_emod_of_dvd _ (Int.dvd_refl _)]
  exact Int.emod_eq_of_lt h0 (by omega)

theorem wrap_bd (x : Int) : 0 ≤ IntKind.u64.wrap x ∧ IntKind.u64.wrap x ≤ 18446744073709551615 := by rw [IntKind.wrap_u64]; omega

/-- What undoes Mix. -/
def unmixV (x : Int) : Int := fold33 (IntKind.u64.wrap (fold33 (IntKind.u64.wrap (fold33 x * 11291846944257947611)) * 5725274745694666757))

theorem unmix_mix (x : Int) (h0 : 0 ≤ x) (h1 : x ≤ 18446744073709551615) : unmixV (mixV x) = x := by
  unfold unmixV mixV
  rw [fold_fold _ (wrap_bd _).1 (wrap_bd _).2, mul_back _ _ _ (fold_bd _).1 (fold_bd _).2 (by decide), fold_fold _ (wrap_bd _).1 (wrap_bd _).2, mul_back _ _ _ (fold_bd _).1 (fold_bd _).2 (by decide), fold_fold _ h0 h1]

theorem mix_inj (x y : Int) (hx0 : 0 ≤ x) (hx1 : x ≤ 18446744073709551615) (hy0 : 0 ≤ y) (hy1 : y ≤ 18446744073709551615) : (mixV x == mixV y) = (x == y) := by
  by_cases h : x = y
  · subst h; simp
  · have hn : ¬ mixV x = mixV y := fun e => h (by rw [← unmix_mix x hx0 hx1, ← unmix_mix y hy0 hy1, e])
    rw [beq_eq_false_iff_ne.2 h, beq_eq_false_iff_ne.2 hn]

/-! ### bounds of the argument kinds -/
theorem bd_i64 (x : Int) (h : (Lit.int .i64 x).wf = true) : -9223372036854775808 ≤ x ∧ x ≤ 9223372036854775807 := by
  simpa [Lit.wf, IntKind.min, IntKind.max, IntKind.signed, IntKind.bits] using h
theorem bd_u64 (x : Int) (h : (Lit.int .u64 x).wf = true) : 0 ≤ x ∧ x ≤ 18446744073709551615 := by
  simpa [Lit.wf, IntKind.min, IntKind.max, IntKind.signed, IntKind.bits] using h

/-! ### what Go's '%' leaves -/
theorem tmod_neg (x m : Int) (hm : 0 < m) (hx : x < 0) (hne : ¬ x % m = 0) : x.tmod m = x % m - m := by
  have e : x % m = x.tmod m + ((if 0 ≤ x ∨ m ∣ x then 0 else m.natAbs : Nat) : Int) := Int.emod_eq_tmod
  rw [if_neg (by
    intro hh
    rcases hh with hh | hh
    · omega
    · exact hne (Int.emod_eq_zero_of_dvd hh))] at e
  omega
theorem tmod_same (x m : Int) (hx : 0 ≤ x ∨ x % m = 0) : x.tmod m = x % m := by
  rcases hx with hx | hx
  · exact Int.tmod_eq_emod_of_nonneg hx
  · rw [Int.tmod_eq_zero_of_dvd (Int.dvd_of_emod_eq_zero hx), hx]
/-- Of Go's remainder: below 0, it is a modulus too small; else it is the plain one. -/
theorem tmod_low (x m : Int) (hm : 0 < m) (h : x.tmod m < 0) : x < 0 ∧ ¬ x % m = 0 ∧ x.tmod m = x % m - m := by
  have hb := Int.emod_nonneg x (show m ≠ 0 by omega)
  have hx : x < 0 := by
    rcases Int.lt_or_le x 0 with h' | h'
    · exact h'
    · rw [tmod_same x m (.inl h')] at h; omega
  have hne : ¬ x % m = 0 := fun e => by rw [tmod_same x m (.inr e)] at h; omega
  exact ⟨hx, hne, tmod_neg x m hm hx hne⟩
theorem tmod_high (x m : Int) (hm : 0 < m) (h : 0 ≤ x.tmod m) : x.tmod m = x % m := by
  have hb := Int.emod_lt_of_pos x hm
  rcases Int.lt_or_le x 0 with h' | h'
  · by_cases hne : x % m = 0
    · exact tmod_same x m (.inr hne)
    · rw [tmod_neg x m hm h' hne] at h; omega
  · exact tmod_same x m (.inl h')

/-! ### Stamp, Done, Head -/
theorem stamp_neg (x : Int) (h0 : -9223372036854775808 ≤ x) (h1 : x ≤ 9223372036854775807) (h : x.tmod 2 < 0) : wrap64 ((wrap64 (x - 1)).tdiv 2) = x / 2 := by
  obtain ⟨hx, hne, _⟩ := tmod_low x 2 (by decide) h
  have e1 : wrap64 (x - 1) = 2 * (x / 2) := by unfold wrap64; omega
  rw [e1, Int.mul_tdiv_cancel_left _ (by decide)]
  unfold wrap64
  omega

theorem stamp_pos (x : Int) (h0 : -9223372036854775808 ≤ x) (h1 : x ≤ 9223372036854775807) (h : 0 ≤ x.tmod 2) : wrap64 ((wrap64 (x - x.tmod 2)).tdiv 2) = x / 2 := by
  rw [tmod_high x 2 (by decide) h]
  have e1 : wrap64 (x - x % 2) = 2 * (x / 2) := by unfold wrap64; omega
  rw [e1, Int.mul_tdiv_cancel_left _ (by decide)]
  unfold wrap64
  omega

theorem done_eq (x : Int) : (x.tmod 2 != 0) = (x % 2 == 1) := by
  by_cases h : x % 2 = 0
  · have := Int.tmod_eq_zero_of_dvd (Int.dvd_of_emod_eq_zero h)
    simp [this, h]
  · have hn : ¬ x.tmod 2 = 0 := fun e => h (Int.emod_eq_zero_of_dvd (Int.dvd_of_tmod_eq_zero e))
    have h1 : x % 2 = 1 := by omega
    simp [hn, h1]

/-- A head word. -/
def headV (x : Int) (d : Bool) : Int := wrap64 (x * 2 + if d then 1 else 0)
theorem head_dbl (x : Int) : wrap64 (x + x) = wrap64 (x * 2) := by rw [show x + x = x * 2 by omega]
theorem head_one (x : Int) : wrap64 (wrap64 (x + x) + 1) = wrap64 (x * 2 + 1) := by unfold wrap64; omega

/-! ### shifts -/
def shlV (x : Int) (k : Nat) : Int := wrap64 (x * 2 ^ k)
theorem shl_zero (x : Int) (h0 : -9223372036854775808 ≤ x) (h1 : x ≤ 9223372036854775807) : shlV x 0 = x := by unfold shlV wrap64; simp; omega
theorem shl_succ (x : Int) (k : Nat) : wrap64 (shlV x k + shlV x k) = shlV x (k + 1) := by
  unfold shlV
  rw [Int.pow_succ, ← Int.mul_assoc]
  generalize x * 2 ^ k = q
  unfold wrap64
  omega
def shrV (x : Int) (k : Nat) : Int := x / 2 ^ k
theorem shr_zero (x : Int) : shrV x 0 = x := by unfold shrV; simp
theorem shr_succ (x : Int) (k : Nat) : shrV x k / 2 = shrV x (k + 1) := div_pow_succ x k
theorem shr_bd (x : Int) (k : Nat) (h0 : -9223372036854775808 ≤ x) (h1 : x ≤ 9223372036854775807) : -9223372036854775808 ≤ shrV x k ∧ shrV x k ≤ 9223372036854775807 := by
  have hp := two_pow_pos k
  unfold shrV
  constructor
  · apply Int.le_ediv_of_mul_le hp
    have : (-9223372036854775808 : Int) * 2 ^ k ≤ -9223372036854775808 * 1 := Int.mul_le_mul_of_nonpos_left (by omega) (by omega)
    omega
  · rcases Int.lt_or_le x 0 with h | h
    · have := Int.ediv_neg_of_neg_of_pos h hp
      omega
    · have := Int.ediv_le_self (2 ^ k) h
      omega
theorem shr_lo (x : Int) (k : Nat) (h0 : 0 ≤ x) : 0 ≤ shrV x k := Int.ediv_nonneg h0 (Int.le_of_lt (two_pow_pos k))
theorem shr_hi (x : Int) (k : Nat) (h0 : 0 ≤ x) (h1 : x ≤ 18446744073709551615) : shrV x k ≤ 18446744073709551615 := by
  have : shrV x k ≤ x := Int.ediv_le_self _ h0
  omega
end Go.Proofs.YtbjopdmchmekpaaDoor
