/- Signatures as lists of eight words of 64 bits, their bits, unions, meets and lists of bits: numbers alone, nothing of the program. -/
import Derived.WalkKit
import Derived.Laws.Bits64
import Derived.Laws.Bits64b
namespace Go.Proofs.Ytbmmicfdnfpcaaa.Sg
open Go.RowKit (wrap64)

/-- Eight words. -/
def Ok (s : List Nat) : Prop := s.length = 8 ∧ ∀ i, s.getD i 0 < 18446744073709551616
def bit (s : List Nat) (k : Nat) : Bool := (s.getD (k / 64) 0).testBit (k % 64)
def put (s : List Nat) (k : Nat) : List Nat := s.set (k / 64) (s.getD (k / 64) 0 ||| 2 ^ (k % 64))
def nought : List Nat := [0, 0, 0, 0, 0, 0, 0, 0]
def uni (a b : List Nat) : List Nat := List.zipWith (· ||| ·) a b
def meet (a b : List Nat) : List Nat := List.zipWith (· &&& ·) a b
def bitsOf (s : List Nat) : List Nat := (List.range 512).filter (bit s)

theorem two64 : (18446744073709551616 : Nat) = 2 ^ 64 := by decide
theorem pow_lt64 (j : Nat) (h : j < 64) : 2 ^ j < 18446744073709551616 := by rw [two64]; exact Nat.pow_lt_pow_right (by decide) h
theorem or_lt64 (x y : Nat) (hx : x < 18446744073709551616) (hy : y < 18446744073709551616) : x ||| y < 18446744073709551616 := by
  rw [two64] at *; exact Nat.or_lt_two_pow hx hy
theorem and_lt64 (x y : Nat) (hx : x < 18446744073709551616) : x &&& y < 18446744073709551616 := Nat.lt_of_le_of_lt Nat.and_le_left hx

theorem getD_set (s : List Nat) (i j v : Nat) (h : i < s.length) : (s.set i v).getD j 0 = if i = j then v else s.getD j 0 := by
  simp only [List.getD_eq_getElem?_getD, List.getElem?_set]
  split
  · next e => subst e; rfl
  · rfl

theorem ok_len {s : List Nat} (h : Ok s) : s.length = 8 := h.1
theorem ok_nought : Ok nought := ⟨rfl, fun i => by
  unfold nought
  rcases i with _ | _ | _ | _ | _ | _ | _ | _ | i <;> simp⟩
theorem ok_put {s : List Nat} (h : Ok s) (k : Nat) (hk : k < 512) : Ok (put s k) := by
  refine ⟨by simp [put, h.1], fun i => ?_⟩
  unfold put
  rw [getD_set _ _ _ _ (by rw [h.1]; omega)]
  split
  · exact or_lt64 _ _ (h.2 _) (pow_lt64 _ (by omega))
  · exact h.2 i
theorem bit_put {s : List Nat} (h : Ok s) (k j : Nat) (hk : k < 512) : bit (put s k) j = (bit s j || decide (j = k)) := by
  unfold bit put
  rw [getD_set _ _ _ _ (by rw [h.1]; omega)]
  split
  · next e =>
    rw [Nat.testBit_or, Nat.testBit_two_pow, e]
    congr 1
    apply decide_eq_decide.2
    omega
  · next e =>
    have : ¬ j = k := fun e' => e (by rw [e'])
    simp [this]
theorem bit_nought (j : Nat) : bit nought j = false := by
  unfold bit
  have : nought.getD (j / 64) 0 = 0 := by
    unfold nought
    rcases j / 64 with _ | _ | _ | _ | _ | _ | _ | _ | i <;> simp
  rw [this]
  simp

theorem getD_zip (f : Nat → Nat → Nat) (f0 : f 0 0 = 0) (a b : List Nat) (h : a.length = b.length) (i : Nat) : (List.zipWith f a b).getD i 0 = f (a.getD i 0) (b.getD i 0) := by
  simp only [List.getD_eq_getElem?_getD, List.getElem?_zipWith]
  by_cases hi : i < a.length
  · have hi' : i < b.length := by omega
    simp [hi, hi']
  · have e1 : a[i]? = none := List.getElem?_eq_none (by omega)
    have e2 : b[i]? = none := List.getElem?_eq_none (by omega)
    simp [e1, e2, f0]

theorem ok_uni {a b : List Nat} (ha : Ok a) (hb : Ok b) : Ok (uni a b) := by
  refine ⟨by simp [uni, ha.1, hb.1], fun i => ?_⟩
  unfold uni
  rw [getD_zip _ rfl _ _ (by rw [ha.1, hb.1])]
  exact or_lt64 _ _ (ha.2 i) (hb.2 i)
theorem ok_meet {a b : List Nat} (ha : Ok a) (hb : Ok b) : Ok (meet a b) := by
  refine ⟨by simp [meet, ha.1, hb.1], fun i => ?_⟩
  unfold meet
  rw [getD_zip _ rfl _ _ (by rw [ha.1, hb.1])]
  exact and_lt64 _ _ (ha.2 i)
theorem bit_uni {a b : List Nat} (ha : Ok a) (hb : Ok b) (j : Nat) : bit (uni a b) j = (bit a j || bit b j) := by
  unfold bit uni
  rw [getD_zip _ rfl _ _ (by rw [ha.1, hb.1]), Nat.testBit_or]
theorem bit_meet {a b : List Nat} (ha : Ok a) (hb : Ok b) (j : Nat) : bit (meet a b) j = (bit a j && bit b j) := by
  unfold bit meet
  rw [getD_zip _ rfl _ _ (by rw [ha.1, hb.1]), Nat.testBit_and]

/-- Two are the same if they have the same bits. -/
theorem sig_ext {a b : List Nat} (ha : Ok a) (hb : Ok b) (h : ∀ k, k < 512 → bit a k = bit b k) : a = b := by
  apply List.ext_getElem (by rw [ha.1, hb.1])
  intro i h1 h2
  have e1 : a[i] = a.getD i 0 := by simp [h1]
  have e2 : b[i] = b.getD i 0 := by simp [h2]
  rw [e1, e2]
  have hi : i < 8 := by rw [← ha.1]; exact h1
  apply Nat.eq_of_testBit_eq
  intro j
  by_cases hj : j < 64
  · have hk := h (64 * i + j) (by omega)
    unfold bit at hk
    rw [show (64 * i + j) / 64 = i by omega, show (64 * i + j) % 64 = j by omega] at hk
    exact hk
  · have hp : 18446744073709551616 ≤ 2 ^ j := by rw [two64]; exact Nat.pow_le_pow_right (by decide) (by omega)
    rw [Nat.testBit_lt_two_pow (Nat.lt_of_lt_of_le (ha.2 i) hp), Nat.testBit_lt_two_pow (Nat.lt_of_lt_of_le (hb.2 i) hp)]

/-- A bit that is not there, added, is a bit put in. -/
theorem add_bit (x j : Nat) (h : x.testBit j = false) : x + 2 ^ j = x ||| 2 ^ j := by
  have h1 : x = 2 ^ (j + 1) * (x / 2 ^ (j + 1)) + x % 2 ^ j := by
    have e1 := Nat.div_add_mod x (2 ^ (j + 1))
    have e2 : x % 2 ^ (j + 1) = x % 2 ^ j + 2 ^ j * (x / 2 ^ j % 2) := Nat.mod_pow_succ
    have e3 : x / 2 ^ j % 2 = 0 := by
      rw [Nat.testBit_eq_decide_div_mod_eq] at h
      have := of_decide_eq_false h
      omega
    rw [e3] at e2
    omega
  have hlt : x % 2 ^ j < 2 ^ j := Nat.mod_lt _ (Nat.two_pow_pos _)
  generalize x / 2 ^ (j + 1) = q at *
  generalize x % 2 ^ j = r at *
  have hsum : 2 ^ j + r < 2 ^ (j + 1) := by rw [Nat.pow_succ]; omega
  have hr : 2 ^ j + r = 2 ^ j ||| r := by
    have := Nat.two_pow_add_eq_or_of_lt hlt 1
    simpa using this
  subst h1
  rw [Nat.add_assoc, Nat.add_comm r, Nat.two_pow_add_eq_or_of_lt hsum, Nat.two_pow_add_eq_or_of_lt (show r < 2 ^ (j + 1) by omega), hr, Nat.or_assoc, Nat.or_comm r]

theorem put_had {s : List Nat} (hs : Ok s) (k : Nat) (hk : k < 512) (h : bit s k = true) : put s k = s := by
  refine sig_ext (ok_put hs k hk) hs fun j _ => ?_
  rw [bit_put hs _ _ hk]
  by_cases e : j = k
  · subst e; simp [h]
  · simp [e]

/-- A bit of a word, as the document asks it. -/
theorem bit_div (x j : Nat) : ((x / 2 ^ j) % 2 == 1) = x.testBit j := by
  rw [Nat.testBit_eq_decide_div_mod_eq]
  by_cases h : x / 2 ^ j % 2 = 1 <;> simp [h]

/-- A bit of a word, as the program asks it. -/
theorem and_pow (x j : Nat) : x &&& 2 ^ j = if x.testBit j then 2 ^ j else 0 := by
  apply Nat.eq_of_testBit_eq
  intro i
  rw [Nat.testBit_and, Nat.testBit_two_pow]
  by_cases e : j = i
  · subst e
    cases x.testBit j <;> simp
  · cases x.testBit j <;> simp [e]
theorem bit_and (x j : Nat) : (x &&& 2 ^ j != 0) = x.testBit j := by
  rw [and_pow]
  have := Nat.two_pow_pos j
  have : (2 ^ j != 0) = true := by simp
  cases x.testBit j <;> simp

/-! ### the lowest bit of a word -/
theorem low_form (x : Nat) (h : x ≠ 0) : ∃ t m, x = 2 ^ t * (2 * m + 1) := by
  induction x using Nat.strongRecOn with
  | _ x ih =>
    by_cases e : x % 2 = 1
    · exact ⟨0, x / 2, by omega⟩
    · obtain ⟨t, m, hm⟩ := ih (x / 2) (by omega) (by omega)
      refine ⟨t + 1, m, ?_⟩
      rw [Nat.pow_succ, Nat.mul_right_comm, ← hm]
      omega

theorem low_lt (x t m : Nat) (h : x = 2 ^ t * (2 * m + 1)) (hx : x < 18446744073709551616) : t < 64 := by
  by_cases ht : t < 64
  · exact ht
  · exfalso
    have : 2 ^ 64 ≤ 2 ^ t := Nat.pow_le_pow_right (by decide) (by omega)
    have h2 : 2 ^ t * 1 ≤ 2 ^ t * (2 * m + 1) := Nat.mul_le_mul_left _ (by omega)
    omega

theorem low_bits (t m j : Nat) : (2 ^ t * (2 * m + 1)).testBit j = (decide (j = t) || (2 ^ t * (2 * m)).testBit j) := by
  have e1 : 2 ^ t * (2 * m + 1) = 2 ^ (t + 1) * m + 2 ^ t := by rw [Nat.pow_succ, Nat.mul_add, Nat.mul_one, Nat.mul_assoc]
  have e2 : 2 ^ t * (2 * m) = 2 ^ (t + 1) * m := by rw [Nat.pow_succ, Nat.mul_assoc]
  rw [e1, e2, Nat.two_pow_add_eq_or_of_lt (Nat.pow_lt_pow_right (by decide) (by omega)), Nat.testBit_or, Nat.testBit_two_pow, Bool.or_comm]
  congr 1
  apply decide_eq_decide.2
  exact eq_comm

/-- The lowest bit taken away. -/
theorem low_off (t m : Nat) : (2 ^ t * (2 * m + 1)) &&& (2 ^ t * (2 * m + 1) - 1) = 2 ^ t * (2 * m) := by
  have e2 : 2 ^ t * (2 * m) = 2 ^ (t + 1) * m := by rw [Nat.pow_succ, Nat.mul_assoc]
  have e3 : 2 ^ t * (2 * m + 1) - 1 = 2 ^ (t + 1) * m + (2 ^ t - 1) := by
    have := Nat.two_pow_pos t
    rw [Nat.mul_add, Nat.mul_one, e2]; omega
  apply Nat.eq_of_testBit_eq
  intro j
  have hlt : 2 ^ t - 1 < 2 ^ (t + 1) := by have := Nat.two_pow_pos t; rw [Nat.pow_succ]; omega
  rw [Nat.testBit_and, low_bits, e3, Nat.two_pow_add_eq_or_of_lt hlt, Nat.testBit_or, e2, Nat.testBit_two_pow_sub_one]
  by_cases h : j = t
  · subst h
    simp [Nat.testBit_two_pow_mul]
  · by_cases hj : j < t
    · have : (2 ^ (t + 1) * m).testBit j = false := by
        rw [Nat.testBit_two_pow_mul]
        have : ¬ (t + 1 ≤ j) := by omega
        simp [this]
      simp [this, h]
    · simp [h, hj]

/-- The lowest bit alone. -/
theorem low_one (t m : Nat) (ht : t < 64) (hx : 2 ^ t * (2 * m + 1) < 18446744073709551616) : (2 ^ t * (2 * m + 1)) &&& (18446744073709551616 - 2 ^ t * (2 * m + 1)) = 2 ^ t := by
  obtain ⟨q, hq⟩ : ∃ q, 18446744073709551616 = 2 ^ t * (2 * q) := by
    refine ⟨2 ^ (63 - t), ?_⟩
    have : 2 ^ t * (2 * 2 ^ (63 - t)) = 2 ^ (t + (63 - t) + 1) := by
      rw [Nat.pow_succ, Nat.pow_add, Nat.mul_comm 2, Nat.mul_assoc]
    rw [this, two64]
    congr 1
    omega
  have hmq : 2 * m + 1 < 2 * q := by
    rw [hq] at hx
    exact Nat.lt_of_mul_lt_mul_left hx
  have e1 : 18446744073709551616 - 2 ^ t * (2 * m + 1) = 2 ^ t * (2 * (q - m - 1) + 1) := by
    rw [hq, ← Nat.mul_sub]
    congr 1
    omega
  rw [e1]
  apply Nat.eq_of_testBit_eq
  intro j
  rw [Nat.testBit_and, low_bits, low_bits, Nat.testBit_two_pow]
  have e2 : ∀ m, 2 ^ t * (2 * m) = 2 ^ (t + 1) * m := fun m => by rw [Nat.pow_succ, Nat.mul_assoc]
  by_cases h : j = t
  · subst h; simp
  · have h' : ¬ t = j := fun e => h e.symm
    simp only [h, h', decide_false, Bool.false_or]
    rw [e2, e2, Nat.testBit_two_pow_mul, Nat.testBit_two_pow_mul]
    by_cases hj : t + 1 ≤ j
    · simp only [hj, decide_true, Bool.true_and]
      -- m and q - m - 1 share no bit below the width, and none above
      have hqp : ∃ p, q = 2 ^ p := by
        refine ⟨63 - t, ?_⟩
        have : 2 ^ t * (2 * q) = 2 ^ t * (2 * 2 ^ (63 - t)) := by
          rw [← hq]
          have : 2 ^ t * (2 * 2 ^ (63 - t)) = 2 ^ (t + (63 - t) + 1) := by
            rw [Nat.pow_succ, Nat.pow_add, Nat.mul_comm 2, Nat.mul_assoc]
          rw [this, two64]
          congr 1
          omega
        have h2 := Nat.eq_of_mul_eq_mul_left (Nat.two_pow_pos t) this
        omega
      obtain ⟨p, rfl⟩ := hqp
      rw [show 2 ^ p - m - 1 = 2 ^ p - (m + 1) by omega, Nat.testBit_two_pow_sub_succ (by omega)]
      cases m.testBit (j - (t + 1)) <;> simp
    · simp [hj]

/-! ### lists of bits -/
def wordBits (i x : Nat) : List Nat := ((List.range 64).filter x.testBit).map (64 * i + ·)

theorem filter_split (p q : Nat → Bool) (n t : Nat) (ht : t < n) (hp : ∀ j, p j = (decide (j = t) || q j)) (hq : ∀ j, j ≤ t → q j = false) : (List.range n).filter p = t :: (List.range n).filter q := by
  obtain ⟨k, rfl⟩ : ∃ k, n = t + 1 + k := ⟨n - (t + 1), by omega⟩
  rw [List.range_eq_range', ← List.range'_append_1 (s := 0) (m := t + 1) (n := k), ← List.range'_append_1 (s := 0) (m := t) (n := 1)]
  simp only [List.filter_append, Nat.zero_add]
  have h1 : (List.range' 0 t).filter p = [] := by
    rw [List.filter_eq_nil_iff]
    intro j hj
    have := List.mem_range'_1.1 hj
    have hq' := hq j (by omega)
    rw [hp, hq']
    simp; omega
  have h2 : (List.range' 0 t).filter q = [] := by
    rw [List.filter_eq_nil_iff]
    intro j hj
    have := List.mem_range'_1.1 hj
    have hq' := hq j (by omega)
    simp [hq']
  have h3 : (List.range' t 1).filter p = [t] := by
    simp [hp]
  have h4 : (List.range' t 1).filter q = [] := by
    have := hq t (Nat.le_refl _)
    simp [this]
  rw [h1, h2, h3, h4]
  simp only [List.nil_append, List.cons_append]
  congr 1
  apply List.filter_congr
  intro j hj
  have := List.mem_range'_1.1 hj
  have hne : ¬ j = t := by omega
  simp [hp, hne]

theorem wordBits_zero (i : Nat) : wordBits i 0 = [] := by unfold wordBits; simp
theorem wordBits_low (i t m : Nat) (ht : t < 64) : wordBits i (2 ^ t * (2 * m + 1)) = (64 * i + t) :: wordBits i (2 ^ t * (2 * m)) := by
  unfold wordBits
  rw [filter_split _ (2 ^ t * (2 * m)).testBit 64 t ht (low_bits t m) (fun j hj => by
    have e2 : 2 ^ t * (2 * m) = 2 ^ (t + 1) * m := by rw [Nat.pow_succ, Nat.mul_assoc]
    rw [e2, Nat.testBit_two_pow_mul]
    have : ¬ (t + 1 ≤ j) := by omega
    simp [this])]
  rfl

/-- The bits of the first i words. -/
def bitsTo (s : List Nat) (i : Nat) : List Nat := (List.range (64 * i)).filter (bit s)
theorem bitsTo_zero (s : List Nat) : bitsTo s 0 = [] := rfl
theorem bitsTo_eight (s : List Nat) : bitsTo s 8 = bitsOf s := rfl
theorem bitsTo_succ (s : List Nat) (i : Nat) : bitsTo s (i + 1) = bitsTo s i ++ wordBits i (s.getD i 0) := by
  unfold bitsTo wordBits
  rw [show 64 * (i + 1) = 64 * i + 64 by omega, List.range_add, List.filter_append, List.filter_map]
  congr 2
  apply List.filter_congr
  intro j hj
  have := List.mem_range.1 hj
  show bit s (64 * i + j) = _
  unfold bit
  rw [show (64 * i + j) / 64 = i by omega, show (64 * i + j) % 64 = j by omega]

theorem bitsOf_len (s : List Nat) : (bitsOf s).length ≤ 512 := by
  unfold bitsOf
  exact Nat.le_trans (List.length_filter_le _ _) (by simp)
theorem bitsOf_empty {s : List Nat} (hs : Ok s) : ((bitsOf s).length == 0) = (s == nought) := by
  rw [Bool.eq_iff_iff]
  simp only [beq_iff_eq]
  constructor
  · intro h
    have h' := List.length_eq_zero_iff.1 h
    refine sig_ext hs ok_nought fun k hk => ?_
    rw [bit_nought]
    unfold bitsOf at h'
    rw [List.filter_eq_nil_iff] at h'
    have := h' k (List.mem_range.2 hk)
    simpa using this
  · intro h
    subst h
    rw [List.length_eq_zero_iff]
    unfold bitsOf
    rw [List.filter_eq_nil_iff]
    intro k _
    simp [bit_nought]
end Go.Proofs.Ytbmmicfdnfpcaaa.Sg