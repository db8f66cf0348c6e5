/- The laws of sets of bits, how many bits two have, and that a signature's text is read as that signature. -/
import Derived.Test.YthenkidhcfholabDoorSigN
namespace Go.Proofs.YthenkidhcfholabDoor
open Go.RowKit (wrap64)

theorem uni_comm {a b : List Nat} (ha : Ok a) (hb : Ok b) : uni a b = uni b a :=
  sig_ext (ok_uni ha hb) (ok_uni hb ha) fun k _ => by rw [bit_uni ha hb, bit_uni hb ha, Bool.or_comm]
theorem meet_comm {a b : List Nat} (ha : Ok a) (hb : Ok b) : meet a b = meet b a :=
  sig_ext (ok_meet ha hb) (ok_meet hb ha) fun k _ => by rw [bit_meet ha hb, bit_meet hb ha, Bool.and_comm]
theorem meet_self {a : List Nat} (ha : Ok a) : meet a a = a :=
  sig_ext (ok_meet ha ha) ha fun k _ => by rw [bit_meet ha ha, Bool.and_self]
theorem meet_uni {a b c : List Nat} (ha : Ok a) (hb : Ok b) (hc : Ok c) : meet c (uni a b) = uni (meet c a) (meet c b) :=
  sig_ext (ok_meet hc (ok_uni ha hb)) (ok_uni (ok_meet hc ha) (ok_meet hc hb)) fun k _ => by
    rw [bit_meet hc (ok_uni ha hb), bit_uni ha hb, bit_uni (ok_meet hc ha) (ok_meet hc hb), bit_meet hc ha, bit_meet hc hb, Bool.and_or_distrib_left]
theorem empty_iff {a : List Nat} (ha : Ok a) : (a == nought) = true ↔ ∀ k, k < 512 → bit a k = false := by
  rw [beq_iff_eq]
  constructor
  · intro h; subst h; intro k _; exact bit_nought k
  · intro h; exact sig_ext ha ok_nought fun k hk => by rw [h k hk, bit_nought]
theorem uni_empty {a b : List Nat} (ha : Ok a) (hb : Ok b) : (uni a b == nought) = ((a == nought) && (b == nought)) := by
  rw [Bool.eq_iff_iff, Bool.and_eq_true, empty_iff (ok_uni ha hb), empty_iff ha, empty_iff hb]
  constructor
  · intro h
    refine ⟨fun k hk => ?_, fun k hk => ?_⟩
    · have := h k hk; rw [bit_uni ha hb, Bool.or_eq_false_iff] at this; exact this.1
    · have := h k hk; rw [bit_uni ha hb, Bool.or_eq_false_iff] at this; exact this.2
  · rintro ⟨h1, h2⟩ k hk
    rw [bit_uni ha hb, h1 k hk, h2 k hk]
    rfl
theorem meets_uni {a b c : List Nat} (ha : Ok a) (hb : Ok b) (hc : Ok c) : (!(meet c (uni a b) == nought)) = ((!(meet c a == nought)) || (!(meet c b == nought))) := by
  rw [meet_uni ha hb hc, uni_empty (ok_meet hc ha) (ok_meet hc hb), Bool.not_and]

theorem count_split (l : List Nat) (p q r t : Nat → Bool) (hr : ∀ k ∈ l, r k = (p k && q k)) (ht : ∀ k ∈ l, t k = (p k || q k)) : (l.filter p).length + (l.filter q).length = (l.filter r).length + (l.filter t).length := by
  induction l with
  | nil => rfl
  | cons x l ih =>
    have ih' := ih (fun k hk => hr k (by simp [hk])) (fun k hk => ht k (by simp [hk]))
    have h1 := hr x (by simp)
    have h2 := ht x (by simp)
    simp only [List.filter_cons, h1, h2]
    cases p x <;> cases q x <;> simp <;> omega
theorem bits_count {a b : List Nat} (ha : Ok a) (hb : Ok b) : (bitsOf a).length + (bitsOf b).length = (bitsOf (meet a b)).length + (bitsOf (uni a b)).length :=
  count_split _ _ _ _ _ (fun k _ => bit_meet ha hb k) (fun k _ => bit_uni ha hb k)

/-! ### a text that was made is read -/
theorem text_size (a : List Nat) : (strOfNums (textOf a)).size = 128 := by rw [strOfNums_size]; exact textTo_len _ 8
theorem hexV_lt (x k : Nat) : hexV x k < 256 := by
  unfold hexV hexd
  have : x / 16 ^ (15 - k) % 16 < 16 := Nat.mod_lt _ (by decide)
  split <;> omega
theorem text_get (a : List Nat) (i q r : Nat) (hq : q < i) (hr : r < 16) : (textTo a i)[16 * q + r]? = some (hexV (a.getD q 0) r : Int) := by
  induction i with
  | zero => omega
  | succ i ih =>
    rw [textTo_succ]
    by_cases h : q < i
    · rw [List.getElem?_append_left (by rw [textTo_len]; omega)]
      exact ih h
    · have e : q = i := by omega
      subst e
      rw [List.getElem?_append_right (by rw [textTo_len]; omega), textTo_len, show 16 * q + r - 16 * q = r by omega]
      simp [wordHex, hr]
theorem dig_text (a : List Nat) (i : Nat) (hi : i < 128) : dig (strOfNums (textOf a)) i = hexV (a.getD (i / 16) 0) (i % 16) := by
  have h := text_get a 8 (i / 16) (i % 16) (by omega) (by omega)
  rw [show 16 * (i / 16) + i % 16 = i by omega] at h
  unfold dig
  rw [getElem?_pos _ i (by rw [text_size]; exact hi)]
  have e : (strOfNums (textOf a))[i]'(by rw [text_size]; exact hi) = UInt8.ofNat (hexV (a.getD (i / 16) 0) (i % 16)) := by
    show (strOfNums (textOf a)).data[i]'_ = _
    have h2 : (strOfNums (textOf a)).data[i]? = some (UInt8.ofNat (hexV (a.getD (i / 16) 0) (i % 16))) := by
      unfold strOfNums textOf
      simp only [List.getElem?_toArray, List.getElem?_map, h]
      simp
    rw [Array.getElem?_eq_getElem (by have := text_size a; exact (show i < (strOfNums (textOf a)).size by omega))] at h2
    exact Option.some.inj h2
  rw [e]
  have := hexV_lt (a.getD (i / 16) 0) (i % 16)
  generalize hexV (a.getD (i / 16) 0) (i % 16) = v at *
  simp
  omega
theorem dv_text (a : List Nat) (i : Nat) (hi : i < 128) : dv (dig (strOfNums (textOf a)) i) = some (a.getD (i / 16) 0 / 16 ^ (15 - i % 16) % 16) := by
  rw [dig_text a i hi]
  exact dv_hexd _ (Nat.mod_lt _ (by decide))

/-- The words while they are read. -/
def readW (x n : Nat) : Nat := x / 16 ^ (16 - n)
theorem readW_zero (x : Nat) (h : x < 18446744073709551616) : readW x 0 = 0 := by
  unfold readW
  exact Nat.div_eq_of_lt (by simpa using h)
theorem readW_all (x : Nat) : readW x 16 = x := by unfold readW; simp
theorem readW_succ (x n : Nat) (h : x < 18446744073709551616) (hn : n < 16) : readW x n * 16 % 18446744073709551616 + x / 16 ^ (15 - n) % 16 = readW x (n + 1) := by
  unfold readW
  rw [show 16 - n = (15 - n) + 1 by omega, show 16 - (n + 1) = 15 - n by omega, Nat.pow_succ, ← Nat.div_div_eq_div_mul]
  have : x / 16 ^ (15 - n) ≤ x := Nat.div_le_self _ _
  omega
theorem acc_text (a : List Nat) (ha : Ok a) (i : Nat) (hi : i ≤ 128) (q : Nat) : (accTo (strOfNums (textOf a)) i).getD q 0 = readW (a.getD q 0) (min 16 (i - 16 * q)) := by
  induction i with
  | zero =>
    rw [show min 16 (0 - 16 * q) = 0 by omega, readW_zero _ (ha.2 q)]
    unfold accTo nought
    rcases q with _ | _ | _ | _ | _ | _ | _ | _ | q <;> simp
  | succ i ih =>
    have ih' := ih (by omega)
    unfold accTo
    rw [getD_set _ _ _ _ (by rw [(ok_accTo _ i (by omega)).1]; omega)]
    split
    · next e =>
      subst e
      rw [ih', dv_text a i (by omega)]
      simp only [Option.getD_some]
      rw [show min 16 (i - 16 * (i / 16)) = i % 16 by omega, show min 16 (i + 1 - 16 * (i / 16)) = i % 16 + 1 by omega]
      exact readW_succ _ _ (ha.2 _) (by omega)
    · next e =>
      rw [ih']
      congr 1
      omega
theorem acc_all (a : List Nat) (ha : Ok a) : accTo (strOfNums (textOf a)) 128 = a := by
  have hok := ok_accTo (strOfNums (textOf a)) 128 (by omega)
  apply List.ext_getElem (by rw [hok.1, ha.1])
  intro i h1 h2
  have h := acc_text a ha 128 (by omega) i
  rw [show min 16 (128 - 16 * i) = 16 by rw [ha.1] at h2; omega, readW_all] at h
  simpa [h1, h2] using h
theorem go_text (a : List Nat) (f i : Nat) (h : f + i = 128) : parseGo (strOfNums (textOf a)) f i = (accTo (strOfNums (textOf a)) 128, 0, 0) := by
  induction f generalizing i with
  | zero => exact if_neg (by rw [text_size]; omega)
  | succ f ih =>
    unfold parseGo
    rw [if_neg (by rw [text_size]; omega), if_neg (by rw [dv_text a i (by omega)]; simp)]
    exact ih (i + 1) (by omega)
theorem parse_text (a : List Nat) (ha : Ok a) : parseV (strOfNums (textOf a)) = (a, 0, 0) := by
  unfold parseV
  rw [go_text a 128 0 rfl, acc_all a ha]
end Go.Proofs.YthenkidhcfholabDoor
