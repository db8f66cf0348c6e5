/- Numerals and words read back: what Print writes is read as what it was. -/
import Derived.Test.YtbjopdmchmekpaaDoorAsN
namespace Go.Proofs.YtbjopdmchmekpaaDoor
open Go.Lib

/-! ### numerals -/
theorem dig_nat (k : Nat) (h : k < 10) : (UInt8.ofNat (48 + k)).toNat = 48 + k := by
  rw [UInt8.toNat_ofNat']
  omega
theorem dec_small {u : Nat} (h : u < 10) : decDigits u = [UInt8.ofNat (48 + u)] := by rw [decDigits, dif_pos h]
theorem dec_big {u : Nat} (h : ¬ u < 10) : decDigits u = decDigits (u / 10) ++ [UInt8.ofNat (48 + u % 10)] := by rw [decDigits, dif_neg h]
theorem dec_ne (u : Nat) : decDigits u ≠ [] := by
  by_cases h : u < 10
  · rw [dec_small h]; simp
  · rw [dec_big h]; simp
theorem dec_dig (u : Nat) : ∀ b ∈ decDigits u, isDg b = true := by
  induction u using Nat.strongRecOn with
  | _ u ih =>
    by_cases h : u < 10
    · rw [dec_small h]
      intro b hb
      rw [List.mem_singleton.1 hb]
      unfold isDg
      rw [dig_nat u h]
      simp
      omega
    · rw [dec_big h]
      intro b hb
      rcases List.mem_append.1 hb with hb | hb
      · exact ih (u / 10) (by omega) b hb
      · rw [List.mem_singleton.1 hb]
        unfold isDg
        rw [dig_nat (u % 10) (by omega)]
        simp
        omega
theorem par_app (M : Nat) : ∀ (a b : List UInt8) (acc : Nat), parseUintM M acc (a ++ b) = match parseUintM M acc a with | .ok v => parseUintM M v b | e => e
  | [], b, acc => rfl
  | c :: a, b, acc => by
    rw [List.cons_append, parseUintM, parseUintM]
    split
    · split
      · rfl
      · split
        · rfl
        · exact par_app M a b _
    · rfl
theorem par_dec (M : Nat) (hM : M ≤ 18446744073709551615) (u : Nat) (h : u ≤ M) : parseUintM M 0 (decDigits u) = .ok u := by
  induction u using Nat.strongRecOn with
  | _ u ih =>
    by_cases hs : u < 10
    · rw [dec_small hs, parseUintM, dig_nat u hs, if_pos (by omega), if_neg (by omega), if_neg (by omega), parseUintM]
      congr 1
      omega
    · rw [dec_big hs, par_app, ih (u / 10) (by omega) (by omega)]
      simp only
      rw [parseUintM, dig_nat (u % 10) (by omega), if_pos (by omega), if_neg (by omega), if_neg (by omega), parseUintM]
      congr 1
      omega
theorem num_itoa (v : Int) (h0 : -9223372036854775808 ≤ v) (h1 : v ≤ 9223372036854775807) : numV (itoa v) = some v := by
  have key : parseIntB 64 (itoa v) = .ok v := by
    by_cases hv : v < 0
    · obtain ⟨u, rfl⟩ : ∃ u : Nat, v = -(u : Int) := ⟨v.natAbs, by omega⟩
      have e : itoa (-(u : Int)) = 45 :: decDigits u := by unfold itoa; rw [if_pos hv]; simp
      rw [e, parseIntB]
      have hp : parseUintB 64 (decDigits u) = .ok u := by
        unfold parseUintB
        rw [if_neg (dec_ne u)]
        exact par_dec _ (by decide) u (by omega)
      have h45 : (45 : UInt8).toNat = 45 := rfl
      simp only [h45, if_true, or_true, hp]
      simp
      omega
    · obtain ⟨u, rfl⟩ := Int.eq_ofNat_of_zero_le (show 0 ≤ v by omega)
      have e : itoa (u : Int) = decDigits u := by unfold itoa; rw [if_neg hv]; simp
      rw [e]
      have hp : parseUintB 64 (decDigits u) = .ok u := by
        unfold parseUintB
        rw [if_neg (dec_ne u)]
        exact par_dec _ (by decide) u (by omega)
      cases hd : decDigits u with
      | nil => exact absurd hd (dec_ne u)
      | cons c r =>
        have hc : isDg c = true := dec_dig u c (by rw [hd]; simp)
        simp only [isDg, Bool.and_eq_true, decide_eq_true_eq] at hc
        rw [hd] at hp
        rw [parseIntB]
        have k1 : ¬ (c.toNat = 43 ∨ c.toNat = 45) := by omega
        have k2 : ¬ c.toNat = 45 := by omega
        rw [if_neg k1, hp]
        simp only
        rw [if_neg (by omega), if_neg (by omega), if_neg k2]
  unfold numV
  rw [key]
  simp
/-! ### what a numeral, a label and a word are made of -/
def pl (b : UInt8) : Bool := isDg b || isLt b || b == 45
theorem pl_ok {b : UInt8} (h : pl b = true) : nB b = true ∧ b ≠ 10 ∧ b ≠ 35 ∧ b ≠ 58 := by
  have hne : ∀ k : UInt8, pl k = false → b ≠ k := fun k hk e => by rw [e, hk] at h; cases h
  have h1 := hne 32 (by decide)
  have h2 := hne 9 (by decide)
  refine ⟨?_, hne 10 (by decide), hne 35 (by decide), hne 58 (by decide)⟩
  unfold nB isB
  simp [h1, h2]
theorem dec_pl (u : Nat) : ∀ b ∈ decDigits u, pl b = true := fun b hb => by
  unfold pl
  rw [dec_dig u b hb]
  rfl
theorem itoa_pl (v : Int) : ∀ b ∈ itoa v, pl b = true := by
  unfold itoa
  split
  · intro b hb
    rcases List.mem_cons.1 hb with rfl | hb
    · decide
    · exact dec_pl _ b hb
  · exact dec_pl _
theorem itoa_ne (v : Int) : itoa v ≠ [] := by
  unfold itoa
  split
  · simp
  · exact dec_ne _
theorem lab_pl (p : Nat) : ∀ b ∈ labT p, pl b = true := by
  intro b hb
  rcases List.mem_cons.1 hb with rfl | hb
  · decide
  · exact itoa_pl _ b hb
theorem word_pl : ∀ c : Fin 41, (wordL c.val).all pl = true ∧ wordL c.val ≠ [] ∧ wordI (wordL c.val) = some c.val := by decide +kernel
theorem dec_len (p : Nat) (h : p ≤ 512) : (decDigits p).length ≤ 3 := by
  by_cases h1 : p < 10
  · rw [dec_small h1]; simp
  · rw [dec_big h1]
    by_cases h2 : p / 10 < 10
    · rw [dec_small h2]; simp
    · rw [dec_big h2, dec_small (by omega)]; simp
theorem lab_name (p : Nat) (h : p ≤ 512) : nameV (labT p) = true := by
  have e : itoa (p : Int) = decDigits p := by unfold itoa; rw [if_neg (by omega)]; simp
  unfold labT nameV
  rw [e]
  have h1 := dec_len p h
  simp only [Bool.and_eq_true, decide_eq_true_eq, List.all_cons]
  refine ⟨⟨by omega, by decide⟩, by decide, ?_⟩
  rw [List.all_eq_true]
  intro b hb
  rw [dec_dig p b hb]
  simp
theorem num_name (v : Int) : nameV (itoa v) = false := by
  unfold itoa
  split
  · unfold nameV
    have : (isLt 45 || isDg 45) = false := by decide
    simp [this]
  · cases hd : decDigits v.toNat with
    | nil => exact absurd hd (dec_ne _)
    | cons c r =>
      have hc : isDg c = true := dec_dig _ c (by rw [hd]; simp)
      unfold nameV
      simp [hc]
theorem lab_inj {p q : Nat} (h : labT p = labT q) (hp : p ≤ 512) (hq : q ≤ 512) : p = q := by
  unfold labT at h
  have h1 : itoa (p : Int) = itoa (q : Int) := by simpa using h
  have h2 := num_itoa (p : Int) (by omega) (by omega)
  rw [h1, num_itoa (q : Int) (by omega) (by omega)] at h2
  simp at h2
  omega
/-! ### tokens of a line that is one word, or two -/
theorem drop_pl {t : List UInt8} (h : ∀ b ∈ t, pl b = true) (r : List UInt8) (hr : t ≠ []) : (t ++ r).dropWhile isB = t ++ r := by
  cases t with
  | nil => exact absurd rfl hr
  | cons a t =>
    have := (pl_ok (h a (by simp))).1
    unfold nB at this
    simp only [List.cons_append]
    rw [List.dropWhile_cons_of_neg (by simpa using this)]
theorem take_pl {t : List UInt8} (h : ∀ b ∈ t, pl b = true) (r : List UInt8) (hr : t ≠ []) : (t ++ r).takeWhile isB = [] := by
  cases t with
  | nil => exact absurd rfl hr
  | cons a t =>
    have := (pl_ok (h a (by simp))).1
    unfold nB at this
    simp only [List.cons_append]
    rw [List.takeWhile_cons_of_neg (by simpa using this)]
theorem takeN_all {t : List UInt8} (h : ∀ b ∈ t, pl b = true) : t.takeWhile nB = t ∧ t.dropWhile nB = [] := by
  induction t with
  | nil => exact ⟨rfl, rfl⟩
  | cons a t ih =>
    have ha := (pl_ok (h a (by simp))).1
    obtain ⟨h1, h2⟩ := ih (fun b hb => h b (by simp [hb]))
    rw [List.takeWhile_cons_of_pos ha, List.dropWhile_cons_of_pos ha, h1, h2]
    exact ⟨rfl, rfl⟩
theorem takeN_blank {t : List UInt8} (h : ∀ b ∈ t, pl b = true) (r : List UInt8) : (t ++ 32 :: r).takeWhile nB = t ∧ (t ++ 32 :: r).dropWhile nB = 32 :: r := by
  induction t with
  | nil => exact ⟨by rw [List.nil_append, List.takeWhile_cons_of_neg (by decide)], by rw [List.nil_append, List.dropWhile_cons_of_neg (by decide)]⟩
  | cons a t ih =>
    have ha := (pl_ok (h a (by simp))).1
    obtain ⟨h1, h2⟩ := ih (fun b hb => h b (by simp [hb]))
    rw [List.cons_append, List.takeWhile_cons_of_pos ha, List.dropWhile_cons_of_pos ha, h1, h2]
    exact ⟨rfl, rfl⟩
theorem tok_one {t : List UInt8} (h : ∀ b ∈ t, nB b = true) (hr : t ≠ []) (p : Nat) : tokV t p = [(t, p)] := by
  cases t with
  | nil => exact absurd rfl hr
  | cons a t =>
    have ha := h a (by simp)
    have hd : (a :: t).dropWhile isB = a :: t := by rw [List.dropWhile_cons_of_neg (by unfold nB at ha; simpa using ha)]
    have ht : (a :: t).takeWhile isB = [] := by rw [List.takeWhile_cons_of_neg (by unfold nB at ha; simpa using ha)]
    have h1 : t.takeWhile nB = t ∧ t.dropWhile nB = [] := by
      have h' : ∀ b ∈ t, nB b = true := fun b hb => h b (by simp [hb])
      clear h hr hd ht
      induction t with
      | nil => exact ⟨rfl, rfl⟩
      | cons c t ih =>
        obtain ⟨g1, g2⟩ := ih (fun b hb => h' b (by simp [hb]))
        rw [List.takeWhile_cons_of_pos (h' c (by simp)), List.dropWhile_cons_of_pos (h' c (by simp)), g1, g2]
        exact ⟨rfl, rfl⟩
    rw [tokV_cons p hd, ht, h1.1, h1.2, tokV_nil _ rfl]
    rfl
theorem tok_two {t u : List UInt8} (h : ∀ b ∈ t, pl b = true) (hr : t ≠ []) (hu : ∀ b ∈ u, pl b = true) (hru : u ≠ []) (p : Nat) : tokV (t ++ 32 :: u) p = [(t, p), (u, p + t.length + 1)] := by
  cases t with
  | nil => exact absurd rfl hr
  | cons a t =>
    have hd := drop_pl h (32 :: u) hr
    have ht := take_pl h (32 :: u) hr
    have h' : ∀ b ∈ t, pl b = true := fun b hb => h b (by simp [hb])
    obtain ⟨h1, h2⟩ := takeN_blank h' u
    rw [List.cons_append] at hd ht ⊢
    rw [tokV_cons p hd, ht, h1, h2]
    cases u with
    | nil => exact absurd rfl hru
    | cons c u =>
      have hc := (pl_ok (hu c (by simp))).1
      have hd2 : (32 :: c :: u).dropWhile isB = c :: u := by
        rw [List.dropWhile_cons_of_pos (by decide), List.dropWhile_cons_of_neg (by unfold nB at hc; simpa using hc)]
      have ht2 : (32 :: c :: u).takeWhile isB = [32] := by
        rw [List.takeWhile_cons_of_pos (by decide), List.takeWhile_cons_of_neg (by unfold nB at hc; simpa using hc)]
      obtain ⟨h3, h4⟩ := takeN_all (fun b hb => hu b (by simp [hb]) : ∀ b ∈ u, pl b = true)
      rw [tokV_cons _ hd2, ht2, h3, h4, tokV_nil _ rfl]
      simp
      omega
end Go.Proofs.YtbjopdmchmekpaaDoor
