/- Numerals, by the document's words. -/
import Derived.Test.YtbjopdmchmekpaaDoorAsR
import Derived.Test.YtbjopdmchmekpaaDoorAsGd
namespace Go.Proofs.YtbjopdmchmekpaaDoor
open Go.Lib

def valD (l : List UInt8) : Nat := l.foldl (fun n b => n * 10 + (b.toNat - 48)) 0
theorem valD_snoc (l : List UInt8) (b : UInt8) : valD (l ++ [b]) = valD l * 10 + (b.toNat - 48) := by
  unfold valD
  rw [List.foldl_append]
  rfl
theorem snoc_of {l : List UInt8} (h : l ≠ []) : ∃ a b, l = a ++ [b] := ⟨l.dropLast, l.getLast h, (List.dropLast_concat_getLast h).symm⟩
theorem dg_back {b : UInt8} (h : isDg b = true) : UInt8.ofNat (48 + (b.toNat - 48)) = b := by
  simp only [isDg, Bool.and_eq_true, decide_eq_true_eq] at h
  apply UInt8.toNat_inj.1
  rw [dig_nat _ (by omega)]
  omega
theorem dec_val : ∀ (n : Nat) (l : List UInt8), l.length = n → l ≠ [] → (∀ b ∈ l, isDg b = true) → l.head? ≠ some 48 → 1 ≤ valD l ∧ decDigits (valD l) = l
  | 0, l, hn, h, _, _ => absurd (List.length_eq_zero_iff.1 hn) h
  | n + 1, l, hn, h, hd, hz => by
    obtain ⟨a, b, rfl⟩ := snoc_of h
    have hb := hd b (by simp)
    have hb2 := hb
    simp only [isDg, Bool.and_eq_true, decide_eq_true_eq] at hb2
    rw [valD_snoc]
    by_cases ha : a = []
    · subst ha
      have h0 : valD [] = 0 := rfl
      rw [h0, Nat.zero_mul, Nat.zero_add]
      have hne : ¬ b.toNat = 48 := fun e => hz (by
        have : b = 48 := UInt8.toNat_inj.1 e
        rw [this]; rfl)
      refine ⟨by omega, ?_⟩
      rw [dec_small (by omega), dg_back hb]
      rfl
    · have hz' : a.head? ≠ some 48 := by
        cases a with
        | nil => exact absurd rfl ha
        | cons x a => exact hz
      obtain ⟨h1, h2⟩ := dec_val n a (by simp at hn; omega) ha (fun b hb => hd b (by simp [hb])) hz'
      refine ⟨by omega, ?_⟩
      rw [dec_big (by omega)]
      have e1 : (valD a * 10 + (b.toNat - 48)) / 10 = valD a := by omega
      have e2 : (valD a * 10 + (b.toNat - 48)) % 10 = b.toNat - 48 := by omega
      rw [e1, e2, h2, dg_back hb]
theorem val_dec (u : Nat) : valD (decDigits u) = u := by
  induction u using Nat.strongRecOn with
  | _ u ih =>
    by_cases h : u < 10
    · rw [dec_small h]
      show 0 * 10 + ((UInt8.ofNat (48 + u)).toNat - 48) = u
      rw [dig_nat u h]
      omega
    · rw [dec_big h, valD_snoc, ih (u / 10) (by omega), dig_nat (u % 10) (by omega)]
      omega
theorem head_dec (u : Nat) (h0 : u ≠ 0) : (decDigits u).head? ≠ some 48 := by
  induction u using Nat.strongRecOn with
  | _ u ih =>
    by_cases h : u < 10
    · rw [dec_small h]
      intro e
      injection e with e
      have := dig_nat u h
      rw [e] at this
      have h48 : (48 : UInt8).toNat = 48 := rfl
      omega
    · rw [dec_big h]
      have h1 := ih (u / 10) (by omega) (by omega)
      cases hd : decDigits (u / 10) with
      | nil => exact absurd hd (dec_ne _)
      | cons x r => rw [hd] at h1; exact h1
theorem dec_le (k : Nat) : ∀ u : Nat, u < 10 ^ (k + 1) → (decDigits u).length ≤ k + 1 := by
  induction k with
  | zero => intro u h; rw [dec_small (by omega)]; simp
  | succ k ih =>
    intro u h
    by_cases hs : u < 10
    · rw [dec_small hs]; simp
    · rw [dec_big hs, List.length_append]
      have := ih (u / 10) (by rw [Nat.pow_succ] at h; omega)
      simp only [List.length_cons, List.length_nil]
      omega
/-- A numeral without a sign. -/
def numP (l : List UInt8) : Option Nat := if l = [] ∨ 19 < l.length ∨ (1 < l.length ∧ l.head? = some 48) ∨ l.all isDg = false ∨ 9223372036854775807 < valD l then none else some (valD l)
theorem numP_iff (l : List UInt8) (n : Nat) : numP l = some n ↔ n ≤ 9223372036854775807 ∧ decDigits n = l := by
  unfold numP
  constructor
  · intro h
    split at h
    · cases h
    · rename_i hc
      simp only [not_or] at hc
      obtain ⟨c1, _, c3, c4, c5⟩ := hc
      injection h with h
      subst h
      refine ⟨by omega, ?_⟩
      have hd : ∀ b ∈ l, isDg b = true := by
        have : l.all isDg = true := by cases h : l.all isDg with | true => rfl | false => exact absurd h c4
        exact List.all_eq_true.1 this
      by_cases hz : l.head? = some 48
      · cases l with
        | nil => exact absurd rfl c1
        | cons x r =>
          injection hz with hz
          subst hz
          have hr : r = [] := by
            cases r with
            | nil => rfl
            | cons y r => exact absurd ⟨by simp, rfl⟩ c3
          subst hr
          have h0 : valD [48] = 0 := rfl
          rw [h0, dec_small (by omega)]
          rfl
      · exact (dec_val _ l rfl c1 hd hz).2
  · rintro ⟨h1, rfl⟩
    rw [if_neg, val_dec]
    simp only [not_or]
    refine ⟨dec_ne n, ?_, ?_, ?_, ?_⟩
    · have := dec_le 18 n (by omega)
      omega
    · rintro ⟨a, b⟩
      by_cases h0 : n = 0
      · subst h0; rw [dec_small (by omega)] at a; simp at a
      · exact head_dec n h0 b
    · intro h
      have : (decDigits n).all isDg = true := List.all_eq_true.2 (dec_dig n)
      rw [this] at h
      cases h
    · rw [val_dec]; omega
theorem numV_iff (t : List UInt8) (v : Int) : numV t = some v ↔ (-9223372036854775808 ≤ v ∧ v ≤ 9223372036854775807) ∧ itoa v = t := by
  constructor
  · intro h
    unfold numV at h
    split at h
    · rename_i x hx
      split at h
      · rename_i hi
        injection h with h
        subst h
        refine ⟨?_, hi⟩
        unfold parseIntB at hx
        split at hx
        · cases hx
        · rename_i c r
          simp only at hx
          split at hx
          · cases hx
          · cases hx
          · rename_i u hu
            split at hx
            · cases hx
            · rename_i q1
              split at hx
              · cases hx
              · rename_i q2
                injection hx with hx
                have e63 : 2 ^ (64 - 1) = 9223372036854775808 := by decide
                rw [e63] at q1 q2
                subst hx
                split
                · rename_i hn
                  have : ¬ 9223372036854775808 < u := fun e => q2 ⟨hn, e⟩
                  omega
                · rename_i hn
                  have : ¬ 9223372036854775808 ≤ u := fun e => q1 ⟨hn, e⟩
                  omega
      · cases h
    · cases h
  · rintro ⟨⟨h0, h1⟩, rfl⟩
    exact num_itoa v h0 h1
theorem itoa_pos (u : Nat) : itoa (u : Int) = decDigits u := by unfold itoa; rw [if_neg (by omega)]; simp
theorem itoa_neg (u : Nat) (h : u ≠ 0) : itoa (-(u : Int)) = 45 :: decDigits u := by unfold itoa; rw [if_pos (by omega)]; simp
theorem dec_head (u : Nat) : (decDigits u).head? ≠ some 45 := fun e => by
  have h := dec_dig u 45 (by
    cases hd : decDigits u with
    | nil => exact absurd hd (dec_ne u)
    | cons x r => rw [hd] at e; injection e with e; subst e; simp)
  revert h
  decide
theorem opt_ext {α : Type} {a b : Option α} (h : ∀ v, a = some v ↔ b = some v) : a = b := by
  cases a with
  | some x => exact ((h x).1 rfl).symm
  | none =>
    cases b with
    | none => rfl
    | some y => exact absurd ((h y).2 rfl) (by simp)
theorem num_pos {t : List UInt8} (ht : t.head? ≠ some 45 ∨ t = [45]) : numV t = (match numP t with | some n => some (n : Int) | none => none) := by
  apply opt_ext
  intro v
  rw [numV_iff]
  constructor
  · rintro ⟨⟨h0, h1⟩, rfl⟩
    by_cases hv : v < 0
    · obtain ⟨u, rfl⟩ : ∃ u : Nat, v = -(u : Int) := ⟨v.natAbs, by omega⟩
      rw [itoa_neg u (by omega)] at ht
      rcases ht with ht | ht
      · exact absurd rfl ht
      · injection ht with _ ht; exact absurd ht (dec_ne u)
    · obtain ⟨u, rfl⟩ := Int.eq_ofNat_of_zero_le (show 0 ≤ v by omega)
      have := (numP_iff (itoa (u : Int)) u).2 ⟨by omega, (itoa_pos u).symm⟩
      rw [this]
  · intro h
    cases hp : numP t with
    | none => rw [hp] at h; cases h
    | some n =>
      rw [hp] at h
      injection h with h
      obtain ⟨h1, h2⟩ := (numP_iff t n).1 hp
      have h3 : (n : Int) = v := h
      subst h3
      exact ⟨by omega, by rw [itoa_pos, h2]⟩
theorem num_neg {r : List UInt8} (hm : r ≠ decDigits 9223372036854775808) : numV (45 :: r) = match numV r with | some n => if 0 < n then some (-n) else none | none => none := by
  apply opt_ext
  intro v
  rw [numV_iff]
  constructor
  · rintro ⟨⟨h0, h1⟩, h⟩
    by_cases hv : v < 0
    · obtain ⟨u, rfl⟩ : ∃ u : Nat, v = -(u : Int) := ⟨v.natAbs, by omega⟩
      rw [itoa_neg u (by omega)] at h
      injection h with _ h
      have hu : u ≠ 9223372036854775808 := fun e => hm (by rw [← h, e])
      have : numV r = some (u : Int) := (numV_iff _ _).2 ⟨by omega, by rw [itoa_pos, h]⟩
      rw [this]
      simp only
      rw [if_pos (by omega)]
    · obtain ⟨u, rfl⟩ := Int.eq_ofNat_of_zero_le (show 0 ≤ v by omega)
      rw [itoa_pos] at h
      exact absurd (by rw [h]; rfl) (dec_head u)
  · intro h
    cases hn : numV r with
    | none => rw [hn] at h; cases h
    | some n =>
      rw [hn] at h
      simp only at h
      split at h
      · rename_i hp
        injection h with h
        subst h
        obtain ⟨⟨a, b⟩, c⟩ := (numV_iff _ _).1 hn
        obtain ⟨u, rfl⟩ := Int.eq_ofNat_of_zero_le (show 0 ≤ n by omega)
        refine ⟨by omega, ?_⟩
        rw [itoa_neg u (by omega), ← itoa_pos, c]
      · cases h
theorem num_min : numV (45 :: decDigits 9223372036854775808) = some (-9223372036854775808) := by
  have := (numV_iff (45 :: decDigits 9223372036854775808) (-((9223372036854775808 : Nat) : Int))).2 ⟨by omega, itoa_neg _ (by omega)⟩
  exact this
end Go.Proofs.YtbjopdmchmekpaaDoor
/- The document's reading of a text, as plain data: lines byte by byte, instructions with their places and names; and that it is what parV says. -/
namespace Go.Proofs.YtbjopdmchmekpaaDoor

abbrev Tok := List UInt8 × Nat

/-! ### lines, byte by byte -/
/-- Lines that are through, the last one, whether one is in a token, whether in a remark. -/
structure LS where
  ls : List (List Tok)
  cur : List Tok
  inn : Bool
  rem : Bool
/-- One byte more of the last token. -/
def addL (l : List Tok) (c : UInt8) : List Tok := match l.getLast? with
  | some (t, q) => l.dropLast ++ [(t ++ [c], q)]
  | none => l
def stepS (st : LS) (i : Nat) (c : UInt8) : LS :=
  if c = 10 then ⟨st.ls ++ [st.cur], [], false, false⟩
  else if st.rem = true ∨ c = 35 then ⟨st.ls, st.cur, false, true⟩
  else if isB c = true then ⟨st.ls, st.cur, false, false⟩
  else if st.inn = true then ⟨st.ls, addL st.cur c, true, false⟩
  else ⟨st.ls, st.cur ++ [([c], i)], true, false⟩
def scanS (st : LS) : Nat → List UInt8 → LS
  | _, [] => st
  | p, c :: l => scanS (stepS st p c) (p + 1) l
theorem scan_app (st : LS) (p : Nat) (a b : List UInt8) : scanS st p (a ++ b) = scanS (scanS st p a) (p + a.length) b := by
  induction a generalizing st p with
  | nil => rfl
  | cons c a ih =>
    show scanS (stepS st p c) (p + 1) (a ++ b) = _
    rw [ih]
    show _ = scanS (scanS (stepS st p c) (p + 1) a) (p + (a.length + 1)) b
    congr 1
    omega
theorem addL_snoc (cs : List Tok) (t : List UInt8) (q : Nat) (c : UInt8) : addL (cs ++ [(t, q)]) c = cs ++ [(t ++ [c], q)] := by
  unfold addL
  simp
theorem tok_blank (b : UInt8) (y : List UInt8) (p : Nat) (h : isB b = true) : tokV (b :: y) p = tokV y (p + 1) := by
  have h1 : (b :: y).dropWhile isB = y.dropWhile isB := by rw [List.dropWhile_cons, h]; rfl
  have h2 : (b :: y).takeWhile isB = b :: y.takeWhile isB := by rw [List.takeWhile_cons, h]; rfl
  cases hd : y.dropWhile isB with
  | nil => rw [tokV_nil p (by rw [h1, hd]), tokV_nil (p + 1) hd]
  | cons a r =>
    rw [tokV_cons p (by rw [h1, hd]), tokV_cons (p + 1) hd, h2]
    simp only [List.length_cons]
    congr 2
    · omega
    · omega
theorem tok_head (a : UInt8) (y : List UInt8) (p : Nat) (h : isB a = false) : tokV (a :: y) p = (a :: y.takeWhile nB, p) :: tokV (y.dropWhile nB) (p + (1 + (y.takeWhile nB).length)) := by
  have h1 : (a :: y).dropWhile isB = a :: y := by rw [List.dropWhile_cons, h]; rfl
  have h2 : (a :: y).takeWhile isB = [] := by rw [List.takeWhile_cons, h]; rfl
  rw [tokV_cons p h1, h2]
  rfl
theorem tok_none (p : Nat) : tokV [] p = [] := tokV_nil p rfl
theorem scan_plain (ls : List (List Tok)) : ∀ (y : List UInt8) (p : Nat), (∀ c ∈ y, c ≠ 10 ∧ c ≠ 35) →
    (∀ cur, (scanS ⟨ls, cur, false, false⟩ p y).ls = ls ∧ (scanS ⟨ls, cur, false, false⟩ p y).cur = cur ++ tokV y p ∧ (scanS ⟨ls, cur, false, false⟩ p y).rem = false) ∧
    (∀ cs t q, (scanS ⟨ls, cs ++ [(t, q)], true, false⟩ p y).ls = ls ∧ (scanS ⟨ls, cs ++ [(t, q)], true, false⟩ p y).cur = cs ++ (t ++ y.takeWhile nB, q) :: tokV (y.dropWhile nB) (p + (y.takeWhile nB).length) ∧ (scanS ⟨ls, cs ++ [(t, q)], true, false⟩ p y).rem = false)
  | [], p, _ => ⟨fun cur => ⟨rfl, by rw [tok_none, List.append_nil]; rfl, rfl⟩, fun cs t q => ⟨rfl, by simp [scanS, tok_none], rfl⟩⟩
  | a :: y, p, h => by
    obtain ⟨h10, h35⟩ := h a (by simp)
    obtain ⟨ih1, ih2⟩ := scan_plain ls y (p + 1) (fun c hc => h c (by simp [hc]))
    cases hb : isB a with
    | true =>
      have e1 : ∀ cur inn, stepS ⟨ls, cur, inn, false⟩ p a = ⟨ls, cur, false, false⟩ := fun cur inn => by simp [stepS, h10, h35, hb]
      refine ⟨fun cur => ?_, fun cs t q => ?_⟩
      · show (scanS (stepS ⟨ls, cur, false, false⟩ p a) (p + 1) y).ls = ls ∧ (scanS (stepS ⟨ls, cur, false, false⟩ p a) (p + 1) y).cur = _ ∧ (scanS (stepS ⟨ls, cur, false, false⟩ p a) (p + 1) y).rem = _
        rw [e1, tok_blank a y p hb]
        exact ih1 cur
      · show (scanS (stepS ⟨ls, cs ++ [(t, q)], true, false⟩ p a) (p + 1) y).ls = ls ∧ (scanS (stepS ⟨ls, cs ++ [(t, q)], true, false⟩ p a) (p + 1) y).cur = _ ∧ (scanS (stepS ⟨ls, cs ++ [(t, q)], true, false⟩ p a) (p + 1) y).rem = _
        rw [e1]
        have hn : nB a = false := by simp [nB, hb]
        rw [List.takeWhile_cons, List.dropWhile_cons, hn]
        simp only [Bool.false_eq_true, if_false, List.append_nil, List.length_nil, Nat.add_zero]
        rw [tok_blank a y p hb]
        obtain ⟨j1, j2, j3⟩ := ih1 (cs ++ [(t, q)])
        exact ⟨j1, by rw [j2]; simp, j3⟩
    | false =>
      have hn : nB a = true := by simp [nB, hb]
      refine ⟨fun cur => ?_, fun cs t q => ?_⟩
      · have e1 : stepS ⟨ls, cur, false, false⟩ p a = ⟨ls, cur ++ [([a], p)], true, false⟩ := by simp [stepS, h10, h35, hb]
        show (scanS (stepS ⟨ls, cur, false, false⟩ p a) (p + 1) y).ls = ls ∧ (scanS (stepS ⟨ls, cur, false, false⟩ p a) (p + 1) y).cur = _ ∧ (scanS (stepS ⟨ls, cur, false, false⟩ p a) (p + 1) y).rem = _
        rw [e1, tok_head a y p hb]
        obtain ⟨j1, j2, j3⟩ := ih2 cur [a] p
        refine ⟨j1, ?_, j3⟩
        rw [j2]
        simp only [List.singleton_append, Nat.add_assoc]
      · have e1 : stepS ⟨ls, cs ++ [(t, q)], true, false⟩ p a = ⟨ls, cs ++ [(t ++ [a], q)], true, false⟩ := by simp [stepS, h10, h35, hb, addL_snoc]
        show (scanS (stepS ⟨ls, cs ++ [(t, q)], true, false⟩ p a) (p + 1) y).ls = ls ∧ (scanS (stepS ⟨ls, cs ++ [(t, q)], true, false⟩ p a) (p + 1) y).cur = _ ∧ (scanS (stepS ⟨ls, cs ++ [(t, q)], true, false⟩ p a) (p + 1) y).rem = _
        rw [e1, List.takeWhile_cons, List.dropWhile_cons, hn]
        simp only [if_true, List.length_cons]
        obtain ⟨j1, j2, j3⟩ := ih2 cs (t ++ [a]) q
        refine ⟨j1, ?_, j3⟩
        rw [j2]
        simp only [List.append_assoc, List.singleton_append]
        congr 3
        omega
theorem scan_rem (ls : List (List Tok)) (cur : List Tok) : ∀ (y : List UInt8) (p : Nat), (∀ c ∈ y, c ≠ 10) → scanS ⟨ls, cur, false, true⟩ p y = ⟨ls, cur, false, true⟩
  | [], _, _ => rfl
  | a :: y, p, h => by
    have e1 : stepS ⟨ls, cur, false, true⟩ p a = ⟨ls, cur, false, true⟩ := by simp [stepS, h a (by simp)]
    show scanS (stepS ⟨ls, cur, false, true⟩ p a) (p + 1) y = _
    rw [e1]
    exact scan_rem ls cur y (p + 1) (fun c hc => h c (by simp [hc]))
theorem tw_alle {α : Type} (p : α → Bool) (l : List α) : ∀ c ∈ l.takeWhile p, p c = true := fun c hc => by
  induction l with
  | nil => simp at hc
  | cons a l ih =>
    rw [List.takeWhile_cons] at hc
    cases ha : p a with
    | false => rw [ha] at hc; simp at hc
    | true =>
      rw [ha] at hc
      simp only [if_true, List.mem_cons] at hc
      rcases hc with rfl | hc
      · exact ha
      · exact ih hc
theorem dw_head {α : Type} (p : α → Bool) (l : List α) (a : α) (r : List α) (h : l.dropWhile p = a :: r) : p a = false := by
  induction l with
  | nil => simp at h
  | cons b l ih =>
    rw [List.dropWhile_cons] at h
    cases hb : p b with
    | true => rw [hb] at h; exact ih h
    | false =>
      rw [hb] at h
      simp only [Bool.false_eq_true, if_false] at h
      injection h with h1 h2
      rw [← h1]
      exact hb
/-- A line. -/
theorem scan_line (ls : List (List Tok)) (x : List UInt8) (p : Nat) (h : ∀ c ∈ x, c ≠ 10) : (scanS ⟨ls, [], false, false⟩ p x).ls = ls ∧ (scanS ⟨ls, [], false, false⟩ p x).cur = tokV (x.takeWhile (· != 35)) p := by
  have hy : ∀ c ∈ x.takeWhile (· != 35), c ≠ 10 ∧ c ≠ 35 := fun c hc => ⟨h c ((List.takeWhile_sublist _).subset hc), by have := tw_alle _ _ c hc; simpa using this⟩
  have e : x = x.takeWhile (· != 35) ++ x.dropWhile (· != 35) := (List.takeWhile_append_dropWhile).symm
  obtain ⟨j1, j2, j3⟩ := (scan_plain ls (x.takeWhile (· != 35)) p hy).1 []
  have hx : scanS ⟨ls, [], false, false⟩ p x = scanS (scanS ⟨ls, [], false, false⟩ p (x.takeWhile (· != 35))) (p + (x.takeWhile (· != 35)).length) (x.dropWhile (· != 35)) := by
    conv => lhs; rw [e]
    exact scan_app _ _ _ _
  rw [hx]
  generalize scanS ⟨ls, [], false, false⟩ p (x.takeWhile (· != 35)) = st at *
  obtain ⟨l1, c1, i1, r1⟩ := st
  simp only at j1 j2 j3
  subst j1 j3
  rw [List.nil_append] at j2
  cases hd : x.dropWhile (· != 35) with
  | nil => exact ⟨rfl, j2⟩
  | cons a r =>
    have ha : a = 35 := by have := dw_head _ _ _ _ hd; simpa using this
    have hr : ∀ c ∈ r, c ≠ 10 := fun c hc => h c ((List.dropWhile_sublist _).subset (by rw [hd]; simp [hc]))
    subst ha
    have e1 : stepS ⟨l1, c1, i1, false⟩ (p + (x.takeWhile (· != 35)).length) 35 = ⟨l1, c1, false, true⟩ := by simp [stepS]
    show (scanS (stepS ⟨l1, c1, i1, false⟩ (p + (x.takeWhile (· != 35)).length) 35) _ r).ls = _ ∧ _
    rw [e1, scan_rem _ _ _ _ hr]
    refine ⟨rfl, ?_⟩
    show (scanS (stepS ⟨l1, c1, i1, false⟩ (p + (x.takeWhile (· != 35)).length) 35) _ r).cur = _
    rw [e1, scan_rem _ _ _ _ hr]
    exact j2
/-- All lines of a text. -/
def linT : Nat → List UInt8 → Nat → List (List Tok)
  | 0, _, _ => []
  | k + 1, l, p => tokV ((l.takeWhile (· != 10)).takeWhile (· != 35)) p :: (match l.dropWhile (· != 10) with
    | [] => []
    | _ :: t => linT k t (p + (l.takeWhile (· != 10)).length + 1))
theorem scan_lines : ∀ (k : Nat) (l : List UInt8) (p : Nat) (ls : List (List Tok)), l.length < k → (scanS ⟨ls, [], false, false⟩ p l).ls ++ [(scanS ⟨ls, [], false, false⟩ p l).cur] = ls ++ linT k l p
  | 0, l, p, ls, h => by omega
  | k + 1, l, p, ls, h => by
    have hx : ∀ c ∈ l.takeWhile (· != 10), c ≠ 10 := fun c hc => by have := tw_alle _ _ c hc; simpa using this
    obtain ⟨j1, j2⟩ := scan_line ls (l.takeWhile (· != 10)) p hx
    have e : l = l.takeWhile (· != 10) ++ l.dropWhile (· != 10) := (List.takeWhile_append_dropWhile).symm
    have hs : scanS ⟨ls, [], false, false⟩ p l = scanS (scanS ⟨ls, [], false, false⟩ p (l.takeWhile (· != 10))) (p + (l.takeWhile (· != 10)).length) (l.dropWhile (· != 10)) := by
      conv => lhs; rw [e]
      exact scan_app _ _ _ _
    have hlen : l.length = (l.takeWhile (· != 10)).length + (l.dropWhile (· != 10)).length := by
      conv => lhs; rw [e]
      exact List.length_append
    rw [hs]
    unfold linT
    generalize scanS ⟨ls, [], false, false⟩ p (l.takeWhile (· != 10)) = st at *
    obtain ⟨l1, c1, i1, r1⟩ := st
    simp only at j1 j2
    subst j1
    rw [← j2]
    cases hd : l.dropWhile (· != 10) with
    | nil => rfl
    | cons a r =>
      have ha : a = 10 := by have := dw_head _ _ _ _ hd; simpa using this
      subst ha
      rw [hd] at hlen
      simp only [List.length_cons] at hlen
      have e1 : stepS ⟨l1, c1, i1, r1⟩ (p + (l.takeWhile (· != 10)).length) 10 = ⟨l1 ++ [c1], [], false, false⟩ := by simp [stepS]
      show (scanS (stepS ⟨l1, c1, i1, r1⟩ (p + (l.takeWhile (· != 10)).length) 10) _ r).ls ++ [(scanS (stepS ⟨l1, c1, i1, r1⟩ (p + (l.takeWhile (· != 10)).length) 10) _ r).cur] = _
      rw [e1, scan_lines k r _ (l1 ++ [c1]) (by omega)]
      simp
/-- Line by line. -/
def foldV (st : PS) : List (List Tok) → Except (Int × Nat) PS
  | [] => .ok st
  | t :: r => match lineV st t with
    | .error e => .error e
    | .ok st' => foldV st' r
theorem lines_fold : ∀ (k : Nat) (l : List UInt8) (p : Nat) (st : PS), linesV st k l p = foldV st (linT k l p)
  | 0, _, _, _ => rfl
  | k + 1, l, p, st => by
    unfold linesV linT foldV
    cases lineV st (tokV ((l.takeWhile (· != 10)).takeWhile (· != 35)) p) with
    | error e => rfl
    | ok st' =>
      cases l.dropWhile (· != 10) with
      | nil => rfl
      | cons a t => exact lines_fold k t _ st'
/-! ### instructions with their places and names -/
structure DS where
  ops : List (Int × Int)
  ats : List Nat
  nms : List Tok
  size : Nat
  labs : List Tok
/-- Operands that are names. -/
def usO : Nat → List Nat → List Tok → List (Nat × List UInt8 × Nat × Nat)
  | i, a :: as, (n, q) :: ns => if n = [] then usO (i + 1) as ns else (i, n, q, a + 3) :: usO (i + 1) as ns
  | _, _, _ => []
theorem usO_snoc (a : Nat) (n : List UInt8) (q : Nat) : ∀ (i : Nat) (as : List Nat) (ns : List Tok), as.length = ns.length → usO i (as ++ [a]) (ns ++ [(n, q)]) = usO i as ns ++ (if n = [] then [] else [(i + as.length, n, q, a + 3)])
  | i, [], [], _ => by simp [usO]
  | i, [], _ :: _, h => by simp at h
  | i, _ :: _, [], h => by simp at h
  | i, b :: as, (m, r) :: ns, h => by
    have ih := usO_snoc a n q (i + 1) as ns (by simpa using h)
    simp only [List.cons_append, usO, List.length_cons]
    rw [ih]
    have e : i + (as.length + 1) = i + 1 + as.length := by omega
    rw [e]
    split <;> simp
/-- The document's state and the program's. -/
structure DR (d : DS) (st : PS) : Prop where
  ops : d.ops = st.ops
  size : d.size = st.size
  labs : d.labs = st.labs
  la : d.ats.length = d.ops.length
  ln : d.nms.length = d.ops.length
  us : st.us = usO 0 d.ats d.nms
def addD (d : DS) (c : Nat) (v : Int) (nm : Tok) : DS := ⟨d.ops ++ [((c : Int), v)], d.ats ++ [d.size], d.nms ++ [nm], d.size + (1 + wdC c), d.labs⟩
theorem DR.none {d : DS} {st : PS} (h : DR d st) (c : Nat) (v : Int) : DR (addD d c v ([], 0)) (addI st c v none) := by
  refine ⟨by simp [addD, addI, h.ops], by simp [addD, addI, h.size], h.labs, by simp [addD, h.la], by simp [addD, h.ln], ?_⟩
  show st.us ++ [] = usO 0 (d.ats ++ [d.size]) (d.nms ++ [([], 0)])
  rw [usO_snoc _ _ _ _ _ _ (by rw [h.la, h.ln]), ← h.us]
  simp
theorem wd_lead {c : Nat} (h : ldC c = true) : wdC c = 2 := by
  simp only [ldC, decide_eq_true_eq] at h
  rcases h with rfl | rfl | rfl <;> rfl
theorem DR.some {d : DS} {st : PS} (h : DR d st) (c : Nat) (hc : ldC c = true) (v : Int) (n : List UInt8) (q : Nat) (hn : n ≠ []) : DR (addD d c v (n, q)) (addI st c v (some (n, q))) := by
  refine ⟨by simp [addD, addI, h.ops], by simp [addD, addI, h.size], h.labs, by simp [addD, h.la], by simp [addD, h.ln], ?_⟩
  show st.us ++ [(st.ops.length, n, q, st.size + (1 + wdC c))] = usO 0 (d.ats ++ [d.size]) (d.nms ++ [(n, q)])
  rw [usO_snoc _ _ _ _ _ _ (by rw [h.la, h.ln]), ← h.us, if_neg hn, wd_lead hc, h.la, h.ops, h.size]
  simp
theorem DR.lab {d : DS} {st : PS} (h : DR d st) (n : List UInt8) : DR { d with labs := d.labs ++ [(n, d.size)] } { st with labs := st.labs ++ [(n, st.size)] } :=
  ⟨h.ops, h.size, by simp only [h.labs, h.size], h.la, h.ln, h.us⟩
theorem name_num {y : List UInt8} (h : nameV y = true) : numV y = none := by
  cases hv : numV y with
  | none => rfl
  | some v =>
    exfalso
    obtain ⟨_, h2⟩ := (numV_iff y v).1 hv
    match y, h with
    | a :: r, h =>
      simp only [nameV, Bool.and_eq_true, List.all_cons, Bool.or_eq_true, Bool.not_eq_true', decide_eq_true_eq] at h
      obtain ⟨⟨_, h3⟩, h4, _⟩ := h
      have h5 : isLt a = true := by rcases h4 with h4 | h4; exact h4; rw [h3] at h4; cases h4
      have h6 : isDg a = true ∨ a = 45 := by
        by_cases hz : 0 ≤ v
        · obtain ⟨u, rfl⟩ := Int.eq_ofNat_of_zero_le hz
          rw [itoa_pos] at h2
          have := dec_dig u a (by rw [h2]; simp)
          exact Or.inl this
        · obtain ⟨u, hu⟩ : ∃ u : Nat, v = -(u : Int) := ⟨(-v).toNat, by omega⟩
          rw [hu, itoa_neg u (by omega)] at h2
          injection h2 with h2 _
          exact Or.inr h2.symm
      rcases h6 with h6 | h6
      · rw [h3] at h6; cases h6
      · subst h6
        revert h5
        decide
theorem name_ne {y : List UInt8} (h : nameV y = true) : y ≠ [] := by
  intro e
  subst e
  cases h
/-! ### names become numbers -/
/-- The document goes over all instructions, in order. -/
def resD (L : List Tok) : List (Int × Int) → List Nat → List Tok → Except (Int × Nat) (List (Int × Int))
  | (c, v) :: os, a :: as, (n, q) :: ns => if n = [] then (match resD L os as ns with
      | .error e => .error e
      | .ok r => .ok ((c, v) :: r)) else match lab L n with
    | none => .error (11, q)
    | some k => match resD L os as ns with
      | .error e => .error e
      | .ok r => .ok ((c, if c = 26 then (k : Int) else (k : Int) - (a : Int) - 3) :: r)
  | _, _, _ => .ok []
theorem res_go (L : List Tok) : ∀ (os : List (Int × Int)) (as : List Nat) (ns : List Tok) (pre : List (Int × Int)), as.length = os.length → ns.length = os.length →
    resU L (usO pre.length as ns) (pre ++ os) = match resD L os as ns with
      | .error e => .error e
      | .ok r => .ok (pre ++ r)
  | [], [], [], pre, _, _ => by simp [usO, resU, resD]
  | (c, v) :: os, a :: as, (n, q) :: ns, pre, h1, h2 => by
    have ih := fun x => res_go L os as ns (pre ++ [x]) (by simpa using h1) (by simpa using h2)
    simp only [List.length_append, List.length_singleton, List.append_assoc, List.singleton_append] at ih
    unfold usO resD
    by_cases hn : n = []
    · rw [if_pos hn, if_pos hn, ih (c, v)]
      cases resD L os as ns <;> rfl
    · rw [if_neg hn, if_neg hn]
      unfold resU
      cases lab L n with
      | none => rfl
      | some k =>
        have e1 : (pre ++ (c, v) :: os).getD pre.length (0, 0) = (c, v) := by simp
        have e2 : ∀ x, (pre ++ (c, v) :: os).set pre.length x = pre ++ x :: os := fun x => by simp
        simp only [e1, e2]
        have e3 : (k : Int) - ((a + 3 : Nat) : Int) = (k : Int) - (a : Int) - 3 := by omega
        rw [e3, ih]
        cases resD L os as ns <;> rfl
  | [], _ :: _, _, _, h1, _ => by simp at h1
  | [], [], _ :: _, _, _, h2 => by simp at h2
  | _ :: _, [], _, _, h1, _ => by simp at h1
  | _ :: _, _ :: _, [], _, _, h2 => by simp at h2
theorem res_doc {d : DS} {st : PS} (h : DR d st) : resU st.labs st.us st.ops = resD d.labs d.ops d.ats d.nms := by
  have := res_go d.labs d.ops d.ats d.nms [] h.la h.ln
  simp only [List.length_nil, List.nil_append] at this
  rw [h.us, ← h.labs, ← h.ops, this]
  cases resD d.labs d.ops d.ats d.nms <;> rfl
end Go.Proofs.YtbjopdmchmekpaaDoor
