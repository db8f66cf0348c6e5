/- Programs as texts, as plain data: where instructions stand, where they lead, what Print writes. -/
import Derived.Test.YtbjopdmchmekpaaDoorCodP
import Derived.Lib.ItoaNum
namespace Go.Proofs.YtbjopdmchmekpaaDoor

/-- A list of bytes as a text. -/
def S (l : List UInt8) : ByteArray := ⟨l.toArray⟩
theorem S_app (a b : List UInt8) : S a ++ S b = S (a ++ b) := by
  apply ByteArray.ext
  apply Array.ext'
  rw [ByteArray.data_append]
  simp [S]
theorem S_size (l : List UInt8) : (S l).size = l.length := by
  show l.toArray.size = _
  simp
theorem S_list (s : ByteArray) : S s.data.toList = s := by
  apply ByteArray.ext
  simp [S]

def wordT : List (List UInt8) := [[99, 111, 109, 109, 105, 116], [112, 117, 115, 104, 56], [112, 117, 115, 104, 49, 54], [112, 117, 115, 104, 54, 52], [100, 117, 112], [100, 114, 111, 112], [115, 119, 97, 112], [111, 118, 101, 114], [97, 100, 100], [115, 117, 98], [109, 117, 108], [100, 105, 118], [114, 101, 109], [97, 110, 100], [111, 114], [120, 111, 114], [110, 111, 116], [115, 104, 108], [115, 104, 114], [117, 115, 104, 114], [101, 113], [108, 116], [117, 108, 116], [99, 111, 110, 118], [106, 117, 109, 112], [106, 117, 109, 112, 122], [99, 97, 108, 108], [114, 101, 116], [97, 114, 103], [116, 101, 108, 108], [97, 98, 111, 114, 116], [108, 111, 97, 100], [115, 116, 111, 114, 101], [99, 97, 100, 100], [99, 103, 101, 116], [99, 112, 117, 116], [99, 100, 101, 108], [99, 108, 101, 110], [99, 104, 97, 115], [99, 108, 101, 97, 115, 116], [99, 110, 101, 120, 116]]
def wordL (c : Nat) : List UInt8 := wordT.getD c []

/-! ### where instructions stand -/
def pos (l : List (Int × Int)) (i : Nat) : Nat := (allB (l.take i)).length
def ops (l : List (Int × Int)) (i : Nat) : Int × Int := l.getD i (0, 0)
def cd (l : List (Int × Int)) (i : Nat) : Nat := (ops l i).1.toNat
def opd (l : List (Int × Int)) (i : Nat) : Int := (ops l i).2
theorem allB_append (a b : List (Int × Int)) : allB (a ++ b) = allB a ++ allB b := by simp [allB]
theorem take_snoc (l : List (Int × Int)) (i : Nat) (h : i < l.length) : l.take (i + 1) = l.take i ++ [ops l i] := by
  rw [List.take_add_one, List.getElem?_eq_getElem h]
  simp [ops, h]
theorem pos_zero (l : List (Int × Int)) : pos l 0 = 0 := by simp [pos, allB]
theorem pos_succ (l : List (Int × Int)) (i : Nat) (h : i < l.length) : pos l (i + 1) = pos l i + (1 + wdC (cd l i)) := by
  unfold pos
  rw [take_snoc l i h, allB_append, List.length_append]
  congr 1
  simp only [allB, List.flatMap_cons, List.flatMap_nil, List.append_nil, bytesI_len]
  rfl
theorem pos_mono (l : List (Int × Int)) (i j : Nat) (h : i ≤ j) : pos l i ≤ pos l j := by
  unfold pos
  obtain ⟨t, ht⟩ : ∃ t, l.take j = l.take i ++ t := ⟨(l.take j).drop i, by rw [show l.take i = (l.take j).take i by rw [List.take_take, Nat.min_eq_left h], List.take_append_drop]⟩
  rw [ht, allB_append, List.length_append]
  omega
theorem pos_lt (l : List (Int × Int)) (i j : Nat) (h : i < j) (hj : j ≤ l.length) : pos l i < pos l j := by
  have h1 := pos_succ l i (by omega)
  have h2 := pos_mono l (i + 1) j h
  omega
theorem pos_inj (l : List (Int × Int)) (i j : Nat) (hi : i ≤ l.length) (hj : j ≤ l.length) (h : pos l i = pos l j) : i = j := by
  rcases Nat.lt_trichotomy i j with h1 | h1 | h1
  · have := pos_lt l i j h1 hj; omega
  · exact h1
  · have := pos_lt l j i h1 hi; omega
theorem ops_mem (l : List (Int × Int)) (i : Nat) (h : i < l.length) : ops l i ∈ l := by
  have : ops l i = l[i] := by simp [ops, h]
  rw [this]
  exact List.getElem_mem h

/-- A program that Decode takes: its instructions, their places, what At tells there. -/
structure Prg (s : ByteArray) (l : List (Int × Int)) : Prop where
  ok : okL l
  all : allB l = bl s
  size : pos l l.length = s.size
  small : s.size ≤ 512
  len : l.length ≤ s.size
  dec : decV s = (l, 0, 0)
theorem prg_of {s : ByteArray} (h : (decV s).2.1 = 0) : Prg s (decV s).1 := by
  have h5 : s.size ≤ 512 := by
    rcases Nat.lt_or_ge 512 s.size with hb | hb
    · unfold decV at h
      rw [if_pos hb] at h
      exact absurd h (by decide)
    · exact hb
  have e : decV s = decG s (s.size + 1) 0 [] := by unfold decV; rw [if_neg (by omega)]
  rw [e] at h
  obtain ⟨t, h1, h2, h3, h4⟩ := dec_ok s (s.size + 1) 0 [] (by omega) (by omega) h
  rw [List.nil_append] at h1
  rw [← e] at h1 h h4
  have hall : allB t = bl s := by rw [h3]; rfl
  rw [h1]
  have hsz : pos t t.length = s.size := by unfold pos; rw [List.take_length, hall, bl_len]
  refine ⟨h2, hall, hsz, h5, ?_, by
    have : decV s = ((decV s).1, (decV s).2.1, (decV s).2.2) := rfl
    rw [h, h4, h1] at this
    exact this⟩
  rw [← hsz]
  clear hsz h1 h h4 h3 e
  have : ∀ i, i ≤ t.length → i ≤ pos t i := by
    intro i
    induction i with
    | zero => intro _; omega
    | succ i ih => intro hi; rw [pos_succ t i (by omega)]; have := ih (by omega); omega
  exact this _ (Nat.le_refl _)
theorem Prg.cd_ok {s : ByteArray} {l : List (Int × Int)} (h : Prg s l) (i : Nat) (hi : i < l.length) : cd l i ≤ 40 ∧ (ops l i).1 = (cd l i : Int) ∧ loC (cd l i) ≤ opd l i ∧ opd l i ≤ hiC (cd l i) := by
  obtain ⟨h1, h2, h3, h4⟩ := h.ok _ (ops_mem l i hi)
  exact ⟨by unfold cd; omega, by unfold cd; omega, h3, h4⟩
theorem Prg.at_pos {s : ByteArray} {l : List (Int × Int)} (h : Prg s l) (i : Nat) (hi : i < l.length) : atV (fr s (pos l i)) (s.size - pos l i) = some (cd l i, opd l i) := by
  obtain ⟨h1, h2, h3, h4⟩ := h.cd_ok i hi
  have hs := h.size
  have hp := pos_succ l i hi
  have hm := pos_mono l (i + 1) l.length (by omega)
  refine at_bytes ⟨by omega, by omega, by simpa using h3, by simpa using h4⟩ (by omega) fun j hj => ?_
  have hb : bl s = allB (l.take i) ++ (bytesI (cd l i) (opd l i) ++ allB (l.drop (i + 1))) := by
    rw [← h.all]
    conv => lhs; rw [← List.take_append_drop (i + 1) l, allB_append, take_snoc l i hi, allB_append]
    simp [allB, cd, opd]
  have e : (bl s)[pos l i + j]? = (bytesI (cd l i) (opd l i))[j]? := by
    rw [hb, List.getElem?_append_right (by unfold pos; omega), List.getElem?_append_left (by rw [bytesI_len]; unfold pos; omega)]
    congr 1
    unfold pos
    omega
  rw [← e, bl_get s _ (by omega)]
  rfl
theorem Prg.pos_le {s : ByteArray} {l : List (Int × Int)} (h : Prg s l) (i : Nat) (hi : i ≤ l.length) : pos l i ≤ s.size ∧ (i < l.length → pos l i < s.size) ∧ (s.size ≤ pos l i → i = l.length) := by
  have hs := h.size
  refine ⟨by rw [← hs]; exact pos_mono l i _ hi, fun hl => by rw [← hs]; exact pos_lt l i _ hl (Nat.le_refl _), fun hg => ?_⟩
  rcases Nat.lt_or_eq_of_le hi with hl | hl
  · have := pos_lt l i l.length hl (Nat.le_refl _)
    omega
  · exact hl

/-! ### where they lead -/
def tgt (c : Nat) (x : Int) (b : Nat) : Option Int := if c = 24 ∨ c = 25 then some (b + x) else if c = 26 then some x else none
def isPos (l : List (Int × Int)) (z : Int) : Bool := (List.range (l.length + 1)).any fun i => decide ((pos l i : Int) = z)
theorem isPos_iff (l : List (Int × Int)) (z : Int) : isPos l z = true ↔ ∃ i, i ≤ l.length ∧ (pos l i : Int) = z := by
  unfold isPos
  rw [List.any_eq_true]
  constructor
  · rintro ⟨i, h1, h2⟩
    exact ⟨i, by simpa [Nat.lt_succ_iff] using h1, by simpa using h2⟩
  · rintro ⟨i, h1, h2⟩
    exact ⟨i, by simpa [Nat.lt_succ_iff] using h1, by simpa using h2⟩
theorem isPos_pos (l : List (Int × Int)) (i : Nat) (h : i ≤ l.length) : isPos l (pos l i : Int) = true := (isPos_iff l _).2 ⟨i, h, rfl⟩
def tg (l : List (Int × Int)) (i : Nat) : Option Int := tgt (cd l i) (opd l i) (pos l (i + 1))
def led (l : List (Int × Int)) (i : Nat) : Option Nat := match tg l i with | some z => if isPos l z then some z.toNat else none | none => none
/-- Does one of the first n lead to a place? -/
def mkd (l : List (Int × Int)) (n j : Nat) : Bool := (List.range n).any fun i => led l i == some j
theorem led_pos {l : List (Int × Int)} {i j : Nat} (h : led l i = some j) : isPos l (j : Int) = true ∧ tg l i = some (j : Int) := by
  unfold led at h
  cases e : tg l i with
  | none => rw [e] at h; cases h
  | some z =>
    rw [e] at h
    simp only at h
    split at h
    · rename_i hp
      have hz : 0 ≤ z := by
        obtain ⟨k, _, hk⟩ := (isPos_iff l z).1 hp
        omega
      have : z.toNat = j := Option.some.inj h
      have hz2 : z = (j : Int) := by omega
      rw [← hz2]
      exact ⟨hp, rfl⟩
    · cases h
theorem led_of {l : List (Int × Int)} {i : Nat} {z : Int} (h : tg l i = some z) (hp : isPos l z = true) : led l i = some z.toNat := by
  unfold led
  rw [h]
  simp [hp]
theorem led_no {l : List (Int × Int)} {i : Nat} {z : Int} (h : tg l i = some z) (hp : isPos l z = false) : led l i = none := by
  unfold led
  rw [h]
  simp [hp]
theorem led_none {l : List (Int × Int)} {i : Nat} (h : tg l i = none) : led l i = none := by
  unfold led
  rw [h]
theorem mkd_succ (l : List (Int × Int)) (n j : Nat) : mkd l (n + 1) j = (mkd l n j || (led l n == some j)) := by
  unfold mkd
  rw [List.range_succ, List.any_append]
  simp
theorem mkd_iff (l : List (Int × Int)) (n j : Nat) : mkd l n j = true ↔ ∃ i, i < n ∧ led l i = some j := by
  unfold mkd
  rw [List.any_eq_true]
  constructor
  · rintro ⟨i, h1, h2⟩
    exact ⟨i, by simpa using h1, by simpa using h2⟩
  · rintro ⟨i, h1, h2⟩
    exact ⟨i, by simpa using h1, by simpa using h2⟩
theorem mkd_pos {l : List (Int × Int)} {n j : Nat} (h : mkd l n j = true) : isPos l (j : Int) = true := by
  obtain ⟨i, _, hi⟩ := (mkd_iff l n j).1 h
  exact (led_pos hi).1
/-- A place that is led to and is one is marked. -/
theorem mkd_led {l : List (Int × Int)} {i : Nat} {z : Int} (hi : i < l.length) (h : tg l i = some z) : (decide (0 ≤ z) && mkd l l.length z.toNat) = isPos l z := by
  cases hp : isPos l z with
  | true =>
    have hz : 0 ≤ z := by
      obtain ⟨k, _, hk⟩ := (isPos_iff l z).1 hp
      omega
    have := led_of h hp
    rw [(mkd_iff l l.length z.toNat).2 ⟨i, hi, this⟩]
    simp [hz]
  | false =>
    cases hm : mkd l l.length z.toNat with
    | false => simp
    | true =>
      have := mkd_pos hm
      by_cases hz : 0 ≤ z
      · rw [Int.toNat_of_nonneg hz, hp] at this; cases this
      · simp [hz]

/-! ### the text -/
def labT (p : Nat) : List UInt8 := 76 :: Lib.itoa (p : Int)
def labL (p : Nat) : List UInt8 := labT p ++ [58, 10]
def opT (l : List (Int × Int)) (i : Nat) : List UInt8 := match led l i with | some k => labT k | none => Lib.itoa (opd l i)
def insT (l : List (Int × Int)) (i : Nat) : List UInt8 := wordL (cd l i) ++ (if 0 < wdC (cd l i) then 32 :: opT l i else []) ++ [10]
def lnT (l : List (Int × Int)) (i : Nat) : List UInt8 := (if mkd l l.length (pos l i) then labL (pos l i) else []) ++ insT l i
def txT (l : List (Int × Int)) (n : Nat) : List UInt8 := (List.range n).flatMap (lnT l)
def prT (l : List (Int × Int)) : List UInt8 := txT l l.length ++ (if mkd l l.length (pos l l.length) then labL (pos l l.length) else [])
theorem txT_succ (l : List (Int × Int)) (n : Nat) : txT l (n + 1) = txT l n ++ lnT l n := by
  unfold txT
  rw [List.range_succ, List.flatMap_append]
  simp
def prV (s : ByteArray) : List UInt8 × Int := if (decV s).2.1 = 0 then (prT (decV s).1, 0) else ([], (decV s).2.1)
theorem led_wd {l : List (Int × Int)} {i : Nat} (h : tg l i ≠ none) : wdC (cd l i) = 2 ∧ (cd l i = 24 ∨ cd l i = 25 ∨ cd l i = 26) := by
  unfold tg tgt at h
  split at h
  · rename_i hc
    rcases hc with hc | hc <;> rw [hc] <;> simp [wdC]
  · split at h
    · rename_i hc
      rw [hc]; simp [wdC]
    · exact absurd rfl h
end Go.Proofs.YtbjopdmchmekpaaDoor
