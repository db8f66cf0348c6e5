/- A call of a dict (layer 17) as plain data: how it goes on, what the document says of it, and that both are the same. -/
import Derived.Test.YtbajgbknjmbimabCoM
namespace Go.Proofs.Ytbajgbknjmbimab.Di
open Go.ChangeShapes Go.WideShapes Go.ChangeAt Go.RowKit

/-- How many arguments a call has; -1: it is none. -/
def arV (call : Int) : Int := if call = 3 then 2 else if call = 2 then 1 else if call = 4 then 1 else if call = 5 then 0 else -1
def rightV (base most call : Int) (n : Nat) : Bool := takesV base most (arV call) n
/-- A word without its sign. -/
def uW (z : Int) : Int := z % 18446744073709551616
/-- The first slot of a key. -/
def firV (k n : Int) : Int := uW k * 11400714819323198485 % 18446744073709551616 / 4294967296 * n % 18446744073709551616 / 4294967296
/-- A look for a key under way. -/
structure Se where
  key : Int
  most : Int
  left : Int
  slot : Int
  asked : Int
  free : Int
  found : Int
def se0 : Se := ⟨0, 0, 0, 0, 0, 0, 0⟩
def mkS (key most : Int) : Se := ⟨key, most, most, firV key most, 0, -1, -1⟩
def nxtV (n i : Int) : Int := if i + 1 = n then 0 else i + 1
def walkS (s : Se) : Se := { s with slot := nxtV s.most s.slot, asked := 0, left := s.left - 1 }
def freeS (s : Se) : Se := if s.free = -1 then { s with free := s.slot } else s
def askS (s : Se) : Se × Int × Bool := if 0 < s.left then ({ s with asked := 1 }, 1 + 3 * s.slot, true) else ({ s with left := 0 }, 0, false)
/-- It goes on by a word: the cell that is read next, or none. -/
def goS (s : Se) (v : Int) : Se × Int × Bool :=
  if 0 < s.left then
    (if s.asked = 0 then ({ s with asked := 1 }, 1 + 3 * s.slot, true)
    else if s.asked = 1 then (if v = 1 then ({ s with asked := 2 }, 2 + 3 * s.slot, true) else if v = 0 then ({ freeS s with left := 0 }, 0, false) else askS (walkS (freeS s)))
    else if v = s.key then ({ s with found := s.slot, left := 0 }, 0, false) else askS (walkS s))
  else ({ s with left := 0 }, 0, false)
structure OkS (s : Se) : Prop where
  l : 0 ≤ s.left ∧ s.left ≤ 16
  st : 0 ≤ s.slot ∧ s.slot ≤ 16
  ls : 0 < s.left → s.slot < s.most
  m : 0 ≤ s.most ∧ s.most ≤ 16
  a : s.asked = 0 ∨ s.asked = 1 ∨ s.asked = 2
  f : -1 ≤ s.free ∧ s.free ≤ 15
  d : -1 ≤ s.found ∧ s.found ≤ 15
structure Mc where
  base : Int
  most : Int
  call : Int
  se : Se
  told : Int
  last : Wn
  val : Int
  cnt : Int
def mkM (base most call : Int) (A : List Int) : Mc := ⟨base, most, call, if call = 5 then se0 else mkS (nth A 0) most, 0, wn0, if call = 3 then nth A 1 else 0, 0⟩
def clV (s p : Int) : Int := 1 + 3 * s + p
def getT (m : Mc) (v : Int) : Wn := if m.se.found = -1 then endW 0 1 else if m.told = 1 then readW (m.base + clV m.se.found 2) else endW v 0
def chgT (m : Mc) : Wn := if m.told = 1 then putW (m.base + clV m.se.found 2) m.val else endW 0 0
def putS (m : Mc) (v : Int) : Mc × Wn :=
  if m.se.found = -1 then
    (if m.told = 1 then (m, readW (m.base + 0))
    else if m.told = 2 then (if m.most ≤ v ∨ m.se.free = -1 then (m, endW 0 2) else ({ m with cnt := v }, putW (m.base + clV m.se.free 0) 1))
    else if m.told = 3 then (m, putW (m.base + clV m.se.free 1) m.se.key)
    else if m.told = 4 then (m, putW (m.base + clV m.se.free 2) m.val)
    else if m.told = 5 then (m, putW (m.base + 0) (wrap64 (m.cnt + 1))) else (m, endW 0 0))
  else (m, chgT m)
def delT (m : Mc) (v : Int) : Wn := if m.se.found = -1 then endW 0 1 else if m.told = 1 then putW (m.base + clV m.se.found 0) 2 else if m.told = 2 then readW (m.base + 0) else if m.told = 3 then putW (m.base + 0) (wrap64 (v - 1)) else endW 0 0
def lenT (m : Mc) (v : Int) : Wn := if m.told = 1 then readW (m.base + 0) else endW v 0
/-- Behind the look. -/
def afterM (m : Mc) (v : Int) : Mc × Wn := if m.call = 2 then (m, getT m v) else if m.call = 3 then putS m v else if m.call = 4 then (m, delT m v) else (m, lenT m v)
def stepM (m : Mc) (v : Int) : Mc × Wn :=
  if (goS m.se v).2.2 = true then ({ m with se := (goS m.se v).1 }, readW (m.base + (goS m.se v).2.1))
  else afterM { m with se := (goS m.se v).1, told := m.told + 1 } v
def tellM (m : Mc) (v : Int) : Wn := if m.last.kind = 6 then m.last else (stepM m v).2
def goM (m : Mc) (v : Int) : Mc := if m.last.kind = 6 then m else { (stepM m v).1 with last := (stepM m v).2 }

/-! ### the document's -/
structure Lk where
  found : Int
  free : Int
  reads : Nat
  over : Bool
  cell : Int
def findG (key n : Int) : Nat → Int → Int → Nat → List Int → Lk
  | 0, _, free, r, _ => ⟨-1, free, r, true, 0⟩
  | _ + 1, i, free, r, [] => ⟨-1, free, r, false, 1 + 3 * i⟩
  | c + 1, i, free, r, st :: R =>
    if st = 1 then (match R with
      | [] => ⟨-1, free, r + 1, false, 2 + 3 * i⟩
      | k :: R' => if k = key then ⟨i, free, r + 2, true, 0⟩ else findG key n c (nxtV n i) free (r + 2) R')
    else if st = 0 then ⟨-1, if free < 0 then i else free, r + 1, true, 0⟩
    else findG key n c (nxtV n i) (if free < 0 then i else free) (r + 1) R
def findV (key n : Int) (R : List Int) : Lk := findG key n n.toNat (firV key n) (-1) 0 R
def putsV (base most : Int) (A : List Int) (x : Lk) (L : List Int) (k : Int) : Wn :=
  if 0 ≤ x.found then (if k = 0 then putW (base + 3 + 3 * x.found) (nth A 1) else endW 0 0)
  else if L.length = 0 then readW base
  else if most ≤ nth L 0 ∨ x.free < 0 then endW 0 2
  else if k = 0 then putW (base + 1 + 3 * x.free) 1
  else if k = 1 then putW (base + 1 + 3 * x.free + 1) (nth A 0)
  else if k = 2 then putW (base + 1 + 3 * x.free + 2) (nth A 1)
  else if k = 3 then putW base (wrap64 (nth L 0 + 1)) else endW 0 0
def restV (base most call : Int) (A : List Int) (x : Lk) (L : List Int) (k : Int) : Wn :=
  if call = 3 then putsV base most A x L k
  else if x.found < 0 then endW 0 1
  else if call = 2 then (if L.length = 0 then readW (base + 3 + 3 * x.found) else endW (nth L 0) 0)
  else if k = 0 then putW (base + 1 + 3 * x.found) 2
  else if L.length = 0 then readW base
  else if k = 1 then putW base (wrap64 (nth L 0 - 1)) else endW 0 0
/-- The document's next want. -/
def docV (base most call : Int) (A R : List Int) (k : Int) : Wn :=
  if call = 5 then (if R.length = 0 then readW base else endW (nth R 0) 0)
  else if (findV (nth A 0) most R).over = false then readW (base + (findV (nth A 0) most R).cell)
  else restV base most call A (findV (nth A 0) most R) (R.drop (findV (nth A 0) most R).reads) k
def wantV (base most call : Int) (A R : List Int) (k : Int) (last : Wn) : Wn := if last.kind = 6 then last else docV base most call A R k
/-- What was read, how much was written, behind a word that is handed in. -/
def readV (R : List Int) (last : Wn) (v : Int) : List Int := if last.kind = 2 then R ++ [v] else R
def cntV (k : Int) (last : Wn) : Int := if last.kind = 3 then k + 1 else k

/-! ### the look, and the document's -/
theorem fir_zero (k : Int) : firV k 0 = 0 := by simp [firV]
theorem fir_lt {k n : Int} (hn : 0 < n ∧ n ≤ 16) : 0 ≤ firV k n ∧ firV k n < n := by
  unfold firV
  generalize hx : uW k * 11400714819323198485 % 18446744073709551616 = x
  have h1 : 0 ≤ x := by rw [← hx]; exact Int.emod_nonneg _ (by decide)
  have h2 : x < 18446744073709551616 := by rw [← hx]; exact Int.emod_lt_of_pos _ (by decide)
  have h3 : 0 ≤ x / 4294967296 := by omega
  have h4 : x / 4294967296 ≤ 4294967295 := by omega
  generalize x / 4294967296 = y at *
  have h5 : 0 ≤ y * n := Int.mul_nonneg h3 (by omega)
  have h6 : y * n ≤ 4294967295 * n := Int.mul_le_mul_of_nonneg_right h4 (by omega)
  generalize y * n = z at *
  omega
theorem nxt_lt {n i : Int} (h : 0 ≤ i ∧ i < n) : 0 ≤ nxtV n i ∧ nxtV n i < n := by
  unfold nxtV
  split <;> omega
theorem free_keeps (s : Se) : (freeS s).key = s.key ∧ (freeS s).most = s.most ∧ (freeS s).left = s.left ∧ (freeS s).slot = s.slot ∧ (freeS s).asked = s.asked ∧ (freeS s).found = s.found ∧ (freeS s).free = if s.free = -1 then s.slot else s.free := by
  unfold freeS
  split <;> simp
theorem ok_free {s : Se} (h : OkS s) (hl : 0 < s.left) : OkS (freeS s) := by
  obtain ⟨h1, h2, h3, h4, h5, h6, h7⟩ := free_keeps s
  refine ⟨by rw [h3]; exact h.l, by rw [h4]; exact h.st, by rw [h3, h4, h2]; exact h.ls, by rw [h2]; exact h.m, by rw [h5]; exact h.a, ?_, by rw [h6]; exact h.d⟩
  rw [h7]
  have := h.ls hl
  have := h.m
  have := h.st
  have := h.f
  split <;> omega
theorem ok_walk {s : Se} (h : OkS s) (hl : 0 < s.left) : OkS (walkS s) := by
  have h1 := h.ls hl
  have h2 := h.st
  have h3 := h.m
  have h4 := h.l
  have h5 := nxt_lt (n := s.most) (i := s.slot) ⟨h2.1, h1⟩
  exact ⟨⟨by simp only [walkS]; omega, by simp only [walkS]; omega⟩, ⟨by simp only [walkS]; omega, by simp only [walkS]; omega⟩, fun _ => by simp only [walkS]; omega, h3, Or.inl rfl, h.f, h.d⟩
theorem ok_left {s : Se} (h : OkS s) : OkS { s with left := 0 } := ⟨⟨by simp, by simp⟩, h.st, fun h => by simp at h, h.m, h.a, h.f, h.d⟩
theorem ok_ask {s : Se} (h : OkS s) : OkS (askS s).1 ∧ ((askS s).2.2 = true → 0 ≤ (askS s).2.1 ∧ (askS s).2.1 ≤ 100) := by
  unfold askS
  split
  · rename_i hl
    have := h.ls hl
    have := h.st
    have := h.m
    exact ⟨⟨h.l, h.st, h.ls, h.m, Or.inr (Or.inl rfl), h.f, h.d⟩, fun _ => ⟨by simp only; omega, by simp only; omega⟩⟩
  · exact ⟨ok_left h, fun h => by simp at h⟩
theorem ok_goS {s : Se} (h : OkS s) (v : Int) : OkS (goS s v).1 ∧ ((goS s v).2.2 = true → 0 ≤ (goS s v).2.1 ∧ (goS s v).2.1 ≤ 100) := by
  unfold goS
  by_cases hl : 0 < s.left
  · rw [if_pos hl]
    have h1 := h.ls hl
    have h2 := h.st
    have h3 := h.m
    split
    · exact ⟨⟨h.l, h.st, h.ls, h.m, Or.inr (Or.inl rfl), h.f, h.d⟩, fun _ => ⟨by simp only; omega, by simp only; omega⟩⟩
    · split
      · split
        · exact ⟨⟨h.l, h.st, h.ls, h.m, Or.inr (Or.inr rfl), h.f, h.d⟩, fun _ => ⟨by simp only; omega, by simp only; omega⟩⟩
        · split
          · exact ⟨ok_left (ok_free h hl), fun h => by simp at h⟩
          · exact ok_ask (ok_walk (ok_free h hl) (by rw [(free_keeps s).2.2.1]; exact hl))
      · split
        · exact ⟨⟨⟨by simp, by simp⟩, h.st, fun h => by simp at h, h.m, h.a, h.f, ⟨by simp only; omega, by simp only; omega⟩⟩, fun h => by simp at h⟩
        · exact ok_ask (ok_walk h hl)
  · rw [if_neg hl]
    exact ⟨ok_left h, fun h => by simp at h⟩
theorem ok_se0 : OkS se0 := ⟨by decide, by decide, by decide, by decide, by decide, by decide, by decide⟩
theorem ok_mkS {k n : Int} (h : 0 ≤ n ∧ n ≤ 16) : OkS (mkS k n) := by
  by_cases h0 : n = 0
  · subst h0
    have := fir_zero k
    exact ⟨by simp [mkS], by simp [mkS, this], by simp [mkS], by simp [mkS], by simp [mkS], by simp [mkS], by simp [mkS]⟩
  · have := fir_lt (k := k) (n := n) (by omega)
    exact ⟨by simp only [mkS]; omega, by simp only [mkS]; omega, by simp only [mkS]; omega, by simp only [mkS]; omega, by simp [mkS], by simp [mkS], by simp [mkS]⟩
/-- The cell that is read next. -/
def cellS (s : Se) : Int := if s.asked = 1 then 1 + 3 * s.slot else 2 + 3 * s.slot
/-- The document's look, from where the program's stands. -/
def resG (s : Se) (r : Nat) (T : List Int) : Lk :=
  if s.asked = 1 then findG s.key s.most s.left.toNat s.slot s.free r T
  else match T with
    | [] => ⟨-1, s.free, r, false, 2 + 3 * s.slot⟩
    | k :: T' => if k = s.key then ⟨s.slot, s.free, r + 1, true, 0⟩ else findG s.key s.most (s.left.toNat - 1) (nxtV s.most s.slot) s.free (r + 1) T'
/-- The program's look is under way, and so is the document's. -/
structure Srch (key most : Int) (s : Se) (R : List Int) : Prop where
  l : 0 < s.left
  a : s.asked = 1 ∨ s.asked = 2
  d : s.found = -1
  ok : OkS s
  k : s.key = key
  m : s.most = most
  res : ∀ T, findV key most (R ++ T) = resG s R.length T
  len : (R.length : Int) + 2 * s.left ≤ 2 * most + s.asked - 1
  fm : s.free < most
/-- The look is over. -/
structure Over (key most : Int) (s : Se) (R : List Int) : Prop where
  ok : OkS s
  l : s.left = 0
  k : s.key = key
  res : ∀ T, findV key most (R ++ T) = ⟨s.found, s.free, R.length, true, 0⟩
  len : (R.length : Int) ≤ 2 * most
  fm : s.free < most
  dm : s.found < most
theorem ask_cases (s : Se) : (0 < s.left ∧ askS s = ({ s with asked := 1 }, 1 + 3 * s.slot, true)) ∨ (¬ 0 < s.left ∧ askS s = ({ s with left := 0 }, 0, false)) := by
  unfold askS
  by_cases h : 0 < s.left
  · exact Or.inl ⟨h, if_pos h⟩
  · exact Or.inr ⟨h, if_neg h⟩
theorem res_nil {s : Se} (hl : 0 < s.left) (ha : s.asked = 1 ∨ s.asked = 2) (r : Nat) : resG s r [] = ⟨-1, s.free, r, false, cellS s⟩ := by
  unfold resG cellS
  rcases ha with h | h
  · rw [if_pos h, if_pos h]
    obtain ⟨c, hc⟩ : ∃ c, s.left.toNat = c + 1 := ⟨s.left.toNat - 1, by omega⟩
    rw [hc]
    rfl
  · rw [if_neg (by omega), if_neg (by omega)]
theorem free_if {s : Se} (h : OkS s) : (if s.free < 0 then s.slot else s.free) = (freeS s).free := by
  rw [(free_keeps s).2.2.2.2.2.2]
  have := h.f
  by_cases h1 : s.free = -1
  · rw [if_pos (by omega), if_pos h1]
  · rw [if_neg (by omega), if_neg h1]
/-- Behind a slot that is none: the next one is asked, or the way is at its end. -/
theorem res_walk {key most : Int} {s : Se} {R : List Int} {v : Int} (hl : 0 < s.left) (hd : s.found = -1) (ok : OkS s) (hk : s.key = key) (hm : s.most = most)
    (res : ∀ T, findV key most ((R ++ [v]) ++ T) = findG s.key s.most (s.left.toNat - 1) (nxtV s.most s.slot) s.free (R.length + 1) T) (len : (R.length : Int) + 1 + 2 * s.left ≤ 2 * most + 2) (fm : s.free < most) :
    ((askS (walkS s)).2.2 = true → (askS (walkS s)).2.1 = cellS (askS (walkS s)).1 ∧ Srch key most (askS (walkS s)).1 (R ++ [v])) ∧ ((askS (walkS s)).2.2 = false → Over key most (askS (walkS s)).1 (R ++ [v])) := by
  have okw := ok_walk ok hl
  have oka := (ok_ask okw).1
  have hll : (walkS s).left = s.left - 1 := rfl
  rcases ask_cases (walkS s) with ⟨h1, h2⟩ | ⟨h1, h2⟩
  · rw [h2] at oka ⊢
    refine ⟨fun _ => ⟨by simp [cellS], ?_⟩, fun h => by simp at h⟩
    refine ⟨h1, Or.inl rfl, hd, oka, hk, hm, fun T => ?_, ?_, fm⟩
    · rw [res T]
      unfold resG
      rw [if_pos rfl]
      simp only [walkS, List.length_append, List.length_singleton]
      have : (s.left - 1).toNat = s.left.toNat - 1 := by omega
      rw [this]
    · simp only [List.length_append, List.length_singleton, hll]
      push_cast
      omega
  · rw [h2] at oka ⊢
    refine ⟨fun h => by simp at h, fun _ => ⟨oka, rfl, hk, fun T => ?_, ?_, fm, by simp only [walkS, hd]; have := ok.ls hl; have := ok.st; omega⟩⟩
    · rw [res T]
      have : s.left.toNat - 1 = 0 := by rw [hll] at h1; omega
      rw [this]
      simp only [findG, walkS, List.length_append, List.length_singleton, hd]
    · simp only [List.length_append, List.length_singleton]
      push_cast
      omega
theorem srch_step {key most : Int} {s : Se} {R : List Int} (h : Srch key most s R) (v : Int) :
    ((goS s v).2.2 = true → (goS s v).2.1 = cellS (goS s v).1 ∧ Srch key most (goS s v).1 (R ++ [v])) ∧ ((goS s v).2.2 = false → Over key most (goS s v).1 (R ++ [v])) := by
  obtain ⟨l, a, d, ok, k, m, res, len, fm⟩ := h
  have hsm : s.slot < most := by rw [← m]; exact ok.ls l
  have hst := ok.st
  have hres : ∀ T, findV key most ((R ++ [v]) ++ T) = resG s R.length (v :: T) := fun T => by
    rw [List.append_assoc]
    exact res (v :: T)
  have okg := (ok_goS ok v).1
  obtain ⟨c, hc⟩ : ∃ c, s.left.toNat = c + 1 := ⟨s.left.toNat - 1, by omega⟩
  unfold goS at okg ⊢
  rw [if_pos l] at okg ⊢
  have ha0 : s.asked ≠ 0 := by omega
  rw [if_neg ha0] at okg ⊢
  by_cases ha : s.asked = 1
  · rw [if_pos ha] at okg ⊢
    have hr1 : ∀ T, findV key most ((R ++ [v]) ++ T) = findG s.key s.most (c + 1) s.slot s.free R.length (v :: T) := fun T => by
      rw [hres T]
      unfold resG
      rw [if_pos ha, hc]
    by_cases h1 : v = 1
    · rw [if_pos h1] at okg ⊢
      refine ⟨fun _ => ⟨by simp [cellS], ?_⟩, fun h => by simp at h⟩
      refine ⟨l, Or.inr rfl, d, okg, k, m, fun T => ?_, ?_, fm⟩
      · rw [hr1 T]
        subst h1
        unfold resG
        rw [if_neg (by simp)]
        simp only [hc, List.length_append, List.length_singleton]
        cases T with
        | nil => simp [findG]
        | cons x T => simp [findG]
      · simp only [List.length_append, List.length_singleton]
        push_cast
        omega
    · rw [if_neg h1] at okg ⊢
      obtain ⟨f1, f2, f3, f4, f5, f6, f7⟩ := free_keeps s
      have ffm : (freeS s).free < most := by rw [f7]; split <;> omega
      by_cases h0 : v = 0
      · rw [if_pos h0] at okg ⊢
        refine ⟨fun h => by simp at h, fun _ => ⟨okg, rfl, by simp only [f1]; exact k, fun T => ?_, ?_, ffm, by simp only [f6, d]; omega⟩⟩
        · rw [hr1 T]
          simp only [findG, if_neg h1, if_pos h0, List.length_append, List.length_singleton, f6, d]
          rw [free_if ok]
        · simp only [List.length_append, List.length_singleton]
          push_cast
          omega
      · rw [if_neg h0] at okg ⊢
        refine res_walk (by rw [f3]; exact l) (by rw [f6]; exact d) (ok_free ok l) (by rw [f1]; exact k) (by rw [f2]; exact m) (fun T => ?_) (by rw [f3]; omega) ffm
        rw [hr1 T, f1, f2, f3, f4, hc, ← free_if ok]
        simp only [findG, if_neg h1, if_neg h0]
        rfl
  · rw [if_neg ha] at okg ⊢
    have ha2 : s.asked = 2 := by omega
    have hr2 : ∀ T, findV key most ((R ++ [v]) ++ T) = if v = s.key then ⟨s.slot, s.free, R.length + 1, true, 0⟩ else findG s.key s.most (s.left.toNat - 1) (nxtV s.most s.slot) s.free (R.length + 1) T := fun T => by
      rw [hres T]
      unfold resG
      rw [if_neg ha]
    by_cases hk : v = s.key
    · rw [if_pos hk] at okg ⊢
      refine ⟨fun h => by simp at h, fun _ => ⟨okg, rfl, k, fun T => ?_, ?_, fm, hsm⟩⟩
      · rw [hr2 T, if_pos hk]
        simp
      · simp only [List.length_append, List.length_singleton]
        push_cast
        omega
    · rw [if_neg hk] at okg ⊢
      exact res_walk l d ok k m (fun T => by rw [hr2 T, if_neg hk]) (by omega) fm
/-- How a look begins. -/
theorem srch_first {key most : Int} (hm : 0 ≤ most ∧ most ≤ 16) (v : Int) :
    ((goS (mkS key most) v).2.2 = true → (goS (mkS key most) v).2.1 = cellS (goS (mkS key most) v).1 ∧ Srch key most (goS (mkS key most) v).1 []) ∧ ((goS (mkS key most) v).2.2 = false → Over key most (goS (mkS key most) v).1 []) := by
  have okg := (ok_goS (ok_mkS (k := key) hm) v).1
  unfold goS at okg ⊢
  by_cases h0 : 0 < (mkS key most).left
  · rw [if_pos h0, if_pos (show (mkS key most).asked = 0 from rfl)] at okg ⊢
    refine ⟨fun _ => ⟨by simp [cellS], ?_⟩, fun h => by simp at h⟩
    refine ⟨h0, Or.inl rfl, rfl, okg, rfl, rfl, fun T => ?_, ?_, by simp only [mkS]; omega⟩
    · simp [resG, findV, mkS]
    · simp [mkS]
  · rw [if_neg h0] at okg ⊢
    refine ⟨fun h => by simp at h, fun _ => ⟨okg, rfl, rfl, fun T => ?_, ?_, by simp only [mkS]; omega, by simp only [mkS]; omega⟩⟩
    · have : most.toNat = 0 := by simp only [mkS] at h0; omega
      simp [findV, this, findG, mkS]
    · simp
      omega
end Go.Proofs.Ytbajgbknjmbimab.Di
