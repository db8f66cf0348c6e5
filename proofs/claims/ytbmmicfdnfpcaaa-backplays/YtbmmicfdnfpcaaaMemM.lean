/- The document's words of layer 3, as plain data: addresses, accesses, what a log says of a word. -/
import Derived.WalkKit
namespace Go.Proofs.Ytbmmicfdnfpcaaa

/-- An address, and an access. -/
structure Ad where
  k : Int
  i : Int
  j : Int
  deriving DecidableEq
structure Ac where
  t : Int
  k : Int
  a : Ad
  o : Int
  v : Int
  y : Bool
  deriving DecidableEq

/-- Does an access make a word another? -/
def hit (x : Ac) (a : Ad) : Bool := decide (x.a = a) && (x.k == 2 || x.k == 3 && x.y)
def first (a : Ad) : Int := if a.k = 2 then 1 else 0
/-- What a log says of a word. -/
def wordOf (L : List Ac) (a : Ad) : Int := L.foldl (fun z x => if hit x a then x.v else z) (first a)
theorem wordOf_nil (a : Ad) : wordOf [] a = first a := rfl
theorem wordOf_snoc (L : List Ac) (x : Ac) (a : Ad) : wordOf (L ++ [x]) a = if hit x a then x.v else wordOf L a := by
  unfold wordOf; rw [List.foldl_append]; rfl

/-- Is it an address of a memory of so many cells and slots? -/
def isAd (c r : Nat) (a : Ad) : Bool :=
  (a.k == 1 && a.i == 0 && a.j == 0) || (a.k == 2 && decide (0 ≤ a.i) && decide (a.i < (r : Int)) && a.j == 0) ||
  (a.k == 3 && decide (0 ≤ a.i) && decide (a.i < (r : Int)) && decide (0 ≤ a.j) && decide (a.j < 8)) || (a.k == 4 && decide (0 ≤ a.i) && decide (a.i < (c : Int)) && a.j == 0)
theorem isAd_cases {c r : Nat} {a : Ad} (h : isAd c r a = true) :
    a = ⟨1, 0, 0⟩ ∨ (∃ i : Nat, i < r ∧ a = ⟨2, i, 0⟩) ∨ (∃ i j : Nat, i < r ∧ j < 8 ∧ a = ⟨3, i, j⟩) ∨ (∃ i : Nat, i < c ∧ a = ⟨4, i, 0⟩) := by
  obtain ⟨k, i, j⟩ := a
  simp only [isAd, Bool.or_eq_true, Bool.and_eq_true, beq_iff_eq, decide_eq_true_eq] at h
  rcases h with ((⟨⟨rfl, rfl⟩, rfl⟩ | ⟨⟨⟨rfl, h1⟩, h2⟩, rfl⟩) | ⟨⟨⟨⟨rfl, h1⟩, h2⟩, h3⟩, h4⟩) | ⟨⟨⟨rfl, h1⟩, h2⟩, rfl⟩
  · exact Or.inl rfl
  · exact Or.inr (Or.inl ⟨i.toNat, by omega, by congr 1; omega⟩)
  · exact Or.inr (Or.inr (Or.inl ⟨i.toNat, j.toNat, by omega, by omega, by congr 1 <;> omega⟩))
  · exact Or.inr (Or.inr (Or.inr ⟨i.toNat, by omega, by congr 1; omega⟩))

/-- A word becomes another. -/
def upd (f : Ad → Int) (a : Ad) (z : Int) : Ad → Int := fun b => if a = b then z else f b
theorem wordOf_hit {L : List Ac} {x : Ac} (h : x.k = 2 ∨ x.k = 3 ∧ x.y = true) : wordOf (L ++ [x]) = upd (wordOf L) x.a x.v := by
  funext b
  rw [wordOf_snoc]
  unfold hit upd
  rcases h with h | ⟨h, h'⟩
  · by_cases e : x.a = b <;> simp [e, h]
  · by_cases e : x.a = b <;> simp [e, h, h']
theorem wordOf_miss {L : List Ac} {x : Ac} (h : (x.k == 2 || x.k == 3 && x.y) = false) : wordOf (L ++ [x]) = wordOf L := by
  funext b
  rw [wordOf_snoc]
  unfold hit
  rw [h]
  simp

/-- The cells of words. -/
def i64 (z : Int) : Value := .int .i64 z
def headC (f : Ad → Int) (r : Nat) : Array Value := ((List.range r).map fun (i : Nat) => Value.int .i64 (f ⟨2, (i : Int), 0⟩)).toArray
def sigC (f : Ad → Int) (r : Nat) : Array Value := ((List.range (r * 8)).map fun (q : Nat) => Value.int .i64 (f ⟨3, ((q / 8 : Nat) : Int), ((q % 8 : Nat) : Int)⟩)).toArray
def cellC (f : Ad → Int) (c : Nat) : Array Value := ((List.range c).map fun (i : Nat) => Value.int .i64 (f ⟨4, (i : Int), 0⟩)).toArray
theorem headC_get (f : Ad → Int) (r i : Nat) (h : i < r) : (headC f r)[i]? = some (.int .i64 (f ⟨2, (i : Int), 0⟩)) := by simp [headC, h]
theorem sigC_get (f : Ad → Int) (r i j : Nat) (h : i < r) (hj : j < 8) : (sigC f r)[i * 8 + j]? = some (.int .i64 (f ⟨3, (i : Int), (j : Int)⟩)) := by
  have h1 : i * 8 + j < r * 8 := by omega
  have h2 : (i * 8 + j) / 8 = i := by omega
  have h3 : (i * 8 + j) % 8 = j := by omega
  simp [sigC, h1]
  rw [show ((i : Int) * 8 + (j : Int)) / 8 = (i : Int) by omega, show (j : Int) % 8 = (j : Int) by omega]
theorem cellC_get (f : Ad → Int) (c i : Nat) (h : i < c) : (cellC f c)[i]? = some (.int .i64 (f ⟨4, (i : Int), 0⟩)) := by simp [cellC, h]
theorem map_set_range {f g : Nat → Value} {n i : Nat} {v : Value} (hi : i < n) (h1 : g i = v) (h2 : ∀ q, q ≠ i → g q = f q) : (((List.range n).map f).toArray.setIfInBounds i v) = ((List.range n).map g).toArray := by
  apply Array.ext_getElem?
  intro q
  rw [Array.getElem?_setIfInBounds]
  by_cases e : i = q
  · subst e; simp [hi, h1]
  · rw [if_neg e]
    by_cases hq : q < n
    · simp [hq, h2 q (fun e' => e e'.symm)]
    · simp [hq]
theorem map_same_range {f g : Nat → Value} {n : Nat} (h : ∀ q, q < n → g q = f q) : (((List.range n).map f).toArray) = ((List.range n).map g).toArray := by
  congr 1
  apply List.map_congr_left
  intro q hq
  exact (h q (List.mem_range.1 hq)).symm
theorem headC_set (f : Ad → Int) (r i : Nat) (z : Int) (h : i < r) : (headC f r).setIfInBounds i (.int .i64 z) = headC (upd f ⟨2, i, 0⟩ z) r :=
  map_set_range h (by simp [upd]) (fun q hq => by
    have : ¬ ((i : Int) = (q : Int)) := by omega
    simp [upd, this])
theorem cellC_set (f : Ad → Int) (c i : Nat) (z : Int) (h : i < c) : (cellC f c).setIfInBounds i (.int .i64 z) = cellC (upd f ⟨4, i, 0⟩ z) c :=
  map_set_range h (by simp [upd]) (fun q hq => by
    have : ¬ ((i : Int) = (q : Int)) := by omega
    simp [upd, this])
theorem sigC_set (f : Ad → Int) (r i j : Nat) (z : Int) (h : i < r) (hj : j < 8) : (sigC f r).setIfInBounds (i * 8 + j) (.int .i64 z) = sigC (upd f ⟨3, i, j⟩ z) r :=
  map_set_range (by omega) (by
    have h2 : (i * 8 + j) / 8 = i := by omega
    have h3 : (i * 8 + j) % 8 = j := by omega
    simp only [h2, h3, upd]
    simp) (fun q hq => by
    have : ¬ ((i : Int) = ((q / 8 : Nat) : Int) ∧ (j : Int) = ((q % 8 : Nat) : Int)) := by omega
    simp only [upd, Ad.mk.injEq, true_and, if_neg this])
theorem headC_other (f : Ad → Int) (r : Nat) (a : Ad) (z : Int) (h : a.k ≠ 2) : headC (upd f a z) r = headC f r :=
  map_same_range (fun q _ => by
    have : ¬ (a = ⟨2, (q : Int), 0⟩) := fun e => h (by rw [e])
    simp [upd, this])
theorem sigC_other (f : Ad → Int) (r : Nat) (a : Ad) (z : Int) (h : a.k ≠ 3) : sigC (upd f a z) r = sigC f r :=
  map_same_range (fun q _ => by
    have : ¬ (a = ⟨3, ((q / 8 : Nat) : Int), ((q % 8 : Nat) : Int)⟩) := fun e => h (by rw [e])
    simp only [upd, if_neg this])
theorem cellC_other (f : Ad → Int) (c : Nat) (a : Ad) (z : Int) (h : a.k ≠ 4) : cellC (upd f a z) c = cellC f c :=
  map_same_range (fun q _ => by
    have : ¬ (a = ⟨4, (q : Int), 0⟩) := fun e => h (by rw [e])
    simp [upd, this])
theorem upd_other {f : Ad → Int} {a b : Ad} {z : Int} (h : a ≠ b) : upd f a z b = f b := if_neg h
theorem upd_same (f : Ad → Int) (a : Ad) (z : Int) : upd f a z a = z := if_pos rfl

/-- The cells of an address, of an access, of a log. -/
def adC (a : Ad) : Array Value := #[.int .i64 a.k, .int .i64 a.i, .int .i64 a.j]
def acC (x : Ac) : Array Value := #[.int .i64 x.t, .int .i64 x.k, .int .i64 x.a.k, .int .i64 x.a.i, .int .i64 x.a.j, .int .i64 x.o, .int .i64 x.v, .bool x.y]
def logC (L : List Ac) : List Value := L.flatMap fun x => (acC x).toList
theorem logC_len (L : List Ac) : (logC L).length = L.length * 8 := by
  induction L with
  | nil => rfl
  | cons x L ih => simp only [logC, List.flatMap_cons, List.length_append, List.length_cons] at *; rw [ih]; simp [acC]; omega
theorem logC_app (L K : List Ac) : logC (L ++ K) = logC L ++ logC K := List.flatMap_append
theorem logC_one (x : Ac) : logC [x] = (acC x).toList := by simp [logC]
end Go.Proofs.Ytbmmicfdnfpcaaa
