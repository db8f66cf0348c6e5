/- What the program's Union, Meet, Meets and Empty answer. -/
import Derived.Test.YtbmmicfdnfpcaaaSigP
import Derived.Test.YtbmmicfdnfpcaaaSigE
namespace Go.Proofs.Ytbmmicfdnfpcaaa.Sg
open Go.ChangeShapes Go.WideShapes Go.ChangeAt Go.RowKit

/-- The first j words worked upon. -/
def zipTo (f : Nat → Nat → Nat) (a b : List Nat) : Nat → List Nat
  | 0 => a
  | j + 1 => (zipTo f a b j).set j (f (a.getD j 0) (b.getD j 0))
theorem zipTo_len (f : Nat → Nat → Nat) (a b : List Nat) (j : Nat) : (zipTo f a b j).length = a.length := by
  induction j with
  | zero => rfl
  | succ j ih => simp [zipTo, ih]
theorem zipTo_get (f : Nat → Nat → Nat) (a b : List Nat) (j : Nat) (hj : j ≤ a.length) (i : Nat) : (zipTo f a b j).getD i 0 = if i < j then f (a.getD i 0) (b.getD i 0) else a.getD i 0 := by
  induction j with
  | zero => simp [zipTo]
  | succ j ih =>
    unfold zipTo
    rw [getD_set _ _ _ _ (by rw [zipTo_len]; omega), ih (by omega)]
    by_cases e : j = i
    · subst e; simp
    · simp only [e, if_false]
      by_cases h : i < j
      · simp [h, show i < j + 1 by omega]
      · simp [h, show ¬ i < j + 1 by omega]
theorem zipTo_all (f : Nat → Nat → Nat) (a b : List Nat) (ha : a.length = 8) (hb : b.length = 8) : zipTo f a b 8 = List.zipWith f a b := by
  apply List.ext_getElem (by rw [zipTo_len]; simp [ha, hb])
  intro i h1 h2
  have h := zipTo_get f a b 8 (by omega) i
  rw [zipTo_len] at h1
  have h' : i < 8 := by omega
  have e1 : (zipTo f a b 8)[i]'(by rw [zipTo_len]; exact h1) = (zipTo f a b 8).getD i 0 := by simp [zipTo_len, h1]
  rw [e1, h, if_pos h']
  simp [h1, show i < b.length by omega]

theorem at_of {cs : Array Value} {j : Nat} {v : Value} (h : cs[j]? = some v) : ∀ h' : j < cs.size, cs[j] = v := fun h' => by
  rw [Array.getElem?_eq_getElem h'] at h
  exact Option.some.inj h
