/- The machine of layer 7 as plain numbers: its state, what it saw, the stamp that it looks at; what a load makes of it. -/
import Derived.Test.YtbmmicfdnfpcaaaRngM
namespace Go.Proofs.Ytbmmicfdnfpcaaa

structure Bg where
  st : Int
  seen : Int
  stamp : Int
  deriving DecidableEq
def bgNew : Bg := ⟨0, 0, 0⟩
def seeV (v : Int) : Bg := if v < 1 then ⟨2, v, 0⟩ else ⟨1, v, v⟩
def lookV (s : Nat) (b : Bg) (h : Int) : Bg := if overV h b.stamp then ⟨2, b.seen, b.stamp⟩ else if b.stamp - 1 < 1 ∨ b.stamp - 1 = b.seen - (s : Int) then ⟨2, b.seen, b.stamp - 1⟩ else ⟨1, b.seen, b.stamp - 1⟩
/-- What it loads next; what that makes of it. -/
def adV (s : Nat) (b : Bg) : Ad := if b.st = 0 then ⟨1, 0, 0⟩ else ⟨2, slotV b.stamp s, 0⟩
def stepV (s : Nat) (b : Bg) (v : Int) : Bg := if b.st = 0 then seeV v else if b.st = 1 then lookV s b v else b
def W64 (z : Int) : Prop := -9223372036854775808 ≤ z ∧ z ≤ 9223372036854775807
/-- What is so of a machine at all times. -/
structure BOk (s : Nat) (b : Bg) : Prop where
  s1 : 1 ≤ s
  s16 : s ≤ 16
  c : (b.st = 0 ∧ b.seen = 0 ∧ b.stamp = 0) ∨ (b.st = 1 ∧ 1 ≤ b.stamp ∧ b.stamp ≤ b.seen ∧ b.seen - (s : Int) < b.stamp ∧ W64 b.seen) ∨ (b.st = 2 ∧ 0 ≤ b.stamp ∧ (b.stamp ≤ b.seen ∨ b.seen < 0) ∧ W64 b.seen)
theorem bok_new {s : Nat} (h1 : 1 ≤ s) (h2 : s ≤ 16) : BOk s bgNew := ⟨h1, h2, Or.inl ⟨rfl, rfl, rfl⟩⟩
theorem bok_step {s : Nat} {b : Bg} {v : Int} (h : BOk s b) (hv : W64 v) : BOk s (stepV s b v) := by
  refine ⟨h.s1, h.s16, ?_⟩
  have h1 := h.s1
  rcases h.c with ⟨c0, c1, c2⟩ | ⟨c0, c1, c2, c3, c4⟩ | ⟨c0, c1, c2, c3⟩
  · unfold stepV seeV
    rw [if_pos c0]
    by_cases e : v < 1
    · rw [if_pos e]
      exact Or.inr (Or.inr ⟨rfl, by simp, by simp only; omega, hv⟩)
    · rw [if_neg e]
      exact Or.inr (Or.inl ⟨rfl, by simp only; omega, by simp, by simp only; omega, hv⟩)
  · unfold stepV lookV
    rw [if_neg (by omega), if_pos c0]
    by_cases e : overV v b.stamp = true
    · rw [if_pos e]
      exact Or.inr (Or.inr ⟨rfl, by simp only; omega, Or.inl c2, c4⟩)
    · rw [if_neg e]
      by_cases e2 : b.stamp - 1 < 1 ∨ b.stamp - 1 = b.seen - (s : Int)
      · rw [if_pos e2]
        exact Or.inr (Or.inr ⟨rfl, by simp only; omega, Or.inl (by simp only; omega), c4⟩)
      · rw [if_neg e2]
        exact Or.inr (Or.inl ⟨rfl, by simp only; omega, by simp only; omega, by simp only; omega, c4⟩)
  · unfold stepV
    rw [if_neg (by omega), if_neg (by omega)]
    exact Or.inr (Or.inr ⟨c0, c1, c2, c3⟩)
theorem bok_st {s : Nat} {b : Bg} (h : BOk s b) : b.st = 0 ∨ b.st = 1 ∨ b.st = 2 := by
  rcases h.c with ⟨c, _⟩ | ⟨c, _⟩ | ⟨c, _⟩ <;> simp [c]
theorem adV_is {s c : Nat} {b : Bg} (h : BOk s b) : isAd c s (adV s b) = true := by
  unfold adV
  split
  · rfl
  · obtain ⟨h1, h2⟩ := slotV_bd b.stamp s (sizeOk_iff.mpr ⟨by have := h.s1; omega, by have := h.s16; omega⟩)
    simp [isAd, h1, h2]
end Go.Proofs.Ytbmmicfdnfpcaaa
