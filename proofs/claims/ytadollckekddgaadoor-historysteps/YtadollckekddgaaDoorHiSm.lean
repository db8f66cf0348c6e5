/- Data: rows of numbers that are sorted in their place: exchanges, insertion. -/
import Derived.Test.YtadollckekddgaaDoorHiPl
namespace Go.Proofs.YtadollckekddgaaDoor.Hi
open Go.ChangeShapes Go.WideShapes Go.ChangeAt Go.RowKit
set_option linter.unusedVariables false

/-- A row of numbers, as it lies. -/
def fC (f : Nat → Nat) (n : Nat) : Array Value := ((List.range n).map fun (i : Nat) => Value.int .i64 (f i : Int)).toArray
theorem fC_size (f : Nat → Nat) (n : Nat) : (fC f n).size = n := by simp [fC]
theorem fC_get (f : Nat → Nat) {n i : Nat} (h : i < n) : (fC f n)[i]? = some (.int .i64 (f i : Int)) := by simp [fC, h]
def upF (f : Nat → Nat) (i v : Nat) : Nat → Nat := fun k => if k = i then v else f k
theorem fC_set (f : Nat → Nat) {n i : Nat} (v : Nat) (h : i < n) : (fC f n).setIfInBounds i (.int .i64 (v : Int)) = fC (upF f i v) n := by
  apply Array.ext_getElem?
  intro k
  rw [Array.getElem?_setIfInBounds]
  by_cases hk : k < n
  · by_cases e : i = k
    · subst e
      rw [if_pos rfl, if_pos (by rw [fC_size]; exact hk), fC_get _ hk]; simp [upF]
    · have e' : k ≠ i := fun h => e h.symm
      rw [if_neg e, fC_get _ hk, fC_get _ hk]; simp [upF, e']
  · rw [Array.getElem?_eq_none (by rw [fC_size]; omega), Array.getElem?_eq_none (by rw [fC_size]; omega), if_neg (by omega)]
/-- Two change places. -/
def swp (f : Nat → Nat) (i j : Nat) : Nat → Nat := fun k => if k = i then f j else if k = j then f i else f k
theorem swp_up (f : Nat → Nat) (i j : Nat) : upF (upF f i (f j)) j (f i) = swp f i j := by
  funext k
  unfold upF swp
  by_cases h1 : k = i
  · by_cases h2 : k = j
    · rw [if_pos h2, if_pos h1, ← h1, ← h2]
    · rw [if_neg h2, if_pos h1, if_pos h1]
  · by_cases h2 : k = j
    · rw [if_pos h2, if_neg h1, if_pos h2]
    · rw [if_neg h2, if_neg h1, if_neg h1, if_neg h2]
theorem swp_up' (f : Nat → Nat) (i j : Nat) : upF (upF f j (f i)) i (f j) = swp f i j := by
  funext k
  unfold upF swp
  by_cases h1 : k = i
  · simp [h1]
  · by_cases h2 : k = j <;> simp [h1, h2]
/-- Places are exchanged within a span, nothing else. -/
def PermOn (f g : Nat → Nat) (a b : Nat) : Prop := ∃ s t : Nat → Nat, (∀ k, t (s k) = k) ∧ (∀ k, s (t k) = k) ∧ (∀ k, k < a ∨ b ≤ k → s k = k) ∧ ∀ k, g k = f (s k)
theorem PermOn.refl (f : Nat → Nat) (a b : Nat) : PermOn f f a b := ⟨id, id, fun _ => rfl, fun _ => rfl, fun _ _ => rfl, fun _ => rfl⟩
theorem PermOn.trans {f g h : Nat → Nat} {a b : Nat} (p : PermOn f g a b) (q : PermOn g h a b) : PermOn f h a b := by
  obtain ⟨s, t, h1, h2, h3, h4⟩ := p
  obtain ⟨s', t', k1, k2, k3, k4⟩ := q
  refine ⟨fun k => s (s' k), fun k => t' (t k), fun k => ?_, fun k => ?_, fun k hk => ?_, fun k => ?_⟩
  · show t' (t (s (s' k))) = k; rw [h1, k1]
  · show s (s' (t' (t k))) = k; rw [k2, h2]
  · show s (s' k) = k; rw [k3 k hk, h3 k hk]
  · rw [k4, h4]
theorem PermOn.mono {f g : Nat → Nat} {a b a' b' : Nat} (p : PermOn f g a b) (ha : a' ≤ a) (hb : b ≤ b') : PermOn f g a' b' := by
  obtain ⟨s, t, h1, h2, h3, h4⟩ := p
  exact ⟨s, t, h1, h2, fun k hk => h3 k (by omega), h4⟩
theorem PermOn.swp (f : Nat → Nat) {a b i j : Nat} (hi : a ≤ i ∧ i < b) (hj : a ≤ j ∧ j < b) : PermOn f (swp f i j) a b := by
  refine ⟨fun k => if k = i then j else if k = j then i else k, fun k => if k = i then j else if k = j then i else k, ?_, ?_, ?_, ?_⟩
  · intro k
    dsimp only
    by_cases h1 : k = i
    · rw [if_pos h1]
      by_cases h2 : j = i
      · rw [if_pos h2]; omega
      · rw [if_neg h2, if_pos rfl]; omega
    · rw [if_neg h1]
      by_cases h2 : k = j
      · rw [if_pos h2, if_pos rfl]; omega
      · rw [if_neg h2, if_neg h1, if_neg h2]
  · intro k
    dsimp only
    by_cases h1 : k = i
    · rw [if_pos h1]
      by_cases h2 : j = i
      · rw [if_pos h2]; omega
      · rw [if_neg h2, if_pos rfl]; omega
    · rw [if_neg h1]
      by_cases h2 : k = j
      · rw [if_pos h2, if_pos rfl]; omega
      · rw [if_neg h2, if_neg h1, if_neg h2]
  · intro k hk; dsimp only; rw [if_neg (by omega), if_neg (by omega)]
  · intro k; unfold Hi.swp; dsimp only; split
    · rfl
    · split <;> rfl
theorem PermOn.out {f g : Nat → Nat} {a b : Nat} (p : PermOn f g a b) {k : Nat} (h : k < a ∨ b ≤ k) : g k = f k := by
  obtain ⟨s, t, h1, h2, h3, h4⟩ := p
  rw [h4, h3 k h]
theorem PermOn.mem {f g : Nat → Nat} {a b : Nat} (p : PermOn f g a b) {k : Nat} (h : a ≤ k ∧ k < b) : ∃ q, (a ≤ q ∧ q < b) ∧ g k = f q := by
  obtain ⟨s, t, h1, h2, h3, h4⟩ := p
  refine ⟨s k, ?_, h4 k⟩
  by_cases hh : a ≤ s k ∧ s k < b
  · exact hh
  · exfalso
    have e := h3 (s k) (by omega)
    have e1 : s k = k := by have := congrArg t e; rwa [h1, h1] at this
    omega
theorem PermOn.all {f g : Nat → Nat} {a b : Nat} (p : PermOn f g a b) {Q : Nat → Prop} (h : ∀ k, a ≤ k → k < b → Q (f k)) : ∀ k, a ≤ k → k < b → Q (g k) := fun k h1 h2 => by
  obtain ⟨q, hq, e⟩ := p.mem ⟨h1, h2⟩
  rw [e]; exact h q hq.1 hq.2
/-- Which number stands ahead: by its key, then by itself. -/
def tot (ky : Nat → Int) (x y : Nat) : Prop := ky x < ky y ∨ (ky x = ky y ∧ x < y)
theorem tot_trans {ky : Nat → Int} {x y z : Nat} (h : tot ky x y) (k : tot ky y z) : tot ky x z := by unfold tot at *; omega
theorem tot_asymm {ky : Nat → Int} {x y : Nat} (h : tot ky x y) (k : tot ky y x) : False := by unfold tot at *; omega
theorem tot_lt {ky : Nat → Int} {x y : Nat} (h : x < y) : tot ky y x ↔ ky y < ky x := by unfold tot; omega
theorem tot_ge {ky : Nat → Int} {x y : Nat} (h : x < y) : tot ky x y ↔ ¬ ky y < ky x := by unfold tot; omega
/-- A span in order. -/
def Srt (ky : Nat → Int) (f : Nat → Nat) (a b : Nat) : Prop := ∀ i j, a ≤ i → i < j → j < b → tot ky (f i) (f j)
theorem Srt.one (ky : Nat → Int) (f : Nat → Nat) {a b : Nat} (h : b ≤ a + 1) : Srt ky f a b := fun i j h1 h2 h3 => by omega
theorem Srt.congr {ky : Nat → Int} {f g : Nat → Nat} {a b : Nat} (h : Srt ky f a b) (e : ∀ k, a ≤ k → k < b → g k = f k) : Srt ky g a b := fun i j h1 h2 h3 => by
  rw [e i (by omega) (by omega), e j (by omega) (by omega)]; exact h i j h1 h2 h3
/-- Numbers of a span rise. -/
def Ris (f : Nat → Nat) (a b : Nat) : Prop := ∀ i j, a ≤ i → i < j → j < b → f i < f j
/-- One is on its way to its place: it stands at j, all but it are in order, those behind it are greater. -/
structure Ins (ky : Nat → Int) (f g : Nat → Nat) (a i j : Nat) : Prop where
  p : PermOn f g a (i + 1)
  e : g j = f i
  lt : ∀ q, a ≤ q → q ≤ i → q ≠ j → g q < f i
  s : ∀ x y, a ≤ x → x < y → y ≤ i → x ≠ j → y ≠ j → tot ky (g x) (g y)
  u : ∀ y, j < y → y ≤ i → tot ky (f i) (g y)
theorem Ins.start {ky : Nat → Int} {f0 f : Nat → Nat} {a i b : Nat} (hai : a ≤ i) (hib : i < b) (hr : Ris f0 a b) (hp : PermOn f0 f a i) (hs : Srt ky f a i) : Ins ky f f a i i := by
  refine ⟨PermOn.refl _ _ _, rfl, fun q h1 h2 h3 => ?_, fun x y h1 h2 h3 h4 h5 => hs x y h1 h2 (by omega), fun y h1 h2 => by omega⟩
  obtain ⟨z, hz, e⟩ := hp.mem (k := q) ⟨h1, by omega⟩
  rw [e, hp.out (Or.inr (Nat.le_refl i))]
  exact hr z i hz.1 hz.2 hib
theorem Ins.step {ky : Nat → Int} {f g : Nat → Nat} {a i j : Nat} (h : Ins ky f g a i (j + 1)) (hj : a ≤ j) (hji : j + 1 ≤ i) (hk : ky (g (j + 1)) < ky (g j)) : Ins ky f (swp g (j + 1) j) a i j := by
  have hlt := h.lt j hj (by omega) (by omega)
  have ht : tot ky (f i) (g j) := (tot_lt hlt).2 (by rw [← h.e]; exact hk)
  refine ⟨h.p.trans (PermOn.swp _ ⟨by omega, by omega⟩ ⟨by omega, by omega⟩), ?_, fun q h1 h2 h3 => ?_, fun x y h1 h2 h3 h4 h5 => ?_, fun y h1 h2 => ?_⟩
  · unfold swp; rw [if_neg (by omega), if_pos rfl, h.e]
  · unfold swp
    by_cases e : q = j + 1
    · rw [if_pos e]; exact hlt
    · rw [if_neg e, if_neg h3]; exact h.lt q h1 h2 e
  · unfold swp
    by_cases e : x = j + 1
    · rw [if_pos e, if_neg (by omega), if_neg h5]; exact h.s j y hj (by omega) h3 (by omega) (by omega)
    · rw [if_neg e, if_neg h4]
      by_cases e2 : y = j + 1
      · rw [if_pos e2]; exact h.s x j h1 (by omega) (by omega) e (by omega)
      · rw [if_neg e2, if_neg h5]; exact h.s x y h1 h2 h3 e e2
  · unfold swp
    by_cases e : y = j + 1
    · rw [if_pos e]; exact ht
    · rw [if_neg e, if_neg (by omega)]; exact h.u y (by omega) h2
theorem Ins.done {ky : Nat → Int} {f g : Nat → Nat} {a i j : Nat} (h : Ins ky f g a i j) (hj : a ≤ j) (hji : j ≤ i) (hk : j = a ∨ ¬ ky (g j) < ky (g (j - 1))) : Srt ky g a (i + 1) := by
  intro x y h1 h2 h3
  by_cases e : y = j
  · subst e
    have hk' : ¬ ky (g y) < ky (g (y - 1)) := by rcases hk with h | h; omega; exact h
    have hlt := h.lt (y - 1) (by omega) (by omega) (by omega)
    have ht : tot ky (g (y - 1)) (g y) := by rw [h.e] at hk' ⊢; exact (tot_ge hlt).2 hk'
    by_cases e2 : x = y - 1
    · rw [e2]; exact ht
    · exact tot_trans (h.s x (y - 1) h1 (by omega) (by omega) (by omega) (by omega)) ht
  · by_cases e2 : x = j
    · subst e2; rw [h.e]; exact h.u y h2 (by omega)
    · exact h.s x y h1 h2 (by omega) e2 e
end Go.Proofs.YtadollckekddgaaDoor.Hi
