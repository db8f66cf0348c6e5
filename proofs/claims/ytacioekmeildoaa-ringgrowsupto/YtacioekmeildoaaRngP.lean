/- A ring in which entries are published, laid and made complete in the order of their stamps: what its words say, as plain numbers. -/
import Derived.Test.YtacioekmeildoaaRngL
namespace Go.Proofs.Ytacioekmeildoaa

def hdV (D : Nat) (t : Int) : Int := if t ≤ 0 then 1 else if t ≤ (D : Int) then 2 * t + 1 else 2 * t
/-- Of s slots, N published, A laid, D complete. -/
structure Gr (f : Ad → Int) (s N A D : Nat) : Prop where
  s1 : 1 ≤ s
  s16 : s ≤ 16
  n : f ⟨1, 0, 0⟩ = (N : Int)
  da : D ≤ A
  an : A ≤ N
  nd : N ≤ D + s
  h : ∀ t : Int, (A : Int) - s < t → t ≤ (A : Int) → f ⟨2, t % (s : Int), 0⟩ = hdV D t
  g : ∀ t : Int, (A : Int) - s < t → t ≤ (A : Int) → 1 ≤ t → f ⟨3, t % (s : Int), 3⟩ = t + 7

theorem emod_inj {s t u : Int} (h : t % s = u % s) (h1 : t - u < s) (h2 : u - t < s) : t = u := by
  by_cases hlt : u ≤ t
  · have := Int.emod_eq_emod_iff_emod_sub_eq_zero.mp h
    rw [Int.emod_eq_of_lt (by omega) h1] at this
    omega
  · have := Int.emod_eq_emod_iff_emod_sub_eq_zero.mp h.symm
    rw [Int.emod_eq_of_lt (by omega) h2] at this
    omega
theorem gr_zero (s : Nat) (h1 : 1 ≤ s) (h2 : s ≤ 16) : Gr (wordOf []) s 0 0 0 :=
  ⟨h1, h2, rfl, Nat.le_refl _, Nat.le_refl _, by omega, fun t _ ht => by
    rw [wordOf_nil]
    unfold hdV
    rw [if_pos (by omega)]
    rfl, fun t _ h3 h4 => by omega⟩
theorem gr_pub {f : Ad → Int} {s N A D : Nat} (h : Gr f s N A D) (hn : N < D + s) : Gr (upd f ⟨1, 0, 0⟩ ((N + 1 : Nat) : Int)) s (N + 1) A D :=
  ⟨h.s1, h.s16, upd_same _ _ _, h.da, by have := h.an; omega, by omega, fun t h1 h2 => by rw [upd_other (by simp)]; exact h.h t h1 h2, fun t h1 h2 h3 => by rw [upd_other (by simp)]; exact h.g t h1 h2 h3⟩
theorem gr_lay {f : Ad → Int} {s N A D : Nat} (h : Gr f s N A D) (hn : A < N) : Gr (upd (upd f ⟨3, ((A + 1 : Nat) : Int) % (s : Int), 3⟩ (((A + 1 : Nat) : Int) + 7)) ⟨2, ((A + 1 : Nat) : Int) % (s : Int), 0⟩ (2 * ((A + 1 : Nat) : Int))) s N (A + 1) D := by
  have hs := h.s1
  refine ⟨h.s1, h.s16, by rw [upd_other (by simp), upd_other (by simp)]; exact h.n, by have := h.da; omega, by omega, h.nd, fun t h1 h2 => ?_, fun t h1 h2 h3 => ?_⟩
  · by_cases e : t = ((A + 1 : Nat) : Int)
    · subst e
      rw [upd_same]
      unfold hdV
      rw [if_neg (by omega), if_neg (by have := h.da; omega)]
    · rw [upd_other (fun e' => e (by simp at e'; exact (emod_inj e' (by omega) (by omega)).symm)), upd_other (by simp)]
      exact h.h t (by omega) (by omega)
  · by_cases e : t = ((A + 1 : Nat) : Int)
    · subst e
      rw [upd_other (by simp), upd_same]
    · rw [upd_other (by simp), upd_other (fun e' => e (by simp at e'; exact (emod_inj e' (by omega) (by omega)).symm))]
      exact h.g t (by omega) (by omega) h3
theorem gr_done {f : Ad → Int} {s N A D : Nat} (h : Gr f s N A D) (hn : D < A) : Gr (upd f ⟨2, ((D + 1 : Nat) : Int) % (s : Int), 0⟩ (2 * ((D + 1 : Nat) : Int) + 1)) s N A (D + 1) := by
  have hs := h.s1
  have han := h.an
  have hnd := h.nd
  refine ⟨h.s1, h.s16, by rw [upd_other (by simp)]; exact h.n, by omega, h.an, by omega, fun t h1 h2 => ?_, fun t h1 h2 h3 => by rw [upd_other (by simp)]; exact h.g t h1 h2 h3⟩
  by_cases e : t = ((D + 1 : Nat) : Int)
  · subst e
    rw [upd_same]
    unfold hdV
    rw [if_neg (by omega), if_pos (by omega)]
  · rw [upd_other (fun e' => e (by simp at e'; exact (emod_inj e' (by omega) (by omega)).symm)), h.h t h1 h2]
    unfold hdV
    by_cases h0 : t ≤ 0
    · rw [if_pos h0, if_pos h0]
    · rw [if_neg h0, if_neg h0]
      by_cases h3 : t ≤ (D : Int)
      · rw [if_pos h3, if_pos (by omega)]
      · rw [if_neg h3, if_neg (by omega)]

/-! ### what is seen -/
theorem gr_slot {f : Ad → Int} {s N A D : Nat} (h : Gr f s N A D) (t : Int) : slotV t (s : Int) = t % (s : Int) := by
  unfold slotV
  rw [if_pos (sizeOk_iff.mpr ⟨by have := h.s1; omega, by have := h.s16; omega⟩)]
theorem gr_last {f : Ad → Int} {s N A D : Nat} (h : Gr f s N A D) : lastV f = (N : Int) := by unfold lastV; rw [h.n]; omega
theorem gr_before {f : Ad → Int} {s N A D : Nat} (h : Gr f s N A D) : beforeV f s = ((N - s : Nat) : Int) := by unfold beforeV; rw [gr_last h]; omega
theorem gr_many {f : Ad → Int} {s N A D : Nat} (h : Gr f s N A D) : manyV f s = N - (N - s) := by unfold manyV; rw [gr_last h, gr_before h]; omega
theorem gr_done_entry {f : Ad → Int} {s N A D : Nat} (h : Gr f s N A D) (t : Int) (h1 : 1 ≤ t) (h2 : (N : Int) - s < t) (h3 : t ≤ (D : Int)) : overV (headV' f s t) t = true ∧ laidV (headV' f s t) t = true := by
  unfold headV'
  rw [gr_slot h, h.h t (by have := h.an; omega) (by have := h.da; omega)]
  unfold hdV overV laidV
  rw [if_neg (by omega), if_pos h3]
  have e : (2 * t + 1) / 2 = t := by omega
  have e2 : (2 * t + 1) % 2 = 1 := by omega
  simp [e, e2]
theorem gr_laid_entry {f : Ad → Int} {s N A D : Nat} (h : Gr f s N A D) (t : Int) (h1 : 1 ≤ t) (h2 : (N : Int) - s < t) (h3 : (D : Int) < t) (h4 : t ≤ (A : Int)) : overV (headV' f s t) t = false ∧ laidV (headV' f s t) t = true := by
  unfold headV'
  rw [gr_slot h, h.h t (by have := h.an; omega) h4]
  unfold hdV overV laidV
  rw [if_neg (by omega), if_neg (by omega)]
  have e : (2 * t) / 2 = t := by omega
  have e2 : (2 * t) % 2 = 0 := by omega
  simp [e, e2]
  omega
theorem gr_raw_entry {f : Ad → Int} {s N A D : Nat} (h : Gr f s N A D) (t : Int) (h1 : 1 ≤ t) (h3 : (A : Int) < t) (h4 : t ≤ (N : Int)) : overV (headV' f s t) t = false ∧ laidV (headV' f s t) t = false := by
  have hs := h.s1
  have hnd := h.nd
  have hda := h.da
  unfold headV'
  rw [gr_slot h, show t % (s : Int) = (t - s) % (s : Int) by simp, h.h (t - s) (by omega) (by omega)]
  unfold hdV overV laidV
  by_cases h0 : t - (s : Int) ≤ 0
  · rw [if_pos h0]
    simp
    omega
  · rw [if_neg h0, if_pos (by omega)]
    have e : (2 * (t - (s : Int)) + 1) / 2 = t - s := by omega
    simp [e]
    omega
/-- The marks, and the word that is looked at. -/
theorem gr_entry {f : Ad → Int} {s N A D : Nat} (h : Gr f s N A D) (t : Int) (h1 : 1 ≤ t) (h2 : (N : Int) - s < t) (h3 : t ≤ (N : Int)) :
    (entryV f s t).m = (if t ≤ (D : Int) then 3 else if t ≤ (A : Int) then 2 else 1) ∧ (entryV f s t).sg 3 = (if t ≤ (A : Int) then IntKind.u64.wrap (t + 7) else 0) := by
  have hda := h.da
  unfold entryV markV
  by_cases hd : t ≤ (D : Int)
  · obtain ⟨e1, e2⟩ := gr_done_entry h t h1 h2 hd
    simp only [e1, e2, if_true]
    rw [if_pos hd, if_pos (by omega)]
    refine ⟨rfl, ?_⟩
    unfold sgV
    rw [gr_slot h, h.g t (by have := h.an; omega) (by omega) h1]
  · by_cases ha : t ≤ (A : Int)
    · obtain ⟨e1, e2⟩ := gr_laid_entry h t h1 h2 (by omega) ha
      simp only [e1, e2, if_true, Bool.false_eq_true, if_false]
      rw [if_neg hd, if_pos ha, if_pos ha]
      refine ⟨rfl, ?_⟩
      unfold sgV
      rw [gr_slot h, h.g t (by have := h.an; omega) (by omega) h1]
    · obtain ⟨e1, e2⟩ := gr_raw_entry h t h1 (by omega) h3
      simp only [e1, e2, Bool.false_eq_true, if_false]
      rw [if_neg hd, if_neg ha, if_neg ha]
      exact ⟨rfl, rfl⟩
theorem ents_get (f : Ad → Int) (r : Int) (k : Nat) (hk : k < (entsV f r).length) : (entsV f r)[k] = entryV f r (beforeV f r + 1 + k) := by
  simp [entsV]
theorem ok_of {f : Ad → Int} {r : Int} {k : Nat} (h : ∀ i, i < k → i < manyV f r → (entryV f r (beforeV f r + 1 + i)).m = 3) : okS ((entsV f r).take k) := fun e he => by
  obtain ⟨i, hi, rfl⟩ := List.getElem_of_mem he
  simp [entsV_len] at hi
  rw [List.getElem_take, ents_get]
  exact h i (by omega) (by omega)
theorem gr_complete {f : Ad → Int} {s N A D : Nat} (h : Gr f s N A D) : completeV f s = (D : Int) := by
  have hda := h.da
  have han := h.an
  have hnd := h.nd
  have hbe := gr_before h
  have hma := gr_many h
  have hm : ∀ i : Nat, i < manyV f s → ((entryV f s (beforeV f s + 1 + i)).m = 3 ↔ beforeV f s + 1 + (i : Int) ≤ D) := fun i hi => by
    rw [(gr_entry h (beforeV f s + 1 + i) (by omega) (by omega) (by omega)).1]
    by_cases e : beforeV f s + 1 + (i : Int) ≤ D
    · simp [e]
    · rw [if_neg e]
      split <;> simp [e]
  have hok : okS ((entsV f s).take (D - (N - s))) := ok_of fun i h1 h2 => (hm i h2).mpr (by omega)
  unfold completeV
  by_cases e : D = N
  · have : cntV f s = manyV f s := cnt_all (by rw [show manyV f s = D - (N - s) by omega]; exact hok)
    rw [this, hbe, hma]
    omega
  · have : cntV f s = D - (N - s) := cnt_stop (by omega) hok (fun e' => by
      have := (hm (D - (N - s)) (by omega)).mp e'
      omega)
    rw [this, hbe]
    omega
end Go.Proofs.Ytacioekmeildoaa
