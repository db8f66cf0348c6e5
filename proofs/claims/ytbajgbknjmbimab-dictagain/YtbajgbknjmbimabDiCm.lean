/- A dict over cells, as numbers: what the cells say behind each call. -/
import Derived.Test.YtbajgbknjmbimabDiC
import Derived.Test.YtbajgbknjmbimabCoB
namespace Go.Proofs.Ytbajgbknjmbimab.Di
open Go.ChangeShapes Go.WideShapes Go.ChangeAt Go.RowKit

theorem l2_zero {C : List Int} {key n i fr : Int} {c : Nat} (h : stV C i = 0) : (look2 C key n (c + 1) i fr).1 = -1 := by
  simp only [look2]
  rw [if_neg (by rw [h]; decide), if_pos h]
theorem l2_hit {C : List Int} {key n i fr : Int} {c : Nat} (h : stV C i = 1) (hk : kyV C i = key) : look2 C key n (c + 1) i fr = (i, fr) := by
  simp only [look2]
  rw [if_pos h, if_pos hk]
theorem l2_pass {C : List Int} {key n i fr fr' : Int} {c : Nat} (h0 : stV C i ≠ 0) (h1 : ¬ (stV C i = 1 ∧ kyV C i = key)) : (look2 C key n (c + 1) i fr).1 = (look2 C key n c (nxtV n i) fr').1 := by
  simp only [look2]
  by_cases h : stV C i = 1
  · rw [if_pos h, if_neg (fun e => h1 ⟨h, e⟩)]
    exact look_free1 _ _ _ _
  · rw [if_neg h, if_neg h0]
    exact look_free1 _ _ _ _
/-- What is found is a slot that is there, with that key. -/
theorem look_in {C : List Int} {key n : Int} : ∀ (c : Nat) (i fr : Int), 0 ≤ i ∧ i < n → (look2 C key n c i fr).1 = -1 ∨ ∃ j : Nat, (j : Int) < n ∧ (look2 C key n c i fr).1 = (j : Int) ∧ stV C (j : Int) = 1 ∧ kyV C (j : Int) = key
  | 0, i, fr, _ => Or.inl rfl
  | c + 1, i, fr, hi => by
    have hx := nxt_lt hi
    simp only [look2]
    split
    · rename_i h1
      split
      · rename_i h2
        obtain ⟨j, rfl⟩ := Int.eq_ofNat_of_zero_le hi.1
        exact Or.inr ⟨j, hi.2, rfl, h1, h2⟩
      · exact look_in c _ _ hx
    · split
      · exact Or.inl rfl
      · exact look_in c _ _ hx
theorem free_stays {C : List Int} {key n : Int} : ∀ (c : Nat) (i fr : Int), fr ≠ -1 → (look2 C key n c i fr).2 = fr
  | 0, i, fr, _ => rfl
  | c + 1, i, fr, h => by
    simp only [look2]
    split
    · split
      · rfl
      · exact free_stays c _ _ h
    · split
      · first | rfl | (simp only; rw [if_neg h])
      · first | exact free_stays c _ _ h | (rw [if_neg h]; exact free_stays c _ _ h)
/-- What is free is a slot that isn't there. -/
theorem free_in {C : List Int} {key n : Int} : ∀ (c : Nat) (i : Int), 0 ≤ i ∧ i < n → (look2 C key n c i (-1)).2 = -1 ∨ ∃ j : Nat, (j : Int) < n ∧ (look2 C key n c i (-1)).2 = (j : Int) ∧ stV C (j : Int) ≠ 1
  | 0, i, _ => Or.inl rfl
  | c + 1, i, hi => by
    have hx := nxt_lt hi
    simp only [look2]
    split
    · split
      · exact Or.inl rfl
      · exact free_in c _ hx
    · rename_i h1
      simp only [if_true]
      obtain ⟨j, rfl⟩ := Int.eq_ofNat_of_zero_le hi.1
      split
      · exact Or.inr ⟨j, hi.2, rfl, h1⟩
      · exact Or.inr ⟨j, hi.2, free_stays c _ _ (by omega), h1⟩
/-- A slot that all ways lead on as before. -/
theorem look_mono {C D : List Int} {key n : Int} (h : ∀ j : Nat, (j : Int) < n → stV C (j : Int) = 0 ∨ (stV C (j : Int) = 1 ∧ kyV C (j : Int) = key ∧ stV D (j : Int) = 1 ∧ kyV D (j : Int) = key) ∨ (¬ (stV C (j : Int) = 1 ∧ kyV C (j : Int) = key) ∧ stV D (j : Int) ≠ 0 ∧ ¬ (stV D (j : Int) = 1 ∧ kyV D (j : Int) = key))) :
    ∀ (c : Nat) (i fr fr' r : Int), 0 ≤ i ∧ i < n → (look2 C key n c i fr).1 = r → r ≠ -1 → (look2 D key n c i fr').1 = r
  | 0, i, fr, fr', r, _, h1, h2 => absurd h1.symm h2
  | c + 1, i, fr, fr', r, hi, h1, h2 => by
    have hx := nxt_lt hi
    obtain ⟨j, hj⟩ := Int.eq_ofNat_of_zero_le hi.1
    by_cases hz : stV C i = 0
    · rw [l2_zero hz] at h1; exact absurd h1.symm h2
    · by_cases hh : stV C i = 1 ∧ kyV C i = key
      · rw [l2_hit hh.1 hh.2] at h1
        rcases h j (by omega) with h3 | ⟨_, _, h3, h4⟩ | ⟨h3, _⟩
        · rw [← hj] at h3; exact absurd h3 hz
        · rw [← hj] at h3 h4; rw [l2_hit h3 h4]; exact h1
        · rw [← hj] at h3; exact absurd hh h3
      · rw [l2_pass (fr' := fr) hz hh] at h1
        rcases h j (by omega) with h3 | ⟨h3, h4, _⟩ | ⟨_, h3, h4⟩
        · rw [← hj] at h3; exact absurd h3 hz
        · rw [← hj] at h3 h4; exact absurd ⟨h3, h4⟩ hh
        · rw [← hj] at h3 h4
          rw [l2_pass (fr' := fr') h3 h4]
          exact look_mono h c _ _ _ _ hx h1 h2
/-- A key that wasn't found is found in the slot that was free, once it lies there. -/
theorem look_new {C D : List Int} {key n : Int} {f : Nat} (hf : stV C (f : Int) ≠ 1) (hs : stV D (f : Int) = 1) (hk : kyV D (f : Int) = key) (h : ∀ j : Nat, (j : Int) < n → j ≠ f → stV D (j : Int) = stV C (j : Int) ∧ kyV D (j : Int) = kyV C (j : Int)) :
    ∀ (c : Nat) (i fr' : Int), 0 ≤ i ∧ i < n → (look2 C key n c i (-1)).1 = -1 → (look2 C key n c i (-1)).2 = (f : Int) → (look2 D key n c i fr').1 = (f : Int)
  | 0, i, fr', _, _, h2 => by simp only [look2] at h2; omega
  | c + 1, i, fr', hi, h1, h2 => by
    have hx := nxt_lt hi
    obtain ⟨j, hj⟩ := Int.eq_ofNat_of_zero_le hi.1
    by_cases h3 : stV C i = 1
    · have hjf : j ≠ f := fun e => hf (by rw [← e, ← hj]; exact h3)
      obtain ⟨d1, d2⟩ := h j (by omega) hjf
      rw [← hj] at d1 d2
      by_cases h4 : kyV C i = key
      · rw [l2_hit h3 h4] at h1; simp only at h1; omega
      · have e1 : look2 C key n (c + 1) i (-1) = look2 C key n c (nxtV n i) (-1) := by simp only [look2]; rw [if_pos h3, if_neg h4]
        rw [e1] at h1 h2
        rw [l2_pass (fr' := fr') (by rw [d1, h3]; decide) (by rw [d2]; exact fun e => h4 e.2)]
        exact look_new hf hs hk h c _ _ hx h1 h2
    · have e2 : (look2 C key n (c + 1) i (-1)).2 = i := by
        simp only [look2]
        rw [if_neg h3]
        simp only [if_true]
        split
        · rfl
        · exact free_stays c _ _ (by omega)
      rw [e2] at h2
      rw [h2, l2_hit hs hk]
/-! ### a way leads over all slots -/
def advV (n i : Int) : Nat → Int
  | 0 => i
  | t + 1 => advV n (nxtV n i) t
theorem adv_form {n : Int} : ∀ (t : Nat) (i : Int), 0 ≤ i ∧ i < n → (t : Int) ≤ n → advV n i t = if i + t < n then i + t else i + t - n
  | 0, i, hi, _ => by simp only [advV]; rw [if_pos (by omega)]; omega
  | t + 1, i, hi, ht => by
    simp only [advV]
    have hx := nxt_lt hi
    rw [adv_form t _ hx (by omega)]
    unfold nxtV at *
    by_cases h : i + 1 = n
    · simp only [if_pos h] at *
      by_cases h2 : (t : Int) < n
      · rw [if_pos (by omega), if_neg (by omega)]; omega
      · omega
    · simp only [if_neg h] at *
      by_cases h2 : i + 1 + (t : Int) < n
      · rw [if_pos h2, if_pos (by omega)]; omega
      · rw [if_neg h2, if_neg (by omega)]; omega
theorem look_all {C : List Int} {key n : Int} : ∀ (c : Nat) (i : Int), 0 ≤ i ∧ i < n → (look2 C key n c i (-1)).1 = -1 → (look2 C key n c i (-1)).2 = -1 → ∀ t, t < c → stV C (advV n i t) = 1
  | 0, i, _, _, _, t, ht => by omega
  | c + 1, i, hi, h1, h2, t, ht => by
    have hx := nxt_lt hi
    by_cases h3 : stV C i = 1
    · by_cases h4 : kyV C i = key
      · rw [l2_hit h3 h4] at h1; simp only at h1; omega
      · have e1 : look2 C key n (c + 1) i (-1) = look2 C key n c (nxtV n i) (-1) := by simp only [look2]; rw [if_pos h3, if_neg h4]
        rw [e1] at h1 h2
        cases t with
        | zero => exact h3
        | succ t => exact look_all c _ hx h1 h2 t (by omega)
    · have e2 : (look2 C key n (c + 1) i (-1)).2 = i := by
        simp only [look2]
        rw [if_neg h3]
        simp only [if_true]
        split
        · rfl
        · exact free_stays c _ _ (by omega)
      rw [e2] at h2
      omega
theorem pr_full {C : List Int} : ∀ (j : Nat), (∀ i : Nat, i < j → stV C (i : Int) = 1) → (prS C j).length = j
  | 0, _ => rfl
  | j + 1, h => by
    simp only [prS]
    rw [if_pos (h j (by omega)), List.length_append, pr_full j (fun i hi => h i (by omega))]
    rfl
theorem full_of {C : List Int} {key : Int} {n : Nat} (hn : 0 < n) (hn16 : n ≤ 16) (h1 : (lookV C key n).1 = -1) (h2 : (lookV C key n).2 = -1) : (prS C n).length = n := by
  have hf := fir_lt (k := key) (n := (n : Int)) (by omega)
  unfold lookV at h1 h2
  rw [Int.toNat_natCast] at h1 h2
  have ha := look_all n _ hf h1 h2
  refine pr_full n (fun j hj => ?_)
  obtain ⟨f, hff⟩ := Int.eq_ofNat_of_zero_le hf.1
  rw [hff] at ha hf
  by_cases hfj : f ≤ j
  · have := ha (j - f) (by omega)
    rw [adv_form _ _ hf (by omega), if_pos (by omega)] at this
    rw [show ((f : Int) + ((j - f : Nat) : Int)) = (j : Int) by omega] at this
    exact this
  · have := ha (j + n - f) (by omega)
    rw [adv_form _ _ hf (by omega), if_neg (by omega)] at this
    rw [show ((f : Int) + ((j + n - f : Nat) : Int) - (n : Int)) = (j : Int) by omega] at this
    exact this
/-! ### pairs of cells that differ in one slot -/
theorem pr_same {C D : List Int} : ∀ (j : Nat), (∀ i : Nat, i < j → stV D (i : Int) = stV C (i : Int) ∧ kyV D (i : Int) = kyV C (i : Int) ∧ vlV D (i : Int) = vlV C (i : Int)) → prS D j = prS C j
  | 0, _ => rfl
  | j + 1, h => by
    obtain ⟨h1, h2, h3⟩ := h j (by omega)
    simp only [prS]
    rw [h1, h2, h3, pr_same j (fun i hi => h i (by omega))]
theorem pr_more {C D : List Int} {f : Nat} (hf : stV C (f : Int) ≠ 1) (hs : stV D (f : Int) = 1) : ∀ (j : Nat), f < j → (∀ i : Nat, i < j → i ≠ f → stV D (i : Int) = stV C (i : Int) ∧ kyV D (i : Int) = kyV C (i : Int) ∧ vlV D (i : Int) = vlV C (i : Int)) → (prS D j).Perm ((kyV D (f : Int), vlV D (f : Int)) :: prS C j)
  | 0, hj, _ => by omega
  | j + 1, hj, h => by
    simp only [prS]
    by_cases e : j = f
    · subst e
      rw [if_pos hs, if_neg hf, pr_same j (fun i hi => h i (by omega) (by omega))]
      exact List.perm_append_comm (l₂ := [_])
    · obtain ⟨h1, h2, h3⟩ := h j (by omega) e
      have ih := pr_more hf hs j (by omega) (fun i hi hne => h i (by omega) hne)
      rw [h1, h2, h3]
      by_cases hst : stV C (j : Int) = 1
      · rw [if_pos hst, if_pos hst]
        exact ih.append_right _
      · rw [if_neg hst, if_neg hst]
        exact ih
theorem pr_chg {C D : List Int} {f : Nat} (hf : stV C (f : Int) = 1) (hs : stV D (f : Int) = 1) : ∀ (j : Nat), f < j → (∀ i : Nat, i < j → i ≠ f → stV D (i : Int) = stV C (i : Int) ∧ kyV D (i : Int) = kyV C (i : Int) ∧ vlV D (i : Int) = vlV C (i : Int)) → ((kyV C (f : Int), vlV C (f : Int)) :: prS D j).Perm ((kyV D (f : Int), vlV D (f : Int)) :: prS C j)
  | 0, hj, _ => by omega
  | j + 1, hj, h => by
    simp only [prS]
    by_cases e : j = f
    · subst e
      rw [if_pos hs, if_pos hf, pr_same j (fun i hi => h i (by omega) (by omega))]
      generalize (kyV C (j : Int), vlV C (j : Int)) = a
      generalize (kyV D (j : Int), vlV D (j : Int)) = b
      have h1 : (a :: (prS C j ++ [b])).Perm (a :: b :: prS C j) := (List.perm_append_comm (l₂ := [b])).cons a
      have h2 : (b :: (prS C j ++ [a])).Perm (b :: a :: prS C j) := (List.perm_append_comm (l₂ := [a])).cons b
      exact h1.trans ((List.Perm.swap b a _).trans h2.symm)
    · obtain ⟨h1, h2, h3⟩ := h j (by omega) e
      have ih := pr_chg hf hs j (by omega) (fun i hi hne => h i (by omega) hne)
      rw [h1, h2, h3]
      by_cases hst : stV C (j : Int) = 1
      · rw [if_pos hst, if_pos hst]
        exact ih.append_right [_]
      · rw [if_neg hst, if_neg hst]
        exact ih
theorem set_perm : ∀ (T : List (Int × Int)) (q : Nat) (x : Int × Int) (h : q < T.length), (T[q] :: T.set q x).Perm (x :: T)
  | [], q, x, h => by simp at h
  | a :: T, 0, x, h => List.Perm.swap x a T
  | a :: T, q + 1, x, h => by
    have ih := set_perm T q x (by simpa using h)
    simp only [List.getElem_cons_succ, List.set_cons_succ]
    exact (List.Perm.swap a _ _).trans ((ih.cons a).trans (List.Perm.swap x a T))
end Go.Proofs.Ytbajgbknjmbimab.Di
