/- Data: stamps of those that published; beginnings of a history. -/
import Derived.Test.YtadollckekddgaaDoorHiPl
namespace Go.Proofs.YtadollckekddgaaDoor.Hi
set_option linter.unusedVariables false

structure PiP (p : Pa) : Prop where
  r : ∀ n, n < p.txs.length → (nt p.txs n).st = 0 ∨ (1 ≤ (nt p.txs n).st ∧ (nt p.txs n).st ≤ (p.pub.length : Int))
  u : ∀ n m, n < p.txs.length → m < p.txs.length → (nt p.txs n).st ≠ 0 → (nt p.txs n).st = (nt p.txs m).st → n = m
theorem pi_zero : PiP pa0 := ⟨fun n h => by simp [pa0] at h, fun n m h => by simp [pa0] at h⟩
theorem PiP.same {p : Pa} (h : PiP p) {i : Nat} {t : Tr} (hi : i < p.txs.length) (ht : t.st = (nt p.txs i).st) {a c : Int} : PiP ⟨a, p.txs.set i t, p.pub, c⟩ := by
  have e : ∀ n, (nt (p.txs.set i t) n).st = (nt p.txs n).st := fun n => by
    rw [nt_set hi]
    split
    · rename_i h; rw [ht, h]
    · rfl
  refine ⟨fun n hn => ?_, fun n m hn hm h1 h2 => ?_⟩
  · show (nt (p.txs.set i t) n).st = 0 ∨ _
    rw [e]
    exact h.r n (by simpa using hn)
  · have h1' : (nt (p.txs.set i t) n).st ≠ 0 := h1
    have h2' : (nt (p.txs.set i t) n).st = (nt (p.txs.set i t) m).st := h2
    rw [e] at h1'
    rw [e, e] at h2'
    exact h.u n m (by simpa using hn) (by simpa using hm) h1' h2'
theorem PiP.at {p : Pa} (h : PiP p) (a : Int) : PiP { p with at_ := a } := ⟨h.r, h.u⟩
theorem PiP.take {p q : Pa} {e : Ev} (h : PiP p) (ht : takeD p e = some q) : PiP q := by
  unfold takeD at ht
  split at ht
  · cases ht
  · split at ht
    · unfold openD at ht
      split at ht
      · cases ht
        refine ⟨fun n hn => ?_, fun n m hn hm h1 h2 => ?_⟩
        · have hn' : n ≤ p.txs.length := by simp at hn; omega
          show (nt (p.txs ++ _) n).st = 0 ∨ _
          rw [nt_snoc hn']
          split
          · exact Or.inl rfl
          · exact h.r n (by omega)
        · have hn' : n ≤ p.txs.length := by simp at hn; omega
          have hm' : m ≤ p.txs.length := by simp at hm; omega
          have h1' : (nt (p.txs ++ _) n).st ≠ 0 := h1
          have h2' : (nt (p.txs ++ _) n).st = (nt (p.txs ++ _) m).st := h2
          rw [nt_snoc hn'] at h1' h2'
          rw [nt_snoc hm'] at h2'
          split at h1'
          · exact absurd rfl h1'
          · rename_i hne
            rw [if_neg hne] at h2'
            split at h2'
            · exact absurd h2' h1'
            · exact h.u n m (by omega) (by omega) h1' h2'
      · cases ht
    · split at ht
      · cases ht
      · rename_i hb
        have hi : e.tx.toNat < p.txs.length := by omega
        split at ht
        · cases ht
        · unfold kindD at ht
          dsimp only at ht
          generalize e.tx.toNat = i at *
          split at ht
          · unfold beginD at ht
            split at ht
            · simp at ht; subst ht; exact PiP.same h hi (by rfl)
            · simp at ht
          · split at ht
            · unfold touchD at ht
              split at ht
              · simp at ht; subst ht; exact PiP.same h hi (by rfl)
              · simp at ht
            · split at ht
              · unfold publishD at ht
                split at ht
                · cases ht
                  rename_i hp
                  have hsp := hp.2
                  dsimp only at hsp
                  have hset := fun n (t : Tr) => nt_set (l := p.txs) (i := i) (j := n) (t := t) hi
                  refine ⟨fun n hn => ?_, fun n m hn hm h1 h2 => ?_⟩
                  · show (nt (p.txs.set i _) n).st = 0 ∨ (1 ≤ (nt (p.txs.set i _) n).st ∧ (nt (p.txs.set i _) n).st ≤ ((p.pub ++ [i]).length : Int))
                    rw [hset]
                    have hl : ((p.pub ++ [i]).length : Int) = (p.pub.length : Int) + 1 := by simp
                    rw [hl]
                    split
                    · right; dsimp only; omega
                    · rcases h.r n (by simpa using hn) with h0 | h0
                      · exact Or.inl h0
                      · right; omega
                  · have h1' : (nt (p.txs.set i _) n).st ≠ 0 := h1
                    have h2' : (nt (p.txs.set i _) n).st = (nt (p.txs.set i _) m).st := h2
                    rw [hset] at h1' h2'
                    rw [hset] at h2'
                    have hn' : n < p.txs.length := by simpa using hn
                    have hm' : m < p.txs.length := by simpa using hm
                    have rn := h.r n hn'
                    have rm := h.r m hm'
                    by_cases e1 : n = i
                    · by_cases e2 : m = i
                      · omega
                      · rw [if_pos e1, if_neg e2] at h2'
                        dsimp only at h2'
                        omega
                    · rw [if_neg e1] at h1' h2'
                      by_cases e2 : m = i
                      · rw [if_pos e2] at h2'
                        dsimp only at h2'
                        omega
                      · rw [if_neg e2] at h2'
                        exact h.u n m hn' hm' h1' h2'
                · cases ht
              · split at ht
                · unfold finishD at ht
                  split at ht
                  · cases ht; exact PiP.same h hi (by rfl)
                  · cases ht
                · split at ht
                  · unfold endD at ht
                    split at ht
                    · simp at ht; subst ht; exact PiP.same h hi (by rfl)
                    · simp at ht
                  · cases ht
theorem pi_read (H : List Ev) : ∀ n p, n ≤ H.length → readD (H.take n) = some p → PiP p
  | 0, p, _, h => by simp [readD] at h; subst h; exact pi_zero
  | n + 1, p, hn, h => by
    cases hq : readD (H.take n) with
    | none =>
      rw [take_ne (by omega), readD_snoc, hq] at h
      cases h
    | some q =>
      rw [read_step (by omega) hq] at h
      exact (pi_read H n q (by omega) hq).take h
/-- The beginning of a list. -/
theorem good_take {H : List Ev} {n : Nat} (hn : n ≤ H.length) : good (H.take n) = min n (good H) := by
  have hl : (H.take n).length = n := by rw [List.length_take]; omega
  have h1 := good_le (H.take n)
  have key : ∀ j, j ≤ n → (j ≤ good (H.take n) ↔ j ≤ good H) := fun j hj => by
    rw [← good_iff (by rw [hl]; exact hj), ← good_iff (by omega), List.take_take, Nat.min_eq_left hj]
  rw [hl] at h1
  by_cases hg : n ≤ good H
  · have := (key n (Nat.le_refl _)).2 hg; omega
  · have a1 := (key (good H) (by omega)).2 (Nat.le_refl _)
    have a2 := fun h => hg ((key n (Nat.le_refl _)).1 h)
    by_cases h2 : good H + 1 ≤ good (H.take n)
    · have := (key (good H + 1) (by omega)).1 h2; omega
    · omega
theorem read_upto {H : List Ev} {n : Nat} (hn : n ≤ H.length) (h : n ≤ good H) : ∃ p, readD (H.take n) = some p := by
  have := (good_iff hn).2 h
  cases hr : readD (H.take n) with
  | none => exact absurd hr this
  | some p => exact ⟨p, rfl⟩
theorem read_past {H : List Ev} {n : Nat} (hn : n ≤ H.length) (h : good H < n) : readD (H.take n) = none := by
  cases hr : readD (H.take n) with
  | none => rfl
  | some p => have := (good_iff hn).1 (by rw [hr]; simp); omega
theorem good_all {H : List Ev} {p : Pa} (h : readD H = some p) : good H = H.length := by
  have h1 := (good_iff (H := H) (Nat.le_refl _)).1 (by rw [List.take_length, h]; simp)
  have := good_le H
  omega
end Go.Proofs.YtadollckekddgaaDoor.Hi
