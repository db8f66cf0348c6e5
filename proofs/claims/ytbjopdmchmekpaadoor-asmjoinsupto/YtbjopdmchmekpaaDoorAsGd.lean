/- What is so of all that is read: plain data. -/
import Derived.Test.YtbjopdmchmekpaaDoorAsU
namespace Go.Proofs.YtbjopdmchmekpaaDoor
open Go.Lib

/-- Of what was read so far. -/
structure GdP (st : PS) : Prop where
  size : (allB st.ops).length = st.size
  small : st.size ≤ 512
  ok : okL st.ops
  us : ∀ u ∈ st.us, u.1 < st.ops.length ∧ u.2.1.length ≤ 16 ∧ u.2.2.2 ≤ 512 ∧ ldC (cd st.ops u.1) = true
  ul : st.us.length ≤ st.ops.length
  lb : ∀ x ∈ st.labs, x.2 ≤ 512
theorem gd_nil : GdP ⟨[], [], 0, []⟩ := ⟨rfl, by simp, (fun o ho => by cases ho), by simp, by simp, by simp⟩
theorem all_len (l : List (Int × Int)) : l.length ≤ (allB l).length := by
  induction l with
  | nil => simp [allB]
  | cons x l ih =>
    have : allB (x :: l) = bytesI x.1.toNat x.2 ++ allB l := rfl
    rw [this, List.length_append, bytesI_len, List.length_cons]
    omega
theorem GdP.len {st : PS} (h : GdP st) : st.ops.length ≤ 512 := by
  have h1 := all_len st.ops
  have h2 := h.size
  have h3 := h.small
  omega
theorem cd_snoc (l : List (Int × Int)) (x : Int × Int) (i : Nat) (h : i < l.length) : cd (l ++ [x]) i = cd l i := by
  unfold cd ops
  simp [List.getElem?_append_left h]
theorem cd_last (l : List (Int × Int)) (c : Nat) (v : Int) : cd (l ++ [((c : Int), v)]) l.length = c := by
  unfold cd ops
  simp
theorem name_len {y : List UInt8} (h : nameV y = true) : y.length ≤ 16 := by
  cases y with
  | nil => simp
  | cons a r =>
    unfold nameV at h
    simp only [Bool.and_eq_true, decide_eq_true_eq] at h
    simp
    omega
/-- One more instruction. -/
theorem gd_more {st st' : PS} {p c : Nat} {v : Int} {nm : Option (List UInt8 × Nat)} {r : List (List UInt8 × Nat)} (h : GdP st) (hm : moreV st p c v nm r = .ok st') (hc : c ≤ 40) (hv : loC c ≤ v ∧ v ≤ hiC c) (hn : ∀ y q, nm = some (y, q) → y.length ≤ 16 ∧ ldC c = true) : GdP st' := by
  unfold moreV at hm
  split at hm
  · cases hm
  · split at hm
    · cases hm
    · rename_i hs
      injection hm with hm
      subst hm
      have hu : ∀ u ∈ nuse st.ops.length (st.size + (1 + wdC c)) nm, u.1 = st.ops.length ∧ u.2.1.length ≤ 16 ∧ u.2.2.2 ≤ 512 ∧ ldC c = true := by
        intro u hu
        unfold nuse at hu
        split at hu
        · rename_i y q
          rw [List.mem_singleton.1 hu]
          obtain ⟨h1, h2⟩ := hn y q rfl
          exact ⟨rfl, h1, by simp only; omega, h2⟩
        · cases hu
      refine ⟨?_, by simp only [addI]; omega, ?_, ?_, ?_, h.lb⟩
      · simp only [addI]
        rw [allB_append, List.length_append, h.size]
        have : allB [((c : Int), v)] = bytesI c v := by simp [allB]
        rw [this, bytesI_len]
      · intro o ho
        simp only [addI] at ho
        rcases List.mem_append.1 ho with ho | ho
        · exact h.ok o ho
        · rw [List.mem_singleton.1 ho]
          exact ⟨by simp, by simp only; omega, by simpa using hv.1, by simpa using hv.2⟩
      · intro u hu'
        simp only [addI] at hu' ⊢
        rcases List.mem_append.1 hu' with hu' | hu'
        · obtain ⟨h1, h2, h3, h4⟩ := h.us u hu'
          exact ⟨by simp; omega, h2, h3, by rw [cd_snoc _ _ _ h1]; exact h4⟩
        · obtain ⟨h1, h2, h3, h4⟩ := hu u hu'
          rw [h1, cd_last]
          exact ⟨by simp, h2, h3, h4⟩
      · simp only [addI]
        rw [List.length_append, List.length_append]
        have : (nuse st.ops.length (st.size + (1 + wdC c)) nm).length ≤ 1 := by unfold nuse; split <;> simp
        have := h.ul
        simp
        omega
theorem wordI_lt {t : List UInt8} {c : Nat} (h : wordI t = some c) : c ≤ 40 := by
  unfold wordI at h
  have := (List.findIdx?_eq_some_iff_findIdx_eq.1 h).1
  have h2 : wordT.length = 41 := rfl
  omega
theorem lo_zero : ∀ c : Fin 41, (wdC c.val = 0 ∨ ldC c.val = true) → loC c.val ≤ 0 ∧ 0 ≤ hiC c.val := by decide
theorem gd_inst {st st' : PS} {t : List (List UInt8 × Nat)} (h : GdP st) (hi : instV st t = .ok st') : GdP st' := by
  unfold instV at hi
  split at hi
  · injection hi with hi
    rw [← hi]; exact h
  · rename_i x p r
    split at hi
    · cases hi
    · rename_i c hc
      have hc40 := wordI_lt hc
      split at hi
      · rename_i hw
        have := lo_zero ⟨c, by omega⟩ (Or.inl hw)
        exact gd_more h hi hc40 this (fun y q e => by cases e)
      · split at hi
        · cases hi
        · rename_i y q r2
          split at hi
          · rename_i hn
            simp only [Bool.and_eq_true] at hn
            have := lo_zero ⟨c, by omega⟩ (Or.inr hn.1)
            refine gd_more h hi hc40 this (fun y' q' e => ?_)
            injection e with e
            injection e with e1 e2
            rw [← e1]
            exact ⟨name_len hn.2, hn.1⟩
          · split at hi
            · cases hi
            · split at hi
              · rename_i hv
                exact gd_more h hi hc40 hv (fun y q e => by cases e)
              · cases hi
theorem gd_line {st st' : PS} {t : List (List UInt8 × Nat)} (h : GdP st) (hl : lineV st t = .ok st') : GdP st' := by
  unfold lineV at hl
  split at hl
  · injection hl with hl
    rw [← hl]; exact h
  · rename_i x p r
    split at hl
    · split at hl
      · split at hl
        · have g : GdP { st with labs := st.labs ++ [(x.dropLast, st.size)] } := ⟨h.size, h.small, h.ok, h.us, h.ul, fun y hy => by
            rcases List.mem_append.1 hy with hy | hy
            · exact h.lb y hy
            · rw [List.mem_singleton.1 hy]
              exact h.small⟩
          exact gd_inst g hl
        · cases hl
      · cases hl
    · exact gd_inst h hl
theorem gd_lines {k : Nat} : ∀ {st st' : PS} {l : List UInt8} {p : Nat}, GdP st → linesV st k l p = .ok st' → GdP st' := by
  induction k with
  | zero =>
    intro st st' l p h hl
    unfold linesV at hl
    injection hl with hl
    rw [← hl]; exact h
  | succ k ih =>
    intro st st' l p h hl
    unfold linesV at hl
    split at hl
    · cases hl
    · rename_i st2 h2
      have g2 := gd_line h h2
      split at hl
      · injection hl with hl
        rw [← hl]; exact g2
      · exact ih g2 hl
theorem lab_le {L : List (List UInt8 × Nat)} (h : ∀ x ∈ L, x.2 ≤ 512) {n : List UInt8} {k : Nat} (hk : lab L n = some k) : k ≤ 512 := by
  unfold lab at hk
  obtain ⟨y, hy, rfl⟩ := Option.map_eq_some_iff.1 hk
  exact h y (List.mem_of_find?_eq_some hy)
theorem all_set (l : List (Int × Int)) (i : Nat) (v : Int) (h : i < l.length) : (allB (l.set i ((l.getD i (0, 0)).1, v))).length = (allB l).length := by
  induction l generalizing i with
  | nil => simp at h
  | cons x l ih =>
    have e : ∀ (y : Int × Int) (m : List (Int × Int)), allB (y :: m) = bytesI y.1.toNat y.2 ++ allB m := fun y m => rfl
    cases i with
    | zero =>
      simp only [List.set_cons_zero, List.getD_cons_zero]
      rw [e, e, List.length_append, List.length_append, bytesI_len, bytesI_len]
    | succ i =>
      simp only [List.set_cons_succ, List.getD_cons_succ]
      rw [e, e, List.length_append, List.length_append, ih i (by simpa using h)]
theorem cd_set (l : List (Int × Int)) (i j : Nat) (v : Int) (h : i < l.length) : cd (l.set i ((l.getD i (0, 0)).1, v)) j = cd l j := by
  unfold cd ops
  simp only [List.getD_eq_getElem?_getD, List.getElem?_set]
  by_cases e : i = j
  · subst e; simp [h]
  · simp [e]
theorem gd_res {L : List (List UInt8 × Nat)} (hL : ∀ x ∈ L, x.2 ≤ 512) : ∀ (us : List (Nat × List UInt8 × Nat × Nat)) (l l' : List (Int × Int)), okL l → (∀ u ∈ us, u.1 < l.length ∧ u.2.2.2 ≤ 512 ∧ ldC (cd l u.1) = true) → resU L us l = .ok l' → okL l' ∧ l'.length = l.length ∧ (allB l').length = (allB l).length
  | [], l, l', ho, _, h => by
    unfold resU at h
    injection h with h
    rw [← h]
    exact ⟨ho, rfl, rfl⟩
  | (i, n, q, b) :: us, l, l', ho, hu, h => by
    unfold resU at h
    split at h
    · cases h
    · rename_i k hk
      obtain ⟨h1, h2, h3⟩ := hu (i, n, q, b) (by simp)
      simp only at h1 h2 h3
      have hk5 := lab_le hL hk
      have hmem := ops_mem l i h1
      have hop : l.getD i (0, 0) = ops l i := rfl
      have hok := ho _ hmem
      have hcd : (ops l i).1 = (cd l i : Int) := by unfold cd; have := hok.1; omega
      have hld : cd l i = 24 ∨ cd l i = 25 ∨ cd l i = 26 := by unfold ldC at h3; simpa using h3
      have hstep := gd_res hL us (l.set i ((l.getD i (0, 0)).1, if (l.getD i (0, 0)).1 = 26 then (k : Int) else (k : Int) - (b : Int))) l' ?_ ?_ h
      · obtain ⟨g1, g2, g3⟩ := hstep
        exact ⟨g1, by rw [g2, List.length_set], by rw [g3, all_set _ _ _ h1]⟩
      · intro o hoo
        rcases List.mem_or_eq_of_mem_set hoo with hoo | rfl
        · exact ho o hoo
        · rw [hop, hcd]
          have e : ((cd l i : Int)).toNat = cd l i := by simp
          refine ⟨by simp, by omega, ?_, ?_⟩
          · simp only [e]
            rcases hld with hc | hc | hc <;> rw [hc] <;> simp [loC] <;> omega
          · simp only [e]
            rcases hld with hc | hc | hc <;> rw [hc] <;> simp [hiC] <;> omega
      · intro u huu
        obtain ⟨g1, g2, g3⟩ := hu u (by simp [huu])
        exact ⟨by rw [List.length_set]; exact g1, g2, by rw [cd_set _ _ _ _ h1]; exact g3⟩
/-- What Parse reads can be written. -/
theorem par_ok {t : List UInt8} {l : List (Int × Int)} (h : parV t = .ok l) : okL l ∧ (allB l).length ≤ 512 ∧ encV l = (allB l, 0, 0) := by
  unfold parV at h
  split at h
  · cases h
  · rename_i st hst
    have g := gd_lines gd_nil hst
    obtain ⟨h1, h2, h3⟩ := gd_res g.lb st.us st.ops l g.ok (fun u hu => by obtain ⟨a, _, b, c⟩ := g.us u hu; exact ⟨a, b, c⟩) h
    have h4 : (allB l).length ≤ 512 := by rw [h3, g.size]; exact g.small
    exact ⟨h1, h4, by unfold encV; rw [enc_all h1 (by simpa using h4)]; rfl⟩
end Go.Proofs.YtbjopdmchmekpaaDoor
