/- What is wrong in a line is told, whatever stands in the lines behind it: plain data. -/
import Derived.Test.YtbjopdmchmekpaaDoorAsGd
namespace Go.Proofs.YtbjopdmchmekpaaDoor

theorem tw_le {α : Type} (f : α → Bool) (l : List α) : (l.takeWhile f).length ≤ l.length := (List.takeWhile_sublist f).length_le
theorem tok_bd : ∀ (n : Nat) (l : List UInt8) (p : Nat), l.length ≤ n → ∀ x ∈ tokV l p, p ≤ x.2 ∧ x.2 + x.1.length ≤ p + l.length
  | n, l, p, hn, x, hx => by
    cases hd : l.dropWhile isB with
    | nil => rw [tokV_nil p hd] at hx; cases hx
    | cons a r =>
      rw [tokV_cons p hd] at hx
      have h1 : (l.takeWhile isB).length + (l.dropWhile isB).length = l.length := by rw [← List.length_append, List.takeWhile_append_dropWhile]
      have h2 : (r.takeWhile nB).length + (r.dropWhile nB).length = r.length := by rw [← List.length_append, List.takeWhile_append_dropWhile]
      rw [hd, List.length_cons] at h1
      rcases List.mem_cons.1 hx with rfl | hx
      · simp only [List.length_cons]
        omega
      · cases n with
        | zero => omega
        | succ n =>
          have := tok_bd n (r.dropWhile nB) _ (by omega) x hx
          omega
/-- Where a line is wrong. -/
theorem more_at {st : PS} {p c : Nat} {v : Int} {nm : Option (List UInt8 × Nat)} {r : List (List UInt8 × Nat)} {e : Int} {q lo hi : Nat} (h : moreV st p c v nm r = .error (e, q)) (hp : lo ≤ p ∧ p ≤ hi) (hr : ∀ x ∈ r, lo ≤ x.2 ∧ x.2 + x.1.length ≤ hi) : lo ≤ q ∧ q ≤ hi := by
  unfold moreV at h
  split at h
  · rename_i y z r'
    injection h with h
    injection h with h1 h2
    have := hr (y, z) (by simp)
    simp only at this
    omega
  · split at h
    · injection h with h
      injection h with h1 h2
      omega
    · cases h
theorem inst_at {st : PS} {t : List (List UInt8 × Nat)} {e : Int} {q lo hi : Nat} (h : instV st t = .error (e, q)) (ht : ∀ x ∈ t, lo ≤ x.2 ∧ x.2 + x.1.length ≤ hi) : lo ≤ q ∧ q ≤ hi := by
  unfold instV at h
  split at h
  · cases h
  · rename_i x p r
    have hx := ht (x, p) (by simp)
    simp only at hx
    have hr : ∀ y ∈ r, lo ≤ y.2 ∧ y.2 + y.1.length ≤ hi := fun y hy => ht y (by simp [hy])
    split at h
    · injection h with h
      injection h with h1 h2
      omega
    · split at h
      · exact more_at h ⟨by omega, by omega⟩ hr
      · split at h
        · injection h with h
          injection h with h1 h2
          omega
        · rename_i y z r2
          have hy := hr (y, z) (by simp)
          simp only at hy
          have hr2 : ∀ y ∈ r2, lo ≤ y.2 ∧ y.2 + y.1.length ≤ hi := fun y hy => hr y (by simp [hy])
          split at h
          · exact more_at h ⟨by omega, by omega⟩ hr2
          · split at h
            · injection h with h
              injection h with h1 h2
              omega
            · split at h
              · exact more_at h ⟨by omega, by omega⟩ hr2
              · injection h with h
                injection h with h1 h2
                omega
theorem line_at' {st : PS} {t : List (List UInt8 × Nat)} {e : Int} {q lo hi : Nat} (h : lineV st t = .error (e, q)) (ht : ∀ x ∈ t, lo ≤ x.2 ∧ x.2 + x.1.length ≤ hi) : lo ≤ q ∧ q ≤ hi := by
  unfold lineV at h
  split at h
  · cases h
  · rename_i x p r
    have hx := ht (x, p) (by simp)
    simp only at hx
    split at h
    · split at h
      · split at h
        · exact inst_at h (fun y hy => ht y (by simp [hy]))
        · injection h with h
          injection h with h1 h2
          omega
      · injection h with h
        injection h with h1 h2
        omega
    · exact inst_at h ht
/-- The end of the line in which a place is. -/
def enL (l : List UInt8) (j : Nat) : Nat := j + ((l.drop j).takeWhile (· != 10)).length
theorem tw_drop (l : List UInt8) (j : Nat) (h : j ≤ (l.takeWhile (· != 10)).length) : (l.drop j).takeWhile (· != 10) = (l.takeWhile (· != 10)).drop j := by
  induction l generalizing j with
  | nil => simp
  | cons a l ih =>
    cases j with
    | zero => simp
    | succ j =>
      by_cases ha : (a != 10) = true
      · rw [List.takeWhile_cons_of_pos (p := fun x => x != 10) ha] at h ⊢
        simp only [List.drop_succ_cons]
        exact ih j (by simpa using h)
      · rw [List.takeWhile_cons_of_neg (p := fun x => x != 10) ha] at h
        simp at h
theorem en_line (l : List UInt8) (j : Nat) (h : j ≤ (l.takeWhile (· != 10)).length) : enL l j = (l.takeWhile (· != 10)).length := by
  unfold enL
  rw [tw_drop l j h, List.length_drop]
  omega
theorem tw_all (l : List UInt8) : ∀ b ∈ l.takeWhile (· != 10), b ≠ 10 := by
  intro b hb
  have := List.all_takeWhile (p := fun x => x != (10 : UInt8)) (l := l)
  rw [List.all_eq_true] at this
  simpa using this b hb
theorem tw_self {t : List UInt8} (h : ∀ b ∈ t, b ≠ 10) (r : List UInt8) : (t ++ 10 :: r).takeWhile (· != 10) = t ∧ (t ++ 10 :: r).dropWhile (· != 10) = 10 :: r := by
  induction t with
  | nil => exact ⟨by simp, by simp⟩
  | cons a t ih =>
    obtain ⟨g1, g2⟩ := ih (fun b hb => h b (by simp [hb]))
    have ha : (a != 10) = true := by simpa using h a (by simp)
    rw [List.cons_append, List.takeWhile_cons_of_pos (p := fun x => x != 10) ha, List.dropWhile_cons_of_pos (p := fun x => x != 10) ha, g1, g2]
    exact ⟨rfl, rfl⟩
theorem err_lines : ∀ (k : Nat) (st : PS) (l : List UInt8) (p : Nat) (e : Int) (q : Nat), linesV st k l p = .error (e, q) → p ≤ q ∧ q ≤ p + l.length ∧ ∀ (more : List UInt8) (k' : Nat), enL l (q - p) < k' → linesV st k' (l.take (enL l (q - p)) ++ 10 :: more) p = .error (e, q) := by
  intro k
  induction k with
  | zero => intro st l p e q h; cases h
  | succ k ih =>
    intro st l p e q h
    rw [linesV] at h
    have hlen : (l.takeWhile (· != 10)).length ≤ l.length := tw_le _ _
    cases hl : lineV st (tokV ((l.takeWhile (· != 10)).takeWhile (· != 35)) p) with
    | error ep =>
      rw [hl] at h
      simp only at h
      have hep : ep = (e, q) := by injection h
      subst hep
      have h35 : ((l.takeWhile (· != 10)).takeWhile (· != 35)).length ≤ (l.takeWhile (· != 10)).length := tw_le _ _
      obtain ⟨h1, h2⟩ := line_at' (lo := p) (hi := p + ((l.takeWhile (· != 10)).takeWhile (· != 35)).length) hl (fun x hx => tok_bd _ _ p (Nat.le_refl _) x hx)
      refine ⟨h1, by omega, fun more k' hk => ?_⟩
      have hen := en_line l (q - p) (by omega)
      rw [hen] at hk ⊢
      have htk : l.take (l.takeWhile (· != 10)).length = l.takeWhile (· != 10) := by
        conv => lhs; rw [← List.takeWhile_append_dropWhile (p := fun x => x != (10 : UInt8)) (l := l)]
        rw [List.takeWhile_append_dropWhile]
        exact (List.prefix_iff_eq_take.1 (List.takeWhile_prefix _)).symm
      rw [htk]
      obtain ⟨k2, rfl⟩ : ∃ k2, k' = k2 + 1 := ⟨k' - 1, by omega⟩
      rw [linesV, (tw_self (tw_all l) more).1, hl]
    | ok st' =>
      rw [hl] at h
      simp only at h
      cases hd : l.dropWhile (· != 10) with
      | nil => rw [hd] at h; cases h
      | cons c t =>
        rw [hd] at h
        simp only at h
        obtain ⟨h1, h2, h3⟩ := ih st' t _ e q h
        have hsplit : l = l.takeWhile (· != 10) ++ 10 :: t := by
          have hc : c = 10 := by
            have := List.head?_dropWhile_not (fun x => x != (10 : UInt8)) l
            rw [hd] at this
            simpa using this
          conv => lhs; rw [← List.takeWhile_append_dropWhile (p := fun x => x != (10 : UInt8)) (l := l), hd, hc]
        have hll : l.length = (l.takeWhile (· != 10)).length + 1 + t.length := by
          conv => lhs; rw [hsplit]
          rw [List.length_append, List.length_cons]
          omega
        generalize hln : l.takeWhile (· != 10) = ln at *
        have hqp : q - p = ln.length + 1 + (q - (p + ln.length + 1)) := by omega
        generalize hjj : q - (p + ln.length + 1) = j at *
        have hdrop : l.drop (ln.length + 1 + j) = t.drop j := by
          rw [hsplit, List.drop_append]
          rw [List.drop_eq_nil_of_le (by omega), List.nil_append, show ln.length + 1 + j - ln.length = j + 1 by omega]
          rfl
        have hen : enL l (q - p) = ln.length + 1 + enL t j := by
          unfold enL
          rw [hqp, hdrop]
          omega
        refine ⟨by omega, by omega, fun more k' hk => ?_⟩
        rw [hen] at hk ⊢
        have htake : l.take (ln.length + 1 + enL t j) = ln ++ 10 :: t.take (enL t j) := by
          rw [hsplit, List.take_append, List.take_of_length_le (by omega), show ln.length + 1 + enL t j - ln.length = enL t j + 1 by omega]
          rfl
        rw [htake]
        obtain ⟨k2, rfl⟩ : ∃ k2, k' = k2 + 1 := ⟨k' - 1, by omega⟩
        have hln10 : ∀ b ∈ ln, b ≠ 10 := by rw [← hln]; exact tw_all l
        have e1 : ln ++ 10 :: t.take (enL t j) ++ 10 :: more = ln ++ 10 :: (t.take (enL t j) ++ 10 :: more) := by simp
        rw [e1, linesV, (tw_self hln10 _).1, hl, (tw_self hln10 _).2]
        simp only
        exact h3 more k2 (by omega)
/-- What is wrong by a name alone is found behind the lines. -/
theorem res_err {L : List (List UInt8 × Nat)} : ∀ (us : List (Nat × List UInt8 × Nat × Nat)) (l : List (Int × Int)) (e : Int) (q : Nat), resU L us l = .error (e, q) → e = 11
  | [], l, e, q, h => by cases h
  | (i, n, z, b) :: us, l, e, q, h => by
    unfold resU at h
    split at h
    · injection h with h
      injection h with h1 h2
      omega
    · exact res_err us _ e q h
theorem par_first {t : List UInt8} {e : Int} {q : Nat} (h : parV t = .error (e, q)) (he : e ≠ 11) (more : List UInt8) : q ≤ t.length ∧ parV (t.take (enL t q) ++ 10 :: more) = .error (e, q) := by
  unfold parV at h
  split at h
  · rename_i ep hl
    have hep : ep = (e, q) := by injection h
    subst hep
    obtain ⟨h1, h2, h3⟩ := err_lines _ _ _ _ _ _ hl
    refine ⟨by omega, ?_⟩
    unfold parV
    rw [Nat.sub_zero] at h3
    have hk : enL t q < (t.take (enL t q) ++ 10 :: more).length + 1 := by
      have : enL t q ≤ t.length := by
        unfold enL
        have := tw_le (fun x => x != (10 : UInt8)) (t.drop q)
        rw [List.length_drop] at this
        omega
      rw [List.length_append, List.length_take, List.length_cons]
      omega
    rw [h3 more _ hk]
  · exact absurd (res_err _ _ _ _ h) he
end Go.Proofs.YtbjopdmchmekpaaDoor
/- Two texts without labels, one behind the other; and what was read is a program: plain data. -/
namespace Go.Proofs.YtbjopdmchmekpaaDoor

/-- What Parse reads is a program that Print prints. -/
theorem once_prg {t : List UInt8} {l : List (Int × Int)} (h : parV t = .ok l) : Prg (strOfNums (allB l)) l := by
  obtain ⟨_, _, h3⟩ := par_ok h
  have hd := (dec_enc (l := l) (by rw [h3])).1
  rw [h3] at hd
  simp only at hd
  have := prg_of (s := strOfNums (allB l)) (by rw [hd])
  rw [hd] at this
  exact this

/-! ### no labels -/
theorem tok_mem : ∀ (n : Nat) (l : List UInt8) (p : Nat), l.length ≤ n → ∀ x ∈ tokV l p, ∀ b ∈ x.1, b ∈ l
  | n, l, p, hn, x, hx, b, hb => by
    cases hd : l.dropWhile isB with
    | nil => rw [tokV_nil p hd] at hx; cases hx
    | cons a r =>
      rw [tokV_cons p hd] at hx
      have hsub : ∀ c ∈ a :: r, c ∈ l := fun c hc => (List.dropWhile_sublist isB).subset (hd ▸ hc)
      have hlen : (l.dropWhile isB).length ≤ l.length := (List.dropWhile_sublist isB).length_le
      rw [hd, List.length_cons] at hlen
      rcases List.mem_cons.1 hx with rfl | hx
      · rcases List.mem_cons.1 hb with rfl | hb
        · exact hsub _ (by simp)
        · exact hsub b (by simp [(List.takeWhile_sublist nB).subset hb])
      · cases n with
        | zero => omega
        | succ n =>
          have hl2 : (r.dropWhile nB).length ≤ r.length := (List.dropWhile_sublist nB).length_le
          have := tok_mem n (r.dropWhile nB) _ (by omega) x hx b hb
          exact hsub b (by simp [(List.dropWhile_sublist nB).subset this])
theorem line_inst {st : PS} {l : List UInt8} {p : Nat} (h : ∀ b ∈ l, b ≠ 58) : lineV st (tokV l p) = instV st (tokV l p) := by
  have ht : ∀ x ∈ tokV l p, ¬ x.1.getLast? = some 58 := fun x hx e => h 58 (tok_mem _ l p (Nat.le_refl _) x hx 58 (List.mem_of_getLast? e)) rfl
  cases hk : tokV l p with
  | nil => rfl
  | cons x r =>
    obtain ⟨y, q⟩ := x
    rw [hk] at ht
    unfold lineV
    simp only
    rw [if_neg (ht (y, q) (by simp))]
/-- Behind a program of so many bytes. -/
def shP (A : List (Int × Int)) (z : Nat) (st : PS) : PS := ⟨A ++ st.ops, [], z + st.size, []⟩
/-- Like texts at other places. -/
def sameT (t t' : List (List UInt8 × Nat)) : Prop := t.map (·.1) = t'.map (·.1)
theorem tok_same : ∀ (n : Nat) (l : List UInt8) (p p' : Nat), l.length ≤ n → sameT (tokV l p) (tokV l p')
  | n, l, p, p', hn => by
    unfold sameT
    cases hd : l.dropWhile isB with
    | nil => rw [tokV_nil p hd, tokV_nil p' hd]
    | cons a r =>
      rw [tokV_cons p hd, tokV_cons p' hd, List.map_cons, List.map_cons]
      have hlen : (l.dropWhile isB).length ≤ l.length := (List.dropWhile_sublist isB).length_le
      rw [hd, List.length_cons] at hlen
      have hl2 : (r.dropWhile nB).length ≤ r.length := (List.dropWhile_sublist nB).length_le
      cases n with
      | zero => omega
      | succ n =>
        have := tok_same n (r.dropWhile nB) (p + (l.takeWhile isB).length + (1 + (r.takeWhile nB).length)) (p' + (l.takeWhile isB).length + (1 + (r.takeWhile nB).length)) (by omega)
        unfold sameT at this
        rw [this]
theorem more_sh {A : List (Int × Int)} {z : Nat} {st st' : PS} {p p' c : Nat} {v : Int} {nm : Option (List UInt8 × Nat)} {r r' : List (List UInt8 × Nat)} (hs : st.us = [] ∧ st.labs = []) (h : moreV st p c v nm r = .ok st') (hu : st'.us = []) (hr : sameT r r') :
    st'.labs = [] ∧ st.size ≤ st'.size ∧ nm = none ∧ moreV (shP A z st) p' c v none r' = if z + st'.size ≤ 512 then .ok (shP A z st') else .error (2, p') := by
  unfold moreV at h
  split at h
  · cases h
  · split at h
    · cases h
    · rename_i hsz
      injection h with h
      subst h
      have hnm : nm = none := by
        cases nm with
        | none => rfl
        | some x => simp [addI, nuse] at hu
      subst hnm
      have hr' : r' = [] := by
        unfold sameT at hr
        simpa using hr.symm
      subst hr'
      refine ⟨hs.2, by simp [addI], rfl, ?_⟩
      unfold moreV
      have e1 : (shP A z st).size + (1 + wdC c) = z + (addI st c v none).size := by simp [shP, addI]; omega
      rw [e1]
      by_cases hf : z + (addI st c v none).size ≤ 512
      · rw [if_neg (by omega), if_pos hf]
        congr 1
        simp [shP, addI, nuse]
        omega
      · rw [if_pos (by omega), if_neg hf]
theorem inst_sh {A : List (Int × Int)} {z : Nat} {st st' : PS} {t t' : List (List UInt8 × Nat)} (hs : st.us = [] ∧ st.labs = []) (h : instV st t = .ok st') (hu : st'.us = []) (ht : sameT t t') (hz : z + st.size ≤ 512) :
    st'.labs = [] ∧ st.size ≤ st'.size ∧ ((z + st'.size ≤ 512 ∧ instV (shP A z st) t' = .ok (shP A z st')) ∨ (512 < z + st'.size ∧ ∃ q, instV (shP A z st) t' = .error (2, q))) := by
  have key : ∀ {p p' c : Nat} {v : Int} {nm : Option (List UInt8 × Nat)} {r r' : List (List UInt8 × Nat)}, moreV st p c v nm r = .ok st' → sameT r r' → instV (shP A z st) t' = moreV (shP A z st) p' c v none r' ∨ nm ≠ none → st'.labs = [] ∧ st.size ≤ st'.size ∧ ((z + st'.size ≤ 512 ∧ instV (shP A z st) t' = .ok (shP A z st')) ∨ (512 < z + st'.size ∧ ∃ q, instV (shP A z st) t' = .error (2, q))) := by
    intro p p' c v nm r r' hm hr hi
    obtain ⟨h1, h2, h3, h4⟩ := more_sh (A := A) (z := z) (p' := p') hs hm hu hr
    refine ⟨h1, h2, ?_⟩
    rcases hi with hi | hi
    · rw [hi, h4]
      by_cases hf : z + st'.size ≤ 512
      · exact Or.inl ⟨hf, by rw [if_pos hf]⟩
      · exact Or.inr ⟨by omega, p', by rw [if_neg hf]⟩
    · exact absurd h3 hi
  unfold instV at h
  cases t with
  | nil =>
    injection h with h
    subst h
    have : t' = [] := by unfold sameT at ht; simpa using ht.symm
    subst this
    exact ⟨hs.2, Nat.le_refl _, Or.inl ⟨hz, rfl⟩⟩
  | cons x r =>
    obtain ⟨x, p⟩ := x
    cases t' with
    | nil => unfold sameT at ht; simp at ht
    | cons x' r' =>
      obtain ⟨x', p'⟩ := x'
      unfold sameT at ht
      simp only [List.map_cons, List.cons.injEq] at ht
      obtain ⟨rfl, hr⟩ := ht
      simp only at h
      cases hw : wordI x with
      | none => rw [hw] at h; cases h
      | some c =>
        rw [hw] at h
        simp only at h
        by_cases hz0 : wdC c = 0
        · rw [if_pos hz0] at h
          refine key (p' := p') h hr (Or.inl ?_)
          unfold instV
          simp only [hw]
          rw [if_pos hz0]
        · rw [if_neg hz0] at h
          cases r with
          | nil => cases h
          | cons y r2 =>
            obtain ⟨y, q⟩ := y
            cases r' with
            | nil => simp at hr
            | cons y' r2' =>
              obtain ⟨y', q'⟩ := y'
              simp only [List.map_cons, List.cons.injEq] at hr
              obtain ⟨rfl, hr2⟩ := hr
              simp only at h
              cases hn : (ldC c && nameV y) with
              | true =>
                rw [hn] at h
                simp only [if_true] at h
                exact key (p' := p') (r' := r2') h hr2 (Or.inr (by simp))
              | false =>
                rw [hn] at h
                simp only [Bool.false_eq_true, if_false] at h
                cases hv : numV y with
                | none => rw [hv] at h; cases h
                | some v =>
                  rw [hv] at h
                  simp only at h
                  by_cases hb : loC c ≤ v ∧ v ≤ hiC c
                  · rw [if_pos hb] at h
                    refine key (p' := p') h hr2 (Or.inl ?_)
                    unfold instV
                    simp only [hw]
                    rw [if_neg hz0, hn, hv]
                    simp only [Bool.false_eq_true, if_false]
                    rw [if_pos hb]
                  · rw [if_neg hb] at h; cases h
theorem more_us {st st' : PS} {p c : Nat} {v : Int} {nm : Option (List UInt8 × Nat)} {r : List (List UInt8 × Nat)} (h : moreV st p c v nm r = .ok st') (hu : st'.us = []) : st.us = [] := by
  unfold moreV at h
  split at h
  · cases h
  · split at h
    · cases h
    · injection h with h
      subst h
      simp only [addI, List.append_eq_nil_iff] at hu
      exact hu.1
theorem inst_us {st st' : PS} {t : List (List UInt8 × Nat)} (h : instV st t = .ok st') (hu : st'.us = []) : st.us = [] := by
  unfold instV at h
  split at h
  · injection h with h
    rw [h]; exact hu
  · split at h
    · cases h
    · split at h
      · exact more_us h hu
      · split at h
        · cases h
        · split at h
          · exact more_us h hu
          · split at h
            · cases h
            · split at h
              · exact more_us h hu
              · cases h
theorem more_labs {st st' : PS} {p c : Nat} {v : Int} {nm : Option (List UInt8 × Nat)} {r : List (List UInt8 × Nat)} (h : moreV st p c v nm r = .ok st') : st'.labs = st.labs ∧ st.size ≤ st'.size := by
  unfold moreV at h
  split at h
  · cases h
  · split at h
    · cases h
    · injection h with h
      subst h
      exact ⟨rfl, by simp [addI]⟩
theorem inst_ls {st st' : PS} {t : List (List UInt8 × Nat)} (h : instV st t = .ok st') : st'.labs = st.labs ∧ st.size ≤ st'.size := by
  unfold instV at h
  split at h
  · injection h with h
    rw [h]; exact ⟨rfl, Nat.le_refl _⟩
  · split at h
    · cases h
    · split at h
      · exact more_labs h
      · split at h
        · cases h
        · split at h
          · exact more_labs h
          · split at h
            · cases h
            · split at h
              · exact more_labs h
              · cases h
theorem inst_labs {st st' : PS} {t : List (List UInt8 × Nat)} (h : instV st t = .ok st') : st'.labs = st.labs := (inst_ls h).1
theorem tw_sub {l : List UInt8} (h : ∀ b ∈ l, b ≠ 58) : ∀ b ∈ (l.takeWhile (· != 10)).takeWhile (· != 35), b ≠ 58 := fun b hb => h b ((List.takeWhile_sublist _).subset ((List.takeWhile_sublist _).subset hb))
theorem dw_sub {l t : List UInt8} {c : UInt8} (h : ∀ b ∈ l, b ≠ 58) (hd : l.dropWhile (· != 10) = c :: t) : ∀ b ∈ t, b ≠ 58 := fun b hb => h b ((List.dropWhile_sublist (fun x => x != (10 : UInt8))).subset (hd ▸ List.mem_cons_of_mem c hb))
theorem dw_len {l t : List UInt8} {c : UInt8} (hd : l.dropWhile (· != 10) = c :: t) : l.length = (l.takeWhile (· != 10)).length + 1 + t.length ∧ l = l.takeWhile (· != 10) ++ 10 :: t := by
  have hc : c = 10 := by
    have := List.head?_dropWhile_not (fun x => x != (10 : UInt8)) l
    rw [hd] at this
    simpa using this
  have e : l = l.takeWhile (· != 10) ++ 10 :: t := by
    conv => lhs; rw [← List.takeWhile_append_dropWhile (p := fun x => x != (10 : UInt8)) (l := l), hd, hc]
  refine ⟨?_, e⟩
  conv => lhs; rw [e]
  rw [List.length_append, List.length_cons]
  omega
theorem lines_us {k : Nat} : ∀ {st st' : PS} {l : List UInt8} {p : Nat}, (∀ b ∈ l, b ≠ 58) → linesV st k l p = .ok st' → st'.us = [] → st.us = [] := by
  induction k with
  | zero =>
    intro st st' l p _ h hu
    injection h with h
    rw [h]; exact hu
  | succ k ih =>
    intro st st' l p h58 h hu
    rw [linesV, line_inst (tw_sub h58)] at h
    split at h
    · cases h
    · rename_i st2 h2
      split at h
      · injection h with h
        subst h
        exact inst_us h2 hu
      · rename_i c t hd
        exact inst_us h2 (ih (dw_sub h58 hd) h hu)
theorem lines_ls {k : Nat} : ∀ {st st' : PS} {l : List UInt8} {p : Nat}, (∀ b ∈ l, b ≠ 58) → linesV st k l p = .ok st' → st'.labs = st.labs ∧ st.size ≤ st'.size := by
  induction k with
  | zero =>
    intro st st' l p _ h
    injection h with h
    rw [h]; exact ⟨rfl, Nat.le_refl _⟩
  | succ k ih =>
    intro st st' l p h58 h
    rw [linesV, line_inst (tw_sub h58)] at h
    split at h
    · cases h
    · rename_i st2 h2
      obtain ⟨h3, h4⟩ := inst_ls h2
      split at h
      · injection h with h
        rw [← h]; exact ⟨h3, h4⟩
      · rename_i c t hd
        obtain ⟨h5, h6⟩ := ih (dw_sub h58 hd) h
        exact ⟨by rw [h5, h3], by omega⟩
/-- A text behind a program. -/
theorem lines_sh {A : List (Int × Int)} {z : Nat} {k : Nat} : ∀ {st st' : PS} {l : List UInt8} {p p' k' : Nat}, (∀ b ∈ l, b ≠ 58) → l.length < k → l.length < k' → st.us = [] ∧ st.labs = [] → linesV st k l p = .ok st' → st'.us = [] → z + st.size ≤ 512 →
    st'.labs = [] ∧ ((z + st'.size ≤ 512 ∧ linesV (shP A z st) k' l p' = .ok (shP A z st')) ∨ (512 < z + st'.size ∧ ∃ q, linesV (shP A z st) k' l p' = .error (2, q))) ∧ st.size ≤ st'.size := by
  induction k with
  | zero => intro st st' l p p' k' _ hk; omega
  | succ k ih =>
    intro st st' l p p' k' h58 hk hk' hs h hu hz
    obtain ⟨k2, rfl⟩ : ∃ k2, k' = k2 + 1 := ⟨k' - 1, by omega⟩
    rw [linesV, line_inst (tw_sub h58)] at h
    have hsame := tok_same _ ((l.takeWhile (· != 10)).takeWhile (· != 35)) p p' (Nat.le_refl _)
    split at h
    · cases h
    · rename_i st2 h2
      cases hd : l.dropWhile (· != 10) with
      | nil =>
        rw [hd] at h
        simp only at h
        injection h with h
        subst h
        obtain ⟨g1, g2, g3⟩ := inst_sh (A := A) hs h2 hu hsame hz
        refine ⟨g1, ?_, g2⟩
        rcases g3 with ⟨g4, g5⟩ | ⟨g4, q, g5⟩
        · exact Or.inl ⟨g4, by rw [linesV, line_inst (tw_sub h58), g5, hd]⟩
        · exact Or.inr ⟨g4, q, by rw [linesV, line_inst (tw_sub h58), g5]⟩
      | cons c t =>
        rw [hd] at h
        simp only at h
        have hl := (dw_len hd).1
        have hu2 := lines_us (dw_sub h58 hd) h hu
        obtain ⟨g1, g2, g3⟩ := inst_sh (A := A) hs h2 hu2 hsame hz
        rcases g3 with ⟨g4, g5⟩ | ⟨g4, q, g5⟩
        · obtain ⟨i1, i2, i3⟩ := ih (p' := p' + (l.takeWhile (· != 10)).length + 1) (k' := k2) (dw_sub h58 hd) (by omega) (by omega) ⟨hu2, g1⟩ h hu g4
          refine ⟨i1, ?_, by omega⟩
          rcases i2 with ⟨i4, i5⟩ | ⟨i4, q, i5⟩
          · exact Or.inl ⟨i4, by rw [linesV, line_inst (tw_sub h58), g5, hd]; exact i5⟩
          · exact Or.inr ⟨i4, q, by rw [linesV, line_inst (tw_sub h58), g5, hd]; exact i5⟩
        · have hge : st2.size ≤ st'.size ∧ st'.labs = [] := by
            obtain ⟨i1, i2⟩ := lines_ls (dw_sub h58 hd) h
            exact ⟨i2, by rw [i1]; exact g1⟩
          exact ⟨hge.2, Or.inr ⟨by omega, q, by rw [linesV, line_inst (tw_sub h58), g5]⟩, by omega⟩
/-- One text behind another. -/
theorem lines_join {u : List UInt8} {k : Nat} : ∀ {st st' : PS} {l : List UInt8} {p k' : Nat}, l.length < k → linesV st k l p = .ok st' → l.length + 1 + u.length < k' → ∃ k2, u.length < k2 ∧ linesV st k' (l ++ 10 :: u) p = linesV st' k2 u (p + l.length + 1) := by
  induction k with
  | zero => intro st st' l p k' hk; omega
  | succ k ih =>
    intro st st' l p k' hk h hk'
    obtain ⟨k2, rfl⟩ : ∃ k2, k' = k2 + 1 := ⟨k' - 1, by omega⟩
    rw [linesV] at h
    split at h
    · cases h
    · rename_i st2 h2
      cases hd : l.dropWhile (· != 10) with
      | nil =>
        rw [hd] at h
        simp only at h
        injection h with h
        subst h
        have hl : l.takeWhile (· != 10) = l := by
          have := List.takeWhile_append_dropWhile (p := fun x => x != (10 : UInt8)) (l := l)
          rw [hd, List.append_nil] at this
          exact this
        rw [hl] at h2
        have h10 : ∀ b ∈ l, b ≠ 10 := by rw [← hl]; exact tw_all l
        refine ⟨k2, by omega, ?_⟩
        rw [linesV, (tw_self h10 u).1, h2, (tw_self h10 u).2]
      | cons c t =>
        rw [hd] at h
        simp only at h
        obtain ⟨hl, he⟩ := dw_len hd
        generalize hln : l.takeWhile (· != 10) = ln at *
        have h10 : ∀ b ∈ ln, b ≠ 10 := by rw [← hln]; exact tw_all l
        obtain ⟨k3, hk3, e3⟩ := ih (p := p + ln.length + 1) (k' := k2) (by omega) h (by omega)
        refine ⟨k3, hk3, ?_⟩
        have e1 : l ++ 10 :: u = ln ++ 10 :: (t ++ 10 :: u) := by rw [he]; simp
        rw [e1, linesV, (tw_self h10 _).1, h2, (tw_self h10 _).2]
        simp only
        rw [e3]
        congr 1
        omega
theorem res_none {us : List (Nat × List UInt8 × Nat × Nat)} {l l' : List (Int × Int)} (h : resU [] us l = .ok l') : us = [] ∧ l' = l := by
  cases us with
  | nil =>
    unfold resU at h
    injection h with h
    exact ⟨rfl, h.symm⟩
  | cons x us =>
    obtain ⟨i, n, q, b⟩ := x
    unfold resU at h
    have : lab [] n = none := rfl
    rw [this] at h
    cases h
theorem par_nolab {t : List UInt8} {l : List (Int × Int)} (h58 : ∀ b ∈ t, b ≠ 58) (h : parV t = .ok l) : ∃ st, linesV ⟨[], [], 0, []⟩ (t.length + 1) t 0 = .ok st ∧ st.us = [] ∧ st.labs = [] ∧ st.ops = l ∧ (allB l).length = st.size := by
  unfold parV at h
  split at h
  · cases h
  · rename_i st hst
    have hl := (lines_ls h58 hst).1
    simp only at hl
    rw [hl] at h
    obtain ⟨h1, h2⟩ := res_none h
    have g := gd_lines gd_nil hst
    exact ⟨st, hst, h1, hl, h2.symm, by rw [h2]; exact g.size⟩
/-- Two programs, one behind the other. -/
theorem par_join {t u : List UInt8} {a b : List (Int × Int)} (ht : ∀ x ∈ t, x ≠ 58) (hu : ∀ x ∈ u, x ≠ 58) (ha : parV t = .ok a) (hb : parV u = .ok b) :
    ((allB a).length + (allB b).length ≤ 512 ∧ parV (t ++ 10 :: u) = .ok (a ++ b)) ∨ (512 < (allB a).length + (allB b).length ∧ ∃ q, parV (t ++ 10 :: u) = .error (2, q)) := by
  obtain ⟨s1, h1, h2, h3, h4, h5⟩ := par_nolab ht ha
  obtain ⟨s2, g1, g2, g3, g4, g5⟩ := par_nolab hu hb
  obtain ⟨k2, hk2, e2⟩ := lines_join (u := u) (k' := (t ++ 10 :: u).length + 1) (by omega) h1 (by simp; omega)
  have hsm := (gd_lines gd_nil h1).small
  have hs1 : s1 = shP a s1.size ⟨[], [], 0, []⟩ := by
    obtain ⟨o, us, sz, lb⟩ := s1
    simp only at h2 h3 h4
    subst h2 h3 h4
    simp [shP]
  obtain ⟨_, i2, _⟩ := lines_sh (A := a) (z := s1.size) (p' := t.length + 1) (k' := k2) hu (by omega) hk2 ⟨rfl, rfl⟩ g1 g2 (by simpa using hsm)
  rw [← hs1] at i2
  rw [h5, g5]
  rw [Nat.zero_add] at e2
  rcases i2 with ⟨i3, i4⟩ | ⟨i3, q, i4⟩
  · refine Or.inl ⟨i3, ?_⟩
    unfold parV
    rw [e2, i4]
    simp only [shP, resU]
    rw [g4]
  · refine Or.inr ⟨i3, q, ?_⟩
    unfold parV
    rw [e2, i4]
end Go.Proofs.YtbjopdmchmekpaaDoor
