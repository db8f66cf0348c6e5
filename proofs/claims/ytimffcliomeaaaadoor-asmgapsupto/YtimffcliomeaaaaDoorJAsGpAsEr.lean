/- Blanks, remarks and empty lines change nothing of what is read: plain data. -/
import Derived.Test.YtimffcliomeaaaaDoorJAsFiAsJn
import Derived.Test.YtimffcliomeaaaaDoorJAsEpAsEq
namespace Go.Proofs.YtimffcliomeaaaaDoor

/-! ### words -/
def wds (l : List UInt8) : List (List UInt8) := (tokV l 0).map (·.1)
theorem wds_tok (l : List UInt8) (p : Nat) : (tokV l p).map (·.1) = wds l := tok_same _ l p 0 (Nat.le_refl _)
theorem wds_nil : wds [] = [] := by unfold wds; rw [tokV_nil 0 rfl]; rfl
theorem wds_blank {b : UInt8} (h : isB b = true) (l : List UInt8) : wds (b :: l) = wds l := by
  unfold wds
  have hd : (b :: l).dropWhile isB = l.dropWhile isB := List.dropWhile_cons_of_pos h
  cases hl : l.dropWhile isB with
  | nil => rw [tokV_nil 0 (hd.trans hl), tokV_nil 0 hl]
  | cons a r =>
    rw [tokV_cons 0 (hd.trans hl), tokV_cons 0 hl, List.map_cons, List.map_cons]
    congr 1
    exact tok_same _ _ _ _ (Nat.le_refl _)
theorem wds_char {c : UInt8} (h : isB c = false) (l : List UInt8) : wds (c :: l) = (c :: l.takeWhile nB) :: wds (l.dropWhile nB) := by
  unfold wds
  have hd : (c :: l).dropWhile isB = c :: l := List.dropWhile_cons_of_neg (by simp [h])
  rw [tokV_cons 0 hd, List.map_cons]
  congr 1
  exact tok_same _ _ _ _ (Nat.le_refl _)
/-- More blanks for a blank. -/
def gpC (c : UInt8) : List UInt8 := if c = 32 then [9, 32, 32] else [c]
def gpL (l : List UInt8) : List UInt8 := l.flatMap gpC
theorem gp_tw (l : List UInt8) : (gpL l).takeWhile nB = l.takeWhile nB ∧ (gpL l).dropWhile nB = gpL (l.dropWhile nB) := by
  induction l with
  | nil => exact ⟨rfl, rfl⟩
  | cons c l ih =>
    by_cases h32 : c = 32
    · subst h32
      have e : gpL (32 :: l) = 9 :: 32 :: 32 :: gpL l := rfl
      rw [e, List.takeWhile_cons_of_neg (by decide), List.dropWhile_cons_of_neg (by decide), List.takeWhile_cons_of_neg (by decide), List.dropWhile_cons_of_neg (by decide)]
      exact ⟨rfl, rfl⟩
    · have e : gpL (c :: l) = c :: gpL l := by unfold gpL; rw [List.flatMap_cons]; simp [gpC, h32]
      by_cases hn : nB c = true
      · rw [e, List.takeWhile_cons_of_pos hn, List.dropWhile_cons_of_pos hn, List.takeWhile_cons_of_pos hn, List.dropWhile_cons_of_pos hn, ih.1, ih.2]
        exact ⟨rfl, rfl⟩
      · rw [e, List.takeWhile_cons_of_neg hn, List.dropWhile_cons_of_neg hn, List.takeWhile_cons_of_neg hn, List.dropWhile_cons_of_neg hn, e]
        exact ⟨rfl, rfl⟩
theorem wds_gp : ∀ (n : Nat) (l : List UInt8), l.length ≤ n → wds (gpL l) = wds l
  | n, [], _ => rfl
  | 0, c :: l, h => by simp at h
  | n + 1, c :: l, h => by
    by_cases h32 : c = 32
    · subst h32
      have e : gpL (32 :: l) = 9 :: 32 :: 32 :: gpL l := rfl
      rw [e, wds_blank (by decide), wds_blank (by decide), wds_blank (by decide), wds_blank (by decide), wds_gp n l (by simpa using h)]
    · have e : gpL (c :: l) = c :: gpL l := by unfold gpL; rw [List.flatMap_cons]; simp [gpC, h32]
      rw [e]
      cases hb : isB c with
      | true => rw [wds_blank hb, wds_blank hb, wds_gp n l (by simpa using h)]
      | false =>
        obtain ⟨h1, h2⟩ := gp_tw l
        rw [wds_char hb, wds_char hb, h1, h2, wds_gp n (l.dropWhile nB) (by have := (List.dropWhile_sublist (l := l) nB).length_le; simp at h; omega)]
theorem app_tw (l r : List UInt8) (b : UInt8) (hb : isB b = true) : (l ++ b :: r).takeWhile nB = l.takeWhile nB ∧ (l ++ b :: r).dropWhile nB = l.dropWhile nB ++ b :: r := by
  have hn : ¬ nB b = true := by unfold nB; simp [hb]
  induction l with
  | nil => exact ⟨by rw [List.nil_append, List.takeWhile_cons_of_neg hn]; rfl, by rw [List.nil_append, List.dropWhile_cons_of_neg hn]; rfl⟩
  | cons c l ih =>
    by_cases hc : nB c = true
    · rw [List.cons_append, List.takeWhile_cons_of_pos hc, List.dropWhile_cons_of_pos hc, List.takeWhile_cons_of_pos hc, List.dropWhile_cons_of_pos hc, ih.1, ih.2]
      exact ⟨rfl, rfl⟩
    · rw [List.cons_append, List.takeWhile_cons_of_neg hc, List.dropWhile_cons_of_neg hc, List.takeWhile_cons_of_neg hc, List.dropWhile_cons_of_neg hc]
      exact ⟨rfl, rfl⟩
theorem wds_end : ∀ (n : Nat) (l : List UInt8) (b : UInt8), isB b = true → l.length ≤ n → wds (l ++ [b]) = wds l
  | n, [], b, hb, _ => by rw [List.nil_append, wds_blank hb]
  | 0, c :: l, b, _, h => by simp at h
  | n + 1, c :: l, b, hb, h => by
    rw [List.cons_append]
    cases hc : isB c with
    | true => rw [wds_blank hc, wds_blank hc, wds_end n l b hb (by simpa using h)]
    | false =>
      obtain ⟨h1, h2⟩ := app_tw l [] b hb
      rw [wds_char hc, wds_char hc, h1, h2, wds_end n _ b hb (by have := (List.dropWhile_sublist (l := l) nB).length_le; simp at h; omega)]
/-! ### like states -/
/-- Alike but for places in the text. -/
structure Lk (s t : PS) : Prop where
  ops : s.ops = t.ops
  size : s.size = t.size
  labs : s.labs = t.labs
  us : s.us.map (fun u => (u.1, u.2.1, u.2.2.2)) = t.us.map (fun u => (u.1, u.2.1, u.2.2.2))
theorem Lk.refl (s : PS) : Lk s s := ⟨rfl, rfl, rfl, rfl⟩
/-- Alike: both wrong for the same reason, or both read alike. -/
def LkE : Except (Int × Nat) PS → Except (Int × Nat) PS → Prop
  | .error e, .error f => e.1 = f.1
  | .ok s, .ok t => Lk s t
  | _, _ => False
theorem lk_more {s t : PS} {p p' c : Nat} {v : Int} {nm nm' : Option (List UInt8 × Nat)} {r r' : List (List UInt8 × Nat)} (h : Lk s t) (hr : sameT r r') (hn : nm.map (·.1) = nm'.map (·.1)) : LkE (moreV s p c v nm r) (moreV t p' c v nm' r') := by
  unfold moreV
  cases r with
  | nil =>
    have : r' = [] := by unfold sameT at hr; simpa using hr.symm
    subst this
    simp only
    rw [h.size]
    split
    · rfl
    · refine ⟨?_, ?_, h.labs, ?_⟩
      · simp [addI, h.ops]
      · simp [addI, h.size]
      · simp only [addI, List.map_append, h.us, h.ops, h.size]
        congr 1
        cases nm with
        | none =>
          cases nm' with
          | none => rfl
          | some y => simp at hn
        | some x =>
          cases nm' with
          | none => simp at hn
          | some y =>
            obtain ⟨x1, x2⟩ := x
            obtain ⟨y1, y2⟩ := y
            simp only [Option.map_some, Option.some.injEq] at hn
            subst hn
            rfl
  | cons x r =>
    cases r' with
    | nil => unfold sameT at hr; simp at hr
    | cons x' r' => rfl
theorem lk_inst {s t : PS} {a a' : List (List UInt8 × Nat)} (h : Lk s t) (ht : sameT a a') : LkE (instV s a) (instV t a') := by
  cases a with
  | nil =>
    have : a' = [] := by unfold sameT at ht; simpa using ht.symm
    subst this
    exact h
  | cons x r =>
    obtain ⟨x, p⟩ := x
    cases a' with
    | nil => unfold sameT at ht; simp at ht
    | cons x' r' =>
      obtain ⟨x', p'⟩ := x'
      unfold sameT at ht
      simp only [List.map_cons, List.cons.injEq] at ht
      obtain ⟨rfl, hr⟩ := ht
      unfold instV
      simp only
      cases hw : wordI x with
      | none => rfl
      | some c =>
        simp only
        by_cases hz : wdC c = 0
        · rw [if_pos hz, if_pos hz]
          exact lk_more h hr rfl
        · rw [if_neg hz, if_neg hz]
          cases r with
          | nil =>
            have : r' = [] := by simpa using hr.symm
            subst this
            rfl
          | cons y r2 =>
            obtain ⟨y, q⟩ := y
            cases r' with
            | nil => simp at hr
            | cons y' r2' =>
              obtain ⟨y', q'⟩ := y'
              simp only [List.map_cons, List.cons.injEq] at hr
              obtain ⟨rfl, hr2⟩ := hr
              simp only
              cases hn : (ldC c && nameV y) with
              | true =>
                simp only [if_true]
                exact lk_more h hr2 rfl
              | false =>
                simp only [Bool.false_eq_true, if_false]
                cases hv : numV y with
                | none => rfl
                | some v =>
                  simp only
                  by_cases hb : loC c ≤ v ∧ v ≤ hiC c
                  · rw [if_pos hb, if_pos hb]
                    exact lk_more h hr2 rfl
                  · rw [if_neg hb, if_neg hb]
                    rfl
theorem lk_line {s t : PS} {a a' : List (List UInt8 × Nat)} (h : Lk s t) (ht : sameT a a') : LkE (lineV s a) (lineV t a') := by
  cases a with
  | nil =>
    have : a' = [] := by unfold sameT at ht; simpa using ht.symm
    subst this
    exact h
  | cons x r =>
    obtain ⟨x, p⟩ := x
    cases a' with
    | nil => unfold sameT at ht; simp at ht
    | cons x' r' =>
      obtain ⟨x', p'⟩ := x'
      have ht' := ht
      unfold sameT at ht
      simp only [List.map_cons, List.cons.injEq] at ht
      obtain ⟨rfl, hr⟩ := ht
      unfold lineV
      simp only
      split
      · split
        · rw [h.labs]
          split
          · refine lk_inst ⟨h.ops, h.size, ?_, h.us⟩ hr
            simp only [h.size]
          · rfl
        · rfl
      · exact lk_inst h ht'
/-! ### lines -/
theorem wds_pre {bs : List UInt8} (h : ∀ b ∈ bs, isB b = true) (l : List UInt8) : wds (bs ++ l) = wds l := by
  induction bs with
  | nil => rfl
  | cons b bs ih =>
    rw [List.cons_append, wds_blank (h b (by simp)), ih (fun c hc => h c (by simp [hc]))]
theorem gp_mem {l : List UInt8} {b : UInt8} (h : b ∈ gpL l) : b ∈ l ∨ b = 9 ∨ b = 32 := by
  unfold gpL at h
  obtain ⟨c, hc, hb⟩ := List.mem_flatMap.1 h
  unfold gpC at hb
  split at hb
  · simp at hb
    rcases hb with rfl | rfl <;> simp
  · rw [List.mem_singleton.1 hb]
    exact Or.inl hc
theorem tw35 (l r : List UInt8) : (gpL l ++ r).takeWhile (· != 35) = gpL (l.takeWhile (· != 35)) ++ (if 35 ∈ l then [] else r.takeWhile (· != 35)) := by
  induction l with
  | nil => simp [gpL]
  | cons c l ih =>
    by_cases h35 : c = 35
    · subst h35
      have e : gpL (35 :: l) = 35 :: gpL l := rfl
      rw [e, List.cons_append, List.takeWhile_cons_of_neg (by decide), List.takeWhile_cons_of_neg (by decide)]
      simp [gpL]
    · have hc : (c != 35) = true := by simpa using h35
      have hm : (35 ∈ c :: l) = (35 ∈ l) := by
        rw [List.mem_cons]
        simp [Ne.symm h35]
      rw [List.takeWhile_cons_of_pos (p := fun x => x != 35) hc]
      by_cases h32 : c = 32
      · subst h32
        have e : ∀ m, gpL (32 :: m) = 9 :: 32 :: 32 :: gpL m := fun m => rfl
        rw [e, e, List.cons_append, List.cons_append, List.cons_append, List.takeWhile_cons_of_pos (by decide), List.takeWhile_cons_of_pos (by decide), List.takeWhile_cons_of_pos (by decide), ih]
        simp
      · have e : ∀ m, gpL (c :: m) = c :: gpL m := fun m => by unfold gpL; rw [List.flatMap_cons]; simp [gpC, h32]
        rw [e, e, List.cons_append, List.takeWhile_cons_of_pos (p := fun x => x != 35) hc, ih]
        simp only [List.cons_append, hm]
/-- The words of a line that is spread out. -/
theorem ln_wds {bs ln x : List UInt8} {b : UInt8} (hbs : ∀ c ∈ bs, isB c = true) (hb : isB b = true) : wds ((bs ++ (gpL ln ++ b :: 35 :: x)).takeWhile (· != 35)) = wds (ln.takeWhile (· != 35)) := by
  have h1 : (bs ++ (gpL ln ++ b :: 35 :: x)).takeWhile (· != 35) = bs ++ (gpL ln ++ b :: 35 :: x).takeWhile (· != 35) := by
    clear hb
    induction bs with
    | nil => rfl
    | cons c bs ih =>
      have hc : (c != 35) = true := by
        have := hbs c (by simp)
        by_cases e : c = 35
        · subst e; exact absurd this (by decide)
        · simpa using e
      rw [List.cons_append, List.takeWhile_cons_of_pos (p := fun x => x != 35) hc, ih (fun d hd => hbs d (by simp [hd])), List.cons_append]
  have hb35 : (b != 35) = true := by
    by_cases e : b = 35
    · subst e; exact absurd hb (by decide)
    · simpa using e
  rw [h1, wds_pre hbs, tw35]
  split
  · rw [List.append_nil, wds_gp _ _ (Nat.le_refl _)]
  · rw [List.takeWhile_cons_of_pos (p := fun x => x != 35) hb35, List.takeWhile_cons_of_neg (by decide), wds_end _ _ b hb (Nat.le_refl _), wds_gp _ _ (Nat.le_refl _)]
theorem same_of {l l' : List UInt8} {p p' : Nat} (h : wds l = wds l') : sameT (tokV l p) (tokV l' p') := by
  unfold sameT
  rw [wds_tok, wds_tok, h]
/-- A line that says nothing. -/
theorem ln_none {x : List UInt8} (h10 : ∀ b ∈ x, b ≠ 10) (hw : wds (x.takeWhile (· != 35)) = []) (r : List UInt8) (st : PS) (k p : Nat) : linesV st (k + 1) (x ++ 10 :: r) p = linesV st k r (p + x.length + 1) := by
  have ht : tokV (x.takeWhile (· != 35)) p = [] := by
    have := wds_tok (x.takeWhile (· != 35)) p
    rw [hw] at this
    simpa using this
  rw [linesV, (tw_self h10 r).1, ht, (tw_self h10 r).2]
  rfl
def gN : List UInt8 := [32, 35, 32, 100, 117, 112, 32, 97, 58, 32, 53, 10, 32, 9, 10, 10]
def gE : List UInt8 := [9, 35, 32, 112, 117, 115, 104, 56, 10]
def gH : List UInt8 := [32, 9, 10, 35, 32, 110, 111, 116, 104, 105, 110, 103, 10, 9]
def gC (c : UInt8) : List UInt8 := if c = 10 then gN else gpC c
def gT (t : List UInt8) : List UInt8 := gH ++ (t.flatMap gC ++ gE)
theorem gC_line {ln : List UInt8} (h : ∀ b ∈ ln, b ≠ 10) : ln.flatMap gC = gpL ln := by
  unfold gpL
  induction ln with
  | nil => rfl
  | cons c ln ih =>
    rw [List.flatMap_cons, List.flatMap_cons, ih (fun b hb => h b (by simp [hb]))]
    unfold gC
    rw [if_neg (h c (by simp))]
theorem no10 {bs ln x : List UInt8} (hbs : ∀ c ∈ bs, isB c = true) (hl : ∀ b ∈ ln, b ≠ 10) (hx : ∀ b ∈ x, b ≠ 10) : ∀ b ∈ bs ++ (gpL ln ++ x), b ≠ 10 := by
  intro b hb
  rcases List.mem_append.1 hb with hb | hb
  · intro e
    subst e
    exact absurd (hbs 10 hb) (by decide)
  · rcases List.mem_append.1 hb with hb | hb
    · rcases gp_mem hb with h | rfl | rfl
      · exact hl b h
      · decide
      · decide
    · exact hx b hb
theorem gp_lines {k : Nat} : ∀ {s t : PS} {l bs : List UInt8} {p p' k' : Nat}, Lk s t → (∀ c ∈ bs, isB c = true) → l.length < k → (bs ++ (l.flatMap gC ++ gE)).length < k' → LkE (linesV s k l p) (linesV t k' (bs ++ (l.flatMap gC ++ gE)) p') := by
  induction k with
  | zero => intro s t l bs p p' k' _ _ hk; omega
  | succ k ih =>
    intro s t l bs p p' k' hlk hbs hk hk'
    cases hd : l.dropWhile (· != 10) with
    | nil =>
      have hl : l.takeWhile (· != 10) = l := by
        have := List.takeWhile_append_dropWhile (p := fun x => x != (10 : UInt8)) (l := l)
        rw [hd, List.append_nil] at this
        exact this
      have h10 : ∀ b ∈ l, b ≠ 10 := by rw [← hl]; exact tw_all l
      have e1 : bs ++ (l.flatMap gC ++ gE) = (bs ++ (gpL l ++ [9, 35, 32, 112, 117, 115, 104, 56])) ++ 10 :: [] := by rw [gC_line h10]; simp [gE]
      rw [e1] at hk' ⊢
      obtain ⟨k2, rfl⟩ : ∃ k2, k' = k2 + 1 + 1 := ⟨k' - 2, by simp at hk'; omega⟩
      have hn := no10 hbs h10 (x := [9, 35, 32, 112, 117, 115, 104, 56]) (by decide)
      have hsame := lk_line hlk (same_of (p := p) (p' := p') (ln_wds (ln := l) (x := [32, 112, 117, 115, 104, 56]) (b := 9) hbs (by decide)).symm)
      rw [linesV, linesV, hl, hd, (tw_self hn []).1, (tw_self hn []).2]
      cases h1 : lineV s (tokV (l.takeWhile (· != 35)) p) with
      | error e =>
        rw [h1] at hsame
        cases h2 : lineV t (tokV ((bs ++ (gpL l ++ [9, 35, 32, 112, 117, 115, 104, 56])).takeWhile (· != 35)) p') with
        | error f => rw [h2] at hsame; exact hsame
        | ok t2 => rw [h2] at hsame; exact hsame.elim
      | ok s2 =>
        rw [h1] at hsame
        cases h2 : lineV t (tokV ((bs ++ (gpL l ++ [9, 35, 32, 112, 117, 115, 104, 56])).takeWhile (· != 35)) p') with
        | error f => rw [h2] at hsame; exact hsame.elim
        | ok t2 =>
          rw [h2] at hsame
          simp only
          rw [lines_end]
          exact hsame
    | cons c r =>
      obtain ⟨hll, he⟩ := dw_len hd
      generalize hln : l.takeWhile (· != 10) = ln at *
      have h10 : ∀ b ∈ ln, b ≠ 10 := by rw [← hln]; exact tw_all l
      have e1 : bs ++ (l.flatMap gC ++ gE) = (bs ++ (gpL ln ++ [32, 35, 32, 100, 117, 112, 32, 97, 58, 32, 53])) ++ 10 :: ([32, 9] ++ 10 :: ([] ++ 10 :: ([] ++ (r.flatMap gC ++ gE)))) := by
        rw [he, List.flatMap_append, gC_line h10, List.flatMap_cons]
        simp [gC, gN]
      rw [e1] at hk' ⊢
      obtain ⟨k2, rfl⟩ : ∃ k2, k' = k2 + 1 + 1 + 1 := ⟨k' - 3, by simp at hk'; omega⟩
      have hn := no10 hbs h10 (x := [32, 35, 32, 100, 117, 112, 32, 97, 58, 32, 53]) (by decide)
      have hsame := lk_line hlk (same_of (p := p) (p' := p') (ln_wds (ln := ln) (x := [32, 100, 117, 112, 32, 97, 58, 32, 53]) (b := 32) hbs (by decide)).symm)
      rw [linesV, linesV, hln, hd, (tw_self hn _).1, (tw_self hn _).2]
      cases h1 : lineV s (tokV (ln.takeWhile (· != 35)) p) with
      | error e =>
        rw [h1] at hsame
        cases h2 : lineV t (tokV ((bs ++ (gpL ln ++ [32, 35, 32, 100, 117, 112, 32, 97, 58, 32, 53])).takeWhile (· != 35)) p') with
        | error f => rw [h2] at hsame; exact hsame
        | ok t2 => rw [h2] at hsame; exact hsame.elim
      | ok s2 =>
        rw [h1] at hsame
        cases h2 : lineV t (tokV ((bs ++ (gpL ln ++ [32, 35, 32, 100, 117, 112, 32, 97, 58, 32, 53])).takeWhile (· != 35)) p') with
        | error f => rw [h2] at hsame; exact hsame.elim
        | ok t2 =>
          rw [h2] at hsame
          simp only
          have hw1 : wds (([32, 9] : List UInt8).takeWhile (· != 35)) = [] := by
            have : ([32, 9] : List UInt8).takeWhile (· != 35) = [32, 9] := by decide
            rw [this, wds_blank (by decide), wds_blank (by decide), wds_nil]
          rw [ln_none (by decide) hw1, ln_none (by simp) (by exact wds_nil)]
          exact ih hsame (by simp) (by omega) (by simp at hk' ⊢; omega)
/-- Like results but for places: the same error, or the same program. -/
theorem lk_res {L : List (List UInt8 × Nat)} : ∀ (us us' : List (Nat × List UInt8 × Nat × Nat)) (l : List (Int × Int)), us.map (fun u => (u.1, u.2.1, u.2.2.2)) = us'.map (fun u => (u.1, u.2.1, u.2.2.2)) → (∃ l', resU L us l = .ok l' ∧ resU L us' l = .ok l') ∨ ∃ e q q', resU L us l = .error (e, q) ∧ resU L us' l = .error (e, q')
  | [], us', l, h => by
    have : us' = [] := by simpa using h.symm
    subst this
    exact Or.inl ⟨l, rfl, rfl⟩
  | (i, n, q, b) :: us, us', l, h => by
    cases us' with
    | nil => simp at h
    | cons x us' =>
      obtain ⟨i', n', q', b'⟩ := x
      simp only [List.map_cons, List.cons.injEq, Prod.mk.injEq] at h
      obtain ⟨⟨rfl, rfl, rfl⟩, h2⟩ := h
      unfold resU
      cases lab L n with
      | none => exact Or.inr ⟨11, q, q', rfl, rfl⟩
      | some k => exact lk_res us us' _ h2
theorem par_gaps (t : List UInt8) : (∃ l, parV t = .ok l ∧ parV (gT t) = .ok l) ∨ ∃ e q q', parV t = .error (e, q) ∧ parV (gT t) = .error (e, q') := by
  have e0 : gT t = [32, 9] ++ 10 :: ([35, 32, 110, 111, 116, 104, 105, 110, 103] ++ 10 :: ([9] ++ (t.flatMap gC ++ gE))) := by simp [gT, gH]
  have hw1 : wds (([32, 9] : List UInt8).takeWhile (· != 35)) = [] := by
    have : ([32, 9] : List UInt8).takeWhile (· != 35) = [32, 9] := by decide
    rw [this, wds_blank (by decide), wds_blank (by decide), wds_nil]
  have hw2 : wds (([35, 32, 110, 111, 116, 104, 105, 110, 103] : List UInt8).takeWhile (· != 35)) = [] := by
    have : ([35, 32, 110, 111, 116, 104, 105, 110, 103] : List UInt8).takeWhile (· != 35) = [] := by decide
    rw [this, wds_nil]
  obtain ⟨k, hk⟩ : ∃ k, (gT t).length + 1 = k + 1 + 1 := ⟨(gT t).length - 1, by rw [e0]; simp⟩
  have hlen : ([9] ++ (t.flatMap gC ++ gE)).length < k := by
    have := congrArg List.length e0
    simp at this hk ⊢
    omega
  have hX : linesV ⟨[], [], 0, []⟩ ((gT t).length + 1) (gT t) 0 = linesV ⟨[], [], 0, []⟩ k ([9] ++ (t.flatMap gC ++ gE)) 13 := by
    rw [hk]
    conv => lhs; rw [e0]
    rw [ln_none (by decide) hw1, ln_none (by decide) hw2]
    rfl
  have hmain := gp_lines (k := t.length + 1) (p := 0) (p' := 13) (Lk.refl ⟨[], [], 0, []⟩) (l := t) (bs := [9]) (by decide) (by omega) hlen
  unfold parV
  rw [hX]
  cases h1 : linesV ⟨[], [], 0, []⟩ (t.length + 1) t 0 with
  | error e =>
    rw [h1] at hmain
    cases h2 : linesV ⟨[], [], 0, []⟩ k ([9] ++ (t.flatMap gC ++ gE)) 13 with
    | error f =>
      rw [h2] at hmain
      refine Or.inr ⟨e.1, e.2, f.2, rfl, ?_⟩
      have : e.1 = f.1 := hmain
      rw [this]
    | ok u => rw [h2] at hmain; exact hmain.elim
  | ok s =>
    rw [h1] at hmain
    cases h2 : linesV ⟨[], [], 0, []⟩ k ([9] ++ (t.flatMap gC ++ gE)) 13 with
    | error f => rw [h2] at hmain; exact hmain.elim
    | ok u =>
      rw [h2] at hmain
      have hm : Lk s u := hmain
      simp only
      rw [← hm.ops, ← hm.labs]
      exact lk_res s.us u.us s.ops hm.us
end Go.Proofs.YtimffcliomeaaaaDoor
/- AsmGaps, walked over what the document's Parse answers. -/
namespace Go.Proofs.YtimffcliomeaaaaDoor
open Go.ChangeShapes Go.WideShapes Go.ChangeAt Go.RowKit

def gA (t : List UInt8) (i : Nat) : List UInt8 := gH ++ (t.take i).flatMap gC
theorem gC_len (c : UInt8) : (gC c).length ≤ 16 := by
  unfold gC gpC
  split
  · decide
  · split <;> simp
theorem gF_len (l : List UInt8) : (l.flatMap gC).length ≤ 16 * l.length := by
  induction l with
  | nil => simp
  | cons c l ih =>
    rw [List.flatMap_cons, List.length_append, List.length_cons]
    have := gC_len c
    omega
theorem gA_len (t : List UInt8) (i : Nat) : (gA t i).length ≤ 14 + 16 * t.length := by
  unfold gA
  have h1 := gF_len (t.take i)
  have h2 : (t.take i).length ≤ t.length := by rw [List.length_take]; omega
  have h3 : gH.length = 14 := rfl
  rw [List.length_append]
  omega
theorem gA_succ (t : ByteArray) (i : Nat) (h : i < t.size) : gA t.data.toList (i + 1) = gA t.data.toList i ++ gC t[i] := by
  unfold gA
  have h1 : t.data.toList.take (i + 1) = t.data.toList.take i ++ [t[i]] := by
    rw [List.take_add_one, ba_at t i h]
    rfl
  rw [h1, List.flatMap_append, List.append_assoc]
  simp
theorem gA_all (t : ByteArray) : gT t.data.toList = gA t.data.toList t.size ++ gE := by
  unfold gT gA
  rw [← ba_len t, List.take_length, List.append_assoc]
set_option maxRecDepth 10000 in
theorem wgaps_of (t : ByteArray) (ht : t.size ≤ 1048576) {w : World} (hT : TabE w)
    (HR : Hid (∀ w', Below w.heap.size w w' → Calls Tryd.prog 10 #[.string t] w' fun e w'' => e = .returned (ansV (parV t.data.toList)) ∧ Below w'.heap.size w' w'')) :
    Calls Tryd.prog 7 #[.string t] w fun e w' => e = .returned (.bool true) ∧ Below w.heap.size w w' := by
  have H1 : Hid (Calls Tryd.prog 9 #[.string t] w fun e w' => e = .returned (ansV (parV t.data.toList)) ∧ Below w.heap.size w w') := parse_any t (by omega) hT
  have hl : t.data.toList.length = t.size := ba_len t
  have hgl : (gT t.data.toList).length ≤ 20000000 := by
    rw [gA_all, List.length_append]
    have := gA_len t.data.toList t.size
    have h9 : gE.length = 9 := rfl
    omega
  have H2 : Hid (∀ w', Below w.heap.size w w' → Calls Tryd.prog 9 #[.string (S (gT t.data.toList))] w' fun e w'' => e = .returned (ansV (parV (gT t.data.toList))) ∧ Below w'.heap.size w' w'') := fun w' hb => by
    have := parse_any (S (gT t.data.toList)) (by rw [S_size]; exact hgl) (hT.later hb)
    have e1 : (S (gT t.data.toList)).data.toList = gT t.data.toList := by simp [S]
    rw [e1] at this
    exact this
  obtain ⟨x, y, z, z2, h1, h2⟩ : ∃ x y z z2, ansV (parV t.data.toList) = .tuple #[.string x, .int .i64 y, .int .i64 z] ∧ ansV (parV (gT t.data.toList)) = .tuple #[.string x, .int .i64 y, .int .i64 z2] := by
    rcases par_gaps t.data.toList with ⟨l, a, b⟩ | ⟨e, q, q', a, b⟩
    · rw [a, b]; exact ⟨_, _, _, _, rfl, rfl⟩
    · rw [a, b]; exact ⟨_, _, _, _, rfl, rfl⟩
  rw [h1] at H1 HR
  rw [h2] at H2
  have HA0 : Hid (S (gA t.data.toList 0) = ⟨#[32, 9, 10, 35, 32, 110, 111, 116, 104, 105, 110, 103, 10, 9]⟩) := by simp [Hid, gA, gH, S]
  have HAD : Hid (∀ i (hi : i < t.size) w, (Op.stringOp .add (S (gA t.data.toList i)) (S (gC t[i]))).run Tryd.prog w = .ok (.string (S (gA t.data.toList (i + 1)))) w) := fun i hi w => by
    rw [gA_succ t i hi]
    exact add_big _ _ (by have := gA_len t.data.toList i; have := gC_len t[i]; omega) w
  have HAE : Hid (∀ w, (Op.stringOp .add (S (gA t.data.toList t.size)) ⟨#[9, 35, 32, 112, 117, 115, 104, 56, 10]⟩).run Tryd.prog w = .ok (.string (S (gT t.data.toList))) w) := fun w => by
    rw [gA_all]
    exact add_big _ gE (by have := gA_len t.data.toList t.size; have h9 : gE.length = 9 := rfl; omega) w
  have HEX : Hid (∀ i (hi : i < t.size), t.extract i (i + 1) = S [t[i]]) := fun i hi => by
    rw [ext_S, cut_cons t i (i + 1) (by omega) (by omega), cut_nil _ _ _ (Nat.le_refl _)]
  generalize S (gT t.data.toList) = X2 at *
  obtain ⟨G, hG⟩ : ∃ G : Nat → ByteArray, ∀ i, S (gA t.data.toList i) = G i := ⟨_, fun _ => rfl⟩
  simp only [hG] at HA0 HAD HAE
  clear hG hT h1 h2 hgl hl
  go_enter Tryd.func7, Tryd.ntmps7
  go_wp2_with fail
  refine H1.out.mono ?_
  rintro e w1 ⟨rfl, hb1⟩
  have HB1 : Hid (Below w.heap.size w w1) := hb1
  clear hb1 H1
  go_wp2_with fail
  go_loopw [6, 7] (fun u6 u7 wr => ∃ i : Nat, i ≤ t.size ∧ u7 = .int .i64 (i : Int) ∧ u6 = .string (G i) ∧ Below w.heap.size w wr) (fun _ u _ => t.size - (intOf u).toNat)
  case atStart => exact ⟨0, Nat.zero_le _, rfl, by rw [HA0.out], HB1.out⟩
  case round =>
    obtain ⟨i, hi, rfl, rfl, hbr⟩ := hrel
    have HB : Hid (Below w.heap.size w wr) := hbr
    clear hbr HB1 HA0
    by_cases hlt : i < t.size
    · have hd : decide ((i : Int) < (t.size : Int)) = true := by simp; omega
      have hw1 : wrap64 ((i : Int) + 1) = (i : Int) + 1 := by unfold wrap64; omega
      have HJ : Hid (i < t.size) := hlt
      have ha := fun w => HAD.out i hlt w
      have hex := HEX.out i hlt
      have hix : ∀ h : i < t.size, t[i]'h = t[i]'hlt := fun _ => rfl
      generalize hcb : t[i]'hlt = cb at *
      clear H2 HR HAE HEX HAD
      by_cases h10 : cb = 10
      · subst h10
        have ha' : ∀ w, (Op.stringOp .add (G i) ⟨#[32, 35, 32, 100, 117, 112, 32, 97, 58, 32, 53, 10, 32, 9, 10, 10]⟩).run Tryd.prog w = .ok (.string (G (i + 1))) w := ha
        clear ha hex hcb
        go_wp2
        go_roundw
        case rel => exact ⟨i + 1, HJ.out, by go_num, rfl, HB.out⟩
        case measure => exact meas_i HJ.out
      · by_cases h32 : cb = 32
        · subst h32
          have ha' : ∀ w, (Op.stringOp .add (G i) ⟨#[9, 32, 32]⟩).run Tryd.prog w = .ok (.string (G (i + 1))) w := ha
          clear ha hex hcb h10
          go_wp2
          go_roundw
          case rel => exact ⟨i + 1, HJ.out, by go_num, rfl, HB.out⟩
          case measure => exact meas_i HJ.out
        · have hg : gC cb = [cb] := by unfold gC gpC; rw [if_neg h10, if_neg h32]
          rw [hg, ← hex] at ha
          have n1 : ¬ (cb.toNat : Int) = 10 := fun h => h10 (UInt8.toNat_inj.1 (by show cb.toNat = 10; omega))
          have n2 : ¬ (cb.toNat : Int) = 32 := fun h => h32 (UInt8.toNat_inj.1 (by show cb.toNat = 32; omega))
          have d1 : ((cb.toNat : Int) == 10) = false := by simp [n1]
          have d2 : ((cb.toNat : Int) == 32) = false := by simp [n2]
          have k0 : (0 : Int) ≤ (i : Int) := Int.natCast_nonneg _
          have k3 : (0 : Int) ≤ (i : Int) + 1 := by omega
          have k4 : (i : Int) + 1 ≤ (t.size : Int) := by omega
          clear hex hcb h10 h32 hg
          go_wp2
          go_roundw
          case rel => exact ⟨i + 1, HJ.out, by go_num, rfl, HB.out⟩
          case measure => exact meas_i HJ.out
    · obtain rfl : i = t.size := by omega
      have ha := HAE.out
      clear HAE HEX HAD hlt
      go_wp2_with fail
      refine (H2.out _ HB.out).mono ?_
      rintro e w3 ⟨rfl, hb3⟩
      have b3 := below_then HB.out hb3
      go_wp2_with fail
      refine (HR.out _ b3).mono ?_
      rintro e w4 ⟨rfl, hb4⟩
      go_wp2
      go_ret
      exact ⟨by simp, below_then b3 hb4⟩
end Go.Proofs.YtimffcliomeaaaaDoor
/- AsmGaps, walked, of texts of bulk at most 1048576. -/
namespace Go.Proofs.YtimffcliomeaaaaDoor
open Go.ChangeShapes Go.WideShapes Go.ChangeAt Go.RowKit

theorem wgaps (t : ByteArray) (_ : t.size ≤ maxLen) {H : Type} (hk : Rows.uptoSmall H ([.lit (.string t.data.toList)] ++ []) = true) {W : World} (hT : TabE W) : Calls Tryd.prog 7 #[.string t] W fun e w' => e = .returned (.bool true) ∧ Below W.heap.size W w' :=
  wgaps_of t (small_one hk) hT (fun w' _ => rparse_any t (by have := small_one hk; omega) w')
end Go.Proofs.YtimffcliomeaaaaDoor
