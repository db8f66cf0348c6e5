/- What Print writes is read as the program that it was: plain data. -/
import Derived.Test.YtbjopdmchmekpaaDoorAsR
namespace Go.Proofs.YtbjopdmchmekpaaDoor
open Go.Lib

/-! ### a line -/
theorem ln_cut {t : List UInt8} (h : ∀ b ∈ t, b ≠ 10 ∧ b ≠ 35) (r : List UInt8) : ((t ++ 10 :: r).takeWhile (· != 10)).takeWhile (· != 35) = t ∧ (t ++ 10 :: r).takeWhile (· != 10) = t ∧ (t ++ 10 :: r).dropWhile (· != 10) = 10 :: r := by
  have h1 : (t ++ 10 :: r).takeWhile (· != 10) = t ∧ (t ++ 10 :: r).dropWhile (· != 10) = 10 :: r := by
    induction t with
    | nil => exact ⟨by simp, by simp⟩
    | cons a t ih =>
      obtain ⟨g1, g2⟩ := ih (fun b hb => h b (by simp [hb]))
      have ha : (a != 10) = true := by simpa using (h a (by simp)).1
      rw [List.cons_append, List.takeWhile_cons_of_pos (p := fun x => x != 10) ha, List.dropWhile_cons_of_pos (p := fun x => x != 10) ha, g1, g2]
      exact ⟨rfl, rfl⟩
  refine ⟨?_, h1⟩
  rw [h1.1]
  clear h1
  induction t with
  | nil => rfl
  | cons a t ih =>
    have ha : (a != 35) = true := by simpa using (h a (by simp)).2
    rw [List.takeWhile_cons_of_pos (p := fun x => x != 35) ha, ih (fun b hb => h b (by simp [hb]))]
theorem lines_step {t : List UInt8} (h : ∀ b ∈ t, b ≠ 10 ∧ b ≠ 35) (r : List UInt8) (st st' : PS) (k p : Nat) (hl : lineV st (tokV t p) = .ok st') : linesV st (k + 1) (t ++ 10 :: r) p = linesV st' k r (p + t.length + 1) := by
  obtain ⟨h1, h2, h3⟩ := ln_cut h r
  rw [linesV, h1, hl, h3]
  simp only
  rw [h2]
theorem lines_end (st : PS) (k p : Nat) : linesV st (k + 1) [] p = .ok st := by
  rw [linesV]
  have : tokV ((([] : List UInt8).takeWhile (· != 10)).takeWhile (· != 35)) p = [] := tokV_nil p rfl
  rw [this]
  rfl

/-! ### what was read so far -/
def opN (l : List (Int × Int)) (i : Nat) : Int × Int := ((cd l i : Int), if (led l i).isSome then 0 else opd l i)
def opsN (l : List (Int × Int)) (n : Nat) : List (Int × Int) := (List.range n).map (opN l)
/-- Where the line of an instruction begins, where its operand stands. -/
def lnB (l : List (Int × Int)) (i : Nat) : Nat := (txT l i).length + (if mkd l l.length (pos l i) then (labL (pos l i)).length else 0)
def useN (l : List (Int × Int)) (i : Nat) : List (Nat × List UInt8 × Nat × Nat) := match led l i with
  | some k => [(i, labT k, lnB l i + (wordL (cd l i)).length + 1, pos l (i + 1))]
  | none => []
def usN (l : List (Int × Int)) (n : Nat) : List (Nat × List UInt8 × Nat × Nat) := (List.range n).flatMap (useN l)
def lbN (l : List (Int × Int)) (i : Nat) : List (List UInt8 × Nat) := if mkd l l.length (pos l i) then [(labT (pos l i), pos l i)] else []
def lbsN (l : List (Int × Int)) (n : Nat) : List (List UInt8 × Nat) := (List.range n).flatMap (lbN l)
def stN (l : List (Int × Int)) (n m : Nat) : PS := ⟨opsN l n, usN l n, pos l n, lbsN l m⟩
theorem lbsN_succ (l : List (Int × Int)) (m : Nat) : lbsN l (m + 1) = lbsN l m ++ lbN l m := by unfold lbsN; rw [List.range_succ, List.flatMap_append]; simp
theorem usN_succ (l : List (Int × Int)) (m : Nat) : usN l (m + 1) = usN l m ++ useN l m := by unfold usN; rw [List.range_succ, List.flatMap_append]; simp
theorem opsN_succ (l : List (Int × Int)) (m : Nat) : opsN l (m + 1) = opsN l m ++ [opN l m] := by unfold opsN; rw [List.range_succ, List.map_append]; simp
theorem opsN_len (l : List (Int × Int)) (n : Nat) : (opsN l n).length = n := by simp [opsN]
theorem lab_find {L : List (List UInt8 × Nat)} {n : List UInt8} (h : ∀ x ∈ L, x.1 ≠ n) : lab L n = none := by
  unfold lab
  rw [List.find?_eq_none.2 (fun x hx => by simpa using h x hx)]
  rfl
theorem Prg.pos512 {s : ByteArray} {l : List (Int × Int)} (h : Prg s l) (i : Nat) (hi : i ≤ l.length) : pos l i ≤ 512 := by
  have h1 := (h.pos_le i hi).1
  have h2 := h.small
  omega
/-- A label that is put down is none of those that were. -/
theorem lab_new {s : ByteArray} {l : List (Int × Int)} (h : Prg s l) (m : Nat) (hm : m ≤ l.length) : lab (lbsN l m) (labT (pos l m)) = none := by
  refine lab_find fun x hx => ?_
  unfold lbsN at hx
  obtain ⟨i, hi, hx⟩ := List.mem_flatMap.1 hx
  have him : i < m := List.mem_range.1 hi
  unfold lbN at hx
  split at hx
  · simp at hx
    subst hx
    intro e
    have := lab_inj e (h.pos512 i (by omega)) (h.pos512 m hm)
    have := pos_lt l i m him hm
    omega
  · cases hx
/-- A label's line. -/
theorem ln_label {s : ByteArray} {l : List (Int × Int)} (h : Prg s l) (n : Nat) (hn : n ≤ l.length) (hm : mkd l l.length (pos l n) = true) (p : Nat) : lineV (stN l n n) (tokV (labT (pos l n) ++ [58]) p) = .ok (stN l n (n + 1)) := by
  have hp := h.pos512 n hn
  have hnb : ∀ b ∈ labT (pos l n) ++ [58], nB b = true := by
    intro b hb
    rcases List.mem_append.1 hb with hb | hb
    · exact (pl_ok (lab_pl _ b hb)).1
    · rw [List.mem_singleton.1 hb]; decide
  rw [tok_one hnb (by simp) p]
  unfold lineV
  simp only [List.getLast?_append, List.getLast?_singleton, Option.some_or, if_true, List.dropLast_concat, lab_name _ hp]
  have hl : lab (stN l n n).labs (labT (pos l n)) = none := lab_new h n hn
  rw [if_pos hl]
  unfold instV
  congr 1
  unfold stN
  rw [lbsN_succ]
  simp [lbN, hm]
theorem lo_hi (c : Nat) : -9223372036854775808 ≤ loC c ∧ hiC c ≤ 9223372036854775807 := by
  unfold loC hiC
  constructor
  · split
    · omega
    · split
      · omega
      · split <;> omega
  · repeat' split
    all_goals omega
theorem wd_zero : ∀ c : Fin 41, wdC c.val = 0 → loC c.val = 0 ∧ hiC c.val = 0 := by decide
theorem size_le {s : ByteArray} {l : List (Int × Int)} (h : Prg s l) (n : Nat) (hn : n < l.length) : ¬ 512 < pos l n + (1 + wdC (cd l n)) := by
  have := pos_succ l n hn
  have := h.pos512 (n + 1) (by omega)
  omega
theorem more_ok {s : ByteArray} {l : List (Int × Int)} (h : Prg s l) (n m p : Nat) (hn : n < l.length) (v : Int) (nm : Option (List UInt8 × Nat)) (hv : v = if (led l n).isSome then 0 else opd l n) (hu : nuse n (pos l (n + 1)) nm = useN l n) :
    moreV (stN l n m) p (cd l n) v nm [] = .ok (stN l (n + 1) m) := by
  unfold moreV
  have h1 : (stN l n m).size = pos l n := rfl
  rw [h1, if_neg (size_le h n hn)]
  unfold addI
  congr 1
  have h2 := pos_succ l n hn
  have h3 : (stN l n m).ops.length = n := opsN_len l n
  rw [h1, h3, ← h2, hu]
  unfold stN
  simp only
  rw [opsN_succ, usN_succ, hv]
  rfl
/-- An instruction's line. -/
theorem ln_ins {s : ByteArray} {l : List (Int × Int)} (h : Prg s l) (n m : Nat) (hn : n < l.length) : lineV (stN l n m) (tokV (wordL (cd l n) ++ (if 0 < wdC (cd l n) then 32 :: opT l n else [])) (lnB l n)) = .ok (stN l (n + 1) m) := by
  obtain ⟨hc, hops, hlo, hhi⟩ := h.cd_ok n hn
  obtain ⟨hw1, hw2, hw3⟩ := word_pl ⟨cd l n, by omega⟩
  simp only at hw1 hw2 hw3
  rw [List.all_eq_true] at hw1
  have hlast : ∀ t : List UInt8, (∀ b ∈ t, pl b = true) → ¬ t.getLast? = some 58 := fun t ht e => by
    have := ht 58 (List.mem_of_getLast? e)
    exact absurd this (by decide)
  by_cases hw : 0 < wdC (cd l n)
  · rw [if_pos hw]
    have hop : (∀ b ∈ opT l n, pl b = true) ∧ opT l n ≠ [] := by
      unfold opT
      split
      · exact ⟨lab_pl _, by simp [labT]⟩
      · exact ⟨itoa_pl _, itoa_ne _⟩
    rw [tok_two hw1 hw2 hop.1 hop.2]
    unfold lineV
    simp only
    rw [if_neg (hlast _ hw1)]
    unfold instV
    simp only [hw3]
    rw [if_neg (by omega)]
    cases hl : led l n with
    | some k =>
      have hk := led_pos hl
      have e : opT l n = labT k := by unfold opT; rw [hl]
      have hk512 : k ≤ 512 := by
        obtain ⟨i, hi, hik⟩ := (isPos_iff l (k : Int)).1 hk.1
        have := h.pos512 i hi
        omega
      have hld : ldC (cd l n) = true := by
        have := (led_wd (l := l) (i := n) (by rw [hk.2]; simp)).2
        unfold ldC
        simpa using this
      rw [e, lab_name k hk512, hld]
      simp only [Bool.and_self, if_true]
      refine more_ok h n m _ hn _ _ (by rw [hl]; rfl) ?_
      unfold useN
      rw [hl]
      rfl
    | none =>
      have e : opT l n = itoa (opd l n) := by unfold opT; rw [hl]
      rw [e, num_name, num_itoa _ ?_ ?_]
      · simp only [Bool.and_false, Bool.false_eq_true, if_false]
        rw [if_pos ⟨hlo, hhi⟩]
        refine more_ok h n m _ hn _ _ (by rw [hl]; rfl) ?_
        unfold useN
        rw [hl]
        rfl
      · have := (lo_hi (cd l n)).1; omega
      · have := (lo_hi (cd l n)).2; omega
  · rw [if_neg hw, List.append_nil, tok_one (fun b hb => (pl_ok (hw1 b hb)).1) hw2]
    unfold lineV
    simp only
    rw [if_neg (hlast _ hw1)]
    unfold instV
    simp only [hw3]
    rw [if_pos (by omega)]
    have hln : led l n = none := by
      cases hl : led l n with
      | none => rfl
      | some k =>
        have hk := led_pos hl
        have := (led_wd (l := l) (i := n) (by rw [hk.2]; simp)).1
        omega
    refine more_ok h n m _ hn _ _ ?_ ?_
    · rw [hln]
      have := wd_zero ⟨cd l n, by omega⟩ (by simp only; omega)
      simp only at this
      simp
      omega
    · unfold useN
      rw [hln]
      rfl
/-! ### all lines -/
def finT (l : List (Int × Int)) : List UInt8 := if mkd l l.length (pos l l.length) then labL (pos l l.length) else []
def tlT (l : List (Int × Int)) (n : Nat) : List UInt8 := ((List.range l.length).drop n).flatMap (lnT l) ++ finT l
theorem range_drop (m n : Nat) (h : n < m) : (List.range m).drop n = n :: (List.range m).drop (n + 1) := by
  rw [List.drop_eq_getElem_cons (by simpa using h)]
  simp
theorem tlT_succ (l : List (Int × Int)) (n : Nat) (h : n < l.length) : tlT l n = lnT l n ++ tlT l (n + 1) := by
  unfold tlT
  rw [range_drop _ _ h, List.flatMap_cons, List.append_assoc]
theorem tlT_end (l : List (Int × Int)) : tlT l l.length = finT l := by
  unfold tlT
  rw [List.drop_eq_nil_of_le (by simp)]
  rfl
theorem ins_chars {s : ByteArray} {l : List (Int × Int)} (h : Prg s l) (n : Nat) (hn : n < l.length) : ∀ b ∈ wordL (cd l n) ++ (if 0 < wdC (cd l n) then 32 :: opT l n else []), b ≠ 10 ∧ b ≠ 35 := by
  obtain ⟨hc, _⟩ := h.cd_ok n hn
  obtain ⟨hw1, _⟩ := word_pl ⟨cd l n, by omega⟩
  simp only at hw1
  rw [List.all_eq_true] at hw1
  intro b hb
  rcases List.mem_append.1 hb with hb | hb
  · have := pl_ok (hw1 b hb)
    exact ⟨this.2.1, this.2.2.1⟩
  · split at hb
    · rcases List.mem_cons.1 hb with rfl | hb
      · decide
      · have : pl b = true := by
          unfold opT at hb
          split at hb
          · exact lab_pl _ b hb
          · exact itoa_pl _ b hb
        have := pl_ok this
        exact ⟨this.2.1, this.2.2.1⟩
    · cases hb
theorem lab_chars (p : Nat) : ∀ b ∈ labT p ++ [58], b ≠ 10 ∧ b ≠ 35 := by
  intro b hb
  rcases List.mem_append.1 hb with hb | hb
  · have := pl_ok (lab_pl p b hb)
    exact ⟨this.2.1, this.2.2.1⟩
  · rw [List.mem_singleton.1 hb]; decide
theorem labL_eq (p : Nat) (r : List UInt8) : labL p ++ r = (labT p ++ [58]) ++ 10 :: r := by simp [labL]
theorem st_unmarked {l : List (Int × Int)} {n m : Nat} (h : mkd l l.length (pos l m) = false) : stN l n (m + 1) = stN l n m := by
  unfold stN
  rw [lbsN_succ]
  simp [lbN, h]
/-- An instruction's line, and what follows. -/
theorem rd_ins {s : ByteArray} {l : List (Int × Int)} (h : Prg s l) (n m k : Nat) (hn : n < l.length) (r : List UInt8) : linesV (stN l n m) (k + 1) (insT l n ++ r) (lnB l n) = linesV (stN l (n + 1) m) k r (txT l (n + 1)).length := by
  have e : insT l n ++ r = (wordL (cd l n) ++ (if 0 < wdC (cd l n) then 32 :: opT l n else [])) ++ 10 :: r := by simp [insT]
  rw [e, lines_step (ins_chars h n hn) r _ _ k _ (ln_ins h n m hn)]
  congr 1
  rw [txT_succ, List.length_append]
  unfold lnB lnT insT
  split <;> simp <;> omega
theorem rd_all {s : ByteArray} {l : List (Int × Int)} (h : Prg s l) : ∀ (d n k : Nat), n + d = l.length → linesV (stN l n n) ((tlT l n).length + 1 + k) (tlT l n) (txT l n).length = .ok (stN l l.length (l.length + 1)) := by
  intro d
  induction d with
  | zero =>
    intro n k hn
    obtain rfl : n = l.length := by omega
    rw [tlT_end]
    unfold finT
    split
    · rename_i hm
      have e := labL_eq (pos l l.length) []
      rw [List.append_nil] at e
      rw [e]
      have hk : ((labT (pos l l.length) ++ [58]) ++ [10]).length + 1 + k = ((labT (pos l l.length) ++ [58]).length + k + 1) + 1 := by simp; omega
      rw [hk, lines_step (lab_chars _) [] _ _ _ _ (ln_label h l.length (Nat.le_refl _) hm _), lines_end]
    · rename_i hm
      have : ([] : List UInt8).length + 1 + k = k + 1 := by simp; omega
      rw [this, lines_end, st_unmarked (by simpa using hm)]
  | succ d ih =>
    intro n k hn
    have hlt : n < l.length := by omega
    rw [tlT_succ l n hlt]
    unfold lnT
    split
    · rename_i hm
      rw [List.append_assoc, labL_eq, List.append_assoc]
      obtain ⟨j, hj⟩ : ∃ j, ((labT (pos l n) ++ [58]) ++ 10 :: (insT l n ++ tlT l (n + 1))).length + 1 + k = ((tlT l (n + 1)).length + 1 + j + 1) + 1 := ⟨(labT (pos l n)).length + (insT l n).length + k, by simp; omega⟩
      rw [← List.append_assoc, hj, lines_step (lab_chars _) _ _ _ _ _ (ln_label h n (by omega) hm _)]
      have hp : (txT l n).length + (labT (pos l n) ++ [58]).length + 1 = lnB l n := by unfold lnB; rw [if_pos hm]; simp [labL]; omega
      rw [hp, rd_ins h n (n + 1) _ hlt]
      exact ih (n + 1) j (by omega)
    · rename_i hm
      have hm' : mkd l l.length (pos l n) = false := by simpa using hm
      rw [List.nil_append]
      obtain ⟨j, hj⟩ : ∃ j, (insT l n ++ tlT l (n + 1)).length + 1 + k = ((tlT l (n + 1)).length + 1 + j) + 1 := ⟨(insT l n).length + k - 1, by simp [insT]; omega⟩
      have hp : (txT l n).length = lnB l n := by unfold lnB; rw [if_neg hm]; rfl
      rw [hj, hp, rd_ins h n n _ hlt, ← st_unmarked (n := n + 1) hm']
      exact ih (n + 1) j (by omega)
/-! ### names become numbers -/
theorem lab_all {s : ByteArray} {l : List (Int × Int)} (h : Prg s l) (i : Nat) (hi : i ≤ l.length) (hm : mkd l l.length (pos l i) = true) : lab (lbsN l (l.length + 1)) (labT (pos l i)) = some (pos l i) := by
  have hall : ∀ x ∈ lbsN l (l.length + 1), x.1 = labT x.2 ∧ x.2 ≤ 512 := by
    intro x hx
    unfold lbsN at hx
    obtain ⟨j, hj, hx⟩ := List.mem_flatMap.1 hx
    have hjm : j < l.length + 1 := List.mem_range.1 hj
    unfold lbN at hx
    split at hx
    · simp at hx
      subst hx
      exact ⟨rfl, h.pos512 j (by omega)⟩
    · cases hx
  have hin : (labT (pos l i), pos l i) ∈ lbsN l (l.length + 1) := by
    unfold lbsN
    refine List.mem_flatMap.2 ⟨i, List.mem_range.2 (by omega), ?_⟩
    unfold lbN
    rw [if_pos hm]
    simp
  unfold lab
  cases hf : (lbsN l (l.length + 1)).find? (fun x => x.1 == labT (pos l i)) with
  | none =>
    have := List.find?_eq_none.1 hf _ hin
    simp at this
  | some x =>
    have h1 := List.mem_of_find?_eq_some hf
    have h2 := List.find?_some hf
    simp at h2
    obtain ⟨h3, h4⟩ := hall x h1
    rw [h3] at h2
    simp only [Option.map_some]
    rw [lab_inj h2 h4 (h.pos512 i hi)]
def mixN (l : List (Int × Int)) (n : Nat) : List (Int × Int) := l.take n ++ (opsN l l.length).drop n
def usF (l : List (Int × Int)) (n : Nat) : List (Nat × List UInt8 × Nat × Nat) := ((List.range l.length).drop n).flatMap (useN l)
theorem mix_cons (l : List (Int × Int)) (n : Nat) (h : n < l.length) : mixN l n = l.take n ++ opN l n :: (opsN l l.length).drop (n + 1) := by
  unfold mixN
  rw [List.drop_eq_getElem_cons (by rw [opsN_len]; exact h)]
  simp [opsN]
theorem mix_succ (l : List (Int × Int)) (n : Nat) (h : n < l.length) : mixN l (n + 1) = l.take n ++ ops l n :: (opsN l l.length).drop (n + 1) := by
  unfold mixN
  rw [take_snoc l n h, List.append_assoc]
  rfl
theorem res_all {s : ByteArray} {l : List (Int × Int)} (h : Prg s l) : ∀ (d n : Nat), n + d = l.length → resU (lbsN l (l.length + 1)) (usF l n) (mixN l n) = .ok l := by
  intro d
  induction d with
  | zero =>
    intro n hn
    obtain rfl : n = l.length := by omega
    unfold usF mixN
    rw [List.drop_eq_nil_of_le (by simp), List.drop_eq_nil_of_le (by rw [opsN_len]; exact Nat.le_refl _)]
    simp [resU]
  | succ d ih =>
    intro n hn
    have hlt : n < l.length := by omega
    obtain ⟨hc, hops, hlo, hhi⟩ := h.cd_ok n hlt
    have hnext := ih (n + 1) (by omega)
    have hu : usF l n = useN l n ++ usF l (n + 1) := by unfold usF; rw [range_drop _ _ hlt, List.flatMap_cons]
    rw [hu]
    cases hl : led l n with
    | none =>
      have e : opN l n = ops l n := by
        unfold opN
        rw [hl]
        simp only [Option.isSome_none, Bool.false_eq_true, if_false]
        rw [← hops]
        rfl
      have : useN l n = [] := by unfold useN; rw [hl]
      rw [this, List.nil_append, mix_cons l n hlt, e, ← mix_succ l n hlt]
      exact hnext
    | some k =>
      obtain ⟨hk1, hk2⟩ := led_pos hl
      obtain ⟨i, hi, hik⟩ := (isPos_iff l (k : Int)).1 hk1
      have hik' : pos l i = k := by omega
      have hmk : mkd l l.length (pos l i) = true := (mkd_iff l l.length (pos l i)).2 ⟨n, hlt, by rw [hl, hik']⟩
      have hla := lab_all h i hi hmk
      rw [hik'] at hla
      have : useN l n = [(n, labT k, lnB l n + (wordL (cd l n)).length + 1, pos l (n + 1))] := by unfold useN; rw [hl]
      rw [this, List.singleton_append, resU, hla]
      simp only
      have hg : (mixN l n).getD n (0, 0) = opN l n := by
        rw [mix_cons l n hlt, List.getD_eq_getElem?_getD, List.getElem?_append_right (by rw [List.length_take]; omega), List.length_take, Nat.min_eq_left (by omega), Nat.sub_self]
        rfl
      rw [hg]
      have hv : (if (opN l n).1 = 26 then (k : Int) else (k : Int) - (pos l (n + 1) : Int)) = opd l n := by
        have hc1 : (opN l n).1 = (cd l n : Int) := rfl
        rw [hc1]
        unfold tg tgt at hk2
        split at hk2
        · rename_i hcc
          have := Option.some.inj hk2
          rw [if_neg (by omega)]
          omega
        · split at hk2
          · rename_i hcc
            have := Option.some.inj hk2
            rw [if_pos (by omega)]
            omega
          · cases hk2
      rw [hv]
      have hset : (mixN l n).set n ((opN l n).1, opd l n) = mixN l (n + 1) := by
        have e : ((opN l n).1, opd l n) = ops l n := by
          show ((cd l n : Int), (ops l n).2) = ops l n
          rw [← hops]
        rw [e, mix_cons l n hlt, mix_succ l n hlt, List.set_append_right _ _ (by rw [List.length_take]; omega), List.length_take, Nat.min_eq_left (by omega), Nat.sub_self]
        rfl
      rw [hset]
      exact hnext
/-- What Print writes is read as what it was. -/
theorem par_print {s : ByteArray} {l : List (Int × Int)} (h : Prg s l) : parV (prT l) = .ok l := by
  have h0 : prT l = tlT l 0 := by unfold prT tlT txT finT; rw [List.drop_zero]
  have h1 := rd_all h l.length 0 0 (by omega)
  have h2 : stN l 0 0 = ⟨[], [], 0, []⟩ := by unfold stN; rw [pos_zero]; rfl
  have h3 : (txT l 0).length = 0 := rfl
  rw [h2, h3, Nat.add_zero] at h1
  unfold parV
  rw [h0, h1]
  have h4 := res_all h l.length 0 (by omega)
  unfold usF mixN at h4
  rw [List.drop_zero, List.drop_zero] at h4
  exact h4
/-! ### small numbers -/
theorem lab_len (p : Nat) (h : p ≤ 512) : (labT p).length ≤ 4 := by
  have e : itoa (p : Int) = decDigits p := by unfold itoa; rw [if_neg (by omega)]; simp
  unfold labT
  rw [e]
  have := dec_len p h
  simp
  omega
theorem led512 {s : ByteArray} {l : List (Int × Int)} (h : Prg s l) {n k : Nat} (hl : led l n = some k) : k ≤ 512 := by
  obtain ⟨i, hi, hik⟩ := (isPos_iff l (k : Int)).1 (led_pos hl).1
  have := h.pos512 i hi
  omega
theorem stN_us {s : ByteArray} {l : List (Int × Int)} (h : Prg s l) (n m : Nat) (hn : n ≤ l.length) : ∀ u ∈ (stN l n m).us, u.1 < (stN l n m).ops.length ∧ u.2.1.length ≤ 20000000 ∧ u.2.2.2 ≤ 1000 := by
  intro u hu
  have h3 : (stN l n m).ops.length = n := opsN_len l n
  rw [h3]
  change u ∈ usN l n at hu
  unfold usN at hu
  obtain ⟨i, hi, hx⟩ := List.mem_flatMap.1 hu
  have hin : i < n := List.mem_range.1 hi
  unfold useN at hx
  cases hl : led l i with
  | none => rw [hl] at hx; cases hx
  | some k =>
    rw [hl] at hx
    simp only [List.mem_singleton] at hx
    subst hx
    have h1 := lab_len k (led512 h hl)
    have h2 := h.pos512 (i + 1) (by omega)
    exact ⟨hin, by simp only; omega, by simp only; omega⟩
theorem stN_lab {s : ByteArray} {l : List (Int × Int)} (h : Prg s l) (n m : Nat) (hm : m ≤ l.length + 1) : ∀ x k, lab (stN l n m).labs x = some k → k ≤ 1000 := by
  intro x k hk
  change lab (lbsN l m) x = some k at hk
  unfold lab at hk
  obtain ⟨y, hy, rfl⟩ := Option.map_eq_some_iff.1 hk
  have h1 := List.mem_of_find?_eq_some hy
  unfold lbsN at h1
  obtain ⟨j, hj, hx⟩ := List.mem_flatMap.1 h1
  have hjm : j < m := List.mem_range.1 hj
  unfold lbN at hx
  split at hx
  · simp at hx
    subst hx
    have := h.pos512 j (by omega)
    simp only
    omega
  · cases hx
theorem usN_len (l : List (Int × Int)) (n : Nat) : (usN l n).length ≤ n := by
  induction n with
  | zero => simp [usN]
  | succ n ih =>
    rw [usN_succ, List.length_append]
    have : (useN l n).length ≤ 1 := by unfold useN; split <;> simp
    omega
theorem wordL_len : ∀ c : Fin 41, (wordL c.val).length ≤ 8 := by decide +kernel
theorem dec_len20 (k : Nat) : ∀ u, u < 10 ^ (k + 1) → (decDigits u).length ≤ k + 1 := by
  induction k with
  | zero => intro u hu; rw [dec_small (by simpa using hu)]; simp
  | succ k ih =>
    intro u hu
    by_cases h : u < 10
    · rw [dec_small h]; simp
    · rw [dec_big h]
      have := ih (u / 10) (by rw [Nat.pow_succ] at hu; omega)
      simp
      omega
theorem itoaL_len (v : Int) (h0 : -9223372036854775808 ≤ v) (h1 : v ≤ 9223372036854775807) : (itoa v).length ≤ 21 := by
  unfold itoa
  split
  · have := dec_len20 19 v.natAbs (by omega)
    simp
    omega
  · have := dec_len20 19 v.toNat (by omega)
    omega
theorem ln_len {s : ByteArray} {l : List (Int × Int)} (h : Prg s l) (n : Nat) (hn : n < l.length) : (lnT l n).length ≤ 40 := by
  obtain ⟨hc, _, hlo, hhi⟩ := h.cd_ok n hn
  have hw := wordL_len ⟨cd l n, by omega⟩
  simp only at hw
  have ho : (opT l n).length ≤ 21 := by
    unfold opT
    cases hl : led l n with
    | none =>
      have := lo_hi (cd l n)
      exact itoaL_len _ (by omega) (by omega)
    | some k =>
      have := lab_len k (led512 h hl)
      simp only
      omega
  have hp := lab_len (pos l n) (h.pos512 n (by omega))
  unfold lnT insT labL
  split <;> split <;> simp <;> omega
theorem prT_len {s : ByteArray} {l : List (Int × Int)} (h : Prg s l) : (prT l).length ≤ 100000 := by
  have h1 : ∀ n, n ≤ l.length → (txT l n).length ≤ 40 * n := by
    intro n
    induction n with
    | zero => intro _; simp [txT]
    | succ n ih =>
      intro hn
      rw [txT_succ, List.length_append]
      have := ih (by omega)
      have := ln_len h n (by omega)
      omega
  have h2 := h1 l.length (Nat.le_refl _)
  have h3 := h.len
  have h4 := h.small
  have hp := lab_len (pos l l.length) (h.pos512 l.length (Nat.le_refl _))
  unfold prT labL
  split <;> simp <;> omega
end Go.Proofs.YtbjopdmchmekpaaDoor
