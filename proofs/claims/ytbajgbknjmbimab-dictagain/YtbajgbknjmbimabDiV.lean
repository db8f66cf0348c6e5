/- The cells of a dict as plain data: how a key is looked up in them, what they say. -/
import Derived.Test.YtbajgbknjmbimabDiN
namespace Go.Proofs.Ytbajgbknjmbimab.Di
open Go.ChangeShapes Go.WideShapes Go.ChangeAt Go.RowKit

def stV (C : List Int) (i : Int) : Int := nth C (clV i 0).toNat
def kyV (C : List Int) (i : Int) : Int := nth C (clV i 1).toNat
def vlV (C : List Int) (i : Int) : Int := nth C (clV i 2).toNat
/-- A key is looked up: where it is found, which slot is free. -/
def look2 (C : List Int) (key n : Int) : Nat → Int → Int → Int × Int
  | 0, _, fr => (-1, fr)
  | c + 1, i, fr =>
    if stV C i = 1 then (if kyV C i = key then (i, fr) else look2 C key n c (nxtV n i) fr)
    else if stV C i = 0 then (-1, if fr = -1 then i else fr)
    else look2 C key n c (nxtV n i) (if fr = -1 then i else fr)
def lookV (C : List Int) (key n : Int) : Int × Int := look2 C key n n.toNat (firV key n) (-1)
/-- A look under way comes to that. -/
def comes (C : List Int) (s : Se) : Int × Int :=
  if 0 < s.left then
    (if s.asked = 1 then look2 C s.key s.most s.left.toNat s.slot s.free
    else if kyV C s.slot = s.key then (s.slot, s.free) else look2 C s.key s.most (s.left.toNat - 1) (nxtV s.most s.slot) s.free)
  else (s.found, s.free)
/-- A look under way over cells. -/
structure Lo (s : Se) : Prop where
  l : 0 < s.left
  a : s.asked = 1 ∨ s.asked = 2
  d : s.found = -1
  ok : OkS s
theorem look_free (s : Se) : (if s.free = -1 then s.slot else s.free) = (freeS s).free := by rw [(free_keeps s).2.2.2.2.2.2]
theorem comes_walk {C : List Int} {s : Se} (ok : OkS s) (hl : 0 < s.left) (hd : s.found = -1) :
    comes C (askS (walkS s)).1 = look2 C s.key s.most (s.left.toNat - 1) (nxtV s.most s.slot) s.free ∧ ((askS (walkS s)).2.2 = true → Lo (askS (walkS s)).1 ∧ (askS (walkS s)).2.1 = cellS (askS (walkS s)).1) ∧ ((askS (walkS s)).2.2 = false → (askS (walkS s)).1.left = 0) := by
  have okw := ok_walk ok hl
  have oka := (ok_ask okw).1
  have hll : (walkS s).left = s.left - 1 := rfl
  rcases ask_cases (walkS s) with ⟨h1, h2⟩ | ⟨h1, h2⟩
  · rw [h2] at oka ⊢
    refine ⟨?_, fun _ => ⟨⟨h1, Or.inl rfl, hd, oka⟩, by simp [cellS]⟩, fun h => by simp at h⟩
    unfold comes
    simp only
    rw [if_pos h1, if_pos trivial]
    simp only [walkS]
    have : (s.left - 1).toNat = s.left.toNat - 1 := by omega
    rw [this]
  · rw [h2] at oka ⊢
    refine ⟨?_, fun h => by simp at h, fun _ => rfl⟩
    unfold comes
    simp only
    have : s.left.toNat - 1 = 0 := by rw [hll] at h1; omega
    rw [if_neg (by decide), this]
    simp [look2, walkS, hd]
theorem lo_step {C : List Int} {s : Se} (h : Lo s) (v : Int) (hv : v = nth C (cellS s).toNat) :
    comes C (goS s v).1 = comes C s ∧ ((goS s v).2.2 = true → Lo (goS s v).1 ∧ (goS s v).2.1 = cellS (goS s v).1) ∧ ((goS s v).2.2 = false → (goS s v).1.left = 0) := by
  obtain ⟨l, a, d, ok⟩ := h
  have okg := (ok_goS ok v).1
  obtain ⟨c, hc⟩ : ∃ c, s.left.toNat = c + 1 := ⟨s.left.toNat - 1, by omega⟩
  have hcm : s.left.toNat - 1 = c := by omega
  unfold goS at okg ⊢
  rw [if_pos l] at okg ⊢
  have ha0 : s.asked ≠ 0 := by omega
  rw [if_neg ha0] at okg ⊢
  by_cases ha : s.asked = 1
  · rw [if_pos ha] at okg ⊢
    have hs : v = stV C s.slot := by rw [hv]; unfold cellS stV clV; rw [if_pos ha, Int.add_zero]
    have hcs : comes C s = look2 C s.key s.most (c + 1) s.slot s.free := by unfold comes; rw [if_pos l, if_pos ha, hc]
    rw [hcs]
    by_cases h1 : v = 1
    · rw [if_pos h1] at okg ⊢
      refine ⟨?_, fun _ => ⟨⟨l, Or.inr rfl, d, okg⟩, by simp [cellS]⟩, fun h => by simp at h⟩
      unfold comes
      simp only
      rw [if_pos l, if_neg (by decide), hcm]
      simp only [look2]
      rw [if_pos (show stV C s.slot = 1 by rw [← hs]; exact h1)]
    · rw [if_neg h1] at okg ⊢
      obtain ⟨f1, f2, f3, f4, f5, f6, f7⟩ := free_keeps s
      have hn1 : ¬ stV C s.slot = 1 := by rw [← hs]; exact h1
      by_cases h0 : v = 0
      · rw [if_pos h0] at okg ⊢
        refine ⟨?_, fun h => by simp at h, fun _ => rfl⟩
        unfold comes
        simp only
        rw [if_neg (by decide)]
        simp only [look2]
        rw [if_neg hn1, if_pos (show stV C s.slot = 0 by rw [← hs]; exact h0), f6, d, look_free]
      · rw [if_neg h0] at okg ⊢
        have := comes_walk (C := C) (ok_free ok l) (by rw [f3]; exact l) (by rw [f6]; exact d)
        rw [f1, f2, f3, f4, hcm] at this
        refine ⟨?_, this.2⟩
        rw [this.1]
        simp only [look2]
        rw [if_neg hn1, if_neg (show ¬ stV C s.slot = 0 by rw [← hs]; exact h0), look_free]
  · rw [if_neg ha] at okg ⊢
    have hs : v = kyV C s.slot := by rw [hv]; unfold cellS kyV clV; rw [if_neg ha]; congr 2; omega
    have hcs : comes C s = if kyV C s.slot = s.key then (s.slot, s.free) else look2 C s.key s.most (s.left.toNat - 1) (nxtV s.most s.slot) s.free := by unfold comes; rw [if_pos l, if_neg ha]
    rw [hcs]
    by_cases hk : v = s.key
    · rw [if_pos hk] at okg ⊢
      refine ⟨?_, fun h => by simp at h, fun _ => rfl⟩
      unfold comes
      simp only
      rw [if_neg (by decide), if_pos (by rw [← hs]; exact hk)]
    · rw [if_neg hk] at okg ⊢
      have := comes_walk (C := C) ok l d
      refine ⟨?_, this.2⟩
      rw [this.1, if_neg (by rw [← hs]; exact hk)]
theorem lo_less {s : Se} (h : Lo s) (v : Int) (hg : (goS s v).2.2 = true) : (2 * (goS s v).1.left - (goS s v).1.asked + 2).toNat < (2 * s.left - s.asked + 2).toNat := by
  have hl := h.l
  have ha := h.a
  suffices hs : 2 * (goS s v).1.left - (goS s v).1.asked < 2 * s.left - s.asked by omega
  unfold goS at hg ⊢
  rw [if_pos hl] at hg ⊢
  have ha0 : s.asked ≠ 0 := by omega
  rw [if_neg ha0] at hg ⊢
  obtain ⟨f1, f2, f3, f4, f5, f6, f7⟩ := free_keeps s
  by_cases ha1 : s.asked = 1
  · rw [if_pos ha1] at hg ⊢
    by_cases v1 : v = 1
    · rw [if_pos v1]; simp only; omega
    · rw [if_neg v1] at hg ⊢
      by_cases v0 : v = 0
      · rw [if_pos v0] at hg; simp at hg
      · rw [if_neg v0] at hg ⊢
        rcases ask_cases (walkS (freeS s)) with ⟨h1, h2⟩ | ⟨h1, h2⟩
        · rw [h2]; simp only [walkS, f3]; omega
        · rw [h2] at hg; simp at hg
  · rw [if_neg ha1] at hg ⊢
    by_cases hk : v = s.key
    · rw [if_pos hk] at hg; simp at hg
    · rw [if_neg hk] at hg ⊢
      rcases ask_cases (walkS s) with ⟨h1, h2⟩ | ⟨h1, h2⟩
      · rw [h2]; simp only [walkS]; omega
      · rw [h2] at hg; simp at hg
theorem lo_first {C : List Int} {key n : Int} (hn : 0 ≤ n ∧ n ≤ 16) (v : Int) :
    comes C (goS (mkS key n) v).1 = lookV C key n ∧ ((goS (mkS key n) v).2.2 = true → Lo (goS (mkS key n) v).1 ∧ (goS (mkS key n) v).2.1 = cellS (goS (mkS key n) v).1) ∧ ((goS (mkS key n) v).2.2 = false → (goS (mkS key n) v).1.left = 0) := by
  have okg := (ok_goS (ok_mkS (k := key) hn) v).1
  unfold goS at okg ⊢
  by_cases h0 : 0 < (mkS key n).left
  · rw [if_pos h0, if_pos (show (mkS key n).asked = 0 from rfl)] at okg ⊢
    refine ⟨?_, fun _ => ⟨⟨h0, Or.inl rfl, rfl, okg⟩, by simp [cellS]⟩, fun h => by simp at h⟩
    unfold comes
    simp only
    rw [if_pos h0, if_pos trivial]
    rfl
  · rw [if_neg h0] at okg ⊢
    refine ⟨?_, fun h => by simp at h, fun _ => rfl⟩
    unfold comes lookV
    simp only
    have : n.toNat = 0 := by simp only [mkS] at h0; omega
    rw [if_neg (by decide), this]
    rfl
/-- Where a key is found. -/
theorem look_free1 {C : List Int} {key n : Int} : ∀ (c : Nat) (i fr fr' : Int), (look2 C key n c i fr).1 = (look2 C key n c i fr').1
  | 0, i, fr, fr' => rfl
  | c + 1, i, fr, fr' => by
    simp only [look2]
    split
    · split
      · rfl
      · exact look_free1 c _ _ _
    · split
      · rfl
      · exact look_free1 c _ _ _

/-! ### what the cells say -/
def okS (most : Int) (l : List Int) : Bool := (decide (0 ≤ most) && decide (most ≤ 16)) && decide ((l.length : Int) = sizeV most)
/-- A slot may be. -/
def gdS (C : List Int) (n i : Int) : Bool := (decide (0 ≤ stV C i) && decide (stV C i ≤ 2)) && (decide (stV C i ≠ 1) || decide ((lookV C (kyV C i) n).1 = i))
def prS (C : List Int) : Nat → List (Int × Int)
  | 0 => []
  | j + 1 => if stV C (j : Int) = 1 then prS C j ++ [(kyV C (j : Int), vlV C (j : Int))] else prS C j
def insP (p : Int × Int) : List (Int × Int) → List (Int × Int)
  | [] => [p]
  | q :: l => if q.1 < p.1 then q :: insP p l else p :: q :: l
def inS (C : List Int) : Nat → List (Int × Int)
  | 0 => []
  | j + 1 => if stV C (j : Int) = 1 then insP (kyV C (j : Int), vlV C (j : Int)) (inS C j) else inS C j
def allG (C : List Int) (n : Int) : Nat → Bool
  | 0 => true
  | j + 1 => allG C n j && gdS C n (j : Int)
def rgS (most : Int) (C : List Int) : Bool := allG C most most.toNat && decide (nth C 0 = ((prS C most.toNat).length : Int))
def kindS (most : Int) (l : List Int) : Int := if okS most l && rgS most l then 3 else 0
def valS (most : Int) (l : List Int) : List (Int × Int) := if okS most l && rgS most l then inS l most.toNat else []
def errS (most : Int) (l : List Int) : Int := if okS most l then (if rgS most l then 0 else 12) else 1
theorem ins_len (p : Int × Int) : ∀ l, (insP p l).length = l.length + 1
  | [] => rfl
  | q :: l => by
    simp only [insP]
    split
    · simp [ins_len p l]
    · simp
theorem ins_perm (p : Int × Int) : ∀ l, (insP p l).Perm (p :: l)
  | [] => List.Perm.refl _
  | q :: l => by
    simp only [insP]
    split
    · exact ((ins_perm p l).cons q).trans (List.Perm.swap p q l)
    · exact List.Perm.refl _
theorem in_perm (C : List Int) : ∀ j, (inS C j).Perm (prS C j)
  | 0 => List.Perm.refl _
  | j + 1 => by
    simp only [inS, prS]
    split
    · refine (ins_perm _ _).trans ?_
      exact ((in_perm C j).cons _).trans (List.perm_append_comm (l₁ := [_]))
    · exact in_perm C j
theorem pr_len (C : List Int) (j : Nat) : (prS C j).length ≤ j := by
  induction j with
  | zero => simp [prS]
  | succ j ih =>
    simp only [prS]
    split
    · simp; omega
    · omega
/-- Keys that rise. -/
def Ris (l : List (Int × Int)) : Prop := l.Pairwise (fun a b => a.1 < b.1)
theorem ins_ris {p : Int × Int} : ∀ {l : List (Int × Int)}, Ris l → (∀ q ∈ l, q.1 ≠ p.1) → Ris (insP p l)
  | [], _, _ => by simp [insP, Ris]
  | q :: l, h, hn => by
    unfold Ris at h ⊢
    rw [List.pairwise_cons] at h
    simp only [insP]
    have hq := hn q (by simp)
    split
    · rename_i hlt
      rw [List.pairwise_cons]
      refine ⟨fun a ha => ?_, ins_ris h.2 (fun q hq => hn q (by simp [hq]))⟩
      rcases List.mem_cons.1 ((ins_perm p l).mem_iff.1 ha) with rfl | ha
      · exact hlt
      · exact h.1 a ha
    · rename_i hlt
      rw [List.pairwise_cons]
      refine ⟨fun a ha => ?_, by rw [List.pairwise_cons]; exact h⟩
      rcases List.mem_cons.1 ha with rfl | ha
      · omega
      · have := h.1 a ha; omega
theorem ris_eq : ∀ {l m : List (Int × Int)}, l.Perm m → Ris l → Ris m → l = m
  | [], m, hp, _, _ => by have := hp.length_eq; simp at this; rw [List.eq_nil_of_length_eq_zero this.symm]
  | a :: l, [], hp, _, _ => by have := hp.length_eq; simp at this
  | a :: l, b :: m, hp, h1, h2 => by
    unfold Ris at h1 h2
    rw [List.pairwise_cons] at h1 h2
    have e : a = b := by
      have ha : a ∈ b :: m := hp.mem_iff.1 (by simp)
      have hb : b ∈ a :: l := hp.mem_iff.2 (by simp)
      rcases List.mem_cons.1 ha with e | ha
      · exact e
      · rcases List.mem_cons.1 hb with e | hb
        · exact e.symm
        · have := h2.1 a ha; have := h1.1 b hb; omega
    subst e
    rw [ris_eq ((List.perm_cons a).1 hp) h1.2 h2.2]
theorem pr_mem {C : List Int} {p : Int × Int} : ∀ {j : Nat}, p ∈ prS C j ↔ ∃ i : Nat, i < j ∧ stV C (i : Int) = 1 ∧ p = (kyV C (i : Int), vlV C (i : Int))
  | 0 => by simp [prS]
  | j + 1 => by
    simp only [prS]
    have ih := pr_mem (C := C) (p := p) (j := j)
    constructor
    · intro h
      split at h
      · rename_i hs
        rcases List.mem_append.1 h with h | h
        · obtain ⟨i, h1, h2⟩ := ih.1 h; exact ⟨i, by omega, h2⟩
        · simp at h; exact ⟨j, by omega, hs, h⟩
      · obtain ⟨i, h1, h2⟩ := ih.1 h; exact ⟨i, by omega, h2⟩
    · rintro ⟨i, h1, h2, h3⟩
      by_cases hij : i = j
      · subst hij; rw [if_pos h2]; simp [h3]
      · have := ih.2 ⟨i, by omega, h2, h3⟩
        split
        · exact List.mem_append_left _ this
        · exact this
theorem all_at {C : List Int} {n : Int} : ∀ {j : Nat}, allG C n j = true → ∀ i : Nat, i < j → gdS C n (i : Int) = true
  | 0, _, i, hi => by omega
  | j + 1, h, i, hi => by
    simp only [allG, Bool.and_eq_true] at h
    by_cases hij : i = j
    · subst hij; exact h.2
    · exact all_at h.1 i (by omega)
theorem gd_parts {C : List Int} {n i : Int} (h : gdS C n i = true) : (0 ≤ stV C i ∧ stV C i ≤ 2) ∧ (stV C i = 1 → (lookV C (kyV C i) n).1 = i) := by
  simp only [gdS, Bool.and_eq_true, Bool.or_eq_true, decide_eq_true_eq] at h
  exact ⟨h.1, fun e => h.2.resolve_left (fun hn => hn e)⟩
/-- No two slots have one key. -/
theorem key_one {C : List Int} {n : Int} {j : Nat} (h : allG C n j = true) {a b : Nat} (ha : a < j) (hb : b < j) (sa : stV C (a : Int) = 1) (sb : stV C (b : Int) = 1) (hk : kyV C (a : Int) = kyV C (b : Int)) : a = b := by
  have h1 := (gd_parts (all_at h a ha)).2 sa
  have h2 := (gd_parts (all_at h b hb)).2 sb
  rw [hk, h2] at h1
  omega
theorem in_ris {C : List Int} {n : Int} : ∀ {j : Nat}, allG C n j = true → Ris (inS C j)
  | 0, _ => by simp [inS, Ris]
  | j + 1, h => by
    have h' := h
    simp only [allG, Bool.and_eq_true] at h
    simp only [inS]
    split
    · rename_i hs
      refine ins_ris (in_ris h.1) (fun q hq e => ?_)
      obtain ⟨i, h1, h2, h3⟩ := pr_mem.1 ((in_perm C j).mem_iff.1 hq)
      have := key_one h' (a := i) (b := j) (by omega) (by omega) h2 hs (by rw [h3] at e; exact e)
      omega
    · exact in_ris h.1
theorem okS_len {m : Int} {l : List Int} (h : okS m l = true) : (l.length : Int) = 3 * m + 1 ∧ 0 ≤ m ∧ m ≤ 16 := by
  simp only [okS, Bool.and_eq_true, decide_eq_true_eq] at h
  obtain ⟨⟨h1, h2⟩, h3⟩ := h
  unfold sizeV at h3
  rw [if_pos ⟨h1, h2⟩] at h3
  omega
end Go.Proofs.Ytbajgbknjmbimab.Di
