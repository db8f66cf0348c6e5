/- What the cells of a chain say, as plain data: the program's way to it, and the document's. -/
import Derived.Test.YtaffkcliepfcmaaChCl
namespace Go.Proofs.Ytaffkcliepfcmaa.Ch
open Go.ChangeShapes Go.WideShapes Go.ChangeAt Go.RowKit

/-- The nodes that one comes to from a link on, fewer than so many; none: it doesn't end. -/
def nf (C : List Int) (u : Nat) : Nat → Int → Option (List Nat)
  | 0, link => if link = 0 then some [] else none
  | f + 1, link => if link = 0 then some [] else if leadV link u = 0 then none else (nf C u f (nth C (nx (leadV link u).toNat))).map ((leadV link u).toNat :: ·)
/-- The document's: with marks. -/
def rv (C : List Int) (u : Nat) : Nat → Int → List Bool → Option (List Nat)
  | 0, link, _ => if link = 0 then some [] else none
  | f + 1, link, S => if link = 0 then some [] else if leadV link u = 0 ∨ S.getD (leadV link u).toNat true = true then none
      else (rv C u f (nth C (nx (leadV link u).toNat)) (S.set (leadV link u).toNat true)).map ((leadV link u).toNat :: ·)
/-- From a link on one comes to just these, and then to 0. -/
def Pt (C : List Int) (link : Int) (L : List Nat) : Prop := link = hd L ∧ Lk C L
theorem lead_nat {link : Int} {u : Nat} (h : leadV link u ≠ 0) : ((leadV link u).toNat : Int) = link ∧ 1 ≤ (leadV link u).toNat ∧ (leadV link u).toNat ≤ u := by
  obtain ⟨h1, h2, h3⟩ := lead_of h
  omega
theorem nf_some {C : List Int} {u : Nat} : ∀ {f : Nat} {link : Int} {L : List Nat}, nf C u f link = some L → Pt C link L ∧ L.length ≤ f ∧ ∀ i ∈ L, 1 ≤ i ∧ i ≤ u
  | 0, link, L, h => by
    unfold nf at h
    by_cases h0 : link = 0
    · rw [if_pos h0] at h
      simp at h
      subst h
      exact ⟨⟨h0, trivial⟩, by simp, by simp⟩
    · rw [if_neg h0] at h; simp at h
  | f + 1, link, L, h => by
    unfold nf at h
    by_cases h0 : link = 0
    · rw [if_pos h0] at h
      simp at h
      subst h
      exact ⟨⟨h0, trivial⟩, by simp, by simp⟩
    · rw [if_neg h0] at h
      by_cases hl : leadV link u = 0
      · rw [if_pos hl] at h; simp at h
      · rw [if_neg hl] at h
        obtain ⟨e1, e2⟩ := lead_nat hl
        simp only [Option.map_eq_some_iff] at h
        obtain ⟨l, hl2, rfl⟩ := h
        obtain ⟨⟨p1, p2⟩, p3, p4⟩ := nf_some hl2
        refine ⟨⟨e1.symm, p1, p2⟩, by simp; omega, fun i hi => ?_⟩
        rcases List.mem_cons.1 hi with rfl | hi
        · exact e2
        · exact p4 i hi
theorem nf_of {C : List Int} {u : Nat} : ∀ {L : List Nat} {f : Nat} {link : Int}, Pt C link L → L.length ≤ f → (∀ i ∈ L, 1 ≤ i ∧ i ≤ u) → nf C u f link = some L
  | [], f, link, h, _, _ => by
    have h0 : link = 0 := h.1
    cases f <;> simp [nf, h0]
  | i :: l, f, link, h, hf, hn => by
    obtain ⟨f, rfl⟩ : ∃ m, f = m + 1 := ⟨f - 1, by simp at hf; omega⟩
    have hi := hn i (by simp)
    have hlk : link = (i : Int) := h.1
    have e : leadV link u = i := by rw [hlk]; exact lead_node hi
    unfold nf
    rw [if_neg (by omega), e, if_neg (by omega), Int.toNat_natCast, nf_of (L := l) (f := f) ⟨h.2.1, h.2.2⟩ (by simp at hf; omega) (fun j hj => hn j (by simp [hj]))]
    rfl
/-- So many are not marked yet. -/
def unm (S : List Bool) : Nat := S.count false
theorem unm_set {S : List Bool} {i : Nat} (h : i < S.length) (hf : S.getD i true = false) : unm (S.set i true) + 1 = unm S := by
  unfold unm
  have h1 : S[i] = false := by simpa [List.getD, h] using hf
  rw [List.count_set h, h1]
  have h2 : 0 < S.count false := List.count_pos_iff.2 (by rw [← h1]; exact List.getElem_mem h)
  simp
  omega
theorem unm_zero {S : List Bool} {i : Nat} (h : unm S = 0) : S.getD i true = true := by
  by_cases hi : i < S.length
  · have h1 : S[i] ≠ false := fun e => by
      have : false ∈ S := by rw [← e]; exact List.getElem_mem hi
      exact absurd (List.count_pos_iff.2 this) (by unfold unm at h; omega)
    simp [List.getD, hi] at h1 ⊢
    exact h1
  · simp [List.getD, hi]
theorem getD_set {S : List Bool} {i j : Nat} : (S.set i true).getD j true = if i = j then true else S.getD j true := by
  rw [List.getD_eq_getElem?_getD, List.getElem?_set, List.getD_eq_getElem?_getD]
  by_cases h : i = j
  · subst h
    by_cases hi : i < S.length <;> simp [hi]
  · simp [h]
theorem rv_some {C : List Int} {u : Nat} : ∀ {f : Nat} {link : Int} {S : List Bool} {L : List Nat}, rv C u f link S = some L → Pt C link L ∧ (∀ i ∈ L, 1 ≤ i ∧ i ≤ u) ∧ L.Nodup ∧ ∀ i ∈ L, S.getD i true = false
  | 0, link, S, L, h => by
    unfold rv at h
    by_cases h0 : link = 0
    · rw [if_pos h0] at h
      simp at h
      subst h
      exact ⟨⟨h0, trivial⟩, by simp, by simp, by simp⟩
    · rw [if_neg h0] at h; simp at h
  | f + 1, link, S, L, h => by
    unfold rv at h
    by_cases h0 : link = 0
    · rw [if_pos h0] at h
      simp at h
      subst h
      exact ⟨⟨h0, trivial⟩, by simp, by simp, by simp⟩
    · rw [if_neg h0] at h
      by_cases hl : leadV link u = 0 ∨ S.getD (leadV link u).toNat true = true
      · rw [if_pos hl] at h; simp at h
      · rw [if_neg hl] at h
        obtain ⟨e1, e2⟩ := lead_nat (fun e => hl (Or.inl e))
        have e3 : S.getD (leadV link u).toNat true = false := by
          cases hc : S.getD (leadV link u).toNat true with
          | false => rfl
          | true => exact absurd (Or.inr hc) hl
        simp only [Option.map_eq_some_iff] at h
        obtain ⟨l, hl2, rfl⟩ := h
        obtain ⟨⟨p1, p2⟩, p3, p4, p5⟩ := rv_some hl2
        refine ⟨⟨e1.symm, p1, p2⟩, fun i hi => ?_, List.nodup_cons.2 ⟨fun hc => ?_, p4⟩, fun i hi => ?_⟩
        · rcases List.mem_cons.1 hi with rfl | hi
          · exact e2
          · exact p3 i hi
        · have := p5 _ hc
          rw [getD_set, if_pos rfl] at this
          simp at this
        · rcases List.mem_cons.1 hi with rfl | hi
          · exact e3
          · have := p5 i hi
            rw [getD_set] at this
            by_cases h9 : (leadV link u).toNat = i
            · rw [if_pos h9] at this; simp at this
            · rw [if_neg h9] at this; exact this
theorem rv_of {C : List Int} {u : Nat} : ∀ {L : List Nat} {f : Nat} {link : Int} {S : List Bool}, Pt C link L → (∀ i ∈ L, 1 ≤ i ∧ i ≤ u) → L.Nodup → (∀ i ∈ L, S.getD i true = false) → unm S ≤ f → S.length = u + 1 → rv C u f link S = some L
  | [], f, link, S, h, _, _, _, _, _ => by
    have h0 : link = 0 := h.1
    cases f <;> simp [rv, h0]
  | i :: l, f, link, S, h, hn, hd2, hS, hf, hlen => by
    have hi := hn i (by simp)
    have hlk : link = (i : Int) := h.1
    have e : leadV link u = i := by rw [hlk]; exact lead_node hi
    have e3 := hS i (by simp)
    have hu := unm_set (S := S) (i := i) (by omega) e3
    obtain ⟨f, rfl⟩ : ∃ m, f = m + 1 := ⟨f - 1, by omega⟩
    have hdd := List.nodup_cons.1 hd2
    unfold rv
    rw [if_neg (by omega), e, Int.toNat_natCast, if_neg (by rw [e3]; simp; omega), rv_of (L := l) (f := f) ⟨h.2.1, h.2.2⟩ (fun j hj => hn j (by simp [hj])) hdd.2 (fun j hj => ?_) (by omega) (by simp [hlen])]
    · rfl
    · rw [getD_set, if_neg (fun e => hdd.1 (by rw [e]; exact hj))]
      exact hS j (by simp [hj])
/-- Marks behind a row. -/
def mkS (S : List Bool) (L : List Nat) : List Bool := L.foldl (fun S i => S.set i true) S
theorem mk_len (S : List Bool) (L : List Nat) : (mkS S L).length = S.length := by
  induction L generalizing S with
  | nil => rfl
  | cons i l ih => simp [mkS] at ih ⊢; rw [ih]; simp
theorem mk_get {S : List Bool} {L : List Nat} {j : Nat} : (mkS S L).getD j true = true ↔ j ∈ L ∨ S.getD j true = true := by
  induction L generalizing S with
  | nil => simp [mkS]
  | cons i l ih =>
    have : mkS S (i :: l) = mkS (S.set i true) l := rfl
    rw [this, ih, getD_set]
    by_cases h : i = j
    · subst h; simp
    · rw [if_neg h]
      have h2 : j ≠ i := fun e => h e.symm
      simp [h2]
/-! ### all nodes, each once -/
theorem ph_le : ∀ {u : Nat} {L : List Nat}, L.Nodup → (∀ i ∈ L, 1 ≤ i ∧ i ≤ u) → L.length ≤ u
  | 0, L, _, h => by
    cases L with
    | nil => simp
    | cons i l => have := h i (by simp); omega
  | u + 1, L, hn, h => by
    by_cases hm : u + 1 ∈ L
    · have h1 : (L.erase (u + 1)).length ≤ u := ph_le (hn.erase _) (fun i hi => by
        have h2 := (hn.mem_erase_iff).1 hi
        have := h i h2.2
        omega)
      rw [List.length_erase_of_mem hm] at h1
      omega
    · have h1 : L.length ≤ u := ph_le hn (fun i hi => by
        have := h i hi
        have : i ≠ u + 1 := fun e => hm (e ▸ hi)
        omega)
      omega
def upto (u : Nat) : List Int := (List.range u).map (fun i : Nat => (i : Int) + 1)
theorem ph_perm : ∀ {u : Nat} {L : List Nat}, L.Nodup → (∀ i ∈ L, 1 ≤ i ∧ i ≤ u) → L.length = u → L.Perm ((List.range u).map (· + 1))
  | 0, L, _, _, h => by
    have : L = [] := List.eq_nil_of_length_eq_zero h
    rw [this]; simp
  | u + 1, L, hn, h, hl => by
    have hm : u + 1 ∈ L := by
      apply Classical.byContradiction
      intro hm
      have h1 : L.length ≤ u := ph_le hn (fun i hi => by
        have := h i hi
        have : i ≠ u + 1 := fun e => hm (e ▸ hi)
        omega)
      omega
    have h1 := ph_perm (u := u) (L := L.erase (u + 1)) (hn.erase _) (fun i hi => by
      have h2 := (hn.mem_erase_iff).1 hi
      have := h i h2.2
      omega) (by rw [List.length_erase_of_mem hm]; omega)
    rw [List.range_succ, List.map_append]
    refine (List.perm_cons_erase hm).trans ?_
    refine (List.Perm.cons _ h1).trans ?_
    exact (List.perm_append_comm (l₁ := [u + 1])).trans (by simp)
/-- What the cells say: their nodes, and the free ones. -/
def okP (C : List Int) (u : Nat) (L Fr : List Nat) : Prop := nf C u u (nth C 0) = some L ∧ nf C u u (nth C 1) = some Fr ∧ (L ++ Fr).Perm ((List.range u).map (· + 1)) ∧ (kys C L).Pairwise (· < ·)
def okD (C : List Int) (u : Nat) (L Fr : List Nat) : Prop := rv C u (u + 1) (nth C 0) (List.replicate (u + 1) false) = some L ∧ rv C u (u + 1) (nth C 1) (mkS (List.replicate (u + 1) false) L) = some Fr ∧ L.length + Fr.length = u ∧ (kys C L).Pairwise (· < ·)
theorem unm_le (S : List Bool) : unm S ≤ S.length := List.count_le_length
theorem rep_get {u i : Nat} (h : i ≤ u) : (List.replicate (u + 1) false).getD i true = false := by
  simp [List.getD, show i < u + 1 by omega]
theorem up_nodup (u : Nat) : ((List.range u).map (· + 1)).Nodup := List.pairwise_map.2 (List.pairwise_lt_range.imp (fun h => by omega))
theorem up_mem {u i : Nat} (h : i ∈ (List.range u).map (· + 1)) : 1 ≤ i ∧ i ≤ u := by
  simp at h
  omega
theorem ok_pd {C : List Int} {u : Nat} {L Fr : List Nat} (h : okP C u L Fr) : okD C u L Fr := by
  obtain ⟨h1, h2, h3, h4⟩ := h
  obtain ⟨p1, _, p3⟩ := nf_some h1
  obtain ⟨q1, _, q3⟩ := nf_some h2
  have hnd : (L ++ Fr).Nodup := h3.nodup_iff.2 (up_nodup u)
  have hp := List.nodup_append.1 hnd
  refine ⟨rv_of p1 p3 hp.1 (fun i hi => rep_get (p3 i hi).2) (by have := unm_le (List.replicate (u + 1) false); simp at this; exact this) (by simp), rv_of q1 q3 hp.2.1 (fun i hi => ?_) (by have := unm_le (mkS (List.replicate (u + 1) false) L); rw [mk_len] at this; simp at this; exact this) (by rw [mk_len]; simp), by have := h3.length_eq; simp at this; exact this, h4⟩
  cases hc : (mkS (List.replicate (u + 1) false) L).getD i true with
  | false => rfl
  | true =>
    rcases mk_get.1 hc with h5 | h5
    · exact absurd rfl (hp.2.2 i h5 i hi)
    · rw [rep_get (q3 i hi).2] at h5; simp at h5
theorem ok_dp {C : List Int} {u : Nat} {L Fr : List Nat} (h : okD C u L Fr) : okP C u L Fr := by
  obtain ⟨h1, h2, h3, h4⟩ := h
  obtain ⟨p1, p2, p3, _⟩ := rv_some h1
  obtain ⟨q1, q2, q3, q4⟩ := rv_some h2
  refine ⟨nf_of p1 (by omega) p2, nf_of q1 (by omega) q2, ph_perm (List.nodup_append.2 ⟨p3, q3, fun a ha b hb e => ?_⟩) (fun i hi => ?_) (by simp; exact h3), h4⟩
  · have := q4 b hb
    rw [mk_get.2 (Or.inl (e ▸ ha))] at this
    simp at this
  · rcases List.mem_append.1 hi with h5 | h5
    · exact p2 i h5
    · exact q2 i h5
theorem ok_inv {n u : Nat} {C : List Int} {L Fr : List Nat} (hC : C.length = 2 * n + 3) (hu : nth C 2 = u) (hn : u ≤ n) (h : okP C u L Fr) : CInv n C L Fr := by
  obtain ⟨h1, h2, h3, h4⟩ := h
  obtain ⟨p1, _, p3⟩ := nf_some h1
  obtain ⟨q1, _, q3⟩ := nf_some h2
  refine ⟨hC, p1.1, q1.1, p1.2, q1.2, ⟨u, hu, hn, by rw [h3.length_eq]; simp, h3.nodup_iff.2 (up_nodup u), fun i hi => ?_⟩, h4⟩
  rcases List.mem_append.1 hi with h5 | h5
  · exact p3 i h5
  · exact q3 i h5
theorem inv_ok {n : Nat} {C : List Int} {L Fr : List Nat} (h : CInv n C L Fr) : ∃ u : Nat, nth C 2 = u ∧ u ≤ n ∧ okP C u L Fr := by
  obtain ⟨u, h1, h2, h3, h4, h5⟩ := h.used
  refine ⟨u, h1, h2, nf_of ⟨h.head, h.lk⟩ (by rw [List.length_append] at h3; omega) (fun i hi => h5 i (by simp [hi])), nf_of ⟨h.free, h.fk⟩ (by rw [List.length_append] at h3; omega) (fun i hi => h5 i (by simp [hi])), ph_perm h4 h5 h3, h.rise⟩
/-- All nodes, each once, by sorting. -/
def srt (l : List Int) : List Int := l.mergeSort (fun x y => decide (x ≤ y))
theorem srt_up {u : Nat} {l : List Nat} : srt (l.map (fun i : Nat => (i : Int))) = upto u ↔ l.Perm ((List.range u).map (· + 1)) := by
  have hup : upto u = ((List.range u).map (· + 1)).map (fun i : Nat => (i : Int)) := by simp [upto]
  constructor
  · intro h
    have h1 : (srt (l.map (fun i : Nat => (i : Int)))).Perm (l.map (fun i : Nat => (i : Int))) := List.mergeSort_perm _ _
    rw [h, hup] at h1
    have h2 := h1.symm.map Int.toNat
    have e : ∀ l : List Nat, (l.map (fun i : Nat => (i : Int))).map Int.toNat = l := fun l => by
      rw [List.map_map]
      exact (List.map_congr_left (fun i _ => by simp)).trans (List.map_id l)
    rw [e, e] at h2
    exact h2
  · intro h
    have h1 : (srt (l.map (fun i : Nat => (i : Int)))).Perm (upto u) := (List.mergeSort_perm _ _).trans (by rw [hup]; exact h.map _)
    have h2 : (srt (l.map (fun i : Nat => (i : Int)))).Pairwise (fun a b => decide (a ≤ b) = true) := List.pairwise_mergeSort (fun a b c h1 h2 => by simp at h1 h2 ⊢; omega) (fun a b => by simp; omega) _
    have h3 : (upto u).Pairwise (fun a b => decide (a ≤ b) = true) := List.pairwise_map.2 (List.pairwise_lt_range.imp (fun h => by simp; omega))
    exact h1.eq_of_pairwise (fun a b _ _ h4 h5 => by simp at h4 h5; omega) h2 h3
end Go.Proofs.Ytaffkcliepfcmaa.Ch
