/- The cells say that dict, behind each call. -/
import Derived.Test.YtbajgbknjmbimabDiCm
namespace Go.Proofs.Ytbajgbknjmbimab.Di
open Go.ChangeShapes Go.WideShapes Go.ChangeAt Go.RowKit

/-- The cells say that dict (in whatever order). -/
structure DInv (n : Nat) (C : List Int) (P : List (Int × Int)) : Prop where
  n16 : n ≤ 16
  lc : C.length = 3 * n + 1
  al : allG C (n : Int) n = true
  ct : nth C 0 = (P.length : Int)
  pm : P.Perm (prS C n)
  cw : ∀ x ∈ C, Sx x
theorem DInv.lcI {n : Nat} {C : List Int} {P : List (Int × Int)} (h : DInv n C P) : (C.length : Int) = 3 * (n : Int) + 1 := by have := h.lc; omega
theorem DInv.nI {n : Nat} {C : List Int} {P : List (Int × Int)} (h : DInv n C P) : 0 ≤ (n : Int) ∧ (n : Int) ≤ 16 := by have := h.n16; omega
theorem DInv.len {n : Nat} {C : List Int} {P : List (Int × Int)} (h : DInv n C P) : P.length ≤ n := by rw [h.pm.length_eq]; exact pr_len C n
theorem all_of {C : List Int} {n : Int} : ∀ (j : Nat), (∀ i : Nat, i < j → gdS C n (i : Int) = true) → allG C n j = true
  | 0, _ => rfl
  | j + 1, h => by simp only [allG]; rw [all_of j (fun i hi => h i (by omega)), h j (by omega)]; rfl
theorem gd_of {C : List Int} {n i : Int} (h1 : 0 ≤ stV C i ∧ stV C i ≤ 2) (h2 : stV C i = 1 → (lookV C (kyV C i) n).1 = i) : gdS C n i = true := by
  simp only [gdS, Bool.and_eq_true, Bool.or_eq_true, decide_eq_true_eq]
  refine ⟨h1, ?_⟩
  by_cases h : stV C i = 1
  · exact Or.inr (h2 h)
  · exact Or.inl h
theorem look_case {C : List Int} {key : Int} {n : Nat} (hn : n ≤ 16) : (lookV C key (n : Int)).1 = -1 ∨ ∃ j : Nat, j < n ∧ (lookV C key (n : Int)).1 = (j : Int) ∧ stV C (j : Int) = 1 ∧ kyV C (j : Int) = key := by
  by_cases h0 : n = 0
  · subst h0; left; unfold lookV; rfl
  · unfold lookV
    rcases look_in (C := C) (key := key) (n := (n : Int)) (n : Int).toNat (firV key n) (-1) (fir_lt (by omega)) with h | ⟨j, h1, h2⟩
    · exact Or.inl h
    · exact Or.inr ⟨j, by omega, h2⟩
/-- A key that is in the dict is found. -/
theorem DInv.found {n : Nat} {C : List Int} {P : List (Int × Int)} (h : DInv n C P) {k v : Int} (hk : (k, v) ∈ P) : ∃ j : Nat, j < n ∧ (lookV C k (n : Int)).1 = (j : Int) ∧ stV C (j : Int) = 1 ∧ kyV C (j : Int) = k ∧ vlV C (j : Int) = v := by
  obtain ⟨j, h1, h2, h3⟩ := pr_mem.1 (h.pm.mem_iff.1 hk)
  injection h3 with e1 e2
  refine ⟨j, h1, ?_, h2, e1.symm, e2.symm⟩
  have := (gd_parts (all_at h.al j h1)).2 h2
  rw [← e1] at this
  exact this
theorem DInv.nofound {n : Nat} {C : List Int} {P : List (Int × Int)} (h : DInv n C P) {k : Int} (hk : ∀ p ∈ P, p.1 ≠ k) : (lookV C k (n : Int)).1 = -1 := by
  rcases look_case (C := C) (key := k) h.n16 with h1 | ⟨j, h1, _, h3, h4⟩
  · exact h1
  · exfalso
    exact hk (kyV C (j : Int), vlV C (j : Int)) (h.pm.mem_iff.2 (pr_mem.2 ⟨j, h1, h3, rfl⟩)) h4
theorem sx_set {C : List Int} {j : Nat} {z : Int} (h : ∀ x ∈ C, Sx x) (hz : Sx z) : ∀ x ∈ C.set j z, Sx x := fun x hx => by
  rcases List.mem_or_eq_of_mem_set hx with h1 | rfl
  · exact h x h1
  · exact hz
theorem wr_small {z : Int} (h : -100 ≤ z ∧ z ≤ 100) : wrap64 z = z := by unfold wrap64; omega
theorem sx_small {z : Int} (h : -100 ≤ z ∧ z ≤ 100) : Sx z := by unfold Sx; omega
/-- The cells of slots, of cells of which one was set. -/
theorem set_slot {C : List Int} {q : Nat} {z : Int} (hq : q < C.length) (i : Nat) : stV (C.set q z) (i : Int) = (if q = 1 + 3 * i then z else stV C (i : Int)) ∧ kyV (C.set q z) (i : Int) = (if q = 2 + 3 * i then z else kyV C (i : Int)) ∧ vlV (C.set q z) (i : Int) = (if q = 3 + 3 * i then z else vlV C (i : Int)) := by
  obtain ⟨a1, a2, a3⟩ := vl_nat (C.set q z) i
  obtain ⟨b1, b2, b3⟩ := vl_nat C i
  rw [a1, a2, a3, b1, b2, b3, nth_set _ _ _ _ hq, nth_set _ _ _ _ hq, nth_set _ _ _ _ hq]
  exact ⟨rfl, rfl, rfl⟩
theorem set_zero {C : List Int} {q : Nat} {z : Int} (hq : q < C.length) (h : q ≠ 0) : nth (C.set q z) 0 = nth C 0 := by rw [nth_set _ _ _ _ hq, if_neg h]
theorem DInv.get {n : Nat} {C : List Int} {P : List (Int × Int)} (h : DInv n C P) {A : List Int} {v : Int} (hk : (nth A 0, v) ∈ P) : runM 0 (mostW (n : Int) + 1) (mkM 0 (n : Int) 2 A) C 0 = (C, v, 0, true) := by
  obtain ⟨j, h1, h2, h3, h4, h5⟩ := h.found hk
  rw [run_get h.nI h.lcI h2 (by omega), h5]
theorem DInv.getno {n : Nat} {C : List Int} {P : List (Int × Int)} (h : DInv n C P) {A : List Int} (hk : ∀ p ∈ P, p.1 ≠ nth A 0) : runM 0 (mostW (n : Int) + 1) (mkM 0 (n : Int) 2 A) C 0 = (C, 0, 1, true) := run_get_none h.nI h.lcI (h.nofound hk)
theorem DInv.delno {n : Nat} {C : List Int} {P : List (Int × Int)} (h : DInv n C P) {A : List Int} (hk : ∀ p ∈ P, p.1 ≠ nth A 0) : runM 0 (mostW (n : Int) + 1) (mkM 0 (n : Int) 4 A) C 0 = (C, 0, 1, true) := run_del_none h.nI h.lcI (h.nofound hk)
theorem DInv.lens {n : Nat} {C : List Int} {P : List (Int × Int)} (h : DInv n C P) {A : List Int} : runM 0 (mostW (n : Int) + 1) (mkM 0 (n : Int) 5 A) C 0 = (C, (P.length : Int), 0, true) := by rw [run_len h.lcI, h.ct]
theorem DInv.full {n : Nat} {C : List Int} {P : List (Int × Int)} (h : DInv n C P) {A : List Int} (hk : ∀ p ∈ P, p.1 ≠ nth A 0) (hf : n ≤ P.length) : runM 0 (mostW (n : Int) + 1) (mkM 0 (n : Int) 3 A) C 0 = (C, 0, 2, true) := run_full h.nI h.lcI (h.nofound hk) (Or.inl (by rw [h.ct]; omega))
/-- No two pairs have one key. -/
theorem DInv.uniq {n : Nat} {C : List Int} {P : List (Int × Int)} (h : DInv n C P) {p q : Int × Int} (hp : p ∈ P) (hq : q ∈ P) (e : p.1 = q.1) : p = q := by
  obtain ⟨i, h1, h2, h3⟩ := pr_mem.1 (h.pm.mem_iff.1 hp)
  obtain ⟨j, h4, h5, h6⟩ := pr_mem.1 (h.pm.mem_iff.1 hq)
  have := key_one h.al h1 h4 h2 h5 (by rw [h3, h6] at e; exact e)
  rw [h3, h6, this]
/-- A key that is there gets another value. -/
theorem DInv.chg {n : Nat} {C : List Int} {P : List (Int × Int)} (h : DInv n C P) {A : List Int} {q : Nat} (hq : q < P.length) (hk : (P[q]).1 = nth A 0) (hv : Sx (nth A 1)) : ∃ C', runM 0 (mostW (n : Int) + 1) (mkM 0 (n : Int) 3 A) C 0 = (C', 0, 0, true) ∧ DInv n C' (P.set q (nth A 0, nth A 1)) := by
  have hmem : (nth A 0, (P[q]).2) ∈ P := by rw [← hk]; exact List.getElem_mem hq
  obtain ⟨j, h1, h2, h3, h4, h5⟩ := h.found hmem
  have hlc := h.lc
  have hs := fun i => set_slot (C := C) (q := 3 + 3 * j) (z := nth A 1) (by omega) i
  have hst : ∀ i : Nat, stV (C.set (3 + 3 * j) (nth A 1)) (i : Int) = stV C (i : Int) := fun i => by rw [(hs i).1, if_neg (by omega)]
  have hky : ∀ i : Nat, kyV (C.set (3 + 3 * j) (nth A 1)) (i : Int) = kyV C (i : Int) := fun i => by rw [(hs i).2.1, if_neg (by omega)]
  have hvl : ∀ i : Nat, i ≠ j → vlV (C.set (3 + 3 * j) (nth A 1)) (i : Int) = vlV C (i : Int) := fun i hi => by rw [(hs i).2.2, if_neg (by omega)]
  have hvj : vlV (C.set (3 + 3 * j) (nth A 1)) (j : Int) = nth A 1 := by rw [(hs j).2.2, if_pos rfl]
  refine ⟨_, run_chg h.nI h.lcI h2 (by omega), h.n16, by rw [List.length_set]; exact hlc, ?_, by rw [set_zero (by omega) (by omega), h.ct]; simp, ?_, sx_set h.cw hv⟩
  · refine all_of n (fun i hi => gd_of (by rw [hst i]; exact (gd_parts (all_at h.al i hi)).1) (fun e => ?_))
    rw [hst i] at e
    rw [hky i]
    have h6 := (gd_parts (all_at h.al i hi)).2 e
    unfold lookV at h6 ⊢
    refine look_mono (C := C) (fun t _ => ?_) _ _ _ _ _ (fir_lt (by have := h.n16; omega)) h6 (by omega)
    rw [hst t, hky t]
    by_cases hz : stV C (t : Int) = 0
    · exact Or.inl hz
    · by_cases hh : stV C (t : Int) = 1 ∧ kyV C (t : Int) = kyV C (i : Int)
      · exact Or.inr (Or.inl ⟨hh.1, hh.2, hh.1, hh.2⟩)
      · exact Or.inr (Or.inr ⟨hh, hz, hh⟩)
  · have p1 := pr_chg (C := C) (D := C.set (3 + 3 * j) (nth A 1)) (f := j) h3 (by rw [hst j]; exact h3) n h1 (fun i _ hne => ⟨hst i, hky i, hvl i hne⟩)
    rw [hvj, hky j, h4, h5] at p1
    have p2 := set_perm P q (nth A 0, nth A 1) hq
    have e : P[q] = (nth A 0, (P[q]).2) := by rw [← hk]
    rw [e] at p2
    exact (List.perm_cons _).1 (p2.trans ((h.pm.cons _).trans p1.symm))
/-- A key that is not there is put into a slot that is free. -/
theorem DInv.add {n : Nat} {C : List Int} {P : List (Int × Int)} (h : DInv n C P) {A : List Int} (hk : ∀ p ∈ P, p.1 ≠ nth A 0) (hl : P.length < n) (hv0 : Sx (nth A 0)) (hv : Sx (nth A 1)) : ∃ C', runM 0 (mostW (n : Int) + 1) (mkM 0 (n : Int) 3 A) C 0 = (C', 0, 0, true) ∧ DInv n C' (P ++ [(nth A 0, nth A 1)]) := by
  have hlc := h.lc
  have hn16 := h.n16
  have hf := h.nofound hk
  have hfir := fir_lt (k := nth A 0) (n := (n : Int)) (by omega)
  have hfree : ∃ j : Nat, (j : Int) < (n : Int) ∧ (lookV C (nth A 0) (n : Int)).2 = (j : Int) ∧ stV C (j : Int) ≠ 1 := by
    rcases free_in (C := C) (key := nth A 0) (n := (n : Int)) (n : Int).toNat (firV (nth A 0) n) hfir with h1 | h1
    · have := full_of (by omega) hn16 hf h1
      have := h.pm.length_eq
      omega
    · exact h1
  obtain ⟨j, hj, hfr, hnt⟩ := hfree
  have hjn : j < n := by omega
  have ct := h.ct
  obtain ⟨D, hD⟩ : ∃ D, D = (((C.set (1 + 3 * j) 1).set (2 + 3 * j) (nth A 0)).set (3 + 3 * j) (nth A 1)).set 0 (wrap64 (nth C 0 + 1)) := ⟨_, rfl⟩
  have hsl : ∀ i : Nat, i ≠ j → stV D (i : Int) = stV C (i : Int) ∧ kyV D (i : Int) = kyV C (i : Int) ∧ vlV D (i : Int) = vlV C (i : Int) := fun i hi => by
    rw [hD]
    obtain ⟨a1, a2, a3⟩ := set_slot (C := ((C.set (1 + 3 * j) 1).set (2 + 3 * j) (nth A 0)).set (3 + 3 * j) (nth A 1)) (q := 0) (z := wrap64 (nth C 0 + 1)) (by simp; omega) i
    obtain ⟨b1, b2, b3⟩ := set_slot (C := (C.set (1 + 3 * j) 1).set (2 + 3 * j) (nth A 0)) (q := 3 + 3 * j) (z := nth A 1) (by simp; omega) i
    obtain ⟨c1, c2, c3⟩ := set_slot (C := C.set (1 + 3 * j) 1) (q := 2 + 3 * j) (z := nth A 0) (by simp; omega) i
    obtain ⟨d1, d2, d3⟩ := set_slot (C := C) (q := 1 + 3 * j) (z := 1) (by omega) i
    rw [a1, a2, a3, b1, b2, b3, c1, c2, c3, d1, d2, d3]
    simp only [if_neg (show ¬ 0 = 1 + 3 * i by omega), if_neg (show ¬ 0 = 2 + 3 * i by omega), if_neg (show ¬ 0 = 3 + 3 * i by omega), if_neg (show ¬ 3 + 3 * j = 1 + 3 * i by omega), if_neg (show ¬ 3 + 3 * j = 2 + 3 * i by omega), if_neg (show ¬ 3 + 3 * j = 3 + 3 * i by omega), if_neg (show ¬ 2 + 3 * j = 1 + 3 * i by omega), if_neg (show ¬ 2 + 3 * j = 2 + 3 * i by omega), if_neg (show ¬ 2 + 3 * j = 3 + 3 * i by omega), if_neg (show ¬ 1 + 3 * j = 1 + 3 * i by omega), if_neg (show ¬ 1 + 3 * j = 2 + 3 * i by omega), if_neg (show ¬ 1 + 3 * j = 3 + 3 * i by omega)]
    exact ⟨trivial, trivial, trivial⟩
  have hsj : stV D (j : Int) = 1 ∧ kyV D (j : Int) = nth A 0 ∧ vlV D (j : Int) = nth A 1 := by
    rw [hD]
    obtain ⟨a1, a2, a3⟩ := set_slot (C := ((C.set (1 + 3 * j) 1).set (2 + 3 * j) (nth A 0)).set (3 + 3 * j) (nth A 1)) (q := 0) (z := wrap64 (nth C 0 + 1)) (by simp; omega) j
    obtain ⟨b1, b2, b3⟩ := set_slot (C := (C.set (1 + 3 * j) 1).set (2 + 3 * j) (nth A 0)) (q := 3 + 3 * j) (z := nth A 1) (by simp; omega) j
    obtain ⟨c1, c2, c3⟩ := set_slot (C := C.set (1 + 3 * j) 1) (q := 2 + 3 * j) (z := nth A 0) (by simp; omega) j
    obtain ⟨d1, d2, d3⟩ := set_slot (C := C) (q := 1 + 3 * j) (z := 1) (by omega) j
    rw [a1, a2, a3, b1, b2, b3, c1, c2, d1]
    simp only [if_neg (show ¬ 0 = 1 + 3 * j by omega), if_neg (show ¬ 0 = 2 + 3 * j by omega), if_neg (show ¬ 0 = 3 + 3 * j by omega), if_neg (show ¬ 3 + 3 * j = 1 + 3 * j by omega), if_neg (show ¬ 3 + 3 * j = 2 + 3 * j by omega), if_neg (show ¬ 2 + 3 * j = 1 + 3 * j by omega), if_true]
    exact ⟨trivial, trivial, trivial⟩
  have hdl : D.length = C.length := by rw [hD]; simp
  refine ⟨D, by rw [hD]; exact run_put h.nI h.lcI hf hfr hj (by rw [ct]; omega), hn16, by rw [hdl]; exact hlc, ?_, ?_, ?_, ?_⟩
  · refine all_of n (fun i hi => ?_)
    by_cases e : i = j
    · subst e
      refine gd_of (by rw [hsj.1]; omega) (fun _ => ?_)
      rw [hsj.2.1]
      unfold lookV at hf hfr ⊢
      exact look_new hnt hsj.1 hsj.2.1 (fun t _ ht => ⟨(hsl t ht).1, (hsl t ht).2.1⟩) _ _ _ hfir hf hfr
    · obtain ⟨s1, s2, _⟩ := hsl i e
      refine gd_of (by rw [s1]; exact (gd_parts (all_at h.al i hi)).1) (fun e2 => ?_)
      rw [s1] at e2
      rw [s2]
      have h6 := (gd_parts (all_at h.al i hi)).2 e2
      have hki : kyV C (i : Int) ≠ nth A 0 := fun e3 => hk (kyV C (i : Int), vlV C (i : Int)) (h.pm.mem_iff.2 (pr_mem.2 ⟨i, hi, e2, rfl⟩)) e3
      unfold lookV at h6 ⊢
      refine look_mono (C := C) (fun t _ => ?_) _ _ _ _ _ (fir_lt (by omega)) h6 (by omega)
      by_cases ht : t = j
      · subst ht
        by_cases hz : stV C (t : Int) = 0
        · exact Or.inl hz
        · exact Or.inr (Or.inr ⟨fun hh => hnt hh.1, by rw [hsj.1]; decide, fun hh => hki (by rw [← hh.2, hsj.2.1])⟩)
      · obtain ⟨t1, t2, _⟩ := hsl t ht
        rw [t1, t2]
        by_cases hz : stV C (t : Int) = 0
        · exact Or.inl hz
        · by_cases hh : stV C (t : Int) = 1 ∧ kyV C (t : Int) = kyV C (i : Int)
          · exact Or.inr (Or.inl ⟨hh.1, hh.2, hh.1, hh.2⟩)
          · exact Or.inr (Or.inr ⟨hh, hz, hh⟩)
  · rw [hD, nth_set _ _ _ _ (by simp; omega), if_pos rfl, ct, wr_small (by omega)]
    simp
  · have p1 := pr_more (C := C) (D := D) (f := j) hnt hsj.1 n hjn (fun i _ hne => hsl i hne)
    rw [hsj.2.1, hsj.2.2] at p1
    exact (List.perm_append_comm (l₂ := [_])).trans ((h.pm.cons _).trans p1.symm)
  · rw [hD]
    exact sx_set (sx_set (sx_set (sx_set h.cw (sx_small (by omega))) hv0) hv) (by rw [ct, wr_small (by omega)]; exact sx_small (by omega))
/-- A key that is there is taken out. -/
theorem DInv.del {n : Nat} {C : List Int} {P Q : List (Int × Int)} (h : DInv n C P) {A : List Int} {v : Int} (hk : (nth A 0, v) ∈ P) (hQ : P.Perm ((nth A 0, v) :: Q)) : ∃ C', runM 0 (mostW (n : Int) + 1) (mkM 0 (n : Int) 4 A) C 0 = (C', 0, 0, true) ∧ DInv n C' Q := by
  have hlc := h.lc
  have hn16 := h.n16
  obtain ⟨j, h1, h2, h3, h4, h5⟩ := h.found hk
  have ct := h.ct
  have hql : P.length = Q.length + 1 := by rw [hQ.length_eq]; rfl
  have hpl := h.len
  obtain ⟨D, hD⟩ : ∃ D, D = (C.set (1 + 3 * j) 2).set 0 (wrap64 (nth C 0 - 1)) := ⟨_, rfl⟩
  have hs := fun i => set_slot (C := C.set (1 + 3 * j) 2) (q := 0) (z := wrap64 (nth C 0 - 1)) (by simp; omega) i
  have hs' := fun i => set_slot (C := C) (q := 1 + 3 * j) (z := 2) (by omega) i
  have hsl : ∀ i : Nat, i ≠ j → stV D (i : Int) = stV C (i : Int) := fun i hi => by rw [hD, (hs i).1, if_neg (by omega), (hs' i).1, if_neg (by omega)]
  have hky : ∀ i : Nat, kyV D (i : Int) = kyV C (i : Int) ∧ vlV D (i : Int) = vlV C (i : Int) := fun i => ⟨by rw [hD, (hs i).2.1, if_neg (by omega), (hs' i).2.1, if_neg (by omega)], by rw [hD, (hs i).2.2, if_neg (by omega), (hs' i).2.2, if_neg (by omega)]⟩
  have hsj : stV D (j : Int) = 2 := by rw [hD, (hs j).1, if_neg (by omega), (hs' j).1, if_pos rfl]
  have hdl : D.length = C.length := by rw [hD]; simp
  refine ⟨D, by rw [hD]; exact run_del h.nI h.lcI h2 (by omega), hn16, by rw [hdl]; exact hlc, ?_, ?_, ?_, ?_⟩
  · refine all_of n (fun i hi => ?_)
    by_cases e : i = j
    · subst e
      exact gd_of (by rw [hsj]; omega) (fun e => by rw [hsj] at e; omega)
    · refine gd_of (by rw [hsl i e]; exact (gd_parts (all_at h.al i hi)).1) (fun e2 => ?_)
      rw [hsl i e] at e2
      rw [(hky i).1]
      have h6 := (gd_parts (all_at h.al i hi)).2 e2
      have hki : kyV C (i : Int) ≠ kyV C (j : Int) := fun e3 => e (key_one h.al hi h1 e2 h3 e3)
      unfold lookV at h6 ⊢
      refine look_mono (C := C) (fun t _ => ?_) _ _ _ _ _ (fir_lt (by omega)) h6 (by omega)
      by_cases ht : t = j
      · subst ht
        exact Or.inr (Or.inr ⟨fun hh => hki hh.2.symm, by rw [hsj]; decide, fun hh => by rw [hsj] at hh; omega⟩)
      · rw [hsl t ht, (hky t).1]
        by_cases hz : stV C (t : Int) = 0
        · exact Or.inl hz
        · by_cases hh : stV C (t : Int) = 1 ∧ kyV C (t : Int) = kyV C (i : Int)
          · exact Or.inr (Or.inl ⟨hh.1, hh.2, hh.1, hh.2⟩)
          · exact Or.inr (Or.inr ⟨hh, hz, hh⟩)
  · rw [hD, nth_set _ _ _ _ (by simp; omega), if_pos rfl, ct, wr_small (by omega)]
    omega
  · have p1 := pr_more (C := D) (D := C) (f := j) (by rw [hsj]; decide) h3 n h1 (fun i _ hne => ⟨(hsl i hne).symm, (hky i).1.symm, (hky i).2.symm⟩)
    rw [h4, h5] at p1
    exact (List.perm_cons _).1 (hQ.symm.trans (h.pm.trans p1))
  · rw [hD]
    exact sx_set (sx_set h.cw (sx_small (by omega))) (by rw [ct, wr_small (by omega)]; exact sx_small (by omega))
/-- The swap of the last one into the place of one that is taken out. -/
theorem swap_perm {P : List (Int × Int)} {q : Nat} (hq : q < P.length) : P.Perm (P[q] :: (P.set q (P[P.length - 1]'(by omega))).take (P.length - 1)) := by
  obtain ⟨T, l, rfl⟩ : ∃ T l, P = T ++ [l] := ⟨P.dropLast, P.getLast (by intro e; rw [e] at hq; simp at hq), (List.dropLast_concat_getLast _).symm⟩
  have hlen : (T ++ [l]).length - 1 = T.length := by simp
  have hlast : (T ++ [l])[(T ++ [l]).length - 1]'(by omega) = l := by simp
  rw [hlast, hlen]
  by_cases h : q < T.length
  · have e1 : (T ++ [l])[q] = T[q] := List.getElem_append_left h
    have e2 : ((T ++ [l]).set q l).take T.length = T.set q l := by rw [List.set_append_left _ _ h]; simp
    rw [e1, e2]
    exact (List.perm_append_comm (l₂ := [l])).trans (set_perm T q l h).symm
  · have hqe : q = T.length := by simp at hq; omega
    subst hqe
    have e1 : (T ++ [l])[T.length] = l := by simp
    have e2 : ((T ++ [l]).set T.length l).take T.length = T := by rw [List.set_append_right _ _ (Nat.le_refl _)]; simp
    rw [e1, e2]
    exact List.perm_append_comm (l₂ := [l])
/-- What Shape says of such cells. -/
theorem DInv.says {n : Nat} {C : List Int} {P : List (Int × Int)} (h : DInv n C P) : okS (n : Int) C = true ∧ rgS (n : Int) C = true ∧ P.Perm (inS C n) := by
  have h1 := h.lc
  have h2 := h.n16
  refine ⟨?_, ?_, h.pm.trans (in_perm C n).symm⟩
  · unfold okS sizeV
    rw [if_pos (by omega)]
    simp only [Bool.and_eq_true, decide_eq_true_eq]
    omega
  · unfold rgS
    rw [Int.toNat_natCast, h.al, h.ct, h.pm.length_eq]
    simp
theorem DInv.of {n : Nat} {C : List Int} (hn : n ≤ 16) (ho : okS (n : Int) C = true) (hr : rgS (n : Int) C = true) (hw : ∀ x ∈ C, Sx x) : DInv n C (inS C n) := by
  obtain ⟨h1, _, _⟩ := okS_len ho
  unfold rgS at hr
  rw [Int.toNat_natCast] at hr
  simp only [Bool.and_eq_true, decide_eq_true_eq] at hr
  exact ⟨hn, by omega, hr.1, by rw [hr.2, (in_perm C n).length_eq], in_perm C n, hw⟩
end Go.Proofs.Ytbajgbknjmbimab.Di
