/- A chain over cells, as numbers: each call does what is meant, and the cells say a chain again. -/
import Derived.Test.YtaffkcliepfcmaaChCm
namespace Go.Proofs.Ytaffkcliepfcmaa.Ch
open Go.ChangeShapes Go.WideShapes Go.ChangeAt Go.RowKit

theorem lc_cases (L : List Nat) : (L = [] ∧ lc L = 0) ∨ ∃ i, L.getLast? = some i ∧ i ∈ L ∧ lc L = nx i := by
  cases h : L.getLast? with
  | none => exact Or.inl ⟨by simpa using h, by unfold lc; rw [h]⟩
  | some i => exact Or.inr ⟨i, rfl, last_mem h, by unfold lc; rw [h]⟩
theorem lcf_0 (L : List Nat) : lcf 0 L = lc L := rfl
theorem hd_app (L M : List Nat) : hd (L ++ M) = if L = [] then hd M else hd L := by
  cases L <;> simp [hd]
theorem kys_app (C : List Int) (L M : List Nat) : kys C (L ++ M) = kys C L ++ kys C M := by simp [kys]
theorem kys_congr {C C' : List Int} {L : List Nat} (h : ∀ i ∈ L, nth C' (ky i) = nth C (ky i)) : kys C' L = kys C L := by
  unfold kys
  exact List.map_congr_left h
/-- A node is put between. -/
theorem add_inv {n d : Nat} {C C0 C' : List Int} {L L1 L2 Fr Fr' : List Nat} {k : Int} (h : CInv n C L Fr) (hL : L = L1 ++ L2) (hd0 : 1 ≤ d ∧ d ≤ n) (hdL : d ∉ L) (hdF : d ∉ Fr') (hsub : ∀ i ∈ Fr', i ∈ Fr)
    (h0 : C0.length = C.length) (hC0 : ∀ q, q ≠ 1 → q ≠ 2 → nth C0 q = nth C q) (hf : nth C0 1 = hd Fr') (hfk : Lk C Fr')
    (hu : ∃ u : Nat, nth C0 2 = u ∧ u ≤ n ∧ (L1 ++ d :: L2 ++ Fr').length = u ∧ (L1 ++ d :: L2 ++ Fr').Nodup ∧ ∀ i ∈ L1 ++ d :: L2 ++ Fr', 1 ≤ i ∧ i ≤ u)
    (hk1 : ∀ i ∈ L1, nth C (ky i) < k) (hk2 : ∀ i ∈ L2, k < nth C (ky i))
    (hC : C' = ((C0.set (ky d) k).set (nx d) (hd L2)).set (lc L1) (d : Int)) :
    CInv n C' (L1 ++ d :: L2) Fr' ∧ kys C' (L1 ++ d :: L2) = kys C L1 ++ k :: kys C L2 := by
  have hlen := h.len
  have hnode := h.node
  have hlcn : lc L1 < C.length := by
    rcases lc_cases L1 with ⟨_, e⟩ | ⟨i, _, hi, e⟩
    · rw [e]; omega
    · have := hnode i (by rw [hL]; simp [hi]); rw [e, hlen]; unfold nx; omega
  have hget : ∀ q, nth C' q = if q = lc L1 then (d : Int) else if q = nx d then hd L2 else if q = ky d then k else nth C0 q := fun q => by
    rw [hC, nth_set (by simp; omega), nth_set (by simp [nx]; omega), nth_set (by simp [ky]; omega)]
  have hev : lc L1 = 0 ∨ ∃ i ∈ L1, lc L1 = nx i := by
    rcases lc_cases L1 with ⟨_, e⟩ | ⟨i, _, hi, e⟩
    · exact Or.inl e
    · exact Or.inr ⟨i, hi, e⟩
  have hlcd : lc L1 ≠ nx d := by
    rcases hev with e | ⟨i, hi, e⟩
    · rw [e]; unfold nx; omega
    · rw [e]
      intro e2
      have e3 : i = d := by unfold nx at e2; omega
      rw [e3] at hi
      exact hdL (by rw [hL]; simp [hi])
  have hlco : ∀ q, q % 2 = 1 → lc L1 ≠ q := fun q hq => by
    rcases hev with e | ⟨i, _, e⟩
    · omega
    · rw [e]; unfold nx; omega
  have hlc2 : lc L1 ≠ 2 := by
    rcases hev with e | ⟨i, hi, e⟩
    · omega
    · have := hnode i (by rw [hL]; simp [hi]); rw [e]; unfold nx; omega
  have hkey : ∀ i ∈ L, nth C' (ky i) = nth C (ky i) := fun i hi => by
    have hi0 := hnode i (by simp [hi])
    have hid : ky i ≠ ky d := fun e => by
      have e3 : i = d := by unfold ky at e; omega
      rw [e3] at hi
      exact hdL hi
    rw [hget, if_neg (fun e => hlco (ky i) (by unfold ky; omega) e.symm), if_neg (by unfold ky nx; omega), if_neg hid, hC0 _ (by unfold ky; omega) (by unfold ky; omega)]
  have hkd : nth C' (ky d) = k := by rw [hget, if_neg (fun e => hlco (ky d) (by unfold ky; omega) e.symm), if_neg (by unfold ky nx; omega), if_pos rfl]
  have hnx : ∀ i, i ≠ d → 1 ≤ i → nx i ≠ lc L1 → nth C' (nx i) = nth C (nx i) := fun i hi h1 h2 => by
    rw [hget, if_neg h2, if_neg (by unfold nx; omega), if_neg (by unfold ky nx; omega), hC0 _ (by unfold nx; omega) (by unfold nx; omega)]
  have hnd : (L ++ Fr).Nodup := by obtain ⟨_, _, _, _, h5, _⟩ := h.used; exact h5
  have hndL : (L1 ++ L2).Nodup := by rw [← hL]; exact (List.nodup_append.1 hnd).1
  have hndp := List.nodup_append.1 hndL
  have hks : kys C' (L1 ++ d :: L2) = kys C L1 ++ k :: kys C L2 := by
    rw [kys_app, kys_congr (fun i hi => hkey i (by rw [hL]; simp [hi]))]
    congr 1
    show nth C' (ky d) :: kys C' L2 = k :: kys C L2
    rw [hkd, kys_congr (fun i hi => hkey i (by rw [hL]; simp [hi]))]
  refine ⟨⟨by rw [hC]; simp only [List.length_set]; omega, ?_, ?_, ?_, ?_, ?_, ?_⟩, hks⟩
  · rw [hd_app]
    rcases lc_cases L1 with ⟨e1, e⟩ | ⟨i, hi, hi2, e⟩
    · rw [if_pos e1, hget, if_pos e.symm]; rfl
    · have hne : L1 ≠ [] := fun e => by rw [e] at hi2; simp at hi2
      rw [if_neg hne, hget, if_neg (by rw [e]; unfold nx; omega), if_neg (by unfold nx; omega), if_neg (by unfold ky; omega), hC0 _ (by omega) (by omega), h.head, hL, hd_app, if_neg hne]
  · rw [hget, if_neg (fun e => hlco 1 rfl e.symm), if_neg (by unfold nx; omega), if_neg (by unfold ky; omega)]
    exact hf
  · refine lk_swap (M := L2) (by rw [← hL]; exact h.lk) (fun i hi => ?_) (fun i hi => ?_) ⟨?_, lk_congr (lk_tail (L1 := L1) (by rw [← hL]; exact h.lk)) (fun i hi => ?_)⟩
    · have hiL : i ∈ L1 := List.dropLast_subset _ hi
      refine hnx i (fun e => hdL (by rw [hL, ← e]; simp [hiL])) (hnode i (by rw [hL]; simp [hiL])).1 ?_
      rcases lc_cases L1 with ⟨e1, e⟩ | ⟨j, hj, hj2, e⟩
      · rw [e]; unfold nx; omega
      · have := dropl_ne hndp.1 hi hj; rw [e]; unfold nx; omega
    · rcases lc_cases L1 with ⟨e1, e⟩ | ⟨j, hj, hj2, e⟩
      · rw [e1] at hi; simp at hi
      · rw [hi] at hj
        have : i = j := by simpa using hj
        rw [hget, if_pos (by rw [e, this])]
        rfl
    · rw [hget, if_neg (fun e => hlcd e.symm), if_pos rfl]
    · refine hnx i (fun e => hdL (by rw [hL, ← e]; simp [hi])) (hnode i (by rw [hL]; simp [hi])).1 ?_
      rcases lc_cases L1 with ⟨e1, e⟩ | ⟨j, hj, hj2, e⟩
      · rw [e]; unfold nx; omega
      · have := hndp.2.2 j hj2 i hi; rw [e]; unfold nx; omega
  · refine lk_congr hfk (fun i hi => ?_)
    have hiF := hsub i hi
    refine hnx i (fun e => hdF (by rw [← e]; exact hi)) (hnode i (by simp [hiF])).1 ?_
    rcases lc_cases L1 with ⟨e1, e⟩ | ⟨j, hj, hj2, e⟩
    · rw [e]; unfold nx; omega
    · have := (List.nodup_append.1 hnd).2.2 j (by rw [hL]; simp [hj2]) i hiF; rw [e]; unfold nx; omega
  · obtain ⟨u, h1, h2, h3, h4, h5⟩ := hu
    exact ⟨u, by rw [hget, if_neg (fun e => hlc2 e.symm), if_neg (by unfold nx; omega), if_neg (by unfold ky; omega)]; exact h1, h2, h3, h4, h5⟩
  · rw [hks]
    have hr := h.rise
    rw [hL, kys_app, List.pairwise_append] at hr
    rw [List.pairwise_append]
    refine ⟨hr.1, List.pairwise_cons.2 ⟨fun x hx => ?_, hr.2.1⟩, fun x hx y hy => ?_⟩
    · obtain ⟨i, hi, rfl⟩ := List.mem_map.1 hx
      exact hk2 i hi
    · obtain ⟨i, hi, rfl⟩ := List.mem_map.1 hx
      rcases List.mem_cons.1 hy with rfl | hy
      · exact hk1 i hi
      · exact hr.2.2 _ hx y hy
/-- A node is taken out. -/
theorem del_inv {n d : Nat} {C C' : List Int} {L L1 l2 Fr : List Nat} (h : CInv n C L Fr) (hL : L = L1 ++ d :: l2) (hC : C' = ((C.set (lc L1) (hd l2)).set (nx d) (hd Fr)).set 1 (d : Int)) :
    CInv n C' (L1 ++ l2) (d :: Fr) ∧ kys C' (L1 ++ l2) = kys C L1 ++ kys C l2 := by
  have hlen := h.len
  have hnode := h.node
  have hdn := hnode d (by rw [hL]; simp)
  have hnd : (L ++ Fr).Nodup := by obtain ⟨_, _, _, _, h5, _⟩ := h.used; exact h5
  have hndL : (L1 ++ d :: l2).Nodup := by rw [← hL]; exact (List.nodup_append.1 hnd).1
  have hndp := List.nodup_append.1 hndL
  have hd2 := List.nodup_cons.1 hndp.2.1
  have hdL1 : d ∉ L1 := fun hc => hndp.2.2 d hc d (by simp) rfl
  have hdF : d ∉ Fr := fun hc => (List.nodup_append.1 hnd).2.2 d (by rw [hL]; simp) d hc rfl
  have hlcn : lc L1 < C.length := by
    rcases lc_cases L1 with ⟨_, e⟩ | ⟨i, _, hi, e⟩
    · rw [e]; omega
    · have := hnode i (by rw [hL]; simp [hi]); rw [e, hlen]; unfold nx; omega
  have hget : ∀ q, nth C' q = if q = 1 then (d : Int) else if q = nx d then hd Fr else if q = lc L1 then hd l2 else nth C q := fun q => by
    rw [hC, nth_set (by simp; omega), nth_set (by simp [nx]; omega), nth_set (by omega)]
  have hev : lc L1 = 0 ∨ ∃ i ∈ L1, lc L1 = nx i := by
    rcases lc_cases L1 with ⟨_, e⟩ | ⟨i, _, hi, e⟩
    · exact Or.inl e
    · exact Or.inr ⟨i, hi, e⟩
  have hlco : ∀ q, q % 2 = 1 → lc L1 ≠ q := fun q hq => by
    rcases hev with e | ⟨i, _, e⟩
    · omega
    · rw [e]; unfold nx; omega
  have hlc2 : lc L1 ≠ 2 := by
    rcases hev with e | ⟨i, hi, e⟩
    · omega
    · have := hnode i (by rw [hL]; simp [hi]); rw [e]; unfold nx; omega
  have hkey : ∀ i ∈ L, nth C' (ky i) = nth C (ky i) := fun i hi => by
    have hi0 := hnode i (by simp [hi])
    rw [hget, if_neg (by unfold ky; omega), if_neg (by unfold ky nx; omega), if_neg (fun e => hlco (ky i) (by unfold ky; omega) e.symm)]
  have hnx : ∀ i, i ≠ d → nx i ≠ lc L1 → nth C' (nx i) = nth C (nx i) := fun i hi h2 => by
    rw [hget, if_neg (by unfold nx; omega), if_neg (by unfold nx; omega), if_neg h2]
  have hks : kys C' (L1 ++ l2) = kys C L1 ++ kys C l2 := by
    rw [kys_app, kys_congr (fun i hi => hkey i (by rw [hL]; simp [hi])), kys_congr (fun i hi => hkey i (by rw [hL]; simp [hi]))]
  refine ⟨⟨by rw [hC]; simp only [List.length_set]; omega, ?_, ?_, ?_, ⟨?_, ?_⟩, ?_, ?_⟩, hks⟩
  · rw [hd_app]
    rcases lc_cases L1 with ⟨e1, e⟩ | ⟨i, hi, hi2, e⟩
    · rw [if_pos e1, hget, if_neg (by omega), if_neg (by unfold nx; omega), if_pos e.symm]
    · have hne : L1 ≠ [] := fun e => by rw [e] at hi2; simp at hi2
      rw [if_neg hne, hget, if_neg (by omega), if_neg (by unfold nx; omega), if_neg (by rw [e]; unfold nx; omega), h.head, hL, hd_app, if_neg hne]
  · rw [hget, if_pos rfl]; rfl
  · refine lk_swap (M := d :: l2) (by rw [← hL]; exact h.lk) (fun i hi => ?_) (fun i hi => ?_) (lk_congr (lk_tail (L1 := L1) (M := d :: l2) (by rw [← hL]; exact h.lk)).2 (fun i hi => ?_))
    · have hiL : i ∈ L1 := List.dropLast_subset _ hi
      refine hnx i (fun e => hdL1 (by rw [← e]; exact hiL)) ?_
      rcases lc_cases L1 with ⟨e1, e⟩ | ⟨j, hj, hj2, e⟩
      · rw [e]; unfold nx; omega
      · have := dropl_ne hndp.1 hi hj; rw [e]; unfold nx; omega
    · rcases lc_cases L1 with ⟨e1, e⟩ | ⟨j, hj, hj2, e⟩
      · rw [e1] at hi; simp at hi
      · rw [hi] at hj
        have hij : i = j := by simpa using hj
        have hid : i ≠ d := fun e2 => hdL1 (by rw [← e2, hij]; exact hj2)
        rw [hget, if_neg (by unfold nx; omega), if_neg (by unfold nx; omega), if_pos (by rw [e, hij])]
    · refine hnx i (fun e => hd2.1 (by rw [← e]; exact hi)) ?_
      rcases lc_cases L1 with ⟨e1, e⟩ | ⟨j, hj, hj2, e⟩
      · rw [e]; unfold nx; omega
      · have := hndp.2.2 j hj2 i (by simp [hi]); rw [e]; unfold nx; omega
  · rw [hget, if_neg (by unfold nx; omega), if_pos rfl]
  · refine lk_congr h.fk (fun i hi => hnx i (fun e => hdF (by rw [← e]; exact hi)) ?_)
    rcases lc_cases L1 with ⟨e1, e⟩ | ⟨j, hj, hj2, e⟩
    · rw [e]; unfold nx; omega
    · have := (List.nodup_append.1 hnd).2.2 j (by rw [hL]; simp [hj2]) i hi; rw [e]; unfold nx; omega
  · obtain ⟨u, h1, h2, h3, h4, h5⟩ := h.used
    have hp : (L1 ++ l2 ++ d :: Fr).Perm (L ++ Fr) := by
      rw [hL, List.append_assoc, List.append_assoc]
      refine List.Perm.append_left L1 ?_
      exact List.perm_middle
    refine ⟨u, by rw [hget, if_neg (by omega), if_neg (by unfold nx; omega), if_neg (fun e => hlc2 e.symm)]; exact h1, h2, by rw [hp.length_eq]; exact h3, hp.nodup_iff.2 h4, fun i hi => h5 i (hp.mem_iff.1 hi)⟩
  · rw [hks]
    have hr := h.rise
    rw [hL, kys_app, List.pairwise_append] at hr
    rw [List.pairwise_append]
    have h2 : (kys C l2).Pairwise (· < ·) := (List.pairwise_cons.1 hr.2.1).2
    exact ⟨hr.1, h2, fun x hx y hy => hr.2.2 x hx y (by show y ∈ nth C (ky d) :: kys C l2; simp [hy])⟩
theorem sx_set {C : List Int} {j : Nat} {v : Int} (h : ∀ x ∈ C, Sx x) (hv : Sx v) : ∀ x ∈ C.set j v, Sx x := fun x hx => by
  rcases List.mem_or_eq_of_mem_set hx with h1 | h1
  · exact h x h1
  · rw [h1]; exact hv
theorem sx_nat {n : Nat} (h : n ≤ 100) : Sx (n : Int) := ⟨by omega, by omega⟩
theorem sx_hd {n : Nat} {L : List Nat} (hn : n ≤ 16) (h : ∀ i ∈ L, 1 ≤ i ∧ i ≤ n) : Sx (hd L) := by
  cases L with
  | nil => exact ⟨by simp [hd], by simp [hd]⟩
  | cons i l => have := h i (by simp); exact sx_nat (by omega)
theorem CInv.after {n : Nat} {C : List Int} {L Fr : List Nat} {k : Int} (h : CInv n C L Fr) (ht : thK k (kys C L) = false) : ∀ i ∈ aft C k L, k < nth C (ky i) := by
  have hr := h.rise
  rw [← fore_aft C k L, kys_app, List.pairwise_append] at hr
  cases ha : aft C k L with
  | nil => intro i hi; simp at hi
  | cons j l =>
    have h1 := aft_head ha
    have h2 : nth C (ky j) ≠ k := by
      unfold thK at ht
      rw [af_kys, ha] at ht
      simpa [kys] using ht
    have hp : (kys C (j :: l)).Pairwise (· < ·) := by rw [← ha]; exact hr.2.1
    intro i hi
    rcases List.mem_cons.1 hi with rfl | hi
    · omega
    · have := (List.pairwise_cons.1 (show (nth C (ky j) :: kys C l).Pairwise (· < ·) from hp)).1 (nth C (ky i)) (List.mem_map.2 ⟨i, hi, rfl⟩)
      omega
/-- Each call over cells that say a chain does what is meant. -/
theorem call_means {n : Nat} {call : Int} {A C : List Int} {L Fr : List Nat} (hn : n ≤ 16) (hr : rightV 0 n call A.length = true) (h : CInv n C L Fr) (hS : ∀ x ∈ C, Sx x) (hA : ∀ x ∈ A, Sx x) :
    ∃ L' Fr', CInv n (runT (firstT 0 n call A) C).1 L' Fr' ∧ (∀ x ∈ (runT (firstT 0 n call A) C).1, Sx x) ∧ meanV n call A (kys C L) = (kys (runT (firstT 0 n call A) C).1 L', (runT (firstT 0 n call A) C).2.1, (runT (firstT 0 n call A) C).2.2) := by
  have hnode := h.node
  have hLn : ∀ i ∈ L, 1 ≤ i ∧ i ≤ n := fun i hi => hnode i (by simp [hi])
  have hmost := h.most
  have hlen := h.len
  have hSn : ∀ i, Sx (nth C i) := nl_w64 hS
  obtain ⟨_, _, _, _, hc⟩ := call_of hr
  have hgo : ∀ (hh : Wy → T) (k : Int), runT (goT 0 n k hh (n : Int).toNat 0) C = runT (hh (wayE C (lc (fore C k L)) (aft C k L))) C := fun hh k => by
    have := run_go (n := n) (C := C) (k := k) (h := hh) L n 0 hmost h.head h.lk hLn
    rw [way_is, lcf_0] at this
    simpa using this
  have hpart := fun k => fore_aft C k L
  rcases hc with ⟨rfl, hA1⟩ | ⟨rfl, hA1⟩ | ⟨rfl, hA1⟩ | ⟨rfl, hA1⟩ | ⟨rfl, hA1⟩ | ⟨rfl, hA1⟩
  · -- add
    obtain ⟨k, hk⟩ : ∃ k, k = nth A 0 := ⟨_, rfl⟩
    have hkS : Sx k := by rw [hk]; exact nl_w64 hA 0
    have e0 : firstT 0 n 1 A = goT 0 n k (addH 0 n k) (n : Int).toNat 0 := by simp [firstT, hk]
    rw [e0, hgo]
    unfold addH
    rw [at_is]
    cases ht : thK k (kys C L) with
    | true =>
      simp only [if_true]
      have e1 : runT (refT 3) C = (C, 0, 3) := by simp [refT, runT, endW]
      rw [e1]
      exact ⟨L, Fr, h, hS, by simp [meanV, ← hk, ht]⟩
    | false =>
      simp only [Bool.false_eq_true, if_false]
      have hlink : (wayE C (lc (fore C k L)) (aft C k L)).link = hd (aft C k L) := by cases aft C k L <;> rfl
      have hcell : (wayE C (lc (fore C k L)) (aft C k L)).cell = ((lc (fore C k L) : Nat) : Int) := by cases aft C k L <;> rfl
      rw [hlink, hcell]
      unfold takeT
      rw [run_read, show (1 : Int).toNat = 1 from rfl, h.free]
      have haft := h.after ht
      have hwr : ∀ (C0 : List Int) (d : Nat), runT (putT 0 (keyV (d : Int)) k (putT 0 (nxtV (d : Int)) (hd (aft C k L)) (putT 0 ((lc (fore C k L) : Nat) : Int) (d : Int) (doneT 0)))) C0 = (((C0.set (ky d) k).set (nx d) (hd (aft C k L))).set (lc (fore C k L)) (d : Int), 0, 0) := fun C0 d => by
        rw [run_put, run_put, run_put, key_nat, nxt_nat, Int.toNat_natCast]
        simp [doneT, runT, endW]
      obtain ⟨u, hu1, hu2, hu3, hu4, hu5⟩ := h.used
      have haS : Sx (hd (aft C k L)) := sx_hd hn (fun i hi => hLn i ((mem_part (C := C) (k := k) i).2 (Or.inr hi)))
      cases hF : Fr with
      | nil =>
        rw [show hd ([] : List Nat) = 0 from rfl, lead_0, if_pos rfl]
        unfold unT
        rw [run_read, show (2 : Int).toNat = 2 from rfl, hu1]
        rw [hF] at hu3 hu4 hu5
        simp only [List.append_nil] at hu3 hu4 hu5
        by_cases hfull : (u : Int) < 0 ∨ (n : Int) ≤ u
        · rw [if_pos hfull]
          have e1 : runT (refT 2) C = (C, 0, 2) := by simp [refT, runT, endW]
          rw [e1]
          refine ⟨L, [], by rw [← hF]; exact h, hS, ?_⟩
          have : n ≤ (kys C L).length := by simp [kys]; omega
          simp [meanV, ← hk, ht, this]
        · rw [if_neg hfull, run_put, show (2 : Int).toNat = 2 from rfl]
          have e2 : (u : Int) + 1 = ((u + 1 : Nat) : Int) := by omega
          rw [e2, hwr]
          have hnL : u + 1 ∉ L := fun hc => by have := hu5 _ hc; omega
          obtain ⟨i1, i2⟩ := add_inv (d := u + 1) (C0 := C.set 2 ((u + 1 : Nat) : Int)) (L1 := fore C k L) (L2 := aft C k L) (Fr' := []) (k := k) h (hpart k).symm (by omega) hnL (by simp) (by simp) (by simp) (fun q h1 h2 => by rw [nth_set (by omega), if_neg h2]) (by rw [nth_set (by omega), if_neg (by omega), h.free, hF]) trivial
            ⟨u + 1, by rw [nth_set (by omega), if_pos rfl], by omega, by
              have := congrArg List.length (hpart k)
              simp only [List.length_append, List.length_cons, List.length_nil] at this ⊢
              omega, by
              have hp : (fore C k L ++ (u + 1) :: aft C k L ++ []).Perm ((u + 1) :: L) := by
                rw [List.append_nil]
                exact List.perm_middle.trans (List.Perm.cons _ (by rw [hpart k]))
              rw [hp.nodup_iff]
              exact List.nodup_cons.2 ⟨hnL, hu4⟩, fun i hi => by
              have hi2 : i = u + 1 ∨ i ∈ L := by
                rw [mem_part (C := C) (k := k) (L := L)]
                simp at hi
                rcases hi with h1 | h1 | h1
                · exact Or.inr (Or.inl h1)
                · exact Or.inl h1
                · exact Or.inr (Or.inr h1)
              rcases hi2 with rfl | h1
              · omega
              · have := hu5 i h1; omega⟩ (fore_all C k L) haft rfl
          refine ⟨_, _, i1, ?_, ?_⟩
          · exact sx_set (sx_set (sx_set (sx_set hS (sx_nat (by omega))) hkS) haS) (sx_nat (by omega))
          · have hlt : ¬ n ≤ (kys C L).length := by simp [kys]; omega
            rw [i2]
            simp [meanV, ← hk, ht, hlt, fo_kys, af_kys]
      | cons d fr =>
        have hdn := hnode d (by simp [hF])
        rw [show hd (d :: fr) = (d : Int) from rfl, lead_node hdn, if_neg (by omega), run_read, nxt_nat, run_put, show (1 : Int).toNat = 1 from rfl, hwr]
        have hfk := h.fk
        rw [hF] at hfk hu3 hu4 hu5
        have hpq := List.nodup_append.1 hu4
        have hdL : d ∉ L := fun hc => hpq.2.2 d hc d (by simp) rfl
        have hdf := List.nodup_cons.1 hpq.2.1
        have hp : (fore C k L ++ d :: aft C k L ++ fr).Perm (L ++ d :: fr) := by
          rw [List.append_assoc, List.cons_append]
          refine List.perm_middle.trans ?_
          refine List.Perm.trans ?_ List.perm_middle.symm
          refine List.Perm.cons _ ?_
          rw [← List.append_assoc, hpart k]
        obtain ⟨i1, i2⟩ := add_inv (d := d) (C0 := C.set 1 (nth C (nx d))) (L1 := fore C k L) (L2 := aft C k L) (Fr' := fr) (k := k) h (hpart k).symm hdn hdL hdf.1 (fun i hi => by rw [hF]; simp [hi]) (by simp) (fun q h1 h2 => by rw [nth_set (by omega), if_neg h1]) (by rw [nth_set (by omega), if_pos rfl]; exact hfk.1) hfk.2
          ⟨u, by rw [nth_set (by omega), if_neg (by omega)]; exact hu1, hu2, by rw [hp.length_eq]; exact hu3, hp.nodup_iff.2 hu4, fun i hi => hu5 i (hp.mem_iff.1 hi)⟩ (fore_all C k L) haft rfl
        refine ⟨_, _, i1, ?_, ?_⟩
        · exact sx_set (sx_set (sx_set (sx_set hS (hSn _)) hkS) haS) (sx_nat (by omega))
        · have hlt : ¬ n ≤ (kys C L).length := by
            have := hu3
            simp only [List.length_append, List.length_cons] at this
            simp [kys]; omega
          rw [i2]
          simp [meanV, ← hk, ht, hlt, fo_kys, af_kys]
  · -- del
    obtain ⟨k, hk⟩ : ∃ k, k = nth A 0 := ⟨_, rfl⟩
    have e0 : firstT 0 n 4 A = goT 0 n k (delH 0 k) (n : Int).toNat 0 := by simp [firstT, hk]
    rw [e0, hgo]
    unfold delH
    rw [at_is]
    cases ht : thK k (kys C L) with
    | false =>
      simp only [Bool.false_eq_true, if_false]
      have e1 : runT (refT 1) C = (C, 0, 1) := by simp [refT, runT, endW]
      rw [e1]
      exact ⟨L, Fr, h, hS, by simp [meanV, ← hk, ht]⟩
    | true =>
      simp only [if_true]
      cases ha : aft C k L with
      | nil => unfold thK at ht; rw [af_kys, ha] at ht; simp [kys] at ht
      | cons d l2 =>
        have hLd : L = fore C k L ++ d :: l2 := by rw [← ha]; exact (hpart k).symm
        have hdn := hLn d (by rw [hLd]; simp)
        have hlk : nth C (nx d) = hd l2 := (lk_tail (L1 := fore C k L) (M := d :: l2) (by rw [← hLd]; exact h.lk)).1
        simp only [wayE]
        unfold giveT
        have hlc1 : lc (fore C k L) ≠ 1 := by
          rcases lc_cases (fore C k L) with ⟨_, e⟩ | ⟨i, _, _, e⟩
          · omega
          · rw [e]; unfold nx; omega
        have hlcn : lc (fore C k L) < C.length := by
          rcases lc_cases (fore C k L) with ⟨_, e⟩ | ⟨i, _, hi, e⟩
          · omega
          · have := hLn i ((mem_part (C := C) (k := k) i).2 (Or.inl hi)); rw [e, hlen]; unfold nx; omega
        rw [run_read, nxt_nat, hlk, run_put, Int.toNat_natCast, run_read, show (1 : Int).toNat = 1 from rfl, nth_set hlcn, if_neg (fun e => hlc1 e.symm), h.free, run_put, nxt_nat, run_put, show (1 : Int).toNat = 1 from rfl]
        have e1 : ∀ C : List Int, runT (doneT 0) C = (C, 0, 0) := fun C => by simp [doneT, runT, endW]
        rw [e1]
        obtain ⟨i1, i2⟩ := del_inv h hLd rfl
        refine ⟨_, _, i1, ?_, ?_⟩
        · exact sx_set (sx_set (sx_set hS (sx_hd hn (fun i hi => hLn i (by rw [hLd]; simp [hi])))) (sx_hd hn (fun i hi => hnode i (by simp [hi])))) (sx_nat (by omega))
        · rw [i2]
          simp [meanV, ← hk, ht, fo_kys, af_kys, ha]
          rfl
  · -- has
    obtain ⟨k, hk⟩ : ∃ k, k = nth A 0 := ⟨_, rfl⟩
    have e0 : firstT 0 n 6 A = goT 0 n k (hasH k) (n : Int).toNat 0 := by simp [firstT, hk]
    rw [e0, hgo]
    unfold hasH
    rw [at_is]
    have e1 : ∀ v, runT (doneT v) C = (C, v, 0) := fun v => by simp [doneT, runT, endW]
    cases ht : thK k (kys C L) with
    | true => simp only [if_true]; rw [e1]; exact ⟨L, Fr, h, hS, by simp [meanV, ← hk, ht]⟩
    | false => simp only [Bool.false_eq_true, if_false]; rw [e1]; exact ⟨L, Fr, h, hS, by simp [meanV, ← hk, ht]⟩
  · -- next
    obtain ⟨k, hk⟩ : ∃ k, k = nth A 0 := ⟨_, rfl⟩
    have e0 : firstT 0 n 8 A = goT 0 n k (nextH 0 n k) (n : Int).toNat 0 := by simp [firstT, hk]
    rw [e0, hgo]
    unfold nextH
    rw [at_is]
    have e1 : ∀ v, runT (doneT v) C = (C, v, 0) := fun v => by simp [doneT, runT, endW]
    cases ha : aft C k L with
    | nil =>
      have ht : thK k (kys C L) = false := by unfold thK; rw [af_kys, ha]; rfl
      have e2 : runT (refT 1) C = (C, 0, 1) := by simp [refT, runT, endW]
      simp only [wayE, Bool.false_eq_true, if_false]
      rw [e2]
      refine ⟨L, Fr, h, hS, ?_⟩
      have e3 : afK k (kys C L) = [] := by rw [af_kys, ha]; rfl
      simp [meanV, ← hk, ht, e3, firK]
    | cons d l2 =>
      have hLd : L = fore C k L ++ d :: l2 := by rw [← ha]; exact (hpart k).symm
      have hlk : nth C (nx d) = hd l2 := (lk_tail (L1 := fore C k L) (M := d :: l2) (by rw [← hLd]; exact h.lk)).1
      have e3 : afK k (kys C L) = nth C (ky d) :: kys C l2 := by rw [af_kys, ha]; rfl
      simp only [wayE, if_true]
      cases ht : thK k (kys C L) with
      | false =>
        simp only [Bool.false_eq_true, if_false]
        rw [e1]
        exact ⟨L, Fr, h, hS, by simp [meanV, ← hk, ht, e3, firK]⟩
      | true =>
        simp only [if_true]
        rw [run_read, nxt_nat, hlk, run_kb l2 (fun i hi => hLn i (by rw [hLd]; simp [hi]))]
        cases l2 with
        | nil =>
          have e4 : kys C ([] : List Nat) = [] := rfl
          exact ⟨L, Fr, h, hS, by simp [meanV, ← hk, ht, e3, firK, e4]⟩
        | cons j l =>
          have e4 : kys C (j :: l) = nth C (ky j) :: kys C l := rfl
          exact ⟨L, Fr, h, hS, by simp [meanV, ← hk, ht, e3, firK, e4]⟩
  · -- least
    have e0 : firstT 0 n 7 A = readT 0 0 (kbT 0 n) := by simp [firstT]
    rw [e0, run_read, show (0 : Int).toNat = 0 from rfl, h.head, run_kb L hLn]
    cases L with
    | nil => exact ⟨[], Fr, h, hS, by simp [meanV, firK, kys]⟩
    | cons i l => exact ⟨i :: l, Fr, h, hS, by simp [meanV, firK, kys]⟩
  · -- len
    have e0 : firstT 0 n 5 A = cntT 0 n (n : Int).toNat 0 0 := by simp [firstT]
    have := run_cnt (n := n) (C := C) L n 0 0 hmost h.head h.lk hLn
    rw [e0]
    have e1 : runT (cntT 0 n (n : Int).toNat 0 0) C = (C, 0 + (L.length : Int), 0) := by simpa using this
    rw [e1]
    exact ⟨L, Fr, h, hS, by simp [meanV, kys]⟩
end Go.Proofs.Ytaffkcliepfcmaa.Ch
