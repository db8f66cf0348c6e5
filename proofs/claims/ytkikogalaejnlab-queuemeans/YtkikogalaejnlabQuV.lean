/- A queue over cells, as numbers: what each call does to the cells, and what they say then. -/
import Derived.Test.YtkikogalaejnlabQuD
import Derived.Test.YtkikogalaejnlabQuH
namespace Go.Proofs.Ytkikogalaejnlab.Qu
open Go.ChangeShapes Go.WideShapes Go.ChangeAt Go.RowKit

theorem run_read {base : Int} {n : Nat} {m : Mc} {C : List Int} {v : Int} (c : Nat) (ht : tellM m v = readW (c : Int)) (hb : base ≤ c) (hc : c < C.length) : runM base (n + 1) m C v = runM base n (goM m v) C (nth C c) := by
  rw [runM, ht, if_neg (by simp [readW]), if_neg (by simp only [readW]; omega), if_pos (show (readW (c : Int)).kind = 2 from rfl)]
  simp [readW]
theorem run_put {base : Int} {n : Nat} {m : Mc} {C : List Int} {v z : Int} (c : Nat) (ht : tellM m v = putW (c : Int) z) (hb : base ≤ c) (hc : c < C.length) : runM base (n + 1) m C v = runM base n (goM m v) (C.set c z) 0 := by
  rw [runM, ht, if_neg (by simp [putW]), if_neg (by simp only [putW]; omega), if_neg (by simp [putW])]
  simp [putW]
theorem run_end {base : Int} {n : Nat} {m : Mc} {C : List Int} {v z c : Int} (ht : tellM m v = endW z c) : runM base (n + 1) m C v = (C, (endW z c).val, c, true) := by
  rw [runM, ht, if_pos (show (endW z c).kind = 6 from rfl)]
  rfl
/-- Each call begins with the same two reads. -/
theorem run_two {m c : Int} {A C : List Int} (h2 : 2 ≤ C.length) : runM 0 6 (mkM 0 m c A) C 0 = runM 0 4 ⟨0, m, c, 2, readW 1, nth C 0, 0, if c = 3 then nth A 0 else 0⟩ C (nth C 1) := by
  rw [run_read 0 (by simp [tellM, mkM, wn0, wantT, noteM, readW]) (by simp) (by omega)]
  have e1 : goM (mkM 0 m c A) 0 = ⟨0, m, c, 1, readW 0, 0, 0, if c = 3 then nth A 0 else 0⟩ := by simp [goM, mkM, wn0, noteM, wantT]
  rw [e1, run_read 1 (by simp [tellM, wantT, noteM, readW]) (by simp) (by omega)]
  have e2 : goM ⟨0, m, c, 1, readW 0, 0, 0, if c = 3 then nth A 0 else 0⟩ (nth C 0) = ⟨0, m, c, 2, readW 1, nth C 0, 0, if c = 3 then nth A 0 else 0⟩ := by simp [goM, noteM, wantT, readW]
  rw [e2]
theorem run_len {m : Int} {A C : List Int} (h2 : 2 ≤ C.length) : runM 0 6 (mkM 0 m 5 A) C 0 = (C, nth C 1, 0, true) := by
  rw [run_two h2, run_end (z := nth C 1) (c := 0) (by simp [tellM, readW, noteM, wantT])]
  rfl
theorem run_full {m : Int} {A C : List Int} (h2 : 2 ≤ C.length) (hf : ¬ uW (nth C 1) < uW m) : runM 0 6 (mkM 0 m 3 A) C 0 = (C, 0, 2, true) := by
  rw [run_two h2, run_end (z := 0) (c := 2) (by simp [tellM, readW, noteM, wantT, putT, hf])]
  rfl
theorem run_none {m : Int} {A C : List Int} (h2 : 2 ≤ C.length) (hf : nth C 1 = 0) : runM 0 6 (mkM 0 m 2 A) C 0 = (C, 0, 1, true) := by
  rw [run_two h2, run_end (z := 0) (c := 1) (by simp [tellM, readW, noteM, wantT, getT, hf])]
  rfl
theorem run_add {m : Int} {A C : List Int} {s : Nat} (h2 : 2 ≤ C.length) (hf : uW (nth C 1) < uW m) (hs : behV (nth C 0) (nth C 1) m = (s : Int)) (hsC : 2 + s < C.length) : runM 0 6 (mkM 0 m 3 A) C 0 = ((C.set (2 + s) (nth A 0)).set 1 (wrap64 (nth C 1 + 1)), 0, 0, true) := by
  rw [run_two h2]
  generalize nth C 0 = f at *
  generalize nth C 1 = l at *
  rw [run_put (2 + s) (z := nth A 0) (by simp [tellM, readW, noteM, wantT, putT, hf, hs]) (by omega) hsC]
  have e1 : goM ⟨0, m, 3, 2, readW 1, f, 0, if (3 : Int) = 3 then nth A 0 else 0⟩ l = ⟨0, m, 3, 3, putW (2 + s) (nth A 0), f, l, nth A 0⟩ := by simp [goM, noteM, wantT, putT, readW, hf, hs]
  rw [e1, run_put 1 (z := wrap64 (l + 1)) (by simp [tellM, putW, noteM, wantT, putT, hf]) (by omega) (by rw [List.length_set]; omega)]
  have e2 : goM ⟨0, m, 3, 3, putW (2 + s) (nth A 0), f, l, nth A 0⟩ 0 = ⟨0, m, 3, 4, putW 1 (wrap64 (l + 1)), f, l, nth A 0⟩ := by simp [goM, noteM, wantT, putT, putW, hf]
  rw [e2, run_end (z := 0) (c := 0) (by simp [tellM, putW, noteM, wantT, putT, hf])]
  rfl
theorem run_get {m : Int} {A C : List Int} {s : Nat} (h2 : 2 ≤ C.length) (hf : ¬ (nth C 1 = 0 ∨ m = 0)) (hs : behV (nth C 0) 0 m = (s : Int)) (hsC : 2 + s < C.length) : runM 0 6 (mkM 0 m 2 A) C 0 = ((C.set 0 (behV (nth C 0) 1 m)).set 1 (wrap64 (nth C 1 - 1)), nth C (2 + s), 0, true) := by
  rw [run_two h2]
  generalize nth C 0 = f at *
  generalize nth C 1 = l at *
  rw [run_read (2 + s) (by simp [tellM, readW, noteM, wantT, getT, hf, hs]) (by omega) hsC]
  have e1 : goM ⟨0, m, 2, 2, readW 1, f, 0, if (2 : Int) = 3 then nth A 0 else 0⟩ l = ⟨0, m, 2, 3, readW (2 + s), f, l, 0⟩ := by simp [goM, noteM, wantT, getT, readW, hf, hs]
  rw [e1, run_put 0 (z := behV f 1 m) (by simp [tellM, readW, noteM, wantT, getT, hf]) (by omega) (by omega)]
  have e2 : goM ⟨0, m, 2, 3, readW (2 + s), f, l, 0⟩ (nth C (2 + s)) = ⟨0, m, 2, 4, putW 0 (behV f 1 m), f, l, nth C (2 + s)⟩ := by simp [goM, noteM, wantT, getT, readW, hf]
  rw [e2, run_put 1 (z := wrap64 (l - 1)) (by simp [tellM, putW, noteM, wantT, getT, hf]) (by omega) (by rw [List.length_set]; omega)]
  have e3 : goM ⟨0, m, 2, 4, putW 0 (behV f 1 m), f, l, nth C (2 + s)⟩ 0 = ⟨0, m, 2, 5, putW 1 (wrap64 (l - 1)), f, l, nth C (2 + s)⟩ := by simp [goM, noteM, wantT, getT, putW, hf]
  rw [e3, run_end (z := nth C (2 + s)) (c := 0) (by simp [tellM, putW, noteM, wantT, getT, hf])]
  rfl
/-- The cells say that row. -/
structure MInv (m : Nat) (C W : List Int) : Prop where
  m16 : m ≤ 16
  lc : C.length = m + 2
  l0 : nth C 1 = (W.length : Int)
  lm : W.length ≤ m
  f0 : 0 ≤ nth C 0
  fm : nth C 0 = 0 ∨ nth C 0 < m
  row : ∀ k, k < W.length → nth W k = nth C (2 + ((nth C 0).toNat + k) % m)
  cw : ∀ x ∈ C, Sx x
  ww : ∀ x ∈ W, Sx x
theorem beh_small {f k m : Nat} (hf : f ≤ 16) (hk : k ≤ 16) : behV (f : Int) (k : Int) (m : Int) = (((f + k) % m : Nat) : Int) := by
  unfold behV uW
  rw [Int.emod_eq_of_lt (a := (f : Int)) (by omega) (by omega), Int.emod_eq_of_lt (a := (k : Int)) (by omega) (by omega), ← Int.add_emod, Int.natCast_emod, Int.natCast_add]
theorem MInv.of {m : Nat} {C : List Int} (hm : m ≤ 16) (ho : okS (m : Int) C = true) (hr : rgS (m : Int) C = true) (hw : ∀ x ∈ C, Sx x) : MInv m C (rowS (m : Int) C) := by
  obtain ⟨h1, _, _⟩ := okS_len ho
  simp only [rgS, firS, Bool.and_eq_true, Bool.or_eq_true, decide_eq_true_eq] at hr
  obtain ⟨⟨h2, h3⟩, h4⟩ := hr
  have h5 : 0 ≤ nth C 0 := by omega
  refine ⟨hm, by omega, by rw [row_len]; omega, by rw [row_len]; omega, h5, by omega, fun k hk => ?_, hw, fun x hx => ?_⟩
  · rw [row_len] at hk
    rw [row_at _ _ k hk]
    obtain ⟨f, hf⟩ := Int.eq_ofNat_of_zero_le h5
    rw [hf, beh_small (by omega) (by omega), Int.toNat_natCast, Int.toNat_natCast]
  · simp only [rowS, List.mem_map] at hx
    obtain ⟨k, _, rfl⟩ := hx
    exact nl_w64 hw _
theorem MInv.says {m : Nat} {C W : List Int} (h : MInv m C W) : okS (m : Int) C = true ∧ rgS (m : Int) C = true ∧ rowS (m : Int) C = W := by
  have h1 := h.lc
  have h2 := h.l0
  have h3 := h.lm
  have h4 := h.f0
  have h5 := h.fm
  have h6 := h.m16
  refine ⟨?_, ?_, ?_⟩
  · unfold okS sizeV
    rw [if_pos (by omega)]
    simp only [Bool.and_eq_true, decide_eq_true_eq]
    omega
  · simp only [rgS, firS, Bool.and_eq_true, Bool.or_eq_true, decide_eq_true_eq]
    omega
  · apply same_eq
    · rw [row_len]; omega
    · intro k hk
      rw [row_len] at hk
      rw [row_at _ _ k hk, h.row k (by omega)]
      obtain ⟨f, hf⟩ := Int.eq_ofNat_of_zero_le h4
      rw [hf, beh_small (by omega) (by omega), Int.toNat_natCast, Int.toNat_natCast]
theorem mod_ne {f k l m : Nat} (hkl : k < l) (hl : l < m) : (f + k) % m ≠ (f + l) % m := by
  intro e
  have h1 : (f + l) % m = ((f + k) % m + (l - k)) % m := by
    rw [Nat.mod_add_mod]
    congr 1
    omega
  have hm : 0 < m := by omega
  have h2 := Nat.mod_lt (f + k) hm
  rw [← e] at h1
  generalize (f + k) % m = x at *
  by_cases h3 : x + (l - k) < m
  · rw [Nat.mod_eq_of_lt h3] at h1; omega
  · have : (x + (l - k)) % m = x + (l - k) - m := by
      rw [Nat.mod_eq_sub_mod (by omega), Nat.mod_eq_of_lt (by omega)]
    omega
theorem sx_set {C : List Int} {j : Nat} {z : Int} (h : ∀ x ∈ C, Sx x) (hz : Sx z) : ∀ x ∈ C.set j z, Sx x := fun x hx => by
  rcases List.mem_or_eq_of_mem_set hx with h1 | rfl
  · exact h x h1
  · exact hz
theorem sx_small {z : Int} (h : 0 ≤ z ∧ z ≤ 100) : Sx z := by unfold Sx; omega
theorem wr_small {z : Int} (h : -100 ≤ z ∧ z ≤ 100) : wrap64 z = z := by unfold wrap64; omega
/-- A put that isn't full. -/
theorem MInv.put {m : Nat} {C W A : List Int} (h : MInv m C W) (hA : ∀ x ∈ A, Sx x) (hl : W.length < m) : ∃ C', runM 0 6 (mkM 0 (m : Int) 3 A) C 0 = (C', 0, 0, true) ∧ MInv m C' (W ++ [nth A 0]) := by
  have h1 := h.lc
  have h2 := h.l0
  have h4 := h.f0
  have h5 := h.fm
  have h6 := h.m16
  obtain ⟨f, hf⟩ := Int.eq_ofNat_of_zero_le h4
  have hs : behV (nth C 0) (nth C 1) (m : Int) = (((f + W.length) % m : Nat) : Int) := by
    rw [h2, hf]
    exact beh_small (by omega) (by omega)
  have hm0 : 0 < m := by omega
  have hlt := Nat.mod_lt (f + W.length) hm0
  have hu : uW (nth C 1) < uW (m : Int) := by
    rw [h2, uw_small (by omega), uw_small (by omega)]
    omega
  refine ⟨_, run_add (by omega) hu hs (by omega), ?_⟩
  rw [h2, wr_small (by omega)]
  have n0 : nth ((C.set (2 + (f + W.length) % m) (nth A 0)).set 1 ((W.length : Int) + 1)) 0 = nth C 0 := by
    rw [nth_set _ _ _ _ (by rw [List.length_set]; omega), if_neg (by omega), nth_set _ _ _ _ (by omega), if_neg (by omega)]
  have n1 : nth ((C.set (2 + (f + W.length) % m) (nth A 0)).set 1 ((W.length : Int) + 1)) 1 = (W.length : Int) + 1 := by
    rw [nth_set _ _ _ _ (by rw [List.length_set]; omega), if_pos rfl]
  have n2 : ∀ j, nth ((C.set (2 + (f + W.length) % m) (nth A 0)).set 1 ((W.length : Int) + 1)) (2 + j) = if (f + W.length) % m = j then nth A 0 else nth C (2 + j) := fun j => by
    rw [nth_set _ _ _ _ (by rw [List.length_set]; omega), if_neg (by omega), nth_set _ _ _ _ (by omega)]
    by_cases e : (f + W.length) % m = j
    · rw [if_pos (by omega), if_pos e]
    · rw [if_neg (by omega), if_neg e]
  refine ⟨h6, by rw [List.length_set, List.length_set]; exact h1, by rw [n1]; simp, by simp; omega, by rw [n0]; exact h4, by rw [n0]; exact h5, fun k hk => ?_, sx_set (sx_set h.cw (nl_w64 hA _)) (sx_small (by omega)), fun x hx => ?_⟩
  · rw [n0, n2, hf, Int.toNat_natCast]
    simp at hk
    by_cases e : k = W.length
    · subst e
      rw [if_pos rfl, nth_last]
    · rw [if_neg (fun e' => mod_ne (f := f) (m := m) (show k < W.length by omega) (by omega) e'.symm), nth_snoc _ _ _ (by omega), h.row k (by omega), hf]
      rfl
  · rcases List.mem_append.1 hx with h7 | h7
    · exact h.ww x h7
    · simp at h7
      rw [h7]
      exact nl_w64 hA _
/-- A get of a queue that has one. -/
theorem MInv.get {m : Nat} {C W A : List Int} (h : MInv m C W) (hl : 0 < W.length) : ∃ C', runM 0 6 (mkM 0 (m : Int) 2 A) C 0 = (C', nth W 0, 0, true) ∧ MInv m C' (W.drop 1) := by
  have h1 := h.lc
  have h2 := h.l0
  have h3 := h.lm
  have h4 := h.f0
  have h5 := h.fm
  have h6 := h.m16
  obtain ⟨f, hf⟩ := Int.eq_ofNat_of_zero_le h4
  have hm0 : 0 < m := by omega
  have hs : behV (nth C 0) 0 (m : Int) = (((f + 0) % m : Nat) : Int) := by
    rw [hf]
    exact beh_small (k := 0) (by omega) (by omega)
  have hs1 : behV (nth C 0) 1 (m : Int) = (((f + 1) % m : Nat) : Int) := by
    rw [hf]
    exact beh_small (k := 1) (by omega) (by omega)
  have hlt := Nat.mod_lt (f + 0) hm0
  have hlt1 := Nat.mod_lt (f + 1) hm0
  have hr0 : nth C (2 + (f + 0) % m) = nth W 0 := by rw [h.row 0 hl, hf]; rfl
  refine ⟨(C.set 0 (((f + 1) % m : Nat) : Int)).set 1 ((W.length : Int) - 1), ?_, ?_⟩
  · rw [run_get (s := (f + 0) % m) (by omega) (by omega) hs (by omega), hr0, hs1, h2, wr_small (by omega)]
  have n0 : nth ((C.set 0 (((f + 1) % m : Nat) : Int)).set 1 ((W.length : Int) - 1)) 0 = (((f + 1) % m : Nat) : Int) := by
    rw [nth_set _ _ _ _ (by rw [List.length_set]; omega), if_neg (by omega), nth_set _ _ _ _ (by omega), if_pos rfl]
  have n1 : nth ((C.set 0 (((f + 1) % m : Nat) : Int)).set 1 ((W.length : Int) - 1)) 1 = (W.length : Int) - 1 := by
    rw [nth_set _ _ _ _ (by rw [List.length_set]; omega), if_pos rfl]
  have n2 : ∀ j, nth ((C.set 0 (((f + 1) % m : Nat) : Int)).set 1 ((W.length : Int) - 1)) (2 + j) = nth C (2 + j) := fun j => by
    rw [nth_set _ _ _ _ (by rw [List.length_set]; omega), if_neg (by omega), nth_set _ _ _ _ (by omega), if_neg (by omega)]
  refine ⟨h6, by rw [List.length_set, List.length_set]; exact h1, by rw [n1, List.length_drop]; omega, by rw [List.length_drop]; omega, by rw [n0]; omega, by rw [n0]; omega, fun k hk => ?_, sx_set (sx_set h.cw (sx_small (by omega))) (sx_small (by omega)), fun x hx => h.ww x (List.mem_of_mem_drop hx)⟩
  rw [List.length_drop] at hk
  have e1 : nth (W.drop 1) k = nth W (1 + k) := by simp [nth, Nat.add_comm]
  rw [n0, n2, Int.toNat_natCast, e1, h.row (1 + k) (by omega), hf, Int.toNat_natCast, Nat.mod_add_mod, Nat.add_assoc]
theorem MInv.len {m : Nat} {C W A : List Int} (h : MInv m C W) : runM 0 6 (mkM 0 (m : Int) 5 A) C 0 = (C, (W.length : Int), 0, true) := by
  rw [run_len (by have := h.lc; omega), h.l0]
theorem MInv.full {m : Nat} {C W A : List Int} (h : MInv m C W) (hl : ¬ W.length < m) : runM 0 6 (mkM 0 (m : Int) 3 A) C 0 = (C, 0, 2, true) := by
  have h1 := h.lc
  have h3 := h.lm
  have h6 := h.m16
  refine run_full (by omega) ?_
  rw [h.l0, uw_small (by omega), uw_small (by omega)]
  omega
theorem MInv.none {m : Nat} {C W A : List Int} (h : MInv m C W) (hl : W.length = 0) : runM 0 6 (mkM 0 (m : Int) 2 A) C 0 = (C, 0, 1, true) := by
  have h1 := h.lc
  exact run_none (by omega) (by rw [h.l0, hl]; rfl)
end Go.Proofs.Ytkikogalaejnlab.Qu
