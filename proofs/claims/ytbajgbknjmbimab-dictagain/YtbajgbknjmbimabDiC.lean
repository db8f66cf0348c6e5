/- A dict over cells, as numbers: what each call does to the cells, and what they say then. -/
import Derived.Test.YtbajgbknjmbimabDiD
import Derived.Test.YtbajgbknjmbimabDiV
import Derived.Test.YtbajgbknjmbimabCoB
namespace Go.Proofs.Ytbajgbknjmbimab.Di
open Go.ChangeShapes Go.WideShapes Go.ChangeAt Go.RowKit

/-- A want is done over cells, and the call goes on. -/
def stepR (N : Nat) (m : Mc) (y : Wn) (C : List Int) : List Int × Int × Int × Bool :=
  if y.kind = 6 then (C, y.val, y.code, true)
  else if y.cell < 0 ∨ (C.length : Int) ≤ y.cell then (C, 0, 0, false)
  else if y.kind = 2 then runM 0 N m C (nth C y.cell.toNat)
  else runM 0 N m (C.set y.cell.toNat y.val) 0
theorem run_step (N : Nat) (m : Mc) (C : List Int) (v : Int) : runM 0 (N + 1) m C v = stepR N (goM m v) (tellM m v) C := rfl
def endM (a : Mc × Wn) : Mc := { a.1 with last := a.2 }
theorem put_last (b n c : Int) (s : Se) (t : Int) (l l' : Wn) (val k v : Int) : endM (putS ⟨b, n, c, s, t, l, val, k⟩ v) = endM (putS ⟨b, n, c, s, t, l', val, k⟩ v) ∧ (putS ⟨b, n, c, s, t, l, val, k⟩ v).2 = (putS ⟨b, n, c, s, t, l', val, k⟩ v).2 := by
  unfold putS endM chgT
  simp only
  split
  · split
    · simp
    · split
      · split <;> simp
      · split
        · simp
        · split
          · simp
          · split <;> simp
  · simp
theorem after_last (b n c : Int) (s : Se) (t : Int) (l l' : Wn) (val k v : Int) : endM (afterM ⟨b, n, c, s, t, l, val, k⟩ v) = endM (afterM ⟨b, n, c, s, t, l', val, k⟩ v) ∧ (afterM ⟨b, n, c, s, t, l, val, k⟩ v).2 = (afterM ⟨b, n, c, s, t, l', val, k⟩ v).2 := by
  unfold afterM
  simp only
  split
  · exact ⟨rfl, rfl⟩
  · split
    · exact put_last b n c s t l l' val k v
    · split <;> exact ⟨rfl, rfl⟩
theorem lo_in {s : Se} {C : List Int} {n : Int} (h : Lo s) (hm : s.most = n) (hC : (C.length : Int) = 3 * n + 1) : 0 ≤ cellS s ∧ cellS s < (C.length : Int) := by
  have h1 := h.ok.ls h.l
  have h2 := h.ok.st
  unfold cellS
  split <;> omega
theorem ask_key (s : Se) : (askS s).1.key = s.key ∧ (askS s).1.most = s.most := by unfold askS; split <;> exact ⟨rfl, rfl⟩
theorem go_key (s : Se) (v : Int) : (goS s v).1.key = s.key ∧ (goS s v).1.most = s.most := by
  obtain ⟨f1, f2, _⟩ := free_keeps s
  unfold goS
  split
  · split
    · exact ⟨rfl, rfl⟩
    · split
      · split
        · exact ⟨rfl, rfl⟩
        · split
          · exact ⟨f1, f2⟩
          · obtain ⟨h1, h2⟩ := ask_key (walkS (freeS s))
            rw [h1, h2]
            exact ⟨f1, f2⟩
      · split
        · exact ⟨rfl, rfl⟩
        · exact ask_key (walkS s)
  · exact ⟨rfl, rfl⟩
/-- One step of the look. -/
theorem look_one {n c : Int} {s : Se} {lst : Wn} {val v : Int} (hl : lst.kind ≠ 6) :
    ((goS s v).2.2 = true → tellM ⟨0, n, c, s, 0, lst, val, 0⟩ v = readW (0 + (goS s v).2.1) ∧ goM ⟨0, n, c, s, 0, lst, val, 0⟩ v = ⟨0, n, c, (goS s v).1, 0, readW (0 + (goS s v).2.1), val, 0⟩) ∧
    ((goS s v).2.2 = false → tellM ⟨0, n, c, s, 0, lst, val, 0⟩ v = (afterM ⟨0, n, c, (goS s v).1, 1, wn0, val, 0⟩ v).2 ∧ goM ⟨0, n, c, s, 0, lst, val, 0⟩ v = endM (afterM ⟨0, n, c, (goS s v).1, 1, wn0, val, 0⟩ v)) := by
  unfold tellM goM stepM
  simp only
  rw [if_neg hl, if_neg hl]
  constructor
  · intro hg
    rw [if_pos hg]
    exact ⟨rfl, rfl⟩
  · intro hg
    rw [if_neg (by rw [hg]; decide)]
    obtain ⟨h1, h2⟩ := after_last 0 n c (goS s v).1 (0 + 1) lst wn0 val 0 v
    exact ⟨h2, h1⟩
theorem look_run {n c : Int} {C : List Int} {val : Int} (hC : (C.length : Int) = 3 * n + 1) : ∀ (g : Nat) {s : Se} {lst : Wn} (_ : lst.kind ≠ 6) (_ : Lo s) (_ : s.most = n) (_ : (2 * s.left - s.asked).toNat ≤ g) (v : Int) (_ : v = nth C (cellS s).toNat),
    ∃ (s' : Se) (v' : Int) (j : Nat), j ≤ g ∧ (s'.found, s'.free) = comes C s ∧ s'.left = 0 ∧ s'.key = s.key ∧ ∀ N, runM 0 (N + j + 1) ⟨0, n, c, s, 0, lst, val, 0⟩ C v = stepR N (endM (afterM ⟨0, n, c, s', 1, wn0, val, 0⟩ v')) (afterM ⟨0, n, c, s', 1, wn0, val, 0⟩ v').2 C := by
  intro g
  induction g with
  | zero =>
    intro s lst hl lo hm hg v hv
    obtain ⟨t1, t2⟩ := look_one (n := n) (c := c) (s := s) (val := val) (v := v) hl
    obtain ⟨e1, e2, e3⟩ := lo_step (C := C) lo v hv
    cases hmo : (goS s v).2.2 with
    | true =>
      have h1 := lo_less lo v hmo
      have h2 := (e2 hmo).1
      have := h2.l
      have := h2.a
      omega
    | false =>
      obtain ⟨t3, t4⟩ := t2 hmo
      have h0 := e3 hmo
      refine ⟨(goS s v).1, v, 0, Nat.le_refl _, ?_, h0, (go_key s v).1, fun N => ?_⟩
      · rw [← e1]; unfold comes; rw [if_neg (by omega)]
      · rw [Nat.add_zero, run_step, t3, t4]
  | succ g ih =>
    intro s lst hl lo hm hg v hv
    obtain ⟨t1, t2⟩ := look_one (n := n) (c := c) (s := s) (val := val) (v := v) hl
    obtain ⟨e1, e2, e3⟩ := lo_step (C := C) lo v hv
    cases hmo : (goS s v).2.2 with
    | true =>
      obtain ⟨t3, t4⟩ := t1 hmo
      obtain ⟨lo', hc'⟩ := e2 hmo
      have hm' : (goS s v).1.most = n := by rw [(go_key s v).2]; exact hm
      have hin := lo_in lo' hm' hC
      have hless := lo_less lo v hmo
      have hl1 := lo'.l
      have hl2 := lo'.a
      obtain ⟨s', v', j, h1, h2, h3, h4, h5⟩ := ih (s := (goS s v).1) (lst := readW (0 + (goS s v).2.1)) (by simp [readW]) lo' hm' (by omega) (nth C (cellS (goS s v).1).toNat) rfl
      refine ⟨s', v', j + 1, by omega, by rw [h2, e1], h3, by rw [h4, (go_key s v).1], fun N => ?_⟩
      rw [show N + (j + 1) + 1 = (N + j + 1) + 1 by omega, run_step, t3, t4, hc', ← h5 N, ← hc']
      unfold stepR
      rw [if_neg (by simp [readW]), hc', if_neg (by simp only [readW]; omega), if_pos (show (readW _).kind = 2 from rfl)]
      simp [readW]
    | false =>
      obtain ⟨t3, t4⟩ := t2 hmo
      have h0 := e3 hmo
      refine ⟨(goS s v).1, v, 0, Nat.zero_le _, ?_, h0, (go_key s v).1, fun N => ?_⟩
      · rw [← e1]; unfold comes; rw [if_neg (by omega)]
      · rw [Nat.add_zero, run_step, t3, t4]
/-- A call with a key: its look, and what follows. -/
theorem run_start {n c : Int} {A C : List Int} (hn : 0 ≤ n ∧ n ≤ 16) (hC : (C.length : Int) = 3 * n + 1) (hc : c ≠ 5) :
    ∃ (s' : Se) (v' : Int) (N : Nat), 5 ≤ N ∧ (s'.found, s'.free) = lookV C (nth A 0) n ∧ s'.left = 0 ∧ s'.key = nth A 0 ∧ runM 0 (mostW n + 1) (mkM 0 n c A) C 0 = stepR N (endM (afterM ⟨0, n, c, s', 1, wn0, if c = 3 then nth A 1 else 0, 0⟩ v')) (afterM ⟨0, n, c, s', 1, wn0, if c = 3 then nth A 1 else 0, 0⟩ v').2 C := by
  have em : mkM 0 n c A = ⟨0, n, c, mkS (nth A 0) n, 0, wn0, if c = 3 then nth A 1 else 0, 0⟩ := by unfold mkM; rw [if_neg hc]
  rw [em]
  generalize (if c = 3 then nth A 1 else 0) = val
  obtain ⟨t1, t2⟩ := look_one (n := n) (c := c) (s := mkS (nth A 0) n) (lst := wn0) (val := val) (v := 0) (by decide)
  obtain ⟨e1, e2, e3⟩ := lo_first (C := C) (key := nth A 0) hn 0
  cases hmo : (goS (mkS (nth A 0) n) 0).2.2 with
  | true =>
    obtain ⟨t3, t4⟩ := t1 hmo
    obtain ⟨lo', hc'⟩ := e2 hmo
    have hm' : (goS (mkS (nth A 0) n) 0).1.most = n := (go_key _ _).2
    have hin := lo_in lo' hm' hC
    have hg : goS (mkS (nth A 0) n) 0 = ({ mkS (nth A 0) n with asked := 1 }, 1 + 3 * (mkS (nth A 0) n).slot, true) := by
      unfold goS at hmo ⊢
      by_cases h0 : 0 < (mkS (nth A 0) n).left
      · rw [if_pos h0, if_pos (show (mkS (nth A 0) n).asked = 0 from rfl)]
      · rw [if_neg h0] at hmo; simp at hmo
    have hn0 : 0 < n := by have h1 := lo'.ok.ls lo'.l; have h2 := lo'.ok.st; omega
    have hl : (2 * (goS (mkS (nth A 0) n) 0).1.left - (goS (mkS (nth A 0) n) 0).1.asked).toNat ≤ (2 * n - 1).toNat := by
      rw [hg]
      simp only [mkS]
      omega
    obtain ⟨s', v', j, h1, h2, h3, h4, h5⟩ := look_run (c := c) (val := val) hC (2 * n - 1).toNat (s := (goS (mkS (nth A 0) n) 0).1) (lst := readW (0 + (goS (mkS (nth A 0) n) 0).2.1)) (by simp [readW]) lo' hm' hl (nth C (cellS (goS (mkS (nth A 0) n) 0).1).toNat) rfl
    refine ⟨s', v', (2 * n).toNat + 4 - j, by omega, by rw [h2, e1], h3, by rw [h4, (go_key _ _).1]; rfl, ?_⟩
    have hK : mostW n + 1 = (((2 * n).toNat + 4 - j) + j + 1) + 1 := by unfold mostW; omega
    rw [hK, run_step, t3, t4, hc', ← h5 ((2 * n).toNat + 4 - j), ← hc']
    unfold stepR
    rw [if_neg (by simp [readW]), hc', if_neg (by simp only [readW]; omega), if_pos (show (readW _).kind = 2 from rfl)]
    simp [readW]
  | false =>
    obtain ⟨t3, t4⟩ := t2 hmo
    have h0 := e3 hmo
    refine ⟨(goS (mkS (nth A 0) n) 0).1, 0, mostW n, by unfold mostW; omega, ?_, h0, (go_key _ _).1, ?_⟩
    · rw [← e1]; unfold comes; rw [if_neg (by omega)]
    · rw [run_step, t3, t4]
theorem stepR_end (N : Nat) (m : Mc) (v c : Int) (C : List Int) : stepR N m (endW v c) C = (C, (endW v c).val, c, true) := by
  unfold stepR
  rw [if_pos (show (endW v c).kind = 6 from rfl)]
  rfl
theorem stepR_read (N : Nat) (m : Mc) (c : Nat) (C : List Int) (hc : c < C.length) : stepR N m (readW (c : Int)) C = runM 0 N m C (nth C c) := by
  unfold stepR
  rw [if_neg (by simp [readW]), if_neg (by simp only [readW]; omega), if_pos (show (readW _).kind = 2 from rfl)]
  simp [readW]
theorem stepR_put (N : Nat) (m : Mc) (c : Nat) (z : Int) (C : List Int) (hc : c < C.length) : stepR N m (putW (c : Int) z) C = runM 0 N m (C.set c z) 0 := by
  unfold stepR
  rw [if_neg (by simp [putW]), if_neg (by simp only [putW]; omega), if_neg (by simp [putW])]
  simp [putW]
theorem over_step {n c : Int} {s : Se} {t : Int} {lst : Wn} {val k v : Int} (hl : lst.kind ≠ 6) (h0 : s.left = 0) (N : Nat) (C : List Int) : runM 0 (N + 1) ⟨0, n, c, s, t, lst, val, k⟩ C v = stepR N (endM (afterM ⟨0, n, c, s, t + 1, lst, val, k⟩ v)) (afterM ⟨0, n, c, s, t + 1, lst, val, k⟩ v).2 C := by
  rw [run_step]
  have e : stepM ⟨0, n, c, s, t, lst, val, k⟩ v = afterM ⟨0, n, c, s, t + 1, lst, val, k⟩ v := step_over (m := ⟨0, n, c, s, t, lst, val, k⟩) h0 v
  unfold tellM goM
  simp only
  rw [if_neg hl, if_neg hl, e]
  rfl
theorem rk (c : Int) : (readW c).kind ≠ 6 := by simp [readW]
theorem pk (c z : Int) : (putW c z).kind ≠ 6 := by simp [putW]
/-- The cells of a slot. -/
theorem cl_nat (i : Nat) : (0 : Int) + clV (i : Int) 0 = ((1 + 3 * i : Nat) : Int) ∧ (0 : Int) + clV (i : Int) 1 = ((2 + 3 * i : Nat) : Int) ∧ (0 : Int) + clV (i : Int) 2 = ((3 + 3 * i : Nat) : Int) := by
  unfold clV
  omega
theorem vl_nat (C : List Int) (i : Nat) : stV C (i : Int) = nth C (1 + 3 * i) ∧ kyV C (i : Int) = nth C (2 + 3 * i) ∧ vlV C (i : Int) = nth C (3 + 3 * i) := by
  have h0 : (clV (i : Int) 0).toNat = 1 + 3 * i := by unfold clV; omega
  have h1 : (clV (i : Int) 1).toNat = 2 + 3 * i := by unfold clV; omega
  have h2 : (clV (i : Int) 2).toNat = 3 + 3 * i := by unfold clV; omega
  unfold stV kyV vlV
  rw [h0, h1, h2]
  exact ⟨rfl, rfl, rfl⟩
theorem run_len {n : Int} {A C : List Int} (hC : (C.length : Int) = 3 * n + 1) : runM 0 (mostW n + 1) (mkM 0 n 5 A) C 0 = (C, nth C 0, 0, true) := by
  obtain ⟨K, hK⟩ : ∃ K, mostW n + 1 = K + 1 + 1 := ⟨mostW n - 1, by unfold mostW; omega⟩
  have em : mkM 0 n 5 A = ⟨0, n, 5, se0, 0, wn0, 0, 0⟩ := by simp [mkM]
  rw [hK, em, over_step (by decide) rfl]
  have e1 : afterM ⟨0, n, 5, se0, 0 + 1, wn0, 0, 0⟩ 0 = (⟨0, n, 5, se0, 0 + 1, wn0, 0, 0⟩, readW ((0 : Nat) : Int)) := by simp [afterM, lenT]
  rw [e1, stepR_read _ _ _ _ (by omega)]
  simp only [endM]
  rw [over_step (rk _) rfl]
  have e2 : afterM ⟨0, n, 5, se0, 0 + 1 + 1, readW ((0 : Nat) : Int), 0, 0⟩ (nth C 0) = (⟨0, n, 5, se0, 0 + 1 + 1, readW ((0 : Nat) : Int), 0, 0⟩, endW (nth C 0) 0) := by simp [afterM, lenT]
  rw [e2, stepR_end]
  rfl
theorem run_get_none {n : Int} {A C : List Int} (hn : 0 ≤ n ∧ n ≤ 16) (hC : (C.length : Int) = 3 * n + 1) (hf : (lookV C (nth A 0) n).1 = -1) : runM 0 (mostW n + 1) (mkM 0 n 2 A) C 0 = (C, 0, 1, true) := by
  obtain ⟨s, v, N, h5, hl, h0, hk, hr⟩ := run_start (c := 2) (A := A) hn hC (by decide)
  have hs : s.found = -1 := by rw [← hf, ← hl]
  rw [hr]
  have e1 : ∀ val, afterM ⟨0, n, 2, s, 1, wn0, val, 0⟩ v = (⟨0, n, 2, s, 1, wn0, val, 0⟩, endW 0 1) := fun val => by simp [afterM, getT, hs]
  rw [e1, stepR_end]
  rfl
theorem run_get {n : Int} {A C : List Int} (hn : 0 ≤ n ∧ n ≤ 16) (hC : (C.length : Int) = 3 * n + 1) {i : Nat} (hf : (lookV C (nth A 0) n).1 = (i : Int)) (hi : (i : Int) < n) : runM 0 (mostW n + 1) (mkM 0 n 2 A) C 0 = (C, vlV C (i : Int), 0, true) := by
  obtain ⟨s, v, N, h5, hl, h0, hk, hr⟩ := run_start (c := 2) (A := A) hn hC (by decide)
  have hs : s.found = (i : Int) := by rw [← hf, ← hl]
  obtain ⟨N, rfl⟩ : ∃ N', N = N' + 1 := ⟨N - 1, by omega⟩
  have hne : ¬ (i : Int) = -1 := by omega
  rw [hr, if_neg (by decide)]
  have e1 : afterM ⟨0, n, 2, s, 1, wn0, 0, 0⟩ v = (⟨0, n, 2, s, 1, wn0, 0, 0⟩, readW ((3 + 3 * i : Nat) : Int)) := by rw [← (cl_nat i).2.2]; simp [afterM, getT, hs, hne]
  rw [e1, stepR_read _ _ _ _ (by omega)]
  simp only [endM]
  rw [over_step (rk _) h0]
  have e2 : ∀ l x, afterM ⟨0, n, 2, s, 1 + 1, l, 0, 0⟩ x = (⟨0, n, 2, s, 1 + 1, l, 0, 0⟩, endW x 0) := fun l x => by simp [afterM, getT, hs, hne]
  rw [e2, stepR_end, (vl_nat C i).2.2]
  rfl
theorem run_chg {n : Int} {A C : List Int} (hn : 0 ≤ n ∧ n ≤ 16) (hC : (C.length : Int) = 3 * n + 1) {i : Nat} (hf : (lookV C (nth A 0) n).1 = (i : Int)) (hi : (i : Int) < n) : runM 0 (mostW n + 1) (mkM 0 n 3 A) C 0 = (C.set (3 + 3 * i) (nth A 1), 0, 0, true) := by
  obtain ⟨s, v, N, h5, hl, h0, hk, hr⟩ := run_start (c := 3) (A := A) hn hC (by decide)
  have hs : s.found = (i : Int) := by rw [← hf, ← hl]
  obtain ⟨N, rfl⟩ : ∃ N', N = N' + 1 := ⟨N - 1, by omega⟩
  have hne : ¬ (i : Int) = -1 := by omega
  rw [hr, if_pos rfl]
  have e1 : afterM ⟨0, n, 3, s, 1, wn0, nth A 1, 0⟩ v = (⟨0, n, 3, s, 1, wn0, nth A 1, 0⟩, putW ((3 + 3 * i : Nat) : Int) (nth A 1)) := by rw [← (cl_nat i).2.2]; simp [afterM, putS, chgT, hs, hne]
  rw [e1, stepR_put _ _ _ _ _ (by omega)]
  simp only [endM]
  rw [over_step (pk _ _) h0]
  have e2 : ∀ l x, afterM ⟨0, n, 3, s, 1 + 1, l, nth A 1, 0⟩ x = (⟨0, n, 3, s, 1 + 1, l, nth A 1, 0⟩, endW 0 0) := fun l x => by simp [afterM, putS, chgT, hs, hne]
  rw [e2, stepR_end]
  rfl
theorem run_full {n : Int} {A C : List Int} (hn : 0 ≤ n ∧ n ≤ 16) (hC : (C.length : Int) = 3 * n + 1) (hf : (lookV C (nth A 0) n).1 = -1) (hx : n ≤ nth C 0 ∨ (lookV C (nth A 0) n).2 = -1) : runM 0 (mostW n + 1) (mkM 0 n 3 A) C 0 = (C, 0, 2, true) := by
  obtain ⟨s, v, N, h5, hl, h0, hk, hr⟩ := run_start (c := 3) (A := A) hn hC (by decide)
  have hs : s.found = -1 := by rw [← hf, ← hl]
  have hfr : s.free = (lookV C (nth A 0) n).2 := by rw [← hl]
  rw [← hfr] at hx
  obtain ⟨N, rfl⟩ : ∃ N', N = N' + 1 := ⟨N - 1, by omega⟩
  rw [hr, if_pos rfl]
  have e1 : afterM ⟨0, n, 3, s, 1, wn0, nth A 1, 0⟩ v = (⟨0, n, 3, s, 1, wn0, nth A 1, 0⟩, readW ((0 : Nat) : Int)) := by simp [afterM, putS, hs]
  rw [e1, stepR_read _ _ _ _ (by omega)]
  simp only [endM]
  rw [over_step (rk _) h0]
  have e2 : ∀ l, afterM ⟨0, n, 3, s, 1 + 1, l, nth A 1, 0⟩ (nth C 0) = (⟨0, n, 3, s, 1 + 1, l, nth A 1, 0⟩, endW 0 2) := fun l => by simp [afterM, putS, hs, hx]
  rw [e2, stepR_end]
  rfl
theorem run_put {n : Int} {A C : List Int} (hn : 0 ≤ n ∧ n ≤ 16) (hC : (C.length : Int) = 3 * n + 1) {i : Nat} (hf : (lookV C (nth A 0) n).1 = -1) (hx : (lookV C (nth A 0) n).2 = (i : Int)) (hi : (i : Int) < n) (hc : nth C 0 < n) : runM 0 (mostW n + 1) (mkM 0 n 3 A) C 0 = ((((C.set (1 + 3 * i) 1).set (2 + 3 * i) (nth A 0)).set (3 + 3 * i) (nth A 1)).set 0 (wrap64 (nth C 0 + 1)), 0, 0, true) := by
  obtain ⟨s, v, N, h5, hl, h0, hk, hr⟩ := run_start (c := 3) (A := A) hn hC (by decide)
  have hs : s.found = -1 := by rw [← hf, ← hl]
  have hfr : s.free = (i : Int) := by rw [← hx, ← hl]
  have hne : ¬ (i : Int) = -1 := by omega
  have hnc : ¬ n ≤ nth C 0 := by omega
  obtain ⟨N, rfl⟩ : ∃ N', N = N' + 1 + 1 + 1 + 1 + 1 := ⟨N - 5, by omega⟩
  rw [hr, if_pos rfl]
  have e1 : afterM ⟨0, n, 3, s, 1, wn0, nth A 1, 0⟩ v = (⟨0, n, 3, s, 1, wn0, nth A 1, 0⟩, readW ((0 : Nat) : Int)) := by simp [afterM, putS, hs]
  rw [e1, stepR_read _ _ _ _ (by omega)]
  simp only [endM]
  rw [over_step (rk _) h0]
  have e2 : ∀ l, afterM ⟨0, n, 3, s, 1 + 1, l, nth A 1, 0⟩ (nth C 0) = (⟨0, n, 3, s, 1 + 1, l, nth A 1, nth C 0⟩, putW ((1 + 3 * i : Nat) : Int) 1) := fun l => by rw [← (cl_nat i).1]; simp [afterM, putS, hs, hfr, hne, hnc]
  rw [e2, stepR_put _ _ _ _ _ (by omega)]
  simp only [endM]
  rw [over_step (pk _ _) h0]
  have e3 : ∀ l x, afterM ⟨0, n, 3, s, 1 + 1 + 1, l, nth A 1, nth C 0⟩ x = (⟨0, n, 3, s, 1 + 1 + 1, l, nth A 1, nth C 0⟩, putW ((2 + 3 * i : Nat) : Int) (nth A 0)) := fun l x => by rw [← (cl_nat i).2.1]; simp [afterM, putS, hs, hfr, hk]
  rw [e3, stepR_put _ _ _ _ _ (by rw [List.length_set]; omega)]
  simp only [endM]
  rw [over_step (pk _ _) h0]
  have e4 : ∀ l x, afterM ⟨0, n, 3, s, 1 + 1 + 1 + 1, l, nth A 1, nth C 0⟩ x = (⟨0, n, 3, s, 1 + 1 + 1 + 1, l, nth A 1, nth C 0⟩, putW ((3 + 3 * i : Nat) : Int) (nth A 1)) := fun l x => by rw [← (cl_nat i).2.2]; simp [afterM, putS, hs, hfr]
  rw [e4, stepR_put _ _ _ _ _ (by rw [List.length_set, List.length_set]; omega)]
  simp only [endM]
  rw [over_step (pk _ _) h0]
  have e5 : ∀ l x, afterM ⟨0, n, 3, s, 1 + 1 + 1 + 1 + 1, l, nth A 1, nth C 0⟩ x = (⟨0, n, 3, s, 1 + 1 + 1 + 1 + 1, l, nth A 1, nth C 0⟩, putW ((0 : Nat) : Int) (wrap64 (nth C 0 + 1))) := fun l x => by simp [afterM, putS, hs]
  rw [e5, stepR_put _ _ _ _ _ (by rw [List.length_set, List.length_set, List.length_set]; omega)]
  simp only [endM]
  rw [over_step (pk _ _) h0]
  have e6 : ∀ l x, afterM ⟨0, n, 3, s, 1 + 1 + 1 + 1 + 1 + 1, l, nth A 1, nth C 0⟩ x = (⟨0, n, 3, s, 1 + 1 + 1 + 1 + 1 + 1, l, nth A 1, nth C 0⟩, endW 0 0) := fun l x => by simp [afterM, putS, hs]
  rw [e6, stepR_end]
  rfl
theorem run_del_none {n : Int} {A C : List Int} (hn : 0 ≤ n ∧ n ≤ 16) (hC : (C.length : Int) = 3 * n + 1) (hf : (lookV C (nth A 0) n).1 = -1) : runM 0 (mostW n + 1) (mkM 0 n 4 A) C 0 = (C, 0, 1, true) := by
  obtain ⟨s, v, N, h5, hl, h0, hk, hr⟩ := run_start (c := 4) (A := A) hn hC (by decide)
  have hs : s.found = -1 := by rw [← hf, ← hl]
  rw [hr]
  have e1 : ∀ val, afterM ⟨0, n, 4, s, 1, wn0, val, 0⟩ v = (⟨0, n, 4, s, 1, wn0, val, 0⟩, endW 0 1) := fun val => by simp [afterM, delT, hs]
  rw [e1, stepR_end]
  rfl
theorem run_del {n : Int} {A C : List Int} (hn : 0 ≤ n ∧ n ≤ 16) (hC : (C.length : Int) = 3 * n + 1) {i : Nat} (hf : (lookV C (nth A 0) n).1 = (i : Int)) (hi : (i : Int) < n) : runM 0 (mostW n + 1) (mkM 0 n 4 A) C 0 = ((C.set (1 + 3 * i) 2).set 0 (wrap64 (nth C 0 - 1)), 0, 0, true) := by
  obtain ⟨s, v, N, h5, hl, h0, hk, hr⟩ := run_start (c := 4) (A := A) hn hC (by decide)
  have hs : s.found = (i : Int) := by rw [← hf, ← hl]
  have hne : ¬ (i : Int) = -1 := by omega
  obtain ⟨N, rfl⟩ : ∃ N', N = N' + 1 + 1 + 1 := ⟨N - 3, by omega⟩
  rw [hr, if_neg (by decide)]
  have e1 : afterM ⟨0, n, 4, s, 1, wn0, 0, 0⟩ v = (⟨0, n, 4, s, 1, wn0, 0, 0⟩, putW ((1 + 3 * i : Nat) : Int) 2) := by rw [← (cl_nat i).1]; simp [afterM, delT, hs, hne]
  rw [e1, stepR_put _ _ _ _ _ (by omega)]
  simp only [endM]
  rw [over_step (pk _ _) h0]
  have e2 : ∀ l x, afterM ⟨0, n, 4, s, 1 + 1, l, 0, 0⟩ x = (⟨0, n, 4, s, 1 + 1, l, 0, 0⟩, readW ((0 : Nat) : Int)) := fun l x => by simp [afterM, delT, hs, hne]
  rw [e2, stepR_read _ _ _ _ (by rw [List.length_set]; omega)]
  simp only [endM]
  rw [over_step (rk _) h0]
  have e3 : ∀ l x, afterM ⟨0, n, 4, s, 1 + 1 + 1, l, 0, 0⟩ x = (⟨0, n, 4, s, 1 + 1 + 1, l, 0, 0⟩, putW ((0 : Nat) : Int) (wrap64 (x - 1))) := fun l x => by simp [afterM, delT, hs, hne]
  rw [e3, stepR_put _ _ _ _ _ (by rw [List.length_set]; omega)]
  simp only [endM]
  rw [over_step (pk _ _) h0]
  have e4 : ∀ l x, afterM ⟨0, n, 4, s, 1 + 1 + 1 + 1, l, 0, 0⟩ x = (⟨0, n, 4, s, 1 + 1 + 1 + 1, l, 0, 0⟩, endW 0 0) := fun l x => by simp [afterM, delT, hs, hne]
  rw [e4, stepR_end]
  have hn0 : nth (C.set (1 + 3 * i) 2) 0 = nth C 0 := by rw [nth_set _ _ _ _ (by omega), if_neg (by omega)]
  rw [hn0]
  rfl
end Go.Proofs.Ytbajgbknjmbimab.Di
