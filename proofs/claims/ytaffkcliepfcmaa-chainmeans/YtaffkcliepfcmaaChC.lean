/- A chain over cells, as numbers: what each call does to the cells, and what they say then. -/
import Derived.Test.YtaffkcliepfcmaaChD
namespace Go.Proofs.Ytaffkcliepfcmaa.Ch
open Go.ChangeShapes Go.WideShapes Go.ChangeAt Go.RowKit

/-- A call, done over cells. -/
def runT : T → List Int → List Int × Int × Int
  | .fin x, C => (C, x.val, x.code)
  | .on x g, C => if x.kind = 2 then runT (g (nth C x.cell.toNat)) C else runT (g 0) (C.set x.cell.toNat x.val)
/-- It ends in time, and its cells are its own. -/
def Fit (s : Int) : T → Nat → Prop
  | .fin x, _ => x.kind = 6
  | .on x g, n => 1 ≤ n ∧ (0 ≤ x.cell ∧ x.cell < s) ∧ (x.kind = 2 ∨ x.kind = 3) ∧ ∀ v, Fit s (g v) (n - 1)
theorem Fit.more {s : Int} {t : T} {n m : Nat} (h : Fit s t n) (hm : n ≤ m) : Fit s t m := by
  induction t generalizing n m with
  | fin x => exact h
  | on x g ih =>
    obtain ⟨h1, h2, h3, h4⟩ := h
    exact ⟨by omega, h2, h3, fun v => ih v (h4 v) (by omega)⟩
theorem fit_read {s c : Int} {g : Int → T} {n : Nat} (hc : 0 ≤ c ∧ c < s) (h : ∀ v, Fit s (g v) n) : Fit s (readT 0 c g) (n + 1) := ⟨by omega, by simp only [readW]; omega, Or.inl rfl, fun v => h v⟩
theorem fit_put {s c z : Int} {t : T} {n : Nat} (hc : 0 ≤ c ∧ c < s) (h : Fit s t n) : Fit s (putT 0 c z t) (n + 1) := ⟨by omega, by simp only [putW]; omega, Or.inr rfl, fun _ => h⟩
theorem fit_done {s v : Int} {n : Nat} : Fit s (doneT v) n := rfl
theorem fit_ref {s c : Int} {n : Nat} : Fit s (refT c) n := rfl
theorem fit_go {n k : Int} {h : Wy → T} {m : Nat} (hh : ∀ w, WyOk n w → Fit (2 * n + 3) (h w) m) : ∀ (f : Nat) (c : Int), 0 ≤ c ∧ c < 2 * n + 3 → Fit (2 * n + 3) (goT 0 n k h f c) (2 * f + 1 + m) := by
  intro f
  induction f with
  | zero =>
    intro c hc
    rw [show 2 * 0 + 1 + m = m + 1 by omega]
    exact fit_read hc fun p => hh ⟨c, p, false, 0, 0⟩ ⟨hc, by simp⟩
  | succ f ih =>
    intro c hc
    rw [show 2 * (f + 1) + 1 + m = (2 * f + 1 + m + 1) + 1 by omega]
    refine fit_read hc fun p => ?_
    by_cases hl : leadV p n = 0
    · rw [if_pos hl]
      exact (hh ⟨c, p, false, 0, 0⟩ ⟨hc, by simp⟩).more (by omega)
    · rw [if_neg hl]
      obtain ⟨h1, h2⟩ := lead_of hl
      refine fit_read (key_own (by rw [h1]; exact h2)) fun v => ?_
      by_cases hk : k ≤ v
      · rw [if_pos hk]
        exact (hh ⟨c, p, true, leadV p n, v⟩ ⟨hc, fun _ => by simp only [h1]; exact h2⟩).more (by omega)
      · rw [if_neg hk]
        exact ih _ (nxt_own (by rw [h1]; exact h2))
theorem fit_kb {n p : Int} : Fit (2 * n + 3) (kbT 0 n p) 1 := by
  unfold kbT
  by_cases hl : leadV p n = 0
  · rw [if_pos hl]; exact fit_ref
  · rw [if_neg hl]
    obtain ⟨h1, h2⟩ := lead_of hl
    exact fit_read (n := 0) (key_own (by rw [h1]; exact h2)) fun v => fit_done
theorem fit_cnt {n : Int} : ∀ (f : Nat) (c i : Int), 0 ≤ c ∧ c < 2 * n + 3 → Fit (2 * n + 3) (cntT 0 n f c i) (f + 1) := by
  intro f
  induction f with
  | zero => intro c i hc; exact fit_read hc fun p => fit_done
  | succ f ih =>
    intro c i hc
    refine fit_read hc fun p => ?_
    by_cases hl : leadV p n = 0
    · rw [if_pos hl]; exact fit_done
    · rw [if_neg hl]
      obtain ⟨h1, h2⟩ := lead_of hl
      exact ih _ (i + 1) (nxt_own (by rw [h1]; exact h2))
theorem fit_puts {n k node : Int} {w : Wy} (hw : WyOk n w) (hn : 1 ≤ node ∧ node ≤ n) : Fit (2 * n + 3) (putT 0 (keyV node) k (putT 0 (nxtV node) w.link (putT 0 w.cell node (doneT 0)))) 3 :=
  fit_put (key_own hn) (fit_put (nxt_own hn) (fit_put (n := 0) hw.c fit_done))
theorem fit_first {most call : Int} {A : List Int} (h : rightV 0 most call A.length = true) : Fit (2 * most + 3) (firstT 0 most call A) (mostW most) := by
  obtain ⟨hn, _, _, _, hc⟩ := call_of h
  unfold firstT mostW
  rcases hc with ⟨rfl, _⟩ | ⟨rfl, _⟩ | ⟨rfl, _⟩ | ⟨rfl, _⟩ | ⟨rfl, _⟩ | ⟨rfl, _⟩
  · refine (fit_go (k := nth A 0) (m := 6) (fun w hw => ?_) most.toNat 0 (by omega)).more (by omega)
    unfold addH
    split
    · exact fit_ref
    · refine fit_read (n := 5) (by omega) fun f => ?_
      by_cases hl : leadV f most = 0
      · rw [if_pos hl]
        refine fit_read (n := 4) (by omega) fun u => ?_
        by_cases hu : u < 0 ∨ most ≤ u
        · rw [if_pos hu]; exact fit_ref
        · rw [if_neg hu]; exact fit_put (n := 3) (by omega) (fit_puts hw (by omega))
      · rw [if_neg hl]
        obtain ⟨h1, h2⟩ := lead_of hl
        exact fit_read (n := 4) (nxt_own (by rw [h1]; exact h2)) fun q => fit_put (n := 3) (by omega) (fit_puts hw (by rw [h1]; exact h2))
  · refine (fit_go (k := nth A 0) (m := 5) (fun w hw => ?_) most.toNat 0 (by omega)).more (by omega)
    unfold delH
    split
    · rename_i ha
      have hs := hw.s (at_stop ha).1
      exact fit_read (n := 4) (nxt_own hs) fun q => fit_put (n := 3) hw.c (fit_read (n := 2) (by omega) fun f => fit_put (n := 1) (nxt_own hs) (fit_put (n := 0) (by omega) fit_done))
    · exact fit_ref
  · refine (fit_go (k := nth A 0) (m := 0) (fun w hw => ?_) most.toNat 0 (by omega)).more (by omega)
    unfold hasH
    split <;> exact fit_done
  · refine (fit_go (k := nth A 0) (m := 2) (fun w hw => ?_) most.toNat 0 (by omega)).more (by omega)
    unfold nextH
    split
    · rename_i hs
      split
      · exact fit_read (n := 1) (nxt_own (hw.s hs)) fun p => fit_kb
      · exact fit_done
    · exact fit_ref
  · exact (fit_read (n := 1) (by omega) fun p => fit_kb).more (by omega)
  · exact (fit_cnt most.toNat 0 0 (by omega)).more (by omega)
theorem run_tree {t : T} : ∀ {h : Int → T} {l : Wn} {k n N : Nat} {C : List Int} {v : Int}, h v = t → Fit (C.length : Int) t n → n ≤ N → runM 0 (N + 1) ⟨l, some h, k⟩ C v = ((runT t C).1, (runT t C).2.1, (runT t C).2.2, true) := by
  induction t with
  | fin x =>
    intro h l k n N C v ht hf hN
    have e1 : tellM ⟨l, some h, k⟩ v = x := by simp [tellM, ht, T.w]
    unfold runM
    rw [e1, if_pos (show x.kind = 6 from hf)]
    rfl
  | on x g ih =>
    intro h l k n N C v ht hf hN
    obtain ⟨h1, h2, h3, h4⟩ := hf
    have e1 : tellM ⟨l, some h, k⟩ v = x := by simp [tellM, ht, T.w]
    have e2 : goM ⟨l, some h, k⟩ v = ⟨x, some g, k - 1⟩ := by simp [goM, ht, T.w, T.nx]
    obtain ⟨N, rfl⟩ : ∃ M, N = M + 1 := ⟨N - 1, by omega⟩
    unfold runM
    rw [e1, e2, if_neg (by omega), if_neg (by omega)]
    by_cases h2k : x.kind = 2
    · rw [if_pos h2k, ih _ rfl (h4 _) (by omega)]
      simp [runT, h2k]
    · rw [if_neg h2k, ih 0 (C := C.set x.cell.toNat x.val) rfl (by rw [List.length_set]; exact h4 _) (by omega)]
      simp [runT, h2k]
theorem run_first {most call : Int} {A C : List Int} (h : rightV 0 most call A.length = true) (hC : (C.length : Int) = 2 * most + 3) : runM 0 (mostW most + 1) (mkM 0 most call A) C 0 = ((runT (firstT 0 most call A) C).1, (runT (firstT 0 most call A) C).2.1, (runT (firstT 0 most call A) C).2.2, true) :=
  run_tree (h := fun _ => firstT 0 most call A) rfl (by rw [hC]; exact fit_first h) (Nat.le_refl _)
end Go.Proofs.Ytaffkcliepfcmaa.Ch
