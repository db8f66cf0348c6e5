/- P11.3 as plain numbers: behind the heads of all older slots that say complete it is through within len + 11 steps; its cells are what they were to become. -/
import Derived.Test.YtbmmicfdnfpcaaaBkF
namespace Go.Proofs.Ytbmmicfdnfpcaaa
open Go.RowKit (wrap64)

/-- What a list of writes makes of a cell. -/
def lastW (W : List Wt) (c : Int) : Option Int := W.foldl (fun o x => if x.c = c then some x.v else o) none
theorem lastW_snoc (W : List Wt) (x : Wt) (c : Int) : lastW (W ++ [x]) c = if x.c = c then some x.v else lastW W c := by unfold lastW; rw [List.foldl_append]; rfl
theorem lastW_take {W : List Wt} {q : Nat} (hq : q < W.length) (c : Int) : lastW (W.take (q + 1)) c = if (W.getD q noWt).c = c then some (W.getD q noWt).v else lastW (W.take q) c := by
  rw [List.take_add_one, ← lastW_snoc]
  congr 2
  simp [hq]
theorem stepB_wr (P : Bp) (b : Bk) (v : Int) : (stepB P b v).wr = if b.nx = 6 then b.wr + 1 else b.wr := by
  have hg : ∀ b : Bk, (goB P b).wr = b.wr := fun b => rfl
  have hl : ∀ (b : Bk) st, (lookAtB P b st).wr = b.wr := fun b st => by unfold lookAtB; split <;> rfl
  have ht : ∀ b : Bk, (toWordB P b).wr = b.wr := fun b => by unfold toWordB; split; rfl; rw [hl]
  have ho : ∀ b : Bk, (overB P b).wr = b.wr := fun b => rfl
  unfold stepB
  by_cases h6 : b.nx = 6
  · have hw : waitB P b v = false := by unfold waitB; simp [h6]
    rw [if_neg (by rw [hw]; simp), if_pos h6]
    simp [h6, hg]
  · rw [if_neg h6]
    split
    · rfl
    · split
      · rfl
      · split
        · split
          · exact hg _
          · exact hl _ _
        · split
          · split
            · exact ho _
            · exact ht _
          · split
            · split
              · rfl
              · exact ht _
            · split
              · exact ho _
              · split
                · exact hg _
                · rfl
/-- Its cells, and its own head. -/
structure EI (c : Nat) (P : Bp) (b : Bk) (L : List Ac) : Prop where
  ok : BkOk P b
  cells : ∀ x v, lastW (P.W.take b.wr) x = some v → wordOf L ⟨4, x, 0⟩ = v
  head : b.nx = 0 → wordOf L (hdB P P.st) = 2 * P.st + 1
theorem goB_nx0 (P : Bp) (b : Bk) : (goB P b).nx ≠ 0 := by unfold goB; simp only; split; simp; split <;> simp
theorem stepB_nx0 {P : Bp} {b : Bk} {v : Int} (hn : b.nx ≤ 8) (h : (stepB P b v).nx = 0) : b.nx = 8 ∨ b.nx = 0 := by
  have hl : ∀ (b : Bk) st, (lookAtB P b st).nx ≠ 0 := fun b st => by unfold lookAtB; split; exact goB_nx0 _ _; simp
  have ht : ∀ b : Bk, (toWordB P b).nx ≠ 0 := fun b => by unfold toWordB; split; simp; exact hl _ _
  unfold stepB at h
  by_cases h0 : b.nx = 0
  · exact Or.inr h0
  · left
    split at h
    · exact absurd h h0
    · split at h
      · simp only at h; split at h <;> simp at h
      · split at h
        · split at h
          · exact absurd h (goB_nx0 _ _)
          · exact absurd h (hl _ _)
        · split at h
          · split at h
            · exact absurd h (goB_nx0 _ _)
            · exact absurd h (ht _)
          · split at h
            · split at h
              · simp at h
              · exact absurd h (ht _)
            · split at h
              · exact absurd h (goB_nx0 _ _)
              · split at h
                · exact absurd h (goB_nx0 _ _)
                · split at h
                  · exact absurd h (goB_nx0 _ _)
                  · omega
theorem adB_kind {P : Bp} {b : Bk} (h : b.nx ≠ 6) : (adB P b).k ≠ 4 := by
  unfold adB
  split
  · simp
  · split
    · simp
    · split
      · simp
      · split <;> simp
theorem ei_step {c r : Nat} {P : Bp} {b : Bk} {L : List Ac} (h : EI c P b L) (t : Int) : EI c P (nextBk c r P b L) (nextBL c r P b L t) := by
  have hk := h.ok
  have hw := nextBL_word (c := c) (r := r) (L := L) (t := t) hk
  by_cases hg : goesB c r P b = true
  · have hnb : nextBk c r P b L = stepB P b (wordOf L (adB P b)) := by unfold nextBk; rw [if_pos hg]
    rw [hnb]
    refine ⟨bk_step hk _, fun x v hx => ?_, fun h0 => ?_⟩
    · rw [stepB_wr] at hx
      rw [hw]
      by_cases h6 : b.nx = 6
      · rw [if_pos h6] at hx
        rw [lastW_take (hk.wr6 h6)] at hx
        have had : adB P b = ⟨4, (P.W.getD b.wr noWt).c, 0⟩ := by unfold adB; simp [h6]
        have hv : valB P b = (P.W.getD b.wr noWt).v := by unfold valB; simp [h6]
        rw [if_pos ⟨hg, by simp [ldB, h6]⟩, had, hv]
        by_cases e : (P.W.getD b.wr noWt).c = x
        · rw [if_pos e] at hx
          rw [e, upd_same]
          simpa using hx
        · rw [if_neg e] at hx
          rw [upd_other (by simpa using e)]
          exact h.cells x v hx
      · rw [if_neg h6] at hx
        have := h.cells x v hx
        split
        · rw [upd_other (fun e => adB_kind h6 (by rw [e]))]
          exact this
        · exact this
    · rcases stepB_nx0 hk.nx h0 with h8 | h8
      · rw [hw, if_pos ⟨hg, by simp [ldB, h8]⟩]
        have had : adB P b = hdB P P.st := by unfold adB hdB; simp [h8]
        have hv : valB P b = 2 * P.st + 1 := by unfold valB; simp [h8]
        rw [had, hv, upd_same]
      · exact absurd h8 (goesB_iff.mp hg).1
  · have hnb : nextBk c r P b L = b := by unfold nextBk; rw [if_neg hg]
    have hnl : nextBL c r P b L t = L := by unfold nextBL; rw [if_neg hg]
    rw [hnb, hnl]
    exact h
theorem ei_store {c r : Nat} {P : Bp} {b : Bk} {L : List Ac} (h : EI c P b L) (t : Int) (a : Ad) (z : Int) (hk : a.k = 2 ∨ a.k = 3) (hi : a.i ≠ slotV P.st P.s) : EI c P b (storeL c r L t a z) := by
  unfold storeL
  split
  · refine ⟨h.ok, fun x v hx => ?_, fun h0 => ?_⟩
    · rw [wordOf_hit (Or.inl rfl), upd_other (fun e => by simp only at e; rw [e] at hk; simp at hk)]
      exact h.cells x v hx
    · rw [wordOf_hit (Or.inl rfl), upd_other (fun e => hi (by simp only at e; rw [e]; rfl))]
      exact h.head h0
  · exact h
/-- All older entries are complete. -/
def HO (P : Bp) (L : List Ac) : Prop := ∀ k, olderOk P k → overV (wordOf L (hdB P k)) k = true
theorem slot_ne {P : Bp} (hp : BpOk P) {k : Int} (h : olderOk P k) : slotV k P.s ≠ slotV P.st P.s := by
  have h1 := hp.s1
  have h2 := hp.s16
  obtain ⟨h3, h4, h5⟩ := h
  have hs : sizeOk (P.s : Int) = true := sizeOk_iff.mpr ⟨by omega, by omega⟩
  unfold slotV
  rw [if_pos hs, if_pos hs]
  intro e
  have e1 := Int.emod_add_mul_ediv k P.s
  have e2 := Int.emod_add_mul_ediv P.st P.s
  have hs0 : (0 : Int) < (P.s : Int) := by omega
  have hd : (P.s : Int) * (P.st / P.s - k / P.s) = P.st - k := by rw [Int.mul_sub]; omega
  have hlt : (P.s : Int) * (P.st / P.s - k / P.s) < (P.s : Int) * 1 := by omega
  have hgt : (P.s : Int) * 0 < (P.s : Int) * (P.st / P.s - k / P.s) := by omega
  have q1 := Int.lt_of_mul_lt_mul_left hlt (by omega)
  have q2 := Int.lt_of_mul_lt_mul_left hgt (by omega)
  omega
theorem ho_step {c r : Nat} {P : Bp} {b : Bk} {L : List Ac} (hk : BkOk P b) (h : HO P L) (t : Int) : HO P (nextBL c r P b L t) := fun k ho => by
  rw [nextBL_word hk]
  split
  · next hc =>
    rw [upd_other]
    · exact h k ho
    · intro e
      have hs := slot_ne hk.p ho
      have hn := hk.nx
      have hl := hc.2
      have h0 := (goesB_iff.mp hc.1).1
      have hcs : b.nx = 1 ∨ b.nx = 2 ∨ b.nx = 6 ∨ b.nx = 8 := by
        simp [ldB] at hl
        omega
      unfold adB hdB at e
      rcases hcs with h1 | h1 | h1 | h1
      · simp [h1] at e
      · simp [h1] at e; exact hs e.symm
      · simp [h1] at e
      · simp [h1] at e; exact hs e.symm
  · exact h k ho
/-- How many steps are left. -/
def tailB (P : Bp) (b : Bk) : Nat := (P.W.length - b.wr) + (if b.kn then 1 else 2)
def mB (P : Bp) (b : Bk) : Nat :=
  if b.nx = 0 then 0 else if b.nx = 1 then (8 - b.wd) + (P.W.length + (if b.kn then 2 else 3)) else if b.nx = 2 then P.W.length + (if b.kn then 2 else 3)
  else if b.nx = 3 then P.W.length + (if b.old = P.st - 1 then 2 else 3) else if b.nx = 4 then P.W.length + 11 - b.wd else if b.nx = 5 then P.W.length + 3 else tailB P b
theorem mB_go (P : Bp) (b : Bk) : mB P (goB P b) = tailB P b := by
  have : ∀ n, (n = 6 ∨ n = 7 ∨ n = 8) → mB P ⟨n, b.wd, b.old, b.kn, b.wr⟩ = tailB P b := fun n hn => by
    unfold mB
    rcases hn with rfl | rfl | rfl <;> simp [tailB]
  apply this
  split
  · simp
  · split <;> simp
theorem mB_look {P : Bp} {b : Bk} (hr : b.wr = 0) (hk : b.kn = false) (st : Int) : mB P (lookAtB P b st) ≤ P.W.length + 3 ∧ (st = P.st - 1 → olderOk P st → mB P (lookAtB P b st) = P.W.length + 2) := by
  unfold lookAtB
  split
  · next h =>
    rw [mB_go]
    unfold tailB
    rw [hr, hk]
    refine ⟨by simp, fun _ ho => ?_⟩
    obtain ⟨h1, h2, h3⟩ := ho
    omega
  · unfold mB
    simp only
    refine ⟨by split <;> simp_all <;> split <;> omega, fun e _ => by simp [e]⟩
theorem mB_word {P : Bp} {b : Bk} (hr : b.wr = 0) (hk : b.kn = false) (hd : b.wd ≤ 8) : mB P (toWordB P b) ≤ P.W.length + 3 ∨ (b.wd < 8 ∧ mB P (toWordB P b) ≤ P.W.length + 11 - b.wd) := by
  unfold toWordB
  have hf := fsW_bd P.sg b.wd hd
  split
  · right
    refine ⟨by omega, ?_⟩
    unfold mB
    simp
    omega
  · left
    exact (mB_look (b := ⟨b.nx, 8, b.old, b.kn, b.wr⟩) hr hk _).1
theorem end_step {c r : Nat} {P : Bp} {b : Bk} {L : List Ac} (hk : BkOk P b) (h : HO P L) (hg : goesB c r P b = true) : waitB P b (wordOf L (adB P b)) = false ∧ mB P (stepB P b (wordOf L (adB P b))) < mB P b := by
  have hn := hk.nx
  have h0 := (goesB_iff.mp hg).1
  have hcs : b.nx = 1 ∨ b.nx = 2 ∨ b.nx = 3 ∨ b.nx = 4 ∨ b.nx = 5 ∨ b.nx = 6 ∨ b.nx = 7 ∨ b.nx = 8 := by omega
  have hwr := hk.wr
  rcases hcs with e | e | e | e | e | e | e | e
  · have hwd := hk.w1 e
    refine ⟨by unfold waitB; simp [e], ?_⟩
    have hs : stepB P b (wordOf L (adB P b)) = ⟨if b.wd + 1 = 8 then 2 else 1, b.wd + 1, b.old, b.kn, b.wr⟩ := by unfold stepB waitB; simp [e]
    rw [hs]
    unfold mB
    by_cases e8 : b.wd + 1 = 8
    · simp [e, e8]; omega
    · simp [e, e8]; omega
  · refine ⟨by unfold waitB; simp [e], ?_⟩
    have hr0 := hk.early (by omega)
    have hs : stepB P b (wordOf L (adB P b)) = if b.kn then goB P b else lookAtB P b (P.st - 1) := by unfold stepB waitB; simp [e]
    rw [hs]
    cases hkn : b.kn
    · rw [if_neg (by simp)]
      rw [(mB_look hr0 hkn (P.st - 1)).2 rfl (hk.kn hkn)]
      unfold mB
      simp [e, hkn]
    · rw [if_pos rfl, mB_go]
      unfold mB tailB
      simp [e, hkn]
      omega
  · have ho := hk.old (by simp [e])
    have hr0 := hk.early (by omega)
    have hov := h b.old ho.1
    have had : adB P b = hdB P b.old := by unfold adB hdB; simp [e]
    rw [had]
    refine ⟨by unfold waitB; simp [e, hov], ?_⟩
    have hs : stepB P b (wordOf L (hdB P b.old)) = overB P b := by unfold stepB waitB; simp [e, hov]
    rw [hs]
    unfold overB
    rw [mB_go]
    unfold mB tailB
    by_cases eo : b.old = P.st - 1
    · simp [e, eo, hr0]
    · simp [e, eo, hr0]
  · have ho := hk.old (by simp [e])
    have hr0 := hk.early (by omega)
    have h4 := hk.w4 e
    refine ⟨by unfold waitB; simp [e], ?_⟩
    have hs : ∀ v, stepB P b v = if hitS P.sg b.wd v then ⟨5, b.wd, b.old, b.kn, b.wr⟩ else toWordB P ⟨b.nx, b.wd + 1, b.old, b.kn, b.wr⟩ := fun v => by unfold stepB waitB; simp [e]
    have hm : mB P b = P.W.length + 11 - b.wd := by unfold mB; simp [e]
    rw [hs, hm]
    split
    · unfold mB
      simp
      omega
    · rcases mB_word (P := P) (b := ⟨b.nx, b.wd + 1, b.old, b.kn, b.wr⟩) hr0 ho.2 (by simp only; omega) with hh | ⟨h8, hh⟩
      · omega
      · simp only at h8 hh; omega
  · have ho := hk.old (by simp [e])
    have hr0 := hk.early (by omega)
    have hov := h b.old ho.1
    have had : adB P b = hdB P b.old := by unfold adB hdB; simp [e]
    rw [had]
    refine ⟨by unfold waitB; simp [e, hov], ?_⟩
    have hs : stepB P b (wordOf L (hdB P b.old)) = overB P b := by unfold stepB waitB; simp [e, hov]
    rw [hs]
    unfold overB
    rw [mB_go]
    unfold mB tailB
    simp [e, hr0]
    split <;> omega
  · have h6 := hk.wr6 e
    refine ⟨by unfold waitB; simp [e], ?_⟩
    have hs : ∀ v, stepB P b v = goB P ⟨b.nx, b.wd, b.old, b.kn, b.wr + 1⟩ := fun v => by unfold stepB waitB; simp [e]
    rw [hs, mB_go]
    unfold mB tailB
    simp [e]
    omega
  · have h7 := hk.n7 e
    have hl := hk.late (by omega)
    have hov := h (P.st - 1) (hk.kn h7)
    have had : adB P b = hdB P (P.st - 1) := by unfold adB hdB; simp [e]
    rw [had]
    refine ⟨by unfold waitB; simp [e, hov], ?_⟩
    have hs : stepB P b (wordOf L (hdB P (P.st - 1))) = goB P ⟨b.nx, b.wd, b.old, true, b.wr⟩ := by unfold stepB waitB; simp [e, hov]
    rw [hs, mB_go]
    unfold mB tailB
    simp [e, h7]
  · refine ⟨by unfold waitB; simp [e], ?_⟩
    have hs : ∀ v, stepB P b v = ⟨0, b.wd, b.old, b.kn, b.wr⟩ := fun v => by unfold stepB waitB; simp [e]
    rw [hs]
    unfold mB tailB
    simp [e]
    split <;> omega
theorem mB_le {P : Bp} {b : Bk} (hk : BkOk P b) : mB P b ≤ P.W.length + 11 := by
  have hwr := hk.wr
  unfold mB tailB
  split
  · omega
  · split
    · split <;> omega
    · split
      · split <;> omega
      · split
        · split <;> omega
        · split
          · omega
          · split
            · omega
            · split <;> omega
theorem mB_zero {P : Bp} {b : Bk} (hk : BkOk P b) (h : mB P b = 0) : b.nx = 0 := by
  have hd := hk.w4
  unfold mB tailB at h
  split at h
  · assumption
  · split at h
    · split at h <;> omega
    · split at h
      · split at h <;> omega
      · split at h
        · split at h <;> omega
        · split at h
          · next e => have := (hd e).1; omega
          · split at h
            · omega
            · split at h <;> omega
end Go.Proofs.Ytbmmicfdnfpcaaa
