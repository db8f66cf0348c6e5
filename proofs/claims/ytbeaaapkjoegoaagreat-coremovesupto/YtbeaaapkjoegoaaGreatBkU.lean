/- P11.3 as plain numbers: behind the heads of all older slots that say complete it is through within len + 11 steps; its cells are what they were to become. -/
import Derived.Test.YtbeaaapkjoegoaaGreatJBkHBkJ
namespace Go.Proofs.YtbeaaapkjoegoaaGreat.Ba
open Go.RowKit (wrap64)

/-- What a list of writes makes of a cell. -/
def lastW (W : List Wt) (c : Int) : Option Int := W.foldl (fun o x => if x.c = c then some x.v else o) none
/-- Its cells, and its own head. -/
structure EI (c : Nat) (P : Bp) (b : Bk) (L : List Ac) : Prop where
  ok : BkOk P b
  cells : ∀ x v, lastW (P.W.take b.wr) x = some v → wordOf L ⟨4, x, 0⟩ = v
  head : b.nx = 0 → wordOf L (hdB P P.st) = 2 * P.st + 1
/-- All older entries are complete. -/
def HO (P : Bp) (L : List Ac) : Prop := ∀ k, olderOk P k → overV (wordOf L (hdB P k)) k = true
/-- How many steps are left. -/
def tailB (P : Bp) (b : Bk) : Nat := (P.W.length - b.wr) + (if b.kn then 1 else 2)
def mB (P : Bp) (b : Bk) : Nat :=
  if b.nx = 0 then 0 else if b.nx = 1 then (8 - b.wd) + (P.W.length + (if b.kn then 2 else 3)) else if b.nx = 2 then P.W.length + (if b.kn then 2 else 3)
  else if b.nx = 3 then P.W.length + (if b.old = P.st - 1 then 2 else 3) else if b.nx = 4 then P.W.length + 11 - b.wd else if b.nx = 5 then P.W.length + 3 else tailB P b
theorem mB_go (P : Bp) (b : Bk) : mB P (goB P b) = tailB P b := by
  have : ∀ n, (n = 6 ∨ n = 7 ∨ n = 8) → mB P ⟨n, b.wd, b.old, b.kn, b.wr⟩ = tailB P b := fun n hn => by
    unfold mB
    rcases hn with rfl | rfl | rfl <;> simp [tailB]
  apply this
  split
  · simp
  · split <;> simp
theorem mB_look {P : Bp} {b : Bk} (hr : b.wr = 0) (hk : b.kn = false) (st : Int) : mB P (lookAtB P b st) ≤ P.W.length + 3 ∧ (st = P.st - 1 → olderOk P st → mB P (lookAtB P b st) = P.W.length + 2) := by
  unfold lookAtB
  split
  · next h =>
    rw [mB_go]
    unfold tailB
    rw [hr, hk]
    refine ⟨by simp, fun _ ho => ?_⟩
    obtain ⟨h1, h2, h3⟩ := ho
    omega
  · unfold mB
    simp only
    refine ⟨by split <;> simp_all <;> split <;> omega, fun e _ => by simp [e]⟩
theorem mB_word {P : Bp} {b : Bk} (hr : b.wr = 0) (hk : b.kn = false) (hd : b.wd ≤ 8) : mB P (toWordB P b) ≤ P.W.length + 3 ∨ (b.wd < 8 ∧ mB P (toWordB P b) ≤ P.W.length + 11 - b.wd) := by
  unfold toWordB
  have hf := fsW_bd P.sg b.wd hd
  split
  · right
    refine ⟨by omega, ?_⟩
    unfold mB
    simp
    omega
  · left
    exact (mB_look (b := ⟨b.nx, 8, b.old, b.kn, b.wr⟩) hr hk _).1
theorem end_step {c r : Nat} {P : Bp} {b : Bk} {L : List Ac} (hk : BkOk P b) (h : HO P L) (hg : goesB c r P b = true) : waitB P b (wordOf L (adB P b)) = false ∧ mB P (stepB P b (wordOf L (adB P b))) < mB P b := by
  have hn := hk.nx
  have h0 := (goesB_iff.mp hg).1
  have hcs : b.nx = 1 ∨ b.nx = 2 ∨ b.nx = 3 ∨ b.nx = 4 ∨ b.nx = 5 ∨ b.nx = 6 ∨ b.nx = 7 ∨ b.nx = 8 := by omega
  have hwr := hk.wr
  rcases hcs with e | e | e | e | e | e | e | e
  · have hwd := hk.w1 e
    refine ⟨by unfold waitB; simp [e], ?_⟩
    have hs : stepB P b (wordOf L (adB P b)) = ⟨if b.wd + 1 = 8 then 2 else 1, b.wd + 1, b.old, b.kn, b.wr⟩ := by unfold stepB waitB; simp [e]
    rw [hs]
    unfold mB
    by_cases e8 : b.wd + 1 = 8
    · simp [e, e8]; omega
    · simp [e, e8]; omega
  · refine ⟨by unfold waitB; simp [e], ?_⟩
    have hr0 := hk.early (by omega)
    have hs : stepB P b (wordOf L (adB P b)) = if b.kn then goB P b else lookAtB P b (P.st - 1) := by unfold stepB waitB; simp [e]
    rw [hs]
    cases hkn : b.kn
    · rw [if_neg (by simp)]
      rw [(mB_look hr0 hkn (P.st - 1)).2 rfl (hk.kn hkn)]
      unfold mB
      simp [e, hkn]
    · rw [if_pos rfl, mB_go]
      unfold mB tailB
      simp [e, hkn]
      omega
  · have ho := hk.old (by simp [e])
    have hr0 := hk.early (by omega)
    have hov := h b.old ho.1
    have had : adB P b = hdB P b.old := by unfold adB hdB; simp [e]
    rw [had]
    refine ⟨by unfold waitB; simp [e, hov], ?_⟩
    have hs : stepB P b (wordOf L (hdB P b.old)) = overB P b := by unfold stepB waitB; simp [e, hov]
    rw [hs]
    unfold overB
    rw [mB_go]
    unfold mB tailB
    by_cases eo : b.old = P.st - 1
    · simp [e, eo, hr0]
    · simp [e, eo, hr0]
  · have ho := hk.old (by simp [e])
    have hr0 := hk.early (by omega)
    have h4 := hk.w4 e
    refine ⟨by unfold waitB; simp [e], ?_⟩
    have hs : ∀ v, stepB P b v = if hitS P.sg b.wd v then ⟨5, b.wd, b.old, b.kn, b.wr⟩ else toWordB P ⟨b.nx, b.wd + 1, b.old, b.kn, b.wr⟩ := fun v => by unfold stepB waitB; simp [e]
    have hm : mB P b = P.W.length + 11 - b.wd := by unfold mB; simp [e]
    rw [hs, hm]
    split
    · unfold mB
      simp
      omega
    · rcases mB_word (P := P) (b := ⟨b.nx, b.wd + 1, b.old, b.kn, b.wr⟩) hr0 ho.2 (by simp only; omega) with hh | ⟨h8, hh⟩
      · omega
      · simp only at h8 hh; omega
  · have ho := hk.old (by simp [e])
    have hr0 := hk.early (by omega)
    have hov := h b.old ho.1
    have had : adB P b = hdB P b.old := by unfold adB hdB; simp [e]
    rw [had]
    refine ⟨by unfold waitB; simp [e, hov], ?_⟩
    have hs : stepB P b (wordOf L (hdB P b.old)) = overB P b := by unfold stepB waitB; simp [e, hov]
    rw [hs]
    unfold overB
    rw [mB_go]
    unfold mB tailB
    simp [e, hr0]
    split <;> omega
  · have h6 := hk.wr6 e
    refine ⟨by unfold waitB; simp [e], ?_⟩
    have hs : ∀ v, stepB P b v = goB P ⟨b.nx, b.wd, b.old, b.kn, b.wr + 1⟩ := fun v => by unfold stepB waitB; simp [e]
    rw [hs, mB_go]
    unfold mB tailB
    simp [e]
    omega
  · have h7 := hk.n7 e
    have hl := hk.late (by omega)
    have hov := h (P.st - 1) (hk.kn h7)
    have had : adB P b = hdB P (P.st - 1) := by unfold adB hdB; simp [e]
    rw [had]
    refine ⟨by unfold waitB; simp [e, hov], ?_⟩
    have hs : stepB P b (wordOf L (hdB P (P.st - 1))) = goB P ⟨b.nx, b.wd, b.old, true, b.wr⟩ := by unfold stepB waitB; simp [e, hov]
    rw [hs, mB_go]
    unfold mB tailB
    simp [e, h7]
  · refine ⟨by unfold waitB; simp [e], ?_⟩
    have hs : ∀ v, stepB P b v = ⟨0, b.wd, b.old, b.kn, b.wr⟩ := fun v => by unfold stepB waitB; simp [e]
    rw [hs]
    unfold mB tailB
    simp [e]
    split <;> omega
theorem mB_le {P : Bp} {b : Bk} (hk : BkOk P b) : mB P b ≤ P.W.length + 11 := by
  have hwr := hk.wr
  unfold mB tailB
  split
  · omega
  · split
    · split <;> omega
    · split
      · split <;> omega
      · split
        · split <;> omega
        · split
          · omega
          · split
            · omega
            · split <;> omega
theorem mB_zero {P : Bp} {b : Bk} (hk : BkOk P b) (h : mB P b = 0) : b.nx = 0 := by
  have hd := hk.w4
  unfold mB tailB at h
  split at h
  · assumption
  · split at h
    · split at h <;> omega
    · split at h
      · split at h <;> omega
      · split at h
        · split at h <;> omega
        · split at h
          · next e => have := (hd e).1; omega
          · split at h
            · omega
            · split at h <;> omega
end Go.Proofs.YtbeaaapkjoegoaaGreat.Ba