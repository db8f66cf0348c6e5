/- The document's machine of layer 11 as plain numbers: what is looked at next, by what was loaded; beside the program's. -/
import Derived.Test.YtbmmicfdnfpcaaaBkU
import Derived.Test.YtbmmicfdnfpcaaaBkN
import Derived.Test.YtbmmicfdnfpcaaaMemN
import Derived.Test.YtbmmicfdnfpcaaaBkO
import Derived.Deep.RegionHeld3
import Derived.Test.YtbmmicfdnfpcaaaBkH
import Derived.Test.YtbmmicfdnfpcaaaSigR
import Derived.Deep.CutBlock
import Derived.Deep.DeepCutAuto
import Derived.Deep.LoopGhost
namespace Go.Proofs.Ytbmmicfdnfpcaaa
open Go.RowKit (wrap64)

/-- How many Stores, what was loaded while it looked back, whether the entry ahead was seen to be complete in the end. -/
structure Dc where
  n : Nat
  l : List Int
  sn : Bool
/-- What is looked at next. -/
structure Lo where
  th : Bool
  kn : Bool
  me : Bool
  hd : Bool
  st : Int
  a : Ad
def loT (k : Bool) : Lo := ⟨true, k, false, false, 0, ⟨0, 0, 0⟩⟩
def loH (P : Bp) (st : Int) (me : Bool) : Lo := ⟨false, false, me, true, st, ⟨2, slotV st P.s, 0⟩⟩
def loW (P : Bp) (st : Int) (j : Nat) : Lo := ⟨false, false, false, false, st, ⟨3, slotV st P.s, (j : Int)⟩⟩
/-- Behind a word that shares a bit. -/
def lkE (P : Bp) (st : Int) (L : List Int) : Lo := if L.isEmpty then loH P st true else loT (st == P.st - 1)
def lkW (P : Bp) (st : Int) (next : List Int → Lo) : Nat → List Int → Lo
  | 0, L => next L
  | k + 1, L => if P.sg.getD (8 - (k + 1)) 0 = 0 then lkW P st next k L else
      match L with
      | [] => loW P st (8 - (k + 1))
      | v :: M => if hitS P.sg (8 - (k + 1)) v then lkE P st M else lkW P st next k M
def lkS (P : Bp) : Nat → Int → List Int → Lo
  | 0, _, _ => loT false
  | n + 1, st, L => if st < 1 ∨ st ≤ P.st - (P.s : Int) then loT false else
      match L with
      | [] => loH P st false
      | v :: M => if overV v st then loT (st == P.st - 1) else lkW P st (lkS P n (st - 1)) 8 M
def lkN (P : Bp) (st : Int) : Nat := (st - P.st + 1 + (P.s : Int)).toNat
def knB (P : Bp) (mu : Bool) : Bool := !mu || decide (P.s = 1) || decide (P.st = 1)
def lkD (P : Bp) (mu : Bool) (L : List Int) : Lo := if knB P mu then loT true else lkS P P.s (P.st - 1) L
/-- From a stamp on; from a word of a stamp on. -/
def lkA (P : Bp) (st : Int) (L : List Int) : Lo := lkS P (lkN P st) st L
def lkB (P : Bp) (st : Int) (j : Nat) (L : List Int) : Lo := lkW P st (lkA P (st - 1)) (8 - j) L
theorem lkA_end {P : Bp} {st : Int} (L : List Int) (h : st < 1 ∨ st ≤ P.st - (P.s : Int)) : lkA P st L = loT false := by
  unfold lkA
  cases lkN P st with
  | zero => rfl
  | succ n => unfold lkS; rw [if_pos h]
theorem lkN_succ {P : Bp} {st : Int} (h : P.st - (P.s : Int) < st) : lkN P st = lkN P (st - 1) + 1 := by unfold lkN; omega
theorem lkA_nil {P : Bp} {st : Int} (h : ¬ (st < 1 ∨ st ≤ P.st - (P.s : Int))) : lkA P st [] = loH P st false := by
  unfold lkA
  rw [lkN_succ (by omega)]
  unfold lkS
  rw [if_neg h]
theorem lkA_cons {P : Bp} {st : Int} (h : ¬ (st < 1 ∨ st ≤ P.st - (P.s : Int))) (v : Int) (M : List Int) : lkA P st (v :: M) = if overV v st then loT (st == P.st - 1) else lkB P st 0 M := by
  unfold lkA
  rw [lkN_succ (by omega)]
  unfold lkS
  rw [if_neg h]
  rfl
theorem lkB_end {P : Bp} {st : Int} (L : List Int) : lkB P st 8 L = lkA P (st - 1) L := rfl
theorem lkB_zero {P : Bp} {st : Int} {j : Nat} (hj : j < 8) (h : P.sg.getD j 0 = 0) (L : List Int) : lkB P st j L = lkB P st (j + 1) L := by
  unfold lkB
  obtain ⟨k, hk⟩ : ∃ k, 8 - j = k + 1 := ⟨7 - j, by omega⟩
  have e1 : 8 - (j + 1) = k := by omega
  have e2 : 8 - (k + 1) = j := by omega
  rw [hk, e1]
  cases L with
  | nil => rw [lkW, e2, if_pos h]
  | cons v M => rw [lkW, e2, if_pos h]
theorem lkB_nil {P : Bp} {st : Int} {j : Nat} (hj : j < 8) (h : P.sg.getD j 0 ≠ 0) : lkB P st j [] = loW P st j := by
  unfold lkB
  obtain ⟨k, hk⟩ : ∃ k, 8 - j = k + 1 := ⟨7 - j, by omega⟩
  have e2 : 8 - (k + 1) = j := by omega
  rw [hk, lkW, e2, if_neg h]
theorem lkB_cons {P : Bp} {st : Int} {j : Nat} (hj : j < 8) (h : P.sg.getD j 0 ≠ 0) (v : Int) (M : List Int) : lkB P st j (v :: M) = if hitS P.sg j v then lkE P st M else lkB P st (j + 1) M := by
  unfold lkB
  obtain ⟨k, hk⟩ : ∃ k, 8 - j = k + 1 := ⟨7 - j, by omega⟩
  have e1 : 8 - (j + 1) = k := by omega
  have e2 : 8 - (k + 1) = j := by omega
  rw [hk, e1, lkW, e2, if_neg h]
theorem lkB_skip {P : Bp} {st : Int} (j : Nat) (hj : j ≤ 8) (L : List Int) : lkB P st j L = lkB P st (fsW P.sg j) L := by
  by_cases e : j = 8
  · subst e; rw [fsW_end]
  · by_cases hr : P.sg.getD j 0 = 0
    · rw [fsW_no (by omega) hr, lkB_zero (by omega) hr]
      exact lkB_skip (j + 1) (by omega) L
    · rw [fsW_yes (by omega) hr]
termination_by 8 - j
theorem lkD_go {P : Bp} {mu : Bool} (h : knB P mu = false) (L : List Int) : lkD P mu L = lkA P (P.st - 1) L := by
  unfold lkD lkA
  rw [h]
  have : lkN P (P.st - 1) = P.s := by unfold lkN; omega
  rw [this]
  rfl
/-- The document's machine where the program's is. -/
structure DR (P : Bp) (mu : Bool) (b : Bk) (x : Dc) : Prop where
  ok : BkOk P b
  n1 : b.nx = 1 → x.n = b.wd
  n2 : b.nx = 2 → x.n = 8
  n3 : b.nx = 3 ∨ b.nx = 4 ∨ b.nx = 5 → x.n = 9
  n6 : b.nx = 6 ∨ b.nx = 7 ∨ b.nx = 8 → x.n = 9 + b.wr
  n0 : b.nx = 0 → x.n = P.W.length + 10
  e1 : b.nx = 1 ∨ b.nx = 2 → x.l = [] ∧ b.kn = knB P mu
  sn : b.nx = 1 ∨ b.nx = 2 ∨ b.nx = 3 ∨ b.nx = 4 ∨ b.nx = 5 → x.sn = false
  l3 : b.nx = 3 → ∀ M, lkD P mu (x.l ++ M) = lkA P b.old M
  l4 : b.nx = 4 → ∀ M, lkD P mu (x.l ++ M) = lkB P b.old b.wd M
  l5 : b.nx = 5 → ∀ M, lkD P mu (x.l ++ M) = lkE P b.old M
  l6 : b.nx = 6 ∨ b.nx = 7 ∨ b.nx = 8 → ∃ k, lkD P mu x.l = loT k ∧ b.kn = (k || x.sn)
  len : x.l.length ≤ 9 * P.s
  len3 : b.nx = 3 → (x.l.length : Int) ≤ 9 * (P.st - 1 - b.old)
  len4 : b.nx = 4 → (x.l.length : Int) ≤ 9 * (P.st - 1 - b.old) + 1 + (b.wd : Int)
  len5 : b.nx = 5 → (x.l.length : Int) ≤ 9 * (P.st - 1 - b.old) + 2 + (b.wd : Int)
theorem goB_cases (P : Bp) (b : Bk) : (goB P b).nx = 6 ∨ (goB P b).nx = 7 ∨ (goB P b).nx = 8 := by
  unfold goB
  simp only
  split
  · simp
  · split <;> simp
theorem dr_go {P : Bp} {mu : Bool} {b : Bk} {x : Dc} {k : Bool} (p : BpOk P) (wr : b.wr ≤ P.W.length) (wd : b.wd ≤ 8) (kn : b.kn = false → olderOk P (P.st - 1)) (hn : x.n = 9 + b.wr) (hl : lkD P mu x.l = loT k) (hk : b.kn = (k || x.sn)) (hle : x.l.length ≤ 9 * P.s) : DR P mu (goB P b) x := by
  have hc := goB_cases P b
  exact ⟨go_ok p wr wd kn, fun e => by omega, fun e => by omega, fun e => by omega, fun _ => hn, fun e => by omega, fun e => by omega, fun e => by omega, fun e => by omega, fun e => by omega, fun e => by omega, fun _ => ⟨k, hl, hk⟩, hle, fun e => by omega, fun e => by omega, fun e => by omega⟩
theorem dr_look {P : Bp} {mu : Bool} {b : Bk} {x : Dc} {st : Int} (p : BpOk P) (wr : b.wr = 0) (wd : b.wd ≤ 8) (kn : b.kn = false) (ho : olderOk P (P.st - 1)) (hs : st < P.st) (hn : x.n = 9) (hsn : x.sn = false) (hl : ∀ M, lkD P mu (x.l ++ M) = lkA P st M) (hle : x.l.length ≤ 9 * P.s) (hl3 : (x.l.length : Int) ≤ 9 * (P.st - 1 - st)) : DR P mu (lookAtB P b st) x := by
  have hok := lookAt_ok (b := b) p wr wd kn ho hs
  unfold lookAtB at hok ⊢
  by_cases h : st < 1 ∨ st ≤ P.st - (P.s : Int)
  · rw [if_pos h]
    refine dr_go (k := false) p (by omega) wd (fun _ => ho) (by omega) ?_ (by rw [kn, hsn]; rfl) hle
    have := hl []
    rw [List.append_nil] at this
    rw [this, lkA_end _ h]
  · rw [if_neg h] at hok ⊢
    exact ⟨hok, fun e => by simp at e, fun e => by simp at e, fun _ => hn, fun e => by simp at e, fun e => by simp at e, fun e => by simp at e, fun _ => hsn, fun _ => hl, fun e => by simp at e, fun e => by simp at e, fun e => by simp at e, hle, fun _ => hl3, fun e => by simp at e, fun e => by simp at e⟩
theorem dr_word {P : Bp} {mu : Bool} {b : Bk} {x : Dc} (p : BpOk P) (wr : b.wr = 0) (wd : b.wd ≤ 8) (kn : b.kn = false) (ho : olderOk P (P.st - 1)) (hs : olderOk P b.old) (hn : x.n = 9) (hsn : x.sn = false) (hl : ∀ M, lkD P mu (x.l ++ M) = lkB P b.old b.wd M) (hle : x.l.length ≤ 9 * P.s) (hl4 : (x.l.length : Int) ≤ 9 * (P.st - 1 - b.old) + 1 + (b.wd : Int)) : DR P mu (toWordB P b) x := by
  have hok := toWord_ok (b := b) p wr wd kn ho hs
  have hb := fsW_bd P.sg b.wd wd
  unfold toWordB at hok ⊢
  by_cases h : fsW P.sg b.wd < 8
  · rw [if_pos h] at hok ⊢
    exact ⟨hok, fun e => by simp at e, fun e => by simp at e, fun _ => hn, fun e => by simp at e, fun e => by simp at e, fun e => by simp at e, fun _ => hsn, fun e => by simp at e, fun _ M => by rw [hl M]; exact lkB_skip b.wd wd M, fun e => by simp at e, fun e => by simp at e, hle, fun e => by simp at e, fun _ => by simp only; omega, fun e => by simp at e⟩
  · rw [if_neg h]
    refine dr_look (b := ⟨b.nx, 8, b.old, b.kn, b.wr⟩) p wr (by simp) kn ho (by have := hs.2.1; omega) hn hsn (fun M => ?_) hle (by omega)
    rw [hl M, lkB_skip b.wd wd M]
    have e8 : fsW P.sg b.wd = 8 := by omega
    rw [e8]
    rfl
theorem dr_new {P : Bp} (h : BpOk P) (mu : Bool) : DR P mu (bkNew P mu) ⟨0, [], false⟩ :=
  ⟨bk_new h mu, fun _ => rfl, fun e => by simp [bkNew] at e, fun e => by simp [bkNew] at e, fun e => by simp [bkNew] at e, fun e => by simp [bkNew] at e, fun _ => ⟨rfl, rfl⟩, fun _ => rfl, fun e => by simp [bkNew] at e, fun e => by simp [bkNew] at e, fun e => by simp [bkNew] at e, fun e => by simp [bkNew] at e, by simp, fun e => by simp [bkNew] at e, fun e => by simp [bkNew] at e, fun e => by simp [bkNew] at e⟩
/-- What the document's machine makes of a step that the program's machine makes, with the word v where it loads. -/
def stepD (P : Bp) (mu : Bool) (x : Dc) (v : Int) : Dc :=
  if x.n < 9 then ⟨x.n + 1, x.l, x.sn⟩
  else if (lkD P mu x.l).th = false then (if (lkD P mu x.l).hd && !overV v (lkD P mu x.l).st && ((lkD P mu x.l).me || !laidV v (lkD P mu x.l).st) then x else ⟨x.n, x.l ++ [v], x.sn⟩)
  else if x.n < P.W.length + 9 then ⟨x.n + 1, x.l, x.sn⟩
  else if (lkD P mu x.l).kn = false ∧ x.sn = false then ⟨x.n, x.l, overV v (P.st - 1)⟩
  else ⟨x.n + 1, x.l, x.sn⟩
theorem lkD_at {P : Bp} {mu : Bool} {x : Dc} {f : List Int → Lo} (h : ∀ M, lkD P mu (x.l ++ M) = f M) : lkD P mu x.l = f [] := by
  have := h []
  rwa [List.append_nil] at this
/-- What it looks at where it looks back. -/
theorem dr_lo {P : Bp} {mu : Bool} {b : Bk} {x : Dc} (h : DR P mu b x) (e : b.nx = 3 ∨ b.nx = 4 ∨ b.nx = 5) : (lkD P mu x.l).th = false ∧ (lkD P mu x.l).st = b.old ∧ (lkD P mu x.l).a = adB P b ∧ (lkD P mu x.l).hd = !decide (b.nx = 4) ∧ (lkD P mu x.l).me = decide (b.nx = 5) := by
  have ho := (h.ok.old (by omega)).1
  obtain ⟨o1, o2, o3⟩ := ho
  rcases e with e | e | e
  · rw [lkD_at (h.l3 e), lkA_nil (by omega)]
    simp [loH, adB, e]
  · have h4 := h.ok.w4 e
    rw [lkD_at (h.l4 e), lkB_nil h4.1 h4.2]
    simp [loW, adB, e]
  · rw [lkD_at (h.l5 e)]
    simp [lkE, loH, adB, e]
theorem dr_step {P : Bp} {mu : Bool} {b : Bk} {x : Dc} (h : DR P mu b x) (hn : b.nx ≠ 0) (v : Int) : DR P mu (stepB P b v) (stepD P mu x v) := by
  have hk := h.ok
  have hp := hk.p
  have hnx := hk.nx
  have hle := h.len
  have hcs : b.nx = 1 ∨ b.nx = 2 ∨ b.nx = 3 ∨ b.nx = 4 ∨ b.nx = 5 ∨ b.nx = 6 ∨ b.nx = 7 ∨ b.nx = 8 := by omega
  rcases hcs with e | e | e | e | e | e | e | e
  · have hwd := hk.w1 e
    have hxn := h.n1 e
    have hs : stepB P b v = ⟨if b.wd + 1 = 8 then 2 else 1, b.wd + 1, b.old, b.kn, b.wr⟩ := by unfold stepB waitB; simp [e]
    have hd : stepD P mu x v = ⟨x.n + 1, x.l, x.sn⟩ := by unfold stepD; rw [if_pos (by omega)]
    have hok := bk_step hk v
    rw [hs] at hok ⊢
    rw [hd]
    have h1 := h.e1 (Or.inl e)
    have h2 := h.sn (Or.inl e)
    by_cases e8 : b.wd + 1 = 8
    · rw [if_pos e8] at hok ⊢
      exact ⟨hok, fun q => by simp at q, fun _ => by simp only; omega, fun q => by simp at q, fun q => by simp at q, fun q => by simp at q, fun _ => h1, fun _ => h2, fun q => by simp at q, fun q => by simp at q, fun q => by simp at q, fun q => by simp at q, hle, fun q => by simp at q, fun q => by simp at q, fun q => by simp at q⟩
    · rw [if_neg e8] at hok ⊢
      exact ⟨hok, fun _ => by simp only; omega, fun q => by simp at q, fun q => by simp at q, fun q => by simp at q, fun q => by simp at q, fun _ => h1, fun _ => h2, fun q => by simp at q, fun q => by simp at q, fun q => by simp at q, fun q => by simp at q, hle, fun q => by simp at q, fun q => by simp at q, fun q => by simp at q⟩
  · have hxn := h.n2 e
    have h1 := h.e1 (Or.inr e)
    have h2 := h.sn (by omega)
    have hw0 := hk.early (by omega)
    have hs : stepB P b v = if b.kn then goB P b else lookAtB P b (P.st - 1) := by unfold stepB waitB; simp [e]
    have hd : stepD P mu x v = ⟨x.n + 1, x.l, x.sn⟩ := by unfold stepD; rw [if_pos (by omega)]
    rw [hs, hd]
    cases hkn : b.kn
    · rw [if_neg (by simp)]
      have hkb : knB P mu = false := by rw [← h1.2]; exact hkn
      refine dr_look hp hw0 hk.wd hkn (hk.kn hkn) (by omega) (by simp only; omega) h2 (fun M => ?_) hle (by simp only; rw [h1.1]; simp)
      simp only
      rw [h1.1, List.nil_append]
      exact lkD_go hkb M
    · rw [if_pos rfl]
      refine dr_go (k := true) hp hk.wr hk.wd hk.kn (by simp only; omega) ?_ (by rw [hkn]; rfl) hle
      simp only
      unfold lkD
      rw [← h1.2, hkn]
      rfl
  · have hxn := h.n3 (by omega)
    obtain ⟨o1, o2, o3, o4, o5⟩ := dr_lo h (by omega)
    have ho := hk.old (by omega)
    have hw0 := hk.early (by omega)
    have h2 := h.sn (by omega)
    have hlc : ∀ M, lkD P mu (x.l ++ [v] ++ M) = if overV v b.old then loT (b.old == P.st - 1) else lkB P b.old 0 M := fun M => by
      rw [List.append_assoc, h.l3 e, List.singleton_append, lkA_cons (by obtain ⟨a1, a2, a3⟩ := ho.1; omega)]
    have h33 := h.len3 e
    obtain ⟨a1, a2, a3⟩ := ho.1
    have hd : stepD P mu x v = if !overV v b.old && !laidV v b.old then x else ⟨x.n, x.l ++ [v], x.sn⟩ := by
      unfold stepD
      rw [if_neg (by omega), if_pos o1, o2, o4, o5, e]
      rfl
    rw [hd]
    by_cases hov : overV v b.old = true
    · have hs : stepB P b v = overB P b := by unfold stepB waitB; simp [e, hov]
      rw [hs, hov, if_neg (by simp)]
      unfold overB
      refine dr_go (k := b.old == P.st - 1) hp hk.wr hk.wd (fun _ => hk.kn ho.2) (by simp only; omega) ?_ (by simp only; rw [h2]; simp) (by simp only [List.length_append, List.length_singleton]; omega)
      have := hlc []
      rw [List.append_nil, if_pos hov] at this
      exact this
    · have hov2 : overV v b.old = false := by simpa using hov
      rw [hov2]
      by_cases hla : laidV v b.old = true
      · have hs : stepB P b v = toWordB P ⟨b.nx, 0, b.old, b.kn, b.wr⟩ := by unfold stepB waitB; simp [e, hov2, hla]
        rw [hs, hla, if_neg (by simp)]
        refine dr_word (b := ⟨b.nx, 0, b.old, b.kn, b.wr⟩) hp hw0 (by simp) ho.2 (hk.kn ho.2) ho.1 hxn h2 (fun M => ?_) (by simp only [List.length_append, List.length_singleton]; omega) (by simp only [List.length_append, List.length_singleton]; omega)
        have := hlc M
        rw [if_neg hov] at this
        exact this
      · have hla2 : laidV v b.old = false := by simpa using hla
        have hs : stepB P b v = b := by unfold stepB waitB; simp [e, hov2, hla2]
        rw [hs, hla2, if_pos (by simp)]
        exact h
  · have hxn := h.n3 (by omega)
    obtain ⟨o1, o2, o3, o4, o5⟩ := dr_lo h (by omega)
    have ho := hk.old (by omega)
    have hw0 := hk.early (by omega)
    have h2 := h.sn (by omega)
    have h4 := hk.w4 e
    have hlc : ∀ M, lkD P mu (x.l ++ [v] ++ M) = if hitS P.sg b.wd v then lkE P b.old M else lkB P b.old (b.wd + 1) M := fun M => by
      rw [List.append_assoc, h.l4 e, List.singleton_append, lkB_cons h4.1 h4.2]
    have h44 := h.len4 e
    obtain ⟨a1, a2, a3⟩ := ho.1
    have hd : stepD P mu x v = ⟨x.n, x.l ++ [v], x.sn⟩ := by
      unfold stepD
      rw [if_neg (by omega), if_pos o1, o4, e]
      rfl
    rw [hd]
    have hs : stepB P b v = if hitS P.sg b.wd v then ⟨5, b.wd, b.old, b.kn, b.wr⟩ else toWordB P ⟨b.nx, b.wd + 1, b.old, b.kn, b.wr⟩ := by unfold stepB waitB; simp [e]
    have hok := bk_step hk v
    rw [hs] at hok ⊢
    by_cases hh : hitS P.sg b.wd v = true
    · rw [if_pos hh] at hok ⊢
      exact ⟨hok, fun q => by simp at q, fun q => by simp at q, fun _ => hxn, fun q => by simp at q, fun q => by simp at q, fun q => by simp at q, fun _ => h2, fun q => by simp at q, fun q => by simp at q, fun _ M => by have := hlc M; rw [if_pos hh] at this; exact this, fun q => by simp at q, by simp only [List.length_append, List.length_singleton]; omega, fun q => by simp at q, fun q => by simp at q, fun _ => by simp only [List.length_append, List.length_singleton]; omega⟩
    · rw [if_neg hh]
      refine dr_word (b := ⟨b.nx, b.wd + 1, b.old, b.kn, b.wr⟩) hp hw0 (by simp only; omega) ho.2 (hk.kn ho.2) ho.1 hxn h2 (fun M => ?_) (by simp only [List.length_append, List.length_singleton]; omega) (by simp only [List.length_append, List.length_singleton]; omega)
      have := hlc M
      rw [if_neg hh] at this
      exact this
  · have hxn := h.n3 (by omega)
    obtain ⟨o1, o2, o3, o4, o5⟩ := dr_lo h (by omega)
    have ho := hk.old (by omega)
    have h2 := h.sn (by omega)
    have h55 := h.len5 e
    have hw0 := hk.early (by omega)
    obtain ⟨a1, a2, a3⟩ := ho.1
    have hwd := hk.wd
    have hd : stepD P mu x v = if !overV v b.old then x else ⟨x.n, x.l ++ [v], x.sn⟩ := by
      unfold stepD
      rw [if_neg (by omega), if_pos o1, o2, o4, o5, e]
      cases overV v b.old <;> rfl
    rw [hd]
    by_cases hov : overV v b.old = true
    · have hs : stepB P b v = overB P b := by unfold stepB waitB; simp [e, hov]
      rw [hs, hov, if_neg (by simp)]
      unfold overB
      refine dr_go (k := b.old == P.st - 1) hp hk.wr hk.wd (fun _ => hk.kn ho.2) (by simp only; omega) ?_ (by simp only; rw [h2]; simp) (by simp only [List.length_append, List.length_singleton]; omega)
      simp only
      rw [h.l5 e]
      rfl
    · have hov2 : overV v b.old = false := by simpa using hov
      have hs : stepB P b v = b := by unfold stepB waitB; simp [e, hov2]
      rw [hs, hov2, if_pos (by simp)]
      exact h
  · have hxn := h.n6 (by omega)
    obtain ⟨k, hl, hkn⟩ := h.l6 (by omega)
    have hwr := hk.wr6 e
    have hs : stepB P b v = goB P ⟨b.nx, b.wd, b.old, b.kn, b.wr + 1⟩ := by unfold stepB waitB; simp [e]
    have hd : stepD P mu x v = ⟨x.n + 1, x.l, x.sn⟩ := by unfold stepD; rw [if_neg (by omega), hl, if_neg (by simp [loT]), if_pos (by omega)]
    rw [hs, hd]
    exact dr_go (k := k) hp (by simp only; omega) hk.wd hk.kn (by simp only; omega) hl hkn hle
  · have hxn := h.n6 (by omega)
    obtain ⟨k, hl, hkn⟩ := h.l6 (by omega)
    have hwr := hk.late (by omega)
    have h7 := hk.n7 e
    have hks : k = false ∧ x.sn = false := by rw [h7] at hkn; cases k <;> cases hx : x.sn <;> rw [hx] at hkn <;> simp at hkn ⊢
    have hd : stepD P mu x v = ⟨x.n, x.l, overV v (P.st - 1)⟩ := by unfold stepD; rw [if_neg (by omega), hl, if_neg (by simp [loT]), if_neg (by omega), if_pos ⟨hks.1, hks.2⟩]
    rw [hd]
    by_cases hov : overV v (P.st - 1) = true
    · have hs : stepB P b v = goB P ⟨b.nx, b.wd, b.old, true, b.wr⟩ := by unfold stepB waitB; simp [e, hov]
      rw [hs, hov]
      exact dr_go (k := k) hp (by simp only; omega) hk.wd (by simp) hxn hl (by simp) hle
    · have hov2 : overV v (P.st - 1) = false := by simpa using hov
      have hs : stepB P b v = b := by unfold stepB waitB; simp [e, hov2]
      rw [hs, hov2]
      have hxe : (⟨x.n, x.l, false⟩ : Dc) = x := by rw [← hks.2]
      rw [hxe]
      exact h
  · have hxn := h.n6 (by omega)
    obtain ⟨k, hl, hkn⟩ := h.l6 (by omega)
    have hwr := hk.late (by omega)
    have h8 := hk.n8 (Or.inl e)
    have hs : stepB P b v = ⟨0, b.wd, b.old, b.kn, b.wr⟩ := by unfold stepB waitB; simp [e]
    have hd : stepD P mu x v = ⟨x.n + 1, x.l, x.sn⟩ := by
      unfold stepD
      rw [if_neg (by omega), hl, if_neg (by simp [loT]), if_neg (by omega), if_neg (fun q => by have q1 : k = false := q.1; rw [q1, q.2, h8] at hkn; simp at hkn)]
    have hok := bk_step hk v
    rw [hs] at hok ⊢
    rw [hd]
    exact ⟨hok, fun q => by simp at q, fun q => by simp at q, fun q => by simp at q, fun q => by simp at q, fun _ => by simp only; omega, fun q => by simp at q, fun q => by simp at q, fun q => by simp at q, fun q => by simp at q, fun q => by simp at q, fun q => by simp at q, hle, fun q => by simp at q, fun q => by simp at q, fun q => by simp at q⟩
end Go.Proofs.Ytbmmicfdnfpcaaa
/- The document's machine of layer 11: how it lies. -/
namespace Go.Proofs.Ytbmmicfdnfpcaaa
open Go.ChangeShapes Go.WideShapes Go.ChangeAt Go.RowKit

def numD (l : List Int) : List Value := l.map (Value.int .i64)
def dkR (s : Int) (mu : Bool) (st : Int) (lv : Value) (sg : List Nat) (n : Int) (kv : Value) (sn : Bool) : Array Value := #[.int .i64 s, .bool mu, .int .i64 st, lv, bsV sg 0, bsV sg 1, bsV sg 2, bsV sg 3, bsV sg 4, bsV sg 5, bsV sg 6, bsV sg 7, .int .i64 n, kv, .bool sn]
def DRaw (w : World) (Y : Nat) (s : Int) (mu : Bool) (st : Int) (lv : Value) (sg : List Nat) (n : Int) (kv : Value) (sn : Bool) : Prop := w.heap[Y]? = some (.cells (dkR s mu st lv sg n kv sn) 62 (0, 0))
theorem DRaw.keep {w : World} {Y : Nat} {s : Int} {mu : Bool} {st : Int} {lv : Value} {sg : List Nat} {n : Int} {kv : Value} {sn : Bool} {w' : World} {F : List Nat} (h : DRaw w Y s mu st lv sg n kv sn) (k : Keep F w w') (hx : Y ∉ F) : DRaw w' Y s mu st lv sg n kv sn := by
  unfold DRaw; rw [k.block _ (heap_lt h) hx]; exact h
theorem DRaw.below {w : World} {Y : Nat} {s : Int} {mu : Bool} {st : Int} {lv : Value} {sg : List Nat} {n : Int} {kv : Value} {sn : Bool} {w' : World} {B : Nat} (h : DRaw w Y s mu st lv sg n kv sn) (k : Below B w w') (hx : Y < B) : DRaw w' Y s mu st lv sg n kv sn := by
  unfold DRaw; rw [k.block _ hx]; exact h
theorem DRaw.cells {w : World} {Y : Nat} {s : Int} {mu : Bool} {st : Int} {lv : Value} {sg : List Nat} {n : Int} {kv : Value} {sn : Bool} (h : DRaw w Y s mu st lv sg n kv sn) : w.cell? ⟨Y, 0, none⟩ = some (.int .i64 s) ∧ w.cell? ⟨Y, 1, none⟩ = some (.bool mu) ∧ w.cell? ⟨Y, 2, none⟩ = some (.int .i64 st) ∧ w.cell? ⟨Y, 3, none⟩ = some lv ∧ w.cell? ⟨Y, 12, none⟩ = some (.int .i64 n) ∧ w.cell? ⟨Y, 13, none⟩ = some kv ∧ w.cell? ⟨Y, 14, none⟩ = some (.bool sn) :=
  ⟨by rw [cell_at h]; rfl, by rw [cell_at h]; rfl, by rw [cell_at h]; rfl, by rw [cell_at h]; rfl, by rw [cell_at h]; rfl, by rw [cell_at h]; rfl, by rw [cell_at h]; rfl⟩
theorem DRaw.sigAt {w : World} {Y : Nat} {s : Int} {mu : Bool} {st : Int} {lv : Value} {sg : List Nat} {n : Int} {kv : Value} {sn : Bool} (h : DRaw w Y s mu st lv sg n kv sn) (j : Nat) (hj : j < 8) : w.cell? ⟨Y, 4 + j, none⟩ = some (bsV sg j) := by
  rw [cell_at h]
  match j, hj with
  | 0, _ | 1, _ | 2, _ | 3, _ | 4, _ | 5, _ | 6, _ | 7, _ => rfl
theorem DRaw.sig {w : World} {Y : Nat} {s : Int} {mu : Bool} {st : Int} {lv : Value} {sg : List Nat} {n : Int} {kv : Value} {sn : Bool} (h : DRaw w Y s mu st lv sg n kv sn) : w.cell? ⟨Y, 4, none⟩ = some (bsV sg 0) ∧ w.cell? ⟨Y, 5, none⟩ = some (bsV sg 1) ∧ w.cell? ⟨Y, 6, none⟩ = some (bsV sg 2) ∧ w.cell? ⟨Y, 7, none⟩ = some (bsV sg 3) ∧ w.cell? ⟨Y, 8, none⟩ = some (bsV sg 4) ∧ w.cell? ⟨Y, 9, none⟩ = some (bsV sg 5) ∧ w.cell? ⟨Y, 10, none⟩ = some (bsV sg 6) ∧ w.cell? ⟨Y, 11, none⟩ = some (bsV sg 7) :=
  ⟨by rw [cell_at h]; rfl, by rw [cell_at h]; rfl, by rw [cell_at h]; rfl, by rw [cell_at h]; rfl, by rw [cell_at h]; rfl, by rw [cell_at h]; rfl, by rw [cell_at h]; rfl, by rw [cell_at h]; rfl⟩
theorem DRaw.set3 {w : World} {Y : Nat} {s : Int} {mu : Bool} {st : Int} {lv : Value} {sg : List Nat} {n : Int} {kv : Value} {sn : Bool} (h : DRaw w Y s mu st lv sg n kv sn) (v : Value) : DRaw (w.setCell ⟨Y, 3, none⟩ v) Y s mu st v sg n kv sn := by unfold DRaw; rw [heap_set h]; rfl
theorem DRaw.set12 {w : World} {Y : Nat} {s : Int} {mu : Bool} {st : Int} {lv : Value} {sg : List Nat} {n : Int} {kv : Value} {sn : Bool} (h : DRaw w Y s mu st lv sg n kv sn) (v : Int) : DRaw (w.setCell ⟨Y, 12, none⟩ (.int .i64 v)) Y s mu st lv sg v kv sn := by unfold DRaw; rw [heap_set h]; rfl
theorem DRaw.set13 {w : World} {Y : Nat} {s : Int} {mu : Bool} {st : Int} {lv : Value} {sg : List Nat} {n : Int} {kv : Value} {sn : Bool} (h : DRaw w Y s mu st lv sg n kv sn) (v : Value) : DRaw (w.setCell ⟨Y, 13, none⟩ v) Y s mu st lv sg n v sn := by unfold DRaw; rw [heap_set h]; rfl
theorem DRaw.set14 {w : World} {Y : Nat} {s : Int} {mu : Bool} {st : Int} {lv : Value} {sg : List Nat} {n : Int} {kv : Value} {sn : Bool} (h : DRaw w Y s mu st lv sg n kv sn) (v : Bool) : DRaw (w.setCell ⟨Y, 14, none⟩ (.bool v)) Y s mu st lv sg n kv v := by unfold DRaw; rw [heap_set h]; rfl
theorem DRaw.setSig {w : World} {Y : Nat} {s : Int} {mu : Bool} {st : Int} {lv : Value} {sg : List Nat} {n : Int} {kv : Value} {sn : Bool} (h : DRaw w Y s mu st lv sg n kv sn) (t : List Nat) :
    DRaw ((((((((w.setCell ⟨Y, 4, none⟩ (bsV t 0)).setCell ⟨Y, 5, none⟩ (bsV t 1)).setCell ⟨Y, 6, none⟩ (bsV t 2)).setCell ⟨Y, 7, none⟩ (bsV t 3)).setCell ⟨Y, 8, none⟩ (bsV t 4)).setCell ⟨Y, 9, none⟩ (bsV t 5)).setCell ⟨Y, 10, none⟩ (bsV t 6)).setCell ⟨Y, 11, none⟩ (bsV t 7)) Y s mu st lv t n kv sn := by
  have h0 : w.heap[Y]? = some (.cells #[.int .i64 s, .bool mu, .int .i64 st, lv, bsV sg 0, bsV sg 1, bsV sg 2, bsV sg 3, bsV sg 4, bsV sg 5, bsV sg 6, bsV sg 7, .int .i64 n, kv, .bool sn] 62 (0, 0)) := h
  have h1 : ((w.setCell ⟨Y, 4, none⟩ (bsV t 0))).heap[Y]? = some (.cells #[.int .i64 s, .bool mu, .int .i64 st, lv, bsV t 0, bsV sg 1, bsV sg 2, bsV sg 3, bsV sg 4, bsV sg 5, bsV sg 6, bsV sg 7, .int .i64 n, kv, .bool sn] 62 (0, 0)) := by rw [heap_set h0]; rfl
  have h2 : (((w.setCell ⟨Y, 4, none⟩ (bsV t 0)).setCell ⟨Y, 5, none⟩ (bsV t 1))).heap[Y]? = some (.cells #[.int .i64 s, .bool mu, .int .i64 st, lv, bsV t 0, bsV t 1, bsV sg 2, bsV sg 3, bsV sg 4, bsV sg 5, bsV sg 6, bsV sg 7, .int .i64 n, kv, .bool sn] 62 (0, 0)) := by rw [heap_set h1]; rfl
  have h3 : ((((w.setCell ⟨Y, 4, none⟩ (bsV t 0)).setCell ⟨Y, 5, none⟩ (bsV t 1)).setCell ⟨Y, 6, none⟩ (bsV t 2))).heap[Y]? = some (.cells #[.int .i64 s, .bool mu, .int .i64 st, lv, bsV t 0, bsV t 1, bsV t 2, bsV sg 3, bsV sg 4, bsV sg 5, bsV sg 6, bsV sg 7, .int .i64 n, kv, .bool sn] 62 (0, 0)) := by rw [heap_set h2]; rfl
  have h4 : (((((w.setCell ⟨Y, 4, none⟩ (bsV t 0)).setCell ⟨Y, 5, none⟩ (bsV t 1)).setCell ⟨Y, 6, none⟩ (bsV t 2)).setCell ⟨Y, 7, none⟩ (bsV t 3))).heap[Y]? = some (.cells #[.int .i64 s, .bool mu, .int .i64 st, lv, bsV t 0, bsV t 1, bsV t 2, bsV t 3, bsV sg 4, bsV sg 5, bsV sg 6, bsV sg 7, .int .i64 n, kv, .bool sn] 62 (0, 0)) := by rw [heap_set h3]; rfl
  have h5 : ((((((w.setCell ⟨Y, 4, none⟩ (bsV t 0)).setCell ⟨Y, 5, none⟩ (bsV t 1)).setCell ⟨Y, 6, none⟩ (bsV t 2)).setCell ⟨Y, 7, none⟩ (bsV t 3)).setCell ⟨Y, 8, none⟩ (bsV t 4))).heap[Y]? = some (.cells #[.int .i64 s, .bool mu, .int .i64 st, lv, bsV t 0, bsV t 1, bsV t 2, bsV t 3, bsV t 4, bsV sg 5, bsV sg 6, bsV sg 7, .int .i64 n, kv, .bool sn] 62 (0, 0)) := by rw [heap_set h4]; rfl
  have h6 : (((((((w.setCell ⟨Y, 4, none⟩ (bsV t 0)).setCell ⟨Y, 5, none⟩ (bsV t 1)).setCell ⟨Y, 6, none⟩ (bsV t 2)).setCell ⟨Y, 7, none⟩ (bsV t 3)).setCell ⟨Y, 8, none⟩ (bsV t 4)).setCell ⟨Y, 9, none⟩ (bsV t 5))).heap[Y]? = some (.cells #[.int .i64 s, .bool mu, .int .i64 st, lv, bsV t 0, bsV t 1, bsV t 2, bsV t 3, bsV t 4, bsV t 5, bsV sg 6, bsV sg 7, .int .i64 n, kv, .bool sn] 62 (0, 0)) := by rw [heap_set h5]; rfl
  have h7 : ((((((((w.setCell ⟨Y, 4, none⟩ (bsV t 0)).setCell ⟨Y, 5, none⟩ (bsV t 1)).setCell ⟨Y, 6, none⟩ (bsV t 2)).setCell ⟨Y, 7, none⟩ (bsV t 3)).setCell ⟨Y, 8, none⟩ (bsV t 4)).setCell ⟨Y, 9, none⟩ (bsV t 5)).setCell ⟨Y, 10, none⟩ (bsV t 6))).heap[Y]? = some (.cells #[.int .i64 s, .bool mu, .int .i64 st, lv, bsV t 0, bsV t 1, bsV t 2, bsV t 3, bsV t 4, bsV t 5, bsV t 6, bsV sg 7, .int .i64 n, kv, .bool sn] 62 (0, 0)) := by rw [heap_set h6]; rfl
  have h8 : (((((((((w.setCell ⟨Y, 4, none⟩ (bsV t 0)).setCell ⟨Y, 5, none⟩ (bsV t 1)).setCell ⟨Y, 6, none⟩ (bsV t 2)).setCell ⟨Y, 7, none⟩ (bsV t 3)).setCell ⟨Y, 8, none⟩ (bsV t 4)).setCell ⟨Y, 9, none⟩ (bsV t 5)).setCell ⟨Y, 10, none⟩ (bsV t 6)).setCell ⟨Y, 11, none⟩ (bsV t 7))).heap[Y]? = some (.cells #[.int .i64 s, .bool mu, .int .i64 st, lv, bsV t 0, bsV t 1, bsV t 2, bsV t 3, bsV t 4, bsV t 5, bsV t 6, bsV t 7, .int .i64 n, kv, .bool sn] 62 (0, 0)) := by rw [heap_set h7]; rfl
  exact h8
/-- The document's machine with its lists. -/
structure DM' (w : World) (base Y : Nat) (P : Bp) (mu : Bool) (x : Dc) (G : List Nat) (lv kv : Value) : Prop where
  m : DRaw w Y (P.s : Int) mu P.st lv P.sg (x.n : Int) kv x.sn
  ownW : w.ownsRow base 36 2 lv P.W.length (wtC P.W)
  ownL : w.ownsRow base 2 1 kv x.l.length (numD x.l)
  G : G = Y :: (lv.ownBlock.toList ++ kv.ownBlock.toList)
  bY : base ≤ Y
def DM (w : World) (base Y : Nat) (P : Bp) (mu : Bool) (x : Dc) (G : List Nat) : Prop := ∃ lv kv, DM' w base Y P mu x G lv kv
theorem own_apart {w : World} {b1 b2 : Nat} {e1 e2 : TypeId} {s1 s2 n1 n2 : Nat} {v1 v2 : Value} {x1 x2 : List Value} (h1 : w.ownsRow b1 e1 s1 v1 n1 x1) (h2 : w.ownsRow b2 e2 s2 v2 n2 x2) (he : e1 ≠ e2) : ∀ k, v1.ownBlock = some k → v2.ownBlock ≠ some k := fun k hk => by
  rcases h1.2 with ⟨rfl, _⟩ | ⟨g, cap, cur, rfl, _, hg, _⟩
  · simp [Value.ownBlock] at hk
  · have : g = k := by simpa [Value.ownBlock] using hk
    subst this
    exact own_ne h2 hg he
theorem DM.lt {w : World} {base Y : Nat} {P : Bp} {mu : Bool} {x : Dc} {G : List Nat} (h : DM w base Y P mu x G) : ∀ b ∈ G, base ≤ b ∧ b < w.heap.size := by
  obtain ⟨lv, kv, h⟩ := h
  intro b hb
  rw [h.G] at hb
  simp only [List.mem_cons, List.mem_append, Option.mem_toList] at hb
  rcases hb with rfl | hb | hb
  · exact ⟨h.bY, heap_lt h.m⟩
  · exact own_block h.ownW b (by simpa using hb)
  · exact own_block h.ownL b (by simpa using hb)
theorem DM'.keep {w w' : World} {base Y : Nat} {P : Bp} {mu : Bool} {x : Dc} {F G : List Nat} {lv kv : Value} (h : DM' w base Y P mu x G lv kv) (k : Keep F w w') (hd : ∀ b ∈ G, b ∉ F) : DM' w' base Y P mu x G lv kv := by
  have hG := h.G
  refine ⟨h.m.keep k (hd _ (by rw [hG]; simp)), own_keep h.ownW k (fun b hb => hd b ?_), own_keep h.ownL k (fun b hb => hd b ?_), h.G, h.bY⟩
  · rw [hG, hb]; simp
  · rw [hG, hb]; simp
theorem DM.keep {w w' : World} {base Y : Nat} {P : Bp} {mu : Bool} {x : Dc} {F G : List Nat} (h : DM w base Y P mu x G) (k : Keep F w w') (hd : ∀ b ∈ G, b ∉ F) : DM w' base Y P mu x G := by
  obtain ⟨lv, kv, h⟩ := h
  exact ⟨lv, kv, h.keep k hd⟩
theorem DM.below {w w' : World} {base Y : Nat} {P : Bp} {mu : Bool} {x : Dc} {G : List Nat} (h : DM w base Y P mu x G) (k : Below w.heap.size w w') : DM w' base Y P mu x G := h.keep (Keep.of_below k []) (fun _ _ => by simp)
/-- One cell of the machine is stored to. -/
theorem DM'.onRow {w w' : World} {base Y : Nat} {P : Bp} {mu : Bool} {x x' : Dc} {G : List Nat} {lv kv : Value} (h : DM' w base Y P mu x G lv kv) (hl : x'.l = x.l) (hr : DRaw w' Y (P.s : Int) mu P.st lv P.sg (x'.n : Int) kv x'.sn) (hk : Keep [Y] w w') : DM' w' base Y P mu x' G lv kv :=
  ⟨hr, own_keep h.ownW hk (fun b hb e => own_ne h.ownW h.m (by decide) (by simp at e; rw [← e]; exact hb)), by rw [hl]; exact own_keep h.ownL hk (fun b hb e => own_ne h.ownL h.m (by decide) (by simp at e; rw [← e]; exact hb)), h.G, h.bY⟩
/-- Both beside the document's memory. -/
structure DJ (w : World) (base : Nat) (q : Value) (c r : Nat) (L : List Ac) (K : List Nat) (Y : Nat) (P : Bp) (mu : Bool) (x : Dc) (G : List Nat) : Prop where
  ref : RefAt w base q c r L K
  dm : DM w base Y P mu x G
  apart : ∀ b ∈ G, b ∉ K
theorem DJ.below {w w' : World} {base : Nat} {q : Value} {c r : Nat} {L : List Ac} {K : List Nat} {Y : Nat} {P : Bp} {mu : Bool} {x : Dc} {G : List Nat} (h : DJ w base q c r L K Y P mu x G) (hb : Below w.heap.size w w') : DJ w' base q c r L K Y P mu x G :=
  ⟨h.ref.below hb, h.dm.below hb, h.apart⟩
theorem DJ.onRef {w w' : World} {base : Nat} {q : Value} {c r : Nat} {L L' : List Ac} {K K' : List Nat} {Y : Nat} {P : Bp} {mu : Bool} {x : Dc} {G : List Nat} (h : DJ w base q c r L K Y P mu x G) (hr : RefAt w' base q c r L' K') (hn : Next K K' w w') : DJ w' base q c r L' K' Y P mu x G :=
  ⟨hr, h.dm.keep hn.1 h.apart, fun b hb hk => by
    rcases hn.2 b hk with h1 | h1
    · exact h.apart b hb h1
    · have := (h.dm.lt b hb).2; omega⟩
theorem DJ.onDm {w w' : World} {base : Nat} {q : Value} {c r : Nat} {L : List Ac} {K : List Nat} {Y : Nat} {P : Bp} {mu : Bool} {x x' : Dc} {G G' : List Nat} (h : DJ w base q c r L K Y P mu x G) (hr : DM w' base Y P mu x' G') (hn : Next G G' w w') : DJ w' base q c r L K Y P mu x' G' :=
  ⟨h.ref.keep hn.1 (fun b hb hg => h.apart b hg hb), hr, fun b hb hk => by
    rcases hn.2 b hb with h1 | h1
    · exact h.apart b h1 hk
    · have := (h.ref.lt b hk).2; omega⟩
/-- A list of numbers that it keeps, read. -/
theorem own_num {w : World} {base g cap : Nat} {l : List Int} (h : w.ownsRow base 2 1 (.slice (some ⟨g, 0, none⟩) l.length cap) l.length (numD l)) (i : Nat) (hi : i < l.length) : w.cell? ⟨g, i, none⟩ = some (.int .i64 (l.getD i 0)) := by
  rcases h.2 with ⟨e, _⟩ | ⟨g', cap', cur, e, _, hh, _, _, _, ht⟩
  · cases e
  · simp at e
    obtain ⟨rfl, rfl⟩ := e
    rw [cell_at hh]
    have hu : (numD l)[i]? = some (.int .i64 (l.getD i 0)) := by simp [numD, hi]
    rw [← ht, List.getElem?_take] at hu
    split at hu
    · simpa using hu
    · cases hu
/-! What is looked at, as it is answered. -/
def loC (o : Lo) : Array Value := #[.bool o.th, .bool o.kn, .bool o.me, .bool o.hd, .int .i64 o.st, .int .i64 o.a.k, .int .i64 o.a.i, .int .i64 o.a.j]
def noLo : Array Value := #[.bool false, .bool false, .bool false, .bool false, .int .i64 0, .int .i64 0, .int .i64 0, .int .i64 0]
theorem ret_lo {fn : Func} {p : Tmp} {R : Ending → World → Prop} {a : Act} {w : World} {g : Nat} {cs : Array Value} (h : fn.results = #[.cell p 98]) (hp : a.tmps.getD p undef = .pointer (some ⟨g, 0, none⟩))
    (hg : w.heap[g]? = some (.cells cs 98 (0, 0))) (hz : cs.size = 8) (hd : a.defers = []) (hR : R (.returned (.agg cs)) w) : bodyPost Try.prog fn R .ret a w :=
  bodyPost_ret (results_cell_row h _ _ g 98 cs (0, 0) _ hp hg Try.underlying98 rfl (by rw [hz]; kernel_rfl)) hd hR
def laidL (w : World) (B : Nat) (c0 c1 c2 c3 c4 c5 c6 c7 : Value) : World := ((((((((w.setCell ⟨B, 0, none⟩ c0).setCell ⟨B, 1, none⟩ c1).setCell ⟨B, 2, none⟩ c2).setCell ⟨B, 3, none⟩ c3).setCell ⟨B, 4, none⟩ c4).setCell ⟨B, 5, none⟩ c5).setCell ⟨B, 6, none⟩ c6).setCell ⟨B, 7, none⟩ c7)
theorem belowL {w0 w : World} {A B : Nat} (hk : Below A w0 w) (hB : A ≤ B) (c0 c1 c2 c3 c4 c5 c6 c7 : Value) : Below A w0 (laidL w B c0 c1 c2 c3 c4 c5 c6 c7) :=
  ((((((((hk.setCell hB _).setCell hB _).setCell hB _).setCell hB _).setCell hB _).setCell hB _).setCell hB _).setCell hB _)
theorem lo_set {w : World} {B : Nat} (h : w.heap[B]? = some (.cells noLo 98 (0, 0))) (c0 c1 c2 c3 c4 c5 c6 c7 : Value) :
    (laidL w B c0 c1 c2 c3 c4 c5 c6 c7).heap[B]? = some (.cells #[c0, c1, c2, c3, c4, c5, c6, c7] 98 (0, 0)) := by
  have h0 : w.heap[B]? = some (.cells #[.bool false, .bool false, .bool false, .bool false, .int .i64 0, .int .i64 0, .int .i64 0, .int .i64 0] 98 (0, 0)) := h
  have h1 : ((w.setCell ⟨B, 0, none⟩ c0)).heap[B]? = some (.cells #[c0, .bool false, .bool false, .bool false, .int .i64 0, .int .i64 0, .int .i64 0, .int .i64 0] 98 (0, 0)) := by rw [heap_set h0]; rfl
  have h2 : (((w.setCell ⟨B, 0, none⟩ c0).setCell ⟨B, 1, none⟩ c1)).heap[B]? = some (.cells #[c0, c1, .bool false, .bool false, .int .i64 0, .int .i64 0, .int .i64 0, .int .i64 0] 98 (0, 0)) := by rw [heap_set h1]; rfl
  have h3 : ((((w.setCell ⟨B, 0, none⟩ c0).setCell ⟨B, 1, none⟩ c1).setCell ⟨B, 2, none⟩ c2)).heap[B]? = some (.cells #[c0, c1, c2, .bool false, .int .i64 0, .int .i64 0, .int .i64 0, .int .i64 0] 98 (0, 0)) := by rw [heap_set h2]; rfl
  have h4 : (((((w.setCell ⟨B, 0, none⟩ c0).setCell ⟨B, 1, none⟩ c1).setCell ⟨B, 2, none⟩ c2).setCell ⟨B, 3, none⟩ c3)).heap[B]? = some (.cells #[c0, c1, c2, c3, .int .i64 0, .int .i64 0, .int .i64 0, .int .i64 0] 98 (0, 0)) := by rw [heap_set h3]; rfl
  have h5 : ((((((w.setCell ⟨B, 0, none⟩ c0).setCell ⟨B, 1, none⟩ c1).setCell ⟨B, 2, none⟩ c2).setCell ⟨B, 3, none⟩ c3).setCell ⟨B, 4, none⟩ c4)).heap[B]? = some (.cells #[c0, c1, c2, c3, c4, .int .i64 0, .int .i64 0, .int .i64 0] 98 (0, 0)) := by rw [heap_set h4]; rfl
  have h6 : (((((((w.setCell ⟨B, 0, none⟩ c0).setCell ⟨B, 1, none⟩ c1).setCell ⟨B, 2, none⟩ c2).setCell ⟨B, 3, none⟩ c3).setCell ⟨B, 4, none⟩ c4).setCell ⟨B, 5, none⟩ c5)).heap[B]? = some (.cells #[c0, c1, c2, c3, c4, c5, .int .i64 0, .int .i64 0] 98 (0, 0)) := by rw [heap_set h5]; rfl
  have h7 : ((((((((w.setCell ⟨B, 0, none⟩ c0).setCell ⟨B, 1, none⟩ c1).setCell ⟨B, 2, none⟩ c2).setCell ⟨B, 3, none⟩ c3).setCell ⟨B, 4, none⟩ c4).setCell ⟨B, 5, none⟩ c5).setCell ⟨B, 6, none⟩ c6)).heap[B]? = some (.cells #[c0, c1, c2, c3, c4, c5, c6, .int .i64 0] 98 (0, 0)) := by rw [heap_set h6]; rfl
  have h8 : (((((((((w.setCell ⟨B, 0, none⟩ c0).setCell ⟨B, 1, none⟩ c1).setCell ⟨B, 2, none⟩ c2).setCell ⟨B, 3, none⟩ c3).setCell ⟨B, 4, none⟩ c4).setCell ⟨B, 5, none⟩ c5).setCell ⟨B, 6, none⟩ c6).setCell ⟨B, 7, none⟩ c7)).heap[B]? = some (.cells #[c0, c1, c2, c3, c4, c5, c6, c7] 98 (0, 0)) := by rw [heap_set h7]; rfl
  exact h8
theorem lo_cells {w : World} {B : Nat} (h : w.heap[B]? = some (.cells noLo 98 (0, 0))) :
    (w.cell? ⟨B, 0, none⟩ = some (.bool false) ∧ w.cell? ⟨B, 1, none⟩ = some (.bool false) ∧ w.cell? ⟨B, 2, none⟩ = some (.bool false) ∧ w.cell? ⟨B, 3, none⟩ = some (.bool false) ∧ w.cell? ⟨B, 4, none⟩ = some (.int .i64 0) ∧ w.cell? ⟨B, 5, none⟩ = some (.int .i64 0) ∧ w.cell? ⟨B, 6, none⟩ = some (.int .i64 0) ∧ w.cell? ⟨B, 7, none⟩ = some (.int .i64 0)) ∧
    (w.frozen? ⟨B, 0, none⟩ = false ∧ w.frozen? ⟨B, 1, none⟩ = false ∧ w.frozen? ⟨B, 2, none⟩ = false ∧ w.frozen? ⟨B, 3, none⟩ = false ∧ w.frozen? ⟨B, 4, none⟩ = false ∧ w.frozen? ⟨B, 5, none⟩ = false ∧ w.frozen? ⟨B, 6, none⟩ = false ∧ w.frozen? ⟨B, 7, none⟩ = false) :=
  ⟨⟨by rw [cell_at h]; rfl, by rw [cell_at h]; rfl, by rw [cell_at h]; rfl, by rw [cell_at h]; rfl, by rw [cell_at h]; rfl, by rw [cell_at h]; rfl, by rw [cell_at h]; rfl, by rw [cell_at h]; rfl⟩, frozen_at h 0, frozen_at h 1, frozen_at h 2, frozen_at h 3, frozen_at h 4, frozen_at h 5, frozen_at h 6, frozen_at h 7⟩
theorem lo_read {w : World} {B : Nat} {o : Lo} (h : w.heap[B]? = some (.cells (loC o) 98 (0, 0))) :
    w.cell? ⟨B, 0, none⟩ = some (.bool o.th) ∧ w.cell? ⟨B, 1, none⟩ = some (.bool o.kn) ∧ w.cell? ⟨B, 2, none⟩ = some (.bool o.me) ∧ w.cell? ⟨B, 3, none⟩ = some (.bool o.hd) ∧ w.cell? ⟨B, 4, none⟩ = some (.int .i64 o.st) ∧ w.cell? ⟨B, 5, none⟩ = some (.int .i64 o.a.k) ∧ w.cell? ⟨B, 6, none⟩ = some (.int .i64 o.a.i) ∧ w.cell? ⟨B, 7, none⟩ = some (.int .i64 o.a.j) :=
  ⟨by rw [cell_at h]; rfl, by rw [cell_at h]; rfl, by rw [cell_at h]; rfl, by rw [cell_at h]; rfl, by rw [cell_at h]; rfl, by rw [cell_at h]; rfl, by rw [cell_at h]; rfl, by rw [cell_at h]; rfl⟩
end Go.Proofs.Ytbmmicfdnfpcaaa
/- The document's machine of layer 11: Takes, Left, Over, lacks. -/
namespace Go.Proofs.Ytbmmicfdnfpcaaa
open Go.ChangeShapes Go.WideShapes Go.ChangeAt Go.RowKit
attribute [local go_sem ↓] Go.wp_at_zero Go.wp_at_succ

theorem RefAt.sz {w : World} {base R : Nat} {c r : Nat} {L : List Ac} {F : List Nat} (h : RefAt w base (.pointer (some ⟨R, 0, none⟩)) c r L F) : w.cell? ⟨R, 0, none⟩ = some (.int .i64 (c : Int)) ∧ w.cell? ⟨R, 1, none⟩ = some (.int .i64 (r : Int)) := by
  obtain ⟨R', v, h⟩ := h
  obtain rfl : R = R' := by simpa using h.p
  exact ⟨by rw [cell_at h.m]; rfl, by rw [cell_at h.m]; rfl⟩
theorem tkB_false {s st : Int} {W : List Wt} (h : ¬ (1 ≤ s ∧ s ≤ 16 ∧ 1 ≤ st ∧ st ≤ 1099511627776 ∧ W.length ≤ 24)) : tkB s st W = false := by
  rw [← Bool.not_eq_true]
  intro e
  unfold tkB at e
  simp only [Bool.and_eq_true, decide_eq_true_eq] at e
  exact h ⟨e.1.1.1.1.1, e.1.1.1.1.2, e.1.1.1.2, e.1.1.2, e.1.2⟩
set_option maxRecDepth 10000 in
set_option maxHeartbeats 1600000 in
theorem dtakes_any (w : World) (raw s wr n : Int) (mu : Bool) (tr : Int) (v : Value) (st : Int) {lv : Value} {W : List Wt} (hl : WL w lv W) :
    Calls Try.prog 8 #[confB raw s wr n mu tr v, .int .i64 st, lv] w fun e w' => e = .returned (.bool (tkB s st W)) ∧ Below w.heap.size w w' := by
  by_cases hno : 1 ≤ s ∧ s ≤ 16 ∧ 1 ≤ st ∧ st ≤ 1099511627776 ∧ W.length ≤ 24
  · obtain ⟨h1, h2, h3, h4, h5⟩ := hno
    obtain ⟨a, cap, rfl, _, hcc⟩ := hl
    have HD : Hid (∀ w' i, Below w.heap.size w w' → i < W.length → ∃ x, a = some x ∧ x.block < w.heap.size ∧ w'.cell? (x.add (i * 2)) = some (.int .i64 (W.getD i noWt).c)) := fun w' i k hi => by
      rcases hcc with h | ⟨x, e1, e2, e3⟩
      · rw [h] at hi; simp at hi
      · exact ⟨x, e1, e2, (k.cell (p := x.add (i * 2)) (by rw [add_block]; exact e2)).trans (e3 i hi).1⟩
    have HTY : Hid ((∀ i, i < W.length → 0 ≤ (W.getD i noWt).c ∧ (W.getD i noWt).c < 1024) → tkB s st W = true) := fun hh => by
      unfold tkB
      simp only [Bool.and_eq_true, decide_eq_true_eq, List.all_eq_true]
      refine ⟨⟨⟨⟨⟨h1, h2⟩, h3⟩, h4⟩, h5⟩, fun x hx => ?_⟩
      obtain ⟨i, hi, rfl⟩ := List.getElem_of_mem hx
      have := hh i hi
      rw [List.getD_eq_getElem?_getD, List.getElem?_eq_getElem hi] at this
      exact this
    have HTN : Hid (∀ i, i < W.length → ¬ (0 ≤ (W.getD i noWt).c ∧ (W.getD i noWt).c < 1024) → tkB s st W = false) := fun i hi hh => by
      unfold tkB
      rw [Bool.and_eq_false_iff]
      right
      rw [List.all_eq_false]
      exact ⟨W.getD i noWt, by rw [List.getD_eq_getElem?_getD, List.getElem?_eq_getElem hi]; simp, by simpa using hh⟩
    generalize tkB s st W = tk at *
    have d0 : ¬ s < 1 := by omega
    have d1 : ¬ s > 16 := by omega
    have d2 : ¬ st < 1 := by omega
    have d3 : ¬ st > 1099511627776 := by omega
    have d4 : ¬ ((W.length : Nat) : Int) > 24 := by omega
    unfold confB
    clear hcc h1 h2 h3 h4
    generalize W.length = m at *
    go_enter Try.func8, Try.ntmps8
    go_wp2
    go_loopw [7] (fun iv wr => ∃ q : Nat, q ≤ m ∧ iv = .int .i64 q ∧ Below w.heap.size w wr ∧ ∀ i, i < q → 0 ≤ (W.getD i noWt).c ∧ (W.getD i noWt).c < 1024) (fun iv _ => m - (intOf iv).toNat)
    case atStart => exact ⟨0, by omega, rfl, below_a1 _ _, fun i hi => by omega⟩
    case round =>
      obtain ⟨q, hq, rfl, hb, hno⟩ := hrel
      have HB : Hid (Below w.heap.size w wr) := hb
      have HNO : Hid (∀ i, i < q → 0 ≤ (W.getD i noWt).c ∧ (W.getD i noWt).c < 1024) := hno
      clear hb hno
      by_cases hlt : q < m
      · have hlt' : (q : Int) < (m : Int) := by omega
        have g4 : wrap64 ((q : Int) + 1) = (q : Int) + 1 := by unfold wrap64; omega
        obtain ⟨x, rfl, hxb, c0⟩ := HD.out _ q HB.out hlt
        have HTNQ := HTN.out q hlt
        have HNX : Hid ((0 ≤ (W.getD q noWt).c ∧ (W.getD q noWt).c < 1024) → ∀ i, i < q + 1 → 0 ≤ (W.getD i noWt).c ∧ (W.getD i noWt).c < 1024) := fun hh i hi => by
          by_cases e : i = q
          · subst e; exact hh
          · exact HNO.out i (by omega)
        generalize (W.getD q noWt).c = yc at *
        by_cases hyc : 0 ≤ yc ∧ yc < 1024
        · have HYC : Hid (0 ≤ yc ∧ yc < 1024) := hyc
          have y0 : ¬ yc < 0 := by omega
          have y1 : ¬ yc ≥ 1024 := by omega
          clear HTNQ hyc
          go_wp2
          go_roundw
          case rel => exact ⟨q + 1, by omega, by go_num, HB.out, HNX.out HYC.out⟩
          case measure => simp [intOf]; omega
        · have HT0 : Hid (tk = false) := HTNQ hyc
          have hyc2 : yc < 0 ∨ (¬ yc < 0 ∧ yc ≥ 1024) := by omega
          clear HTNQ hyc
          rcases hyc2 with y0 | ⟨y0, y1⟩
          all_goals
            go_wp2
            go_ret
            exact ⟨by (rw [HT0.out]) <;> rfl, HB.out⟩
      · have hqe : q = m := by omega
        subst hqe
        have hlt' : ¬ (q : Int) < (q : Int) := by omega
        have HTT : Hid (tk = true) := HTY.out HNO.out
        go_wp2
        go_ret
        exact ⟨by (rw [HTT.out]) <;> rfl, HB.out⟩
  · rw [tkB_false hno]
    obtain ⟨a, cap, rfl, _, _⟩ := hl
    unfold confB
    generalize W.length = m at *
    have hc : s < 1 ∨ (¬ s < 1 ∧ s > 16) ∨ (¬ s < 1 ∧ ¬ s > 16 ∧ st < 1) ∨ (¬ s < 1 ∧ ¬ s > 16 ∧ ¬ st < 1 ∧ st > 1099511627776) ∨ (¬ s < 1 ∧ ¬ s > 16 ∧ ¬ st < 1 ∧ ¬ st > 1099511627776 ∧ (m : Int) > 24) := by omega
    clear hno
    rcases hc with c0 | ⟨c0, c1⟩ | ⟨c0, c1, c2⟩ | ⟨c0, c1, c2, c3⟩ | ⟨c0, c1, c2, c3, c4⟩
    all_goals
      go_enter Try.func8, Try.ntmps8
      go_wp2
      go_ret
      exact ⟨rfl, below_a1 _ _⟩
/-- How many are written, as the document reckons it. -/
def lfD (n m : Nat) : Nat := if n < 9 then 0 else if m < n - 9 then m else n - 9
theorem dleft_any {w : World} {base Y : Nat} {P : Bp} {mu : Bool} {x : Dc} {G : List Nat} {lv kv : Value} (h : DM' w base Y P mu x G lv kv) (hm : P.W.length ≤ 24) (hn : x.n ≤ 34) :
    Calls Try.prog 19 #[.pointer (some ⟨Y, 0, none⟩)] w fun e w' => e = .returned (.int .i64 ((P.W.length : Int) - (lfD x.n P.W.length : Nat))) ∧ Below w.heap.size w w' := by
  obtain ⟨y0, y1, y2, y3, y12, y13, y14⟩ := h.m.cells
  obtain ⟨la, lcap, rfl⟩ := own_slice h.ownW
  have hY : Y < w.heap.size := heap_lt h.m
  generalize P.W.length = m at *
  generalize x.n = n at *
  have b1 : wrap64 ((n : Int) - 9) = (n : Int) - 9 := by unfold wrap64; omega
  have hc : (n < 9 ∧ lfD n m = 0) ∨ (¬ n < 9 ∧ m < n - 9 ∧ lfD n m = m) ∨ (¬ n < 9 ∧ ¬ m < n - 9 ∧ lfD n m = n - 9) := by
    unfold lfD
    by_cases h1 : n < 9
    · exact Or.inl ⟨h1, if_pos h1⟩
    · by_cases h2 : m < n - 9
      · exact Or.inr (Or.inl ⟨h1, h2, by rw [if_neg h1, if_pos h2]⟩)
      · exact Or.inr (Or.inr ⟨h1, h2, by rw [if_neg h1, if_neg h2]⟩)
  clear h
  rcases hc with ⟨c1, c2⟩ | ⟨c1, c2, c3⟩ | ⟨c1, c2, c3⟩
  · rw [c2]
    have d1 : (n : Int) - 9 < 0 := by omega
    have d2 : ¬ (0 : Int) > (m : Int) := by omega
    go_enter Try.func19, Try.ntmps19
    go_wp2
    go_ret
    exact ⟨by simp, Below.refl _ _⟩
  · rw [c3]
    have d1 : ¬ (n : Int) - 9 < 0 := by omega
    have d2 : (n : Int) - 9 > (m : Int) := by omega
    go_enter Try.func19, Try.ntmps19
    go_wp2
    go_ret
    exact ⟨by simp, Below.refl _ _⟩
  · rw [c3]
    have d1 : ¬ (n : Int) - 9 < 0 := by omega
    have d2 : ¬ (n : Int) - 9 > (m : Int) := by omega
    have b2 : wrap64 ((m : Int) - ((n : Int) - 9)) = (m : Int) - ((n : Int) - 9) := by unfold wrap64; omega
    have e1 : (m : Int) - ((n - 9 : Nat) : Int) = (m : Int) - ((n : Int) - 9) := by omega
    rw [e1]
    go_enter Try.func19, Try.ntmps19
    go_wp2
    go_ret
    exact ⟨rfl, Below.refl _ _⟩
theorem dover_any {w : World} {base Y : Nat} {P : Bp} {mu : Bool} {x : Dc} {G : List Nat} {lv kv : Value} (h : DM' w base Y P mu x G lv kv) (hm : P.W.length ≤ 24) :
    Calls Try.prog 33 #[.pointer (some ⟨Y, 0, none⟩)] w fun e w' => e = .returned (.bool (decide (x.n = P.W.length + 10))) ∧ Below w.heap.size w w' := by
  obtain ⟨y0, y1, y2, y3, y12, y13, y14⟩ := h.m.cells
  obtain ⟨la, lcap, rfl⟩ := own_slice h.ownW
  have hY : Y < w.heap.size := heap_lt h.m
  generalize P.W.length = m at *
  generalize x.n = n at *
  have b1 : IntKind.i64.wrap ((m : Int) + 10) = (m : Int) + 10 := by rw [IntKind.wrap_i64]; omega
  have e1 : decide (n = m + 10) = ((n : Int) == (m : Int) + 10) := by
    by_cases e : n = m + 10
    · rw [decide_eq_true e]; symm; simp; omega
    · rw [decide_eq_false e]; symm; simp; omega
  rw [e1]
  clear h
  go_enter Try.func33, Try.ntmps33
  go_wp2_with fail
  go_quiet (fail)
  go_wp2
  go_ret
  exact ⟨rfl, below_drawn (Below.refl _ _) _⟩
set_option maxRecDepth 10000 in
set_option maxHeartbeats 1600000 in
theorem dlacks_any {w : World} {base Y : Nat} {P : Bp} {mu : Bool} {x : Dc} {G : List Nat} {lv kv q : Value} {c r : Nat} {L : List Ac} {K : List Nat} (h : DM' w base Y P mu x G lv kv) (hr : RefAt w base q c r L K) (hm : P.W.length ≤ 24) :
    Calls Try.prog 34 #[.pointer (some ⟨Y, 0, none⟩), q] w fun e w' => e = .returned (.bool (!(decide (r = P.s) && P.W.all fun x => decide (x.c < (c : Int))))) ∧ Below w.heap.size w w' := by
  obtain ⟨R, rfl⟩ := hr.ptr
  have HZ : Hid (∀ w', Below w.heap.size w w' → w'.cell? ⟨R, 0, none⟩ = some (.int .i64 (c : Int)) ∧ w'.cell? ⟨R, 1, none⟩ = some (.int .i64 (r : Int))) := fun w' hb => (hr.below hb).sz
  have hY : Y < w.heap.size := heap_lt h.m
  obtain ⟨la, lcap, hlv⟩ := own_slice h.ownW
  have HY : Hid (∀ w', Below w.heap.size w w' → w'.cell? ⟨Y, 0, none⟩ = some (.int .i64 (P.s : Int)) ∧ w'.cell? ⟨Y, 3, none⟩ = some (.slice la P.W.length lcap)) := fun w' hb => by
    obtain ⟨y0, y1, y2, y3, y12, y13, y14⟩ := (h.m.below hb hY).cells
    exact ⟨y0, by rw [y3, hlv]⟩
  have HC : Hid (∀ w', Below w.heap.size w w' → ∀ i, i < P.W.length → ∃ g, la = some ⟨g, 0, none⟩ ∧ w'.cell? ⟨g, i * 2, none⟩ = some (.int .i64 (P.W.getD i noWt).c)) := fun w' hb i hi => by
    have ho := own_keep h.ownW (Keep.of_below hb []) (fun _ _ => by simp)
    rw [hlv] at ho
    obtain ⟨g, cap2, hfm, -⟩ := ho.form (by omega)
    simp at hfm
    obtain ⟨rfl, rfl⟩ := hfm
    exact ⟨g, rfl, (own_wr ho i hi).1⟩
  by_cases hrs : r = P.s
  · rw [decide_eq_true hrs, Bool.true_and]
    have HTY : Hid ((∀ i, i < P.W.length → (P.W.getD i noWt).c < (c : Int)) → (!(P.W.all fun x => decide (x.c < (c : Int)))) = false) := fun hh => by
      rw [Bool.not_eq_false', List.all_eq_true]
      intro x hx
      obtain ⟨i, hi, rfl⟩ := List.getElem_of_mem hx
      have := hh i hi
      rw [List.getD_eq_getElem?_getD, List.getElem?_eq_getElem hi] at this
      simpa using this
    have HTN : Hid (∀ i, i < P.W.length → ¬ (P.W.getD i noWt).c < (c : Int) → (!(P.W.all fun x => decide (x.c < (c : Int)))) = true) := fun i hi hh => by
      rw [Bool.not_eq_true', List.all_eq_false]
      exact ⟨P.W.getD i noWt, by rw [List.getD_eq_getElem?_getD, List.getElem?_eq_getElem hi]; simp, by simpa using hh⟩
    generalize (!(P.W.all fun x => decide (x.c < (c : Int)))) = lk at *
    have k1 : ((r : Int) == (P.s : Int)) = true := by rw [hrs]; simp
    have k2 : ((r : Int) != (P.s : Int)) = false := by rw [bne, k1]; rfl
    obtain ⟨z0, z1⟩ := HZ.out _ (Below.refl _ _)
    obtain ⟨y0, y3⟩ := HY.out _ (Below.refl _ _)
    have hR : R < w.heap.size := World.block_lt_of_cell? _ _ z1
    clear h hr hlv hrs
    generalize hW : P.W = W at *
    generalize W.length = m at *
    generalize (P.s : Int) = s at *
    clear hW
    go_enter Try.func34, Try.ntmps34
    go_wp2_with fail
    go_quiet (fail)
    obtain ⟨x5, hx5⟩ : ∃ x5, x5 = w.drewN nq := ⟨_, rfl⟩
    rw [← hx5]
    have HB5 : Hid (Below w.heap.size w x5) := by rw [Hid, hx5]; exact below_drawn (Below.refl _ _) _
    clear hx5 y0 y3 z0 z1 k1
    go_wp2
    clear k2
    go_loopw [5] (fun iv wr => ∃ q : Nat, q ≤ m ∧ iv = .int .i64 q ∧ Below w.heap.size w wr ∧ ∀ i, i < q → (W.getD i noWt).c < (c : Int)) (fun iv _ => m - (intOf iv).toNat)
    case atStart => exact ⟨0, by omega, rfl, HB5.out, fun i hi => by omega⟩
    case round =>
      obtain ⟨q, hq, rfl, hb, hno⟩ := hrel
      have HB : Hid (Below w.heap.size w wr) := hb
      have HNO : Hid (∀ i, i < q → (W.getD i noWt).c < (c : Int)) := hno
      clear hb hno HB5
      obtain ⟨z0, z1⟩ := HZ.out _ HB.out
      obtain ⟨y0, y3⟩ := HY.out _ HB.out
      by_cases hlt : q < m
      · have hlt' : (q : Int) < (m : Int) := by omega
        have g4 : wrap64 ((q : Int) + 1) = (q : Int) + 1 := by unfold wrap64; omega
        obtain ⟨g, rfl, c0⟩ := HC.out _ HB.out q hlt
        have HTNQ := HTN.out q hlt
        have HNX : Hid ((W.getD q noWt).c < (c : Int) → ∀ i, i < q + 1 → (W.getD i noWt).c < (c : Int)) := fun hh i hi => by
          by_cases e : i = q
          · subst e; exact hh
          · exact HNO.out i (by omega)
        generalize (W.getD q noWt).c = yc at *
        by_cases hyc : yc < (c : Int)
        · have y1 : decide ((c : Int) ≤ yc) = false := decide_eq_false (by omega)
          have HYC : Hid (yc < (c : Int)) := hyc
          clear HTNQ hyc
          go_wp2_with fail
          go_quiet (fail)
          go_wp2
          go_roundw
          case rel => exact ⟨q + 1, by omega, by go_num, below_drawn HB.out _, HNX.out HYC.out⟩
          case measure => simp [intOf]; omega
        · have HT0 : Hid (lk = true) := HTNQ (by first | exact hyc | omega)
          have y1 : decide ((c : Int) ≤ yc) = true := decide_eq_true (by omega)
          clear HTNQ hyc
          go_wp2_with fail
          go_quiet (fail)
          go_wp2
          go_ret
          exact ⟨by (rw [HT0.out]) <;> rfl, below_drawn HB.out _⟩
      · have hqe : q = m := by omega
        subst hqe
        have hlt' : ¬ (q : Int) < (q : Int) := by omega
        have HTT : Hid (lk = false) := HTY.out HNO.out
        go_wp2
        go_ret
        exact ⟨by (rw [HTT.out]) <;> rfl, HB.out⟩
  · rw [decide_eq_false hrs, Bool.false_and, Bool.not_false]
    have k1 : ((r : Int) == (P.s : Int)) = false := by simp; omega
    have k2 : ((r : Int) != (P.s : Int)) = true := by rw [bne, k1]; rfl
    obtain ⟨z0, z1⟩ := HZ.out _ (Below.refl _ _)
    obtain ⟨y0, y3⟩ := HY.out _ (Below.refl _ _)
    have hR : R < w.heap.size := World.block_lt_of_cell? _ _ z1
    clear h hr hlv hrs
    go_enter Try.func34, Try.ntmps34
    go_wp2_with fail
    go_quiet (fail)
    go_wp2
    go_ret
    exact ⟨rfl, below_drawn (Below.refl _ _) _⟩
end Go.Proofs.Ytbmmicfdnfpcaaa
/- The document's machine of layer 11: what it looks at next. -/
namespace Go.Proofs.Ytbmmicfdnfpcaaa
open Go.ChangeShapes Go.WideShapes Go.ChangeAt Go.RowKit
attribute [local go_sem ↓] Go.wp_at_zero Go.wp_at_succ

theorem drop_at_end {l : List Int} {a : Nat} (h : a = l.length) : l.drop a = [] := by rw [h]; exact List.drop_length
theorem drop_at_in {l : List Int} {a : Nat} (h : a < l.length) : l.drop a = l.getD a 0 :: l.drop (a + 1) := by
  rw [List.drop_eq_getElem_cons h, List.getD_eq_getElem?_getD, List.getElem?_eq_getElem h]
  rfl
theorem lkE_end {P : Bp} {st : Int} {l : List Int} {a : Nat} (h : a = l.length) : lkE P st (l.drop a) = loH P st true := by rw [drop_at_end h]; rfl
theorem lkE_in {P : Bp} {st : Int} {l : List Int} {a : Nat} (h : a < l.length) : lkE P st (l.drop a) = loT (st == P.st - 1) := by rw [drop_at_in h]; rfl
set_option maxRecDepth 100000 in
set_option maxHeartbeats 6400000 in
theorem looks_known {w : World} {base Y : Nat} {P : Bp} {mu : Bool} {x : Dc} {G : List Nat} {lv kv : Value} (h : DM' w base Y P mu x G lv kv) (hk : knB P mu = true) :
    Calls Try.prog 36 #[.pointer (some ⟨Y, 0, none⟩)] w fun e w' => e = .returned (.agg (loC (lkD P mu x.l))) ∧ Below w.heap.size w w' := by
  have HE : Hid (loC (lkD P mu x.l) = #[.bool true, .bool true, .bool false, .bool false, .int .i64 0, .int .i64 0, .int .i64 0, .int .i64 0]) := by rw [Hid]; unfold lkD; rw [hk]; rfl
  obtain ⟨y0, y1, y2, y3, y12, y13, y14⟩ := h.m.cells
  have hY : Y < w.heap.size := heap_lt h.m
  rw [HE.out]
  have hc : mu = false ∨ (mu = true ∧ ((P.s : Int) == 1) = true) ∨ (mu = true ∧ ((P.s : Int) == 1) = false ∧ (P.st == 1) = true) := by
    unfold knB at hk
    cases mu
    · exact Or.inl rfl
    · right
      by_cases h1 : P.s = 1
      · left; exact ⟨rfl, by simp [h1]⟩
      · right
        have h2 : P.st = 1 := by simpa [h1] using hk
        exact ⟨rfl, by simp; omega, by simp [h2]⟩
  clear h hk HE
  rcases hc with rfl | ⟨rfl, k1⟩ | ⟨rfl, k1, k2⟩
  all_goals
    go_enter Try.func36, Try.ntmps36
    go_wp2
    exact ret_lo rfl rfl (heap_alloc_new _ _) rfl rfl ⟨rfl, below_a1 _ _⟩
set_option maxRecDepth 100000 in
set_option maxHeartbeats 6400000 in
theorem looks_on {w : World} {base Y : Nat} {P : Bp} {mu : Bool} {x : Dc} {G : List Nat} {lv kv : Value} (h : DM' w base Y P mu x G lv kv) (hp : BpOk P) (hk : knB P mu = false) (hw : ∀ v ∈ x.l, W64 v) (hlen : x.l.length ≤ 9 * P.s) :
    Calls Try.prog 36 #[.pointer (some ⟨Y, 0, none⟩)] w fun e w' => e = .returned (.agg (loC (lkD P mu x.l))) ∧ Below w.heap.size w w' := by
  obtain ⟨hmu, hs1, hst1⟩ : mu = true ∧ P.s ≠ 1 ∧ P.st ≠ 1 := by
    unfold knB at hk
    simp only [Bool.or_eq_false_iff, Bool.not_eq_false', decide_eq_false_iff_not] at hk
    exact ⟨hk.1.1, hk.1.2, hk.2⟩
  have h16 := hp.s16
  have h01 := hp.s1
  have h21 := hp.st1
  have h22 := hp.st2
  have hY : Y < w.heap.size := heap_lt h.m
  obtain ⟨ka, kcap, hkv⟩ := own_slice h.ownL
  have HY : Hid (∀ w', Below w.heap.size w w' → w'.cell? ⟨Y, 0, none⟩ = some (.int .i64 (P.s : Int)) ∧ w'.cell? ⟨Y, 2, none⟩ = some (.int .i64 P.st) ∧ w'.cell? ⟨Y, 13, none⟩ = some (.slice ka x.l.length kcap)) := fun w' hb => by
    obtain ⟨y0, y1, y2, y3, y12, y13, y14⟩ := (h.m.below hb hY).cells
    exact ⟨y0, y2, by rw [y13, hkv]⟩
  have HSG : Hid (∀ w', Below w.heap.size w w' → ∀ j, j < 8 → w'.cell? ⟨Y, 4 + j, none⟩ = some (.int .u64 ((P.sg.getD j 0 : Nat) : Int))) := fun w' hb j hj => (h.m.below hb hY).sigAt j hj
  have HL : Hid (∀ w', Below w.heap.size w w' → ∀ i, i < x.l.length → ∃ g, ka = some ⟨g, 0, none⟩ ∧ w'.cell? ⟨g, i, none⟩ = some (.int .i64 (x.l.getD i 0))) := fun w' hb i hi => by
    have ho := own_keep h.ownL (Keep.of_below hb []) (fun _ _ => by simp)
    rw [hkv] at ho
    obtain ⟨g, cap2, hfm, -⟩ := ho.form (by omega)
    simp at hfm
    obtain ⟨rfl, rfl⟩ := hfm
    exact ⟨g, rfl, own_num ho i hi⟩
  have HW : Hid (∀ i, i < x.l.length → W64 (x.l.getD i 0)) := fun i hi => hw _ (by rw [List.getD_eq_getElem?_getD, List.getElem?_eq_getElem hi]; simp)
  have HOK : Hid (Sg.Ok P.sg) := by rw [Hid, hp.sg]; exact sgOf_ok _
  have HSL : Hid (∀ st w, Calls Try.prog 35 #[.int .i64 st, .int .i64 (P.s : Int)] w fun e w' => e = .returned (.int .i64 (slotV st P.s)) ∧ w' = w) := fun st w => rslot_any st P.s w
  have HOV : Hid (∀ i, i < x.l.length → ∀ st w, Calls Try.prog 38 #[.int .i64 (x.l.getD i 0), .int .i64 st] w fun e w' => e = .returned (.bool (overV (x.l.getD i 0) st)) ∧ w' = w) := fun i hi st w => rover_any _ st (HW.out i hi).1 (HW.out i hi).2 w
  have HE0 : Hid (lkD P mu x.l = lkA P (P.st - 1) (x.l.drop 0)) := lkD_go hk x.l
  generalize hLK : lkD P mu x.l = LK at *
  clear hLK
  have y0' := (h.m).cells.1
  have y1' := (h.m).cells.2.1
  have y2' := (h.m).cells.2.2.1
  subst hmu
  have k1 : ((P.s : Int) == 1) = false := by simp; omega
  have k2 : (P.st == 1) = false := by simp [hst1]
  have b1 : wrap64 (P.st - 1) = P.st - 1 := by unfold wrap64; omega
  have b2 : wrap64 (P.st - (P.s : Int)) = P.st - (P.s : Int) := by unfold wrap64; omega
  have hln : x.l.length ≤ 144 := by omega
  obtain ⟨st, HST⟩ : ∃ st : Int, Hid (st = P.st) := ⟨_, rfl⟩
  have HBG : Hid (1 ≤ P.s ∧ P.s ≤ 16 ∧ 1 ≤ P.st ∧ P.st ≤ 1099511627776) := ⟨h01, h16, h21, h22⟩
  generalize hl : x.l = l at *
  clear h hp hk hw hlen hkv hs1 hst1 hl
  generalize hnl : l.length = nl at *
  have HNL : Hid (l.length = nl) := hnl
  clear hnl h01 h16 h21 h22
  go_enter Try.func36, Try.ntmps36
  go_wp2_with fail
  clear y0' y1' y2' k1 k2
  try simp only [b1]
  go_loopw [3, 4] (fun av sv wr => ∃ (a : Nat) (s : Int), a ≤ nl ∧ av = .int .i64 a ∧ sv = .int .i64 s ∧ P.st - (P.s : Int) ≤ s ∧ 0 ≤ s ∧ s < P.st ∧ LK = lkA P s (l.drop a) ∧ wr.heap[w.heap.size]? = some (.cells noLo 98 (0, 0)) ∧ Below w.heap.size w wr) (fun _ sv _ => (intOf sv).toNat)
  case atStart => exact ⟨0, P.st - 1, Nat.zero_le _, rfl, by simp, by have := HBG.out; omega, by have := HBG.out; omega, by omega, HE0.out, heap_alloc_new _ _, below_a1 _ _⟩
  case round =>
    obtain ⟨a, s, ha, rfl, rfl, hs1, hs0, hs2, hlk, hrow, hbel⟩ := hrel
    have HR : Hid (wr.heap[w.heap.size]? = some (.cells noLo 98 (0, 0))) := hrow
    have HB : Hid (Below w.heap.size w wr) := hbel
    have HLK : Hid (LK = lkA P s (l.drop a)) := hlk
    clear hrow hbel hlk HE0
    obtain ⟨y0, y2, y13⟩ := HY.out _ HB.out
    by_cases hend : s < 1 ∨ s ≤ P.st - (P.s : Int)
    · have HF : Hid (LK = loT false) := by rw [Hid, HLK.out, lkA_end _ hend]
      have hc : decide (1 ≤ s) = false ∨ (decide (1 ≤ s) = true ∧ decide (P.st - (P.s : Int) < s) = false) := by
        by_cases h1 : 1 ≤ s
        · exact Or.inr ⟨decide_eq_true h1, decide_eq_false (by omega)⟩
        · exact Or.inl (decide_eq_false h1)
      have b3 : IntKind.i64.wrap (P.st - (P.s : Int)) = P.st - (P.s : Int) := by have := HBG.out; rw [IntKind.wrap_i64]; omega
      rcases hc with c1 | ⟨c1, c2⟩
      all_goals
        go_wp2_with fail
        go_quiet (fail)
        obtain ⟨x5, hx5⟩ : ∃ x5, x5 = wr.drewN nq := ⟨_, rfl⟩
        rw [← hx5]
        have HB5 : Hid (Below w.heap.size w x5) := by rw [Hid, hx5]; exact below_drawn HB.out _
        have HR5 : Hid (x5.heap[w.heap.size]? = some (.cells noLo 98 (0, 0))) := by rw [Hid, hx5]; exact row_on HR.out (below_drawn (Below.refl _ _) _)
        clear hx5
        obtain ⟨⟨p0, p1, p2, p3, p4, p5, p6, p7⟩, f0, f1, f2, f3, f4, f5, f6, f7⟩ := lo_cells HR5.out
        have hz := heap_lt HR5.out
        clear y0 y2 y13
        go_wp2
        exact ret_lo rfl rfl (lo_set HR5.out _ _ _ _ _ _ _ _) rfl rfl ⟨by (rw [HF.out]) <;> rfl, belowL HB5.out (Nat.le_refl _) _ _ _ _ _ _ _ _⟩
    · have c1 : decide (1 ≤ s) = true := decide_eq_true (by omega)
      have c2 : decide (P.st - (P.s : Int) < s) = true := decide_eq_true (by omega)
      have b3 : IntKind.i64.wrap (P.st - (P.s : Int)) = P.st - (P.s : Int) := by have := HBG.out; rw [IntKind.wrap_i64]; omega
      have HSE : Hid (loC (loH P s false) = #[.bool false, .bool false, .bool false, .bool true, .int .i64 s, .int .i64 2, .int .i64 (slotV s P.s), .int .i64 0]) := rfl
      have HSM : Hid (loC (loH P s true) = #[.bool false, .bool false, .bool true, .bool true, .int .i64 s, .int .i64 2, .int .i64 (slotV s P.s), .int .i64 0]) := rfl
      have HSW : Hid (∀ j : Nat, loC (loW P s j) = #[.bool false, .bool false, .bool false, .bool false, .int .i64 s, .int .i64 3, .int .i64 (slotV s P.s), .int .i64 (j : Int)]) := fun _ => rfl
      have HST2 : Hid (∀ k : Bool, loC (loT k) = #[.bool true, .bool k, .bool false, .bool false, .int .i64 0, .int .i64 0, .int .i64 0, .int .i64 0]) := fun _ => rfl
      have HSS : Hid (∀ w, Calls Try.prog 35 #[.int .i64 s, .int .i64 (P.s : Int)] w fun e w' => e = .returned (.int .i64 (slotV s P.s)) ∧ w' = w) := HSL.out s
      generalize slotV s P.s = sl at *
      have HEND : Hid (¬ (s < 1 ∨ s ≤ P.st - (P.s : Int))) := hend
      have HSB : Hid (P.st - (P.s : Int) ≤ s ∧ 0 ≤ s ∧ s < P.st) := ⟨hs1, hs0, hs2⟩
      have hwa : wrap64 ((a : Int) + 1) = (a : Int) + 1 := by unfold wrap64; omega
      have hws : wrap64 (s - 1) = s - 1 := by have := HBG.out; unfold wrap64; omega
      go_wp2_with fail
      go_quiet (fail)
      obtain ⟨x5, hx5⟩ : ∃ x5, x5 = wr.drewN nq := ⟨_, rfl⟩
      rw [← hx5]
      have HB5 : Hid (Below w.heap.size w x5) := by rw [Hid, hx5]; exact below_drawn HB.out _
      have HR5 : Hid (x5.heap[w.heap.size]? = some (.cells noLo 98 (0, 0))) := by rw [Hid, hx5]; exact row_on HR.out (below_drawn (Below.refl _ _) _)
      clear hx5
      clear y0 y2 y13 HR HB c1 c2 b3 b2 hend hs1 hs0 hs2
      obtain ⟨y0, y2, y13⟩ := HY.out _ HB5.out
      go_wp2_with fail
      refine (HSS.out _).mono ?_
      rintro e x6 ⟨rfl, rfl⟩
      by_cases han : a = nl
      · have HF : Hid (loC LK = #[.bool false, .bool false, .bool false, .bool true, .int .i64 s, .int .i64 2, .int .i64 sl, .int .i64 0]) := by rw [Hid, HLK.out, drop_at_end (by rw [HNL.out]; exact han), lkA_nil HEND.out]; exact HSE.out
        have da : ((a : Int) == (nl : Int)) = true := by simp; omega
        obtain ⟨⟨p0, p1, p2, p3, p4, p5, p6, p7⟩, f0, f1, f2, f3, f4, f5, f6, f7⟩ := lo_cells HR5.out
        have hz := heap_lt HR5.out
        go_wp2
        exact ret_lo rfl rfl (lo_set HR5.out _ _ _ _ _ _ _ _) rfl rfl ⟨by (rw [HF.out]) <;> rfl, belowL HB5.out (Nat.le_refl _) _ _ _ _ _ _ _ _⟩
      · have hlt : a < nl := by omega
        have da : ((a : Int) == (nl : Int)) = false := by simp; omega
        have hlt' : (a : Int) < (nl : Int) := by omega
        obtain ⟨g, rfl, hgc⟩ := HL.out _ HB5.out a hlt
        have HC : Hid (LK = if overV (l.getD a 0) s then loT (s == P.st - 1) else lkB P s 0 (l.drop (a + 1))) := by rw [Hid, HLK.out, drop_at_in (by rw [HNL.out]; exact hlt), lkA_cons HEND.out]
        have HOA : Hid (∀ w, Calls Try.prog 38 #[.int .i64 (l.getD a 0), .int .i64 s] w fun e w' => e = .returned (.bool (overV (l.getD a 0) s)) ∧ w' = w) := HOV.out a hlt s
        generalize overV (l.getD a 0) s = ov at *
        generalize l.getD a 0 = v at *
        go_wp2_with fail
        refine (HOA.out _).mono ?_
        rintro e x6 ⟨rfl, rfl⟩
        cases ov
        · have HLB : Hid (LK = lkB P s 0 (l.drop (a + 1))) := by rw [Hid, HC.out]; exact if_neg (by simp)
          clear HC HOA hgc HLK
          go_wp2
          have HA1 : Hid (a + 1 ≤ nl) := hlt
          have HWSs : Hid (wrap64 (s - 1) = s - 1) := hws
          clear hwa da hlt' han hlt ha hws y0 y2 y13
          go_loopw [3, 7] (fun av jv wr => ∃ a j : Nat, a ≤ nl ∧ j ≤ 8 ∧ av = .int .i64 a ∧ jv = .int .i64 j ∧ LK = lkB P s j (l.drop a) ∧ wr.heap[w.heap.size]? = some (.cells noLo 98 (0, 0)) ∧ Below w.heap.size w wr) (fun _ jv _ => 8 - (intOf jv).toNat)
          case atStart => exact ⟨a + 1, 0, HA1.out, by omega, by go_num, rfl, HLB.out, HR5.out, HB5.out⟩
          case round =>
            obtain ⟨c, j, hc1, hj8, rfl, rfl, hlk, hrow, hbel⟩ := hrel
            have HR6 : Hid (wr.heap[w.heap.size]? = some (.cells noLo 98 (0, 0))) := hrow
            have HB6 : Hid (Below w.heap.size w wr) := hbel
            have HLC : Hid (LK = lkB P s j (l.drop c)) := hlk
            clear hrow hbel hlk HLB HR5 HB5
            obtain ⟨y0, y2, y13⟩ := HY.out _ HB6.out
            have hwc : wrap64 ((c : Int) + 1) = (c : Int) + 1 := by unfold wrap64; omega
            have hwj : wrap64 ((j : Int) + 1) = (j : Int) + 1 := by unfold wrap64; omega
            by_cases hj : j < 8
            · have hj' : (j : Int) < 8 := by omega
              have sc := HSG.out _ HB6.out j hj
              have hsl : P.sg.getD j 0 < 18446744073709551616 := HOK.out.2 j
              have HZ0 : Hid (P.sg.getD j 0 = 0 → LK = lkB P s (j + 1) (l.drop c)) := fun h => by rw [HLC.out, lkB_zero hj h]
              have HZ1 : Hid (P.sg.getD j 0 ≠ 0 → c = nl → loC LK = #[.bool false, .bool false, .bool false, .bool false, .int .i64 s, .int .i64 3, .int .i64 sl, .int .i64 (j : Int)]) := fun h hc => by rw [HLC.out, drop_at_end (by rw [HNL.out]; exact hc), lkB_nil hj h]; exact HSW.out j
              have HZ2 : Hid (P.sg.getD j 0 ≠ 0 → c < nl → LK = if (((IntKind.u64.wrap (l.getD c 0)).toNat &&& P.sg.getD j 0) != 0) then lkE P s (l.drop (c + 1)) else lkB P s (j + 1) (l.drop (c + 1))) := fun h hc => by rw [HLC.out, drop_at_in (by rw [HNL.out]; exact hc), lkB_cons hj h]; rfl
              generalize P.sg.getD j 0 = sj at *
              by_cases hz0 : sj = 0
              · subst hz0
                have HN : Hid (LK = lkB P s (j + 1) (l.drop c)) := HZ0.out rfl
                go_wp2
                go_roundw
                case rel => exact ⟨c, j + 1, hc1, by omega, rfl, by go_num, HN.out, HR6.out, HB6.out⟩
                case measure => simp [intOf]; omega
              · have hzz : ((sj : Int) == 0) = false := by simp; omega
                have hzd : ¬ (sj : Int) = 0 := by omega
                by_cases hcn : c = nl
                · have HF : Hid (loC LK = #[.bool false, .bool false, .bool false, .bool false, .int .i64 s, .int .i64 3, .int .i64 sl, .int .i64 (j : Int)]) := HZ1.out hz0 hcn
                  have da2 : ((c : Int) == (nl : Int)) = true := by simp; omega
                  obtain ⟨⟨p0, p1, p2, p3, p4, p5, p6, p7⟩, f0, f1, f2, f3, f4, f5, f6, f7⟩ := lo_cells HR6.out
                  have hz := heap_lt HR6.out
                  go_wp2
                  exact ret_lo rfl rfl (lo_set HR6.out _ _ _ _ _ _ _ _) rfl rfl ⟨by (rw [HF.out]) <;> rfl, belowL HB6.out (Nat.le_refl _) _ _ _ _ _ _ _ _⟩
                · have hcl : c < nl := by omega
                  have da2 : ((c : Int) == (nl : Int)) = false := by simp; omega
                  have hcl' : (c : Int) < (nl : Int) := by omega
                  obtain ⟨g2, hg2, hgc⟩ := HL.out _ HB6.out c hcl
                  simp at hg2
                  subst hg2
                  have HC2 := HZ2.out hz0 hcl
                  generalize l.getD c 0 = v2 at *
                  obtain ⟨u, hu⟩ : ∃ u : Nat, IntKind.u64.wrap v2 = (u : Int) := ⟨(IntKind.u64.wrap v2).toNat, by have := (u64_bd v2).1; omega⟩
                  have hul : u < 18446744073709551616 := by have := (u64_bd v2).2; rw [hu] at this; simpa using this
                  have hand : bits .and .u64 (sj : Int) (u : Int) = ((sj &&& u : Nat) : Int) := bits_and_u64_nat _ _ hsl hul
                  have HC3 : Hid (LK = if ((sj &&& u) != 0) then lkE P s (l.drop (c + 1)) else lkB P s (j + 1) (l.drop (c + 1))) := by rw [Hid, HC2, hu, Nat.and_comm]; rfl
                  clear HC2 HZ0 HZ1 HZ2 HLC
                  generalize sj &&& u = q at *
                  by_cases hq : q = 0
                  · subst hq
                    have HN : Hid (LK = lkB P s (j + 1) (l.drop (c + 1))) := by rw [Hid, HC3.out]; exact if_neg (by simp)
                    go_wp2_with fail
                    go_quiet (fail)
                    obtain ⟨x7, hx7⟩ : ∃ x7, x7 = wr.drewN nq := ⟨_, rfl⟩
                    rw [← hx7]
                    have HB7 : Hid (Below w.heap.size w x7) := by rw [Hid, hx7]; exact below_drawn HB6.out _
                    have HR7 : Hid (x7.heap[w.heap.size]? = some (.cells noLo 98 (0, 0))) := by rw [Hid, hx7]; exact row_on HR6.out (below_drawn (Below.refl _ _) _)
                    clear hx7
                    go_wp2
                    go_roundw
                    case rel => exact ⟨c + 1, j + 1, by omega, by omega, by go_num, by go_num, HN.out, HR7.out, HB7.out⟩
                    case measure => simp [intOf]; omega
                  · have hq' : ¬ (q : Int) = 0 := by omega
                    have hq2 : decide ((q : Int) = 0) = false := decide_eq_false hq'
                    have hq3 : ((q : Int) == 0) = false := by simp; omega
                    have HN : Hid (LK = lkE P s (l.drop (c + 1))) := by rw [Hid, HC3.out]; exact if_pos (by simpa using hq)
                    by_cases hcn2 : c + 1 = nl
                    · have HF : Hid (loC LK = #[.bool false, .bool false, .bool true, .bool true, .int .i64 s, .int .i64 2, .int .i64 sl, .int .i64 0]) := by rw [Hid, HN.out, lkE_end (by rw [HNL.out]; exact hcn2)]; exact HSM.out
                      have da3 : ((c : Int) + 1 == (nl : Int)) = true := by simp; omega
                      go_wp2_with fail
                      go_quiet (fail)
                      obtain ⟨x7, hx7⟩ : ∃ x7, x7 = wr.drewN nq := ⟨_, rfl⟩
                      rw [← hx7]
                      have HB7 : Hid (Below w.heap.size w x7) := by rw [Hid, hx7]; exact below_drawn HB6.out _
                      have HR7 : Hid (x7.heap[w.heap.size]? = some (.cells noLo 98 (0, 0))) := by rw [Hid, hx7]; exact row_on HR6.out (below_drawn (Below.refl _ _) _)
                      clear hx7
                      clear y0 y2 y13
                      obtain ⟨y0, y2, y13⟩ := HY.out _ HB7.out
                      obtain ⟨⟨p0, p1, p2, p3, p4, p5, p6, p7⟩, f0, f1, f2, f3, f4, f5, f6, f7⟩ := lo_cells HR7.out
                      have hz := heap_lt HR7.out
                      go_wp2
                      exact ret_lo rfl rfl (lo_set HR7.out _ _ _ _ _ _ _ _) rfl rfl ⟨by (rw [HF.out]) <;> rfl, belowL HB7.out (Nat.le_refl _) _ _ _ _ _ _ _ _⟩
                    · have HF : Hid (loC LK = #[.bool true, .bool (s == P.st - 1), .bool false, .bool false, .int .i64 0, .int .i64 0, .int .i64 0, .int .i64 0]) := by rw [Hid, HN.out, lkE_in (by rw [HNL.out]; omega)]; exact HST2.out _
                      have da3 : ((c : Int) + 1 == (nl : Int)) = false := by simp; omega
                      go_wp2_with fail
                      go_quiet (fail)
                      obtain ⟨x7, hx7⟩ : ∃ x7, x7 = wr.drewN nq := ⟨_, rfl⟩
                      rw [← hx7]
                      have HB7 : Hid (Below w.heap.size w x7) := by rw [Hid, hx7]; exact below_drawn HB6.out _
                      have HR7 : Hid (x7.heap[w.heap.size]? = some (.cells noLo 98 (0, 0))) := by rw [Hid, hx7]; exact row_on HR6.out (below_drawn (Below.refl _ _) _)
                      clear hx7
                      clear y0 y2 y13
                      obtain ⟨y0, y2, y13⟩ := HY.out _ HB7.out
                      obtain ⟨⟨p0, p1, p2, p3, p4, p5, p6, p7⟩, f0, f1, f2, f3, f4, f5, f6, f7⟩ := lo_cells HR7.out
                      have hz := heap_lt HR7.out
                      go_wp2
                      exact ret_lo rfl rfl (lo_set HR7.out _ _ _ _ _ _ _ _) rfl rfl ⟨by (rw [HF.out]) <;> rfl, belowL HB7.out (Nat.le_refl _) _ _ _ _ _ _ _ _⟩
            · obtain rfl : j = 8 := by omega
              have HLN : Hid (LK = lkA P (s - 1) (l.drop c)) := by rw [Hid, HLC.out]; exact lkB_end _
              have hj' : ¬ ((8 : Nat) : Int) < 8 := by omega
              have hws := HWSs.out
              clear hwc hwj y0 y2 y13
              go_wp2
              go_roundw
              case rel => exact ⟨c, s - 1, hc1, rfl, by first | rfl | simp [hws], by have := HSB.out; have := HEND.out; omega, by have := HSB.out; have := HEND.out; omega, by have := HSB.out; omega, HLN.out, HR6.out, HB6.out⟩
              case measure => simp [intOf, hws]; have := HSB.out; have := HEND.out; omega
        · have HF : Hid (loC LK = #[.bool true, .bool (s == P.st - 1), .bool false, .bool false, .int .i64 0, .int .i64 0, .int .i64 0, .int .i64 0]) := by rw [Hid, HC.out, if_pos rfl]; exact HST2.out _
          obtain ⟨⟨p0, p1, p2, p3, p4, p5, p6, p7⟩, f0, f1, f2, f3, f4, f5, f6, f7⟩ := lo_cells HR5.out
          have hz := heap_lt HR5.out
          go_wp2
          exact ret_lo rfl rfl (lo_set HR5.out _ _ _ _ _ _ _ _) rfl rfl ⟨by (rw [HF.out]) <;> rfl, belowL HB5.out (Nat.le_refl _) _ _ _ _ _ _ _ _⟩
theorem looks_any {w : World} {base Y : Nat} {P : Bp} {mu : Bool} {x : Dc} {G : List Nat} {lv kv : Value} (h : DM' w base Y P mu x G lv kv) (hp : BpOk P) (hw : ∀ v ∈ x.l, W64 v) (hlen : x.l.length ≤ 9 * P.s) :
    Calls Try.prog 36 #[.pointer (some ⟨Y, 0, none⟩)] w fun e w' => e = .returned (.agg (loC (lkD P mu x.l))) ∧ Below w.heap.size w w' := by
  cases hk : knB P mu
  · exact looks_on h hp hk hw hlen
  · exact looks_known h hk
end Go.Proofs.Ytbmmicfdnfpcaaa
/- The document's machine of layer 11: New. -/
namespace Go.Proofs.Ytbmmicfdnfpcaaa
open Go.ChangeShapes Go.WideShapes Go.ChangeAt Go.RowKit
attribute [local go_sem ↓] Go.wp_at_zero Go.wp_at_succ

theorem wtC_take (W : List Wt) (q : Nat) (hq : q < W.length) : wtC (W.take (q + 1)) = wtC (W.take q) ++ [.int .i64 (W.getD q noWt).c, .int .i64 (W.getD q noWt).v] := by
  have e : W.take (q + 1) = W.take q ++ [W.getD q noWt] := by rw [List.take_add_one]; congr 1; simp [hq]
  rw [e, wtC_app]
  rfl
theorem dw_end {w X w1 : World} {base Y gg cap' n : Nat} {s : Int} {mu : Bool} {st : Int} {v : Value} {sg : List Nat} {nn : Int} {kv : Value} {sn : Bool} {K E : List Value} (h : DRaw w Y s mu st v sg nn kv sn) (ho : w.ownsRow base 36 2 v n K) (kX : Keep [] w X)
    (hown1 : w1.ownsRow base 36 2 (.slice (some ⟨gg, 0, none⟩) (n + 1) cap') (n + 1) (K ++ E)) (hgrow : X.grownBy w1 v.ownBlock) :
    DRaw (w1.setCell ⟨Y, 3, none⟩ (.slice (some ⟨gg, 0, none⟩) (n + 1) cap')) Y s mu st (.slice (some ⟨gg, 0, none⟩) (n + 1) cap') sg nn kv sn ∧ (w1.setCell ⟨Y, 3, none⟩ (.slice (some ⟨gg, 0, none⟩) (n + 1) cap')).ownsRow base 36 2 (.slice (some ⟨gg, 0, none⟩) (n + 1) cap') (n + 1) (K ++ E) := by
  have k0 : Keep v.ownBlock.toList w w1 := (kX.mono (fun b hb => by simp at hb)).grown hgrow (fun b hb => Or.inl (by rw [hb]; simp))
  have hm1 : DRaw w1 Y s mu st v sg nn kv sn := h.keep k0 (fun hm => own_ne ho h (by decide) (by simpa using hm))
  have hg1 : (Value.slice (some ⟨gg, 0, none⟩) (n + 1) cap').ownBlock ≠ some Y := own_ne hown1 hm1 (by decide)
  have kset : Keep [Y] w1 (w1.setCell ⟨Y, 3, none⟩ (.slice (some ⟨gg, 0, none⟩) (n + 1) cap')) := (Keep.refl _ _).setCell _ _ (Or.inl (by simp))
  exact ⟨hm1.set3 _, own_keep hown1 kset (fun b hb hm => by simp at hm; subst hm; exact hg1 hb)⟩
set_option maxRecDepth 100000 in
set_option maxHeartbeats 6400000 in
theorem dnew_any (w : World) (raw wr n : Int) (mu : Bool) (tr : Int) (v : Value) {P : Bp} {lv : Value} (hl : WL w lv P.W) (h5 : P.W.length ≤ 24) (hsg : P.sg = sgOf P.W) :
    Calls Try.prog 12 #[confB raw (P.s : Int) wr n mu tr v, .int .i64 P.st, lv] w fun e w' => Below w.heap.size w w' ∧ ∃ Y G, e = .returned (.pointer (some ⟨Y, 0, none⟩)) ∧ DM w' w.heap.size Y P mu ⟨0, [], false⟩ G := by
  obtain ⟨i0, hi, hz0, hz1, hz2⟩ := info_parts info_wr
  have HWI : Hid (∀ (s : List Nat), Sg.Ok s → ∀ c w, Calls Try.prog 28 #[Sg.sv s, .int .i64 c] w fun e w' => e = .returned (Sg.sv (Sg.put s (Sg.sigN c))) ∧ Below w.heap.size w w') := fun s hs c w => Sg.rwith_any s hs c w
  obtain ⟨a, cap, rfl, _, hcc⟩ := hl
  have HD : Hid (∀ w' i, Below w.heap.size w w' → i < P.W.length → ∃ x, a = some x ∧ x.block < w.heap.size ∧ w'.cell? (x.add (i * 2)) = some (.int .i64 (P.W.getD i noWt).c) ∧ w'.cell? ((x.add (i * 2)).add 1) = some (.int .i64 (P.W.getD i noWt).v)) := fun w' i k hi => by
    rcases hcc with h | ⟨x, e1, e2, e3⟩
    · rw [h] at hi; simp at hi
    · exact ⟨x, e1, e2, (k.cell (p := x.add (i * 2)) (by rw [add_block]; exact e2)).trans (e3 i hi).1, (k.cell (p := (x.add (i * 2)).add 1) (by rw [add_block, add_block]; exact e2)).trans (e3 i hi).2⟩
  have HTK : Hid (∀ q, q < P.W.length → sgOf (P.W.take (q + 1)) = Sg.put (sgOf (P.W.take q)) (Sg.sigN (P.W.getD q noWt).c)) := fun q hq => sgOf_take P.W q hq
  have HTW : Hid (∀ q, q < P.W.length → wtC (P.W.take (q + 1)) = wtC (P.W.take q) ++ [.int .i64 (P.W.getD q noWt).c, .int .i64 (P.W.getD q noWt).v]) := fun q hq => wtC_take P.W q hq
  have HTL : Hid (P.W.take P.W.length = P.W) := List.take_length
  have HLN : Hid (∀ q, q ≤ P.W.length → (wtC (P.W.take q)).length = q * 2) := fun q hq => by rw [wtC_len, List.length_take, Nat.min_eq_left hq]
  have HSG : Hid (P.sg = sgOf P.W) := hsg
  unfold confB
  clear hcc hsg
  obtain ⟨R, HR0⟩ : ∃ R : Ending → World → Prop, Hid (R = fun e w' => Below w.heap.size w w' ∧ ∃ Y G, e = .returned (.pointer (some ⟨Y, 0, none⟩)) ∧ DM w' w.heap.size Y P mu ⟨0, [], false⟩ G) := ⟨_, rfl⟩
  rw [← HR0.out]
  generalize hm : P.W.length = m at *
  have HMM : Hid (P.W.length = m) := hm
  clear hm
  go_enter Try.func12, Try.ntmps12
  go_wp2_with fail
  go_loopg [8] m (fun g iv wr => ∃ (q : Nat) (lq : Value), q ≤ m ∧ g = m - q ∧ iv = .int .i64 q ∧ DRaw wr (w.heap.size + 1) (P.s : Int) mu P.st lq (sgOf (P.W.take q)) 0 (.slice none 0 0) false ∧ wr.ownsRow w.heap.size 36 2 lq q (wtC (P.W.take q)) ∧ Below w.heap.size w wr)
  case atStart => exact ⟨0, .slice none 0 0, by omega, by omega, rfl, heap_alloc2_new w _ _, World.ownsRow_nil _ _ _ _, below_alloc (below_a1 _ _) _⟩
  case round =>
    obtain ⟨q, lq, hq, rfl, rfl, hr, ho, hb⟩ := hrel
    have HR : Hid (DRaw wr (w.heap.size + 1) (P.s : Int) mu P.st lq (sgOf (P.W.take q)) 0 (.slice none 0 0) false) := hr
    have HO : Hid (wr.ownsRow w.heap.size 36 2 lq q (wtC (P.W.take q))) := ho
    have HB : Hid (Below w.heap.size w wr) := hb
    clear hr ho hb
    by_cases hlt : q < m
    · have hlt' : (q : Int) < (m : Int) := by omega
      obtain ⟨x, rfl, hxb, c0, c1⟩ := HD.out _ q HB.out hlt
      rw [add_pos' _ _ (by decide)] at c1
      have HTQ := HTK.out q hlt
      have HWQ := HTW.out q hlt
      have hlen := HLN.out q (by omega)
      have HWS : Hid (∀ w, Calls Try.prog 28 #[Sg.sv (sgOf (P.W.take q)), .int .i64 (P.W.getD q noWt).c] w fun e w' => e = .returned (Sg.sv (sgOf (P.W.take (q + 1)))) ∧ Below w.heap.size w w') := by rw [HTQ]; exact HWI.out _ (sgOf_ok _) _
      obtain ⟨yc, yv, HYQ⟩ : ∃ yc yv, Hid (P.W.getD q noWt = ⟨yc, yv⟩) := ⟨_, _, rfl⟩
      rw [HYQ.out] at c0 c1 HWQ HWS
      simp only at c0 c1 HWQ HWS
      clear HTQ
      rw [sv8 (sgOf_ok _), sv8 (sgOf_ok _)] at HWS
      obtain ⟨la, lcap, rfl⟩ := own_slice HO.out
      have hzr : w.heap.size + 1 < wr.heap.size := heap_lt HR.out
      have l3 : wr.cell? ⟨w.heap.size + 1, 3, none⟩ = some (.slice la q lcap) := HR.out.cells.2.2.2.1
      have lf : wr.frozen? ⟨w.heap.size + 1, 3, none⟩ = false := frozen_at HR.out 3
      have hYv : (Value.slice la q lcap).ownBlock ≠ some (w.heap.size + 1) := own_ne HO.out HR.out (by decide)
      have hsz := HB.out.size
      generalize hK : wtC (P.W.take q) = K at *
      go_upto_region 5 with fail
      go_cut [8] (fun s8 wx => s8 = .int .i64 q ∧ ∃ lq', DRaw wx (w.heap.size + 1) (P.s : Int) mu P.st lq' (sgOf (P.W.take q)) 0 (.slice none 0 0) false ∧ wx.ownsRow w.heap.size 36 2 lq' (q + 1) (K ++ [.int .i64 yc, .int .i64 yv]) ∧ Below w.heap.size w wx)
      case first =>
        go_region_law ((refine step_lies_wide _ (by rfl) _ _ _ (by rfl) w.heap.size 36 i0 _ 2 16 Try.underlying25 hi hz0 hz1 hz2 rfl (by omega) (.slice la q lcap) q K (by rfl) ((HO.out.alloc _).drew) ⟨wr.heap.size, 0, none⟩ 1 1 [.int .i64 yc, .int .i64 yv] (by rfl) (by rfl) (World.news_of_block (cs := #[.int .i64 yc, .int .i64 yv]) (t := 36) (fr := (0, 0)) (heap_alloc_new wr _)) (by simp [Value.oneCell']) (by omega) (by unfold maxLen; omega) (by omega) (by simp; omega) (wr.heap.size + 1) (by simp) ?_; intro gg cap' w3 hown1 hgrow hat hlt2; have hs1 : w3.cell? ⟨w.heap.size + 1, 3, none⟩ = some (.slice la q lcap) := (by rw [hgrow.cell_far _ (by simp; omega) (Ne.symm hYv)]; simp [hzr, World.cell?_alloc_past, l3]); have hs2 : w3.frozen? ⟨w.heap.size + 1, 3, none⟩ = false := (by rw [hgrow.frozen_far _ (by simp; omega) (Ne.symm hYv)]; rw [fr_drew, World.frozen?_alloc_past _ _ _ hzr]; exact lf)))
        all_goals
          have HE : Hid (DRaw (w3.setCell ⟨w.heap.size + 1, 3, none⟩ (.slice (some ⟨gg, 0, none⟩) (q + 1) cap')) (w.heap.size + 1) (P.s : Int) mu P.st (.slice (some ⟨gg, 0, none⟩) (q + 1) cap') (sgOf (P.W.take q)) 0 (.slice none 0 0) false ∧ (w3.setCell ⟨w.heap.size + 1, 3, none⟩ (.slice (some ⟨gg, 0, none⟩) (q + 1) cap')).ownsRow w.heap.size 36 2 (.slice (some ⟨gg, 0, none⟩) (q + 1) cap') (q + 1) (K ++ [.int .i64 yc, .int .i64 yv])) := dw_end HR.out HO.out (((Keep.refl _ _).alloc _).drewN 1) hown1 hgrow
          have HB3 : Hid (Below w.heap.size w (w3.setCell ⟨w.heap.size + 1, 3, none⟩ (.slice (some ⟨gg, 0, none⟩) (q + 1) cap'))) := ((below_drawn (below_alloc HB.out _) 1).grown hgrow (by simp; omega) (fun b hb => (own_block HO.out b hb).1)).setCell (Nat.le_add_right _ 1) _
          clear hown1 hgrow hat hlt2 hs1 hs2
          go_wp2_with fail
          go_meet
          exact ⟨rfl, _, HE.out.1, HE.out.2, HB3.out⟩
      case rest =>
        obtain ⟨rfl, lq', hr', ho', hb'⟩ := hcut
        obtain ⟨z5, rfl⟩ : ∃ z5, z5 = wc := ⟨_, rfl⟩
        have HR' : Hid (DRaw z5 (w.heap.size + 1) (P.s : Int) mu P.st lq' (sgOf (P.W.take q)) 0 (.slice none 0 0) false) := hr'
        have HO' : Hid (z5.ownsRow w.heap.size 36 2 lq' (q + 1) (wtC (P.W.take (q + 1)))) := by rw [Hid, HWQ]; exact ho'
        have HB' : Hid (Below w.heap.size w z5) := hb'
        clear hr' ho' hb' c0 c1 l3 lf HR HO HB HWQ hK hlen hYv hzr hsz
        obtain ⟨x', hx', _, c0, c1⟩ := HD.out _ q HB'.out hlt
        simp at hx'
        subst hx'
        rw [HYQ.out] at c0
        simp only at c0
        clear c1 hi hz0 hz1 hz2 hq h5 HTK HTW HLN HWI
        obtain ⟨m0, hm0⟩ : ∃ z : Nat, bsV (sgOf (P.W.take (q + 1))) 0 = .int .u64 (z : Int) := ⟨_, rfl⟩
        obtain ⟨m1, hm1⟩ : ∃ z : Nat, bsV (sgOf (P.W.take (q + 1))) 1 = .int .u64 (z : Int) := ⟨_, rfl⟩
        obtain ⟨m2, hm2⟩ : ∃ z : Nat, bsV (sgOf (P.W.take (q + 1))) 2 = .int .u64 (z : Int) := ⟨_, rfl⟩
        obtain ⟨m3, hm3⟩ : ∃ z : Nat, bsV (sgOf (P.W.take (q + 1))) 3 = .int .u64 (z : Int) := ⟨_, rfl⟩
        obtain ⟨m4, hm4⟩ : ∃ z : Nat, bsV (sgOf (P.W.take (q + 1))) 4 = .int .u64 (z : Int) := ⟨_, rfl⟩
        obtain ⟨m5, hm5⟩ : ∃ z : Nat, bsV (sgOf (P.W.take (q + 1))) 5 = .int .u64 (z : Int) := ⟨_, rfl⟩
        obtain ⟨m6, hm6⟩ : ∃ z : Nat, bsV (sgOf (P.W.take (q + 1))) 6 = .int .u64 (z : Int) := ⟨_, rfl⟩
        obtain ⟨m7, hm7⟩ : ∃ z : Nat, bsV (sgOf (P.W.take (q + 1))) 7 = .int .u64 (z : Int) := ⟨_, rfl⟩
        have HW2 : Hid (∀ w, Calls Try.prog 28 #[.agg #[bsV (sgOf (P.W.take q)) 0, bsV (sgOf (P.W.take q)) 1, bsV (sgOf (P.W.take q)) 2, bsV (sgOf (P.W.take q)) 3, bsV (sgOf (P.W.take q)) 4, bsV (sgOf (P.W.take q)) 5, bsV (sgOf (P.W.take q)) 6, bsV (sgOf (P.W.take q)) 7], .int .i64 yc] w fun e w' => e = .returned (.agg #[.int .u64 (m0 : Int), .int .u64 (m1 : Int), .int .u64 (m2 : Int), .int .u64 (m3 : Int), .int .u64 (m4 : Int), .int .u64 (m5 : Int), .int .u64 (m6 : Int), .int .u64 (m7 : Int)]) ∧ Below w.heap.size w w') := by rw [Hid, ← hm0, ← hm1, ← hm2, ← hm3, ← hm4, ← hm5, ← hm6, ← hm7]; exact HWS.out
        have HSS : Hid (∀ wQ, DRaw wQ (w.heap.size + 1) (P.s : Int) mu P.st lq' (sgOf (P.W.take q)) 0 (.slice none 0 0) false → DRaw ((((((((wQ.setCell ⟨w.heap.size + 1, 4, none⟩ (.int .u64 (m0 : Int))).setCell ⟨w.heap.size + 1, 5, none⟩ (.int .u64 (m1 : Int))).setCell ⟨w.heap.size + 1, 6, none⟩ (.int .u64 (m2 : Int))).setCell ⟨w.heap.size + 1, 7, none⟩ (.int .u64 (m3 : Int))).setCell ⟨w.heap.size + 1, 8, none⟩ (.int .u64 (m4 : Int))).setCell ⟨w.heap.size + 1, 9, none⟩ (.int .u64 (m5 : Int))).setCell ⟨w.heap.size + 1, 10, none⟩ (.int .u64 (m6 : Int))).setCell ⟨w.heap.size + 1, 11, none⟩ (.int .u64 (m7 : Int))) (w.heap.size + 1) (P.s : Int) mu P.st lq' (sgOf (P.W.take (q + 1))) 0 (.slice none 0 0) false) := fun wQ h => by
          have := DRaw.setSig h (sgOf (P.W.take (q + 1)))
          rw [hm0, hm1, hm2, hm3, hm4, hm5, hm6, hm7] at this
          exact this
        clear hm0 hm1 hm2 hm3 hm4 hm5 hm6 hm7 HWS
        obtain ⟨s4, s5, s6, s7, s8, s9, s10, s11⟩ := HR'.out.sig
        have hz5 : w.heap.size + 1 < z5.heap.size := heap_lt HR'.out
        go_wp2_with fail
        go_region_with ((go_at_call 28; refine (HW2.out _).mono ?_; rintro e wQ ⟨rfl, hbQ⟩; have HQ : Hid (Below z5.heap.size z5 wQ) := (by first | exact below_then (below_drawn (Below.refl _ _) 1) hbQ | exact hbQ | exact below_then (below_drawn (Below.refl _ _) _) hbQ); clear hbQ; have HRQ : Hid (DRaw wQ (w.heap.size + 1) (P.s : Int) mu P.st lq' (sgOf (P.W.take q)) 0 (.slice none 0 0) false) := DRaw.below HR'.out HQ.out hz5; obtain ⟨t4, t5, t6, t7, t8, t9, t10, t11⟩ := DRaw.sig HRQ.out; have f4 := frozen_at HRQ.out 4; have f5 := frozen_at HRQ.out 5; have f6 := frozen_at HRQ.out 6; have f7 := frozen_at HRQ.out 7; have f8 := frozen_at HRQ.out 8; have f9 := frozen_at HRQ.out 9; have f10 := frozen_at HRQ.out 10; have f11 := frozen_at HRQ.out 11))
        all_goals
          have HN2 : Hid (DRaw ((((((((wQ.setCell ⟨w.heap.size + 1, 4, none⟩ (.int .u64 (m0 : Int))).setCell ⟨w.heap.size + 1, 5, none⟩ (.int .u64 (m1 : Int))).setCell ⟨w.heap.size + 1, 6, none⟩ (.int .u64 (m2 : Int))).setCell ⟨w.heap.size + 1, 7, none⟩ (.int .u64 (m3 : Int))).setCell ⟨w.heap.size + 1, 8, none⟩ (.int .u64 (m4 : Int))).setCell ⟨w.heap.size + 1, 9, none⟩ (.int .u64 (m5 : Int))).setCell ⟨w.heap.size + 1, 10, none⟩ (.int .u64 (m6 : Int))).setCell ⟨w.heap.size + 1, 11, none⟩ (.int .u64 (m7 : Int))) (w.heap.size + 1) (P.s : Int) mu P.st lq' (sgOf (P.W.take (q + 1))) 0 (.slice none 0 0) false) := HSS.out _ HRQ.out
          have hws : w.heap.size ≤ z5.heap.size := HB'.out.size
          have HBN : Hid (Below w.heap.size w ((((((((wQ.setCell ⟨w.heap.size + 1, 4, none⟩ (.int .u64 (m0 : Int))).setCell ⟨w.heap.size + 1, 5, none⟩ (.int .u64 (m1 : Int))).setCell ⟨w.heap.size + 1, 6, none⟩ (.int .u64 (m2 : Int))).setCell ⟨w.heap.size + 1, 7, none⟩ (.int .u64 (m3 : Int))).setCell ⟨w.heap.size + 1, 8, none⟩ (.int .u64 (m4 : Int))).setCell ⟨w.heap.size + 1, 9, none⟩ (.int .u64 (m5 : Int))).setCell ⟨w.heap.size + 1, 10, none⟩ (.int .u64 (m6 : Int))).setCell ⟨w.heap.size + 1, 11, none⟩ (.int .u64 (m7 : Int)))) := ((((((((HB'.out.trans (HQ.out.mono hws)).setCell (Nat.le_add_right _ 1) _).setCell (Nat.le_add_right _ 1) _).setCell (Nat.le_add_right _ 1) _).setCell (Nat.le_add_right _ 1) _).setCell (Nat.le_add_right _ 1) _).setCell (Nat.le_add_right _ 1) _).setCell (Nat.le_add_right _ 1) _).setCell (Nat.le_add_right _ 1) _
          have HON : Hid ((((((((((wQ.setCell ⟨w.heap.size + 1, 4, none⟩ (.int .u64 (m0 : Int))).setCell ⟨w.heap.size + 1, 5, none⟩ (.int .u64 (m1 : Int))).setCell ⟨w.heap.size + 1, 6, none⟩ (.int .u64 (m2 : Int))).setCell ⟨w.heap.size + 1, 7, none⟩ (.int .u64 (m3 : Int))).setCell ⟨w.heap.size + 1, 8, none⟩ (.int .u64 (m4 : Int))).setCell ⟨w.heap.size + 1, 9, none⟩ (.int .u64 (m5 : Int))).setCell ⟨w.heap.size + 1, 10, none⟩ (.int .u64 (m6 : Int))).setCell ⟨w.heap.size + 1, 11, none⟩ (.int .u64 (m7 : Int)))).ownsRow w.heap.size 36 2 lq' (q + 1) (wtC (P.W.take (q + 1)))) := own_keep (own_keep HO'.out (Keep.of_below HQ.out []) (fun _ _ => by simp)) (keepZ (keepZ (keepZ (keepZ (keepZ (keepZ (keepZ (keepZ (Keep.refl _ _) _ _) _ _) _ _) _ _) _ _) _ _) _ _) _ _) (fun b hb e => own_ne HO'.out HR'.out (by decide) (by simp at e; rw [← e]; exact hb))
          clear s4 s5 s6 s7 s8 s9 s10 s11 t4 t5 t6 t7 t8 t9 t10 t11 f4 f5 f6 f7 f8 f9 f10 f11 hws
          go_wp2
          go_roundg (m - (q + 1))
          case measure => omega
          case rel => exact ⟨q + 1, lq', by omega, rfl, by go_num, HN2.out, HON.out, HBN.out⟩
    · have hqe : q = m := by omega
      subst hqe
      have hnn : ¬ (q : Int) < (q : Int) := by omega
      have HF : Hid (R (.returned (.pointer (some ⟨w.heap.size + 1, 0, none⟩))) wr) := by
        rw [Hid, HR0.out]
        have ho := HO.out
        have hr := HR.out
        rw [show P.W.take q = P.W from by rw [← HMM.out]; exact List.take_length] at ho hr
        refine ⟨HB.out, w.heap.size + 1, _, rfl, lq, .slice none 0 0, ?_, ?_, World.ownsRow_nil _ _ _ _, rfl, Nat.le_add_right _ 1⟩
        · rw [HSG.out]; exact hr
        · rw [HMM.out]; exact ho
      go_wp2
      first | exact HF.out | (go_ret; exact HF.out)
end Go.Proofs.Ytbmmicfdnfpcaaa
