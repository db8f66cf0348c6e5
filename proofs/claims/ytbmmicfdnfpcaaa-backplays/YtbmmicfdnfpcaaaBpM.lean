/- The document's machine of layer 11 as plain numbers: what is looked at next, by what was loaded; beside the program's. -/
import Derived.Test.YtbmmicfdnfpcaaaBkU
namespace Go.Proofs.Ytbmmicfdnfpcaaa
open Go.RowKit (wrap64)

/-- How many Stores, what was loaded while it looked back, whether the entry ahead was seen to be complete in the end. -/
structure Dc where
  n : Nat
  l : List Int
  sn : Bool
/-- What is looked at next. -/
structure Lo where
  th : Bool
  kn : Bool
  me : Bool
  hd : Bool
  st : Int
  a : Ad
def loT (k : Bool) : Lo := ⟨true, k, false, false, 0, ⟨0, 0, 0⟩⟩
def loH (P : Bp) (st : Int) (me : Bool) : Lo := ⟨false, false, me, true, st, ⟨2, slotV st P.s, 0⟩⟩
def loW (P : Bp) (st : Int) (j : Nat) : Lo := ⟨false, false, false, false, st, ⟨3, slotV st P.s, (j : Int)⟩⟩
/-- Behind a word that shares a bit. -/
def lkE (P : Bp) (st : Int) (L : List Int) : Lo := if L.isEmpty then loH P st true else loT (st == P.st - 1)
def lkW (P : Bp) (st : Int) (next : List Int → Lo) : Nat → List Int → Lo
  | 0, L => next L
  | k + 1, L => if P.sg.getD (8 - (k + 1)) 0 = 0 then lkW P st next k L else
      match L with
      | [] => loW P st (8 - (k + 1))
      | v :: M => if hitS P.sg (8 - (k + 1)) v then lkE P st M else lkW P st next k M
def lkS (P : Bp) : Nat → Int → List Int → Lo
  | 0, _, _ => loT false
  | n + 1, st, L => if st < 1 ∨ st ≤ P.st - (P.s : Int) then loT false else
      match L with
      | [] => loH P st false
      | v :: M => if overV v st then loT (st == P.st - 1) else lkW P st (lkS P n (st - 1)) 8 M
def lkN (P : Bp) (st : Int) : Nat := (st - P.st + 1 + (P.s : Int)).toNat
def knB (P : Bp) (mu : Bool) : Bool := !mu || decide (P.s = 1) || decide (P.st = 1)
def lkD (P : Bp) (mu : Bool) (L : List Int) : Lo := if knB P mu then loT true else lkS P P.s (P.st - 1) L
/-- From a stamp on; from a word of a stamp on. -/
def lkA (P : Bp) (st : Int) (L : List Int) : Lo := lkS P (lkN P st) st L
def lkB (P : Bp) (st : Int) (j : Nat) (L : List Int) : Lo := lkW P st (lkA P (st - 1)) (8 - j) L
theorem lkA_end {P : Bp} {st : Int} (L : List Int) (h : st < 1 ∨ st ≤ P.st - (P.s : Int)) : lkA P st L = loT false := by
  unfold lkA
  cases lkN P st with
  | zero => rfl
  | succ n => unfold lkS; rw [if_pos h]
theorem lkN_succ {P : Bp} {st : Int} (h : P.st - (P.s : Int) < st) : lkN P st = lkN P (st - 1) + 1 := by unfold lkN; omega
theorem lkA_nil {P : Bp} {st : Int} (h : ¬ (st < 1 ∨ st ≤ P.st - (P.s : Int))) : lkA P st [] = loH P st false := by
  unfold lkA
  rw [lkN_succ (by omega)]
  unfold lkS
  rw [if_neg h]
theorem lkA_cons {P : Bp} {st : Int} (h : ¬ (st < 1 ∨ st ≤ P.st - (P.s : Int))) (v : Int) (M : List Int) : lkA P st (v :: M) = if overV v st then loT (st == P.st - 1) else lkB P st 0 M := by
  unfold lkA
  rw [lkN_succ (by omega)]
  unfold lkS
  rw [if_neg h]
  rfl
theorem lkB_end {P : Bp} {st : Int} (L : List Int) : lkB P st 8 L = lkA P (st - 1) L := rfl
theorem lkB_zero {P : Bp} {st : Int} {j : Nat} (hj : j < 8) (h : P.sg.getD j 0 = 0) (L : List Int) : lkB P st j L = lkB P st (j + 1) L := by
  unfold lkB
  obtain ⟨k, hk⟩ : ∃ k, 8 - j = k + 1 := ⟨7 - j, by omega⟩
  have e1 : 8 - (j + 1) = k := by omega
  have e2 : 8 - (k + 1) = j := by omega
  rw [hk, e1]
  cases L with
  | nil => rw [lkW, e2, if_pos h]
  | cons v M => rw [lkW, e2, if_pos h]
theorem lkB_nil {P : Bp} {st : Int} {j : Nat} (hj : j < 8) (h : P.sg.getD j 0 ≠ 0) : lkB P st j [] = loW P st j := by
  unfold lkB
  obtain ⟨k, hk⟩ : ∃ k, 8 - j = k + 1 := ⟨7 - j, by omega⟩
  have e2 : 8 - (k + 1) = j := by omega
  rw [hk, lkW, e2, if_neg h]
theorem lkB_cons {P : Bp} {st : Int} {j : Nat} (hj : j < 8) (h : P.sg.getD j 0 ≠ 0) (v : Int) (M : List Int) : lkB P st j (v :: M) = if hitS P.sg j v then lkE P st M else lkB P st (j + 1) M := by
  unfold lkB
  obtain ⟨k, hk⟩ : ∃ k, 8 - j = k + 1 := ⟨7 - j, by omega⟩
  have e1 : 8 - (j + 1) = k := by omega
  have e2 : 8 - (k + 1) = j := by omega
  rw [hk, e1, lkW, e2, if_neg h]
theorem lkB_skip {P : Bp} {st : Int} (j : Nat) (hj : j ≤ 8) (L : List Int) : lkB P st j L = lkB P st (fsW P.sg j) L := by
  by_cases e : j = 8
  · subst e; rw [fsW_end]
  · by_cases hr : P.sg.getD j 0 = 0
    · rw [fsW_no (by omega) hr, lkB_zero (by omega) hr]
      exact lkB_skip (j + 1) (by omega) L
    · rw [fsW_yes (by omega) hr]
termination_by 8 - j
theorem lkD_go {P : Bp} {mu : Bool} (h : knB P mu = false) (L : List Int) : lkD P mu L = lkA P (P.st - 1) L := by
  unfold lkD lkA
  rw [h]
  have : lkN P (P.st - 1) = P.s := by unfold lkN; omega
  rw [this]
  rfl
/-- The document's machine where the program's is. -/
structure DR (P : Bp) (mu : Bool) (b : Bk) (x : Dc) : Prop where
  ok : BkOk P b
  n1 : b.nx = 1 → x.n = b.wd
  n2 : b.nx = 2 → x.n = 8
  n3 : b.nx = 3 ∨ b.nx = 4 ∨ b.nx = 5 → x.n = 9
  n6 : b.nx = 6 ∨ b.nx = 7 ∨ b.nx = 8 → x.n = 9 + b.wr
  n0 : b.nx = 0 → x.n = P.W.length + 10
  e1 : b.nx = 1 ∨ b.nx = 2 → x.l = [] ∧ b.kn = knB P mu
  sn : b.nx = 1 ∨ b.nx = 2 ∨ b.nx = 3 ∨ b.nx = 4 ∨ b.nx = 5 → x.sn = false
  l3 : b.nx = 3 → ∀ M, lkD P mu (x.l ++ M) = lkA P b.old M
  l4 : b.nx = 4 → ∀ M, lkD P mu (x.l ++ M) = lkB P b.old b.wd M
  l5 : b.nx = 5 → ∀ M, lkD P mu (x.l ++ M) = lkE P b.old M
  l6 : b.nx = 6 ∨ b.nx = 7 ∨ b.nx = 8 → ∃ k, lkD P mu x.l = loT k ∧ b.kn = (k || x.sn)
  len : x.l.length ≤ 9 * P.s
  len3 : b.nx = 3 → (x.l.length : Int) ≤ 9 * (P.st - 1 - b.old)
  len4 : b.nx = 4 → (x.l.length : Int) ≤ 9 * (P.st - 1 - b.old) + 1 + (b.wd : Int)
  len5 : b.nx = 5 → (x.l.length : Int) ≤ 9 * (P.st - 1 - b.old) + 2 + (b.wd : Int)
theorem goB_cases (P : Bp) (b : Bk) : (goB P b).nx = 6 ∨ (goB P b).nx = 7 ∨ (goB P b).nx = 8 := by
  unfold goB
  simp only
  split
  · simp
  · split <;> simp
theorem dr_go {P : Bp} {mu : Bool} {b : Bk} {x : Dc} {k : Bool} (p : BpOk P) (wr : b.wr ≤ P.W.length) (wd : b.wd ≤ 8) (kn : b.kn = false → olderOk P (P.st - 1)) (hn : x.n = 9 + b.wr) (hl : lkD P mu x.l = loT k) (hk : b.kn = (k || x.sn)) (hle : x.l.length ≤ 9 * P.s) : DR P mu (goB P b) x := by
  have hc := goB_cases P b
  exact ⟨go_ok p wr wd kn, fun e => by omega, fun e => by omega, fun e => by omega, fun _ => hn, fun e => by omega, fun e => by omega, fun e => by omega, fun e => by omega, fun e => by omega, fun e => by omega, fun _ => ⟨k, hl, hk⟩, hle, fun e => by omega, fun e => by omega, fun e => by omega⟩
theorem dr_look {P : Bp} {mu : Bool} {b : Bk} {x : Dc} {st : Int} (p : BpOk P) (wr : b.wr = 0) (wd : b.wd ≤ 8) (kn : b.kn = false) (ho : olderOk P (P.st - 1)) (hs : st < P.st) (hn : x.n = 9) (hsn : x.sn = false) (hl : ∀ M, lkD P mu (x.l ++ M) = lkA P st M) (hle : x.l.length ≤ 9 * P.s) (hl3 : (x.l.length : Int) ≤ 9 * (P.st - 1 - st)) : DR P mu (lookAtB P b st) x := by
  have hok := lookAt_ok (b := b) p wr wd kn ho hs
  unfold lookAtB at hok ⊢
  by_cases h : st < 1 ∨ st ≤ P.st - (P.s : Int)
  · rw [if_pos h]
    refine dr_go (k := false) p (by omega) wd (fun _ => ho) (by omega) ?_ (by rw [kn, hsn]; rfl) hle
    have := hl []
    rw [List.append_nil] at this
    rw [this, lkA_end _ h]
  · rw [if_neg h] at hok ⊢
    exact ⟨hok, fun e => by simp at e, fun e => by simp at e, fun _ => hn, fun e => by simp at e, fun e => by simp at e, fun e => by simp at e, fun _ => hsn, fun _ => hl, fun e => by simp at e, fun e => by simp at e, fun e => by simp at e, hle, fun _ => hl3, fun e => by simp at e, fun e => by simp at e⟩
theorem dr_word {P : Bp} {mu : Bool} {b : Bk} {x : Dc} (p : BpOk P) (wr : b.wr = 0) (wd : b.wd ≤ 8) (kn : b.kn = false) (ho : olderOk P (P.st - 1)) (hs : olderOk P b.old) (hn : x.n = 9) (hsn : x.sn = false) (hl : ∀ M, lkD P mu (x.l ++ M) = lkB P b.old b.wd M) (hle : x.l.length ≤ 9 * P.s) (hl4 : (x.l.length : Int) ≤ 9 * (P.st - 1 - b.old) + 1 + (b.wd : Int)) : DR P mu (toWordB P b) x := by
  have hok := toWord_ok (b := b) p wr wd kn ho hs
  have hb := fsW_bd P.sg b.wd wd
  unfold toWordB at hok ⊢
  by_cases h : fsW P.sg b.wd < 8
  · rw [if_pos h] at hok ⊢
    exact ⟨hok, fun e => by simp at e, fun e => by simp at e, fun _ => hn, fun e => by simp at e, fun e => by simp at e, fun e => by simp at e, fun _ => hsn, fun e => by simp at e, fun _ M => by rw [hl M]; exact lkB_skip b.wd wd M, fun e => by simp at e, fun e => by simp at e, hle, fun e => by simp at e, fun _ => by simp only; omega, fun e => by simp at e⟩
  · rw [if_neg h]
    refine dr_look (b := ⟨b.nx, 8, b.old, b.kn, b.wr⟩) p wr (by simp) kn ho (by have := hs.2.1; omega) hn hsn (fun M => ?_) hle (by omega)
    rw [hl M, lkB_skip b.wd wd M]
    have e8 : fsW P.sg b.wd = 8 := by omega
    rw [e8]
    rfl
theorem dr_new {P : Bp} (h : BpOk P) (mu : Bool) : DR P mu (bkNew P mu) ⟨0, [], false⟩ :=
  ⟨bk_new h mu, fun _ => rfl, fun e => by simp [bkNew] at e, fun e => by simp [bkNew] at e, fun e => by simp [bkNew] at e, fun e => by simp [bkNew] at e, fun _ => ⟨rfl, rfl⟩, fun _ => rfl, fun e => by simp [bkNew] at e, fun e => by simp [bkNew] at e, fun e => by simp [bkNew] at e, fun e => by simp [bkNew] at e, by simp, fun e => by simp [bkNew] at e, fun e => by simp [bkNew] at e, fun e => by simp [bkNew] at e⟩
/-- What the document's machine makes of a step that the program's machine makes, with the word v where it loads. -/
def stepD (P : Bp) (mu : Bool) (x : Dc) (v : Int) : Dc :=
  if x.n < 9 then ⟨x.n + 1, x.l, x.sn⟩
  else if (lkD P mu x.l).th = false then (if (lkD P mu x.l).hd && !overV v (lkD P mu x.l).st && ((lkD P mu x.l).me || !laidV v (lkD P mu x.l).st) then x else ⟨x.n, x.l ++ [v], x.sn⟩)
  else if x.n < P.W.length + 9 then ⟨x.n + 1, x.l, x.sn⟩
  else if (lkD P mu x.l).kn = false ∧ x.sn = false then ⟨x.n, x.l, overV v (P.st - 1)⟩
  else ⟨x.n + 1, x.l, x.sn⟩
theorem lkD_at {P : Bp} {mu : Bool} {x : Dc} {f : List Int → Lo} (h : ∀ M, lkD P mu (x.l ++ M) = f M) : lkD P mu x.l = f [] := by
  have := h []
  rwa [List.append_nil] at this
/-- What it looks at where it looks back. -/
theorem dr_lo {P : Bp} {mu : Bool} {b : Bk} {x : Dc} (h : DR P mu b x) (e : b.nx = 3 ∨ b.nx = 4 ∨ b.nx = 5) : (lkD P mu x.l).th = false ∧ (lkD P mu x.l).st = b.old ∧ (lkD P mu x.l).a = adB P b ∧ (lkD P mu x.l).hd = !decide (b.nx = 4) ∧ (lkD P mu x.l).me = decide (b.nx = 5) := by
  have ho := (h.ok.old (by omega)).1
  obtain ⟨o1, o2, o3⟩ := ho
  rcases e with e | e | e
  · rw [lkD_at (h.l3 e), lkA_nil (by omega)]
    simp [loH, adB, e]
  · have h4 := h.ok.w4 e
    rw [lkD_at (h.l4 e), lkB_nil h4.1 h4.2]
    simp [loW, adB, e]
  · rw [lkD_at (h.l5 e)]
    simp [lkE, loH, adB, e]
theorem dr_step {P : Bp} {mu : Bool} {b : Bk} {x : Dc} (h : DR P mu b x) (hn : b.nx ≠ 0) (v : Int) : DR P mu (stepB P b v) (stepD P mu x v) := by
  have hk := h.ok
  have hp := hk.p
  have hnx := hk.nx
  have hle := h.len
  have hcs : b.nx = 1 ∨ b.nx = 2 ∨ b.nx = 3 ∨ b.nx = 4 ∨ b.nx = 5 ∨ b.nx = 6 ∨ b.nx = 7 ∨ b.nx = 8 := by omega
  rcases hcs with e | e | e | e | e | e | e | e
  · have hwd := hk.w1 e
    have hxn := h.n1 e
    have hs : stepB P b v = ⟨if b.wd + 1 = 8 then 2 else 1, b.wd + 1, b.old, b.kn, b.wr⟩ := by unfold stepB waitB; simp [e]
    have hd : stepD P mu x v = ⟨x.n + 1, x.l, x.sn⟩ := by unfold stepD; rw [if_pos (by omega)]
    have hok := bk_step hk v
    rw [hs] at hok ⊢
    rw [hd]
    have h1 := h.e1 (Or.inl e)
    have h2 := h.sn (Or.inl e)
    by_cases e8 : b.wd + 1 = 8
    · rw [if_pos e8] at hok ⊢
      exact ⟨hok, fun q => by simp at q, fun _ => by simp only; omega, fun q => by simp at q, fun q => by simp at q, fun q => by simp at q, fun _ => h1, fun _ => h2, fun q => by simp at q, fun q => by simp at q, fun q => by simp at q, fun q => by simp at q, hle, fun q => by simp at q, fun q => by simp at q, fun q => by simp at q⟩
    · rw [if_neg e8] at hok ⊢
      exact ⟨hok, fun _ => by simp only; omega, fun q => by simp at q, fun q => by simp at q, fun q => by simp at q, fun q => by simp at q, fun _ => h1, fun _ => h2, fun q => by simp at q, fun q => by simp at q, fun q => by simp at q, fun q => by simp at q, hle, fun q => by simp at q, fun q => by simp at q, fun q => by simp at q⟩
  · have hxn := h.n2 e
    have h1 := h.e1 (Or.inr e)
    have h2 := h.sn (by omega)
    have hw0 := hk.early (by omega)
    have hs : stepB P b v = if b.kn then goB P b else lookAtB P b (P.st - 1) := by unfold stepB waitB; simp [e]
    have hd : stepD P mu x v = ⟨x.n + 1, x.l, x.sn⟩ := by unfold stepD; rw [if_pos (by omega)]
    rw [hs, hd]
    cases hkn : b.kn
    · rw [if_neg (by simp)]
      have hkb : knB P mu = false := by rw [← h1.2]; exact hkn
      refine dr_look hp hw0 hk.wd hkn (hk.kn hkn) (by omega) (by simp only; omega) h2 (fun M => ?_) hle (by simp only; rw [h1.1]; simp)
      simp only
      rw [h1.1, List.nil_append]
      exact lkD_go hkb M
    · rw [if_pos rfl]
      refine dr_go (k := true) hp hk.wr hk.wd hk.kn (by simp only; omega) ?_ (by rw [hkn]; rfl) hle
      simp only
      unfold lkD
      rw [← h1.2, hkn]
      rfl
  · have hxn := h.n3 (by omega)
    obtain ⟨o1, o2, o3, o4, o5⟩ := dr_lo h (by omega)
    have ho := hk.old (by omega)
    have hw0 := hk.early (by omega)
    have h2 := h.sn (by omega)
    have hlc : ∀ M, lkD P mu (x.l ++ [v] ++ M) = if overV v b.old then loT (b.old == P.st - 1) else lkB P b.old 0 M := fun M => by
      rw [List.append_assoc, h.l3 e, List.singleton_append, lkA_cons (by obtain ⟨a1, a2, a3⟩ := ho.1; omega)]
    have h33 := h.len3 e
    obtain ⟨a1, a2, a3⟩ := ho.1
    have hd : stepD P mu x v = if !overV v b.old && !laidV v b.old then x else ⟨x.n, x.l ++ [v], x.sn⟩ := by
      unfold stepD
      rw [if_neg (by omega), if_pos o1, o2, o4, o5, e]
      rfl
    rw [hd]
    by_cases hov : overV v b.old = true
    · have hs : stepB P b v = overB P b := by unfold stepB waitB; simp [e, hov]
      rw [hs, hov, if_neg (by simp)]
      unfold overB
      refine dr_go (k := b.old == P.st - 1) hp hk.wr hk.wd (fun _ => hk.kn ho.2) (by simp only; omega) ?_ (by simp only; rw [h2]; simp) (by simp only [List.length_append, List.length_singleton]; omega)
      have := hlc []
      rw [List.append_nil, if_pos hov] at this
      exact this
    · have hov2 : overV v b.old = false := by simpa using hov
      rw [hov2]
      by_cases hla : laidV v b.old = true
      · have hs : stepB P b v = toWordB P ⟨b.nx, 0, b.old, b.kn, b.wr⟩ := by unfold stepB waitB; simp [e, hov2, hla]
        rw [hs, hla, if_neg (by simp)]
        refine dr_word (b := ⟨b.nx, 0, b.old, b.kn, b.wr⟩) hp hw0 (by simp) ho.2 (hk.kn ho.2) ho.1 hxn h2 (fun M => ?_) (by simp only [List.length_append, List.length_singleton]; omega) (by simp only [List.length_append, List.length_singleton]; omega)
        have := hlc M
        rw [if_neg hov] at this
        exact this
      · have hla2 : laidV v b.old = false := by simpa using hla
        have hs : stepB P b v = b := by unfold stepB waitB; simp [e, hov2, hla2]
        rw [hs, hla2, if_pos (by simp)]
        exact h
  · have hxn := h.n3 (by omega)
    obtain ⟨o1, o2, o3, o4, o5⟩ := dr_lo h (by omega)
    have ho := hk.old (by omega)
    have hw0 := hk.early (by omega)
    have h2 := h.sn (by omega)
    have h4 := hk.w4 e
    have hlc : ∀ M, lkD P mu (x.l ++ [v] ++ M) = if hitS P.sg b.wd v then lkE P b.old M else lkB P b.old (b.wd + 1) M := fun M => by
      rw [List.append_assoc, h.l4 e, List.singleton_append, lkB_cons h4.1 h4.2]
    have h44 := h.len4 e
    obtain ⟨a1, a2, a3⟩ := ho.1
    have hd : stepD P mu x v = ⟨x.n, x.l ++ [v], x.sn⟩ := by
      unfold stepD
      rw [if_neg (by omega), if_pos o1, o4, e]
      rfl
    rw [hd]
    have hs : stepB P b v = if hitS P.sg b.wd v then ⟨5, b.wd, b.old, b.kn, b.wr⟩ else toWordB P ⟨b.nx, b.wd + 1, b.old, b.kn, b.wr⟩ := by unfold stepB waitB; simp [e]
    have hok := bk_step hk v
    rw [hs] at hok ⊢
    by_cases hh : hitS P.sg b.wd v = true
    · rw [if_pos hh] at hok ⊢
      exact ⟨hok, fun q => by simp at q, fun q => by simp at q, fun _ => hxn, fun q => by simp at q, fun q => by simp at q, fun q => by simp at q, fun _ => h2, fun q => by simp at q, fun q => by simp at q, fun _ M => by have := hlc M; rw [if_pos hh] at this; exact this, fun q => by simp at q, by simp only [List.length_append, List.length_singleton]; omega, fun q => by simp at q, fun q => by simp at q, fun _ => by simp only [List.length_append, List.length_singleton]; omega⟩
    · rw [if_neg hh]
      refine dr_word (b := ⟨b.nx, b.wd + 1, b.old, b.kn, b.wr⟩) hp hw0 (by simp only; omega) ho.2 (hk.kn ho.2) ho.1 hxn h2 (fun M => ?_) (by simp only [List.length_append, List.length_singleton]; omega) (by simp only [List.length_append, List.length_singleton]; omega)
      have := hlc M
      rw [if_neg hh] at this
      exact this
  · have hxn := h.n3 (by omega)
    obtain ⟨o1, o2, o3, o4, o5⟩ := dr_lo h (by omega)
    have ho := hk.old (by omega)
    have h2 := h.sn (by omega)
    have h55 := h.len5 e
    have hw0 := hk.early (by omega)
    obtain ⟨a1, a2, a3⟩ := ho.1
    have hwd := hk.wd
    have hd : stepD P mu x v = if !overV v b.old then x else ⟨x.n, x.l ++ [v], x.sn⟩ := by
      unfold stepD
      rw [if_neg (by omega), if_pos o1, o2, o4, o5, e]
      cases overV v b.old <;> rfl
    rw [hd]
    by_cases hov : overV v b.old = true
    · have hs : stepB P b v = overB P b := by unfold stepB waitB; simp [e, hov]
      rw [hs, hov, if_neg (by simp)]
      unfold overB
      refine dr_go (k := b.old == P.st - 1) hp hk.wr hk.wd (fun _ => hk.kn ho.2) (by simp only; omega) ?_ (by simp only; rw [h2]; simp) (by simp only [List.length_append, List.length_singleton]; omega)
      simp only
      rw [h.l5 e]
      rfl
    · have hov2 : overV v b.old = false := by simpa using hov
      have hs : stepB P b v = b := by unfold stepB waitB; simp [e, hov2]
      rw [hs, hov2, if_pos (by simp)]
      exact h
  · have hxn := h.n6 (by omega)
    obtain ⟨k, hl, hkn⟩ := h.l6 (by omega)
    have hwr := hk.wr6 e
    have hs : stepB P b v = goB P ⟨b.nx, b.wd, b.old, b.kn, b.wr + 1⟩ := by unfold stepB waitB; simp [e]
    have hd : stepD P mu x v = ⟨x.n + 1, x.l, x.sn⟩ := by unfold stepD; rw [if_neg (by omega), hl, if_neg (by simp [loT]), if_pos (by omega)]
    rw [hs, hd]
    exact dr_go (k := k) hp (by simp only; omega) hk.wd hk.kn (by simp only; omega) hl hkn hle
  · have hxn := h.n6 (by omega)
    obtain ⟨k, hl, hkn⟩ := h.l6 (by omega)
    have hwr := hk.late (by omega)
    have h7 := hk.n7 e
    have hks : k = false ∧ x.sn = false := by rw [h7] at hkn; cases k <;> cases hx : x.sn <;> rw [hx] at hkn <;> simp at hkn ⊢
    have hd : stepD P mu x v = ⟨x.n, x.l, overV v (P.st - 1)⟩ := by unfold stepD; rw [if_neg (by omega), hl, if_neg (by simp [loT]), if_neg (by omega), if_pos ⟨hks.1, hks.2⟩]
    rw [hd]
    by_cases hov : overV v (P.st - 1) = true
    · have hs : stepB P b v = goB P ⟨b.nx, b.wd, b.old, true, b.wr⟩ := by unfold stepB waitB; simp [e, hov]
      rw [hs, hov]
      exact dr_go (k := k) hp (by simp only; omega) hk.wd (by simp) hxn hl (by simp) hle
    · have hov2 : overV v (P.st - 1) = false := by simpa using hov
      have hs : stepB P b v = b := by unfold stepB waitB; simp [e, hov2]
      rw [hs, hov2]
      have hxe : (⟨x.n, x.l, false⟩ : Dc) = x := by rw [← hks.2]
      rw [hxe]
      exact h
  · have hxn := h.n6 (by omega)
    obtain ⟨k, hl, hkn⟩ := h.l6 (by omega)
    have hwr := hk.late (by omega)
    have h8 := hk.n8 (Or.inl e)
    have hs : stepB P b v = ⟨0, b.wd, b.old, b.kn, b.wr⟩ := by unfold stepB waitB; simp [e]
    have hd : stepD P mu x v = ⟨x.n + 1, x.l, x.sn⟩ := by
      unfold stepD
      rw [if_neg (by omega), hl, if_neg (by simp [loT]), if_neg (by omega), if_neg (fun q => by have q1 : k = false := q.1; rw [q1, q.2, h8] at hkn; simp at hkn)]
    have hok := bk_step hk v
    rw [hs] at hok ⊢
    rw [hd]
    exact ⟨hok, fun q => by simp at q, fun q => by simp at q, fun q => by simp at q, fun q => by simp at q, fun _ => by simp only; omega, fun q => by simp at q, fun q => by simp at q, fun q => by simp at q, fun q => by simp at q, fun q => by simp at q, fun q => by simp at q, hle, fun q => by simp at q, fun q => by simp at q, fun q => by simp at q⟩
end Go.Proofs.Ytbmmicfdnfpcaaa
