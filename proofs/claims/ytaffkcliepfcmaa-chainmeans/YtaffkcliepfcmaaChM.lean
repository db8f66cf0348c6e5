/- A call of a chain (layer 18) as plain data: a tree of wants; and that it wants what the document says. -/
import Derived.Test.YtaffkcliepfcmaaCoM
namespace Go.Proofs.Ytaffkcliepfcmaa.Ch
open Go.ChangeShapes Go.WideShapes Go.ChangeAt Go.RowKit

/-- How many arguments a call has; -1: it is none. -/
def arV (call : Int) : Int := if call = 1 then 1 else if call = 4 then 1 else if call = 6 then 1 else if call = 8 then 1 else if call = 7 then 0 else if call = 5 then 0 else -1
def rightV (base most call : Int) (n : Nat) : Bool := takesV base most (arV call) n
/-- A call: a want, and what comes behind it, by what was read. -/
inductive T where
  | fin (x : Wn) : T
  | on (x : Wn) (g : Int → T) : T
def T.w : T → Wn
  | .fin x => x
  | .on x _ => x
def T.nx : T → Option (Int → T)
  | .fin _ => none
  | .on _ g => some g
/-- Where a way ended. -/
structure Wy where
  cell : Int
  link : Int
  stop : Bool
  node : Int
  key : Int
def wyAt (w : Wy) (k : Int) : Bool := w.stop && decide (w.key = k)
/-- The node to which a link leads; 0: nowhere. -/
def leadV (p n : Int) : Int := if p < 1 ∨ n < p then 0 else p
def keyV (i : Int) : Int := 1 + 2 * i
def nxtV (i : Int) : Int := keyV i + 1
def readT (b c : Int) (g : Int → T) : T := .on (readW (b + c)) g
def putT (b c v : Int) (t : T) : T := .on (putW (b + c) v) (fun _ => t)
def doneT (v : Int) : T := .fin (endW v 0)
def refT (c : Int) : T := .fin (endW 0 c)
def goT (b n k : Int) (h : Wy → T) : Nat → Int → T
  | 0, c => readT b c fun p => h ⟨c, p, false, 0, 0⟩
  | f + 1, c => readT b c fun p => if leadV p n = 0 then h ⟨c, p, false, 0, 0⟩ else readT b (keyV (leadV p n)) fun v => if k ≤ v then h ⟨c, p, true, leadV p n, v⟩ else goT b n k h f (nxtV (leadV p n))
def kbT (b n p : Int) : T := if leadV p n = 0 then refT 1 else readT b (keyV (leadV p n)) doneT
def cntT (b n : Int) : Nat → Int → Int → T
  | 0, c, i => readT b c fun _ => doneT i
  | f + 1, c, i => readT b c fun p => if leadV p n = 0 then doneT i else cntT b n f (nxtV (leadV p n)) (i + 1)
def unT (b n : Int) (h : Int → T) : T := readT b 2 fun u => if u < 0 ∨ n ≤ u then refT 2 else putT b 2 (u + 1) (h (u + 1))
def takeT (b n : Int) (h : Int → T) : T := readT b 1 fun f => if leadV f n = 0 then unT b n h else readT b (nxtV (leadV f n)) fun q => putT b 1 q (h (leadV f n))
def giveT (b node : Int) : T := readT b 1 fun f => putT b (nxtV node) f (putT b 1 node (doneT 0))
def addH (b n k : Int) (w : Wy) : T := if wyAt w k = true then refT 3 else takeT b n fun node => putT b (keyV node) k (putT b (nxtV node) w.link (putT b w.cell node (doneT 0)))
def delH (b k : Int) (w : Wy) : T := if wyAt w k = true then readT b (nxtV w.node) fun q => putT b w.cell q (giveT b w.node) else refT 1
def hasH (k : Int) (w : Wy) : T := if wyAt w k = true then doneT 1 else doneT 0
def nextH (b n k : Int) (w : Wy) : T := if w.stop = true then (if wyAt w k = true then readT b (nxtV w.node) (kbT b n) else doneT w.key) else refT 1
def firstT (b n call : Int) (A : List Int) : T :=
  if call = 1 then goT b n (nth A 0) (addH b n (nth A 0)) n.toNat 0
  else if call = 4 then goT b n (nth A 0) (delH b (nth A 0)) n.toNat 0
  else if call = 6 then goT b n (nth A 0) (hasH (nth A 0)) n.toNat 0
  else if call = 8 then goT b n (nth A 0) (nextH b n (nth A 0)) n.toNat 0
  else if call = 7 then readT b 0 (kbT b n)
  else cntT b n n.toNat 0 0

/-! ### the document's -/
inductive Gx where
  | more (c : Int) : Gx
  | over (w : Wy) (r : List Int) : Gx
/-- To go to a key, by what was read. -/
def goX (n k : Int) : Nat → Int → List Int → Gx
  | _, c, [] => .more c
  | 0, c, p :: r => .over ⟨c, p, false, 0, 0⟩ r
  | _ + 1, c, [p] => if leadV p n = 0 then .over ⟨c, p, false, 0, 0⟩ [] else .more (keyV (leadV p n))
  | f + 1, c, p :: v :: r => if leadV p n = 0 then .over ⟨c, p, false, 0, 0⟩ (v :: r) else if k ≤ v then .over ⟨c, p, true, leadV p n, v⟩ r else goX n k f (nxtV (leadV p n)) r
/-- The key behind a link. -/
def kbV (b n : Int) : List Int → Wn
  | [] => wn0
  | [p] => if leadV p n = 0 then endW 0 1 else readW (b + keyV (leadV p n))
  | p :: v :: _ => if leadV p n = 0 then endW 0 1 else endW v 0
def leastV (b n : Int) (R : List Int) : Wn := if R = [] then readW (b + 0) else kbV b n R
def lenX (b n : Int) : Nat → Int → Int → List Int → Wn
  | _, c, _, [] => readW (b + c)
  | 0, _, i, _ :: _ => endW i 0
  | f + 1, _, i, p :: r => if leadV p n = 0 then endW i 0 else lenX b n f (nxtV (leadV p n)) (i + 1) r
def nextV (b n k : Int) (w : Wy) (l : List Int) : Wn :=
  if w.stop = false then endW 0 1 else if wyAt w k = false then endW w.key 0 else if l = [] then readW (b + nxtV w.node) else kbV b n l
def putsV (b k : Int) (w : Wy) (first : Wn) (node wr : Int) : Wn :=
  if wr = 0 then first else if wr = 1 then putW (b + keyV node) k else if wr = 2 then putW (b + nxtV node) w.link else if wr = 3 then putW (b + w.cell) node else endW 0 0
def addsV (b n k : Int) (w : Wy) (l : List Int) (wr : Int) : Wn :=
  if wyAt w k = true then endW 0 3 else
  match l with
  | [] => readW (b + 1)
  | [f] => if leadV f n = 0 then readW (b + 2) else readW (b + nxtV (leadV f n))
  | f :: u :: _ => if leadV f n = 0 then (if u < 0 ∨ n ≤ u then endW 0 2 else putsV b k w (putW (b + 2) (u + 1)) (u + 1) wr) else putsV b k w (putW (b + 1) u) (leadV f n) wr
def delsV (b k : Int) (w : Wy) (l : List Int) (wr : Int) : Wn :=
  if wyAt w k = false then endW 0 1 else
  match l with
  | [] => readW (b + nxtV w.node)
  | [q] => if wr = 0 then putW (b + w.cell) q else readW (b + 1)
  | q :: f :: _ => if wr = 0 then putW (b + w.cell) q else if wr = 1 then putW (b + nxtV w.node) f else if wr = 2 then putW (b + 1) w.node else endW 0 0
def restV (b n call k : Int) (w : Wy) (l : List Int) (wr : Int) : Wn :=
  if call = 1 then addsV b n k w l wr else if call = 4 then delsV b k w l wr else if call = 8 then nextV b n k w l
  else if wyAt w k = true then endW 1 0 else endW 0 0
def behV (b : Int) (E : Wy → List Int → Int → Wn) (x : Gx) (wr : Int) : Wn :=
  match x with
  | .more c => readW (b + c)
  | .over w r => E w r wr
def docV (base most call : Int) (A R : List Int) (k : Int) : Wn :=
  if call = 7 then leastV base most R
  else if call = 5 then lenX base most most.toNat 0 0 R
  else behV base (restV base most call (nth A 0)) (goX most (nth A 0) most.toNat 0 R) k
def wantV (base most call : Int) (A R : List Int) (k : Int) (last : Wn) : Wn := if last.kind = 6 then last else docV base most call A R k
/-- What was read, how much was written, behind a word that is handed in. -/
def readV (R : List Int) (last : Wn) (v : Int) : List Int := if last.kind = 2 then R ++ [v] else R
def cntV (k : Int) (last : Wn) : Int := if last.kind = 3 then k + 1 else k
/-- How many cells there are. -/
def sizeV (most : Int) : Int := if 0 ≤ most ∧ most ≤ 16 then 2 * most + 3 else 0

/-! ### both are the same -/
/-- A tree wants what is asked for (D: by what is read from here on, and how many writes are told), its cells are its own, and it ends in time. -/
def Ok (b s : Int) : T → Nat → (List Int → Int → Wn) → Prop
  | .fin x, _, D => x = D [] 0 ∧ x.kind = 6 ∧ x.cell = 0 ∧ (x.code = 0 ∨ x.val = 0)
  | .on x g, n, D => x = D [] 0 ∧ 1 ≤ n ∧ (b ≤ x.cell ∧ x.cell < b + s) ∧ ((x.kind = 2 ∧ ∀ v, Sx v → Ok b s (g v) (n - 1) (fun R k => D (v :: R) k)) ∨ (x.kind = 3 ∧ ∀ v, Ok b s (g v) (n - 1) (fun R k => D R (k + 1))))
theorem Ok.congr {b s : Int} {t : T} {n : Nat} {D D' : List Int → Int → Wn} (h : Ok b s t n D) (e : ∀ R k, 0 ≤ k → D R k = D' R k) : Ok b s t n D' := by
  induction t generalizing n D D' with
  | fin x =>
    obtain ⟨h1, h2⟩ := h
    exact ⟨by rw [h1, e _ _ (by omega)], h2⟩
  | on x g ih =>
    obtain ⟨h1, h2, h3, h4⟩ := h
    refine ⟨by rw [h1, e _ _ (by omega)], h2, h3, ?_⟩
    rcases h4 with ⟨h4, h5⟩ | ⟨h4, h5⟩
    · exact Or.inl ⟨h4, fun v hv => ih v (h5 v hv) (fun R k hk => e _ _ hk)⟩
    · exact Or.inr ⟨h4, fun v => ih v (h5 v) (fun R k hk => e _ _ (by omega))⟩
theorem Ok.more {b s : Int} {t : T} {n m : Nat} {D : List Int → Int → Wn} (h : Ok b s t n D) (hm : n ≤ m) : Ok b s t m D := by
  induction t generalizing n m D with
  | fin x => exact h
  | on x g ih =>
    obtain ⟨h1, h2, h3, h4⟩ := h
    refine ⟨h1, by omega, h3, ?_⟩
    rcases h4 with ⟨h4, h5⟩ | ⟨h4, h5⟩
    · exact Or.inl ⟨h4, fun v hv => ih v (h5 v hv) (by omega)⟩
    · exact Or.inr ⟨h4, fun v => ih v (h5 v) (by omega)⟩
theorem ok_read {b s c : Int} {g : Int → T} {n : Nat} {D : List Int → Int → Wn} (h0 : D [] 0 = readW (b + c)) (hc : 0 ≤ c ∧ c < s) (h : ∀ v, Sx v → Ok b s (g v) n (fun R k => D (v :: R) k)) : Ok b s (readT b c g) (n + 1) D :=
  ⟨h0.symm, by omega, by simp only [readW]; omega, Or.inl ⟨rfl, fun v hv => h v hv⟩⟩
theorem ok_put {b s c z : Int} {t : T} {n : Nat} {D : List Int → Int → Wn} (h0 : D [] 0 = putW (b + c) z) (hc : 0 ≤ c ∧ c < s) (h : Ok b s t n (fun R k => D R (k + 1))) : Ok b s (putT b c z t) (n + 1) D :=
  ⟨h0.symm, by omega, by simp only [putW]; omega, Or.inr ⟨rfl, fun _ => h⟩⟩
theorem ok_end {b s v c : Int} {n : Nat} {D : List Int → Int → Wn} (h0 : D [] 0 = endW v c) : Ok b s (.fin (endW v c)) n D :=
  ⟨h0.symm, rfl, rfl, by simp only [endW]; by_cases h : c = 0 <;> simp [h]⟩
theorem ok_done {b s v : Int} {n : Nat} {D : List Int → Int → Wn} (h0 : D [] 0 = endW v 0) : Ok b s (doneT v) n D := ok_end h0
theorem ok_ref {b s c : Int} {n : Nat} {D : List Int → Int → Wn} (h0 : D [] 0 = endW 0 c) : Ok b s (refT c) n D := ok_end h0
theorem lead_of {p n : Int} (h : leadV p n ≠ 0) : leadV p n = p ∧ 1 ≤ p ∧ p ≤ n := by
  unfold leadV at h ⊢
  by_cases c : p < 1 ∨ n < p
  · rw [if_pos c] at h; exact absurd rfl h
  · rw [if_neg c]; omega
theorem key_own {i n : Int} (h : 1 ≤ i ∧ i ≤ n) : 0 ≤ keyV i ∧ keyV i < 2 * n + 3 := by unfold keyV; omega
theorem nxt_own {i n : Int} (h : 1 ≤ i ∧ i ≤ n) : 0 ≤ nxtV i ∧ nxtV i < 2 * n + 3 := by unfold nxtV keyV; omega
/-- What is so of the end of a way. -/
structure WyOk (n : Int) (w : Wy) : Prop where
  c : 0 ≤ w.cell ∧ w.cell < 2 * n + 3
  s : w.stop = true → 1 ≤ w.node ∧ w.node ≤ n
theorem ok_go {b n k : Int} {h : Wy → T} {m : Nat} {E : Wy → List Int → Int → Wn} (hh : ∀ w, WyOk n w → Ok b (2 * n + 3) (h w) m (E w)) : ∀ (f : Nat) (c : Int), 0 ≤ c ∧ c < 2 * n + 3 → Ok b (2 * n + 3) (goT b n k h f c) (2 * f + 1 + m) (fun R wr => behV b E (goX n k f c R) wr) := by
  intro f
  induction f with
  | zero =>
    intro c hc
    rw [show 2 * 0 + 1 + m = m + 1 by omega]
    refine ok_read (by simp [goX, behV]) hc fun p hp => ?_
    exact (hh ⟨c, p, false, 0, 0⟩ ⟨hc, by simp⟩).congr (fun R wr _ => by simp [goX, behV])
  | succ f ih =>
    intro c hc
    rw [show 2 * (f + 1) + 1 + m = (2 * f + 1 + m + 1) + 1 by omega]
    refine ok_read (by simp [goX, behV]) hc fun p hp => ?_
    by_cases hl : leadV p n = 0
    · rw [if_pos hl]
      refine ((hh ⟨c, p, false, 0, 0⟩ ⟨hc, by simp⟩).more (show m ≤ 2 * f + 1 + m + 1 by omega)).congr (fun R wr _ => ?_)
      cases R <;> simp [goX, behV, hl]
    · rw [if_neg hl]
      obtain ⟨h1, h2⟩ := lead_of hl
      refine ok_read (by simp [goX, behV, hl]) (key_own (by rw [h1]; exact h2)) fun v hv => ?_
      by_cases hk : k ≤ v
      · rw [if_pos hk]
        refine ((hh ⟨c, p, true, leadV p n, v⟩ ⟨hc, fun _ => by simp only [h1]; exact h2⟩).more (show m ≤ 2 * f + 1 + m by omega)).congr (fun R wr _ => ?_)
        simp [goX, behV, hl, hk]
      · rw [if_neg hk]
        refine (ih _ (nxt_own (by rw [h1]; exact h2))).congr (fun R wr _ => ?_)
        simp [goX, hl, hk]
theorem ok_kb {b n p : Int} {D : List Int → Int → Wn} (hD : ∀ R wr, D R wr = kbV b n (p :: R)) : Ok b (2 * n + 3) (kbT b n p) 1 D := by
  unfold kbT
  by_cases hl : leadV p n = 0
  · rw [if_pos hl]
    exact ok_ref (by rw [hD]; simp [kbV, hl])
  · rw [if_neg hl]
    obtain ⟨h1, h2⟩ := lead_of hl
    refine ok_read (n := 0) (by rw [hD]; simp [kbV, hl]) (key_own (by rw [h1]; exact h2)) fun v hv => ?_
    exact ok_done (by rw [hD]; simp [kbV, hl])
theorem ok_cnt {b n : Int} : ∀ (f : Nat) (c i : Int), 0 ≤ c ∧ c < 2 * n + 3 → Ok b (2 * n + 3) (cntT b n f c i) (f + 1) (fun R _ => lenX b n f c i R) := by
  intro f
  induction f with
  | zero =>
    intro c i hc
    exact ok_read (by simp [lenX]) hc fun p hp => ok_done (by simp [lenX])
  | succ f ih =>
    intro c i hc
    refine ok_read (by simp [lenX]) hc fun p hp => ?_
    by_cases hl : leadV p n = 0
    · rw [if_pos hl]
      exact ok_done (by simp [lenX, hl])
    · rw [if_neg hl]
      obtain ⟨h1, h2⟩ := lead_of hl
      exact (ih _ (i + 1) (nxt_own (by rw [h1]; exact h2))).congr (fun R wr _ => by simp [lenX, hl])
theorem ok_puts {b n k node : Int} {w : Wy} {D : List Int → Int → Wn} {first : Wn} (hw : WyOk n w) (hn : 1 ≤ node ∧ node ≤ n) (hD : ∀ R wr, 0 ≤ wr → D R wr = putsV b k w first node (wr + 1)) :
    Ok b (2 * n + 3) (putT b (keyV node) k (putT b (nxtV node) w.link (putT b w.cell node (doneT 0)))) 3 D := by
  refine ok_put (by rw [hD _ _ (by omega)]; simp [putsV]) (key_own hn) (ok_put (by rw [hD _ _ (by omega)]; simp [putsV]) (nxt_own hn) (ok_put (n := 0) (by rw [hD _ _ (by omega)]; simp [putsV]) hw.c (ok_done ?_)))
  rw [hD _ _ (by omega)]
  simp [putsV]
theorem ok_add {b n k : Int} {w : Wy} (hn : 0 ≤ n) (hw : WyOk n w) : Ok b (2 * n + 3) (addH b n k w) 6 (addsV b n k w) := by
  unfold addH
  by_cases ha : wyAt w k = true
  · rw [if_pos ha]
    exact ok_ref (by simp [addsV, ha])
  · rw [if_neg ha]
    refine ok_read (n := 5) (by simp [addsV, ha]) (by omega) fun f hf => ?_
    by_cases hl : leadV f n = 0
    · rw [if_pos hl]
      refine ok_read (n := 4) (by simp [addsV, ha, hl]) (by omega) fun u hu => ?_
      by_cases hu : u < 0 ∨ n ≤ u
      · rw [if_pos hu]
        exact ok_ref (by simp [addsV, ha, hl, hu])
      · rw [if_neg hu]
        refine ok_put (n := 3) (by simp [addsV, ha, hl, hu, putsV]) (by omega) (ok_puts (first := putW (b + 2) (u + 1)) hw (by omega) fun R wr hwr => ?_)
        simp [addsV, ha, hl, hu]
    · rw [if_neg hl]
      obtain ⟨h1, h2⟩ := lead_of hl
      refine ok_read (n := 4) (by simp [addsV, ha, hl]) (nxt_own (by rw [h1]; exact h2)) fun q hq => ?_
      refine ok_put (n := 3) (by simp [addsV, ha, hl, putsV]) (by omega) (ok_puts (first := putW (b + 1) q) hw (by rw [h1]; exact h2) fun R wr hwr => ?_)
      simp [addsV, ha, hl]
theorem at_stop {w : Wy} {k : Int} (h : wyAt w k = true) : w.stop = true ∧ w.key = k := by
  simp only [wyAt, Bool.and_eq_true, decide_eq_true_eq] at h
  exact h
theorem ok_del {b n k : Int} {w : Wy} (hn : 0 ≤ n) (hw : WyOk n w) : Ok b (2 * n + 3) (delH b k w) 5 (delsV b k w) := by
  unfold delH
  by_cases ha : wyAt w k = true
  · rw [if_pos ha]
    have hs := hw.s (at_stop ha).1
    refine ok_read (n := 4) (by simp [delsV, ha]) (nxt_own hs) fun q hq => ok_put (n := 3) (by simp [delsV, ha]) hw.c (ok_read (n := 2) (by simp [delsV, ha]) (by omega) fun f hf => ok_put (n := 1) (by simp [delsV, ha]) (nxt_own hs) (ok_put (n := 0) (by simp [delsV, ha]) (by omega) (ok_done (by simp [delsV, ha]))))
  · rw [if_neg ha]
    exact ok_ref (by simp [delsV, ha])
theorem ok_next {b n k : Int} {w : Wy} (hw : WyOk n w) : Ok b (2 * n + 3) (nextH b n k w) 2 (fun l _ => nextV b n k w l) := by
  unfold nextH
  by_cases hs : w.stop = true
  · rw [if_pos hs]
    by_cases ha : wyAt w k = true
    · rw [if_pos ha]
      refine ok_read (n := 1) (by simp [nextV, ha, hs]) (nxt_own (hw.s hs)) fun p hp => ok_kb fun R wr => ?_
      simp [nextV, ha, hs]
    · rw [if_neg ha]
      exact ok_done (by simp [nextV, ha, hs])
  · rw [if_neg hs]
    exact ok_ref (by simp [nextV, hs])
theorem call_of {base most call : Int} {n : Nat} (h : rightV base most call n = true) : 0 ≤ most ∧ most ≤ 16 ∧ 0 ≤ base ∧ base ≤ 1024 ∧ ((call = 1 ∧ n = 1) ∨ (call = 4 ∧ n = 1) ∨ (call = 6 ∧ n = 1) ∨ (call = 8 ∧ n = 1) ∨ (call = 7 ∧ n = 0) ∨ (call = 5 ∧ n = 0)) := by
  simp only [rightV, takesV, Bool.and_eq_true, decide_eq_true_eq] at h
  obtain ⟨⟨⟨⟨h1, h2⟩, h3⟩, h4⟩, h5⟩ := h
  refine ⟨h1, h2, h3, h4, ?_⟩
  unfold arV at h5
  split at h5
  · omega
  · split at h5
    · omega
    · split at h5
      · omega
      · split at h5
        · omega
        · split at h5
          · omega
          · split at h5 <;> omega
def mostW (most : Int) : Nat := 2 * most.toNat + 7
theorem ok_first {base most call : Int} {A : List Int} (h : rightV base most call A.length = true) : Ok base (2 * most + 3) (firstT base most call A) (mostW most) (docV base most call A) := by
  obtain ⟨hn, _, _, _, hc⟩ := call_of h
  unfold firstT mostW
  rcases hc with ⟨rfl, _⟩ | ⟨rfl, _⟩ | ⟨rfl, _⟩ | ⟨rfl, _⟩ | ⟨rfl, _⟩ | ⟨rfl, _⟩
  · exact ((ok_go (k := nth A 0) (fun w hw => ok_add hn hw) most.toNat 0 (by omega)).more (by omega)).congr (fun R k _ => by simp only [docV]; simp only [Int.reduceEq, if_false]; cases goX most (nth A 0) most.toNat 0 R <;> simp [behV, restV])
  · exact ((ok_go (k := nth A 0) (fun w hw => ok_del hn hw) most.toNat 0 (by omega)).more (by omega)).congr (fun R k _ => by simp only [docV]; simp only [Int.reduceEq, if_false]; cases goX most (nth A 0) most.toNat 0 R <;> simp [behV, restV])
  · refine ((ok_go (k := nth A 0) (m := 0) (E := restV base most 6 (nth A 0)) (fun w hw => ?_) most.toNat 0 (by omega)).more (by omega)).congr (fun R k _ => by simp [docV])
    unfold hasH
    by_cases ha : wyAt w (nth A 0) = true
    · rw [if_pos ha]; exact ok_done (by simp [restV, ha])
    · rw [if_neg ha]; exact ok_done (by simp [restV, ha])
  · exact ((ok_go (k := nth A 0) (fun w hw => ok_next hw) most.toNat 0 (by omega)).more (by omega)).congr (fun R k _ => by simp only [docV]; simp only [Int.reduceEq, if_false]; cases goX most (nth A 0) most.toNat 0 R <;> simp [behV, restV])
  · refine (ok_read (n := 1) (D := docV base most 7 A) (by simp [docV, leastV]) (by omega) fun p hp => ok_kb fun R wr => ?_).more (by omega)
    simp [docV, leastV]
  · exact ((ok_cnt most.toNat 0 0 (by omega)).more (by omega)).congr (fun R k _ => by simp [docV])

/-! ### the machine -/
/-- A call under way: what it told last, what comes next, and (of no weight) how many wants it may still tell. -/
structure Mc where
  last : Wn
  g : Option (Int → T)
  n : Nat
def tellM (m : Mc) (v : Int) : Wn := match m.g with | none => m.last | some g => (g v).w
def goM (m : Mc) (v : Int) : Mc := match m.g with | none => m | some g => ⟨(g v).w, (g v).nx, m.n - 1⟩
def mkM (base most call : Int) (A : List Int) : Mc := ⟨wn0, some (fun _ => firstT base most call A), mostW most⟩
structure Rel (base most call : Int) (A : List Int) (m : Mc) (R : List Int) (k : Int) (last : Wn) : Prop where
  ok : rightV base most call A.length = true
  lt : m.last = last
  w64 : ∀ x ∈ R, Sx x
  len : R.length + m.n ≤ 100 ∧ 0 ≤ k ∧ k + m.n ≤ 100
  fin : m.g = none → last.kind = 6 ∧ last.cell = 0 ∧ (last.code = 0 ∨ last.val = 0)
  on : ∀ g, m.g = some g → last.kind ≠ 6 ∧ (last = wn0 ∨ ((last.kind = 2 ∨ last.kind = 3) ∧ base ≤ last.cell ∧ last.cell < base + sizeV most ∧ R.length + m.n + 1 ≤ 100 ∧ k + m.n + 1 ≤ 100)) ∧ ∀ v, Sx v → Ok base (2 * most + 3) (g v) m.n (fun R' k' => docV base most call A (readV R last v ++ R') (cntV k last + k'))
theorem most_le {base most call : Int} {n : Nat} (h : rightV base most call n = true) : mostW most ≤ 100 := by
  obtain ⟨h1, h2, _⟩ := call_of h
  unfold mostW
  omega
theorem rel_first {base most call : Int} {A : List Int} (h : rightV base most call A.length = true) : Rel base most call A (mkM base most call A) [] 0 wn0 := by
  have hm := most_le h
  refine ⟨h, rfl, by simp, ⟨by simp [mkM]; exact hm, by omega, by simp only [mkM]; omega⟩, by simp [mkM], fun g hg => ⟨by decide, Or.inl rfl, fun v _ => ?_⟩⟩
  simp only [mkM, Option.some.injEq] at hg
  subst hg
  exact (ok_first h).congr (fun R k _ => by simp [readV, cntV, wn0])
theorem sx_of_read {R : List Int} {last : Wn} {v : Int} (h : ∀ x ∈ R, Sx x) (hv : Sx v) : ∀ x ∈ readV R last v, Sx x := by
  unfold readV
  split
  · intro x hx
    rcases List.mem_append.1 hx with hx | hx
    · exact h x hx
    · simp at hx
      rw [hx]
      exact hv
  · exact h
theorem size_is {base most call : Int} {n : Nat} (h : rightV base most call n = true) : sizeV most = 2 * most + 3 := by
  obtain ⟨h1, h2, _⟩ := call_of h
  unfold sizeV
  rw [if_pos ⟨h1, h2⟩]
theorem rel_step {base most call : Int} {A : List Int} {m : Mc} {R : List Int} {k : Int} {last : Wn} (h : Rel base most call A m R k last) (v : Int) (hv : Sx v) :
    tellM m v = wantV base most call A (readV R last v) (cntV k last) last ∧ Rel base most call A (goM m v) (readV R last v) (cntV k last) (wantV base most call A (readV R last v) (cntV k last) last) := by
  obtain ⟨l0, g0, n0⟩ := m
  cases g0 with
  | none =>
    obtain ⟨h6, h7⟩ := h.fin rfl
    have e1 : tellM ⟨l0, none, n0⟩ v = last := h.lt
    have e3 : readV R last v = R := by unfold readV; rw [if_neg (by rw [h6]; decide)]
    have e4 : cntV k last = k := by unfold cntV; rw [if_neg (by rw [h6]; decide)]
    have e5 : ∀ R k, wantV base most call A R k last = last := fun R k => by unfold wantV; rw [if_pos h6]
    rw [e1, e3, e4, e5]
    exact ⟨rfl, h⟩
  | some g =>
    obtain ⟨h6, ho, hk⟩ := h.on g rfl
    have hk := hk v hv
    have hlen := h.len
    simp only at hlen hk
    have e5 : wantV base most call A (readV R last v) (cntV k last) last = (g v).w := by
      unfold wantV
      rw [if_neg h6]
      cases ht : g v with
      | fin x => rw [ht] at hk; have := hk.1; simp at this; simp [T.w, this]
      | on x g' => rw [ht] at hk; have := hk.1; simp at this; simp [T.w, this]
    rw [e5]
    refine ⟨rfl, h.ok, rfl, sx_of_read h.w64 hv, ?_, ?_, ?_⟩
    · simp only [goM]
      have hr : (readV R last v).length ≤ R.length + 1 ∧ (last.kind ≠ 2 → (readV R last v).length = R.length) := by unfold readV; split <;> simp_all
      have hc : k ≤ cntV k last ∧ cntV k last ≤ k + 1 ∧ (last.kind ≠ 3 → cntV k last = k) := by unfold cntV; split <;> simp_all <;> omega
      rcases ho with rfl | ⟨_, _, _, h8, h9⟩
      · have := hr.2 (by decide)
        have := hc.2.2 (by decide)
        omega
      · simp only at h8 h9
        omega
    · intro hg
      cases ht : g v with
      | fin x => rw [ht] at hk; exact hk.2
      | on x g' => simp [goM, ht, T.nx] at hg
    · intro g2 hg
      cases ht : g v with
      | fin x => simp [goM, ht, T.nx] at hg
      | on x g' =>
        simp only [goM, ht, T.nx, Option.some.injEq] at hg
        subst hg
        rw [ht] at hk
        obtain ⟨k1, k2, k3, k4⟩ := hk
        have hr : (readV R last v).length ≤ R.length + 1 ∧ (last.kind ≠ 2 → (readV R last v).length = R.length) := by unfold readV; split <;> simp_all
        have hc : k ≤ cntV k last ∧ cntV k last ≤ k + 1 ∧ (last.kind ≠ 3 → cntV k last = k) := by unfold cntV; split <;> simp_all <;> omega
        have hb : (readV R last v).length + (n0 - 1) + 1 ≤ 100 ∧ cntV k last + ((n0 - 1 : Nat) : Int) + 1 ≤ 100 := by
          rcases ho with rfl | ⟨_, _, _, h8, h9⟩
          · have := hr.2 (by decide)
            have := hc.2.2 (by decide)
            omega
          · simp only at h8 h9
            omega
        rw [size_is h.ok]
        simp only [T.w, goM]
        refine ⟨by rcases k4 with ⟨k4, _⟩ | ⟨k4, _⟩ <;> rw [k4] <;> decide, Or.inr ⟨by rcases k4 with ⟨k4, _⟩ | ⟨k4, _⟩ <;> simp [k4], k3.1, k3.2, hb.1, hb.2⟩, fun v' hv' => ?_⟩
        rcases k4 with ⟨k4, k5⟩ | ⟨k4, k5⟩
        · refine (k5 v' hv').congr (fun R' k' _ => ?_)
          simp [readV, cntV, k4]
        · refine (k5 v').congr (fun R' k' _ => ?_)
          simp only [readV, cntV, k4]
          simp
          congr 1
          omega
/-- How many wants that aren't the end it may still tell. -/
def leftM (m : Mc) : Nat := match m.g with | none => 0 | some _ => m.n
theorem left_first (base most call : Int) (A : List Int) : leftM (mkM base most call A) ≤ mostW most := Nat.le_refl _
theorem left_step {base most call : Int} {A : List Int} {m : Mc} {R : List Int} {k : Int} {last : Wn} (h : Rel base most call A m R k last) (v : Int) (hv : Sx v) :
    leftM (goM m v) ≤ leftM m ∧ ((tellM m v).kind ≠ 6 → leftM (goM m v) < leftM m) := by
  obtain ⟨l0, g0, n0⟩ := m
  cases g0 with
  | none =>
    have h6 := (h.fin rfl).1
    exact ⟨Nat.le_refl _, fun h7 => absurd (show (tellM ⟨l0, none, n0⟩ v).kind = 6 by rw [← h6, ← h.lt]; rfl) h7⟩
  | some g =>
    have hk := (h.on g rfl).2.2 v hv
    cases ht : g v with
    | fin x =>
      rw [ht] at hk
      refine ⟨by simp [leftM, goM, ht, T.nx], fun h7 => absurd (show (tellM ⟨l0, some g, n0⟩ v).kind = 6 from ?_) h7⟩
      simp only [tellM, ht, T.w]
      exact hk.2.1
    | on x g' =>
      rw [ht] at hk
      have := hk.2.1
      simp only [leftM, goM, ht, T.nx]
      simp only at this
      omega
theorem size_wrap {base most call : Int} {n : Nat} (h : rightV base most call n = true) : wrap64 (base + sizeV most) = base + sizeV most := by
  obtain ⟨h1, h2, h3, h4, _⟩ := call_of h
  rw [size_is h]
  unfold wrap64
  omega
/-- Its end, and the cells that it wants. -/
theorem rel_end {base most call : Int} {A : List Int} {m : Mc} {R : List Int} {k : Int} {last : Wn} (h : Rel base most call A m R k last) (hk : last.kind = 6) : last.cell = 0 ∧ (last.code = 0 ∨ last.val = 0) := by
  cases hg : m.g with
  | none => exact (h.fin hg).2
  | some g => exact absurd hk (h.on g hg).1
theorem rel_own {base most call : Int} {A : List Int} {m : Mc} {R : List Int} {k : Int} {last : Wn} (h : Rel base most call A m R k last) (hk : last.kind ≠ 6) (h0 : last ≠ wn0) : (last.kind = 2 ∨ last.kind = 3) ∧ base ≤ last.cell ∧ last.cell < base + sizeV most := by
  cases hg : m.g with
  | none => exact absurd (h.fin hg).1 hk
  | some g =>
    obtain ⟨a, b, c, _⟩ := (h.on g hg).2.1.resolve_left h0
    exact ⟨a, b, c⟩
/-- How much was read and written, at most. -/
theorem rel_len {base most call : Int} {A : List Int} {m : Mc} {R : List Int} {k : Int} {last : Wn} (h : Rel base most call A m R k last) : R.length ≤ 100 ∧ 0 ≤ k ∧ k ≤ 100 := by
  have := h.len
  omega
theorem tell_some {base most call : Int} {A : List Int} {m : Mc} {R : List Int} {k : Int} {last : Wn} (h : Rel base most call A m R k last) (v : Int) (hv : Sx v) : tellM m v ≠ wn0 := by
  obtain ⟨l0, g0, n0⟩ := m
  intro e
  have e0 : (tellM ⟨l0, g0, n0⟩ v).kind = 0 := by rw [e]; rfl
  cases g0 with
  | none =>
    have h6 := (h.fin rfl).1
    rw [← h.lt] at h6
    simp only [tellM] at e0
    simp only at h6
    omega
  | some g =>
    have hk := (h.on g rfl).2.2 v hv
    simp only [tellM] at e0
    cases ht : g v with
    | fin x =>
      rw [ht] at hk e0
      have := hk.2.1
      simp only [T.w] at e0
      omega
    | on x g' =>
      rw [ht] at hk e0
      simp only [T.w] at e0
      rcases hk.2.2.2 with ⟨h1, _⟩ | ⟨h1, _⟩ <;> omega
/-- Behind its end it tells the same. -/
theorem rel_still {base most call : Int} {A : List Int} {m : Mc} {R : List Int} {k : Int} {last y : Wn} (h : Rel base most call A m R k last) (hk : last.kind = 6) (v : Int) (ht : tellM m v = y) : y.kind = 6 := by
  cases hg : m.g with
  | none =>
    rw [← ht]
    unfold tellM
    rw [hg]
    simp only
    rw [h.lt]
    exact hk
  | some g => exact absurd hk (h.on g hg).1
theorem rel_w64 {base most call : Int} {A : List Int} {m : Mc} {R : List Int} {k : Int} {last : Wn} (h : Rel base most call A m R k last) : ∀ x ∈ R, Sx x := h.w64
end Go.Proofs.Ytaffkcliepfcmaa.Ch
