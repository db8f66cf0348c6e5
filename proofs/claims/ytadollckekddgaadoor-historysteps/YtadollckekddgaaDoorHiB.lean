/- The program's past as it lies: its own block, the rows of pointers, the transactions' blocks, their accesses. -/
import Derived.Test.YtadollckekddgaaDoorHiA
import Derived.Test.YtadollckekddgaaDoorAppW
namespace Go.Proofs.YtadollckekddgaaDoor.Hi
open Go.ChangeShapes Go.WideShapes Go.ChangeAt Go.RowKit
set_option linter.unusedVariables false

def acC (a : Ac) : List Value := [.int .i64 a.cell, .int .i64 a.val, .bool a.wr]
def acsC (l : List Ac) : List Value := l.flatMap acC
theorem acC_len (a : Ac) : (acC a).length = 3 := rfl
theorem acsC_len (l : List Ac) : (acsC l).length = l.length * 3 := by
  induction l with
  | nil => rfl
  | cons e l ih => simp only [acsC, List.flatMap_cons, List.length_append, List.length_cons] at ih ⊢; rw [ih, acC_len]; omega
theorem acsC_snoc (l : List Ac) (a : Ac) : acsC (l ++ [a]) = acsC l ++ acC a := by simp [acsC]
def ac0 : Ac := ⟨0, 0, false⟩
def na (l : List Ac) (i : Nat) : Ac := l.getD i ac0
theorem acsC_get (l : List Ac) (i j : Nat) (hi : i < l.length) (hj : j < 3) : (acsC l)[i * 3 + j]? = (acC (na l i))[j]? := by
  induction l generalizing i with
  | nil => simp at hi
  | cons e l ih =>
    show (acC e ++ acsC l)[i * 3 + j]? = _
    cases i with
    | zero => rw [List.getElem?_append_left (by rw [acC_len]; omega)]; simp [na]
    | succ i =>
      rw [List.getElem?_append_right (by rw [acC_len]; omega), acC_len, show (i + 1) * 3 + j - 3 = i * 3 + j by omega, ih i (by simpa using hi)]
      simp [na]
/-- A transaction's cells; a pointer. -/
def txC (t : Tr) (v : Value) : Array Value := #[.int .i64 t.th, .int .i64 t.bg, .int .i64 t.en, .int .i64 t.st, .int .i64 t.sn, .int .i64 t.er, .int .i64 t.sg, v]
def ptr (b : Nat) : Value := .pointer (some ⟨b, 0, none⟩)
def ptrs (b : Nat → Nat) (n : Nat) : List Value := (List.range n).map fun i => ptr (b i)
theorem ptrs_len (b : Nat → Nat) (n : Nat) : (ptrs b n).length = n := by simp [ptrs]
theorem ptrs_get (b : Nat → Nat) {n i : Nat} (h : i < n) : (ptrs b n)[i]? = some (ptr (b i)) := by simp [ptrs, h]
def ptrsOf (b : Nat → Nat) (l : List Nat) : List Value := l.map fun i => ptr (b i)
/-- All of a list's transactions as they lie. -/
structure PAt (w : World) (B P k : Nat) (p : Pa) (b : Nat → Nat) (V : Nat → Value) (vt vp : Value) : Prop where
  pa : w.heap[P]? = some (.cells #[.int .i64 p.at_, vt, vp, .int .i64 p.co] 54 (0, 0))
  pB : B ≤ P
  ts : w.ownsRow B 55 1 vt p.txs.length (ptrs b p.txs.length)
  ps : w.ownsRow B 55 1 vp p.pub.length (ptrsOf b p.pub)
  tp : ∀ x, vt.ownBlock = some x → vp.ownBlock ≠ some x
  pl : ∀ i ∈ p.pub, i < p.txs.length
  tx : ∀ i, i < p.txs.length → w.heap[b i]? = some (.cells (txC (nt p.txs i) (V i)) 58 (0, 0))
  bB : ∀ i, i < p.txs.length → B ≤ b i
  bi : ∀ i j, i < p.txs.length → j < p.txs.length → i ≠ j → b i ≠ b j
  ac : ∀ i, i < p.txs.length → w.ownsRow B 87 3 (V i) (nt p.txs i).ac.length (acsC (nt p.txs i).ac)
  av : ∀ i j, i < p.txs.length → j < p.txs.length → i ≠ j → ∀ x, (V i).ownBlock = some x → (V j).ownBlock ≠ some x
  bd : p.txs.length ≤ k ∧ p.pub.length ≤ k ∧ 0 ≤ p.co ∧ p.co ≤ k ∧ ∀ i, i < p.txs.length → (nt p.txs i).ac.length ≤ k
theorem PAt.more {w : World} {B P k k' : Nat} {p : Pa} {b : Nat → Nat} {V : Nat → Value} {vt vp : Value} (h : PAt w B P k p b V vt vp) (hk : k ≤ k') : PAt w B P k' p b V vt vp :=
  ⟨h.pa, h.pB, h.ts, h.ps, h.tp, h.pl, h.tx, h.bB, h.bi, h.ac, h.av, by have := h.bd; omega, by have := h.bd; omega, by have := h.bd; omega, by have := h.bd; omega, fun i hi => by have := h.bd.2.2.2.2 i hi; omega⟩
/-- What lies beyond what is kept stays. -/
theorem PAt.keep {w w' : World} {B P k : Nat} {p : Pa} {b : Nat → Nat} {V : Nat → Value} {vt vp : Value} (h : PAt w B P k p b V vt vp) {F : List Nat} (hk : Keep F w w') (hF : ∀ x ∈ F, x < B ∨ w.heap.size ≤ x) : PAt w' B P k p b V vt vp := by
  have hn : ∀ x, B ≤ x → x < w.heap.size → x ∉ F := fun x h1 h2 hm => by rcases hF x hm with h3 | h3 <;> omega
  have lt : ∀ {b : Nat} {o : Obj}, w.heap[b]? = some o → b < w.heap.size := fun e => heap_lt e
  refine ⟨by rw [hk.block _ (lt h.pa) (hn _ h.pB (lt h.pa))]; exact h.pa, h.pB, own_keep h.ts hk (fun x hx => hn _ (own_block h.ts x hx).1 (own_block h.ts x hx).2), own_keep h.ps hk (fun x hx => hn _ (own_block h.ps x hx).1 (own_block h.ps x hx).2), h.tp, h.pl, fun i hi => ?_, h.bB, h.bi, fun i hi => own_keep (h.ac i hi) hk (fun x hx => hn _ (own_block (h.ac i hi) x hx).1 (own_block (h.ac i hi) x hx).2), h.av, h.bd⟩
  have := h.tx i hi
  rw [hk.block _ (lt this) (hn _ (h.bB i hi) (lt this))]
  exact this
theorem PAt.later {w w' : World} {B P k : Nat} {p : Pa} {b : Nat → Nat} {V : Nat → Value} {vt vp : Value} (h : PAt w B P k p b V vt vp) (hb : Below w.heap.size w w') : PAt w' B P k p b V vt vp := h.keep (Keep.of_below hb []) (fun _ hx => by simp at hx)
theorem PAt.drewN {w : World} {B P k : Nat} {p : Pa} {b : Nat → Nat} {V : Nat → Value} {vt vp : Value} (h : PAt w B P k p b V vt vp) (n : Nat) : PAt (w.drewN n) B P k p b V vt vp := h.later (below_drawn (Below.refl _ _) n)
theorem PAt.bx {w : World} {B P k : Nat} {p : Pa} {b : Nat → Nat} {V : Nat → Value} {vt vp : Value} (h : PAt w B P k p b V vt vp) {i : Nat} (hi : i < p.txs.length) : b i ≠ P := ne_of_type (h.tx i hi) h.pa (by decide)
/-- A transaction's block becomes another; its accesses' row stays. -/
theorem PAt.set {w w' : World} {B P k : Nat} {p : Pa} {b : Nat → Nat} {V : Nat → Value} {vt vp : Value} (h : PAt w B P k p b V vt vp) {i : Nat} (hi : i < p.txs.length) {t : Tr} (ht : t.ac = (nt p.txs i).ac) (hw : w'.heap[b i]? = some (.cells (txC t (V i)) 58 (0, 0))) (hk : Keep [b i] w w') : PAt w' B P k (p.upd i t) b V vt vp := by
  have hl : (p.upd i t).txs.length = p.txs.length := by simp [Pa.upd]
  have hn : ∀ j, nt (p.upd i t).txs j = if j = i then t else nt p.txs j := fun j => nt_set hi
  have hno : ∀ {e : TypeId} {s n : Nat} {v : Value} {xs : List Value}, w.ownsRow B e s v n xs → 58 ≠ e → ∀ x, v.ownBlock = some x → x ∉ [b i] := fun hr ht x hx hm => by
    rw [List.mem_singleton] at hm
    subst hm
    exact own_ne hr (h.tx i hi) ht hx
  refine ⟨by rw [hk.block _ (heap_lt h.pa) (by simpa using (h.bx hi).symm)]; exact h.pa, h.pB, by rw [hl]; exact own_keep h.ts hk (hno h.ts (by decide)), own_keep h.ps hk (hno h.ps (by decide)), h.tp, by rw [hl]; exact h.pl, fun j hj => ?_, by rw [hl]; exact h.bB, by rw [hl]; exact h.bi, fun j hj => ?_, by rw [hl]; exact h.av, ?_⟩
  · rw [hl] at hj
    rw [hn]
    by_cases e : j = i
    · subst e; rw [if_pos rfl]; exact hw
    · rw [if_neg e, hk.block _ (heap_lt (h.tx j hj)) (by simpa using h.bi j i hj hi e)]; exact h.tx j hj
  · rw [hl] at hj
    rw [hn]
    by_cases e : j = i
    · subst e; rw [if_pos rfl, ht]; exact own_keep (h.ac j hj) hk (hno (h.ac j hj) (by decide))
    · rw [if_neg e]; exact own_keep (h.ac j hj) hk (hno (h.ac j hj) (by decide))
  · refine ⟨by rw [hl]; exact h.bd.1, h.bd.2.1, h.bd.2.2.1, h.bd.2.2.2.1, fun j hj => ?_⟩
    rw [hl] at hj
    rw [hn]
    by_cases e : j = i
    · subst e; rw [if_pos rfl, ht]; exact h.bd.2.2.2.2 j hj
    · rw [if_neg e]; exact h.bd.2.2.2.2 j hj
/-- Numbers of the past's own block become others. -/
theorem PAt.own {w w' : World} {B P k : Nat} {p : Pa} {b : Nat → Nat} {V : Nat → Value} {vt vp : Value} (h : PAt w B P k p b V vt vp) {a c : Int} (hc : 0 ≤ c ∧ c ≤ k) (hw : w'.heap[P]? = some (.cells #[.int .i64 a, vt, vp, .int .i64 c] 54 (0, 0))) (hk : Keep [P] w w') : PAt w' B P k { p with at_ := a, co := c } b V vt vp := by
  have hno : ∀ {e : TypeId} {s n : Nat} {v : Value} {xs : List Value}, w.ownsRow B e s v n xs → 54 ≠ e → ∀ x, v.ownBlock = some x → x ∉ [P] := fun hr ht x hx hm => by
    rw [List.mem_singleton] at hm
    subst hm
    exact own_ne hr h.pa ht hx
  exact ⟨hw, h.pB, own_keep h.ts hk (hno h.ts (by decide)), own_keep h.ps hk (hno h.ps (by decide)), h.tp, h.pl, fun i hi => by rw [hk.block _ (heap_lt (h.tx i hi)) (by simpa using h.bx hi)]; exact h.tx i hi, h.bB, h.bi, fun i hi => own_keep (h.ac i hi) hk (hno (h.ac i hi) (by decide)), h.av, h.bd.1, h.bd.2.1, hc.1, hc.2, h.bd.2.2.2.2⟩
end Go.Proofs.YtadollckekddgaaDoor.Hi
