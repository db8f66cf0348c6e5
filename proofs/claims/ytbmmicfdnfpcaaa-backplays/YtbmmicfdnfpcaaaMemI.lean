/- Acts, lists of acts that are handed in, and what a log that was made by acts tells. -/
import Derived.Test.YtbmmicfdnfpcaaaMemH
import Derived.Test.YtbmmicfdnfpcaaaMemF
import Derived.Deep.Slices
namespace Go.Proofs.Ytbmmicfdnfpcaaa
open Go.ChangeShapes Go.WideShapes Go.ChangeAt Go.RowKit

/-- An act. -/
structure Tk where
  k : Int
  t : Int
  a : Ad
  o : Int
  v : Int
  n : Int
instance : Inhabited Ad := ⟨⟨0, 0, 0⟩⟩
instance : Inhabited Ac := ⟨⟨0, 0, ⟨0, 0, 0⟩, 0, 0, false⟩⟩
def tkC (x : Tk) : Array Value := #[.int .i64 x.k, .int .i64 x.t, .int .i64 x.a.k, .int .i64 x.a.i, .int .i64 x.a.j, .int .i64 x.o, .int .i64 x.v, .int .i64 x.n]
def noTk : Tk := ⟨0, 0, ⟨0, 0, 0⟩, 0, 0, 0⟩

/-- Eight cells from a place on. -/
def Row8 (w : World) (y : Addr) (cs : Array Value) : Prop := ∀ j, j < 8 → w.cell? (y.add j) = cs[j]?
theorem add_zero' (y : Addr) : y.add 0 = y := by unfold Addr.add; simp
theorem add_pos' (y : Addr) (j : Nat) (h : 0 < j) : y.add j = ⟨y.block, y.off + j, none⟩ := by
  unfold Addr.add
  split
  · next e => omega
  · rfl
theorem row8_cells {w : World} {y : Addr} {cs : Array Value} (h : Row8 w y cs) (hz : cs.size = 8) :
    w.cell? y = some (cs[0]'(by omega)) ∧ w.cell? ⟨y.block, y.off + 1, none⟩ = some (cs[1]'(by omega)) ∧ w.cell? ⟨y.block, y.off + 2, none⟩ = some (cs[2]'(by omega)) ∧ w.cell? ⟨y.block, y.off + 3, none⟩ = some (cs[3]'(by omega)) ∧
    w.cell? ⟨y.block, y.off + 4, none⟩ = some (cs[4]'(by omega)) ∧ w.cell? ⟨y.block, y.off + 5, none⟩ = some (cs[5]'(by omega)) ∧ w.cell? ⟨y.block, y.off + 6, none⟩ = some (cs[6]'(by omega)) ∧ w.cell? ⟨y.block, y.off + 7, none⟩ = some (cs[7]'(by omega)) := by
  have h0 := h 0 (by decide)
  rw [add_zero'] at h0
  have hj : ∀ j (hj : 0 < j) (hj8 : j < 8), w.cell? ⟨y.block, y.off + j, none⟩ = some (cs[j]'(by omega)) := fun j hj hj8 => by
    rw [← add_pos' y j hj, h j hj8]
    simp [hz, hj8]
  refine ⟨by rw [h0]; simp [hz], hj 1 (by decide) (by decide), hj 2 (by decide) (by decide), hj 3 (by decide) (by decide), hj 4 (by decide) (by decide), hj 5 (by decide) (by decide), hj 6 (by decide) (by decide), hj 7 (by decide) (by decide)⟩
theorem cell_later {w w' : World} {B : Nat} (hb : Below B w w') {a : Addr} (ha : a.block < B) {u : Value} (h : w.cell? a = some u) : w'.cell? a = some u := by
  rw [hb.cell (p := a) ha]; exact h
theorem add_block (y : Addr) (j : Nat) : (y.add j).block = y.block := by unfold Addr.add; split <;> rfl
theorem Row8.later {w w' : World} {y : Addr} {cs : Array Value} {B : Nat} (h : Row8 w y cs) (hz : cs.size = 8) (hb : Below B w w') (hy : y.block < B) : Row8 w' y cs := fun j hj => by
  have := h j hj
  rw [Array.getElem?_eq_getElem (by omega)] at this ⊢
  exact cell_later hb (by rw [add_block]; exact hy) this

/-- A list of acts lies behind a slice. -/
def ALst (w : World) (v : Value) (S : List Tk) : Prop := ∃ a cap, v = .slice a S.length cap ∧ S.length ≤ 2199023255488 ∧ (S = [] ∨ ∃ x, a = some x ∧ x.block < w.heap.size ∧ ∀ i, i < S.length → Row8 w (x.add (i * 8)) (tkC (S.getD i noTk)))
theorem ALst.later {w w' : World} {v : Value} {S : List Tk} (h : ALst w v S) (hb : Below w.heap.size w w') : ALst w' v S := by
  obtain ⟨a, cap, hv, hm, hl⟩ := h
  refine ⟨a, cap, hv, hm, ?_⟩
  rcases hl with h0 | ⟨x, hx, hxb, hc⟩
  · exact Or.inl h0
  · exact Or.inr ⟨x, hx, Nat.lt_of_lt_of_le hxb hb.size, fun i hi => (hc i hi).later rfl hb (by rw [add_block]; exact hxb)⟩

/-! ### a list of acts that is handed in -/
theorem list_choose {α : Type} (d : α) (Q : Nat → α → Prop) : ∀ n, (∀ i, i < n → ∃ s, Q i s) → ∃ S : List α, S.length = n ∧ ∀ i, i < n → Q i (S.getD i d)
  | 0, _ => ⟨[], rfl, fun i hi => absurd hi (by omega)⟩
  | n + 1, h => by
    obtain ⟨S, hl, hS⟩ := list_choose d Q n (fun i hi => h i (by omega))
    obtain ⟨s, hs⟩ := h n (by omega)
    refine ⟨S ++ [s], by simp [hl], fun i hi => ?_⟩
    simp only [List.getD_eq_getElem?_getD]
    by_cases e : i < n
    · rw [List.getElem?_append_left (by omega)]
      simpa [List.getD_eq_getElem?_getD] using hS i e
    · obtain rfl : i = n := by omega
      rw [List.getElem?_append_right (by omega), hl, Nat.sub_self]
      exact hs
theorem cells_int : Try.prog.cellsOf 3 = 1 := by kernel_rfl
theorem cells_i64 : Try.prog.cellsOf 2 = 1 := by kernel_rfl
theorem cells_addr : Try.prog.cellsOf 46 = 3 := by kernel_rfl
theorem len3 {α : Type} {l : List α} (h : l.length = 3) : ∃ a b c, l = [a, b, c] := by
  match l, h with
  | [a, b, c], _ => exact ⟨a, b, c, rfl⟩
theorem len6 {α : Type} {l : List α} (h : l.length = 6) : ∃ a b c d e f, l = [a, b, c, d, e, f] := by
  match l, h with
  | [a, b, c, d, e, f], _ => exact ⟨a, b, c, d, e, f, rfl⟩
theorem len8 {α : Type} {l : List α} (h : l.length = 8) : ∃ a b c d e f g i, l = [a, b, c, d, e, f, g, i] := by
  match l, h with
  | [a, b, c, d, e, f, g, i], _ => exact ⟨a, b, c, d, e, f, g, i, rfl⟩
theorem addr_of_cells {H : Type} {enc : TypeId × Value → H} {W : World} {fuel : Nat} {cs : List Value} {x : DataW H × List MemPlace}
    (hf : DataW.trod enc Try.prog W 0 (fun _ => true) true fuel 46 cs = some x) : ∃ a : Ad, cs = (adC a).toList := by
  obtain ⟨xs, m, _, hx, hl, hlen, hfd⟩ := DataW.trod_struct Try.underlying46 hf
  have hl3 : cs.length = 3 := by rw [hl, cells_addr]
  obtain ⟨c0, c1, c2, rfl⟩ := len3 hl3
  obtain ⟨y0, y1, y2, rfl⟩ := len3 hlen
  have g0 := hfd 0 _ rfl
  have g1 := hfd 1 _ rfl
  have g2 := hfd 2 _ rfl
  simp [cells_int] at g0 g1 g2
  obtain ⟨a0, z0, _, _⟩ := DataW.trod_int Try.underlying3 g0
  obtain ⟨a1, z1, _, _⟩ := DataW.trod_int Try.underlying3 g1
  obtain ⟨a2, z2, _, _⟩ := DataW.trod_int Try.underlying3 g2
  simp only [List.cons.injEq, and_true] at z0 z1 z2
  subst z0 z1 z2
  exact ⟨⟨a0, a1, a2⟩, rfl⟩
def stepL (c r : Nat) (L : List Ac) (x : Tk) : List Ac := if x.k = 1 then loadL c r L x.t x.a else if x.k = 2 then storeL c r L x.t x.a x.v else if x.k = 3 then swapL c r L x.t x.a x.o x.v else L
def logOf (c r : Nat) (S : List Tk) (i : Nat) : List Ac := (S.take i).foldl (stepL c r) []
theorem logOf_zero (c r : Nat) (S : List Tk) : logOf c r S 0 = [] := rfl
theorem logOf_succ (c r : Nat) (S : List Tk) (i : Nat) (h : i < S.length) : logOf c r S (i + 1) = stepL c r (logOf c r S i) (S.getD i noTk) := by
  unfold logOf
  rw [List.take_add_one, List.foldl_append]
  simp [h]
theorem stepL_len (c r : Nat) (L : List Ac) (x : Tk) : (stepL c r L x).length ≤ L.length + 1 := by
  unfold stepL loadL storeL swapL
  repeat' split
  all_goals simp
theorem logOf_len (c r : Nat) (S : List Tk) (i : Nat) : (logOf c r S i).length ≤ i := by
  induction i with
  | zero => simp [logOf]
  | succ i ih =>
    by_cases h : i < S.length
    · rw [logOf_succ c r S i h]; have := stepL_len c r (logOf c r S i) (S.getD i noTk); omega
    · have : logOf c r S (i + 1) = logOf c r S i := by unfold logOf; rw [List.take_of_length_le (by omega), List.take_of_length_le (by omega)]
      rw [this]; omega

/-- Each access is of a word, and tells what the log had said by then. -/
def One (c r : Nat) (L : List Ac) (x : Ac) : Prop := isAd c r x.a = true ∧ (x.k = 1 → x.v = wordOf L x.a) ∧ (x.k = 3 → x.y = (wordOf L x.a == x.o)) ∧ (x.k = 1 ∨ x.k = 2 ∨ x.k = 3)
def Good (c r : Nat) (L : List Ac) : Prop := ∀ i, (h : i < L.length) → One c r (L.take i) L[i]
theorem good_nil (c r : Nat) : Good c r [] := fun i h => absurd h (by simp)
theorem good_snoc {c r : Nat} {L : List Ac} {x : Ac} (h : Good c r L) (hx : One c r L x) : Good c r (L ++ [x]) := fun i hi => by
  by_cases e : i < L.length
  · rw [List.getElem_append_left e, List.take_append_of_le_length (by omega)]
    exact h i e
  · have e2 : i = L.length := by simp at hi; omega
    subst e2
    rw [List.getElem_append_right (by omega), List.take_append_of_le_length (by omega), List.take_length]
    simpa using hx
theorem good_step {c r : Nat} {L : List Ac} (h : Good c r L) (x : Tk) : Good c r (stepL c r L x) := by
  unfold stepL loadL storeL swapL
  repeat' split
  all_goals first
    | exact h
    | exact good_snoc h ⟨by assumption, fun _ => rfl, (fun e => by simp at e), Or.inl rfl⟩
    | exact good_snoc h ⟨by assumption, (fun e => by simp at e), (fun e => by simp at e), Or.inr (Or.inl rfl)⟩
    | exact good_snoc h ⟨by assumption, (fun e => by simp at e), fun _ => rfl, Or.inr (Or.inr rfl)⟩
theorem good_logOf (c r : Nat) (S : List Tk) (i : Nat) : Good c r (logOf c r S i) := by
  induction i with
  | zero => exact good_nil c r
  | succ i ih =>
    by_cases h : i < S.length
    · rw [logOf_succ c r S i h]; exact good_step ih _
    · have : logOf c r S (i + 1) = logOf c r S i := by unfold logOf; rw [List.take_of_length_le (by omega), List.take_of_length_le (by omega)]
      rw [this]; exact ih
/-- What a log's beginning says of a word, 0 if there is none. -/
def wd (c r : Nat) (L : List Ac) (a : Ad) (i : Nat) : Int := if isAd c r a then wordOf (L.take i) a else 0
theorem wd_zero (c r : Nat) (L : List Ac) (a : Ad) : wd c r L a 0 = if isAd c r a then wordOf [] a else 0 := rfl
theorem wd_all (c r : Nat) (L : List Ac) (a : Ad) : wd c r L a L.length = if isAd c r a then wordOf L a else 0 := by unfold wd; rw [List.take_length]
theorem wd_other {c r : Nat} {L : List Ac} {a : Ad} {i : Nat} (hi : i < L.length) (h : L[i].a ≠ a) : wd c r L a (i + 1) = wd c r L a i := by
  unfold wd
  have e : L.take (i + 1) = L.take i ++ [L[i]] := by rw [List.take_add_one]; simp [hi]
  rw [e, wordOf_snoc]
  simp [hit, h]
theorem wd_same {c r : Nat} {L : List Ac} {a : Ad} {i : Nat} (hi : i < L.length) (h : L[i].a = a) (hg : Good c r L) : wd c r L a (i + 1) = if (L[i].k == 2 || L[i].k == 3 && L[i].y) then L[i].v else wd c r L a i := by
  unfold wd
  have e : L.take (i + 1) = L.take i ++ [L[i]] := by rw [List.take_add_one]; simp [hi]
  have ha := (hg i hi).1
  rw [h] at ha
  rw [e, wordOf_snoc, if_pos ha, if_pos ha]
  simp [hit, h]
theorem wd_in {c r : Nat} {L : List Ac} {a : Ad} {i : Nat} (hi : i < L.length) (h : L[i].a = a) (hg : Good c r L) : wd c r L a i = wordOf (L.take i) L[i].a := by
  have ha := (hg i hi).1
  unfold wd
  rw [← h, if_pos ha]
theorem logC_get (L : List Ac) (i j : Nat) (hi : i < L.length) (hj : j < 8) : (logC L)[i * 8 + j]? = (acC L[i])[j]? := by
  induction L generalizing i with
  | nil => simp at hi
  | cons x L ih =>
    have e : logC (x :: L) = (acC x).toList ++ logC L := rfl
    have h8 : (acC x).toList.length = 8 := by simp [acC]
    rw [e]
    cases i with
    | zero =>
      rw [List.getElem?_append_left (by omega)]
      simp
    | succ i =>
      rw [List.getElem?_append_right (by omega), h8, show (i + 1) * 8 + j - 8 = i * 8 + j by omega]
      exact ih i (by simpa using hi)
/-- An access that a list has, as it lies. -/
theorem own_row8 {w : World} {base g cap : Nat} {e : TypeId} {L : List Ac} (h : w.ownsRow base e 8 (.slice (some ⟨g, 0, none⟩) L.length cap) L.length (logC L)) (i : Nat) (hi : i < L.length) : Row8 w ⟨g, i * 8, none⟩ (acC L[i]) := fun j hj => by
  have hs : (acC L[i]).size = 8 := rfl
  have h1 : (logC L)[i * 8 + j]? = some ((acC L[i])[j]'(by omega)) := by
    rw [logC_get L i j hi hj]; exact Array.getElem?_eq_getElem _
  have h2 := own_cells h _ _ h1
  rw [Array.getElem?_eq_getElem (by omega)]
  by_cases e : j = 0
  · subst e; rw [add_zero']; simpa using h2
  · rw [add_pos' _ _ (by omega)]; exact h2
end Go.Proofs.Ytbmmicfdnfpcaaa
