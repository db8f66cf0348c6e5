/- Lists of signatures and lists of lists in the program's memory. -/
import Derived.Test.YthenkidhcfholaaDoorSigG
namespace Go.Proofs.YthenkidhcfholaaDoor
open Go.ChangeShapes Go.WideShapes Go.ChangeAt Go.RowKit
open Go.Maps (Keyed)

/-- Eight cells from a place on. -/
def Row8 (w : World) (y : Addr) (cs : Array Value) : Prop := ∀ j, j < 8 → w.cell? (y.add j) = cs[j]?
theorem add_zero' (y : Addr) : y.add 0 = y := by unfold Addr.add; simp
theorem add_pos' (y : Addr) (j : Nat) (h : 0 < j) : y.add j = ⟨y.block, y.off + j, none⟩ := by
  unfold Addr.add
  split
  · next e => omega
  · rfl
theorem row8_cells {w : World} {y : Addr} {cs : Array Value} (h : Row8 w y cs) (hz : cs.size = 8) :
    w.cell? y = some (cs[0]'(by omega)) ∧ w.cell? ⟨y.block, y.off + 1, none⟩ = some (cs[1]'(by omega)) ∧ w.cell? ⟨y.block, y.off + 2, none⟩ = some (cs[2]'(by omega)) ∧ w.cell? ⟨y.block, y.off + 3, none⟩ = some (cs[3]'(by omega)) ∧
    w.cell? ⟨y.block, y.off + 4, none⟩ = some (cs[4]'(by omega)) ∧ w.cell? ⟨y.block, y.off + 5, none⟩ = some (cs[5]'(by omega)) ∧ w.cell? ⟨y.block, y.off + 6, none⟩ = some (cs[6]'(by omega)) ∧ w.cell? ⟨y.block, y.off + 7, none⟩ = some (cs[7]'(by omega)) := by
  have h0 := h 0 (by decide)
  rw [add_zero'] at h0
  have hj : ∀ j (hj : 0 < j) (hj8 : j < 8), w.cell? ⟨y.block, y.off + j, none⟩ = some (cs[j]'(by omega)) := fun j hj hj8 => by
    rw [← add_pos' y j hj, h j hj8]
    simp [hz, hj8]
  refine ⟨by rw [h0]; simp [hz], hj 1 (by decide) (by decide), hj 2 (by decide) (by decide), hj 3 (by decide) (by decide), hj 4 (by decide) (by decide), hj 5 (by decide) (by decide), hj 6 (by decide) (by decide), hj 7 (by decide) (by decide)⟩
theorem Row8.later {w w' : World} {y : Addr} {cs : Array Value} (h : Row8 w y cs) (hz : cs.size = 8) (hb : Below w.heap.size w w') : Row8 w' y cs := fun j hj => by
  have := h j hj
  rw [Array.getElem?_eq_getElem (by omega)] at this ⊢
  exact cell_later hb this

/-- A list of signatures lies behind a slice. -/
def SLst (w : World) (v : Value) (S : List (List Nat)) : Prop := ∃ a cap, v = .slice a S.length cap ∧ S.length ≤ 2199023255552 ∧ (∀ s ∈ S, Ok s) ∧ (S = [] ∨ ∃ x, a = some x ∧ ∀ i, i < S.length → Row8 w (x.add (i * 8)) (sc (S.getD i [])))
theorem ok_at {S : List (List Nat)} (h : ∀ s ∈ S, Ok s) {i : Nat} (hi : i < S.length) : Ok (S.getD i []) := by
  have : S.getD i [] = S[i] := by simp [hi]
  rw [this]; exact h _ (List.getElem_mem hi)
theorem SLst.later {w w' : World} {v : Value} {S : List (List Nat)} (h : SLst w v S) (hb : Below w.heap.size w w') : SLst w' v S := by
  obtain ⟨a, cap, hv, hm, hok, hl⟩ := h
  refine ⟨a, cap, hv, hm, hok, ?_⟩
  rcases hl with h0 | ⟨x, hx, hc⟩
  · exact Or.inl h0
  · exact Or.inr ⟨x, hx, fun i hi => (hc i hi).later (by rw [sc_size]; exact (ok_at hok hi).1) hb⟩

/-! ### a list of lists -/
theorem own_ne {w : World} {b1 b2 : Nat} {e1 e2 : TypeId} {s1 s2 : Nat} {v u : Value} {n m : Nat} {xs ys : List Value} (h1 : w.ownsRow b1 e1 s1 v n xs) (h2 : w.ownsRow b2 e2 s2 u m ys) (he : e1 ≠ e2) : v.ownBlock = none ∨ v.ownBlock ≠ u.ownBlock := by
  obtain ⟨_, h1⟩ := h1
  obtain ⟨_, h2⟩ := h2
  rcases h1 with ⟨rfl, _⟩ | ⟨g, c, cur, rfl, _, hg, _⟩
  · exact Or.inl rfl
  · right
    rcases h2 with ⟨rfl, _⟩ | ⟨g', c', cur', rfl, _, hg', _⟩
    · simp [Value.ownBlock]
    · intro e
      simp [Value.ownBlock] at e
      subst e
      rw [hg] at hg'
      simp at hg'
      exact he hg'.2
def Inner (w : World) (base : Nat) (vs : List Value) (G : List (List Nat)) : Prop :=
  vs.length = G.length ∧ (∀ i, i < G.length → w.ownsRow base 3 1 (vs.getD i undef) (G.getD i []).length (iv (G.getD i []))) ∧
  ∀ i j, i < G.length → j < G.length → i ≠ j → (vs.getD i undef).ownBlock = none ∨ (vs.getD i undef).ownBlock ≠ (vs.getD j undef).ownBlock
def Grp (w : World) (base : Nat) (v : Value) (G : List (List Nat)) (vs : List Value) : Prop := w.ownsRow base 22 1 v G.length vs ∧ Inner w base vs G

theorem Inner.kept {w w' : World} {base : Nat} {vs : List Value} {G : List (List Nat)} {row : Option Nat} (h : Inner w base vs G) (hg : w.grownBy w' row) (hr : ∀ i, i < G.length → (vs.getD i undef).ownBlock = none ∨ (vs.getD i undef).ownBlock ≠ row) : Inner w' base vs G :=
  ⟨h.1, fun i hi => (h.2.1 i hi).kept hg (hr i hi), h.2.2⟩
theorem Grp.later {w w' : World} {base : Nat} {v : Value} {G : List (List Nat)} {vs : List Value} (h : Grp w base v G vs) (hb : Below w.heap.size w w') : Grp w' base v G vs :=
  ⟨own_later h.1 hb, h.2.kept (below_grown hb) (fun i _ => by cases (vs.getD i undef).ownBlock <;> simp)⟩
theorem Grp.below {w w' : World} {base B : Nat} {v : Value} {G : List (List Nat)} {vs : List Value} (h : Grp w base v G vs) (hg : w.grownBy w' (some B)) (hB : B < base) : Grp w' base v G vs :=
  ⟨h.1.kept hg (by
    cases hv : v.ownBlock with
    | none => exact Or.inl rfl
    | some q => right; intro e; have := own_block h.1 q hv; simp at e; omega), h.2.kept hg (fun i hi => by
    cases hv : (vs.getD i undef).ownBlock with
    | none => exact Or.inl rfl
    | some q => right; intro e; have := own_block (h.2.2.1 i hi) q hv; simp at e; omega)⟩
theorem getD_app {α : Type} (a b : List α) (i : Nat) (d : α) : (a ++ b).getD i d = if i < a.length then a.getD i d else b.getD (i - a.length) d := by
  simp only [List.getD_eq_getElem?_getD]
  split
  · next h => rw [List.getElem?_append_left h]
  · next h => rw [List.getElem?_append_right (by omega)]
/-- An empty list more. -/
theorem Grp.more {w w' : World} {base : Nat} {v v' : Value} {G : List (List Nat)} {vs : List Value} (h : Grp w base v G vs) (hown : w'.ownsRow base 22 1 v' (G.length + 1) (vs ++ [.slice none 0 0])) (hg : w.grownBy w' v.ownBlock) : Grp w' base v' (G ++ [[]]) (vs ++ [.slice none 0 0]) := by
  have hI := h.2.kept hg (fun i hi => by
    have := own_ne (h.2.2.1 i hi) h.1 (by decide)
    exact this)
  refine ⟨by simpa using hown, by simp [hI.1], fun i hi => ?_, fun i j hi hj hne => ?_⟩
  · rw [getD_app, getD_app, hI.1]
    split
    · next hlt => exact hI.2.1 i hlt
    · next hlt =>
      have e : i - G.length = 0 := by simp at hi; omega
      rw [e]
      exact World.ownsRow_nil _ _ _ _
  · rw [getD_app, getD_app, hI.1]
    split
    · next hlt =>
      split
      · next hlt2 => exact hI.2.2 i j hlt hlt2 hne
      · next hlt2 =>
        have e : j - G.length = 0 := by simp at hj; omega
        rw [e]
        cases hq : (vs.getD i undef).ownBlock with
        | none => exact Or.inl rfl
        | some q => right; simp [Value.ownBlock]
    · next hlt =>
      left
      have e : i - G.length = 0 := by simp at hi; omega
      rw [e]
      rfl

theorem getD_set' {α : Type} (s : List α) (i j : Nat) (v d : α) (h : i < s.length) : (s.set i v).getD j d = if i = j then v else s.getD j d := by
  simp only [List.getD_eq_getElem?_getD, List.getElem?_set]
  split
  · next e => subst e; rfl
  · rfl
/-- A list of the lists is another. -/
theorem Grp.put {w w2 : World} {base k : Nat} {v : Value} {G : List (List Nat)} {vs : List Value} (h : Grp w base v G vs) (hk : k < G.length) {u' : Value} {g' : List Nat} (hown : w2.ownsRow base 3 1 u' g'.length (iv g'))
    (hg : w.grownBy w2 (vs.getD k undef).ownBlock) (hat : u'.ownBlock = (vs.getD k undef).ownBlock ∨ u'.ownBlock = some w.heap.size) {gb cap : Nat} (hv : v = .slice (some ⟨gb, 0, none⟩) G.length cap) :
    Grp (w2.setCell ⟨gb, k, none⟩ u') base v (G.set k g') (vs.set k u') := by
  have hvl : k < vs.length := by rw [h.2.1]; exact hk
  have hrow : w2.ownsRow base 22 1 v G.length vs := h.1.kept hg (own_ne h.1 (h.2.2.1 k hk) (by decide))
  have hst := hrow
  rw [hv] at hst
  have hs2 := hst.stored k u'
  rw [← hv] at hs2
  have keep2 : ∀ {b n : Nat} {u : Value} {xs : List Value}, w2.ownsRow b 3 1 u n xs → (w2.setCell ⟨gb, k, none⟩ u').ownsRow b 3 1 u n xs := fun hu => hu.kept hs2.2 (by
    have := own_ne hu hrow (by decide)
    rw [hv] at this
    exact this)
  have keep1 : ∀ i, i < G.length → i ≠ k → w2.ownsRow base 3 1 (vs.getD i undef) (G.getD i []).length (iv (G.getD i [])) := fun i hi hne => (h.2.2.1 i hi).kept hg (h.2.2.2 i k hi hk hne)
  have fresh : ∀ j, j < G.length → j ≠ k → (u'.ownBlock = none ∨ u'.ownBlock ≠ (vs.getD j undef).ownBlock) ∧ ((vs.getD j undef).ownBlock = none ∨ (vs.getD j undef).ownBlock ≠ u'.ownBlock) := fun j hj hne => by
    rcases hat with e | e
    · rw [e]; exact ⟨h.2.2.2 k j hk hj (fun e' => hne e'.symm), h.2.2.2 j k hj hk hne⟩
    · rw [e]
      cases hq : (vs.getD j undef).ownBlock with
      | none => exact ⟨Or.inr (by simp), Or.inl rfl⟩
      | some q =>
        have := ((h.2.2.1 j hj).lt q hq).2
        exact ⟨Or.inr (by simp; omega), Or.inr (by simp; omega)⟩
  refine ⟨by simpa using hs2.1, by simp [h.2.1], fun i hi => ?_, fun i j hi hj hne => ?_⟩
  · have hi' : i < G.length := by simpa using hi
    rw [getD_set' _ _ _ _ _ hvl, getD_set' _ _ _ _ _ hk]
    split
    · next e => exact keep2 hown
    · next e => exact keep2 (keep1 i hi' (fun e' => e e'.symm))
  · have hi' : i < G.length := by simpa using hi
    have hj' : j < G.length := by simpa using hj
    rw [getD_set' _ _ _ _ _ hvl, getD_set' _ _ _ _ _ hvl]
    split
    · next e =>
      split
      · next e2 => exact absurd (e.symm.trans e2) hne
      · next e2 => exact (fresh j hj' (fun e' => e2 e'.symm)).1
    · next e =>
      split
      · next e2 => exact (fresh i hi' (fun e' => e e'.symm)).2
      · next e2 => exact h.2.2.2 i j hi' hj' hne
/-- The list of lists has a block of its own as soon as it has one list. -/
theorem Grp.form {w : World} {base : Nat} {v : Value} {G : List (List Nat)} {vs : List Value} (h : Grp w base v G vs) (hn : 0 < G.length) : ∃ g cap, v = .slice (some ⟨g, 0, none⟩) G.length cap ∧ base ≤ g := by
  rcases h.1.2 with ⟨_, h0⟩ | ⟨g, cap, cur, hv, hg, _⟩
  · omega
  · exact ⟨g, cap, hv, hg⟩
theorem Grp.cell {w : World} {base : Nat} {G : List (List Nat)} {vs : List Value} {g cap : Nat} (h : Grp w base (.slice (some ⟨g, 0, none⟩) G.length cap) G vs) (i : Nat) (hi : i < G.length) : w.cell? ⟨g, i, none⟩ = some (vs.getD i undef) := by
  rw [h.1.cellAt i (by omega)]
  have : i < vs.length := by rw [h.2.1]; exact hi
  simp [this]
end Go.Proofs.YthenkidhcfholaaDoor
