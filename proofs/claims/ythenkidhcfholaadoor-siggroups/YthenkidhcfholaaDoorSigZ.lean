/- What the document's answer tells of Groups. -/
import Derived.Test.YthenkidhcfholaaDoorSigY
import Derived.RegionTactic
import Derived.Deep.RegionHeld3
import Derived.BigRegion
namespace Go.Proofs.YthenkidhcfholaaDoor
open Go.ChangeShapes Go.WideShapes Go.ChangeAt Go.RowKit

/-- A list more. -/
theorem Grp.more1 {w w' : World} {base : Nat} {v v' u : Value} {G : List (List Nat)} {g : List Nat} {vs : List Value} (h : Grp w base v G vs) (hu : w.ownsRow base 3 1 u g.length (iv g))
    (hf : ∀ i, i < G.length → ((vs.getD i undef).ownBlock = none ∨ (vs.getD i undef).ownBlock ≠ u.ownBlock) ∧ (u.ownBlock = none ∨ u.ownBlock ≠ (vs.getD i undef).ownBlock))
    (hown : w'.ownsRow base 22 1 v' (G.length + 1) (vs ++ [u])) (hg : w.grownBy w' v.ownBlock) : Grp w' base v' (G ++ [g]) (vs ++ [u]) := by
  have hI := h.2.kept hg (fun i hi => own_ne (h.2.2.1 i hi) h.1 (by decide))
  have hu' := hu.kept hg (own_ne hu h.1 (by decide))
  refine ⟨by simpa using hown, by simp [hI.1], fun i hi => ?_, fun i j hi hj hne => ?_⟩
  · rw [getD_app, getD_app, hI.1]
    split
    · next hlt => exact hI.2.1 i hlt
    · next hlt =>
      have e : i - G.length = 0 := by simp at hi; omega
      rw [e]
      exact hu'
  · rw [getD_app, getD_app, hI.1]
    split
    · next hlt =>
      split
      · next hlt2 => exact hI.2.2 i j hlt hlt2 hne
      · next hlt2 =>
        have e : j - G.length = 0 := by simp at hj; omega
        rw [e]
        exact (hf i hlt).1
    · next hlt =>
      have e : i - G.length = 0 := by simp at hi; omega
      rw [e]
      split
      · next hlt2 => exact (hf j hlt2).2
      · next hlt2 => exfalso; simp at hi hj; omega

/-- What is so of the lists while the document's answer looks for the group of the place i. -/
structure Look (S G0 : List (List Nat)) (i k : Nat) (fb : Bool) (G : List (List Nat)) : Prop where
  len : G.length = G0.length
  no : fb = false → G = G0 ∧ ∀ q, q < k → isOf S (S.getD i []) (G0.getD q []) = false
  yes : fb = true → G = groupsTo S (i + 1)
  ne : ∀ q, q < G.length → G.getD q [] ≠ []
  head : ∀ q, q < G.length → (G.getD q []).headD 0 = (G0.getD q []).headD 0
  small : ∀ q, q < G.length → (G.getD q []).length ≤ i + 1
theorem look_start (S : List (List Nat)) (i : Nat) : Look S (groupsTo S i) i 0 false (groupsTo S i) := by
  have hf := fine_groupsTo S i
  have hm : ∀ q, q < (groupsTo S i).length → (groupsTo S i).getD q [] ∈ groupsTo S i := fun q hq => by
    have : (groupsTo S i).getD q [] = (groupsTo S i)[q] := by simp [hq]
    rw [this]; exact List.getElem_mem hq
  exact ⟨rfl, fun _ => ⟨rfl, fun q hq => absurd hq (by omega)⟩, (fun h => by cases h), fun q hq => hf.1 _ (hm q hq), fun q _ => rfl, fun q hq => by have := hf.2.2.2 _ (hm q hq); omega⟩
theorem look_miss {S G0 G : List (List Nat)} {i k : Nat} (h : Look S G0 i k false G) (hk : isOf S (S.getD i []) (G0.getD k []) = false) : Look S G0 i (k + 1) false G :=
  ⟨h.len, fun e => ⟨(h.no e).1, fun q hq => by
    by_cases hqk : q = k
    · rw [hqk]; exact hk
    · exact (h.no e).2 q (by omega)⟩, h.yes, h.ne, h.head, h.small⟩
theorem look_past {S G0 G : List (List Nat)} {i k : Nat} (h : Look S G0 i k true G) : Look S G0 i (k + 1) true G :=
  ⟨h.len, (fun e => by cases e), h.yes, h.ne, h.head, h.small⟩
theorem which_first {S G0 : List (List Nat)} {t : List Nat} {k : Nat} (hk : k < G0.length) (h1 : isOf S t (G0.getD k []) = true) (h2 : ∀ q, q < k → isOf S t (G0.getD q []) = false) : whichG S t G0 = some k := by
  unfold whichG
  rw [List.findIdx?_eq_some_iff_getElem]
  refine ⟨hk, by simpa [hk] using h1, fun j hj => ?_⟩
  have := h2 j hj
  simpa [show j < G0.length by omega] using this
theorem which_none {S G0 : List (List Nat)} {t : List Nat} (h2 : ∀ q, q < G0.length → isOf S t (G0.getD q []) = false) : whichG S t G0 = none := by
  unfold whichG
  rw [List.findIdx?_eq_none_iff]
  intro g hg
  obtain ⟨q, hq, rfl⟩ := List.getElem_of_mem hg
  have := h2 q hq
  simpa [hq] using this
theorem look_hit {S : List (List Nat)} {i k : Nat} {G : List (List Nat)} (h : Look S (groupsTo S i) i k false G) (hk : k < G.length) (hh : isOf S (S.getD i []) ((groupsTo S i).getD k []) = true) :
    Look S (groupsTo S i) i (k + 1) true (G.set k (G.getD k [] ++ [i])) := by
  obtain ⟨rfl, hno⟩ := h.no rfl
  have hw := which_first hk hh hno
  refine ⟨by simp, (fun e => by cases e), fun _ => ?_, fun q hq => ?_, fun q hq => ?_, fun q hq => ?_⟩
  · conv => rhs; unfold groupsTo
    rw [hw]
  · rw [getD_set' _ _ _ _ _ hk]
    split
    · simp
    · exact h.ne q (by simpa using hq)
  · rw [getD_set' _ _ _ _ _ hk]
    split
    · next e =>
      subst e
      have hne := h.ne k hk
      cases hg : (groupsTo S i).getD k [] with
      | nil => exact absurd hg hne
      | cons a r => rfl
    · rfl
  · rw [getD_set' _ _ _ _ _ hk]
    have hf := (fine_groupsTo S i).2.2.2
    split
    · next e =>
      have hm : (groupsTo S i).getD k [] ∈ groupsTo S i := by
        have : (groupsTo S i).getD k [] = (groupsTo S i)[k] := by simp [hk]
        rw [this]; exact List.getElem_mem hk
      have := hf _ hm
      simp only [List.length_append, List.length_singleton]
      omega
    · exact h.small q (by simpa using hq)
theorem look_none {S : List (List Nat)} {i : Nat} {G : List (List Nat)} (h : Look S (groupsTo S i) i (groupsTo S i).length false G) : G = groupsTo S i ∧ groupsTo S (i + 1) = G ++ [[i]] := by
  obtain ⟨rfl, hno⟩ := h.no rfl
  refine ⟨rfl, ?_⟩
  conv => lhs; unfold groupsTo
  rw [which_none hno]
end Go.Proofs.YthenkidhcfholaaDoor
