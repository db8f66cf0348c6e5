/- The law's logs: what Log tells is so; the list is its owner's. -/
import Derived.Test.YtbmmicfdnfpcaaaRefD
namespace Go.Proofs.Ytbmmicfdnfpcaaa
open Go.ChangeShapes Go.WideShapes Go.ChangeAt Go.RowKit

theorem own_setCell {w : World} {base g n cap s : Nat} {e : TypeId} {xs : List Value} (h : w.ownsRow base e s (.slice (some ⟨g, 0, none⟩) n cap) n xs) (o : Nat) (v : Value) : ∃ xs', (w.setCell ⟨g, o, none⟩ v).ownsRow base e s (.slice (some ⟨g, 0, none⟩) n cap) n xs' := by
  rcases h.2 with ⟨e, _⟩ | ⟨g', cap', cur, e, hb, hg, h1, h2, h3, h4⟩
  · cases e
  · simp at e
    obtain ⟨rfl, rfl⟩ := e
    refine ⟨(cur.setIfInBounds o v).toList.take (n * s), ?_, Or.inr ⟨g, cap, cur.setIfInBounds o v, rfl, hb, heap_set hg o v, h1, h2, by simpa using h3, rfl⟩⟩
    have h5 : n * s ≤ cap * s := Nat.mul_le_mul_right _ h1
    have h6 : (cur.setIfInBounds o v).toList.length = cap * s := by simp [h3]
    rw [List.length_take, h6]
    omega
theorem own_some {w : World} {base g n cap s : Nat} {e : TypeId} {xs : List Value} (h : w.ownsRow base e s (.slice (some ⟨g, 0, none⟩) n cap) n xs) (i : Nat) (hi : i < n * s) : (∃ u, w.cell? ⟨g, i, none⟩ = some u) ∧ w.frozen? ⟨g, i, none⟩ = false := by
  have hl := h.1
  refine ⟨⟨xs[i]'(by omega), own_cells h i _ (by simp [hl, hi])⟩, ?_⟩
  rcases h.2 with ⟨e, _⟩ | ⟨g', cap', cur, e, hb, hg, _⟩
  · cases e
  · simp at e
    obtain ⟨rfl, rfl⟩ := e
    exact frozen_at hg i
/-- Some accesses, whatever they are, in new memory. -/
def Some8 (w : World) (B : Nat) (v : Value) (n : Nat) : Prop := ∃ xs, w.ownsRow B 92 8 v n xs
theorem Some8.set {w : World} {B g n cap : Nat} (h : Some8 w B (.slice (some ⟨g, 0, none⟩) n cap) n) (o : Nat) (v : Value) : Some8 (w.setCell ⟨g, o, none⟩ v) B (.slice (some ⟨g, 0, none⟩) n cap) n := by
  obtain ⟨xs, h⟩ := h
  exact own_setCell h o v
