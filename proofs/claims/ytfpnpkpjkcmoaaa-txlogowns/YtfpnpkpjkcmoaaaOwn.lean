/- Rows that a call owns, whatever is in them. -/
import Derived.Test.YtfpnpkpjkcmoaaaBlk
namespace Go.Proofs.Ytfpnpkpjkcmoaaa
open Go.ChangeShapes Go.WideShapes Go.ChangeAt Go.RowKit

/-- Some row that the call owns, whatever is in it. -/
def SomeRow (w : World) (base : Nat) (e : TypeId) (k : Nat) (v : Value) (n : Nat) : Prop := ∃ xs, w.ownsRow base e k v n xs
theorem SomeRow.set {w : World} {base g n cap k : Nat} {e : TypeId} (h : SomeRow w base e k (.slice (some ⟨g, 0, none⟩) n cap) n) (o : Nat) (v : Value) : SomeRow (w.setCell ⟨g, o, none⟩ v) base e k (.slice (some ⟨g, 0, none⟩) n cap) n := by
  obtain ⟨xs, h⟩ := h
  exact own_setCell h o v
theorem SomeRow.other {w : World} {base base' g n cap k k' n' : Nat} {e e' : TypeId} {v : Value} (h : SomeRow w base e k v n) (hg : SomeRow w base' e' k' (.slice (some ⟨g, 0, none⟩) n' cap) n') (he : e ≠ e') (o : Nat) (u : Value) : SomeRow (w.setCell ⟨g, o, none⟩ u) base e k v n := by
  obtain ⟨xs, h⟩ := h
  obtain ⟨ys, hg⟩ := hg
  refine ⟨xs, own_keep h ((Keep.refl [g] _).setCell _ _ (by simp)) (fun b hb hm => ?_)⟩
  simp only [List.mem_cons, List.not_mem_nil, or_false] at hm
  subst hm
  rcases hg.2 with ⟨e1, _⟩ | ⟨g', cap', cur, e1, _, hgg, _⟩
  · cases e1
  · simp at e1
    obtain ⟨rfl, rfl⟩ := e1
    exact own_ne h hgg (fun e2 => he e2.symm) hb
theorem SomeRow.keep {w w' : World} {base n k : Nat} {e : TypeId} {v : Value} (h : SomeRow w base e k v n) (hb : Below w.heap.size w w') : SomeRow w' base e k v n := by
  obtain ⟨xs, h⟩ := h
  exact ⟨xs, own_keep h (Keep.of_below hb []) (fun _ _ => by simp)⟩
end Go.Proofs.Ytfpnpkpjkcmoaaa
