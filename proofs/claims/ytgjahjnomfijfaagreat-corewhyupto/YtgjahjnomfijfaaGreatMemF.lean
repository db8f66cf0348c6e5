/- The program's Log. -/
import Derived.Test.YtgjahjnomfijfaaGreatJMemCAns
import Derived.ArgAppend
import Derived.Lib.SlFresh
namespace Go.Proofs.YtgjahjnomfijfaaGreat
open Go.ChangeShapes Go.WideShapes Go.ChangeAt Go.RowKit
theorem own_cells {w : World} {base g cap n s : Nat} {e : TypeId} {xs : List Value} (h : w.ownsRow base e s (.slice (some ⟨g, 0, none⟩) n cap) n xs) : ∀ (j : Nat) u, xs[j]? = some u → w.cell? ⟨g, j, none⟩ = some u := by
 intro j u hu
 rcases h.2 with ⟨e, _⟩ | ⟨g', cap', cur, e, _, hg, _, _, _, ht⟩
 ·cases e
 ·simp at e
  obtain ⟨rfl, rfl⟩ := e
  rw [cell_at hg]
  rw [← ht, List.getElem?_take] at hu
  split at hu
  ·simpa using hu
  ·cases hu
