/- The program's Log. -/
import Derived.Test.YtacioekmeildoaaMemE
import Derived.ArgAppend
import Derived.Lib.SlFresh
namespace Go.Proofs.Ytacioekmeildoaa
open Go.ChangeShapes Go.WideShapes Go.ChangeAt Go.RowKit

theorem logC_drop (L : List Ac) (k : Nat) : logC (L.drop k) = (logC L).drop (k * 8) := by
  induction L generalizing k with
  | nil => simp [logC]
  | cons x L ih =>
    cases k with
    | zero => simp
    | succ k =>
      rw [List.drop_succ_cons, ih]
      have e : logC (x :: L) = (acC x).toList ++ logC L := rfl
      have h8 : (acC x).toList.length = 8 := by simp [acC]
      rw [e, List.drop_append, h8, show (k + 1) * 8 - 8 = k * 8 by omega, show ((acC x).toList.drop ((k + 1) * 8)) = [] from List.drop_eq_nil_of_le (by rw [h8]; omega), List.nil_append]
theorem logC_one' (L : List Ac) : ∀ u ∈ logC L, u.oneCell' = true := fun u hu => by
  simp only [logC, List.mem_flatMap] at hu
  obtain ⟨x, _, hx⟩ := hu
  simp [acC] at hx
  rcases hx with rfl | rfl | rfl | rfl | rfl | rfl | rfl | rfl <;> rfl
theorem own_cells {w : World} {base g cap n s : Nat} {e : TypeId} {xs : List Value} (h : w.ownsRow base e s (.slice (some ⟨g, 0, none⟩) n cap) n xs) : ∀ (j : Nat) u, xs[j]? = some u → w.cell? ⟨g, j, none⟩ = some u := by
  intro j u hu
  rcases h.2 with ⟨e, _⟩ | ⟨g', cap', cur, e, _, hg, _, _, _, ht⟩
  · cases e
  · simp at e
    obtain ⟨rfl, rfl⟩ := e
    rw [cell_at hg]
    rw [← ht, List.getElem?_take] at hu
    split at hu
    · simpa using hu
    · cases hu
