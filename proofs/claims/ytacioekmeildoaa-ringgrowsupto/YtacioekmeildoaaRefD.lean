/- The document's Log, and when two lists of accesses are the same. -/
import Derived.Test.YtacioekmeildoaaRefC
namespace Go.Proofs.Ytacioekmeildoaa
open Go.ChangeShapes Go.WideShapes Go.ChangeAt Go.RowKit

theorem cut_next {L : List Ac} {k q : Nat} (hq : q < L.length) (h : k ≤ q) : (L.take (q + 1)).drop k = (L.take q).drop k ++ [L[q]] := by
  rw [take_snoc L q hq, List.drop_append_of_le_length (by rw [List.length_take]; omega)]
theorem cut_none {L : List Ac} {k q : Nat} (h : q < k) : (L.take (q + 1)).drop k = [] ∧ (L.take q).drop k = [] :=
  ⟨List.drop_eq_nil_of_le (by rw [List.length_take]; omega), List.drop_eq_nil_of_le (by rw [List.length_take]; omega)⟩

/-- A list of accesses lies behind a slice. -/
def LLst (w : World) (v : Value) (L : List Ac) : Prop := ∃ a cap, v = .slice a L.length cap ∧ L.length ≤ 2199023255552 ∧ (L = [] ∨ ∃ x, a = some x ∧ ∀ i, (h : i < L.length) → Row8 w (x.add (i * 8)) (acC L[i]))
theorem own_llst {w : World} {base : Nat} {v : Value} {L : List Ac} (h : w.ownsRow base 69 8 v L.length (logC L)) (hL : L.length ≤ 2199023255552) : LLst w v L := by
  by_cases h0 : L = []
  · obtain ⟨a, cap, rfl⟩ := own_slice h
    exact ⟨a, cap, rfl, hL, Or.inl h0⟩
  · obtain ⟨g, cap, rfl, _, _⟩ := h.form (List.length_pos_iff.2 h0)
    refine ⟨_, _, rfl, hL, Or.inr ⟨_, rfl, fun i hi => ?_⟩⟩
    have e : (⟨g, 0, none⟩ : Addr).add (i * 8) = ⟨g, i * 8, none⟩ := by unfold Addr.add; split <;> simp_all
    rw [e]
    exact own_row8 h i hi
