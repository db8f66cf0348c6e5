/- The document's words of layer 4, as plain numbers: a stamp's slot, whether it is over, laid, whether a slot is free. -/
import Derived.WalkKit
namespace Go.Proofs.Ytacioekmeildoaa

def sizeOk (s : Int) : Bool := decide (1 ≤ s) && decide (s ≤ 16)
def slotV (st s : Int) : Int := if sizeOk s then st % s else 0
def laidV (h st : Int) : Bool := h / 2 == st
def overV (h st : Int) : Bool := decide (st < 1) || (decide (h / 2 > st) || laidV h st && (h % 2 == 1))
def freeV (h st s : Int) : Bool := sizeOk s && (decide (st ≤ s) || overV h (st - s))
theorem sizeOk_iff {s : Int} : sizeOk s = true ↔ 1 ≤ s ∧ s ≤ 16 := by simp [sizeOk]
theorem slotV_bd (st s : Int) (h : sizeOk s = true) : 0 ≤ slotV st s ∧ slotV st s < s := by
  have hs := sizeOk_iff.mp h
  unfold slotV
  rw [if_pos h]
  exact ⟨Int.emod_nonneg _ (by omega), Int.emod_lt_of_pos _ (by omega)⟩
end Go.Proofs.Ytacioekmeildoaa
