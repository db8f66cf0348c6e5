/- What the document's answer does with bits of signatures: Bit, Put, With, Has. -/
import Derived.Test.YthenkidhcfholabDoorSigB
namespace Go.Proofs.YthenkidhcfholabDoor
open Go.ChangeShapes Go.WideShapes Go.ChangeAt Go.RowKit

theorem half (x j : Nat) : ((x / 2 ^ j : Nat) : Int) / 2 = ((x / 2 ^ (j + 1) : Nat) : Int) := by
  rw [Nat.pow_succ, ← Nat.div_div_eq_div_mul]
  omega

theorem dbl (j : Nat) : (2 ^ j : Nat) + (2 ^ j : Nat) = 2 ^ (j + 1) := by rw [Nat.pow_succ]; omega
