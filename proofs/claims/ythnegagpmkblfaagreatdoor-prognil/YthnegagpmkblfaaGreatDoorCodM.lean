/- Instructions and their bytes as plain data: what stands at a place, what is laid down, there and back. -/
import Derived.Test.YthnegagpmkblfaaGreatDoorMath
namespace Go.Proofs.YthnegagpmkblfaaGreatDoor.Tl.Cd
open Go.RowKit (wrap64)

/-! ### bytes and numbers -/
def byt (s : ByteArray) (i : Nat) : Nat := s[i]?.elim 0 (·.toNat)
/-! ### opcodes -/
def loC (c : Nat) : Int := if c = 1 then -128 else if c = 2 ∨ c = 24 ∨ c = 25 then -32768 else if c = 3 then -9223372036854775808 else 0
def hiC (c : Nat) : Int := if c = 1 then 127 else if c = 2 ∨ c = 24 ∨ c = 25 then 32767 else if c = 3 then 9223372036854775807 else if c = 23 then 5 else if c = 26 then 65535 else if c = 28 ∨ 33 ≤ c then 255 else 0
/-- May an instruction be? -/
def okI (c : Int) (x : Int) : Prop := 0 ≤ c ∧ c ≤ 40 ∧ loC c.toNat ≤ x ∧ x ≤ hiC c.toNat
instance (c x : Int) : Decidable (okI c x) := by unfold okI; infer_instance
/-! ### programs -/
/-- A text from a place on. -/
def fr (s : ByteArray) (p : Nat) : Nat → Nat := fun i => byt s (p + i)
end Go.Proofs.YthnegagpmkblfaaGreatDoor.Tl.Cd