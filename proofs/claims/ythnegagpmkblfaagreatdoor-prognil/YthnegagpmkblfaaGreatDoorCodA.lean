/- The tables of operands as they lie, and what is asked of them. -/
import Derived.Test.YthnegagpmkblfaaGreatDoorJBlkTabE
import Derived.Test.YthnegagpmkblfaaGreatDoorCodM
import Derived.Lib.LaidTab
namespace Go.Proofs.YthnegagpmkblfaaGreatDoor.Tl.Cd
open Go.ChangeShapes Go.WideShapes Go.ChangeAt Go.RowKit

/-! ### the tables -/
def tabK : List Int := [0, 1, 2, 3, 0, 0, 0, 0, 0, 0, 0, 0, 0, 0, 0, 0, 0, 0, 0, 0, 0, 0, 0, 6, 2, 2, 5, 0, 4, 0, 0, 0, 0, 4, 4, 4, 4, 4, 4, 4, 4]
def tabO : List Int := [0, 0, 0, 1, -128, 127, 2, -32768, 32767, 8, -9223372036854775808, 9223372036854775807, 1, 0, 255, 2, 0, 65535, 1, 0, 5]
/-! ### the operand behind an opcode -/
end Go.Proofs.YthnegagpmkblfaaGreatDoor.Tl.Cd