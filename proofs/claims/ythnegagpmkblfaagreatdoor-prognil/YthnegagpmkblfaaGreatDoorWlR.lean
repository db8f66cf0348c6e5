/- A ring that transactions write to: what its words say, with where each entry's owner is. -/
import Derived.Test.YthnegagpmkblfaaGreatDoorWlV
import Derived.Test.YthnegagpmkblfaaGreatDoorBkM
namespace Go.Proofs.YthnegagpmkblfaaGreatDoor
open Go.RowKit (wrap64)

structure Rg where
  s : Nat
  mu : Bool
  W : List (List Wt)
  d : Nat
  bk : Nat → Ba.Bk
end Go.Proofs.YthnegagpmkblfaaGreatDoor
