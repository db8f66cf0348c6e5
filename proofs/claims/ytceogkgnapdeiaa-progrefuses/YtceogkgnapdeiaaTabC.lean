/- The program's Put and Get. -/
import Derived.Test.YtceogkgnapdeiaaTabB
namespace Go.Proofs.Ytceogkgnapdeiaa
open Go.ChangeShapes Go.WideShapes Go.ChangeAt Go.RowKit

/-- What Get tells. -/
def getV (s : Tb) (c : Int) : Int := match at? s.R c with | some i => (s.R.getD i noWr).v | none => 0
def getY (s : Tb) (c : Int) : Bool := (at? s.R c).isSome
theorem own_refl (B : Nat) (w : World) : Keep [B] w w := Keep.refl _ _