/- The document's Print, whatever it is given; AsmPrints, walked. -/
import Derived.Test.YtbjopdmchmekpaaDoorAsF
namespace Go.Proofs.YtbjopdmchmekpaaDoor
open Go.ChangeShapes Go.WideShapes Go.ChangeAt Go.RowKit
