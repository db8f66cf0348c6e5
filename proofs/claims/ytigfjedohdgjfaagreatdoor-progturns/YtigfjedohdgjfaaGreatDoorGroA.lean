/- carouselgrow: Pick and fit. -/
import Derived.Test.YtigfjedohdgjfaaGreatDoorGroM
import Derived.Test.YtigfjedohdgjfaaGreatDoorJHashSigB
import Derived.Test.YtigfjedohdgjfaaGreatDoorJMemCAns
import Derived.Test.YtigfjedohdgjfaaGreatDoorJMemFMemN
namespace Go.Proofs.YtigfjedohdgjfaaGreatDoor
open Go.ChangeShapes Go.WideShapes Go.ChangeAt Go.RowKit
attribute [local go_sem ↓] Go.wp_at_zero Go.wp_at_succ
theorem info_wr:(Tryz.prog.info? 183).map (fun i=>(i.zero,i.size,i.bytes))=some (some (.agg #[.int .i64 0,.int .i64 0]),2,16):=by kernel_rfl
