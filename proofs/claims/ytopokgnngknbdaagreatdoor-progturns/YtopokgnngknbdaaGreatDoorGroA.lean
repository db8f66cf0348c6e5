/- carouselgrow: Pick and fit. -/
import Derived.Test.YtopokgnngknbdaaGreatDoorGroM
import Derived.Test.YtopokgnngknbdaaGreatDoorJHashSigB
import Derived.Test.YtopokgnngknbdaaGreatDoorJMemCAns
import Derived.Test.YtopokgnngknbdaaGreatDoorJMemFMemN
namespace Go.Proofs.YtopokgnngknbdaaGreatDoor
open Go.ChangeShapes Go.WideShapes Go.ChangeAt Go.RowKit
attribute [local go_sem ↓] Go.wp_at_zero Go.wp_at_succ
theorem info_wr:(Tryz.prog.info? 183).map (fun i=>(i.zero,i.size,i.bytes))=some (some (.agg #[.int .i64 0,.int .i64 0]),2,16):=by kernel_rfl
