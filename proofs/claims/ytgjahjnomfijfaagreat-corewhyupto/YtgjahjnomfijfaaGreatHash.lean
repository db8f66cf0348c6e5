/- What Mix and SigHash do, in the program and in the document's answer, call by call. -/
import Derived.Test.YtgjahjnomfijfaaGreatRows
import Derived.Test.YtgjahjnomfijfaaGreatMath
import Derived.WalkKit
import Derived.ProofKit
import Derived.OpenShut
import Derived.ShutString
import Derived.WalkSpells
import Derived.WalkLawsBesides
import Derived.Laws.BytesArg
import Derived.Deep.QuietTactic
import Derived.BigQuiet
import Derived.ChangeOld
import Derived.Below
import Derived.WalkSmall
import Derived.Laws.Rows
import Derived.Laws.Tables
namespace Go.Proofs.YtgjahjnomfijfaaGreat.Sg
open Go.ChangeShapes Go.WideShapes Go.ChangeAt Go.RowKit
theorem mix_any (x : Int) (w : World) : Calls Tryz.prog 85 #[.int .u64 x] w fun e w' => e = .returned (.int .u64 (mixV x)) ∧ w' = w := by
 go_enter Tryz.func85, Tryz.ntmps85
 go_wp2
 go_ret
 exact ⟨rfl, rfl⟩
def sigV (c : Int) : Int := wrap64 (mixV (IntKind.u64.wrap c) / 36028797018963968)
theorem sig_bd (c : Int) : 0 ≤ sigV c ∧ sigV c < 512 := by
 have h := mix_bd (IntKind.u64.wrap c)
 unfold sigV wrap64
 omega
theorem sighash_any (c : Int) (w : World) : Calls Tryz.prog 76 #[.int .i64 c] w fun e w' => e = .returned (.int .i64 (sigV c)) ∧ w' = w := by
 go_enter Tryz.func76, Tryz.ntmps76
 go_wp2_with fail
 refine (mix_any _ _).mono ?_
 rintro e w' ⟨rfl, rfl⟩
 go_wp2
 go_ret
 exact ⟨rfl, rfl⟩
