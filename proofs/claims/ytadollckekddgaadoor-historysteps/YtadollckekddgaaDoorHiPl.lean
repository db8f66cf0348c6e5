/- Data: places of transactions, which stands ahead. -/
import Derived.Test.YtadollckekddgaaDoorHiM
namespace Go.Proofs.YtadollckekddgaaDoor.Hi
set_option linter.unusedVariables false

def plA (t : Tr) : Int := if 0 < t.st then t.st else t.sn
def plB (t : Tr) : Int := if 0 < t.st then 0 else 1
def aheadD (a b : Tr) : Bool := decide (plA a < plA b) || (decide (plA a = plA b) && decide (plB a < plB b))
def txV (t : Tr) : Value := .agg #[.int .i64 t.th, .int .i64 t.bg, .int .i64 t.en, .int .i64 t.st, .int .i64 t.sn, .int .i64 t.er]
end Go.Proofs.YtadollckekddgaaDoor.Hi
