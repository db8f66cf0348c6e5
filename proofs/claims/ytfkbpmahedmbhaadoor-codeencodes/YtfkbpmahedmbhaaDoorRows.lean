/-
  NARROWER THAN 'FOR EVERY INPUT', by the rows' own cells (each row's printed sentence says how): CodeTells: laid · CodeEncodes: laid · CodeDecodes: laid · CodeBack: laid · CodeThere: laid · CodeLocal: laid.
  DERIVED. THE GIVEN ROWS OF THIS SEAT. 6 by the template 'for every input the law returns true; each argument reads behind the call as it read before'; 0 by the template 'total and deterministic' (their statements: YtfkbpmahedmbhaaDoorTotals.lean).
  GIVEN WITH THE SEED: the statements are not yours to turn. If you find one false, say at which input.
  Laid BY PROGRAM, IN A SANDBOX (cutbox-rows.mjs): the forced cells as the released guide's own fill.sh prints them over the translation a3e1e4d338470a52… (all of the seat's roots in one cut). By AI agents, Wed Nov 11 2026. No macro, syntax, notation, axiom, sorry.
-/
import Derived.Test.YtfkbpmahedmbhaaDoorChecked
import GoSem.Claim
import GoSem.ClaimJoined
import GoSem.ClaimMapViews
import Derived.JoinedTies
import Derived.KernelRfl
namespace Go.Proofs.YtfkbpmahedmbhaaDoor
/- THE CELL 'sum', in the pinned program and in every row, IS THE sha256 OF THE DUMP (.gsa) THAT YtfkbpmahedmbhaaDoorProg.lean LOADS. Nothing in Lean hashes anything: it is a label: what it is worth is what the hold of that sum in a sandbox is worth. -/
noncomputable def Tryd.pinned : Pinned := { name := "ytfkbpmahedmbhaadoor", sum := "a3e1e4d338470a52f9082d79a51aea687aa1a07f1eff7b32ad6e541962013181", checked := Tryd.checked }
namespace Rows
def none {H : Type} : Left H := { results := [], args := [] }

/- WHAT THE LISTED PACKAGE-LEVEL VARIABLES READ AS WHEN THE CALL BEGINS. Each datum BY PROGRAM (the guide's laid-datum.mjs) off the statement by which the dump's own 'gosem.cut.vars' lays the variable. In a bare row this is a premise. The card (YtfkbpmahedmbhaaDoorCards.lean) ties it to the program's text. -/
def laid_carousel_code_operandOf {H : Type} : DataW H := .agg [.lit (.int .u8 0), .lit (.int .u8 1), .lit (.int .u8 2), .lit (.int .u8 3), .lit (.int .u8 0), .lit (.int .u8 0), .lit (.int .u8 0), .lit (.int .u8 0), .lit (.int .u8 0), .lit (.int .u8 0), .lit (.int .u8 0), .lit (.int .u8 0), .lit (.int .u8 0), .lit (.int .u8 0), .lit (.int .u8 0), .lit (.int .u8 0), .lit (.int .u8 0), .lit (.int .u8 0), .lit (.int .u8 0), .lit (.int .u8 0), .lit (.int .u8 0), .lit (.int .u8 0), .lit (.int .u8 0), .lit (.int .u8 6), .lit (.int .u8 2), .lit (.int .u8 2), .lit (.int .u8 5), .lit (.int .u8 0), .lit (.int .u8 4), .lit (.int .u8 0), .lit (.int .u8 0), .lit (.int .u8 0), .lit (.int .u8 0), .lit (.int .u8 4), .lit (.int .u8 4), .lit (.int .u8 4), .lit (.int .u8 4), .lit (.int .u8 4), .lit (.int .u8 4), .lit (.int .u8 4), .lit (.int .u8 4)]
def laid_carousel_code_operands {H : Type} : DataW H := .agg [.agg [.lit (.int .i64 0), .lit (.int .i64 0), .lit (.int .i64 0)], .agg [.lit (.int .i64 1), .lit (.int .i64 (-128)), .lit (.int .i64 127)], .agg [.lit (.int .i64 2), .lit (.int .i64 (-32768)), .lit (.int .i64 32767)], .agg [.lit (.int .i64 8), .lit (.int .i64 (-9223372036854775808)), .lit (.int .i64 9223372036854775807)], .agg [.lit (.int .i64 1), .lit (.int .i64 0), .lit (.int .i64 255)], .agg [.lit (.int .i64 2), .lit (.int .i64 0), .lit (.int .i64 65535)], .agg [.lit (.int .i64 1), .lit (.int .i64 0), .lit (.int .i64 5)]]

/-- 'carousellaw13.CodeTells': WHATEVER THE INPUT: true; the input reads as it did. -/
def codeTellsSpec : ChangeSpec := { name := "codeTells", fn := fun _ => fun
  | [d1, d2] => { results := [.lit (.bool true)], args := [d1, d2] }
  | _ => none }
def codeTellsRow : OpenClaim := { program := "ytfkbpmahedmbhaadoor", sum := "a3e1e4d338470a52f9082d79a51aea687aa1a07f1eff7b32ad6e541962013181", func := "carousel/carousellaw13.CodeTells", spec := "codeTells", named := ["carousel/code.operandOf", "carousel/code.operands"], apart := false, laid := [("carousel/code.operandOf", laid_carousel_code_operandOf), ("carousel/code.operands", laid_carousel_code_operands)] }
def CodeTellsSaid : Prop := codeTellsRow.holds Tryd.pinned (OpenSpec.ofChange codeTellsSpec)

/-- ITS FALSE NEIGHBOUR: 'it returns false'. Refute it at one input. -/
def codeTellsWrong : ChangeSpec := { name := "codeTells", fn := fun _ => fun
  | [d1, d2] => { results := [.lit (.bool false)], args := [d1, d2] }
  | _ => none }
def CodeTellsWrongFalsely : Prop := codeTellsRow.holds Tryd.pinned (OpenSpec.ofChange codeTellsWrong)

/-- 'carousellaw13.CodeEncodes': WHATEVER THE INPUT: true; the input reads as it did. -/
def codeEncodesSpec : ChangeSpec := { name := "codeEncodes", fn := fun _ => fun
  | [d] => { results := [.lit (.bool true)], args := [d] }
  | _ => none }
def codeEncodesRow : OpenClaim := { program := "ytfkbpmahedmbhaadoor", sum := "a3e1e4d338470a52f9082d79a51aea687aa1a07f1eff7b32ad6e541962013181", func := "carousel/carousellaw13.CodeEncodes", spec := "codeEncodes", named := ["carousel/code.operandOf", "carousel/code.operands"], apart := false, laid := [("carousel/code.operandOf", laid_carousel_code_operandOf), ("carousel/code.operands", laid_carousel_code_operands)] }
def CodeEncodesSaid : Prop := codeEncodesRow.holds Tryd.pinned (OpenSpec.ofChange codeEncodesSpec)

/-- ITS FALSE NEIGHBOUR: 'it returns false'. Refute it at one input. -/
def codeEncodesWrong : ChangeSpec := { name := "codeEncodes", fn := fun _ => fun
  | [d] => { results := [.lit (.bool false)], args := [d] }
  | _ => none }
def CodeEncodesWrongFalsely : Prop := codeEncodesRow.holds Tryd.pinned (OpenSpec.ofChange codeEncodesWrong)

/-- 'carousellaw13.CodeDecodes': WHATEVER THE INPUT: true; the input reads as it did. -/
def codeDecodesSpec : ChangeSpec := { name := "codeDecodes", fn := fun _ => fun
  | [d] => { results := [.lit (.bool true)], args := [d] }
  | _ => none }
def codeDecodesRow : OpenClaim := { program := "ytfkbpmahedmbhaadoor", sum := "a3e1e4d338470a52f9082d79a51aea687aa1a07f1eff7b32ad6e541962013181", func := "carousel/carousellaw13.CodeDecodes", spec := "codeDecodes", named := ["carousel/code.operandOf", "carousel/code.operands"], apart := false, laid := [("carousel/code.operandOf", laid_carousel_code_operandOf), ("carousel/code.operands", laid_carousel_code_operands)] }
def CodeDecodesSaid : Prop := codeDecodesRow.holds Tryd.pinned (OpenSpec.ofChange codeDecodesSpec)

/-- ITS FALSE NEIGHBOUR: 'it returns false'. Refute it at one input. -/
def codeDecodesWrong : ChangeSpec := { name := "codeDecodes", fn := fun _ => fun
  | [d] => { results := [.lit (.bool false)], args := [d] }
  | _ => none }
def CodeDecodesWrongFalsely : Prop := codeDecodesRow.holds Tryd.pinned (OpenSpec.ofChange codeDecodesWrong)

/-- 'carousellaw13.CodeBack': WHATEVER THE INPUT: true; the input reads as it did. -/
def codeBackSpec : ChangeSpec := { name := "codeBack", fn := fun _ => fun
  | [d] => { results := [.lit (.bool true)], args := [d] }
  | _ => none }
def codeBackRow : OpenClaim := { program := "ytfkbpmahedmbhaadoor", sum := "a3e1e4d338470a52f9082d79a51aea687aa1a07f1eff7b32ad6e541962013181", func := "carousel/carousellaw13.CodeBack", spec := "codeBack", named := ["carousel/code.operandOf", "carousel/code.operands"], apart := false, laid := [("carousel/code.operandOf", laid_carousel_code_operandOf), ("carousel/code.operands", laid_carousel_code_operands)] }
def CodeBackSaid : Prop := codeBackRow.holds Tryd.pinned (OpenSpec.ofChange codeBackSpec)

/-- ITS FALSE NEIGHBOUR: 'it returns false'. Refute it at one input. -/
def codeBackWrong : ChangeSpec := { name := "codeBack", fn := fun _ => fun
  | [d] => { results := [.lit (.bool false)], args := [d] }
  | _ => none }
def CodeBackWrongFalsely : Prop := codeBackRow.holds Tryd.pinned (OpenSpec.ofChange codeBackWrong)

/-- 'carousellaw13.CodeThere': WHATEVER THE INPUT: true; the input reads as it did. -/
def codeThereSpec : ChangeSpec := { name := "codeThere", fn := fun _ => fun
  | [d] => { results := [.lit (.bool true)], args := [d] }
  | _ => none }
def codeThereRow : OpenClaim := { program := "ytfkbpmahedmbhaadoor", sum := "a3e1e4d338470a52f9082d79a51aea687aa1a07f1eff7b32ad6e541962013181", func := "carousel/carousellaw13.CodeThere", spec := "codeThere", named := ["carousel/code.operandOf", "carousel/code.operands"], apart := false, laid := [("carousel/code.operandOf", laid_carousel_code_operandOf), ("carousel/code.operands", laid_carousel_code_operands)] }
def CodeThereSaid : Prop := codeThereRow.holds Tryd.pinned (OpenSpec.ofChange codeThereSpec)

/-- ITS FALSE NEIGHBOUR: 'it returns false'. Refute it at one input. -/
def codeThereWrong : ChangeSpec := { name := "codeThere", fn := fun _ => fun
  | [d] => { results := [.lit (.bool false)], args := [d] }
  | _ => none }
def CodeThereWrongFalsely : Prop := codeThereRow.holds Tryd.pinned (OpenSpec.ofChange codeThereWrong)

/-- 'carousellaw13.CodeLocal': WHATEVER THE INPUT: true; the input reads as it did. -/
def codeLocalSpec : ChangeSpec := { name := "codeLocal", fn := fun _ => fun
  | [d] => { results := [.lit (.bool true)], args := [d] }
  | _ => none }
def codeLocalRow : OpenClaim := { program := "ytfkbpmahedmbhaadoor", sum := "a3e1e4d338470a52f9082d79a51aea687aa1a07f1eff7b32ad6e541962013181", func := "carousel/carousellaw13.CodeLocal", spec := "codeLocal", named := ["carousel/code.operandOf", "carousel/code.operands"], apart := false, laid := [("carousel/code.operandOf", laid_carousel_code_operandOf), ("carousel/code.operands", laid_carousel_code_operands)] }
def CodeLocalSaid : Prop := codeLocalRow.holds Tryd.pinned (OpenSpec.ofChange codeLocalSpec)

/-- ITS FALSE NEIGHBOUR: 'it returns false'. Refute it at one input. -/
def codeLocalWrong : ChangeSpec := { name := "codeLocal", fn := fun _ => fun
  | [d] => { results := [.lit (.bool false)], args := [d] }
  | _ => none }
def CodeLocalWrongFalsely : Prop := codeLocalRow.holds Tryd.pinned (OpenSpec.ofChange codeLocalWrong)

/- THE SECOND FORM. 'bulk': how many values and letters a reading holds, each counted each time it is reached (what is shared counts as often as it is met; a slice's spare places count too). A statement '..UptoSaid' is the law's where the arguments, and the package variables that the reading takes, are together of bulk at most 1048576: NARROWER than '..Said'. Prove '..Said' where nothing that the law and all that it calls make is longer than what came in: it says more and counts as full. Else prove '..UptoSaid'. A law counts once. -/
mutual
def uptoBulk {H : Type} : DataW H → Nat
  | .lit (.string bytes) => bytes.length + 1
  | .lit _ => 1
  | .nil => 1
  | .ptr d => uptoBulk d + 1
  | .slice elems spare => uptoBulkAll elems + uptoBulkAll spare + 1
  | .agg parts => uptoBulkAll parts + 1
  | .iface _ d => uptoBulk d + 1
  | .map entries => uptoBulkEntries entries + 1
  | .held _ => 1
def uptoBulkAll {H : Type} : List (DataW H) → Nat
  | [] => 0
  | d :: r => uptoBulk d + uptoBulkAll r
def uptoBulkEntries {H : Type} : List (Lit × DataW H) → Nat
  | [] => 0
  | x :: r => uptoBulkEntry x + uptoBulkEntries r
def uptoBulkEntry {H : Type} : Lit × DataW H → Nat
  | (.string bytes, d) => bytes.length + uptoBulk d + 1
  | (_, d) => uptoBulk d + 1
 end
def uptoSmall : (H : Type) → List (DataW H) → Bool := fun _ ds => decide (uptoBulkAll ds ≤ 1048576)
def OpenSpec.upto (s : _root_.Go.ChangeSpec) : _root_.Go.OpenSpec := { _root_.Go.OpenSpec.ofChange s with cond := some uptoSmall }

/-- 'carousellaw13.CodeTells', WHERE WHAT IT READS IS OF BULK AT MOST 1048576: true; the input reads as it did. -/
def codeTellsUptoRow : OpenClaim := { program := "ytfkbpmahedmbhaadoor", sum := "a3e1e4d338470a52f9082d79a51aea687aa1a07f1eff7b32ad6e541962013181", func := "carousel/carousellaw13.CodeTells", spec := "codeTells", named := ["carousel/code.operandOf", "carousel/code.operands"], apart := false, laid := [("carousel/code.operandOf", laid_carousel_code_operandOf), ("carousel/code.operands", laid_carousel_code_operands)], narrowed := true }
def CodeTellsUptoSaid : Prop := codeTellsUptoRow.holds Tryd.pinned (OpenSpec.upto codeTellsSpec)

/-- 'carousellaw13.CodeEncodes', WHERE WHAT IT READS IS OF BULK AT MOST 1048576: true; the input reads as it did. -/
def codeEncodesUptoRow : OpenClaim := { program := "ytfkbpmahedmbhaadoor", sum := "a3e1e4d338470a52f9082d79a51aea687aa1a07f1eff7b32ad6e541962013181", func := "carousel/carousellaw13.CodeEncodes", spec := "codeEncodes", named := ["carousel/code.operandOf", "carousel/code.operands"], apart := false, laid := [("carousel/code.operandOf", laid_carousel_code_operandOf), ("carousel/code.operands", laid_carousel_code_operands)], narrowed := true }
def CodeEncodesUptoSaid : Prop := codeEncodesUptoRow.holds Tryd.pinned (OpenSpec.upto codeEncodesSpec)

/-- 'carousellaw13.CodeDecodes', WHERE WHAT IT READS IS OF BULK AT MOST 1048576: true; the input reads as it did. -/
def codeDecodesUptoRow : OpenClaim := { program := "ytfkbpmahedmbhaadoor", sum := "a3e1e4d338470a52f9082d79a51aea687aa1a07f1eff7b32ad6e541962013181", func := "carousel/carousellaw13.CodeDecodes", spec := "codeDecodes", named := ["carousel/code.operandOf", "carousel/code.operands"], apart := false, laid := [("carousel/code.operandOf", laid_carousel_code_operandOf), ("carousel/code.operands", laid_carousel_code_operands)], narrowed := true }
def CodeDecodesUptoSaid : Prop := codeDecodesUptoRow.holds Tryd.pinned (OpenSpec.upto codeDecodesSpec)

/-- 'carousellaw13.CodeBack', WHERE WHAT IT READS IS OF BULK AT MOST 1048576: true; the input reads as it did. -/
def codeBackUptoRow : OpenClaim := { program := "ytfkbpmahedmbhaadoor", sum := "a3e1e4d338470a52f9082d79a51aea687aa1a07f1eff7b32ad6e541962013181", func := "carousel/carousellaw13.CodeBack", spec := "codeBack", named := ["carousel/code.operandOf", "carousel/code.operands"], apart := false, laid := [("carousel/code.operandOf", laid_carousel_code_operandOf), ("carousel/code.operands", laid_carousel_code_operands)], narrowed := true }
def CodeBackUptoSaid : Prop := codeBackUptoRow.holds Tryd.pinned (OpenSpec.upto codeBackSpec)

/-- 'carousellaw13.CodeThere', WHERE WHAT IT READS IS OF BULK AT MOST 1048576: true; the input reads as it did. -/
def codeThereUptoRow : OpenClaim := { program := "ytfkbpmahedmbhaadoor", sum := "a3e1e4d338470a52f9082d79a51aea687aa1a07f1eff7b32ad6e541962013181", func := "carousel/carousellaw13.CodeThere", spec := "codeThere", named := ["carousel/code.operandOf", "carousel/code.operands"], apart := false, laid := [("carousel/code.operandOf", laid_carousel_code_operandOf), ("carousel/code.operands", laid_carousel_code_operands)], narrowed := true }
def CodeThereUptoSaid : Prop := codeThereUptoRow.holds Tryd.pinned (OpenSpec.upto codeThereSpec)

/-- 'carousellaw13.CodeLocal', WHERE WHAT IT READS IS OF BULK AT MOST 1048576: true; the input reads as it did. -/
def codeLocalUptoRow : OpenClaim := { program := "ytfkbpmahedmbhaadoor", sum := "a3e1e4d338470a52f9082d79a51aea687aa1a07f1eff7b32ad6e541962013181", func := "carousel/carousellaw13.CodeLocal", spec := "codeLocal", named := ["carousel/code.operandOf", "carousel/code.operands"], apart := false, laid := [("carousel/code.operandOf", laid_carousel_code_operandOf), ("carousel/code.operands", laid_carousel_code_operands)], narrowed := true }
def CodeLocalUptoSaid : Prop := codeLocalUptoRow.holds Tryd.pinned (OpenSpec.upto codeLocalSpec)

end Rows
end Go.Proofs.YtfkbpmahedmbhaaDoor
