/-
  NARROWER THAN 'FOR EVERY INPUT', by the rows' own cells (each row's printed sentence says how): ProgWorks: laid · ProgTurns: laid · ProgFaults: laid.
  DERIVED. THE GIVEN ROWS OF THIS SEAT. 3 by the template 'for every input the law returns true; each argument reads behind the call as it read before'; 0 by the template 'total and deterministic' (their statements: YtigfjedohdgjfaaGreatDoorTotals.lean).
  GIVEN WITH THE SEED: the statements are not yours to turn. If you find one false, say at which input.
  Laid BY PROGRAM, IN A SANDBOX (cutbox-rows.mjs): the forced cells as the released guide's own fill.sh prints them over the translation 0a60e42845646305… (all of the seat's roots in one cut). By AI agents, Wed Nov 11 2026. No macro, syntax, notation, axiom, sorry.
-/
import Derived.Test.YtigfjedohdgjfaaGreatDoorChecked
import GoSem.Claim
import GoSem.ClaimJoined
import GoSem.ClaimMapViews
import Derived.JoinedTies
import Derived.KernelRfl
namespace Go.Proofs.YtigfjedohdgjfaaGreatDoor
/- THE CELL 'sum', in the pinned program and in every row, IS THE sha256 OF THE DUMP (.gsa) THAT YtigfjedohdgjfaaGreatDoorProg.lean LOADS. Nothing in Lean hashes anything: it is a label: what it is worth is what the hold of that sum in a sandbox is worth. -/
noncomputable def Tryz.pinned : Pinned := { name := "ytigfjedohdgjfaagreatdoor", sum := "0a60e428456463051ffa8329355be52ca6a1daeb3f6dd984b5fdb61d5e1ba320", checked := Tryz.checked }
namespace Rows
def none {H : Type} : Left H := { results := [], args := [] }

/- WHAT THE LISTED PACKAGE-LEVEL VARIABLES READ AS WHEN THE CALL BEGINS. Each datum BY PROGRAM (the guide's laid-datum.mjs) off the statement by which the dump's own 'gosem.cut.vars' lays the variable. In a bare row this is a premise. The card (YtigfjedohdgjfaaGreatDoorCards.lean) ties it to the program's text. -/
def laid_carousel_code_operandOf {H : Type} : DataW H := .agg [.lit (.int .u8 0), .lit (.int .u8 1), .lit (.int .u8 2), .lit (.int .u8 3), .lit (.int .u8 0), .lit (.int .u8 0), .lit (.int .u8 0), .lit (.int .u8 0), .lit (.int .u8 0), .lit (.int .u8 0), .lit (.int .u8 0), .lit (.int .u8 0), .lit (.int .u8 0), .lit (.int .u8 0), .lit (.int .u8 0), .lit (.int .u8 0), .lit (.int .u8 0), .lit (.int .u8 0), .lit (.int .u8 0), .lit (.int .u8 0), .lit (.int .u8 0), .lit (.int .u8 0), .lit (.int .u8 0), .lit (.int .u8 6), .lit (.int .u8 2), .lit (.int .u8 2), .lit (.int .u8 5), .lit (.int .u8 0), .lit (.int .u8 4), .lit (.int .u8 0), .lit (.int .u8 0), .lit (.int .u8 0), .lit (.int .u8 0), .lit (.int .u8 4), .lit (.int .u8 4), .lit (.int .u8 4), .lit (.int .u8 4), .lit (.int .u8 4), .lit (.int .u8 4), .lit (.int .u8 4), .lit (.int .u8 4)]
def laid_carousel_code_operands {H : Type} : DataW H := .agg [.agg [.lit (.int .i64 0), .lit (.int .i64 0), .lit (.int .i64 0)], .agg [.lit (.int .i64 1), .lit (.int .i64 (-128)), .lit (.int .i64 127)], .agg [.lit (.int .i64 2), .lit (.int .i64 (-32768)), .lit (.int .i64 32767)], .agg [.lit (.int .i64 8), .lit (.int .i64 (-9223372036854775808)), .lit (.int .i64 9223372036854775807)], .agg [.lit (.int .i64 1), .lit (.int .i64 0), .lit (.int .i64 255)], .agg [.lit (.int .i64 2), .lit (.int .i64 0), .lit (.int .i64 65535)], .agg [.lit (.int .i64 1), .lit (.int .i64 0), .lit (.int .i64 5)]]

/-- 'carousellaw21.ProgWorks': WHATEVER THE INPUT: true; the input reads as it did. -/
def progWorksSpec : ChangeSpec := { name := "progWorks", fn := fun _ => fun
  | [d1, d2, d3] => { results := [.lit (.bool true)], args := [d1, d2, d3] }
  | _ => none }
def progWorksRow : OpenClaim := { program := "ytigfjedohdgjfaagreatdoor", sum := "0a60e428456463051ffa8329355be52ca6a1daeb3f6dd984b5fdb61d5e1ba320", func := "carousel/carousellaw21.ProgWorks", spec := "progWorks", unfollowed := true, recurses := true, named := ["carousel/code.operandOf", "carousel/code.operands"], apart := false, laid := [("carousel/code.operandOf", laid_carousel_code_operandOf), ("carousel/code.operands", laid_carousel_code_operands)] }
def ProgWorksSaid : Prop := progWorksRow.holds Tryz.pinned (OpenSpec.ofChange progWorksSpec)

/-- ITS FALSE NEIGHBOUR: 'it returns false'. Refute it at one input. -/
def progWorksWrong : ChangeSpec := { name := "progWorks", fn := fun _ => fun
  | [d1, d2, d3] => { results := [.lit (.bool false)], args := [d1, d2, d3] }
  | _ => none }
def ProgWorksWrongFalsely : Prop := progWorksRow.holds Tryz.pinned (OpenSpec.ofChange progWorksWrong)

/-- 'carousellaw21.ProgTurns': WHATEVER THE INPUT: true; the input reads as it did. -/
def progTurnsSpec : ChangeSpec := { name := "progTurns", fn := fun _ => fun
  | [d1, d2] => { results := [.lit (.bool true)], args := [d1, d2] }
  | _ => none }
def progTurnsRow : OpenClaim := { program := "ytigfjedohdgjfaagreatdoor", sum := "0a60e428456463051ffa8329355be52ca6a1daeb3f6dd984b5fdb61d5e1ba320", func := "carousel/carousellaw21.ProgTurns", spec := "progTurns", unfollowed := true, recurses := true, named := ["carousel/code.operandOf", "carousel/code.operands"], apart := false, laid := [("carousel/code.operandOf", laid_carousel_code_operandOf), ("carousel/code.operands", laid_carousel_code_operands)] }
def ProgTurnsSaid : Prop := progTurnsRow.holds Tryz.pinned (OpenSpec.ofChange progTurnsSpec)

/-- ITS FALSE NEIGHBOUR: 'it returns false'. Refute it at one input. -/
def progTurnsWrong : ChangeSpec := { name := "progTurns", fn := fun _ => fun
  | [d1, d2] => { results := [.lit (.bool false)], args := [d1, d2] }
  | _ => none }
def ProgTurnsWrongFalsely : Prop := progTurnsRow.holds Tryz.pinned (OpenSpec.ofChange progTurnsWrong)

/-- 'carousellaw21.ProgFaults': WHATEVER THE INPUT: true; the input reads as it did. -/
def progFaultsSpec : ChangeSpec := { name := "progFaults", fn := fun _ => fun
  | [d1, d2, d3] => { results := [.lit (.bool true)], args := [d1, d2, d3] }
  | _ => none }
def progFaultsRow : OpenClaim := { program := "ytigfjedohdgjfaagreatdoor", sum := "0a60e428456463051ffa8329355be52ca6a1daeb3f6dd984b5fdb61d5e1ba320", func := "carousel/carousellaw21.ProgFaults", spec := "progFaults", unfollowed := true, recurses := true, named := ["carousel/code.operandOf", "carousel/code.operands"], apart := false, laid := [("carousel/code.operandOf", laid_carousel_code_operandOf), ("carousel/code.operands", laid_carousel_code_operands)] }
def ProgFaultsSaid : Prop := progFaultsRow.holds Tryz.pinned (OpenSpec.ofChange progFaultsSpec)

/-- ITS FALSE NEIGHBOUR: 'it returns false'. Refute it at one input. -/
def progFaultsWrong : ChangeSpec := { name := "progFaults", fn := fun _ => fun
  | [d1, d2, d3] => { results := [.lit (.bool false)], args := [d1, d2, d3] }
  | _ => none }
def ProgFaultsWrongFalsely : Prop := progFaultsRow.holds Tryz.pinned (OpenSpec.ofChange progFaultsWrong)

/- THE SECOND FORM. 'bulk': how many values and letters a reading holds, each counted each time it is reached (what is shared counts as often as it is met; a slice's spare places count too). A statement '..UptoSaid' is the law's where the arguments, and the package variables that the reading takes, are together of bulk at most 1048576: NARROWER than '..Said'. Prove '..Said' where nothing that the law and all that it calls make is longer than what came in: it says more and counts as full. Else prove '..UptoSaid'. A law counts once. -/
mutual
def uptoBulk {H : Type} : DataW H → Nat
  | .lit (.string bytes) => bytes.length + 1
  | .lit _ => 1
  | .nil => 1
  | .ptr d => uptoBulk d + 1
  | .slice elems spare => uptoBulkAll elems + uptoBulkAll spare + 1
  | .agg parts => uptoBulkAll parts + 1
  | .iface _ d => uptoBulk d + 1
  | .map entries => uptoBulkEntries entries + 1
  | .held _ => 1
def uptoBulkAll {H : Type} : List (DataW H) → Nat
  | [] => 0
  | d :: r => uptoBulk d + uptoBulkAll r
def uptoBulkEntries {H : Type} : List (Lit × DataW H) → Nat
  | [] => 0
  | x :: r => uptoBulkEntry x + uptoBulkEntries r
def uptoBulkEntry {H : Type} : Lit × DataW H → Nat
  | (.string bytes, d) => bytes.length + uptoBulk d + 1
  | (_, d) => uptoBulk d + 1
 end
def uptoSmall : (H : Type) → List (DataW H) → Bool := fun _ ds => decide (uptoBulkAll ds ≤ 1048576)
def OpenSpec.upto (s : _root_.Go.ChangeSpec) : _root_.Go.OpenSpec := { _root_.Go.OpenSpec.ofChange s with cond := some uptoSmall }

/-- 'carousellaw21.ProgWorks', WHERE WHAT IT READS IS OF BULK AT MOST 1048576: true; the input reads as it did. -/
def progWorksUptoRow : OpenClaim := { program := "ytigfjedohdgjfaagreatdoor", sum := "0a60e428456463051ffa8329355be52ca6a1daeb3f6dd984b5fdb61d5e1ba320", func := "carousel/carousellaw21.ProgWorks", spec := "progWorks", unfollowed := true, recurses := true, named := ["carousel/code.operandOf", "carousel/code.operands"], apart := false, laid := [("carousel/code.operandOf", laid_carousel_code_operandOf), ("carousel/code.operands", laid_carousel_code_operands)], narrowed := true }
def ProgWorksUptoSaid : Prop := progWorksUptoRow.holds Tryz.pinned (OpenSpec.upto progWorksSpec)

/-- 'carousellaw21.ProgTurns', WHERE WHAT IT READS IS OF BULK AT MOST 1048576: true; the input reads as it did. -/
def progTurnsUptoRow : OpenClaim := { program := "ytigfjedohdgjfaagreatdoor", sum := "0a60e428456463051ffa8329355be52ca6a1daeb3f6dd984b5fdb61d5e1ba320", func := "carousel/carousellaw21.ProgTurns", spec := "progTurns", unfollowed := true, recurses := true, named := ["carousel/code.operandOf", "carousel/code.operands"], apart := false, laid := [("carousel/code.operandOf", laid_carousel_code_operandOf), ("carousel/code.operands", laid_carousel_code_operands)], narrowed := true }
def ProgTurnsUptoSaid : Prop := progTurnsUptoRow.holds Tryz.pinned (OpenSpec.upto progTurnsSpec)

/-- 'carousellaw21.ProgFaults', WHERE WHAT IT READS IS OF BULK AT MOST 1048576: true; the input reads as it did. -/
def progFaultsUptoRow : OpenClaim := { program := "ytigfjedohdgjfaagreatdoor", sum := "0a60e428456463051ffa8329355be52ca6a1daeb3f6dd984b5fdb61d5e1ba320", func := "carousel/carousellaw21.ProgFaults", spec := "progFaults", unfollowed := true, recurses := true, named := ["carousel/code.operandOf", "carousel/code.operands"], apart := false, laid := [("carousel/code.operandOf", laid_carousel_code_operandOf), ("carousel/code.operands", laid_carousel_code_operands)], narrowed := true }
def ProgFaultsUptoSaid : Prop := progFaultsUptoRow.holds Tryz.pinned (OpenSpec.upto progFaultsSpec)

end Rows
end Go.Proofs.YtigfjedohdgjfaaGreatDoor
