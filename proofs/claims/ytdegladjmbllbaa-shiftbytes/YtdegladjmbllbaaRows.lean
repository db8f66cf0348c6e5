/-
  No cell of these rows narrows 'for every input' (looked for: loops, veiled, ifaces, maps, wideKeys, modest, calm, conditions, laid).
  DERIVED. THE GIVEN ROWS OF THIS SEAT. 6 by the template 'for every input the law returns true; each argument reads behind the call as it read before'; 0 by the template 'total and deterministic' (their statements: YtdegladjmbllbaaTotals.lean).
  GIVEN WITH THE SEED: the statements are not yours to turn. If you find one false, say at which input.
  Laid BY PROGRAM, IN A SANDBOX (cutbox-rows.mjs): the forced cells as the released guide's own fill.sh prints them over the translation 9ce00f9679eebfdd… (all of the seat's roots in one cut). By AI agents, Wed Nov 11 2026. No macro, syntax, notation, axiom, sorry.
-/
import Derived.Test.YtdegladjmbllbaaChecked
import GoSem.Claim
import GoSem.ClaimJoined
import GoSem.ClaimMapViews
import Derived.JoinedTies
import Derived.KernelRfl
namespace Go.Proofs.Ytdegladjmbllbaa
/- THE CELL 'sum', in the pinned program and in every row, IS THE sha256 OF THE DUMP (.gsa) THAT YtdegladjmbllbaaProg.lean LOADS. Nothing in Lean hashes anything: it is a label: what it is worth is what the hold of that sum in a sandbox is worth. -/
noncomputable def Try.pinned : Pinned := { name := "ytdegladjmbllbaa", sum := "9ce00f9679eebfddb9ea25e3c6764f2d8f2e2cd82c7cca4f7f6934c0490be218", checked := Try.checked }
namespace Rows
def none {H : Type} : Left H := { results := [], args := [] }

/-- 'carousellaw01.ShiftMixes': WHATEVER THE INPUT: true; the input reads as it did. -/
def shiftMixesSpec : ChangeSpec := { name := "shiftMixes", fn := fun _ => fun
  | [d1, d2] => { results := [.lit (.bool true)], args := [d1, d2] }
  | _ => none }
def shiftMixesRow : OpenClaim := { program := "ytdegladjmbllbaa", sum := "9ce00f9679eebfddb9ea25e3c6764f2d8f2e2cd82c7cca4f7f6934c0490be218", func := "carousel/carousellaw01.ShiftMixes", spec := "shiftMixes", apart := false }
def ShiftMixesSaid : Prop := shiftMixesRow.holds Try.pinned (OpenSpec.ofChange shiftMixesSpec)

/-- ITS FALSE NEIGHBOUR: 'it returns false'. Refute it at one input. -/
def shiftMixesWrong : ChangeSpec := { name := "shiftMixes", fn := fun _ => fun
  | [d1, d2] => { results := [.lit (.bool false)], args := [d1, d2] }
  | _ => none }
def ShiftMixesWrongFalsely : Prop := shiftMixesRow.holds Try.pinned (OpenSpec.ofChange shiftMixesWrong)

/-- 'carousellaw01.ShiftTurns': WHATEVER THE INPUT: true; the input reads as it did. -/
def shiftTurnsSpec : ChangeSpec := { name := "shiftTurns", fn := fun _ => fun
  | [d1, d2] => { results := [.lit (.bool true)], args := [d1, d2] }
  | _ => none }
def shiftTurnsRow : OpenClaim := { program := "ytdegladjmbllbaa", sum := "9ce00f9679eebfddb9ea25e3c6764f2d8f2e2cd82c7cca4f7f6934c0490be218", func := "carousel/carousellaw01.ShiftTurns", spec := "shiftTurns", apart := false }
def ShiftTurnsSaid : Prop := shiftTurnsRow.holds Try.pinned (OpenSpec.ofChange shiftTurnsSpec)

/-- ITS FALSE NEIGHBOUR: 'it returns false'. Refute it at one input. -/
def shiftTurnsWrong : ChangeSpec := { name := "shiftTurns", fn := fun _ => fun
  | [d1, d2] => { results := [.lit (.bool false)], args := [d1, d2] }
  | _ => none }
def ShiftTurnsWrongFalsely : Prop := shiftTurnsRow.holds Try.pinned (OpenSpec.ofChange shiftTurnsWrong)

/-- 'carousellaw01.ShiftHeads': WHATEVER THE INPUT: true; the input reads as it did. -/
def shiftHeadsSpec : ChangeSpec := { name := "shiftHeads", fn := fun _ => fun
  | [d1, d2, d3] => { results := [.lit (.bool true)], args := [d1, d2, d3] }
  | _ => none }
def shiftHeadsRow : OpenClaim := { program := "ytdegladjmbllbaa", sum := "9ce00f9679eebfddb9ea25e3c6764f2d8f2e2cd82c7cca4f7f6934c0490be218", func := "carousel/carousellaw01.ShiftHeads", spec := "shiftHeads", apart := false }
def ShiftHeadsSaid : Prop := shiftHeadsRow.holds Try.pinned (OpenSpec.ofChange shiftHeadsSpec)

/-- ITS FALSE NEIGHBOUR: 'it returns false'. Refute it at one input. -/
def shiftHeadsWrong : ChangeSpec := { name := "shiftHeads", fn := fun _ => fun
  | [d1, d2, d3] => { results := [.lit (.bool false)], args := [d1, d2, d3] }
  | _ => none }
def ShiftHeadsWrongFalsely : Prop := shiftHeadsRow.holds Try.pinned (OpenSpec.ofChange shiftHeadsWrong)

/-- 'carousellaw01.ShiftNarrows': WHATEVER THE INPUT: true; the input reads as it did. -/
def shiftNarrowsSpec : ChangeSpec := { name := "shiftNarrows", fn := fun _ => fun
  | [d1, d2] => { results := [.lit (.bool true)], args := [d1, d2] }
  | _ => none }
def shiftNarrowsRow : OpenClaim := { program := "ytdegladjmbllbaa", sum := "9ce00f9679eebfddb9ea25e3c6764f2d8f2e2cd82c7cca4f7f6934c0490be218", func := "carousel/carousellaw01.ShiftNarrows", spec := "shiftNarrows", apart := false }
def ShiftNarrowsSaid : Prop := shiftNarrowsRow.holds Try.pinned (OpenSpec.ofChange shiftNarrowsSpec)

/-- ITS FALSE NEIGHBOUR: 'it returns false'. Refute it at one input. -/
def shiftNarrowsWrong : ChangeSpec := { name := "shiftNarrows", fn := fun _ => fun
  | [d1, d2] => { results := [.lit (.bool false)], args := [d1, d2] }
  | _ => none }
def ShiftNarrowsWrongFalsely : Prop := shiftNarrowsRow.holds Try.pinned (OpenSpec.ofChange shiftNarrowsWrong)

/-- 'carousellaw01.ShiftShifts': WHATEVER THE INPUT: true; the input reads as it did. -/
def shiftShiftsSpec : ChangeSpec := { name := "shiftShifts", fn := fun _ => fun
  | [d1, d2] => { results := [.lit (.bool true)], args := [d1, d2] }
  | _ => none }
def shiftShiftsRow : OpenClaim := { program := "ytdegladjmbllbaa", sum := "9ce00f9679eebfddb9ea25e3c6764f2d8f2e2cd82c7cca4f7f6934c0490be218", func := "carousel/carousellaw01.ShiftShifts", spec := "shiftShifts", apart := false }
def ShiftShiftsSaid : Prop := shiftShiftsRow.holds Try.pinned (OpenSpec.ofChange shiftShiftsSpec)

/-- ITS FALSE NEIGHBOUR: 'it returns false'. Refute it at one input. -/
def shiftShiftsWrong : ChangeSpec := { name := "shiftShifts", fn := fun _ => fun
  | [d1, d2] => { results := [.lit (.bool false)], args := [d1, d2] }
  | _ => none }
def ShiftShiftsWrongFalsely : Prop := shiftShiftsRow.holds Try.pinned (OpenSpec.ofChange shiftShiftsWrong)

/-- 'carousellaw01.ShiftBytes': WHATEVER THE INPUT: true; the input reads as it did. -/
def shiftBytesSpec : ChangeSpec := { name := "shiftBytes", fn := fun _ => fun
  | [d1, d2, d3] => { results := [.lit (.bool true)], args := [d1, d2, d3] }
  | _ => none }
def shiftBytesRow : OpenClaim := { program := "ytdegladjmbllbaa", sum := "9ce00f9679eebfddb9ea25e3c6764f2d8f2e2cd82c7cca4f7f6934c0490be218", func := "carousel/carousellaw01.ShiftBytes", spec := "shiftBytes", apart := false }
def ShiftBytesSaid : Prop := shiftBytesRow.holds Try.pinned (OpenSpec.ofChange shiftBytesSpec)

/-- ITS FALSE NEIGHBOUR: 'it returns false'. Refute it at one input. -/
def shiftBytesWrong : ChangeSpec := { name := "shiftBytes", fn := fun _ => fun
  | [d1, d2, d3] => { results := [.lit (.bool false)], args := [d1, d2, d3] }
  | _ => none }
def ShiftBytesWrongFalsely : Prop := shiftBytesRow.holds Try.pinned (OpenSpec.ofChange shiftBytesWrong)

/- THE SECOND FORM. 'bulk': how many values and letters a reading holds, each counted each time it is reached (what is shared counts as often as it is met; a slice's spare places count too). A statement '..UptoSaid' is the law's where the arguments, and the package variables that the reading takes, are together of bulk at most 1048576: NARROWER than '..Said'. Prove '..Said' where nothing that the law and all that it calls make is longer than what came in: it says more and counts as full. Else prove '..UptoSaid'. A law counts once. -/
mutual
def uptoBulk {H : Type} : DataW H → Nat
  | .lit (.string bytes) => bytes.length + 1
  | .lit _ => 1
  | .nil => 1
  | .ptr d => uptoBulk d + 1
  | .slice elems spare => uptoBulkAll elems + uptoBulkAll spare + 1
  | .agg parts => uptoBulkAll parts + 1
  | .iface _ d => uptoBulk d + 1
  | .map entries => uptoBulkEntries entries + 1
  | .held _ => 1
def uptoBulkAll {H : Type} : List (DataW H) → Nat
  | [] => 0
  | d :: r => uptoBulk d + uptoBulkAll r
def uptoBulkEntries {H : Type} : List (Lit × DataW H) → Nat
  | [] => 0
  | x :: r => uptoBulkEntry x + uptoBulkEntries r
def uptoBulkEntry {H : Type} : Lit × DataW H → Nat
  | (.string bytes, d) => bytes.length + uptoBulk d + 1
  | (_, d) => uptoBulk d + 1
 end
def uptoSmall : (H : Type) → List (DataW H) → Bool := fun _ ds => decide (uptoBulkAll ds ≤ 1048576)
def OpenSpec.upto (s : _root_.Go.ChangeSpec) : _root_.Go.OpenSpec := { _root_.Go.OpenSpec.ofChange s with cond := some uptoSmall }

/-- 'carousellaw01.ShiftMixes', WHERE WHAT IT READS IS OF BULK AT MOST 1048576: true; the input reads as it did. -/
def shiftMixesUptoRow : OpenClaim := { program := "ytdegladjmbllbaa", sum := "9ce00f9679eebfddb9ea25e3c6764f2d8f2e2cd82c7cca4f7f6934c0490be218", func := "carousel/carousellaw01.ShiftMixes", spec := "shiftMixes", apart := false, narrowed := true }
def ShiftMixesUptoSaid : Prop := shiftMixesUptoRow.holds Try.pinned (OpenSpec.upto shiftMixesSpec)

/-- 'carousellaw01.ShiftTurns', WHERE WHAT IT READS IS OF BULK AT MOST 1048576: true; the input reads as it did. -/
def shiftTurnsUptoRow : OpenClaim := { program := "ytdegladjmbllbaa", sum := "9ce00f9679eebfddb9ea25e3c6764f2d8f2e2cd82c7cca4f7f6934c0490be218", func := "carousel/carousellaw01.ShiftTurns", spec := "shiftTurns", apart := false, narrowed := true }
def ShiftTurnsUptoSaid : Prop := shiftTurnsUptoRow.holds Try.pinned (OpenSpec.upto shiftTurnsSpec)

/-- 'carousellaw01.ShiftHeads', WHERE WHAT IT READS IS OF BULK AT MOST 1048576: true; the input reads as it did. -/
def shiftHeadsUptoRow : OpenClaim := { program := "ytdegladjmbllbaa", sum := "9ce00f9679eebfddb9ea25e3c6764f2d8f2e2cd82c7cca4f7f6934c0490be218", func := "carousel/carousellaw01.ShiftHeads", spec := "shiftHeads", apart := false, narrowed := true }
def ShiftHeadsUptoSaid : Prop := shiftHeadsUptoRow.holds Try.pinned (OpenSpec.upto shiftHeadsSpec)

/-- 'carousellaw01.ShiftNarrows', WHERE WHAT IT READS IS OF BULK AT MOST 1048576: true; the input reads as it did. -/
def shiftNarrowsUptoRow : OpenClaim := { program := "ytdegladjmbllbaa", sum := "9ce00f9679eebfddb9ea25e3c6764f2d8f2e2cd82c7cca4f7f6934c0490be218", func := "carousel/carousellaw01.ShiftNarrows", spec := "shiftNarrows", apart := false, narrowed := true }
def ShiftNarrowsUptoSaid : Prop := shiftNarrowsUptoRow.holds Try.pinned (OpenSpec.upto shiftNarrowsSpec)

/-- 'carousellaw01.ShiftShifts', WHERE WHAT IT READS IS OF BULK AT MOST 1048576: true; the input reads as it did. -/
def shiftShiftsUptoRow : OpenClaim := { program := "ytdegladjmbllbaa", sum := "9ce00f9679eebfddb9ea25e3c6764f2d8f2e2cd82c7cca4f7f6934c0490be218", func := "carousel/carousellaw01.ShiftShifts", spec := "shiftShifts", apart := false, narrowed := true }
def ShiftShiftsUptoSaid : Prop := shiftShiftsUptoRow.holds Try.pinned (OpenSpec.upto shiftShiftsSpec)

/-- 'carousellaw01.ShiftBytes', WHERE WHAT IT READS IS OF BULK AT MOST 1048576: true; the input reads as it did. -/
def shiftBytesUptoRow : OpenClaim := { program := "ytdegladjmbllbaa", sum := "9ce00f9679eebfddb9ea25e3c6764f2d8f2e2cd82c7cca4f7f6934c0490be218", func := "carousel/carousellaw01.ShiftBytes", spec := "shiftBytes", apart := false, narrowed := true }
def ShiftBytesUptoSaid : Prop := shiftBytesUptoRow.holds Try.pinned (OpenSpec.upto shiftBytesSpec)

end Rows
end Go.Proofs.Ytdegladjmbllbaa
