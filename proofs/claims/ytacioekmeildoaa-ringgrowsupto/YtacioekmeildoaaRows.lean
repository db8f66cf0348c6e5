/-
  No cell of these rows narrows 'for every input' (looked for: loops, veiled, ifaces, maps, wideKeys, modest, calm, conditions, laid).
  DERIVED. THE GIVEN ROWS OF THIS SEAT. 4 by the template 'for every input the law returns true; each argument reads behind the call as it read before'; 0 by the template 'total and deterministic' (their statements: YtacioekmeildoaaTotals.lean).
  GIVEN WITH THE SEED: the statements are not yours to turn. If you find one false, say at which input.
  Laid BY PROGRAM, IN A SANDBOX (cutbox-rows.mjs): the forced cells as the released guide's own fill.sh prints them over the translation b01214602ad12a2a… (all of the seat's roots in one cut). By AI agents, Wed Nov 11 2026. No macro, syntax, notation, axiom, sorry.
-/
import Derived.Test.YtacioekmeildoaaChecked
import GoSem.Claim
import GoSem.ClaimJoined
import GoSem.ClaimMapViews
import Derived.JoinedTies
import Derived.KernelRfl
namespace Go.Proofs.Ytacioekmeildoaa
/- THE CELL 'sum', in the pinned program and in every row, IS THE sha256 OF THE DUMP (.gsa) THAT YtacioekmeildoaaProg.lean LOADS. Nothing in Lean hashes anything: it is a label: what it is worth is what the hold of that sum in a sandbox is worth. -/
noncomputable def Try.pinned : Pinned := { name := "ytacioekmeildoaa", sum := "b01214602ad12a2ab9fb106fb55ba935f1cf040547a74f13d1e740a96da3153d", checked := Try.checked }
namespace Rows
def none {H : Type} : Left H := { results := [], args := [] }

/-- 'carousellaw04.RingSlots': WHATEVER THE INPUT: true; the input reads as it did. -/
def ringSlotsSpec : ChangeSpec := { name := "ringSlots", fn := fun _ => fun
  | [d1, d2] => { results := [.lit (.bool true)], args := [d1, d2] }
  | _ => none }
def ringSlotsRow : OpenClaim := { program := "ytacioekmeildoaa", sum := "b01214602ad12a2ab9fb106fb55ba935f1cf040547a74f13d1e740a96da3153d", func := "carousel/carousellaw04.RingSlots", spec := "ringSlots", apart := false }
def RingSlotsSaid : Prop := ringSlotsRow.holds Try.pinned (OpenSpec.ofChange ringSlotsSpec)

/-- ITS FALSE NEIGHBOUR: 'it returns false'. Refute it at one input. -/
def ringSlotsWrong : ChangeSpec := { name := "ringSlots", fn := fun _ => fun
  | [d1, d2] => { results := [.lit (.bool false)], args := [d1, d2] }
  | _ => none }
def RingSlotsWrongFalsely : Prop := ringSlotsRow.holds Try.pinned (OpenSpec.ofChange ringSlotsWrong)

/-- 'carousellaw04.RingHeads': WHATEVER THE INPUT: true; the input reads as it did. -/
def ringHeadsSpec : ChangeSpec := { name := "ringHeads", fn := fun _ => fun
  | [d1, d2, d3] => { results := [.lit (.bool true)], args := [d1, d2, d3] }
  | _ => none }
def ringHeadsRow : OpenClaim := { program := "ytacioekmeildoaa", sum := "b01214602ad12a2ab9fb106fb55ba935f1cf040547a74f13d1e740a96da3153d", func := "carousel/carousellaw04.RingHeads", spec := "ringHeads", apart := false }
def RingHeadsSaid : Prop := ringHeadsRow.holds Try.pinned (OpenSpec.ofChange ringHeadsSpec)

/-- ITS FALSE NEIGHBOUR: 'it returns false'. Refute it at one input. -/
def ringHeadsWrong : ChangeSpec := { name := "ringHeads", fn := fun _ => fun
  | [d1, d2, d3] => { results := [.lit (.bool false)], args := [d1, d2, d3] }
  | _ => none }
def RingHeadsWrongFalsely : Prop := ringHeadsRow.holds Try.pinned (OpenSpec.ofChange ringHeadsWrong)

/-- 'carousellaw04.RingSees': WHATEVER THE INPUT: true; the input reads as it did. -/
def ringSeesSpec : ChangeSpec := { name := "ringSees", fn := fun _ => fun
  | [d1, d2, d3] => { results := [.lit (.bool true)], args := [d1, d2, d3] }
  | _ => none }
def ringSeesRow : OpenClaim := { program := "ytacioekmeildoaa", sum := "b01214602ad12a2ab9fb106fb55ba935f1cf040547a74f13d1e740a96da3153d", func := "carousel/carousellaw04.RingSees", spec := "ringSees", unfollowed := true, recurses := true, apart := false }
def RingSeesSaid : Prop := ringSeesRow.holds Try.pinned (OpenSpec.ofChange ringSeesSpec)

/-- ITS FALSE NEIGHBOUR: 'it returns false'. Refute it at one input. -/
def ringSeesWrong : ChangeSpec := { name := "ringSees", fn := fun _ => fun
  | [d1, d2, d3] => { results := [.lit (.bool false)], args := [d1, d2, d3] }
  | _ => none }
def RingSeesWrongFalsely : Prop := ringSeesRow.holds Try.pinned (OpenSpec.ofChange ringSeesWrong)

/-- 'carousellaw04.RingGrows': WHATEVER THE INPUT: true; the input reads as it did. -/
def ringGrowsSpec : ChangeSpec := { name := "ringGrows", fn := fun _ => fun
  | [d1, d2] => { results := [.lit (.bool true)], args := [d1, d2] }
  | _ => none }
def ringGrowsRow : OpenClaim := { program := "ytacioekmeildoaa", sum := "b01214602ad12a2ab9fb106fb55ba935f1cf040547a74f13d1e740a96da3153d", func := "carousel/carousellaw04.RingGrows", spec := "ringGrows", unfollowed := true, recurses := true, apart := false }
def RingGrowsSaid : Prop := ringGrowsRow.holds Try.pinned (OpenSpec.ofChange ringGrowsSpec)

/-- ITS FALSE NEIGHBOUR: 'it returns false'. Refute it at one input. -/
def ringGrowsWrong : ChangeSpec := { name := "ringGrows", fn := fun _ => fun
  | [d1, d2] => { results := [.lit (.bool false)], args := [d1, d2] }
  | _ => none }
def RingGrowsWrongFalsely : Prop := ringGrowsRow.holds Try.pinned (OpenSpec.ofChange ringGrowsWrong)

/- THE SECOND FORM. 'bulk': how many values and letters a reading holds, each counted each time it is reached (what is shared counts as often as it is met; a slice's spare places count too). A statement '..UptoSaid' is the law's where the arguments, and the package variables that the reading takes, are together of bulk at most 1048576: NARROWER than '..Said'. Prove '..Said' where nothing that the law and all that it calls make is longer than what came in: it says more and counts as full. Else prove '..UptoSaid'. A law counts once. -/
mutual
def uptoBulk {H : Type} : DataW H → Nat
  | .lit (.string bytes) => bytes.length + 1
  | .lit _ => 1
  | .nil => 1
  | .ptr d => uptoBulk d + 1
  | .slice elems spare => uptoBulkAll elems + uptoBulkAll spare + 1
  | .agg parts => uptoBulkAll parts + 1
  | .iface _ d => uptoBulk d + 1
  | .map entries => uptoBulkEntries entries + 1
  | .held _ => 1
def uptoBulkAll {H : Type} : List (DataW H) → Nat
  | [] => 0
  | d :: r => uptoBulk d + uptoBulkAll r
def uptoBulkEntries {H : Type} : List (Lit × DataW H) → Nat
  | [] => 0
  | x :: r => uptoBulkEntry x + uptoBulkEntries r
def uptoBulkEntry {H : Type} : Lit × DataW H → Nat
  | (.string bytes, d) => bytes.length + uptoBulk d + 1
  | (_, d) => uptoBulk d + 1
 end
def uptoSmall : (H : Type) → List (DataW H) → Bool := fun _ ds => decide (uptoBulkAll ds ≤ 1048576)
def OpenSpec.upto (s : _root_.Go.ChangeSpec) : _root_.Go.OpenSpec := { _root_.Go.OpenSpec.ofChange s with cond := some uptoSmall }

/-- 'carousellaw04.RingSlots', WHERE WHAT IT READS IS OF BULK AT MOST 1048576: true; the input reads as it did. -/
def ringSlotsUptoRow : OpenClaim := { program := "ytacioekmeildoaa", sum := "b01214602ad12a2ab9fb106fb55ba935f1cf040547a74f13d1e740a96da3153d", func := "carousel/carousellaw04.RingSlots", spec := "ringSlots", apart := false, narrowed := true }
def RingSlotsUptoSaid : Prop := ringSlotsUptoRow.holds Try.pinned (OpenSpec.upto ringSlotsSpec)

/-- 'carousellaw04.RingHeads', WHERE WHAT IT READS IS OF BULK AT MOST 1048576: true; the input reads as it did. -/
def ringHeadsUptoRow : OpenClaim := { program := "ytacioekmeildoaa", sum := "b01214602ad12a2ab9fb106fb55ba935f1cf040547a74f13d1e740a96da3153d", func := "carousel/carousellaw04.RingHeads", spec := "ringHeads", apart := false, narrowed := true }
def RingHeadsUptoSaid : Prop := ringHeadsUptoRow.holds Try.pinned (OpenSpec.upto ringHeadsSpec)

/-- 'carousellaw04.RingSees', WHERE WHAT IT READS IS OF BULK AT MOST 1048576: true; the input reads as it did. -/
def ringSeesUptoRow : OpenClaim := { program := "ytacioekmeildoaa", sum := "b01214602ad12a2ab9fb106fb55ba935f1cf040547a74f13d1e740a96da3153d", func := "carousel/carousellaw04.RingSees", spec := "ringSees", unfollowed := true, recurses := true, apart := false, narrowed := true }
def RingSeesUptoSaid : Prop := ringSeesUptoRow.holds Try.pinned (OpenSpec.upto ringSeesSpec)

/-- 'carousellaw04.RingGrows', WHERE WHAT IT READS IS OF BULK AT MOST 1048576: true; the input reads as it did. -/
def ringGrowsUptoRow : OpenClaim := { program := "ytacioekmeildoaa", sum := "b01214602ad12a2ab9fb106fb55ba935f1cf040547a74f13d1e740a96da3153d", func := "carousel/carousellaw04.RingGrows", spec := "ringGrows", unfollowed := true, recurses := true, apart := false, narrowed := true }
def RingGrowsUptoSaid : Prop := ringGrowsUptoRow.holds Try.pinned (OpenSpec.upto ringGrowsSpec)

end Rows
end Go.Proofs.Ytacioekmeildoaa
