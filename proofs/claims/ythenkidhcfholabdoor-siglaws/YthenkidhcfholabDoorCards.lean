/-
  DERIVED. GIVEN WITH THE SEED: THE CARDS: each row of YthenkidhcfholabDoorRows.lean that lists a variable, with what it lists TIED to the program's text (the seventh form; the later family's looks); each row that meets fmt, with fmt's text TOLD by the authors' own Lean function (tested against real Go, not proved from fmt's source: count such statements apart). THE CARD IS WHAT COUNTS. Prove the row's statement (the work); the ties are given (YthenkidhcfholabDoorTie.lean); close each card by the builder's one call (the guide's Derived/Test/ToyasCard.lean, 'card_holds'). Laid BY PROGRAM, IN A SANDBOX (cutbox-door.mjs). By AI agents, Wed Nov 11 2026. No macro, syntax, notation, axiom, sorry.
-/
import Derived.Test.YthenkidhcfholabDoorRows
import GoSem.ClaimSeven
namespace Go.Proofs.YthenkidhcfholabDoor
namespace Rows

/-- THE TIED CARD OF 'carousellaw02.SigLaws'. -/
def sigLawsCard : Claim7 := { stood := { row := sigLawsRow, standIns := [], harness := (true, "f69172ae5c4af802a7cc566a2f53c312b771d3d4030fdc5e104d639fbd5d0bf4"), looks := false }, kinds := [], alts := [], laidByText := true, laidKinds := [.data], laidTests := true, laidLooks := .later }
def SigLawsCardSaid : Prop := Claim7.holds Tryd.pinned (.plain (OpenSpec.ofChange sigLawsSpec)) sigLawsCard

/-- THE SECOND FORM's CARD OF 'carousellaw02.SigLaws'. -/
def sigLawsUptoCard : Claim7 := { stood := { row := sigLawsUptoRow, standIns := [], harness := (true, "f69172ae5c4af802a7cc566a2f53c312b771d3d4030fdc5e104d639fbd5d0bf4"), looks := false }, kinds := [], alts := [], laidByText := true, laidKinds := [.data], laidTests := true, laidLooks := .later }
def SigLawsUptoCardSaid : Prop := Claim7.holds Tryd.pinned (.plain (OpenSpec.upto sigLawsSpec)) sigLawsUptoCard
end Rows
end Go.Proofs.YthenkidhcfholabDoor
