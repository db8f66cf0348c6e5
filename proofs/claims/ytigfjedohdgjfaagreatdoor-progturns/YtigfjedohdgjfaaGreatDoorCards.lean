/-
  DERIVED. GIVEN WITH THE SEED: THE CARDS: each row of YtigfjedohdgjfaaGreatDoorRows.lean that lists a variable, with what it lists TIED to the program's text (the seventh form; the later family's looks); each row that meets fmt, with fmt's text TOLD by the authors' own Lean function (tested against real Go, not proved from fmt's source: count such statements apart). THE CARD IS WHAT COUNTS. Prove the row's statement (the work); the ties are given (YtigfjedohdgjfaaGreatDoorTie.lean); close each card by the builder's one call (the guide's Derived/Test/ToyasCard.lean, 'card_holds'). Laid BY PROGRAM, IN A SANDBOX (cutbox-door.mjs). By AI agents, Wed Nov 11 2026. No macro, syntax, notation, axiom, sorry.
-/
import Derived.Test.YtigfjedohdgjfaaGreatDoorRows
import GoSem.ClaimSeven
namespace Go.Proofs.YtigfjedohdgjfaaGreatDoor
namespace Rows

/-- THE TIED CARD OF 'carousellaw21.ProgWorks'. -/
def progWorksCard : Claim7 := { stood := { row := progWorksRow, standIns := [], harness := (true, "219753d0e017bd3c34a45956cedf33d86a1e17f5f56d8a3d09ad4d69ba19784f"), looks := true }, kinds := [], alts := [], laidByText := true, laidKinds := [.data, .data], laidTests := true, laidLooks := .later }
def ProgWorksCardSaid : Prop := Claim7.holds Tryz.pinned (.plain (OpenSpec.ofChange progWorksSpec)) progWorksCard

/-- THE TIED CARD OF 'carousellaw21.ProgTurns'. -/
def progTurnsCard : Claim7 := { stood := { row := progTurnsRow, standIns := [], harness := (true, "219753d0e017bd3c34a45956cedf33d86a1e17f5f56d8a3d09ad4d69ba19784f"), looks := true }, kinds := [], alts := [], laidByText := true, laidKinds := [.data, .data], laidTests := true, laidLooks := .later }
def ProgTurnsCardSaid : Prop := Claim7.holds Tryz.pinned (.plain (OpenSpec.ofChange progTurnsSpec)) progTurnsCard

/-- THE TIED CARD OF 'carousellaw21.ProgFaults'. -/
def progFaultsCard : Claim7 := { stood := { row := progFaultsRow, standIns := [], harness := (true, "219753d0e017bd3c34a45956cedf33d86a1e17f5f56d8a3d09ad4d69ba19784f"), looks := true }, kinds := [], alts := [], laidByText := true, laidKinds := [.data, .data], laidTests := true, laidLooks := .later }
def ProgFaultsCardSaid : Prop := Claim7.holds Tryz.pinned (.plain (OpenSpec.ofChange progFaultsSpec)) progFaultsCard

/-- THE SECOND FORM's CARD OF 'carousellaw21.ProgWorks'. -/
def progWorksUptoCard : Claim7 := { stood := { row := progWorksUptoRow, standIns := [], harness := (true, "219753d0e017bd3c34a45956cedf33d86a1e17f5f56d8a3d09ad4d69ba19784f"), looks := true }, kinds := [], alts := [], laidByText := true, laidKinds := [.data, .data], laidTests := true, laidLooks := .later }
def ProgWorksUptoCardSaid : Prop := Claim7.holds Tryz.pinned (.plain (OpenSpec.upto progWorksSpec)) progWorksUptoCard

/-- THE SECOND FORM's CARD OF 'carousellaw21.ProgTurns'. -/
def progTurnsUptoCard : Claim7 := { stood := { row := progTurnsUptoRow, standIns := [], harness := (true, "219753d0e017bd3c34a45956cedf33d86a1e17f5f56d8a3d09ad4d69ba19784f"), looks := true }, kinds := [], alts := [], laidByText := true, laidKinds := [.data, .data], laidTests := true, laidLooks := .later }
def ProgTurnsUptoCardSaid : Prop := Claim7.holds Tryz.pinned (.plain (OpenSpec.upto progTurnsSpec)) progTurnsUptoCard

/-- THE SECOND FORM's CARD OF 'carousellaw21.ProgFaults'. -/
def progFaultsUptoCard : Claim7 := { stood := { row := progFaultsUptoRow, standIns := [], harness := (true, "219753d0e017bd3c34a45956cedf33d86a1e17f5f56d8a3d09ad4d69ba19784f"), looks := true }, kinds := [], alts := [], laidByText := true, laidKinds := [.data, .data], laidTests := true, laidLooks := .later }
def ProgFaultsUptoCardSaid : Prop := Claim7.holds Tryz.pinned (.plain (OpenSpec.upto progFaultsSpec)) progFaultsUptoCard
end Rows
end Go.Proofs.YtigfjedohdgjfaaGreatDoor
