/-
  DERIVED. GIVEN WITH THE SEED: THE CARDS: each row of YtfkbpmahedmbhabDoorRows.lean that lists a variable, with what it lists TIED to the program's text (the seventh form; the later family's looks); each row that meets fmt, with fmt's text TOLD by the authors' own Lean function (tested against real Go, not proved from fmt's source: count such statements apart). THE CARD IS WHAT COUNTS. Prove the row's statement (the work); the ties are given (YtfkbpmahedmbhabDoorTie.lean); close each card by the builder's one call (the guide's Derived/Test/ToyasCard.lean, 'card_holds'). Laid BY PROGRAM, IN A SANDBOX (cutbox-door.mjs). By AI agents, Wed Nov 11 2026. No macro, syntax, notation, axiom, sorry.
-/
import Derived.Test.YtfkbpmahedmbhabDoorRows
import GoSem.ClaimSeven
namespace Go.Proofs.YtfkbpmahedmbhabDoor
namespace Rows

/-- THE TIED CARD OF 'carousellaw13.CodeWalks'. -/
def codeWalksCard : Claim7 := { stood := { row := codeWalksRow, standIns := [], harness := (true, "9325f51bf60026f7647e1651189568de52a8481a22dc527c8da044004b5110d5"), looks := false }, kinds := [], alts := [], laidByText := true, laidKinds := [.data, .data], laidTests := true, laidLooks := .later }
def CodeWalksCardSaid : Prop := Claim7.holds Tryd.pinned (.plain (OpenSpec.ofChange codeWalksSpec)) codeWalksCard

/-- THE TIED CARD OF 'carousellaw13.CodeOwns'. -/
def codeOwnsCard : Claim7 := { stood := { row := codeOwnsRow, standIns := [], harness := (true, "9325f51bf60026f7647e1651189568de52a8481a22dc527c8da044004b5110d5"), looks := false }, kinds := [], alts := [], laidByText := true, laidKinds := [.data, .data], laidTests := true, laidLooks := .later }
def CodeOwnsCardSaid : Prop := Claim7.holds Tryd.pinned (.plain (OpenSpec.ofChange codeOwnsSpec)) codeOwnsCard

/-- THE SECOND FORM's CARD OF 'carousellaw13.CodeWalks'. -/
def codeWalksUptoCard : Claim7 := { stood := { row := codeWalksUptoRow, standIns := [], harness := (true, "9325f51bf60026f7647e1651189568de52a8481a22dc527c8da044004b5110d5"), looks := false }, kinds := [], alts := [], laidByText := true, laidKinds := [.data, .data], laidTests := true, laidLooks := .later }
def CodeWalksUptoCardSaid : Prop := Claim7.holds Tryd.pinned (.plain (OpenSpec.upto codeWalksSpec)) codeWalksUptoCard

/-- THE SECOND FORM's CARD OF 'carousellaw13.CodeOwns'. -/
def codeOwnsUptoCard : Claim7 := { stood := { row := codeOwnsUptoRow, standIns := [], harness := (true, "9325f51bf60026f7647e1651189568de52a8481a22dc527c8da044004b5110d5"), looks := false }, kinds := [], alts := [], laidByText := true, laidKinds := [.data, .data], laidTests := true, laidLooks := .later }
def CodeOwnsUptoCardSaid : Prop := Claim7.holds Tryd.pinned (.plain (OpenSpec.upto codeOwnsSpec)) codeOwnsUptoCard
end Rows
end Go.Proofs.YtfkbpmahedmbhabDoor
