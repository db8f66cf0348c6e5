/-
  DERIVED. GIVEN WITH THE SEED: THE CARDS: each row of YtbpnookejildnaaDoorRows.lean that lists a variable, with what it lists TIED to the program's text (the seventh form; the later family's looks); each row that meets fmt, with fmt's text TOLD by the authors' own Lean function (tested against real Go, not proved from fmt's source: count such statements apart). THE CARD IS WHAT COUNTS. Prove the row's statement (the work); the ties are given (YtbpnookejildnaaDoorTie.lean); close each card by the builder's one call (the guide's Derived/Test/ToyasCard.lean, 'card_holds'). Laid BY PROGRAM, IN A SANDBOX (cutbox-door.mjs). By AI agents, Wed Nov 11 2026. No macro, syntax, notation, axiom, sorry.
-/
import Derived.Test.YtbpnookejildnaaDoorRows
import GoSem.ClaimSeven
namespace Go.Proofs.YtbpnookejildnaaDoor
namespace Rows

/-- THE TIED CARD OF 'carousellaw23.HistoryTxs'. -/
def historyTxsCard : Claim7 := { stood := { row := historyTxsRow, standIns := [], harness := (true, "cff7c6c2f937f2c8d701d2e95ed6cefe01d7822c7c403e708e521f25f9d8b768"), looks := true }, kinds := [], alts := [], laidByText := true, laidKinds := [.handle, .sentinel, .sentinel], laidTests := true, laidLooks := .later }
def HistoryTxsCardSaid : Prop := Claim7.holds Tryd.pinned (.plain (OpenSpec.ofChange historyTxsSpec)) historyTxsCard

/-- THE TIED CARD OF 'carousellaw23.HistoryOrders'. -/
def historyOrdersCard : Claim7 := { stood := { row := historyOrdersRow, standIns := [], harness := (true, "cff7c6c2f937f2c8d701d2e95ed6cefe01d7822c7c403e708e521f25f9d8b768"), looks := true }, kinds := [], alts := [], laidByText := true, laidKinds := [.handle, .sentinel, .sentinel], laidTests := true, laidLooks := .later }
def HistoryOrdersCardSaid : Prop := Claim7.holds Tryd.pinned (.plain (OpenSpec.ofChange historyOrdersSpec)) historyOrdersCard

/-- THE TIED CARD OF 'carousellaw23.HistoryHolds'. -/
def historyHoldsCard : Claim7 := { stood := { row := historyHoldsRow, standIns := [], harness := (true, "cff7c6c2f937f2c8d701d2e95ed6cefe01d7822c7c403e708e521f25f9d8b768"), looks := true }, kinds := [], alts := [], laidByText := true, laidKinds := [.handle, .sentinel, .sentinel], laidTests := true, laidLooks := .later }
def HistoryHoldsCardSaid : Prop := Claim7.holds Tryd.pinned (.plain (OpenSpec.ofChange historyHoldsSpec)) historyHoldsCard

/-- THE TIED CARD OF 'carousellaw23.HistoryEnds'. -/
def historyEndsCard : Claim7 := { stood := { row := historyEndsRow, standIns := [], harness := (true, "cff7c6c2f937f2c8d701d2e95ed6cefe01d7822c7c403e708e521f25f9d8b768"), looks := true }, kinds := [], alts := [], laidByText := true, laidKinds := [.handle, .sentinel, .sentinel], laidTests := true, laidLooks := .later }
def HistoryEndsCardSaid : Prop := Claim7.holds Tryd.pinned (.plain (OpenSpec.ofChange historyEndsSpec)) historyEndsCard

/-- THE SECOND FORM's CARD OF 'carousellaw23.HistoryTxs'. -/
def historyTxsUptoCard : Claim7 := { stood := { row := historyTxsUptoRow, standIns := [], harness := (true, "cff7c6c2f937f2c8d701d2e95ed6cefe01d7822c7c403e708e521f25f9d8b768"), looks := true }, kinds := [], alts := [], laidByText := true, laidKinds := [.handle, .sentinel, .sentinel], laidTests := true, laidLooks := .later }
def HistoryTxsUptoCardSaid : Prop := Claim7.holds Tryd.pinned (.plain (OpenSpec.upto historyTxsSpec)) historyTxsUptoCard

/-- THE SECOND FORM's CARD OF 'carousellaw23.HistoryOrders'. -/
def historyOrdersUptoCard : Claim7 := { stood := { row := historyOrdersUptoRow, standIns := [], harness := (true, "cff7c6c2f937f2c8d701d2e95ed6cefe01d7822c7c403e708e521f25f9d8b768"), looks := true }, kinds := [], alts := [], laidByText := true, laidKinds := [.handle, .sentinel, .sentinel], laidTests := true, laidLooks := .later }
def HistoryOrdersUptoCardSaid : Prop := Claim7.holds Tryd.pinned (.plain (OpenSpec.upto historyOrdersSpec)) historyOrdersUptoCard

/-- THE SECOND FORM's CARD OF 'carousellaw23.HistoryHolds'. -/
def historyHoldsUptoCard : Claim7 := { stood := { row := historyHoldsUptoRow, standIns := [], harness := (true, "cff7c6c2f937f2c8d701d2e95ed6cefe01d7822c7c403e708e521f25f9d8b768"), looks := true }, kinds := [], alts := [], laidByText := true, laidKinds := [.handle, .sentinel, .sentinel], laidTests := true, laidLooks := .later }
def HistoryHoldsUptoCardSaid : Prop := Claim7.holds Tryd.pinned (.plain (OpenSpec.upto historyHoldsSpec)) historyHoldsUptoCard

/-- THE SECOND FORM's CARD OF 'carousellaw23.HistoryEnds'. -/
def historyEndsUptoCard : Claim7 := { stood := { row := historyEndsUptoRow, standIns := [], harness := (true, "cff7c6c2f937f2c8d701d2e95ed6cefe01d7822c7c403e708e521f25f9d8b768"), looks := true }, kinds := [], alts := [], laidByText := true, laidKinds := [.handle, .sentinel, .sentinel], laidTests := true, laidLooks := .later }
def HistoryEndsUptoCardSaid : Prop := Claim7.holds Tryd.pinned (.plain (OpenSpec.upto historyEndsSpec)) historyEndsUptoCard
end Rows
end Go.Proofs.YtbpnookejildnaaDoor
