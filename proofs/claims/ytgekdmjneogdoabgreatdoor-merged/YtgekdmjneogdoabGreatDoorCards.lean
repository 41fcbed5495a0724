/-
  DERIVED. GIVEN WITH THE SEED: THE CARDS: each row of YtgekdmjneogdoabGreatDoorRows.lean that lists a variable, with what it lists TIED to the program's text (the seventh form; the later family's looks); each row that meets fmt, with fmt's text TOLD by the authors' own Lean function (tested against real Go, not proved from fmt's source: count such statements apart). THE CARD IS WHAT COUNTS. Prove the row's statement (the work); the ties are given (YtgekdmjneogdoabGreatDoorTie.lean); close each card by the builder's one call (the guide's Derived/Test/ToyasCard.lean, 'card_holds'). Laid BY PROGRAM, IN A SANDBOX (cutbox-door.mjs). By AI agents, Wed Nov 11 2026. No macro, syntax, notation, axiom, sorry.
-/
import Derived.Test.YtgekdmjneogdoabGreatDoorRows
import GoSem.ClaimSeven
namespace Go.Proofs.YtgekdmjneogdoabGreatDoor
namespace Rows

/-- THE TIED CARD OF 'gaugekeep.Merged'. -/
def mergedCard : Claim7 := { stood := { row := mergedRow, standIns := [], harness := (true, "4b04767e0ce6b3767c7d9085a488fda1ffb1576eae074a6067f97fe99ce9a951"), looks := true }, kinds := [], alts := [], goes := true, laidByText := true, laidKinds := [.data, .data, .widerDeep, .widerDeep, .data, .data, .data, .data, .data, .sentinel, .sentinel, .data, .pinned, .pinned], laidTests := true, laidLooks := .later }
def MergedCardSaid : Prop := Claim7.holds Tryz.pinned (.plain (OpenSpec.ofChange mergedSpec)) mergedCard

/-- THE TIED CARD OF 'gaugekeep.Steered'. -/
def steeredCard : Claim7 := { stood := { row := steeredRow, standIns := [], harness := (true, "4b04767e0ce6b3767c7d9085a488fda1ffb1576eae074a6067f97fe99ce9a951"), looks := true }, kinds := [], alts := [], goes := true, laidByText := true, laidKinds := [.data, .data, .widerDeep, .widerDeep, .data, .data, .data, .data, .data, .sentinel, .sentinel, .data, .pinned, .pinned], laidTests := true, laidLooks := .later }
def SteeredCardSaid : Prop := Claim7.holds Tryz.pinned (.plain (OpenSpec.ofChange steeredSpec)) steeredCard

/-- THE TIED CARD OF 'gaugelaw.All'. -/
def allCard : Claim7 := { stood := { row := allRow, standIns := [], harness := (true, "4b04767e0ce6b3767c7d9085a488fda1ffb1576eae074a6067f97fe99ce9a951"), looks := true }, kinds := [], alts := [], goes := true, laidByText := true, laidKinds := [.data, .data, .widerDeep, .widerDeep, .data, .data, .data, .data, .data, .sentinel, .sentinel, .data, .pinned, .pinned], laidTests := true, laidLooks := .later }
def AllCardSaid : Prop := Claim7.holds Tryz.pinned (.plain (OpenSpec.ofChange allSpec)) allCard

/-- THE SECOND FORM's CARD OF 'gaugekeep.Merged'. -/
def mergedUptoCard : Claim7 := { stood := { row := mergedUptoRow, standIns := [], harness := (true, "4b04767e0ce6b3767c7d9085a488fda1ffb1576eae074a6067f97fe99ce9a951"), looks := true }, kinds := [], alts := [], goes := true, laidByText := true, laidKinds := [.data, .data, .widerDeep, .widerDeep, .data, .data, .data, .data, .data, .sentinel, .sentinel, .data, .pinned, .pinned], laidTests := true, laidLooks := .later }
def MergedUptoCardSaid : Prop := Claim7.holds Tryz.pinned (.plain (OpenSpec.upto mergedSpec)) mergedUptoCard

/-- THE SECOND FORM's CARD OF 'gaugekeep.Steered'. -/
def steeredUptoCard : Claim7 := { stood := { row := steeredUptoRow, standIns := [], harness := (true, "4b04767e0ce6b3767c7d9085a488fda1ffb1576eae074a6067f97fe99ce9a951"), looks := true }, kinds := [], alts := [], goes := true, laidByText := true, laidKinds := [.data, .data, .widerDeep, .widerDeep, .data, .data, .data, .data, .data, .sentinel, .sentinel, .data, .pinned, .pinned], laidTests := true, laidLooks := .later }
def SteeredUptoCardSaid : Prop := Claim7.holds Tryz.pinned (.plain (OpenSpec.upto steeredSpec)) steeredUptoCard

/-- THE SECOND FORM's CARD OF 'gaugelaw.All'. -/
def allUptoCard : Claim7 := { stood := { row := allUptoRow, standIns := [], harness := (true, "4b04767e0ce6b3767c7d9085a488fda1ffb1576eae074a6067f97fe99ce9a951"), looks := true }, kinds := [], alts := [], goes := true, laidByText := true, laidKinds := [.data, .data, .widerDeep, .widerDeep, .data, .data, .data, .data, .data, .sentinel, .sentinel, .data, .pinned, .pinned], laidTests := true, laidLooks := .later }
def AllUptoCardSaid : Prop := Claim7.holds Tryz.pinned (.plain (OpenSpec.upto allSpec)) allUptoCard
end Rows
end Go.Proofs.YtgekdmjneogdoabGreatDoor
