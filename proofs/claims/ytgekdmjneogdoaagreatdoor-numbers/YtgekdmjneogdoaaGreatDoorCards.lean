/-
  DERIVED. GIVEN WITH THE SEED: THE CARDS: each row of YtgekdmjneogdoaaGreatDoorRows.lean that lists a variable, with what it lists TIED to the program's text (the seventh form; the later family's looks); each row that meets fmt, with fmt's text TOLD by the authors' own Lean function (tested against real Go, not proved from fmt's source: count such statements apart). THE CARD IS WHAT COUNTS. Prove the row's statement (the work); the ties are given (YtgekdmjneogdoaaGreatDoorTie.lean); close each card by the builder's one call (the guide's Derived/Test/ToyasCard.lean, 'card_holds'). Laid BY PROGRAM, IN A SANDBOX (cutbox-door.mjs). By AI agents, Wed Nov 11 2026. No macro, syntax, notation, axiom, sorry.
-/
import Derived.Test.YtgekdmjneogdoaaGreatDoorRows
import GoSem.ClaimSeven
namespace Go.Proofs.YtgekdmjneogdoaaGreatDoor
namespace Rows

/-- THE TIED CARD OF 'gaugelaw.Numbers'. -/
def numbersCard : Claim7 := { stood := { row := numbersRow, standIns := [], harness := (true, "82654edb4c2037416ea56924d729280047440ff321e32f583ba947b6a98e595c"), looks := true }, kinds := [], alts := [], goes := true, laidByText := true, laidKinds := [.data, .data, .widerDeep, .widerDeep, .data, .data, .data, .data, .data, .sentinel, .sentinel, .data, .pinned, .pinned], laidTests := true, laidLooks := .later }
def NumbersCardSaid : Prop := Claim7.holds Tryz.pinned (.plain (OpenSpec.ofChange numbersSpec)) numbersCard

/-- THE TIED CARD OF 'gaugelaw.Meters'. -/
def metersCard : Claim7 := { stood := { row := metersRow, standIns := [], harness := (true, "82654edb4c2037416ea56924d729280047440ff321e32f583ba947b6a98e595c"), looks := true }, kinds := [], alts := [], goes := true, laidByText := true, laidKinds := [.data, .data, .widerDeep, .widerDeep, .data, .data, .data, .data, .data, .sentinel, .sentinel, .data, .pinned, .pinned], laidTests := true, laidLooks := .later }
def MetersCardSaid : Prop := Claim7.holds Tryz.pinned (.plain (OpenSpec.ofChange metersSpec)) metersCard

/-- THE TIED CARD OF 'gaugekeep.Back'. -/
def backCard : Claim7 := { stood := { row := backRow, standIns := [], harness := (true, "82654edb4c2037416ea56924d729280047440ff321e32f583ba947b6a98e595c"), looks := true }, kinds := [], alts := [], goes := true, laidByText := true, laidKinds := [.data, .data, .widerDeep, .widerDeep, .data, .data, .data, .data, .data, .sentinel, .sentinel, .data, .pinned, .pinned], laidTests := true, laidLooks := .later }
def BackCardSaid : Prop := Claim7.holds Tryz.pinned (.plain (OpenSpec.ofChange backSpec)) backCard

/-- THE TIED CARD OF 'gaugekeep.Ordered'. -/
def orderedCard : Claim7 := { stood := { row := orderedRow, standIns := [], harness := (true, "82654edb4c2037416ea56924d729280047440ff321e32f583ba947b6a98e595c"), looks := true }, kinds := [], alts := [], goes := true, laidByText := true, laidKinds := [.data, .data, .widerDeep, .widerDeep, .data, .data, .data, .data, .data, .sentinel, .sentinel, .data, .pinned, .pinned], laidTests := true, laidLooks := .later }
def OrderedCardSaid : Prop := Claim7.holds Tryz.pinned (.plain (OpenSpec.ofChange orderedSpec)) orderedCard

/-- THE TIED CARD OF 'gaugekeep.Spelled'. -/
def spelledCard : Claim7 := { stood := { row := spelledRow, standIns := [], harness := (true, "82654edb4c2037416ea56924d729280047440ff321e32f583ba947b6a98e595c"), looks := true }, kinds := [], alts := [], goes := true, laidByText := true, laidKinds := [.data, .data, .widerDeep, .widerDeep, .data, .data, .data, .data, .data, .sentinel, .sentinel, .data, .pinned, .pinned], laidTests := true, laidLooks := .later }
def SpelledCardSaid : Prop := Claim7.holds Tryz.pinned (.plain (OpenSpec.ofChange spelledSpec)) spelledCard

/-- THE TIED CARD OF 'gaugekeep.Small'. -/
def smallCard : Claim7 := { stood := { row := smallRow, standIns := [], harness := (true, "82654edb4c2037416ea56924d729280047440ff321e32f583ba947b6a98e595c"), looks := true }, kinds := [], alts := [], goes := true, laidByText := true, laidKinds := [.data, .data, .widerDeep, .widerDeep, .data, .data, .data, .data, .data, .sentinel, .sentinel, .data, .pinned, .pinned], laidTests := true, laidLooks := .later }
def SmallCardSaid : Prop := Claim7.holds Tryz.pinned (.plain (OpenSpec.ofChange smallSpec)) smallCard

/-- THE TIED CARD OF 'gaugekeep.Canonical'. -/
def canonicalCard : Claim7 := { stood := { row := canonicalRow, standIns := [], harness := (true, "82654edb4c2037416ea56924d729280047440ff321e32f583ba947b6a98e595c"), looks := true }, kinds := [], alts := [], goes := true, laidByText := true, laidKinds := [.data, .data, .widerDeep, .widerDeep, .data, .data, .data, .data, .data, .sentinel, .sentinel, .data, .pinned, .pinned], laidTests := true, laidLooks := .later }
def CanonicalCardSaid : Prop := Claim7.holds Tryz.pinned (.plain (OpenSpec.ofChange canonicalSpec)) canonicalCard

/-- THE TIED CARD OF 'gaugekeep.Bounds'. -/
def boundsCard : Claim7 := { stood := { row := boundsRow, standIns := [], harness := (true, "82654edb4c2037416ea56924d729280047440ff321e32f583ba947b6a98e595c"), looks := true }, kinds := [], alts := [], goes := true, laidByText := true, laidKinds := [.data, .data, .widerDeep, .widerDeep, .data, .data, .data, .data, .data, .sentinel, .sentinel, .data, .pinned, .pinned], laidTests := true, laidLooks := .later }
def BoundsCardSaid : Prop := Claim7.holds Tryz.pinned (.plain (OpenSpec.ofChange boundsSpec)) boundsCard

/-- THE TIED CARD OF 'gaugekeep.Rising'. -/
def risingCard : Claim7 := { stood := { row := risingRow, standIns := [], harness := (true, "82654edb4c2037416ea56924d729280047440ff321e32f583ba947b6a98e595c"), looks := true }, kinds := [], alts := [], goes := true, laidByText := true, laidKinds := [.data, .data, .widerDeep, .widerDeep, .data, .data, .data, .data, .data, .sentinel, .sentinel, .data, .pinned, .pinned], laidTests := true, laidLooks := .later }
def RisingCardSaid : Prop := Claim7.holds Tryz.pinned (.plain (OpenSpec.ofChange risingSpec)) risingCard

/-- THE TIED CARD OF 'gaugekeep.Forgotten'. -/
def forgottenCard : Claim7 := { stood := { row := forgottenRow, standIns := [], harness := (true, "82654edb4c2037416ea56924d729280047440ff321e32f583ba947b6a98e595c"), looks := true }, kinds := [], alts := [], goes := true, laidByText := true, laidKinds := [.data, .data, .widerDeep, .widerDeep, .data, .data, .data, .data, .data, .sentinel, .sentinel, .data, .pinned, .pinned], laidTests := true, laidLooks := .later }
def ForgottenCardSaid : Prop := Claim7.holds Tryz.pinned (.plain (OpenSpec.ofChange forgottenSpec)) forgottenCard

/-- THE TIED CARD OF 'gaugelaw.Chunks'. -/
def chunksCard : Claim7 := { stood := { row := chunksRow, standIns := [], harness := (true, "82654edb4c2037416ea56924d729280047440ff321e32f583ba947b6a98e595c"), looks := true }, kinds := [], alts := [], goes := true, laidByText := true, laidKinds := [.data, .data, .widerDeep, .widerDeep, .data, .data, .data, .data, .data, .sentinel, .sentinel, .data, .pinned, .pinned], laidTests := true, laidLooks := .later }
def ChunksCardSaid : Prop := Claim7.holds Tryz.pinned (.plain (OpenSpec.ofChange chunksSpec)) chunksCard

/-- THE TIED CARD OF 'gaugekeep.Packed'. -/
def packedCard : Claim7 := { stood := { row := packedRow, standIns := [], harness := (true, "82654edb4c2037416ea56924d729280047440ff321e32f583ba947b6a98e595c"), looks := true }, kinds := [], alts := [], goes := true, laidByText := true, laidKinds := [.data, .data, .widerDeep, .widerDeep, .data, .data, .data, .data, .data, .sentinel, .sentinel, .data, .pinned, .pinned], laidTests := true, laidLooks := .later }
def PackedCardSaid : Prop := Claim7.holds Tryz.pinned (.plain (OpenSpec.ofChange packedSpec)) packedCard

/-- THE SECOND FORM's CARD OF 'gaugelaw.Numbers'. -/
def numbersUptoCard : Claim7 := { stood := { row := numbersUptoRow, standIns := [], harness := (true, "82654edb4c2037416ea56924d729280047440ff321e32f583ba947b6a98e595c"), looks := true }, kinds := [], alts := [], goes := true, laidByText := true, laidKinds := [.data, .data, .widerDeep, .widerDeep, .data, .data, .data, .data, .data, .sentinel, .sentinel, .data, .pinned, .pinned], laidTests := true, laidLooks := .later }
def NumbersUptoCardSaid : Prop := Claim7.holds Tryz.pinned (.plain (OpenSpec.upto numbersSpec)) numbersUptoCard

/-- THE SECOND FORM's CARD OF 'gaugelaw.Meters'. -/
def metersUptoCard : Claim7 := { stood := { row := metersUptoRow, standIns := [], harness := (true, "82654edb4c2037416ea56924d729280047440ff321e32f583ba947b6a98e595c"), looks := true }, kinds := [], alts := [], goes := true, laidByText := true, laidKinds := [.data, .data, .widerDeep, .widerDeep, .data, .data, .data, .data, .data, .sentinel, .sentinel, .data, .pinned, .pinned], laidTests := true, laidLooks := .later }
def MetersUptoCardSaid : Prop := Claim7.holds Tryz.pinned (.plain (OpenSpec.upto metersSpec)) metersUptoCard

/-- THE SECOND FORM's CARD OF 'gaugekeep.Back'. -/
def backUptoCard : Claim7 := { stood := { row := backUptoRow, standIns := [], harness := (true, "82654edb4c2037416ea56924d729280047440ff321e32f583ba947b6a98e595c"), looks := true }, kinds := [], alts := [], goes := true, laidByText := true, laidKinds := [.data, .data, .widerDeep, .widerDeep, .data, .data, .data, .data, .data, .sentinel, .sentinel, .data, .pinned, .pinned], laidTests := true, laidLooks := .later }
def BackUptoCardSaid : Prop := Claim7.holds Tryz.pinned (.plain (OpenSpec.upto backSpec)) backUptoCard

/-- THE SECOND FORM's CARD OF 'gaugekeep.Ordered'. -/
def orderedUptoCard : Claim7 := { stood := { row := orderedUptoRow, standIns := [], harness := (true, "82654edb4c2037416ea56924d729280047440ff321e32f583ba947b6a98e595c"), looks := true }, kinds := [], alts := [], goes := true, laidByText := true, laidKinds := [.data, .data, .widerDeep, .widerDeep, .data, .data, .data, .data, .data, .sentinel, .sentinel, .data, .pinned, .pinned], laidTests := true, laidLooks := .later }
def OrderedUptoCardSaid : Prop := Claim7.holds Tryz.pinned (.plain (OpenSpec.upto orderedSpec)) orderedUptoCard

/-- THE SECOND FORM's CARD OF 'gaugekeep.Spelled'. -/
def spelledUptoCard : Claim7 := { stood := { row := spelledUptoRow, standIns := [], harness := (true, "82654edb4c2037416ea56924d729280047440ff321e32f583ba947b6a98e595c"), looks := true }, kinds := [], alts := [], goes := true, laidByText := true, laidKinds := [.data, .data, .widerDeep, .widerDeep, .data, .data, .data, .data, .data, .sentinel, .sentinel, .data, .pinned, .pinned], laidTests := true, laidLooks := .later }
def SpelledUptoCardSaid : Prop := Claim7.holds Tryz.pinned (.plain (OpenSpec.upto spelledSpec)) spelledUptoCard

/-- THE SECOND FORM's CARD OF 'gaugekeep.Small'. -/
def smallUptoCard : Claim7 := { stood := { row := smallUptoRow, standIns := [], harness := (true, "82654edb4c2037416ea56924d729280047440ff321e32f583ba947b6a98e595c"), looks := true }, kinds := [], alts := [], goes := true, laidByText := true, laidKinds := [.data, .data, .widerDeep, .widerDeep, .data, .data, .data, .data, .data, .sentinel, .sentinel, .data, .pinned, .pinned], laidTests := true, laidLooks := .later }
def SmallUptoCardSaid : Prop := Claim7.holds Tryz.pinned (.plain (OpenSpec.upto smallSpec)) smallUptoCard

/-- THE SECOND FORM's CARD OF 'gaugekeep.Canonical'. -/
def canonicalUptoCard : Claim7 := { stood := { row := canonicalUptoRow, standIns := [], harness := (true, "82654edb4c2037416ea56924d729280047440ff321e32f583ba947b6a98e595c"), looks := true }, kinds := [], alts := [], goes := true, laidByText := true, laidKinds := [.data, .data, .widerDeep, .widerDeep, .data, .data, .data, .data, .data, .sentinel, .sentinel, .data, .pinned, .pinned], laidTests := true, laidLooks := .later }
def CanonicalUptoCardSaid : Prop := Claim7.holds Tryz.pinned (.plain (OpenSpec.upto canonicalSpec)) canonicalUptoCard

/-- THE SECOND FORM's CARD OF 'gaugekeep.Bounds'. -/
def boundsUptoCard : Claim7 := { stood := { row := boundsUptoRow, standIns := [], harness := (true, "82654edb4c2037416ea56924d729280047440ff321e32f583ba947b6a98e595c"), looks := true }, kinds := [], alts := [], goes := true, laidByText := true, laidKinds := [.data, .data, .widerDeep, .widerDeep, .data, .data, .data, .data, .data, .sentinel, .sentinel, .data, .pinned, .pinned], laidTests := true, laidLooks := .later }
def BoundsUptoCardSaid : Prop := Claim7.holds Tryz.pinned (.plain (OpenSpec.upto boundsSpec)) boundsUptoCard

/-- THE SECOND FORM's CARD OF 'gaugekeep.Rising'. -/
def risingUptoCard : Claim7 := { stood := { row := risingUptoRow, standIns := [], harness := (true, "82654edb4c2037416ea56924d729280047440ff321e32f583ba947b6a98e595c"), looks := true }, kinds := [], alts := [], goes := true, laidByText := true, laidKinds := [.data, .data, .widerDeep, .widerDeep, .data, .data, .data, .data, .data, .sentinel, .sentinel, .data, .pinned, .pinned], laidTests := true, laidLooks := .later }
def RisingUptoCardSaid : Prop := Claim7.holds Tryz.pinned (.plain (OpenSpec.upto risingSpec)) risingUptoCard

/-- THE SECOND FORM's CARD OF 'gaugekeep.Forgotten'. -/
def forgottenUptoCard : Claim7 := { stood := { row := forgottenUptoRow, standIns := [], harness := (true, "82654edb4c2037416ea56924d729280047440ff321e32f583ba947b6a98e595c"), looks := true }, kinds := [], alts := [], goes := true, laidByText := true, laidKinds := [.data, .data, .widerDeep, .widerDeep, .data, .data, .data, .data, .data, .sentinel, .sentinel, .data, .pinned, .pinned], laidTests := true, laidLooks := .later }
def ForgottenUptoCardSaid : Prop := Claim7.holds Tryz.pinned (.plain (OpenSpec.upto forgottenSpec)) forgottenUptoCard

/-- THE SECOND FORM's CARD OF 'gaugelaw.Chunks'. -/
def chunksUptoCard : Claim7 := { stood := { row := chunksUptoRow, standIns := [], harness := (true, "82654edb4c2037416ea56924d729280047440ff321e32f583ba947b6a98e595c"), looks := true }, kinds := [], alts := [], goes := true, laidByText := true, laidKinds := [.data, .data, .widerDeep, .widerDeep, .data, .data, .data, .data, .data, .sentinel, .sentinel, .data, .pinned, .pinned], laidTests := true, laidLooks := .later }
def ChunksUptoCardSaid : Prop := Claim7.holds Tryz.pinned (.plain (OpenSpec.upto chunksSpec)) chunksUptoCard

/-- THE SECOND FORM's CARD OF 'gaugekeep.Packed'. -/
def packedUptoCard : Claim7 := { stood := { row := packedUptoRow, standIns := [], harness := (true, "82654edb4c2037416ea56924d729280047440ff321e32f583ba947b6a98e595c"), looks := true }, kinds := [], alts := [], goes := true, laidByText := true, laidKinds := [.data, .data, .widerDeep, .widerDeep, .data, .data, .data, .data, .data, .sentinel, .sentinel, .data, .pinned, .pinned], laidTests := true, laidLooks := .later }
def PackedUptoCardSaid : Prop := Claim7.holds Tryz.pinned (.plain (OpenSpec.upto packedSpec)) packedUptoCard
end Rows
end Go.Proofs.YtgekdmjneogdoaaGreatDoor
