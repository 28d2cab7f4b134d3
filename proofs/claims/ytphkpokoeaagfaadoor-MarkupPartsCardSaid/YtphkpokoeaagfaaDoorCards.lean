/-
  DERIVED. GIVEN WITH THE SEED: THE CARDS: each row of YtphkpokoeaagfaaDoorRows.lean that lists a variable, with what it lists TIED to the program's text (the seventh form; the later family's looks); each row that meets fmt, with fmt's text TOLD by the authors' own Lean function (tested against real Go, not proved from fmt's source: count such statements apart). THE CARD IS WHAT COUNTS. Prove the row's statement (the work); the ties are given (YtphkpokoeaagfaaDoorTie.lean); close each card by the builder's one call (the guide's Derived/Test/ToyasCard.lean, 'card_holds'). Laid BY PROGRAM, IN A SANDBOX (cutbox-door.mjs). By AI agents, Wed Nov 11 2026. No macro, syntax, notation, axiom, sorry.
-/
import Derived.Test.YtphkpokoeaagfaaDoorRows
import GoSem.ClaimSeven
namespace Go.Proofs.YtphkpokoeaagfaaDoor
namespace Rows

/-- THE TIED CARD OF 'bitextlaw7.MarkupLimits'. -/
def markupLimitsCard : Claim7 := { stood := { row := markupLimitsRow, standIns := [], harness := (true, "57ef196fd23df9bba85e5a26644ca28b94ab80892a4814cbd88e02ce20a34e9b"), looks := false }, kinds := [], alts := [], laidByText := true, laidKinds := [.data, .data, .data], laidTests := true, laidLooks := .later }
def MarkupLimitsCardSaid : Prop := Claim7.holds Tryd.pinned (.plain (OpenSpec.ofChange markupLimitsSpec)) markupLimitsCard

/-- THE TIED CARD OF 'bitextlaw7.MarkupRoundTrips'. -/
def markupRoundTripsCard : Claim7 := { stood := { row := markupRoundTripsRow, standIns := [], harness := (true, "57ef196fd23df9bba85e5a26644ca28b94ab80892a4814cbd88e02ce20a34e9b"), looks := false }, kinds := [], alts := [], laidByText := true, laidKinds := [.data, .data, .data], laidTests := true, laidLooks := .later }
def MarkupRoundTripsCardSaid : Prop := Claim7.holds Tryd.pinned (.plain (OpenSpec.ofChange markupRoundTripsSpec)) markupRoundTripsCard

/-- THE TIED CARD OF 'bitextlaw7.MarkupReads'. -/
def markupReadsCard : Claim7 := { stood := { row := markupReadsRow, standIns := [], harness := (true, "57ef196fd23df9bba85e5a26644ca28b94ab80892a4814cbd88e02ce20a34e9b"), looks := false }, kinds := [], alts := [], laidByText := true, laidKinds := [.data, .data, .data], laidTests := true, laidLooks := .later }
def MarkupReadsCardSaid : Prop := Claim7.holds Tryd.pinned (.plain (OpenSpec.ofChange markupReadsSpec)) markupReadsCard

/-- THE TIED CARD OF 'bitextlaw7.MarkupParts'. -/
def markupPartsCard : Claim7 := { stood := { row := markupPartsRow, standIns := [], harness := (true, "57ef196fd23df9bba85e5a26644ca28b94ab80892a4814cbd88e02ce20a34e9b"), looks := false }, kinds := [], alts := [], laidByText := true, laidKinds := [.data, .data, .data], laidTests := true, laidLooks := .later }
def MarkupPartsCardSaid : Prop := Claim7.holds Tryd.pinned (.plain (OpenSpec.ofChange markupPartsSpec)) markupPartsCard

/-- THE TIED CARD OF 'bitextlaw7.MarkupNests'. -/
def markupNestsCard : Claim7 := { stood := { row := markupNestsRow, standIns := [], harness := (true, "57ef196fd23df9bba85e5a26644ca28b94ab80892a4814cbd88e02ce20a34e9b"), looks := false }, kinds := [], alts := [], laidByText := true, laidKinds := [.data, .data, .data], laidTests := true, laidLooks := .later }
def MarkupNestsCardSaid : Prop := Claim7.holds Tryd.pinned (.plain (OpenSpec.ofChange markupNestsSpec)) markupNestsCard

/-- THE TIED CARD OF 'bitextlaw7.MarkupBlocks'. -/
def markupBlocksCard : Claim7 := { stood := { row := markupBlocksRow, standIns := [], harness := (true, "57ef196fd23df9bba85e5a26644ca28b94ab80892a4814cbd88e02ce20a34e9b"), looks := false }, kinds := [], alts := [], laidByText := true, laidKinds := [.data, .data, .data], laidTests := true, laidLooks := .later }
def MarkupBlocksCardSaid : Prop := Claim7.holds Tryd.pinned (.plain (OpenSpec.ofChange markupBlocksSpec)) markupBlocksCard

/-- THE SECOND FORM's CARD OF 'bitextlaw7.MarkupLimits'. -/
def markupLimitsUptoCard : Claim7 := { stood := { row := markupLimitsUptoRow, standIns := [], harness := (true, "57ef196fd23df9bba85e5a26644ca28b94ab80892a4814cbd88e02ce20a34e9b"), looks := false }, kinds := [], alts := [], laidByText := true, laidKinds := [.data, .data, .data], laidTests := true, laidLooks := .later }
def MarkupLimitsUptoCardSaid : Prop := Claim7.holds Tryd.pinned (.plain (OpenSpec.upto markupLimitsSpec)) markupLimitsUptoCard

/-- THE SECOND FORM's CARD OF 'bitextlaw7.MarkupRoundTrips'. -/
def markupRoundTripsUptoCard : Claim7 := { stood := { row := markupRoundTripsUptoRow, standIns := [], harness := (true, "57ef196fd23df9bba85e5a26644ca28b94ab80892a4814cbd88e02ce20a34e9b"), looks := false }, kinds := [], alts := [], laidByText := true, laidKinds := [.data, .data, .data], laidTests := true, laidLooks := .later }
def MarkupRoundTripsUptoCardSaid : Prop := Claim7.holds Tryd.pinned (.plain (OpenSpec.upto markupRoundTripsSpec)) markupRoundTripsUptoCard

/-- THE SECOND FORM's CARD OF 'bitextlaw7.MarkupReads'. -/
def markupReadsUptoCard : Claim7 := { stood := { row := markupReadsUptoRow, standIns := [], harness := (true, "57ef196fd23df9bba85e5a26644ca28b94ab80892a4814cbd88e02ce20a34e9b"), looks := false }, kinds := [], alts := [], laidByText := true, laidKinds := [.data, .data, .data], laidTests := true, laidLooks := .later }
def MarkupReadsUptoCardSaid : Prop := Claim7.holds Tryd.pinned (.plain (OpenSpec.upto markupReadsSpec)) markupReadsUptoCard

/-- THE SECOND FORM's CARD OF 'bitextlaw7.MarkupParts'. -/
def markupPartsUptoCard : Claim7 := { stood := { row := markupPartsUptoRow, standIns := [], harness := (true, "57ef196fd23df9bba85e5a26644ca28b94ab80892a4814cbd88e02ce20a34e9b"), looks := false }, kinds := [], alts := [], laidByText := true, laidKinds := [.data, .data, .data], laidTests := true, laidLooks := .later }
def MarkupPartsUptoCardSaid : Prop := Claim7.holds Tryd.pinned (.plain (OpenSpec.upto markupPartsSpec)) markupPartsUptoCard

/-- THE SECOND FORM's CARD OF 'bitextlaw7.MarkupNests'. -/
def markupNestsUptoCard : Claim7 := { stood := { row := markupNestsUptoRow, standIns := [], harness := (true, "57ef196fd23df9bba85e5a26644ca28b94ab80892a4814cbd88e02ce20a34e9b"), looks := false }, kinds := [], alts := [], laidByText := true, laidKinds := [.data, .data, .data], laidTests := true, laidLooks := .later }
def MarkupNestsUptoCardSaid : Prop := Claim7.holds Tryd.pinned (.plain (OpenSpec.upto markupNestsSpec)) markupNestsUptoCard

/-- THE SECOND FORM's CARD OF 'bitextlaw7.MarkupBlocks'. -/
def markupBlocksUptoCard : Claim7 := { stood := { row := markupBlocksUptoRow, standIns := [], harness := (true, "57ef196fd23df9bba85e5a26644ca28b94ab80892a4814cbd88e02ce20a34e9b"), looks := false }, kinds := [], alts := [], laidByText := true, laidKinds := [.data, .data, .data], laidTests := true, laidLooks := .later }
def MarkupBlocksUptoCardSaid : Prop := Claim7.holds Tryd.pinned (.plain (OpenSpec.upto markupBlocksSpec)) markupBlocksUptoCard
end Rows
end Go.Proofs.YtphkpokoeaagfaaDoor
