/-
  DERIVED. GIVEN WITH THE SEED: THE CARDS: each row of YtaogjccmeajpoaaGreatDoorRows.lean that lists a variable, with what it lists TIED to the program's text (the seventh form; the later family's looks); each row that meets fmt, with fmt's text TOLD by the authors' own Lean function (tested against real Go, not proved from fmt's source: count such statements apart). THE CARD IS WHAT COUNTS. Prove the row's statement (the work); the ties are given (YtaogjccmeajpoaaGreatDoorTie.lean); close each card by the builder's one call (the guide's Derived/Test/ToyasCard.lean, 'card_holds'). Laid BY PROGRAM, IN A SANDBOX (cutbox-door.mjs). By AI agents, Wed Nov 11 2026. No macro, syntax, notation, axiom, sorry.
-/
import Derived.Test.YtaogjccmeajpoaaGreatDoorRows
import GoSem.ClaimSeven
namespace Go.Proofs.YtaogjccmeajpoaaGreatDoor
namespace Rows

/-- THE TIED CARD OF 'bitextlaw4.NotationFormats'. -/
def notationFormatsCard : Claim7 := { stood := { row := notationFormatsRow, standIns := [], harness := (true, "c11113cc17a9705b7d6af39bd223410ac21e3a93d69fce468237c1da3ccbbfa7"), looks := true }, kinds := [], alts := [], laidByText := true, laidKinds := [.data, .data, .data, .sentinel, .sentinel], laidTests := true, laidLooks := .later }
def NotationFormatsCardSaid : Prop := Claim7.holds Tryz.pinned (.plain (OpenSpec.ofChange notationFormatsSpec)) notationFormatsCard

/-- THE TIED CARD OF 'bitextlaw4.NotationParses'. -/
def notationParsesCard : Claim7 := { stood := { row := notationParsesRow, standIns := [], harness := (true, "c11113cc17a9705b7d6af39bd223410ac21e3a93d69fce468237c1da3ccbbfa7"), looks := true }, kinds := [], alts := [], laidByText := true, laidKinds := [.data, .data, .data, .sentinel, .sentinel], laidTests := true, laidLooks := .later }
def NotationParsesCardSaid : Prop := Claim7.holds Tryz.pinned (.plain (OpenSpec.ofChange notationParsesSpec)) notationParsesCard

/-- THE TIED CARD OF 'bitextlaw4.NotationCanonical'. -/
def notationCanonicalCard : Claim7 := { stood := { row := notationCanonicalRow, standIns := [], harness := (true, "c11113cc17a9705b7d6af39bd223410ac21e3a93d69fce468237c1da3ccbbfa7"), looks := true }, kinds := [], alts := [], laidByText := true, laidKinds := [.data, .data, .data, .sentinel, .sentinel], laidTests := true, laidLooks := .later }
def NotationCanonicalCardSaid : Prop := Claim7.holds Tryz.pinned (.plain (OpenSpec.ofChange notationCanonicalSpec)) notationCanonicalCard

/-- THE TIED CARD OF 'bitextlaw4.NotationPrefix'. -/
def notationPrefixCard : Claim7 := { stood := { row := notationPrefixRow, standIns := [], harness := (true, "c11113cc17a9705b7d6af39bd223410ac21e3a93d69fce468237c1da3ccbbfa7"), looks := true }, kinds := [], alts := [], laidByText := true, laidKinds := [.data, .data, .data, .sentinel, .sentinel], laidTests := true, laidLooks := .later }
def NotationPrefixCardSaid : Prop := Claim7.holds Tryz.pinned (.plain (OpenSpec.ofChange notationPrefixSpec)) notationPrefixCard

/-- THE SECOND FORM's CARD OF 'bitextlaw4.NotationFormats'. -/
def notationFormatsUptoCard : Claim7 := { stood := { row := notationFormatsUptoRow, standIns := [], harness := (true, "c11113cc17a9705b7d6af39bd223410ac21e3a93d69fce468237c1da3ccbbfa7"), looks := true }, kinds := [], alts := [], laidByText := true, laidKinds := [.data, .data, .data, .sentinel, .sentinel], laidTests := true, laidLooks := .later }
def NotationFormatsUptoCardSaid : Prop := Claim7.holds Tryz.pinned (.plain (OpenSpec.upto notationFormatsSpec)) notationFormatsUptoCard

/-- THE SECOND FORM's CARD OF 'bitextlaw4.NotationParses'. -/
def notationParsesUptoCard : Claim7 := { stood := { row := notationParsesUptoRow, standIns := [], harness := (true, "c11113cc17a9705b7d6af39bd223410ac21e3a93d69fce468237c1da3ccbbfa7"), looks := true }, kinds := [], alts := [], laidByText := true, laidKinds := [.data, .data, .data, .sentinel, .sentinel], laidTests := true, laidLooks := .later }
def NotationParsesUptoCardSaid : Prop := Claim7.holds Tryz.pinned (.plain (OpenSpec.upto notationParsesSpec)) notationParsesUptoCard

/-- THE SECOND FORM's CARD OF 'bitextlaw4.NotationCanonical'. -/
def notationCanonicalUptoCard : Claim7 := { stood := { row := notationCanonicalUptoRow, standIns := [], harness := (true, "c11113cc17a9705b7d6af39bd223410ac21e3a93d69fce468237c1da3ccbbfa7"), looks := true }, kinds := [], alts := [], laidByText := true, laidKinds := [.data, .data, .data, .sentinel, .sentinel], laidTests := true, laidLooks := .later }
def NotationCanonicalUptoCardSaid : Prop := Claim7.holds Tryz.pinned (.plain (OpenSpec.upto notationCanonicalSpec)) notationCanonicalUptoCard

/-- THE SECOND FORM's CARD OF 'bitextlaw4.NotationPrefix'. -/
def notationPrefixUptoCard : Claim7 := { stood := { row := notationPrefixUptoRow, standIns := [], harness := (true, "c11113cc17a9705b7d6af39bd223410ac21e3a93d69fce468237c1da3ccbbfa7"), looks := true }, kinds := [], alts := [], laidByText := true, laidKinds := [.data, .data, .data, .sentinel, .sentinel], laidTests := true, laidLooks := .later }
def NotationPrefixUptoCardSaid : Prop := Claim7.holds Tryz.pinned (.plain (OpenSpec.upto notationPrefixSpec)) notationPrefixUptoCard
end Rows
end Go.Proofs.YtaogjccmeajpoaaGreatDoor
