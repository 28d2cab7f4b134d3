/-
  DERIVED. GIVEN WITH THE SEED: THE CARDS: each row of YtaogjccmeajpoaaDoorRows.lean that lists a variable, with what it lists TIED to the program's text (the seventh form; the later family's looks); each row that meets fmt, with fmt's text TOLD by the authors' own Lean function (tested against real Go, not proved from fmt's source: count such statements apart). THE CARD IS WHAT COUNTS. Prove the row's statement (the work); the ties are given (YtaogjccmeajpoaaDoorTie.lean); close each card by the builder's one call (the guide's Derived/Test/ToyasCard.lean, 'card_holds'). Laid BY PROGRAM, IN A SANDBOX (cutbox-door.mjs). By AI agents, Wed Nov 11 2026. No macro, syntax, notation, axiom, sorry.
-/
import Derived.Test.YtaogjccmeajpoaaDoorRows
import GoSem.ClaimSeven
namespace Go.Proofs.YtaogjccmeajpoaaDoor
namespace Rows

/-- THE TIED CARD OF 'bitextlaw4.NotationRoundTrips'. -/
def notationRoundTripsCard : Claim7 := { stood := { row := notationRoundTripsRow, standIns := [], harness := (true, "529efb2a7584da621922325beb1b198cc1ba06798890591b00a81a613af15fc8"), looks := true }, kinds := [], alts := [], laidByText := true, laidKinds := [.data, .data, .data, .sentinel, .sentinel], laidTests := true, laidLooks := .later }
def NotationRoundTripsCardSaid : Prop := Claim7.holds Tryd.pinned (.plain (OpenSpec.ofChange notationRoundTripsSpec)) notationRoundTripsCard

/-- THE TIED CARD OF 'bitextlaw4.NotationInjective'. -/
def notationInjectiveCard : Claim7 := { stood := { row := notationInjectiveRow, standIns := [], harness := (true, "529efb2a7584da621922325beb1b198cc1ba06798890591b00a81a613af15fc8"), looks := true }, kinds := [], alts := [], laidByText := true, laidKinds := [.data, .data, .data, .sentinel, .sentinel], laidTests := true, laidLooks := .later }
def NotationInjectiveCardSaid : Prop := Claim7.holds Tryd.pinned (.plain (OpenSpec.ofChange notationInjectiveSpec)) notationInjectiveCard

/-- THE TIED CARD OF 'bitextlaw4.NotationLimits'. -/
def notationLimitsCard : Claim7 := { stood := { row := notationLimitsRow, standIns := [], harness := (true, "529efb2a7584da621922325beb1b198cc1ba06798890591b00a81a613af15fc8"), looks := true }, kinds := [], alts := [], laidByText := true, laidKinds := [.data, .data, .data, .sentinel, .sentinel], laidTests := true, laidLooks := .later }
def NotationLimitsCardSaid : Prop := Claim7.holds Tryd.pinned (.plain (OpenSpec.ofChange notationLimitsSpec)) notationLimitsCard

/-- THE SECOND FORM's CARD OF 'bitextlaw4.NotationRoundTrips'. -/
def notationRoundTripsUptoCard : Claim7 := { stood := { row := notationRoundTripsUptoRow, standIns := [], harness := (true, "529efb2a7584da621922325beb1b198cc1ba06798890591b00a81a613af15fc8"), looks := true }, kinds := [], alts := [], laidByText := true, laidKinds := [.data, .data, .data, .sentinel, .sentinel], laidTests := true, laidLooks := .later }
def NotationRoundTripsUptoCardSaid : Prop := Claim7.holds Tryd.pinned (.plain (OpenSpec.upto notationRoundTripsSpec)) notationRoundTripsUptoCard

/-- THE SECOND FORM's CARD OF 'bitextlaw4.NotationInjective'. -/
def notationInjectiveUptoCard : Claim7 := { stood := { row := notationInjectiveUptoRow, standIns := [], harness := (true, "529efb2a7584da621922325beb1b198cc1ba06798890591b00a81a613af15fc8"), looks := true }, kinds := [], alts := [], laidByText := true, laidKinds := [.data, .data, .data, .sentinel, .sentinel], laidTests := true, laidLooks := .later }
def NotationInjectiveUptoCardSaid : Prop := Claim7.holds Tryd.pinned (.plain (OpenSpec.upto notationInjectiveSpec)) notationInjectiveUptoCard

/-- THE SECOND FORM's CARD OF 'bitextlaw4.NotationLimits'. -/
def notationLimitsUptoCard : Claim7 := { stood := { row := notationLimitsUptoRow, standIns := [], harness := (true, "529efb2a7584da621922325beb1b198cc1ba06798890591b00a81a613af15fc8"), looks := true }, kinds := [], alts := [], laidByText := true, laidKinds := [.data, .data, .data, .sentinel, .sentinel], laidTests := true, laidLooks := .later }
def NotationLimitsUptoCardSaid : Prop := Claim7.holds Tryd.pinned (.plain (OpenSpec.upto notationLimitsSpec)) notationLimitsUptoCard
end Rows
end Go.Proofs.YtaogjccmeajpoaaDoor
