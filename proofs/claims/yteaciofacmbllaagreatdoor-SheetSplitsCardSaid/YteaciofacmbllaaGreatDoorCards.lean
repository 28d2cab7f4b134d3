/-
  DERIVED. GIVEN WITH THE SEED: THE CARDS: each row of YteaciofacmbllaaGreatDoorRows.lean that lists a variable, with what it lists TIED to the program's text (the seventh form; the later family's looks); each row that meets fmt, with fmt's text TOLD by the authors' own Lean function (tested against real Go, not proved from fmt's source: count such statements apart). THE CARD IS WHAT COUNTS. Prove the row's statement (the work); the ties are given (YteaciofacmbllaaGreatDoorTie.lean); close each card by the builder's one call (the guide's Derived/Test/ToyasCard.lean, 'card_holds'). Laid BY PROGRAM, IN A SANDBOX (cutbox-door.mjs). By AI agents, Wed Nov 11 2026. No macro, syntax, notation, axiom, sorry.
-/
import Derived.Test.YteaciofacmbllaaGreatDoorRows
import GoSem.ClaimSeven
namespace Go.Proofs.YteaciofacmbllaaGreatDoor
namespace Rows

/-- THE TIED CARD OF 'bitextlaw9.SheetMixes'. -/
def sheetMixesCard : Claim7 := { stood := { row := sheetMixesRow, standIns := [], harness := (true, "e702a37e1591415e881bd782b3c88272fc09c26025a858ac7a18725cf7c0a078"), looks := false }, kinds := [], alts := [], laidByText := true, laidKinds := [.data, .data, .data], laidTests := true, laidLooks := .later }
def SheetMixesCardSaid : Prop := Claim7.holds Tryz.pinned (.plain (OpenSpec.ofChange sheetMixesSpec)) sheetMixesCard

/-- THE TIED CARD OF 'bitextlaw9.SheetSplits'. -/
def sheetSplitsCard : Claim7 := { stood := { row := sheetSplitsRow, standIns := [], harness := (true, "e702a37e1591415e881bd782b3c88272fc09c26025a858ac7a18725cf7c0a078"), looks := false }, kinds := [], alts := [], laidByText := true, laidKinds := [.data, .data, .data], laidTests := true, laidLooks := .later }
def SheetSplitsCardSaid : Prop := Claim7.holds Tryz.pinned (.plain (OpenSpec.ofChange sheetSplitsSpec)) sheetSplitsCard

/-- THE SECOND FORM's CARD OF 'bitextlaw9.SheetMixes'. -/
def sheetMixesUptoCard : Claim7 := { stood := { row := sheetMixesUptoRow, standIns := [], harness := (true, "e702a37e1591415e881bd782b3c88272fc09c26025a858ac7a18725cf7c0a078"), looks := false }, kinds := [], alts := [], laidByText := true, laidKinds := [.data, .data, .data], laidTests := true, laidLooks := .later }
def SheetMixesUptoCardSaid : Prop := Claim7.holds Tryz.pinned (.plain (OpenSpec.upto sheetMixesSpec)) sheetMixesUptoCard

/-- THE SECOND FORM's CARD OF 'bitextlaw9.SheetSplits'. -/
def sheetSplitsUptoCard : Claim7 := { stood := { row := sheetSplitsUptoRow, standIns := [], harness := (true, "e702a37e1591415e881bd782b3c88272fc09c26025a858ac7a18725cf7c0a078"), looks := false }, kinds := [], alts := [], laidByText := true, laidKinds := [.data, .data, .data], laidTests := true, laidLooks := .later }
def SheetSplitsUptoCardSaid : Prop := Claim7.holds Tryz.pinned (.plain (OpenSpec.upto sheetSplitsSpec)) sheetSplitsUptoCard
end Rows
end Go.Proofs.YteaciofacmbllaaGreatDoor
