/-
  DERIVED. GIVEN WITH THE SEED: THE CARDS: each row of YtphkpokoeaagfaaGreatDoorRows.lean that lists a variable, with what it lists TIED to the program's text (the seventh form; the later family's looks); each row that meets fmt, with fmt's text TOLD by the authors' own Lean function (tested against real Go, not proved from fmt's source: count such statements apart). THE CARD IS WHAT COUNTS. Prove the row's statement (the work); the ties are given (YtphkpokoeaagfaaGreatDoorTie.lean); close each card by the builder's one call (the guide's Derived/Test/ToyasCard.lean, 'card_holds'). Laid BY PROGRAM, IN A SANDBOX (cutbox-door.mjs). By AI agents, Wed Nov 11 2026. No macro, syntax, notation, axiom, sorry.
-/
import Derived.Test.YtphkpokoeaagfaaGreatDoorRows
import GoSem.ClaimSeven
namespace Go.Proofs.YtphkpokoeaagfaaGreatDoor
namespace Rows

/-- THE TIED CARD OF 'bitextlaw7.MarkupDecodes'. -/
def markupDecodesCard : Claim7 := { stood := { row := markupDecodesRow, standIns := [], harness := (true, "6b21d13ca0f84958d516b7b1fdc343a5244796e13f488021b762b64f30b35b11"), looks := false }, kinds := [], alts := [], laidByText := true, laidKinds := [.data, .data, .data], laidTests := true, laidLooks := .later }
def MarkupDecodesCardSaid : Prop := Claim7.holds Tryz.pinned (.plain (OpenSpec.ofChange markupDecodesSpec)) markupDecodesCard

/-- THE TIED CARD OF 'bitextlaw7.MarkupEncodes'. -/
def markupEncodesCard : Claim7 := { stood := { row := markupEncodesRow, standIns := [], harness := (true, "6b21d13ca0f84958d516b7b1fdc343a5244796e13f488021b762b64f30b35b11"), looks := false }, kinds := [], alts := [], laidByText := true, laidKinds := [.data, .data, .data], laidTests := true, laidLooks := .later }
def MarkupEncodesCardSaid : Prop := Claim7.holds Tryz.pinned (.plain (OpenSpec.ofChange markupEncodesSpec)) markupEncodesCard

/-- THE TIED CARD OF 'bitextlaw7.MarkupMixes'. -/
def markupMixesCard : Claim7 := { stood := { row := markupMixesRow, standIns := [], harness := (true, "6b21d13ca0f84958d516b7b1fdc343a5244796e13f488021b762b64f30b35b11"), looks := false }, kinds := [], alts := [], laidByText := true, laidKinds := [.data, .data, .data], laidTests := true, laidLooks := .later }
def MarkupMixesCardSaid : Prop := Claim7.holds Tryz.pinned (.plain (OpenSpec.ofChange markupMixesSpec)) markupMixesCard

/-- THE TIED CARD OF 'bitextlaw7.MarkupSplits'. -/
def markupSplitsCard : Claim7 := { stood := { row := markupSplitsRow, standIns := [], harness := (true, "6b21d13ca0f84958d516b7b1fdc343a5244796e13f488021b762b64f30b35b11"), looks := false }, kinds := [], alts := [], laidByText := true, laidKinds := [.data, .data, .data], laidTests := true, laidLooks := .later }
def MarkupSplitsCardSaid : Prop := Claim7.holds Tryz.pinned (.plain (OpenSpec.ofChange markupSplitsSpec)) markupSplitsCard

/-- THE SECOND FORM's CARD OF 'bitextlaw7.MarkupDecodes'. -/
def markupDecodesUptoCard : Claim7 := { stood := { row := markupDecodesUptoRow, standIns := [], harness := (true, "6b21d13ca0f84958d516b7b1fdc343a5244796e13f488021b762b64f30b35b11"), looks := false }, kinds := [], alts := [], laidByText := true, laidKinds := [.data, .data, .data], laidTests := true, laidLooks := .later }
def MarkupDecodesUptoCardSaid : Prop := Claim7.holds Tryz.pinned (.plain (OpenSpec.upto markupDecodesSpec)) markupDecodesUptoCard

/-- THE SECOND FORM's CARD OF 'bitextlaw7.MarkupEncodes'. -/
def markupEncodesUptoCard : Claim7 := { stood := { row := markupEncodesUptoRow, standIns := [], harness := (true, "6b21d13ca0f84958d516b7b1fdc343a5244796e13f488021b762b64f30b35b11"), looks := false }, kinds := [], alts := [], laidByText := true, laidKinds := [.data, .data, .data], laidTests := true, laidLooks := .later }
def MarkupEncodesUptoCardSaid : Prop := Claim7.holds Tryz.pinned (.plain (OpenSpec.upto markupEncodesSpec)) markupEncodesUptoCard

/-- THE SECOND FORM's CARD OF 'bitextlaw7.MarkupMixes'. -/
def markupMixesUptoCard : Claim7 := { stood := { row := markupMixesUptoRow, standIns := [], harness := (true, "6b21d13ca0f84958d516b7b1fdc343a5244796e13f488021b762b64f30b35b11"), looks := false }, kinds := [], alts := [], laidByText := true, laidKinds := [.data, .data, .data], laidTests := true, laidLooks := .later }
def MarkupMixesUptoCardSaid : Prop := Claim7.holds Tryz.pinned (.plain (OpenSpec.upto markupMixesSpec)) markupMixesUptoCard

/-- THE SECOND FORM's CARD OF 'bitextlaw7.MarkupSplits'. -/
def markupSplitsUptoCard : Claim7 := { stood := { row := markupSplitsUptoRow, standIns := [], harness := (true, "6b21d13ca0f84958d516b7b1fdc343a5244796e13f488021b762b64f30b35b11"), looks := false }, kinds := [], alts := [], laidByText := true, laidKinds := [.data, .data, .data], laidTests := true, laidLooks := .later }
def MarkupSplitsUptoCardSaid : Prop := Claim7.holds Tryz.pinned (.plain (OpenSpec.upto markupSplitsSpec)) markupSplitsUptoCard
end Rows
end Go.Proofs.YtphkpokoeaagfaaGreatDoor
