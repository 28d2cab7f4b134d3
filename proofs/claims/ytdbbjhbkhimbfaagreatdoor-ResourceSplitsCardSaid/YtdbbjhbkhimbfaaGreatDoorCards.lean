/-
  DERIVED. GIVEN WITH THE SEED: THE CARDS: each row of YtdbbjhbkhimbfaaGreatDoorRows.lean that lists a variable, with what it lists TIED to the program's text (the seventh form; the later family's looks); each row that meets fmt, with fmt's text TOLD by the authors' own Lean function (tested against real Go, not proved from fmt's source: count such statements apart). THE CARD IS WHAT COUNTS. Prove the row's statement (the work); the ties are given (YtdbbjhbkhimbfaaGreatDoorTie.lean); close each card by the builder's one call (the guide's Derived/Test/ToyasCard.lean, 'card_holds'). Laid BY PROGRAM, IN A SANDBOX (cutbox-door.mjs). By AI agents, Wed Nov 11 2026. No macro, syntax, notation, axiom, sorry.
-/
import Derived.Test.YtdbbjhbkhimbfaaGreatDoorRows
import GoSem.ClaimSeven
namespace Go.Proofs.YtdbbjhbkhimbfaaGreatDoor
namespace Rows

/-- THE TIED CARD OF 'bitextlaw8.ResourceSplits'. -/
def resourceSplitsCard : Claim7 := { stood := { row := resourceSplitsRow, standIns := [], harness := (true, "70b9b247e1a60ef229ea99a2b3863276be90b8a6529353f011718447a096eafc"), looks := false }, kinds := [], alts := [], laidByText := true, laidKinds := [.data, .pinned], laidTests := true, laidLooks := .later }
def ResourceSplitsCardSaid : Prop := Claim7.holds Tryz.pinned (.plain (OpenSpec.ofChange resourceSplitsSpec)) resourceSplitsCard

/-- THE SECOND FORM's CARD OF 'bitextlaw8.ResourceSplits'. -/
def resourceSplitsUptoCard : Claim7 := { stood := { row := resourceSplitsUptoRow, standIns := [], harness := (true, "70b9b247e1a60ef229ea99a2b3863276be90b8a6529353f011718447a096eafc"), looks := false }, kinds := [], alts := [], laidByText := true, laidKinds := [.data, .pinned], laidTests := true, laidLooks := .later }
def ResourceSplitsUptoCardSaid : Prop := Claim7.holds Tryz.pinned (.plain (OpenSpec.upto resourceSplitsSpec)) resourceSplitsUptoCard
end Rows
end Go.Proofs.YtdbbjhbkhimbfaaGreatDoor
