/-
  DERIVED. GIVEN WITH THE SEED: THE CARDS: each row of YtdbbjhbkhimbfaaDoorRows.lean that lists a variable, with what it lists TIED to the program's text (the seventh form; the later family's looks); each row that meets fmt, with fmt's text TOLD by the authors' own Lean function (tested against real Go, not proved from fmt's source: count such statements apart). THE CARD IS WHAT COUNTS. Prove the row's statement (the work); the ties are given (YtdbbjhbkhimbfaaDoorTie.lean); close each card by the builder's one call (the guide's Derived/Test/ToyasCard.lean, 'card_holds'). Laid BY PROGRAM, IN A SANDBOX (cutbox-door.mjs). By AI agents, Wed Nov 11 2026. No macro, syntax, notation, axiom, sorry.
-/
import Derived.Test.YtdbbjhbkhimbfaaDoorRows
import GoSem.ClaimSeven
namespace Go.Proofs.YtdbbjhbkhimbfaaDoor
namespace Rows

/-- THE TIED CARD OF 'bitextlaw8.ResourceLimits'. -/
def resourceLimitsCard : Claim7 := { stood := { row := resourceLimitsRow, standIns := [], harness := (true, "f09b7db72891a1549fa958fdcd354aacb82e65568e79bfd72673b4b2292d2c87"), looks := false }, kinds := [], alts := [], laidByText := true, laidKinds := [.data, .pinned], laidTests := true, laidLooks := .later }
def ResourceLimitsCardSaid : Prop := Claim7.holds Tryd.pinned (.plain (OpenSpec.ofChange resourceLimitsSpec)) resourceLimitsCard

/-- THE TIED CARD OF 'bitextlaw8.ResourceDecodes'. -/
def resourceDecodesCard : Claim7 := { stood := { row := resourceDecodesRow, standIns := [], harness := (true, "f09b7db72891a1549fa958fdcd354aacb82e65568e79bfd72673b4b2292d2c87"), looks := false }, kinds := [], alts := [], laidByText := true, laidKinds := [.data, .pinned], laidTests := true, laidLooks := .later }
def ResourceDecodesCardSaid : Prop := Claim7.holds Tryd.pinned (.plain (OpenSpec.ofChange resourceDecodesSpec)) resourceDecodesCard

/-- THE TIED CARD OF 'bitextlaw8.ResourceEncodes'. -/
def resourceEncodesCard : Claim7 := { stood := { row := resourceEncodesRow, standIns := [], harness := (true, "f09b7db72891a1549fa958fdcd354aacb82e65568e79bfd72673b4b2292d2c87"), looks := false }, kinds := [], alts := [], laidByText := true, laidKinds := [.data, .pinned], laidTests := true, laidLooks := .later }
def ResourceEncodesCardSaid : Prop := Claim7.holds Tryd.pinned (.plain (OpenSpec.ofChange resourceEncodesSpec)) resourceEncodesCard

/-- THE TIED CARD OF 'bitextlaw8.ResourceRoundTrips'. -/
def resourceRoundTripsCard : Claim7 := { stood := { row := resourceRoundTripsRow, standIns := [], harness := (true, "f09b7db72891a1549fa958fdcd354aacb82e65568e79bfd72673b4b2292d2c87"), looks := false }, kinds := [], alts := [], laidByText := true, laidKinds := [.data, .pinned], laidTests := true, laidLooks := .later }
def ResourceRoundTripsCardSaid : Prop := Claim7.holds Tryd.pinned (.plain (OpenSpec.ofChange resourceRoundTripsSpec)) resourceRoundTripsCard

/-- THE TIED CARD OF 'bitextlaw8.ResourceReads'. -/
def resourceReadsCard : Claim7 := { stood := { row := resourceReadsRow, standIns := [], harness := (true, "f09b7db72891a1549fa958fdcd354aacb82e65568e79bfd72673b4b2292d2c87"), looks := false }, kinds := [], alts := [], laidByText := true, laidKinds := [.data, .pinned], laidTests := true, laidLooks := .later }
def ResourceReadsCardSaid : Prop := Claim7.holds Tryd.pinned (.plain (OpenSpec.ofChange resourceReadsSpec)) resourceReadsCard

/-- THE TIED CARD OF 'bitextlaw8.ResourceMixes'. -/
def resourceMixesCard : Claim7 := { stood := { row := resourceMixesRow, standIns := [], harness := (true, "f09b7db72891a1549fa958fdcd354aacb82e65568e79bfd72673b4b2292d2c87"), looks := false }, kinds := [], alts := [], laidByText := true, laidKinds := [.data, .pinned], laidTests := true, laidLooks := .later }
def ResourceMixesCardSaid : Prop := Claim7.holds Tryd.pinned (.plain (OpenSpec.ofChange resourceMixesSpec)) resourceMixesCard

/-- THE TIED CARD OF 'bitextlaw8.ResourceParts'. -/
def resourcePartsCard : Claim7 := { stood := { row := resourcePartsRow, standIns := [], harness := (true, "f09b7db72891a1549fa958fdcd354aacb82e65568e79bfd72673b4b2292d2c87"), looks := false }, kinds := [], alts := [], laidByText := true, laidKinds := [.data, .pinned], laidTests := true, laidLooks := .later }
def ResourcePartsCardSaid : Prop := Claim7.holds Tryd.pinned (.plain (OpenSpec.ofChange resourcePartsSpec)) resourcePartsCard

/-- THE TIED CARD OF 'bitextlaw8.ResourceLines'. -/
def resourceLinesCard : Claim7 := { stood := { row := resourceLinesRow, standIns := [], harness := (true, "f09b7db72891a1549fa958fdcd354aacb82e65568e79bfd72673b4b2292d2c87"), looks := false }, kinds := [], alts := [], laidByText := true, laidKinds := [.data, .pinned], laidTests := true, laidLooks := .later }
def ResourceLinesCardSaid : Prop := Claim7.holds Tryd.pinned (.plain (OpenSpec.ofChange resourceLinesSpec)) resourceLinesCard

/-- THE TIED CARD OF 'bitextlaw8.ResourceKeys'. -/
def resourceKeysCard : Claim7 := { stood := { row := resourceKeysRow, standIns := [], harness := (true, "f09b7db72891a1549fa958fdcd354aacb82e65568e79bfd72673b4b2292d2c87"), looks := false }, kinds := [], alts := [], laidByText := true, laidKinds := [.data, .pinned], laidTests := true, laidLooks := .later }
def ResourceKeysCardSaid : Prop := Claim7.holds Tryd.pinned (.plain (OpenSpec.ofChange resourceKeysSpec)) resourceKeysCard

/-- THE SECOND FORM's CARD OF 'bitextlaw8.ResourceLimits'. -/
def resourceLimitsUptoCard : Claim7 := { stood := { row := resourceLimitsUptoRow, standIns := [], harness := (true, "f09b7db72891a1549fa958fdcd354aacb82e65568e79bfd72673b4b2292d2c87"), looks := false }, kinds := [], alts := [], laidByText := true, laidKinds := [.data, .pinned], laidTests := true, laidLooks := .later }
def ResourceLimitsUptoCardSaid : Prop := Claim7.holds Tryd.pinned (.plain (OpenSpec.upto resourceLimitsSpec)) resourceLimitsUptoCard

/-- THE SECOND FORM's CARD OF 'bitextlaw8.ResourceDecodes'. -/
def resourceDecodesUptoCard : Claim7 := { stood := { row := resourceDecodesUptoRow, standIns := [], harness := (true, "f09b7db72891a1549fa958fdcd354aacb82e65568e79bfd72673b4b2292d2c87"), looks := false }, kinds := [], alts := [], laidByText := true, laidKinds := [.data, .pinned], laidTests := true, laidLooks := .later }
def ResourceDecodesUptoCardSaid : Prop := Claim7.holds Tryd.pinned (.plain (OpenSpec.upto resourceDecodesSpec)) resourceDecodesUptoCard

/-- THE SECOND FORM's CARD OF 'bitextlaw8.ResourceEncodes'. -/
def resourceEncodesUptoCard : Claim7 := { stood := { row := resourceEncodesUptoRow, standIns := [], harness := (true, "f09b7db72891a1549fa958fdcd354aacb82e65568e79bfd72673b4b2292d2c87"), looks := false }, kinds := [], alts := [], laidByText := true, laidKinds := [.data, .pinned], laidTests := true, laidLooks := .later }
def ResourceEncodesUptoCardSaid : Prop := Claim7.holds Tryd.pinned (.plain (OpenSpec.upto resourceEncodesSpec)) resourceEncodesUptoCard

/-- THE SECOND FORM's CARD OF 'bitextlaw8.ResourceRoundTrips'. -/
def resourceRoundTripsUptoCard : Claim7 := { stood := { row := resourceRoundTripsUptoRow, standIns := [], harness := (true, "f09b7db72891a1549fa958fdcd354aacb82e65568e79bfd72673b4b2292d2c87"), looks := false }, kinds := [], alts := [], laidByText := true, laidKinds := [.data, .pinned], laidTests := true, laidLooks := .later }
def ResourceRoundTripsUptoCardSaid : Prop := Claim7.holds Tryd.pinned (.plain (OpenSpec.upto resourceRoundTripsSpec)) resourceRoundTripsUptoCard

/-- THE SECOND FORM's CARD OF 'bitextlaw8.ResourceReads'. -/
def resourceReadsUptoCard : Claim7 := { stood := { row := resourceReadsUptoRow, standIns := [], harness := (true, "f09b7db72891a1549fa958fdcd354aacb82e65568e79bfd72673b4b2292d2c87"), looks := false }, kinds := [], alts := [], laidByText := true, laidKinds := [.data, .pinned], laidTests := true, laidLooks := .later }
def ResourceReadsUptoCardSaid : Prop := Claim7.holds Tryd.pinned (.plain (OpenSpec.upto resourceReadsSpec)) resourceReadsUptoCard

/-- THE SECOND FORM's CARD OF 'bitextlaw8.ResourceMixes'. -/
def resourceMixesUptoCard : Claim7 := { stood := { row := resourceMixesUptoRow, standIns := [], harness := (true, "f09b7db72891a1549fa958fdcd354aacb82e65568e79bfd72673b4b2292d2c87"), looks := false }, kinds := [], alts := [], laidByText := true, laidKinds := [.data, .pinned], laidTests := true, laidLooks := .later }
def ResourceMixesUptoCardSaid : Prop := Claim7.holds Tryd.pinned (.plain (OpenSpec.upto resourceMixesSpec)) resourceMixesUptoCard

/-- THE SECOND FORM's CARD OF 'bitextlaw8.ResourceParts'. -/
def resourcePartsUptoCard : Claim7 := { stood := { row := resourcePartsUptoRow, standIns := [], harness := (true, "f09b7db72891a1549fa958fdcd354aacb82e65568e79bfd72673b4b2292d2c87"), looks := false }, kinds := [], alts := [], laidByText := true, laidKinds := [.data, .pinned], laidTests := true, laidLooks := .later }
def ResourcePartsUptoCardSaid : Prop := Claim7.holds Tryd.pinned (.plain (OpenSpec.upto resourcePartsSpec)) resourcePartsUptoCard

/-- THE SECOND FORM's CARD OF 'bitextlaw8.ResourceLines'. -/
def resourceLinesUptoCard : Claim7 := { stood := { row := resourceLinesUptoRow, standIns := [], harness := (true, "f09b7db72891a1549fa958fdcd354aacb82e65568e79bfd72673b4b2292d2c87"), looks := false }, kinds := [], alts := [], laidByText := true, laidKinds := [.data, .pinned], laidTests := true, laidLooks := .later }
def ResourceLinesUptoCardSaid : Prop := Claim7.holds Tryd.pinned (.plain (OpenSpec.upto resourceLinesSpec)) resourceLinesUptoCard

/-- THE SECOND FORM's CARD OF 'bitextlaw8.ResourceKeys'. -/
def resourceKeysUptoCard : Claim7 := { stood := { row := resourceKeysUptoRow, standIns := [], harness := (true, "f09b7db72891a1549fa958fdcd354aacb82e65568e79bfd72673b4b2292d2c87"), looks := false }, kinds := [], alts := [], laidByText := true, laidKinds := [.data, .pinned], laidTests := true, laidLooks := .later }
def ResourceKeysUptoCardSaid : Prop := Claim7.holds Tryd.pinned (.plain (OpenSpec.upto resourceKeysSpec)) resourceKeysUptoCard
end Rows
end Go.Proofs.YtdbbjhbkhimbfaaDoor
