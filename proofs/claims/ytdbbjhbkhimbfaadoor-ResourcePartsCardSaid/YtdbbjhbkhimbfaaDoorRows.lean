/-
  NARROWER THAN 'FOR EVERY INPUT', by the rows' own cells (each row's printed sentence says how): ResourceLimits: laid · ResourceDecodes: laid · ResourceEncodes: laid · ResourceRoundTrips: laid · ResourceReads: laid · ResourceMixes: laid · ResourceParts: laid · ResourceLines: laid · ResourceKeys: laid.
  DERIVED. THE GIVEN ROWS OF THIS SEAT. 9 by the template 'for every input the law returns true; each argument reads behind the call as it read before'; 0 by the template 'total and deterministic' (their statements: YtdbbjhbkhimbfaaDoorTotals.lean).
  GIVEN WITH THE SEED: the statements are not yours to turn. If you find one false, say at which input.
  Laid BY PROGRAM, IN A SANDBOX (cutbox-rows.mjs): the forced cells as the released guide's own fill.sh prints them over the translation 64ee6848b7d72f2d… (all of the seat's roots in one cut). By AI agents, Wed Nov 11 2026. No macro, syntax, notation, axiom, sorry.
-/
import Derived.Test.YtdbbjhbkhimbfaaDoorChecked
import GoSem.PinnedTables
import GoSem.Claim
import GoSem.ClaimJoined
import GoSem.ClaimMapViews
import Derived.JoinedTies
import Derived.KernelRfl
namespace Go.Proofs.YtdbbjhbkhimbfaaDoor
/- THE CELL 'sum', in the pinned program and in every row, IS THE sha256 OF THE DUMP (.gsa) THAT YtdbbjhbkhimbfaaDoorProg.lean LOADS. Nothing in Lean hashes anything: it is a label: what it is worth is what the hold of that sum in a sandbox is worth. -/
noncomputable def Tryd.pinned : Pinned := { name := "ytdbbjhbkhimbfaadoor", sum := "64ee6848b7d72f2d566fbf4d952ef02122e4667797dc42803bf418777dd684bc", checked := Tryd.checked }
namespace Rows
def none {H : Type} : Left H := { results := [], args := [] }

/- WHAT THE LISTED PACKAGE-LEVEL VARIABLES READ AS WHEN THE CALL BEGINS. Each datum BY PROGRAM (the guide's laid-datum.mjs) off the statement by which the dump's own 'gosem.cut.vars' lays the variable. In a bare row this is a premise. The card (YtdbbjhbkhimbfaaDoorCards.lean) ties it to the program's text. -/
def laid_unicode_utf8_acceptRanges {H : Type} : DataW H := .agg [.agg [.lit (.int .u8 128), .lit (.int .u8 191)], .agg [.lit (.int .u8 160), .lit (.int .u8 191)], .agg [.lit (.int .u8 128), .lit (.int .u8 159)], .agg [.lit (.int .u8 144), .lit (.int .u8 191)], .agg [.lit (.int .u8 128), .lit (.int .u8 143)], .agg [.lit (.int .u8 0), .lit (.int .u8 0)], .agg [.lit (.int .u8 0), .lit (.int .u8 0)], .agg [.lit (.int .u8 0), .lit (.int .u8 0)], .agg [.lit (.int .u8 0), .lit (.int .u8 0)], .agg [.lit (.int .u8 0), .lit (.int .u8 0)], .agg [.lit (.int .u8 0), .lit (.int .u8 0)], .agg [.lit (.int .u8 0), .lit (.int .u8 0)], .agg [.lit (.int .u8 0), .lit (.int .u8 0)], .agg [.lit (.int .u8 0), .lit (.int .u8 0)], .agg [.lit (.int .u8 0), .lit (.int .u8 0)], .agg [.lit (.int .u8 0), .lit (.int .u8 0)]]
/-- One of Go's own tables, pinned by name: the form's constant. -/
def laid_unicode_utf8_first : DataW Unit := Go.Pinned.utf8First

/-- 'bitextlaw8.ResourceLimits': WHATEVER THE INPUT: true; the input reads as it did. -/
def resourceLimitsSpec : ChangeSpec := { name := "resourceLimits", fn := fun _ => fun
  | [d1, d2, d3] => { results := [.lit (.bool true)], args := [d1, d2, d3] }
  | _ => none }
def resourceLimitsRow : OpenClaim := { program := "ytdbbjhbkhimbfaadoor", sum := "64ee6848b7d72f2d566fbf4d952ef02122e4667797dc42803bf418777dd684bc", func := "bitext/bitextlaw8.ResourceLimits", spec := "resourceLimits", inPlace := ["internal/bytealg.IndexByteString", "internal/bytealg.IndexString", "internal/abi.NoEscape"], unfollowed := true, recurses := true, named := ["internal/bytealg.MaxLen", "unicode/utf8.first", "unicode/utf8.acceptRanges"], apart := false, laid := [("unicode/utf8.acceptRanges", laid_unicode_utf8_acceptRanges), ("unicode/utf8.first", laid_unicode_utf8_first)] }
def ResourceLimitsSaid : Prop := resourceLimitsRow.holds Tryd.pinned (OpenSpec.ofChange resourceLimitsSpec)

/-- ITS FALSE NEIGHBOUR: 'it returns false'. Refute it at one input. -/
def resourceLimitsWrong : ChangeSpec := { name := "resourceLimits", fn := fun _ => fun
  | [d1, d2, d3] => { results := [.lit (.bool false)], args := [d1, d2, d3] }
  | _ => none }
def ResourceLimitsWrongFalsely : Prop := resourceLimitsRow.holds Tryd.pinned (OpenSpec.ofChange resourceLimitsWrong)

/-- 'bitextlaw8.ResourceDecodes': WHATEVER THE INPUT: true; the input reads as it did. -/
def resourceDecodesSpec : ChangeSpec := { name := "resourceDecodes", fn := fun _ => fun
  | [d1, d2, d3, d4, d5] => { results := [.lit (.bool true)], args := [d1, d2, d3, d4, d5] }
  | _ => none }
def resourceDecodesRow : OpenClaim := { program := "ytdbbjhbkhimbfaadoor", sum := "64ee6848b7d72f2d566fbf4d952ef02122e4667797dc42803bf418777dd684bc", func := "bitext/bitextlaw8.ResourceDecodes", spec := "resourceDecodes", inPlace := ["internal/bytealg.IndexByteString", "internal/bytealg.IndexString", "internal/abi.NoEscape"], unfollowed := true, recurses := true, named := ["unicode/utf8.first", "unicode/utf8.acceptRanges", "internal/bytealg.MaxLen"], apart := false, laid := [("unicode/utf8.acceptRanges", laid_unicode_utf8_acceptRanges), ("unicode/utf8.first", laid_unicode_utf8_first)] }
def ResourceDecodesSaid : Prop := resourceDecodesRow.holds Tryd.pinned (OpenSpec.ofChange resourceDecodesSpec)

/-- ITS FALSE NEIGHBOUR: 'it returns false'. Refute it at one input. -/
def resourceDecodesWrong : ChangeSpec := { name := "resourceDecodes", fn := fun _ => fun
  | [d1, d2, d3, d4, d5] => { results := [.lit (.bool false)], args := [d1, d2, d3, d4, d5] }
  | _ => none }
def ResourceDecodesWrongFalsely : Prop := resourceDecodesRow.holds Tryd.pinned (OpenSpec.ofChange resourceDecodesWrong)

/-- 'bitextlaw8.ResourceEncodes': WHATEVER THE INPUT: true; the input reads as it did. -/
def resourceEncodesSpec : ChangeSpec := { name := "resourceEncodes", fn := fun _ => fun
  | [d1, d2] => { results := [.lit (.bool true)], args := [d1, d2] }
  | _ => none }
def resourceEncodesRow : OpenClaim := { program := "ytdbbjhbkhimbfaadoor", sum := "64ee6848b7d72f2d566fbf4d952ef02122e4667797dc42803bf418777dd684bc", func := "bitext/bitextlaw8.ResourceEncodes", spec := "resourceEncodes", inPlace := ["internal/bytealg.IndexByteString", "internal/bytealg.IndexString", "internal/abi.NoEscape"], unfollowed := true, recurses := true, named := ["unicode/utf8.first", "unicode/utf8.acceptRanges", "internal/bytealg.MaxLen"], apart := false, laid := [("unicode/utf8.acceptRanges", laid_unicode_utf8_acceptRanges), ("unicode/utf8.first", laid_unicode_utf8_first)] }
def ResourceEncodesSaid : Prop := resourceEncodesRow.holds Tryd.pinned (OpenSpec.ofChange resourceEncodesSpec)

/-- ITS FALSE NEIGHBOUR: 'it returns false'. Refute it at one input. -/
def resourceEncodesWrong : ChangeSpec := { name := "resourceEncodes", fn := fun _ => fun
  | [d1, d2] => { results := [.lit (.bool false)], args := [d1, d2] }
  | _ => none }
def ResourceEncodesWrongFalsely : Prop := resourceEncodesRow.holds Tryd.pinned (OpenSpec.ofChange resourceEncodesWrong)

/-- 'bitextlaw8.ResourceRoundTrips': WHATEVER THE INPUT: true; the input reads as it did. -/
def resourceRoundTripsSpec : ChangeSpec := { name := "resourceRoundTrips", fn := fun _ => fun
  | [d1, d2] => { results := [.lit (.bool true)], args := [d1, d2] }
  | _ => none }
def resourceRoundTripsRow : OpenClaim := { program := "ytdbbjhbkhimbfaadoor", sum := "64ee6848b7d72f2d566fbf4d952ef02122e4667797dc42803bf418777dd684bc", func := "bitext/bitextlaw8.ResourceRoundTrips", spec := "resourceRoundTrips", inPlace := ["internal/bytealg.IndexByteString", "internal/bytealg.IndexString", "internal/abi.NoEscape"], unfollowed := true, recurses := true, named := ["unicode/utf8.first", "unicode/utf8.acceptRanges", "internal/bytealg.MaxLen"], apart := false, laid := [("unicode/utf8.acceptRanges", laid_unicode_utf8_acceptRanges), ("unicode/utf8.first", laid_unicode_utf8_first)] }
def ResourceRoundTripsSaid : Prop := resourceRoundTripsRow.holds Tryd.pinned (OpenSpec.ofChange resourceRoundTripsSpec)

/-- ITS FALSE NEIGHBOUR: 'it returns false'. Refute it at one input. -/
def resourceRoundTripsWrong : ChangeSpec := { name := "resourceRoundTrips", fn := fun _ => fun
  | [d1, d2] => { results := [.lit (.bool false)], args := [d1, d2] }
  | _ => none }
def ResourceRoundTripsWrongFalsely : Prop := resourceRoundTripsRow.holds Tryd.pinned (OpenSpec.ofChange resourceRoundTripsWrong)

/-- 'bitextlaw8.ResourceReads': WHATEVER THE INPUT: true; the input reads as it did. -/
def resourceReadsSpec : ChangeSpec := { name := "resourceReads", fn := fun _ => fun
  | [d1, d2] => { results := [.lit (.bool true)], args := [d1, d2] }
  | _ => none }
def resourceReadsRow : OpenClaim := { program := "ytdbbjhbkhimbfaadoor", sum := "64ee6848b7d72f2d566fbf4d952ef02122e4667797dc42803bf418777dd684bc", func := "bitext/bitextlaw8.ResourceReads", spec := "resourceReads", inPlace := ["internal/bytealg.IndexByteString", "internal/bytealg.IndexString", "internal/abi.NoEscape"], unfollowed := true, recurses := true, named := ["unicode/utf8.first", "unicode/utf8.acceptRanges", "internal/bytealg.MaxLen"], apart := false, laid := [("unicode/utf8.acceptRanges", laid_unicode_utf8_acceptRanges), ("unicode/utf8.first", laid_unicode_utf8_first)] }
def ResourceReadsSaid : Prop := resourceReadsRow.holds Tryd.pinned (OpenSpec.ofChange resourceReadsSpec)

/-- ITS FALSE NEIGHBOUR: 'it returns false'. Refute it at one input. -/
def resourceReadsWrong : ChangeSpec := { name := "resourceReads", fn := fun _ => fun
  | [d1, d2] => { results := [.lit (.bool false)], args := [d1, d2] }
  | _ => none }
def ResourceReadsWrongFalsely : Prop := resourceReadsRow.holds Tryd.pinned (OpenSpec.ofChange resourceReadsWrong)

/-- 'bitextlaw8.ResourceMixes': WHATEVER THE INPUT: true; the input reads as it did. -/
def resourceMixesSpec : ChangeSpec := { name := "resourceMixes", fn := fun _ => fun
  | [d1, d2, d3, d4] => { results := [.lit (.bool true)], args := [d1, d2, d3, d4] }
  | _ => none }
def resourceMixesRow : OpenClaim := { program := "ytdbbjhbkhimbfaadoor", sum := "64ee6848b7d72f2d566fbf4d952ef02122e4667797dc42803bf418777dd684bc", func := "bitext/bitextlaw8.ResourceMixes", spec := "resourceMixes", inPlace := ["internal/bytealg.IndexByteString", "internal/bytealg.IndexString", "internal/abi.NoEscape"], unfollowed := true, recurses := true, named := ["unicode/utf8.first", "unicode/utf8.acceptRanges", "internal/bytealg.MaxLen"], apart := false, laid := [("unicode/utf8.acceptRanges", laid_unicode_utf8_acceptRanges), ("unicode/utf8.first", laid_unicode_utf8_first)] }
def ResourceMixesSaid : Prop := resourceMixesRow.holds Tryd.pinned (OpenSpec.ofChange resourceMixesSpec)

/-- ITS FALSE NEIGHBOUR: 'it returns false'. Refute it at one input. -/
def resourceMixesWrong : ChangeSpec := { name := "resourceMixes", fn := fun _ => fun
  | [d1, d2, d3, d4] => { results := [.lit (.bool false)], args := [d1, d2, d3, d4] }
  | _ => none }
def ResourceMixesWrongFalsely : Prop := resourceMixesRow.holds Tryd.pinned (OpenSpec.ofChange resourceMixesWrong)

/-- 'bitextlaw8.ResourceParts': WHATEVER THE INPUT: true; the input reads as it did. -/
def resourcePartsSpec : ChangeSpec := { name := "resourceParts", fn := fun _ => fun
  | [d1, d2, d3] => { results := [.lit (.bool true)], args := [d1, d2, d3] }
  | _ => none }
def resourcePartsRow : OpenClaim := { program := "ytdbbjhbkhimbfaadoor", sum := "64ee6848b7d72f2d566fbf4d952ef02122e4667797dc42803bf418777dd684bc", func := "bitext/bitextlaw8.ResourceParts", spec := "resourceParts", inPlace := ["internal/bytealg.IndexByteString", "internal/bytealg.IndexString", "internal/abi.NoEscape"], unfollowed := true, recurses := true, named := ["unicode/utf8.first", "unicode/utf8.acceptRanges", "internal/bytealg.MaxLen"], apart := false, laid := [("unicode/utf8.acceptRanges", laid_unicode_utf8_acceptRanges), ("unicode/utf8.first", laid_unicode_utf8_first)] }
def ResourcePartsSaid : Prop := resourcePartsRow.holds Tryd.pinned (OpenSpec.ofChange resourcePartsSpec)

/-- ITS FALSE NEIGHBOUR: 'it returns false'. Refute it at one input. -/
def resourcePartsWrong : ChangeSpec := { name := "resourceParts", fn := fun _ => fun
  | [d1, d2, d3] => { results := [.lit (.bool false)], args := [d1, d2, d3] }
  | _ => none }
def ResourcePartsWrongFalsely : Prop := resourcePartsRow.holds Tryd.pinned (OpenSpec.ofChange resourcePartsWrong)

/-- 'bitextlaw8.ResourceLines': WHATEVER THE INPUT: true; the input reads as it did. -/
def resourceLinesSpec : ChangeSpec := { name := "resourceLines", fn := fun _ => fun
  | [d1, d2, d3] => { results := [.lit (.bool true)], args := [d1, d2, d3] }
  | _ => none }
def resourceLinesRow : OpenClaim := { program := "ytdbbjhbkhimbfaadoor", sum := "64ee6848b7d72f2d566fbf4d952ef02122e4667797dc42803bf418777dd684bc", func := "bitext/bitextlaw8.ResourceLines", spec := "resourceLines", inPlace := ["internal/bytealg.IndexByteString", "internal/bytealg.IndexString", "internal/abi.NoEscape"], unfollowed := true, recurses := true, named := ["unicode/utf8.first", "unicode/utf8.acceptRanges", "internal/bytealg.MaxLen"], apart := false, laid := [("unicode/utf8.acceptRanges", laid_unicode_utf8_acceptRanges), ("unicode/utf8.first", laid_unicode_utf8_first)] }
def ResourceLinesSaid : Prop := resourceLinesRow.holds Tryd.pinned (OpenSpec.ofChange resourceLinesSpec)

/-- ITS FALSE NEIGHBOUR: 'it returns false'. Refute it at one input. -/
def resourceLinesWrong : ChangeSpec := { name := "resourceLines", fn := fun _ => fun
  | [d1, d2, d3] => { results := [.lit (.bool false)], args := [d1, d2, d3] }
  | _ => none }
def ResourceLinesWrongFalsely : Prop := resourceLinesRow.holds Tryd.pinned (OpenSpec.ofChange resourceLinesWrong)

/-- 'bitextlaw8.ResourceKeys': WHATEVER THE INPUT: true; the input reads as it did. -/
def resourceKeysSpec : ChangeSpec := { name := "resourceKeys", fn := fun _ => fun
  | [d1, d2, d3] => { results := [.lit (.bool true)], args := [d1, d2, d3] }
  | _ => none }
def resourceKeysRow : OpenClaim := { program := "ytdbbjhbkhimbfaadoor", sum := "64ee6848b7d72f2d566fbf4d952ef02122e4667797dc42803bf418777dd684bc", func := "bitext/bitextlaw8.ResourceKeys", spec := "resourceKeys", inPlace := ["internal/bytealg.IndexByteString", "internal/bytealg.IndexString", "internal/abi.NoEscape"], unfollowed := true, recurses := true, named := ["internal/bytealg.MaxLen", "unicode/utf8.first", "unicode/utf8.acceptRanges"], apart := false, laid := [("unicode/utf8.acceptRanges", laid_unicode_utf8_acceptRanges), ("unicode/utf8.first", laid_unicode_utf8_first)] }
def ResourceKeysSaid : Prop := resourceKeysRow.holds Tryd.pinned (OpenSpec.ofChange resourceKeysSpec)

/-- ITS FALSE NEIGHBOUR: 'it returns false'. Refute it at one input. -/
def resourceKeysWrong : ChangeSpec := { name := "resourceKeys", fn := fun _ => fun
  | [d1, d2, d3] => { results := [.lit (.bool false)], args := [d1, d2, d3] }
  | _ => none }
def ResourceKeysWrongFalsely : Prop := resourceKeysRow.holds Tryd.pinned (OpenSpec.ofChange resourceKeysWrong)

/- THE SECOND FORM. 'bulk': how many values and letters a reading holds, each counted each time it is reached (what is shared counts as often as it is met; a slice's spare places count too). A statement '..UptoSaid' is the law's where the arguments, and the package variables that the reading takes, are together of bulk at most 1048576: NARROWER than '..Said'. Prove '..Said' where nothing that the law and all that it calls make is longer than what came in: it says more and counts as full. Else prove '..UptoSaid'. A law counts once. -/
mutual
def uptoBulk {H : Type} : DataW H → Nat
  | .lit (.string bytes) => bytes.length + 1
  | .lit _ => 1
  | .nil => 1
  | .ptr d => uptoBulk d + 1
  | .slice elems spare => uptoBulkAll elems + uptoBulkAll spare + 1
  | .agg parts => uptoBulkAll parts + 1
  | .iface _ d => uptoBulk d + 1
  | .map entries => uptoBulkEntries entries + 1
  | .held _ => 1
def uptoBulkAll {H : Type} : List (DataW H) → Nat
  | [] => 0
  | d :: r => uptoBulk d + uptoBulkAll r
def uptoBulkEntries {H : Type} : List (Lit × DataW H) → Nat
  | [] => 0
  | x :: r => uptoBulkEntry x + uptoBulkEntries r
def uptoBulkEntry {H : Type} : Lit × DataW H → Nat
  | (.string bytes, d) => bytes.length + uptoBulk d + 1
  | (_, d) => uptoBulk d + 1
 end
def uptoSmall : (H : Type) → List (DataW H) → Bool := fun _ ds => decide (uptoBulkAll ds ≤ 1048576)
def OpenSpec.upto (s : _root_.Go.ChangeSpec) : _root_.Go.OpenSpec := { _root_.Go.OpenSpec.ofChange s with cond := some uptoSmall }

/-- 'bitextlaw8.ResourceLimits', WHERE WHAT IT READS IS OF BULK AT MOST 1048576: true; the input reads as it did. -/
def resourceLimitsUptoRow : OpenClaim := { program := "ytdbbjhbkhimbfaadoor", sum := "64ee6848b7d72f2d566fbf4d952ef02122e4667797dc42803bf418777dd684bc", func := "bitext/bitextlaw8.ResourceLimits", spec := "resourceLimits", inPlace := ["internal/bytealg.IndexByteString", "internal/bytealg.IndexString", "internal/abi.NoEscape"], unfollowed := true, recurses := true, named := ["internal/bytealg.MaxLen", "unicode/utf8.first", "unicode/utf8.acceptRanges"], apart := false, laid := [("unicode/utf8.acceptRanges", laid_unicode_utf8_acceptRanges), ("unicode/utf8.first", laid_unicode_utf8_first)], narrowed := true }
def ResourceLimitsUptoSaid : Prop := resourceLimitsUptoRow.holds Tryd.pinned (OpenSpec.upto resourceLimitsSpec)

/-- 'bitextlaw8.ResourceDecodes', WHERE WHAT IT READS IS OF BULK AT MOST 1048576: true; the input reads as it did. -/
def resourceDecodesUptoRow : OpenClaim := { program := "ytdbbjhbkhimbfaadoor", sum := "64ee6848b7d72f2d566fbf4d952ef02122e4667797dc42803bf418777dd684bc", func := "bitext/bitextlaw8.ResourceDecodes", spec := "resourceDecodes", inPlace := ["internal/bytealg.IndexByteString", "internal/bytealg.IndexString", "internal/abi.NoEscape"], unfollowed := true, recurses := true, named := ["unicode/utf8.first", "unicode/utf8.acceptRanges", "internal/bytealg.MaxLen"], apart := false, laid := [("unicode/utf8.acceptRanges", laid_unicode_utf8_acceptRanges), ("unicode/utf8.first", laid_unicode_utf8_first)], narrowed := true }
def ResourceDecodesUptoSaid : Prop := resourceDecodesUptoRow.holds Tryd.pinned (OpenSpec.upto resourceDecodesSpec)

/-- 'bitextlaw8.ResourceEncodes', WHERE WHAT IT READS IS OF BULK AT MOST 1048576: true; the input reads as it did. -/
def resourceEncodesUptoRow : OpenClaim := { program := "ytdbbjhbkhimbfaadoor", sum := "64ee6848b7d72f2d566fbf4d952ef02122e4667797dc42803bf418777dd684bc", func := "bitext/bitextlaw8.ResourceEncodes", spec := "resourceEncodes", inPlace := ["internal/bytealg.IndexByteString", "internal/bytealg.IndexString", "internal/abi.NoEscape"], unfollowed := true, recurses := true, named := ["unicode/utf8.first", "unicode/utf8.acceptRanges", "internal/bytealg.MaxLen"], apart := false, laid := [("unicode/utf8.acceptRanges", laid_unicode_utf8_acceptRanges), ("unicode/utf8.first", laid_unicode_utf8_first)], narrowed := true }
def ResourceEncodesUptoSaid : Prop := resourceEncodesUptoRow.holds Tryd.pinned (OpenSpec.upto resourceEncodesSpec)

/-- 'bitextlaw8.ResourceRoundTrips', WHERE WHAT IT READS IS OF BULK AT MOST 1048576: true; the input reads as it did. -/
def resourceRoundTripsUptoRow : OpenClaim := { program := "ytdbbjhbkhimbfaadoor", sum := "64ee6848b7d72f2d566fbf4d952ef02122e4667797dc42803bf418777dd684bc", func := "bitext/bitextlaw8.ResourceRoundTrips", spec := "resourceRoundTrips", inPlace := ["internal/bytealg.IndexByteString", "internal/bytealg.IndexString", "internal/abi.NoEscape"], unfollowed := true, recurses := true, named := ["unicode/utf8.first", "unicode/utf8.acceptRanges", "internal/bytealg.MaxLen"], apart := false, laid := [("unicode/utf8.acceptRanges", laid_unicode_utf8_acceptRanges), ("unicode/utf8.first", laid_unicode_utf8_first)], narrowed := true }
def ResourceRoundTripsUptoSaid : Prop := resourceRoundTripsUptoRow.holds Tryd.pinned (OpenSpec.upto resourceRoundTripsSpec)

/-- 'bitextlaw8.ResourceReads', WHERE WHAT IT READS IS OF BULK AT MOST 1048576: true; the input reads as it did. -/
def resourceReadsUptoRow : OpenClaim := { program := "ytdbbjhbkhimbfaadoor", sum := "64ee6848b7d72f2d566fbf4d952ef02122e4667797dc42803bf418777dd684bc", func := "bitext/bitextlaw8.ResourceReads", spec := "resourceReads", inPlace := ["internal/bytealg.IndexByteString", "internal/bytealg.IndexString", "internal/abi.NoEscape"], unfollowed := true, recurses := true, named := ["unicode/utf8.first", "unicode/utf8.acceptRanges", "internal/bytealg.MaxLen"], apart := false, laid := [("unicode/utf8.acceptRanges", laid_unicode_utf8_acceptRanges), ("unicode/utf8.first", laid_unicode_utf8_first)], narrowed := true }
def ResourceReadsUptoSaid : Prop := resourceReadsUptoRow.holds Tryd.pinned (OpenSpec.upto resourceReadsSpec)

/-- 'bitextlaw8.ResourceMixes', WHERE WHAT IT READS IS OF BULK AT MOST 1048576: true; the input reads as it did. -/
def resourceMixesUptoRow : OpenClaim := { program := "ytdbbjhbkhimbfaadoor", sum := "64ee6848b7d72f2d566fbf4d952ef02122e4667797dc42803bf418777dd684bc", func := "bitext/bitextlaw8.ResourceMixes", spec := "resourceMixes", inPlace := ["internal/bytealg.IndexByteString", "internal/bytealg.IndexString", "internal/abi.NoEscape"], unfollowed := true, recurses := true, named := ["unicode/utf8.first", "unicode/utf8.acceptRanges", "internal/bytealg.MaxLen"], apart := false, laid := [("unicode/utf8.acceptRanges", laid_unicode_utf8_acceptRanges), ("unicode/utf8.first", laid_unicode_utf8_first)], narrowed := true }
def ResourceMixesUptoSaid : Prop := resourceMixesUptoRow.holds Tryd.pinned (OpenSpec.upto resourceMixesSpec)

/-- 'bitextlaw8.ResourceParts', WHERE WHAT IT READS IS OF BULK AT MOST 1048576: true; the input reads as it did. -/
def resourcePartsUptoRow : OpenClaim := { program := "ytdbbjhbkhimbfaadoor", sum := "64ee6848b7d72f2d566fbf4d952ef02122e4667797dc42803bf418777dd684bc", func := "bitext/bitextlaw8.ResourceParts", spec := "resourceParts", inPlace := ["internal/bytealg.IndexByteString", "internal/bytealg.IndexString", "internal/abi.NoEscape"], unfollowed := true, recurses := true, named := ["unicode/utf8.first", "unicode/utf8.acceptRanges", "internal/bytealg.MaxLen"], apart := false, laid := [("unicode/utf8.acceptRanges", laid_unicode_utf8_acceptRanges), ("unicode/utf8.first", laid_unicode_utf8_first)], narrowed := true }
def ResourcePartsUptoSaid : Prop := resourcePartsUptoRow.holds Tryd.pinned (OpenSpec.upto resourcePartsSpec)

/-- 'bitextlaw8.ResourceLines', WHERE WHAT IT READS IS OF BULK AT MOST 1048576: true; the input reads as it did. -/
def resourceLinesUptoRow : OpenClaim := { program := "ytdbbjhbkhimbfaadoor", sum := "64ee6848b7d72f2d566fbf4d952ef02122e4667797dc42803bf418777dd684bc", func := "bitext/bitextlaw8.ResourceLines", spec := "resourceLines", inPlace := ["internal/bytealg.IndexByteString", "internal/bytealg.IndexString", "internal/abi.NoEscape"], unfollowed := true, recurses := true, named := ["unicode/utf8.first", "unicode/utf8.acceptRanges", "internal/bytealg.MaxLen"], apart := false, laid := [("unicode/utf8.acceptRanges", laid_unicode_utf8_acceptRanges), ("unicode/utf8.first", laid_unicode_utf8_first)], narrowed := true }
def ResourceLinesUptoSaid : Prop := resourceLinesUptoRow.holds Tryd.pinned (OpenSpec.upto resourceLinesSpec)

/-- 'bitextlaw8.ResourceKeys', WHERE WHAT IT READS IS OF BULK AT MOST 1048576: true; the input reads as it did. -/
def resourceKeysUptoRow : OpenClaim := { program := "ytdbbjhbkhimbfaadoor", sum := "64ee6848b7d72f2d566fbf4d952ef02122e4667797dc42803bf418777dd684bc", func := "bitext/bitextlaw8.ResourceKeys", spec := "resourceKeys", inPlace := ["internal/bytealg.IndexByteString", "internal/bytealg.IndexString", "internal/abi.NoEscape"], unfollowed := true, recurses := true, named := ["internal/bytealg.MaxLen", "unicode/utf8.first", "unicode/utf8.acceptRanges"], apart := false, laid := [("unicode/utf8.acceptRanges", laid_unicode_utf8_acceptRanges), ("unicode/utf8.first", laid_unicode_utf8_first)], narrowed := true }
def ResourceKeysUptoSaid : Prop := resourceKeysUptoRow.holds Tryd.pinned (OpenSpec.upto resourceKeysSpec)

end Rows
end Go.Proofs.YtdbbjhbkhimbfaaDoor
