/-
  No cell of these rows narrows 'for every input' (looked for: loops, veiled, ifaces, maps, wideKeys, modest, calm, conditions, laid).
  DERIVED. THE GIVEN ROWS OF THIS SEAT. 7 by the template 'for every input the law returns true; each argument reads behind the call as it read before'; 0 by the template 'total and deterministic' (their statements: YtinkejbdlfjjbaaTotals.lean).
  GIVEN WITH THE SEED: the statements are not yours to turn. If you find one false, say at which input.
  Laid BY PROGRAM, IN A SANDBOX (cutbox-rows.mjs): the forced cells as the released guide's own fill.sh prints them over the translation 187b8538ca472c37… (all of the seat's roots in one cut). By AI agents, Wed Nov 11 2026. No macro, syntax, notation, axiom, sorry.
-/
import Derived.Test.YtinkejbdlfjjbaaChecked
import GoSem.Claim
import GoSem.ClaimJoined
import GoSem.ClaimMapViews
import Derived.JoinedTies
import Derived.KernelRfl
namespace Go.Proofs.Ytinkejbdlfjjbaa
/- THE CELL 'sum', in the pinned program and in every row, IS THE sha256 OF THE DUMP (.gsa) THAT YtinkejbdlfjjbaaProg.lean LOADS. Nothing in Lean hashes anything: it is a label: what it is worth is what the hold of that sum in a sandbox is worth. -/
noncomputable def Try.pinned : Pinned := { name := "ytinkejbdlfjjbaa", sum := "187b8538ca472c37f0e5509a98de4931c70f3644b7fe24523e143ca6b0760f4d", checked := Try.checked }
namespace Rows
def none {H : Type} : Left H := { results := [], args := [] }

/-- 'bitextlaw11.TokenTokens': WHATEVER THE INPUT: true; the input reads as it did. -/
def tokenTokensSpec : ChangeSpec := { name := "tokenTokens", fn := fun _ => fun
  | [d1, d2, d3] => { results := [.lit (.bool true)], args := [d1, d2, d3] }
  | _ => none }
def tokenTokensRow : OpenClaim := { program := "ytinkejbdlfjjbaa", sum := "187b8538ca472c37f0e5509a98de4931c70f3644b7fe24523e143ca6b0760f4d", func := "bitext/bitextlaw11.TokenTokens", spec := "tokenTokens", inPlace := ["internal/bytealg.IndexByteString"], unfollowed := true, recurses := true, apart := false }
def TokenTokensSaid : Prop := tokenTokensRow.holds Try.pinned (OpenSpec.ofChange tokenTokensSpec)

/-- ITS FALSE NEIGHBOUR: 'it returns false'. Refute it at one input. -/
def tokenTokensWrong : ChangeSpec := { name := "tokenTokens", fn := fun _ => fun
  | [d1, d2, d3] => { results := [.lit (.bool false)], args := [d1, d2, d3] }
  | _ => none }
def TokenTokensWrongFalsely : Prop := tokenTokensRow.holds Try.pinned (OpenSpec.ofChange tokenTokensWrong)

/-- 'bitextlaw11.TokenJoins': WHATEVER THE INPUT: true; the input reads as it did. -/
def tokenJoinsSpec : ChangeSpec := { name := "tokenJoins", fn := fun _ => fun
  | [d] => { results := [.lit (.bool true)], args := [d] }
  | _ => none }
def tokenJoinsRow : OpenClaim := { program := "ytinkejbdlfjjbaa", sum := "187b8538ca472c37f0e5509a98de4931c70f3644b7fe24523e143ca6b0760f4d", func := "bitext/bitextlaw11.TokenJoins", spec := "tokenJoins", inPlace := ["internal/bytealg.IndexByteString", "internal/abi.NoEscape"], unfollowed := true, recurses := true, apart := false }
def TokenJoinsSaid : Prop := tokenJoinsRow.holds Try.pinned (OpenSpec.ofChange tokenJoinsSpec)

/-- ITS FALSE NEIGHBOUR: 'it returns false'. Refute it at one input. -/
def tokenJoinsWrong : ChangeSpec := { name := "tokenJoins", fn := fun _ => fun
  | [d] => { results := [.lit (.bool false)], args := [d] }
  | _ => none }
def TokenJoinsWrongFalsely : Prop := tokenJoinsRow.holds Try.pinned (OpenSpec.ofChange tokenJoinsWrong)

/-- 'bitextlaw11.TokenRoundTrips': WHATEVER THE INPUT: true; the input reads as it did. -/
def tokenRoundTripsSpec : ChangeSpec := { name := "tokenRoundTrips", fn := fun _ => fun
  | [d1, d2] => { results := [.lit (.bool true)], args := [d1, d2] }
  | _ => none }
def tokenRoundTripsRow : OpenClaim := { program := "ytinkejbdlfjjbaa", sum := "187b8538ca472c37f0e5509a98de4931c70f3644b7fe24523e143ca6b0760f4d", func := "bitext/bitextlaw11.TokenRoundTrips", spec := "tokenRoundTrips", inPlace := ["internal/bytealg.IndexByteString", "internal/abi.NoEscape"], unfollowed := true, recurses := true, apart := false }
def TokenRoundTripsSaid : Prop := tokenRoundTripsRow.holds Try.pinned (OpenSpec.ofChange tokenRoundTripsSpec)

/-- ITS FALSE NEIGHBOUR: 'it returns false'. Refute it at one input. -/
def tokenRoundTripsWrong : ChangeSpec := { name := "tokenRoundTrips", fn := fun _ => fun
  | [d1, d2] => { results := [.lit (.bool false)], args := [d1, d2] }
  | _ => none }
def TokenRoundTripsWrongFalsely : Prop := tokenRoundTripsRow.holds Try.pinned (OpenSpec.ofChange tokenRoundTripsWrong)

/-- 'bitextlaw11.TokenShapes': WHATEVER THE INPUT: true; the input reads as it did. -/
def tokenShapesSpec : ChangeSpec := { name := "tokenShapes", fn := fun _ => fun
  | [d] => { results := [.lit (.bool true)], args := [d] }
  | _ => none }
def tokenShapesRow : OpenClaim := { program := "ytinkejbdlfjjbaa", sum := "187b8538ca472c37f0e5509a98de4931c70f3644b7fe24523e143ca6b0760f4d", func := "bitext/bitextlaw11.TokenShapes", spec := "tokenShapes", inPlace := ["internal/bytealg.IndexByteString"], unfollowed := true, recurses := true, apart := false }
def TokenShapesSaid : Prop := tokenShapesRow.holds Try.pinned (OpenSpec.ofChange tokenShapesSpec)

/-- ITS FALSE NEIGHBOUR: 'it returns false'. Refute it at one input. -/
def tokenShapesWrong : ChangeSpec := { name := "tokenShapes", fn := fun _ => fun
  | [d] => { results := [.lit (.bool false)], args := [d] }
  | _ => none }
def TokenShapesWrongFalsely : Prop := tokenShapesRow.holds Try.pinned (OpenSpec.ofChange tokenShapesWrong)

/-- 'bitextlaw11.TokenCuts': WHATEVER THE INPUT: true; the input reads as it did. -/
def tokenCutsSpec : ChangeSpec := { name := "tokenCuts", fn := fun _ => fun
  | [d1, d2] => { results := [.lit (.bool true)], args := [d1, d2] }
  | _ => none }
def tokenCutsRow : OpenClaim := { program := "ytinkejbdlfjjbaa", sum := "187b8538ca472c37f0e5509a98de4931c70f3644b7fe24523e143ca6b0760f4d", func := "bitext/bitextlaw11.TokenCuts", spec := "tokenCuts", inPlace := ["internal/bytealg.IndexByteString"], unfollowed := true, recurses := true, apart := false }
def TokenCutsSaid : Prop := tokenCutsRow.holds Try.pinned (OpenSpec.ofChange tokenCutsSpec)

/-- ITS FALSE NEIGHBOUR: 'it returns false'. Refute it at one input. -/
def tokenCutsWrong : ChangeSpec := { name := "tokenCuts", fn := fun _ => fun
  | [d1, d2] => { results := [.lit (.bool false)], args := [d1, d2] }
  | _ => none }
def TokenCutsWrongFalsely : Prop := tokenCutsRow.holds Try.pinned (OpenSpec.ofChange tokenCutsWrong)

/-- 'bitextlaw11.TokenWeighs': WHATEVER THE INPUT: true; the input reads as it did. -/
def tokenWeighsSpec : ChangeSpec := { name := "tokenWeighs", fn := fun _ => fun
  | [d1, d2, d3] => { results := [.lit (.bool true)], args := [d1, d2, d3] }
  | _ => none }
def tokenWeighsRow : OpenClaim := { program := "ytinkejbdlfjjbaa", sum := "187b8538ca472c37f0e5509a98de4931c70f3644b7fe24523e143ca6b0760f4d", func := "bitext/bitextlaw11.TokenWeighs", spec := "tokenWeighs", inPlace := ["internal/bytealg.IndexByteString"], unfollowed := true, recurses := true, apart := false }
def TokenWeighsSaid : Prop := tokenWeighsRow.holds Try.pinned (OpenSpec.ofChange tokenWeighsSpec)

/-- ITS FALSE NEIGHBOUR: 'it returns false'. Refute it at one input. -/
def tokenWeighsWrong : ChangeSpec := { name := "tokenWeighs", fn := fun _ => fun
  | [d1, d2, d3] => { results := [.lit (.bool false)], args := [d1, d2, d3] }
  | _ => none }
def TokenWeighsWrongFalsely : Prop := tokenWeighsRow.holds Try.pinned (OpenSpec.ofChange tokenWeighsWrong)

/-- 'bitextlaw11.TokenCounts': WHATEVER THE INPUT: true; the input reads as it did. -/
def tokenCountsSpec : ChangeSpec := { name := "tokenCounts", fn := fun _ => fun
  | [d1, d2] => { results := [.lit (.bool true)], args := [d1, d2] }
  | _ => none }
def tokenCountsRow : OpenClaim := { program := "ytinkejbdlfjjbaa", sum := "187b8538ca472c37f0e5509a98de4931c70f3644b7fe24523e143ca6b0760f4d", func := "bitext/bitextlaw11.TokenCounts", spec := "tokenCounts", inPlace := ["internal/bytealg.IndexByteString"], unfollowed := true, recurses := true, apart := false }
def TokenCountsSaid : Prop := tokenCountsRow.holds Try.pinned (OpenSpec.ofChange tokenCountsSpec)

/-- ITS FALSE NEIGHBOUR: 'it returns false'. Refute it at one input. -/
def tokenCountsWrong : ChangeSpec := { name := "tokenCounts", fn := fun _ => fun
  | [d1, d2] => { results := [.lit (.bool false)], args := [d1, d2] }
  | _ => none }
def TokenCountsWrongFalsely : Prop := tokenCountsRow.holds Try.pinned (OpenSpec.ofChange tokenCountsWrong)

/- THE SECOND FORM. 'bulk': how many values and letters a reading holds, each counted each time it is reached (what is shared counts as often as it is met; a slice's spare places count too). A statement '..UptoSaid' is the law's where the arguments, and the package variables that the reading takes, are together of bulk at most 1048576: NARROWER than '..Said'. Prove '..Said' where nothing that the law and all that it calls make is longer than what came in: it says more and counts as full. Else prove '..UptoSaid'. A law counts once. -/
mutual
def uptoBulk {H : Type} : DataW H → Nat
  | .lit (.string bytes) => bytes.length + 1
  | .lit _ => 1
  | .nil => 1
  | .ptr d => uptoBulk d + 1
  | .slice elems spare => uptoBulkAll elems + uptoBulkAll spare + 1
  | .agg parts => uptoBulkAll parts + 1
  | .iface _ d => uptoBulk d + 1
  | .map entries => uptoBulkEntries entries + 1
  | .held _ => 1
def uptoBulkAll {H : Type} : List (DataW H) → Nat
  | [] => 0
  | d :: r => uptoBulk d + uptoBulkAll r
def uptoBulkEntries {H : Type} : List (Lit × DataW H) → Nat
  | [] => 0
  | x :: r => uptoBulkEntry x + uptoBulkEntries r
def uptoBulkEntry {H : Type} : Lit × DataW H → Nat
  | (.string bytes, d) => bytes.length + uptoBulk d + 1
  | (_, d) => uptoBulk d + 1
 end
def uptoSmall : (H : Type) → List (DataW H) → Bool := fun _ ds => decide (uptoBulkAll ds ≤ 1048576)
def OpenSpec.upto (s : _root_.Go.ChangeSpec) : _root_.Go.OpenSpec := { _root_.Go.OpenSpec.ofChange s with cond := some uptoSmall }

/-- 'bitextlaw11.TokenTokens', WHERE WHAT IT READS IS OF BULK AT MOST 1048576: true; the input reads as it did. -/
def tokenTokensUptoRow : OpenClaim := { program := "ytinkejbdlfjjbaa", sum := "187b8538ca472c37f0e5509a98de4931c70f3644b7fe24523e143ca6b0760f4d", func := "bitext/bitextlaw11.TokenTokens", spec := "tokenTokens", inPlace := ["internal/bytealg.IndexByteString"], unfollowed := true, recurses := true, apart := false, narrowed := true }
def TokenTokensUptoSaid : Prop := tokenTokensUptoRow.holds Try.pinned (OpenSpec.upto tokenTokensSpec)

/-- 'bitextlaw11.TokenJoins', WHERE WHAT IT READS IS OF BULK AT MOST 1048576: true; the input reads as it did. -/
def tokenJoinsUptoRow : OpenClaim := { program := "ytinkejbdlfjjbaa", sum := "187b8538ca472c37f0e5509a98de4931c70f3644b7fe24523e143ca6b0760f4d", func := "bitext/bitextlaw11.TokenJoins", spec := "tokenJoins", inPlace := ["internal/bytealg.IndexByteString", "internal/abi.NoEscape"], unfollowed := true, recurses := true, apart := false, narrowed := true }
def TokenJoinsUptoSaid : Prop := tokenJoinsUptoRow.holds Try.pinned (OpenSpec.upto tokenJoinsSpec)

/-- 'bitextlaw11.TokenRoundTrips', WHERE WHAT IT READS IS OF BULK AT MOST 1048576: true; the input reads as it did. -/
def tokenRoundTripsUptoRow : OpenClaim := { program := "ytinkejbdlfjjbaa", sum := "187b8538ca472c37f0e5509a98de4931c70f3644b7fe24523e143ca6b0760f4d", func := "bitext/bitextlaw11.TokenRoundTrips", spec := "tokenRoundTrips", inPlace := ["internal/bytealg.IndexByteString", "internal/abi.NoEscape"], unfollowed := true, recurses := true, apart := false, narrowed := true }
def TokenRoundTripsUptoSaid : Prop := tokenRoundTripsUptoRow.holds Try.pinned (OpenSpec.upto tokenRoundTripsSpec)

/-- 'bitextlaw11.TokenShapes', WHERE WHAT IT READS IS OF BULK AT MOST 1048576: true; the input reads as it did. -/
def tokenShapesUptoRow : OpenClaim := { program := "ytinkejbdlfjjbaa", sum := "187b8538ca472c37f0e5509a98de4931c70f3644b7fe24523e143ca6b0760f4d", func := "bitext/bitextlaw11.TokenShapes", spec := "tokenShapes", inPlace := ["internal/bytealg.IndexByteString"], unfollowed := true, recurses := true, apart := false, narrowed := true }
def TokenShapesUptoSaid : Prop := tokenShapesUptoRow.holds Try.pinned (OpenSpec.upto tokenShapesSpec)

/-- 'bitextlaw11.TokenCuts', WHERE WHAT IT READS IS OF BULK AT MOST 1048576: true; the input reads as it did. -/
def tokenCutsUptoRow : OpenClaim := { program := "ytinkejbdlfjjbaa", sum := "187b8538ca472c37f0e5509a98de4931c70f3644b7fe24523e143ca6b0760f4d", func := "bitext/bitextlaw11.TokenCuts", spec := "tokenCuts", inPlace := ["internal/bytealg.IndexByteString"], unfollowed := true, recurses := true, apart := false, narrowed := true }
def TokenCutsUptoSaid : Prop := tokenCutsUptoRow.holds Try.pinned (OpenSpec.upto tokenCutsSpec)

/-- 'bitextlaw11.TokenWeighs', WHERE WHAT IT READS IS OF BULK AT MOST 1048576: true; the input reads as it did. -/
def tokenWeighsUptoRow : OpenClaim := { program := "ytinkejbdlfjjbaa", sum := "187b8538ca472c37f0e5509a98de4931c70f3644b7fe24523e143ca6b0760f4d", func := "bitext/bitextlaw11.TokenWeighs", spec := "tokenWeighs", inPlace := ["internal/bytealg.IndexByteString"], unfollowed := true, recurses := true, apart := false, narrowed := true }
def TokenWeighsUptoSaid : Prop := tokenWeighsUptoRow.holds Try.pinned (OpenSpec.upto tokenWeighsSpec)

/-- 'bitextlaw11.TokenCounts', WHERE WHAT IT READS IS OF BULK AT MOST 1048576: true; the input reads as it did. -/
def tokenCountsUptoRow : OpenClaim := { program := "ytinkejbdlfjjbaa", sum := "187b8538ca472c37f0e5509a98de4931c70f3644b7fe24523e143ca6b0760f4d", func := "bitext/bitextlaw11.TokenCounts", spec := "tokenCounts", inPlace := ["internal/bytealg.IndexByteString"], unfollowed := true, recurses := true, apart := false, narrowed := true }
def TokenCountsUptoSaid : Prop := tokenCountsUptoRow.holds Try.pinned (OpenSpec.upto tokenCountsSpec)

end Rows
end Go.Proofs.Ytinkejbdlfjjbaa
