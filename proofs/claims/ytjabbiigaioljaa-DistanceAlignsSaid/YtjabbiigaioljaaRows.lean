/-
  No cell of these rows narrows 'for every input' (looked for: loops, veiled, ifaces, maps, wideKeys, modest, calm, conditions, laid).
  DERIVED. THE GIVEN ROWS OF THIS SEAT. 9 by the template 'for every input the law returns true; each argument reads behind the call as it read before'; 0 by the template 'total and deterministic' (their statements: YtjabbiigaioljaaTotals.lean).
  GIVEN WITH THE SEED: the statements are not yours to turn. If you find one false, say at which input.
  Laid BY PROGRAM, IN A SANDBOX (cutbox-rows.mjs): the forced cells as the released guide's own fill.sh prints them over the translation 156ad9b67f07210b… (all of the seat's roots in one cut). By AI agents, Wed Nov 11 2026. No macro, syntax, notation, axiom, sorry.
-/
import Derived.Test.YtjabbiigaioljaaChecked
import GoSem.Claim
import GoSem.ClaimJoined
import GoSem.ClaimMapViews
import Derived.JoinedTies
import Derived.KernelRfl
namespace Go.Proofs.Ytjabbiigaioljaa
/- THE CELL 'sum', in the pinned program and in every row, IS THE sha256 OF THE DUMP (.gsa) THAT YtjabbiigaioljaaProg.lean LOADS. Nothing in Lean hashes anything: it is a label: what it is worth is what the hold of that sum in a sandbox is worth. -/
noncomputable def Try.pinned : Pinned := { name := "ytjabbiigaioljaa", sum := "156ad9b67f07210b3fcda2293077530fd5084c22f2ddb82d5c9923bf0127ec96", checked := Try.checked }
namespace Rows
def none {H : Type} : Left H := { results := [], args := [] }

/-- 'bitextlaw12.DistanceCosts': WHATEVER THE INPUT: true; the input reads as it did. -/
def distanceCostsSpec : ChangeSpec := { name := "distanceCosts", fn := fun _ => fun
  | [d1, d2, d3, d4, d5] => { results := [.lit (.bool true)], args := [d1, d2, d3, d4, d5] }
  | _ => none }
def distanceCostsRow : OpenClaim := { program := "ytjabbiigaioljaa", sum := "156ad9b67f07210b3fcda2293077530fd5084c22f2ddb82d5c9923bf0127ec96", func := "bitext/bitextlaw12.DistanceCosts", spec := "distanceCosts", plainKeys := false, apart := false }
def DistanceCostsSaid : Prop := distanceCostsRow.holds Try.pinned (OpenSpec.ofChange distanceCostsSpec)

/-- ITS FALSE NEIGHBOUR: 'it returns false'. Refute it at one input. -/
def distanceCostsWrong : ChangeSpec := { name := "distanceCosts", fn := fun _ => fun
  | [d1, d2, d3, d4, d5] => { results := [.lit (.bool false)], args := [d1, d2, d3, d4, d5] }
  | _ => none }
def DistanceCostsWrongFalsely : Prop := distanceCostsRow.holds Try.pinned (OpenSpec.ofChange distanceCostsWrong)

/-- 'bitextlaw12.DistancePrices': WHATEVER THE INPUT: true; the input reads as it did. -/
def distancePricesSpec : ChangeSpec := { name := "distancePrices", fn := fun _ => fun
  | [d1, d2, d3, d4, d5] => { results := [.lit (.bool true)], args := [d1, d2, d3, d4, d5] }
  | _ => none }
def distancePricesRow : OpenClaim := { program := "ytjabbiigaioljaa", sum := "156ad9b67f07210b3fcda2293077530fd5084c22f2ddb82d5c9923bf0127ec96", func := "bitext/bitextlaw12.DistancePrices", spec := "distancePrices", plainKeys := false, apart := false }
def DistancePricesSaid : Prop := distancePricesRow.holds Try.pinned (OpenSpec.ofChange distancePricesSpec)

/-- ITS FALSE NEIGHBOUR: 'it returns false'. Refute it at one input. -/
def distancePricesWrong : ChangeSpec := { name := "distancePrices", fn := fun _ => fun
  | [d1, d2, d3, d4, d5] => { results := [.lit (.bool false)], args := [d1, d2, d3, d4, d5] }
  | _ => none }
def DistancePricesWrongFalsely : Prop := distancePricesRow.holds Try.pinned (OpenSpec.ofChange distancePricesWrong)

/-- 'bitextlaw12.DistanceSays': WHATEVER THE INPUT: true; the input reads as it did. -/
def distanceSaysSpec : ChangeSpec := { name := "distanceSays", fn := fun _ => fun
  | [d1, d2, d3, d4, d5] => { results := [.lit (.bool true)], args := [d1, d2, d3, d4, d5] }
  | _ => none }
def distanceSaysRow : OpenClaim := { program := "ytjabbiigaioljaa", sum := "156ad9b67f07210b3fcda2293077530fd5084c22f2ddb82d5c9923bf0127ec96", func := "bitext/bitextlaw12.DistanceSays", spec := "distanceSays", recurses := true, plainKeys := false, apart := false }
def DistanceSaysSaid : Prop := distanceSaysRow.holds Try.pinned (OpenSpec.ofChange distanceSaysSpec)

/-- ITS FALSE NEIGHBOUR: 'it returns false'. Refute it at one input. -/
def distanceSaysWrong : ChangeSpec := { name := "distanceSays", fn := fun _ => fun
  | [d1, d2, d3, d4, d5] => { results := [.lit (.bool false)], args := [d1, d2, d3, d4, d5] }
  | _ => none }
def DistanceSaysWrongFalsely : Prop := distanceSaysRow.holds Try.pinned (OpenSpec.ofChange distanceSaysWrong)

/-- 'bitextlaw12.DistanceAny': WHATEVER THE INPUT: true; the input reads as it did. -/
def distanceAnySpec : ChangeSpec := { name := "distanceAny", fn := fun _ => fun
  | [d1, d2] => { results := [.lit (.bool true)], args := [d1, d2] }
  | _ => none }
def distanceAnyRow : OpenClaim := { program := "ytjabbiigaioljaa", sum := "156ad9b67f07210b3fcda2293077530fd5084c22f2ddb82d5c9923bf0127ec96", func := "bitext/bitextlaw12.DistanceAny", spec := "distanceAny", recurses := true, plainKeys := false, apart := false }
def DistanceAnySaid : Prop := distanceAnyRow.holds Try.pinned (OpenSpec.ofChange distanceAnySpec)

/-- ITS FALSE NEIGHBOUR: 'it returns false'. Refute it at one input. -/
def distanceAnyWrong : ChangeSpec := { name := "distanceAny", fn := fun _ => fun
  | [d1, d2] => { results := [.lit (.bool false)], args := [d1, d2] }
  | _ => none }
def DistanceAnyWrongFalsely : Prop := distanceAnyRow.holds Try.pinned (OpenSpec.ofChange distanceAnyWrong)

/-- 'bitextlaw12.DistanceLeast': WHATEVER THE INPUT: true; the input reads as it did. -/
def distanceLeastSpec : ChangeSpec := { name := "distanceLeast", fn := fun _ => fun
  | [d1, d2, d3, d4] => { results := [.lit (.bool true)], args := [d1, d2, d3, d4] }
  | _ => none }
def distanceLeastRow : OpenClaim := { program := "ytjabbiigaioljaa", sum := "156ad9b67f07210b3fcda2293077530fd5084c22f2ddb82d5c9923bf0127ec96", func := "bitext/bitextlaw12.DistanceLeast", spec := "distanceLeast", recurses := true, plainKeys := false, apart := false }
def DistanceLeastSaid : Prop := distanceLeastRow.holds Try.pinned (OpenSpec.ofChange distanceLeastSpec)

/-- ITS FALSE NEIGHBOUR: 'it returns false'. Refute it at one input. -/
def distanceLeastWrong : ChangeSpec := { name := "distanceLeast", fn := fun _ => fun
  | [d1, d2, d3, d4] => { results := [.lit (.bool false)], args := [d1, d2, d3, d4] }
  | _ => none }
def DistanceLeastWrongFalsely : Prop := distanceLeastRow.holds Try.pinned (OpenSpec.ofChange distanceLeastWrong)

/-- 'bitextlaw12.DistanceAligns': WHATEVER THE INPUT: true; the input reads as it did. -/
def distanceAlignsSpec : ChangeSpec := { name := "distanceAligns", fn := fun _ => fun
  | [d1, d2, d3] => { results := [.lit (.bool true)], args := [d1, d2, d3] }
  | _ => none }
def distanceAlignsRow : OpenClaim := { program := "ytjabbiigaioljaa", sum := "156ad9b67f07210b3fcda2293077530fd5084c22f2ddb82d5c9923bf0127ec96", func := "bitext/bitextlaw12.DistanceAligns", spec := "distanceAligns", recurses := true, plainKeys := false, apart := false }
def DistanceAlignsSaid : Prop := distanceAlignsRow.holds Try.pinned (OpenSpec.ofChange distanceAlignsSpec)

/-- ITS FALSE NEIGHBOUR: 'it returns false'. Refute it at one input. -/
def distanceAlignsWrong : ChangeSpec := { name := "distanceAligns", fn := fun _ => fun
  | [d1, d2, d3] => { results := [.lit (.bool false)], args := [d1, d2, d3] }
  | _ => none }
def DistanceAlignsWrongFalsely : Prop := distanceAlignsRow.holds Try.pinned (OpenSpec.ofChange distanceAlignsWrong)

/-- 'bitextlaw12.DistanceMetric': WHATEVER THE INPUT: true; the input reads as it did. -/
def distanceMetricSpec : ChangeSpec := { name := "distanceMetric", fn := fun _ => fun
  | [d1, d2, d3] => { results := [.lit (.bool true)], args := [d1, d2, d3] }
  | _ => none }
def distanceMetricRow : OpenClaim := { program := "ytjabbiigaioljaa", sum := "156ad9b67f07210b3fcda2293077530fd5084c22f2ddb82d5c9923bf0127ec96", func := "bitext/bitextlaw12.DistanceMetric", spec := "distanceMetric", plainKeys := false, apart := false }
def DistanceMetricSaid : Prop := distanceMetricRow.holds Try.pinned (OpenSpec.ofChange distanceMetricSpec)

/-- ITS FALSE NEIGHBOUR: 'it returns false'. Refute it at one input. -/
def distanceMetricWrong : ChangeSpec := { name := "distanceMetric", fn := fun _ => fun
  | [d1, d2, d3] => { results := [.lit (.bool false)], args := [d1, d2, d3] }
  | _ => none }
def DistanceMetricWrongFalsely : Prop := distanceMetricRow.holds Try.pinned (OpenSpec.ofChange distanceMetricWrong)

/-- 'bitextlaw12.DistanceMoves': WHATEVER THE INPUT: true; the input reads as it did. -/
def distanceMovesSpec : ChangeSpec := { name := "distanceMoves", fn := fun _ => fun
  | [d1, d2, d3] => { results := [.lit (.bool true)], args := [d1, d2, d3] }
  | _ => none }
def distanceMovesRow : OpenClaim := { program := "ytjabbiigaioljaa", sum := "156ad9b67f07210b3fcda2293077530fd5084c22f2ddb82d5c9923bf0127ec96", func := "bitext/bitextlaw12.DistanceMoves", spec := "distanceMoves", plainKeys := false, apart := false }
def DistanceMovesSaid : Prop := distanceMovesRow.holds Try.pinned (OpenSpec.ofChange distanceMovesSpec)

/-- ITS FALSE NEIGHBOUR: 'it returns false'. Refute it at one input. -/
def distanceMovesWrong : ChangeSpec := { name := "distanceMoves", fn := fun _ => fun
  | [d1, d2, d3] => { results := [.lit (.bool false)], args := [d1, d2, d3] }
  | _ => none }
def DistanceMovesWrongFalsely : Prop := distanceMovesRow.holds Try.pinned (OpenSpec.ofChange distanceMovesWrong)

/-- 'bitextlaw12.DistanceJoins': WHATEVER THE INPUT: true; the input reads as it did. -/
def distanceJoinsSpec : ChangeSpec := { name := "distanceJoins", fn := fun _ => fun
  | [d1, d2, d3] => { results := [.lit (.bool true)], args := [d1, d2, d3] }
  | _ => none }
def distanceJoinsRow : OpenClaim := { program := "ytjabbiigaioljaa", sum := "156ad9b67f07210b3fcda2293077530fd5084c22f2ddb82d5c9923bf0127ec96", func := "bitext/bitextlaw12.DistanceJoins", spec := "distanceJoins", plainKeys := false, apart := false }
def DistanceJoinsSaid : Prop := distanceJoinsRow.holds Try.pinned (OpenSpec.ofChange distanceJoinsSpec)

/-- ITS FALSE NEIGHBOUR: 'it returns false'. Refute it at one input. -/
def distanceJoinsWrong : ChangeSpec := { name := "distanceJoins", fn := fun _ => fun
  | [d1, d2, d3] => { results := [.lit (.bool false)], args := [d1, d2, d3] }
  | _ => none }
def DistanceJoinsWrongFalsely : Prop := distanceJoinsRow.holds Try.pinned (OpenSpec.ofChange distanceJoinsWrong)

/- THE SECOND FORM. 'bulk': how many values and letters a reading holds, each counted each time it is reached (what is shared counts as often as it is met; a slice's spare places count too). A statement '..UptoSaid' is the law's where the arguments, and the package variables that the reading takes, are together of bulk at most 1048576: NARROWER than '..Said'. Prove '..Said' where nothing that the law and all that it calls make is longer than what came in: it says more and counts as full. Else prove '..UptoSaid'. A law counts once. -/
mutual
def uptoBulk {H : Type} : DataW H → Nat
  | .lit (.string bytes) => bytes.length + 1
  | .lit _ => 1
  | .nil => 1
  | .ptr d => uptoBulk d + 1
  | .slice elems spare => uptoBulkAll elems + uptoBulkAll spare + 1
  | .agg parts => uptoBulkAll parts + 1
  | .iface _ d => uptoBulk d + 1
  | .map entries => uptoBulkEntries entries + 1
  | .held _ => 1
def uptoBulkAll {H : Type} : List (DataW H) → Nat
  | [] => 0
  | d :: r => uptoBulk d + uptoBulkAll r
def uptoBulkEntries {H : Type} : List (Lit × DataW H) → Nat
  | [] => 0
  | x :: r => uptoBulkEntry x + uptoBulkEntries r
def uptoBulkEntry {H : Type} : Lit × DataW H → Nat
  | (.string bytes, d) => bytes.length + uptoBulk d + 1
  | (_, d) => uptoBulk d + 1
 end
def uptoSmall : (H : Type) → List (DataW H) → Bool := fun _ ds => decide (uptoBulkAll ds ≤ 1048576)
def OpenSpec.upto (s : _root_.Go.ChangeSpec) : _root_.Go.OpenSpec := { _root_.Go.OpenSpec.ofChange s with cond := some uptoSmall }

/-- 'bitextlaw12.DistanceCosts', WHERE WHAT IT READS IS OF BULK AT MOST 1048576: true; the input reads as it did. -/
def distanceCostsUptoRow : OpenClaim := { program := "ytjabbiigaioljaa", sum := "156ad9b67f07210b3fcda2293077530fd5084c22f2ddb82d5c9923bf0127ec96", func := "bitext/bitextlaw12.DistanceCosts", spec := "distanceCosts", plainKeys := false, apart := false, narrowed := true }
def DistanceCostsUptoSaid : Prop := distanceCostsUptoRow.holds Try.pinned (OpenSpec.upto distanceCostsSpec)

/-- 'bitextlaw12.DistancePrices', WHERE WHAT IT READS IS OF BULK AT MOST 1048576: true; the input reads as it did. -/
def distancePricesUptoRow : OpenClaim := { program := "ytjabbiigaioljaa", sum := "156ad9b67f07210b3fcda2293077530fd5084c22f2ddb82d5c9923bf0127ec96", func := "bitext/bitextlaw12.DistancePrices", spec := "distancePrices", plainKeys := false, apart := false, narrowed := true }
def DistancePricesUptoSaid : Prop := distancePricesUptoRow.holds Try.pinned (OpenSpec.upto distancePricesSpec)

/-- 'bitextlaw12.DistanceSays', WHERE WHAT IT READS IS OF BULK AT MOST 1048576: true; the input reads as it did. -/
def distanceSaysUptoRow : OpenClaim := { program := "ytjabbiigaioljaa", sum := "156ad9b67f07210b3fcda2293077530fd5084c22f2ddb82d5c9923bf0127ec96", func := "bitext/bitextlaw12.DistanceSays", spec := "distanceSays", recurses := true, plainKeys := false, apart := false, narrowed := true }
def DistanceSaysUptoSaid : Prop := distanceSaysUptoRow.holds Try.pinned (OpenSpec.upto distanceSaysSpec)

/-- 'bitextlaw12.DistanceAny', WHERE WHAT IT READS IS OF BULK AT MOST 1048576: true; the input reads as it did. -/
def distanceAnyUptoRow : OpenClaim := { program := "ytjabbiigaioljaa", sum := "156ad9b67f07210b3fcda2293077530fd5084c22f2ddb82d5c9923bf0127ec96", func := "bitext/bitextlaw12.DistanceAny", spec := "distanceAny", recurses := true, plainKeys := false, apart := false, narrowed := true }
def DistanceAnyUptoSaid : Prop := distanceAnyUptoRow.holds Try.pinned (OpenSpec.upto distanceAnySpec)

/-- 'bitextlaw12.DistanceLeast', WHERE WHAT IT READS IS OF BULK AT MOST 1048576: true; the input reads as it did. -/
def distanceLeastUptoRow : OpenClaim := { program := "ytjabbiigaioljaa", sum := "156ad9b67f07210b3fcda2293077530fd5084c22f2ddb82d5c9923bf0127ec96", func := "bitext/bitextlaw12.DistanceLeast", spec := "distanceLeast", recurses := true, plainKeys := false, apart := false, narrowed := true }
def DistanceLeastUptoSaid : Prop := distanceLeastUptoRow.holds Try.pinned (OpenSpec.upto distanceLeastSpec)

/-- 'bitextlaw12.DistanceAligns', WHERE WHAT IT READS IS OF BULK AT MOST 1048576: true; the input reads as it did. -/
def distanceAlignsUptoRow : OpenClaim := { program := "ytjabbiigaioljaa", sum := "156ad9b67f07210b3fcda2293077530fd5084c22f2ddb82d5c9923bf0127ec96", func := "bitext/bitextlaw12.DistanceAligns", spec := "distanceAligns", recurses := true, plainKeys := false, apart := false, narrowed := true }
def DistanceAlignsUptoSaid : Prop := distanceAlignsUptoRow.holds Try.pinned (OpenSpec.upto distanceAlignsSpec)

/-- 'bitextlaw12.DistanceMetric', WHERE WHAT IT READS IS OF BULK AT MOST 1048576: true; the input reads as it did. -/
def distanceMetricUptoRow : OpenClaim := { program := "ytjabbiigaioljaa", sum := "156ad9b67f07210b3fcda2293077530fd5084c22f2ddb82d5c9923bf0127ec96", func := "bitext/bitextlaw12.DistanceMetric", spec := "distanceMetric", plainKeys := false, apart := false, narrowed := true }
def DistanceMetricUptoSaid : Prop := distanceMetricUptoRow.holds Try.pinned (OpenSpec.upto distanceMetricSpec)

/-- 'bitextlaw12.DistanceMoves', WHERE WHAT IT READS IS OF BULK AT MOST 1048576: true; the input reads as it did. -/
def distanceMovesUptoRow : OpenClaim := { program := "ytjabbiigaioljaa", sum := "156ad9b67f07210b3fcda2293077530fd5084c22f2ddb82d5c9923bf0127ec96", func := "bitext/bitextlaw12.DistanceMoves", spec := "distanceMoves", plainKeys := false, apart := false, narrowed := true }
def DistanceMovesUptoSaid : Prop := distanceMovesUptoRow.holds Try.pinned (OpenSpec.upto distanceMovesSpec)

/-- 'bitextlaw12.DistanceJoins', WHERE WHAT IT READS IS OF BULK AT MOST 1048576: true; the input reads as it did. -/
def distanceJoinsUptoRow : OpenClaim := { program := "ytjabbiigaioljaa", sum := "156ad9b67f07210b3fcda2293077530fd5084c22f2ddb82d5c9923bf0127ec96", func := "bitext/bitextlaw12.DistanceJoins", spec := "distanceJoins", plainKeys := false, apart := false, narrowed := true }
def DistanceJoinsUptoSaid : Prop := distanceJoinsUptoRow.holds Try.pinned (OpenSpec.upto distanceJoinsSpec)

end Rows
end Go.Proofs.Ytjabbiigaioljaa
