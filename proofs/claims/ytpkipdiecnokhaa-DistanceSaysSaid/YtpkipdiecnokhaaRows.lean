/-
  No cell of these rows narrows 'for every input' (looked for: loops, veiled, ifaces, maps, wideKeys, modest, calm, conditions, laid).
  DERIVED. THE GIVEN ROWS OF THIS SEAT. 10 by the template 'for every input the law returns true; each argument reads behind the call as it read before'; 0 by the template 'total and deterministic' (their statements: YtpkipdiecnokhaaTotals.lean).
  GIVEN WITH THE SEED: the statements are not yours to turn. If you find one false, say at which input.
  Laid BY PROGRAM, IN A SANDBOX (cutbox-rows.mjs): the forced cells as the released guide's own fill.sh prints them over the translation d4ba4f4274011e18… (all of the seat's roots in one cut). By AI agents, Wed Nov 11 2026. No macro, syntax, notation, axiom, sorry.
-/
import Derived.Test.YtpkipdiecnokhaaChecked
import GoSem.Claim
import GoSem.ClaimJoined
import GoSem.ClaimMapViews
import Derived.JoinedTies
import Derived.KernelRfl
namespace Go.Proofs.Ytpkipdiecnokhaa
/- THE CELL 'sum', in the pinned program and in every row, IS THE sha256 OF THE DUMP (.gsa) THAT YtpkipdiecnokhaaProg.lean LOADS. Nothing in Lean hashes anything: it is a label: what it is worth is what the hold of that sum in a sandbox is worth. -/
noncomputable def Try.pinned : Pinned := { name := "ytpkipdiecnokhaa", sum := "d4ba4f4274011e186181078ce9b339fb9fa012e4e8a65cf78a7f632b00cc94d3", checked := Try.checked }
namespace Rows
def none {H : Type} : Left H := { results := [], args := [] }

/-- 'bitextlaw13.ScorePercents': WHATEVER THE INPUT: true; the input reads as it did. -/
def scorePercentsSpec : ChangeSpec := { name := "scorePercents", fn := fun _ => fun
  | [d1, d2, d3, d4] => { results := [.lit (.bool true)], args := [d1, d2, d3, d4] }
  | _ => none }
def scorePercentsRow : OpenClaim := { program := "ytpkipdiecnokhaa", sum := "d4ba4f4274011e186181078ce9b339fb9fa012e4e8a65cf78a7f632b00cc94d3", func := "bitext/bitextlaw13.ScorePercents", spec := "scorePercents", plainKeys := false, apart := false }
def ScorePercentsSaid : Prop := scorePercentsRow.holds Try.pinned (OpenSpec.ofChange scorePercentsSpec)

/-- ITS FALSE NEIGHBOUR: 'it returns false'. Refute it at one input. -/
def scorePercentsWrong : ChangeSpec := { name := "scorePercents", fn := fun _ => fun
  | [d1, d2, d3, d4] => { results := [.lit (.bool false)], args := [d1, d2, d3, d4] }
  | _ => none }
def ScorePercentsWrongFalsely : Prop := scorePercentsRow.holds Try.pinned (OpenSpec.ofChange scorePercentsWrong)

/-- 'bitextlaw13.ScoreAllows': WHATEVER THE INPUT: true; the input reads as it did. -/
def scoreAllowsSpec : ChangeSpec := { name := "scoreAllows", fn := fun _ => fun
  | [d1, d2] => { results := [.lit (.bool true)], args := [d1, d2] }
  | _ => none }
def scoreAllowsRow : OpenClaim := { program := "ytpkipdiecnokhaa", sum := "d4ba4f4274011e186181078ce9b339fb9fa012e4e8a65cf78a7f632b00cc94d3", func := "bitext/bitextlaw13.ScoreAllows", spec := "scoreAllows", plainKeys := false, apart := false }
def ScoreAllowsSaid : Prop := scoreAllowsRow.holds Try.pinned (OpenSpec.ofChange scoreAllowsSpec)

/-- ITS FALSE NEIGHBOUR: 'it returns false'. Refute it at one input. -/
def scoreAllowsWrong : ChangeSpec := { name := "scoreAllows", fn := fun _ => fun
  | [d1, d2] => { results := [.lit (.bool false)], args := [d1, d2] }
  | _ => none }
def ScoreAllowsWrongFalsely : Prop := scoreAllowsRow.holds Try.pinned (OpenSpec.ofChange scoreAllowsWrong)

/-- 'bitextlaw13.ScoreThresholds': WHATEVER THE INPUT: true; the input reads as it did. -/
def scoreThresholdsSpec : ChangeSpec := { name := "scoreThresholds", fn := fun _ => fun
  | [d1, d2, d3] => { results := [.lit (.bool true)], args := [d1, d2, d3] }
  | _ => none }
def scoreThresholdsRow : OpenClaim := { program := "ytpkipdiecnokhaa", sum := "d4ba4f4274011e186181078ce9b339fb9fa012e4e8a65cf78a7f632b00cc94d3", func := "bitext/bitextlaw13.ScoreThresholds", spec := "scoreThresholds", plainKeys := false, apart := false }
def ScoreThresholdsSaid : Prop := scoreThresholdsRow.holds Try.pinned (OpenSpec.ofChange scoreThresholdsSpec)

/-- ITS FALSE NEIGHBOUR: 'it returns false'. Refute it at one input. -/
def scoreThresholdsWrong : ChangeSpec := { name := "scoreThresholds", fn := fun _ => fun
  | [d1, d2, d3] => { results := [.lit (.bool false)], args := [d1, d2, d3] }
  | _ => none }
def ScoreThresholdsWrongFalsely : Prop := scoreThresholdsRow.holds Try.pinned (OpenSpec.ofChange scoreThresholdsWrong)

/-- 'bitextlaw13.ScoreBounds': WHATEVER THE INPUT: true; the input reads as it did. -/
def scoreBoundsSpec : ChangeSpec := { name := "scoreBounds", fn := fun _ => fun
  | [d1, d2, d3] => { results := [.lit (.bool true)], args := [d1, d2, d3] }
  | _ => none }
def scoreBoundsRow : OpenClaim := { program := "ytpkipdiecnokhaa", sum := "d4ba4f4274011e186181078ce9b339fb9fa012e4e8a65cf78a7f632b00cc94d3", func := "bitext/bitextlaw13.ScoreBounds", spec := "scoreBounds", plainKeys := false, apart := false }
def ScoreBoundsSaid : Prop := scoreBoundsRow.holds Try.pinned (OpenSpec.ofChange scoreBoundsSpec)

/-- ITS FALSE NEIGHBOUR: 'it returns false'. Refute it at one input. -/
def scoreBoundsWrong : ChangeSpec := { name := "scoreBounds", fn := fun _ => fun
  | [d1, d2, d3] => { results := [.lit (.bool false)], args := [d1, d2, d3] }
  | _ => none }
def ScoreBoundsWrongFalsely : Prop := scoreBoundsRow.holds Try.pinned (OpenSpec.ofChange scoreBoundsWrong)

/-- 'bitextlaw13.ScoreMonotone': WHATEVER THE INPUT: true; the input reads as it did. -/
def scoreMonotoneSpec : ChangeSpec := { name := "scoreMonotone", fn := fun _ => fun
  | [d1, d2, d3] => { results := [.lit (.bool true)], args := [d1, d2, d3] }
  | _ => none }
def scoreMonotoneRow : OpenClaim := { program := "ytpkipdiecnokhaa", sum := "d4ba4f4274011e186181078ce9b339fb9fa012e4e8a65cf78a7f632b00cc94d3", func := "bitext/bitextlaw13.ScoreMonotone", spec := "scoreMonotone", plainKeys := false, apart := false }
def ScoreMonotoneSaid : Prop := scoreMonotoneRow.holds Try.pinned (OpenSpec.ofChange scoreMonotoneSpec)

/-- ITS FALSE NEIGHBOUR: 'it returns false'. Refute it at one input. -/
def scoreMonotoneWrong : ChangeSpec := { name := "scoreMonotone", fn := fun _ => fun
  | [d1, d2, d3] => { results := [.lit (.bool false)], args := [d1, d2, d3] }
  | _ => none }
def ScoreMonotoneWrongFalsely : Prop := scoreMonotoneRow.holds Try.pinned (OpenSpec.ofChange scoreMonotoneWrong)

/-- 'bitextlaw13.ScoreContexts': WHATEVER THE INPUT: true; the input reads as it did. -/
def scoreContextsSpec : ChangeSpec := { name := "scoreContexts", fn := fun _ => fun
  | [d1, d2, d3, d4, d5] => { results := [.lit (.bool true)], args := [d1, d2, d3, d4, d5] }
  | _ => none }
def scoreContextsRow : OpenClaim := { program := "ytpkipdiecnokhaa", sum := "d4ba4f4274011e186181078ce9b339fb9fa012e4e8a65cf78a7f632b00cc94d3", func := "bitext/bitextlaw13.ScoreContexts", spec := "scoreContexts", plainKeys := false, apart := false }
def ScoreContextsSaid : Prop := scoreContextsRow.holds Try.pinned (OpenSpec.ofChange scoreContextsSpec)

/-- ITS FALSE NEIGHBOUR: 'it returns false'. Refute it at one input. -/
def scoreContextsWrong : ChangeSpec := { name := "scoreContexts", fn := fun _ => fun
  | [d1, d2, d3, d4, d5] => { results := [.lit (.bool false)], args := [d1, d2, d3, d4, d5] }
  | _ => none }
def ScoreContextsWrongFalsely : Prop := scoreContextsRow.holds Try.pinned (OpenSpec.ofChange scoreContextsWrong)

/-- 'bitextlaw12.DistancePrices': WHATEVER THE INPUT: true; the input reads as it did. -/
def distancePricesSpec : ChangeSpec := { name := "distancePrices", fn := fun _ => fun
  | [d1, d2, d3, d4, d5] => { results := [.lit (.bool true)], args := [d1, d2, d3, d4, d5] }
  | _ => none }
def distancePricesRow : OpenClaim := { program := "ytpkipdiecnokhaa", sum := "d4ba4f4274011e186181078ce9b339fb9fa012e4e8a65cf78a7f632b00cc94d3", func := "bitext/bitextlaw12.DistancePrices", spec := "distancePrices", plainKeys := false, apart := false }
def DistancePricesSaid : Prop := distancePricesRow.holds Try.pinned (OpenSpec.ofChange distancePricesSpec)

/-- ITS FALSE NEIGHBOUR: 'it returns false'. Refute it at one input. -/
def distancePricesWrong : ChangeSpec := { name := "distancePrices", fn := fun _ => fun
  | [d1, d2, d3, d4, d5] => { results := [.lit (.bool false)], args := [d1, d2, d3, d4, d5] }
  | _ => none }
def DistancePricesWrongFalsely : Prop := distancePricesRow.holds Try.pinned (OpenSpec.ofChange distancePricesWrong)

/-- 'bitextlaw12.DistanceSays': WHATEVER THE INPUT: true; the input reads as it did. -/
def distanceSaysSpec : ChangeSpec := { name := "distanceSays", fn := fun _ => fun
  | [d1, d2, d3, d4, d5] => { results := [.lit (.bool true)], args := [d1, d2, d3, d4, d5] }
  | _ => none }
def distanceSaysRow : OpenClaim := { program := "ytpkipdiecnokhaa", sum := "d4ba4f4274011e186181078ce9b339fb9fa012e4e8a65cf78a7f632b00cc94d3", func := "bitext/bitextlaw12.DistanceSays", spec := "distanceSays", recurses := true, plainKeys := false, apart := false }
def DistanceSaysSaid : Prop := distanceSaysRow.holds Try.pinned (OpenSpec.ofChange distanceSaysSpec)

/-- ITS FALSE NEIGHBOUR: 'it returns false'. Refute it at one input. -/
def distanceSaysWrong : ChangeSpec := { name := "distanceSays", fn := fun _ => fun
  | [d1, d2, d3, d4, d5] => { results := [.lit (.bool false)], args := [d1, d2, d3, d4, d5] }
  | _ => none }
def DistanceSaysWrongFalsely : Prop := distanceSaysRow.holds Try.pinned (OpenSpec.ofChange distanceSaysWrong)

/-- 'bitextlaw12.DistanceAny': WHATEVER THE INPUT: true; the input reads as it did. -/
def distanceAnySpec : ChangeSpec := { name := "distanceAny", fn := fun _ => fun
  | [d1, d2] => { results := [.lit (.bool true)], args := [d1, d2] }
  | _ => none }
def distanceAnyRow : OpenClaim := { program := "ytpkipdiecnokhaa", sum := "d4ba4f4274011e186181078ce9b339fb9fa012e4e8a65cf78a7f632b00cc94d3", func := "bitext/bitextlaw12.DistanceAny", spec := "distanceAny", recurses := true, plainKeys := false, apart := false }
def DistanceAnySaid : Prop := distanceAnyRow.holds Try.pinned (OpenSpec.ofChange distanceAnySpec)

/-- ITS FALSE NEIGHBOUR: 'it returns false'. Refute it at one input. -/
def distanceAnyWrong : ChangeSpec := { name := "distanceAny", fn := fun _ => fun
  | [d1, d2] => { results := [.lit (.bool false)], args := [d1, d2] }
  | _ => none }
def DistanceAnyWrongFalsely : Prop := distanceAnyRow.holds Try.pinned (OpenSpec.ofChange distanceAnyWrong)

/-- 'bitextlaw12.DistanceLeast': WHATEVER THE INPUT: true; the input reads as it did. -/
def distanceLeastSpec : ChangeSpec := { name := "distanceLeast", fn := fun _ => fun
  | [d1, d2, d3, d4] => { results := [.lit (.bool true)], args := [d1, d2, d3, d4] }
  | _ => none }
def distanceLeastRow : OpenClaim := { program := "ytpkipdiecnokhaa", sum := "d4ba4f4274011e186181078ce9b339fb9fa012e4e8a65cf78a7f632b00cc94d3", func := "bitext/bitextlaw12.DistanceLeast", spec := "distanceLeast", recurses := true, plainKeys := false, apart := false }
def DistanceLeastSaid : Prop := distanceLeastRow.holds Try.pinned (OpenSpec.ofChange distanceLeastSpec)

/-- ITS FALSE NEIGHBOUR: 'it returns false'. Refute it at one input. -/
def distanceLeastWrong : ChangeSpec := { name := "distanceLeast", fn := fun _ => fun
  | [d1, d2, d3, d4] => { results := [.lit (.bool false)], args := [d1, d2, d3, d4] }
  | _ => none }
def DistanceLeastWrongFalsely : Prop := distanceLeastRow.holds Try.pinned (OpenSpec.ofChange distanceLeastWrong)

/- THE SECOND FORM. 'bulk': how many values and letters a reading holds, each counted each time it is reached (what is shared counts as often as it is met; a slice's spare places count too). A statement '..UptoSaid' is the law's where the arguments, and the package variables that the reading takes, are together of bulk at most 1048576: NARROWER than '..Said'. Prove '..Said' where nothing that the law and all that it calls make is longer than what came in: it says more and counts as full. Else prove '..UptoSaid'. A law counts once. -/
mutual
def uptoBulk {H : Type} : DataW H → Nat
  | .lit (.string bytes) => bytes.length + 1
  | .lit _ => 1
  | .nil => 1
  | .ptr d => uptoBulk d + 1
  | .slice elems spare => uptoBulkAll elems + uptoBulkAll spare + 1
  | .agg parts => uptoBulkAll parts + 1
  | .iface _ d => uptoBulk d + 1
  | .map entries => uptoBulkEntries entries + 1
  | .held _ => 1
def uptoBulkAll {H : Type} : List (DataW H) → Nat
  | [] => 0
  | d :: r => uptoBulk d + uptoBulkAll r
def uptoBulkEntries {H : Type} : List (Lit × DataW H) → Nat
  | [] => 0
  | x :: r => uptoBulkEntry x + uptoBulkEntries r
def uptoBulkEntry {H : Type} : Lit × DataW H → Nat
  | (.string bytes, d) => bytes.length + uptoBulk d + 1
  | (_, d) => uptoBulk d + 1
 end
def uptoSmall : (H : Type) → List (DataW H) → Bool := fun _ ds => decide (uptoBulkAll ds ≤ 1048576)
def OpenSpec.upto (s : _root_.Go.ChangeSpec) : _root_.Go.OpenSpec := { _root_.Go.OpenSpec.ofChange s with cond := some uptoSmall }

/-- 'bitextlaw13.ScorePercents', WHERE WHAT IT READS IS OF BULK AT MOST 1048576: true; the input reads as it did. -/
def scorePercentsUptoRow : OpenClaim := { program := "ytpkipdiecnokhaa", sum := "d4ba4f4274011e186181078ce9b339fb9fa012e4e8a65cf78a7f632b00cc94d3", func := "bitext/bitextlaw13.ScorePercents", spec := "scorePercents", plainKeys := false, apart := false, narrowed := true }
def ScorePercentsUptoSaid : Prop := scorePercentsUptoRow.holds Try.pinned (OpenSpec.upto scorePercentsSpec)

/-- 'bitextlaw13.ScoreAllows', WHERE WHAT IT READS IS OF BULK AT MOST 1048576: true; the input reads as it did. -/
def scoreAllowsUptoRow : OpenClaim := { program := "ytpkipdiecnokhaa", sum := "d4ba4f4274011e186181078ce9b339fb9fa012e4e8a65cf78a7f632b00cc94d3", func := "bitext/bitextlaw13.ScoreAllows", spec := "scoreAllows", plainKeys := false, apart := false, narrowed := true }
def ScoreAllowsUptoSaid : Prop := scoreAllowsUptoRow.holds Try.pinned (OpenSpec.upto scoreAllowsSpec)

/-- 'bitextlaw13.ScoreThresholds', WHERE WHAT IT READS IS OF BULK AT MOST 1048576: true; the input reads as it did. -/
def scoreThresholdsUptoRow : OpenClaim := { program := "ytpkipdiecnokhaa", sum := "d4ba4f4274011e186181078ce9b339fb9fa012e4e8a65cf78a7f632b00cc94d3", func := "bitext/bitextlaw13.ScoreThresholds", spec := "scoreThresholds", plainKeys := false, apart := false, narrowed := true }
def ScoreThresholdsUptoSaid : Prop := scoreThresholdsUptoRow.holds Try.pinned (OpenSpec.upto scoreThresholdsSpec)

/-- 'bitextlaw13.ScoreBounds', WHERE WHAT IT READS IS OF BULK AT MOST 1048576: true; the input reads as it did. -/
def scoreBoundsUptoRow : OpenClaim := { program := "ytpkipdiecnokhaa", sum := "d4ba4f4274011e186181078ce9b339fb9fa012e4e8a65cf78a7f632b00cc94d3", func := "bitext/bitextlaw13.ScoreBounds", spec := "scoreBounds", plainKeys := false, apart := false, narrowed := true }
def ScoreBoundsUptoSaid : Prop := scoreBoundsUptoRow.holds Try.pinned (OpenSpec.upto scoreBoundsSpec)

/-- 'bitextlaw13.ScoreMonotone', WHERE WHAT IT READS IS OF BULK AT MOST 1048576: true; the input reads as it did. -/
def scoreMonotoneUptoRow : OpenClaim := { program := "ytpkipdiecnokhaa", sum := "d4ba4f4274011e186181078ce9b339fb9fa012e4e8a65cf78a7f632b00cc94d3", func := "bitext/bitextlaw13.ScoreMonotone", spec := "scoreMonotone", plainKeys := false, apart := false, narrowed := true }
def ScoreMonotoneUptoSaid : Prop := scoreMonotoneUptoRow.holds Try.pinned (OpenSpec.upto scoreMonotoneSpec)

/-- 'bitextlaw13.ScoreContexts', WHERE WHAT IT READS IS OF BULK AT MOST 1048576: true; the input reads as it did. -/
def scoreContextsUptoRow : OpenClaim := { program := "ytpkipdiecnokhaa", sum := "d4ba4f4274011e186181078ce9b339fb9fa012e4e8a65cf78a7f632b00cc94d3", func := "bitext/bitextlaw13.ScoreContexts", spec := "scoreContexts", plainKeys := false, apart := false, narrowed := true }
def ScoreContextsUptoSaid : Prop := scoreContextsUptoRow.holds Try.pinned (OpenSpec.upto scoreContextsSpec)

/-- 'bitextlaw12.DistancePrices', WHERE WHAT IT READS IS OF BULK AT MOST 1048576: true; the input reads as it did. -/
def distancePricesUptoRow : OpenClaim := { program := "ytpkipdiecnokhaa", sum := "d4ba4f4274011e186181078ce9b339fb9fa012e4e8a65cf78a7f632b00cc94d3", func := "bitext/bitextlaw12.DistancePrices", spec := "distancePrices", plainKeys := false, apart := false, narrowed := true }
def DistancePricesUptoSaid : Prop := distancePricesUptoRow.holds Try.pinned (OpenSpec.upto distancePricesSpec)

/-- 'bitextlaw12.DistanceSays', WHERE WHAT IT READS IS OF BULK AT MOST 1048576: true; the input reads as it did. -/
def distanceSaysUptoRow : OpenClaim := { program := "ytpkipdiecnokhaa", sum := "d4ba4f4274011e186181078ce9b339fb9fa012e4e8a65cf78a7f632b00cc94d3", func := "bitext/bitextlaw12.DistanceSays", spec := "distanceSays", recurses := true, plainKeys := false, apart := false, narrowed := true }
def DistanceSaysUptoSaid : Prop := distanceSaysUptoRow.holds Try.pinned (OpenSpec.upto distanceSaysSpec)

/-- 'bitextlaw12.DistanceAny', WHERE WHAT IT READS IS OF BULK AT MOST 1048576: true; the input reads as it did. -/
def distanceAnyUptoRow : OpenClaim := { program := "ytpkipdiecnokhaa", sum := "d4ba4f4274011e186181078ce9b339fb9fa012e4e8a65cf78a7f632b00cc94d3", func := "bitext/bitextlaw12.DistanceAny", spec := "distanceAny", recurses := true, plainKeys := false, apart := false, narrowed := true }
def DistanceAnyUptoSaid : Prop := distanceAnyUptoRow.holds Try.pinned (OpenSpec.upto distanceAnySpec)

/-- 'bitextlaw12.DistanceLeast', WHERE WHAT IT READS IS OF BULK AT MOST 1048576: true; the input reads as it did. -/
def distanceLeastUptoRow : OpenClaim := { program := "ytpkipdiecnokhaa", sum := "d4ba4f4274011e186181078ce9b339fb9fa012e4e8a65cf78a7f632b00cc94d3", func := "bitext/bitextlaw12.DistanceLeast", spec := "distanceLeast", recurses := true, plainKeys := false, apart := false, narrowed := true }
def DistanceLeastUptoSaid : Prop := distanceLeastUptoRow.holds Try.pinned (OpenSpec.upto distanceLeastSpec)

end Rows
end Go.Proofs.Ytpkipdiecnokhaa
