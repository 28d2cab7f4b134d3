/-
  No cell of these rows narrows 'for every input' (looked for: loops, veiled, ifaces, maps, wideKeys, modest, calm, conditions, laid).
  DERIVED. THE GIVEN ROWS OF THIS SEAT. 7 by the template 'for every input the law returns true; each argument reads behind the call as it read before'; 0 by the template 'total and deterministic' (their statements: YtncdjfgoigaflaaTotals.lean).
  GIVEN WITH THE SEED: the statements are not yours to turn. If you find one false, say at which input.
  Laid BY PROGRAM, IN A SANDBOX (cutbox-rows.mjs): the forced cells as the released guide's own fill.sh prints them over the translation c7c60ff756284a6e… (all of the seat's roots in one cut). By AI agents, Wed Nov 11 2026. No macro, syntax, notation, axiom, sorry.
-/
import Derived.Test.YtncdjfgoigaflaaChecked
import GoSem.Claim
import GoSem.ClaimJoined
import GoSem.ClaimMapViews
import Derived.JoinedTies
import Derived.KernelRfl
namespace Go.Proofs.Ytncdjfgoigaflaa
/- THE CELL 'sum', in the pinned program and in every row, IS THE sha256 OF THE DUMP (.gsa) THAT YtncdjfgoigaflaaProg.lean LOADS. Nothing in Lean hashes anything: it is a label: what it is worth is what the hold of that sum in a sandbox is worth. -/
noncomputable def Try.pinned : Pinned := { name := "ytncdjfgoigaflaa", sum := "c7c60ff756284a6e040cd9d4109ba0fa2ccd143314a4a36da88586301a6d8ca7", checked := Try.checked }
namespace Rows
def none {H : Type} : Left H := { results := [], args := [] }

/-- 'bitextlaw14.ShingleWords': WHATEVER THE INPUT: true; the input reads as it did. -/
def shingleWordsSpec : ChangeSpec := { name := "shingleWords", fn := fun _ => fun
  | [d1, d2, d3] => { results := [.lit (.bool true)], args := [d1, d2, d3] }
  | _ => none }
def shingleWordsRow : OpenClaim := { program := "ytncdjfgoigaflaa", sum := "c7c60ff756284a6e040cd9d4109ba0fa2ccd143314a4a36da88586301a6d8ca7", func := "bitext/bitextlaw14.ShingleWords", spec := "shingleWords", inPlace := ["internal/bytealg.abigen_runtime_cmpstring"], unfollowed := true, recurses := true, plainKeys := false, apart := false }
def ShingleWordsSaid : Prop := shingleWordsRow.holds Try.pinned (OpenSpec.ofChange shingleWordsSpec)

/-- ITS FALSE NEIGHBOUR: 'it returns false'. Refute it at one input. -/
def shingleWordsWrong : ChangeSpec := { name := "shingleWords", fn := fun _ => fun
  | [d1, d2, d3] => { results := [.lit (.bool false)], args := [d1, d2, d3] }
  | _ => none }
def ShingleWordsWrongFalsely : Prop := shingleWordsRow.holds Try.pinned (OpenSpec.ofChange shingleWordsWrong)

/-- 'bitextlaw14.ShingleGrams': WHATEVER THE INPUT: true; the input reads as it did. -/
def shingleGramsSpec : ChangeSpec := { name := "shingleGrams", fn := fun _ => fun
  | [d] => { results := [.lit (.bool true)], args := [d] }
  | _ => none }
def shingleGramsRow : OpenClaim := { program := "ytncdjfgoigaflaa", sum := "c7c60ff756284a6e040cd9d4109ba0fa2ccd143314a4a36da88586301a6d8ca7", func := "bitext/bitextlaw14.ShingleGrams", spec := "shingleGrams", inPlace := ["internal/bytealg.abigen_runtime_cmpstring"], unfollowed := true, recurses := true, plainKeys := false, apart := false }
def ShingleGramsSaid : Prop := shingleGramsRow.holds Try.pinned (OpenSpec.ofChange shingleGramsSpec)

/-- ITS FALSE NEIGHBOUR: 'it returns false'. Refute it at one input. -/
def shingleGramsWrong : ChangeSpec := { name := "shingleGrams", fn := fun _ => fun
  | [d] => { results := [.lit (.bool false)], args := [d] }
  | _ => none }
def ShingleGramsWrongFalsely : Prop := shingleGramsRow.holds Try.pinned (OpenSpec.ofChange shingleGramsWrong)

/-- 'bitextlaw14.ShingleMissing': WHATEVER THE INPUT: true; the input reads as it did. -/
def shingleMissingSpec : ChangeSpec := { name := "shingleMissing", fn := fun _ => fun
  | [d1, d2, d3, d4] => { results := [.lit (.bool true)], args := [d1, d2, d3, d4] }
  | _ => none }
def shingleMissingRow : OpenClaim := { program := "ytncdjfgoigaflaa", sum := "c7c60ff756284a6e040cd9d4109ba0fa2ccd143314a4a36da88586301a6d8ca7", func := "bitext/bitextlaw14.ShingleMissing", spec := "shingleMissing", inPlace := ["internal/bytealg.abigen_runtime_cmpstring"], unfollowed := true, recurses := true, plainKeys := false, apart := false }
def ShingleMissingSaid : Prop := shingleMissingRow.holds Try.pinned (OpenSpec.ofChange shingleMissingSpec)

/-- ITS FALSE NEIGHBOUR: 'it returns false'. Refute it at one input. -/
def shingleMissingWrong : ChangeSpec := { name := "shingleMissing", fn := fun _ => fun
  | [d1, d2, d3, d4] => { results := [.lit (.bool false)], args := [d1, d2, d3, d4] }
  | _ => none }
def ShingleMissingWrongFalsely : Prop := shingleMissingRow.holds Try.pinned (OpenSpec.ofChange shingleMissingWrong)

/-- 'bitextlaw14.ShingleBounds': WHATEVER THE INPUT: true; the input reads as it did. -/
def shingleBoundsSpec : ChangeSpec := { name := "shingleBounds", fn := fun _ => fun
  | [d1, d2, d3, d4] => { results := [.lit (.bool true)], args := [d1, d2, d3, d4] }
  | _ => none }
def shingleBoundsRow : OpenClaim := { program := "ytncdjfgoigaflaa", sum := "c7c60ff756284a6e040cd9d4109ba0fa2ccd143314a4a36da88586301a6d8ca7", func := "bitext/bitextlaw14.ShingleBounds", spec := "shingleBounds", inPlace := ["internal/bytealg.abigen_runtime_cmpstring"], unfollowed := true, recurses := true, plainKeys := false, apart := false }
def ShingleBoundsSaid : Prop := shingleBoundsRow.holds Try.pinned (OpenSpec.ofChange shingleBoundsSpec)

/-- ITS FALSE NEIGHBOUR: 'it returns false'. Refute it at one input. -/
def shingleBoundsWrong : ChangeSpec := { name := "shingleBounds", fn := fun _ => fun
  | [d1, d2, d3, d4] => { results := [.lit (.bool false)], args := [d1, d2, d3, d4] }
  | _ => none }
def ShingleBoundsWrongFalsely : Prop := shingleBoundsRow.holds Try.pinned (OpenSpec.ofChange shingleBoundsWrong)

/-- 'bitextlaw14.ShingleBelow': WHATEVER THE INPUT: true; the input reads as it did. -/
def shingleBelowSpec : ChangeSpec := { name := "shingleBelow", fn := fun _ => fun
  | [d1, d2, d3, d4] => { results := [.lit (.bool true)], args := [d1, d2, d3, d4] }
  | _ => none }
def shingleBelowRow : OpenClaim := { program := "ytncdjfgoigaflaa", sum := "c7c60ff756284a6e040cd9d4109ba0fa2ccd143314a4a36da88586301a6d8ca7", func := "bitext/bitextlaw14.ShingleBelow", spec := "shingleBelow", inPlace := ["internal/bytealg.abigen_runtime_cmpstring"], unfollowed := true, recurses := true, plainKeys := false, apart := false }
def ShingleBelowSaid : Prop := shingleBelowRow.holds Try.pinned (OpenSpec.ofChange shingleBelowSpec)

/-- ITS FALSE NEIGHBOUR: 'it returns false'. Refute it at one input. -/
def shingleBelowWrong : ChangeSpec := { name := "shingleBelow", fn := fun _ => fun
  | [d1, d2, d3, d4] => { results := [.lit (.bool false)], args := [d1, d2, d3, d4] }
  | _ => none }
def ShingleBelowWrongFalsely : Prop := shingleBelowRow.holds Try.pinned (OpenSpec.ofChange shingleBelowWrong)

/-- 'bitextlaw14.ShingleSymmetric': WHATEVER THE INPUT: true; the input reads as it did. -/
def shingleSymmetricSpec : ChangeSpec := { name := "shingleSymmetric", fn := fun _ => fun
  | [d1, d2] => { results := [.lit (.bool true)], args := [d1, d2] }
  | _ => none }
def shingleSymmetricRow : OpenClaim := { program := "ytncdjfgoigaflaa", sum := "c7c60ff756284a6e040cd9d4109ba0fa2ccd143314a4a36da88586301a6d8ca7", func := "bitext/bitextlaw14.ShingleSymmetric", spec := "shingleSymmetric", inPlace := ["internal/bytealg.abigen_runtime_cmpstring"], unfollowed := true, recurses := true, plainKeys := false, apart := false }
def ShingleSymmetricSaid : Prop := shingleSymmetricRow.holds Try.pinned (OpenSpec.ofChange shingleSymmetricSpec)

/-- ITS FALSE NEIGHBOUR: 'it returns false'. Refute it at one input. -/
def shingleSymmetricWrong : ChangeSpec := { name := "shingleSymmetric", fn := fun _ => fun
  | [d1, d2] => { results := [.lit (.bool false)], args := [d1, d2] }
  | _ => none }
def ShingleSymmetricWrongFalsely : Prop := shingleSymmetricRow.holds Try.pinned (OpenSpec.ofChange shingleSymmetricWrong)

/-- 'bitextlaw14.ShingleOrder': WHATEVER THE INPUT: true; the input reads as it did. -/
def shingleOrderSpec : ChangeSpec := { name := "shingleOrder", fn := fun _ => fun
  | [d] => { results := [.lit (.bool true)], args := [d] }
  | _ => none }
def shingleOrderRow : OpenClaim := { program := "ytncdjfgoigaflaa", sum := "c7c60ff756284a6e040cd9d4109ba0fa2ccd143314a4a36da88586301a6d8ca7", func := "bitext/bitextlaw14.ShingleOrder", spec := "shingleOrder", inPlace := ["internal/bytealg.abigen_runtime_cmpstring"], unfollowed := true, recurses := true, plainKeys := false, apart := false }
def ShingleOrderSaid : Prop := shingleOrderRow.holds Try.pinned (OpenSpec.ofChange shingleOrderSpec)

/-- ITS FALSE NEIGHBOUR: 'it returns false'. Refute it at one input. -/
def shingleOrderWrong : ChangeSpec := { name := "shingleOrder", fn := fun _ => fun
  | [d] => { results := [.lit (.bool false)], args := [d] }
  | _ => none }
def ShingleOrderWrongFalsely : Prop := shingleOrderRow.holds Try.pinned (OpenSpec.ofChange shingleOrderWrong)

/- THE SECOND FORM. 'bulk': how many values and letters a reading holds, each counted each time it is reached (what is shared counts as often as it is met; a slice's spare places count too). A statement '..UptoSaid' is the law's where the arguments, and the package variables that the reading takes, are together of bulk at most 1048576: NARROWER than '..Said'. Prove '..Said' where nothing that the law and all that it calls make is longer than what came in: it says more and counts as full. Else prove '..UptoSaid'. A law counts once. -/
mutual
def uptoBulk {H : Type} : DataW H → Nat
  | .lit (.string bytes) => bytes.length + 1
  | .lit _ => 1
  | .nil => 1
  | .ptr d => uptoBulk d + 1
  | .slice elems spare => uptoBulkAll elems + uptoBulkAll spare + 1
  | .agg parts => uptoBulkAll parts + 1
  | .iface _ d => uptoBulk d + 1
  | .map entries => uptoBulkEntries entries + 1
  | .held _ => 1
def uptoBulkAll {H : Type} : List (DataW H) → Nat
  | [] => 0
  | d :: r => uptoBulk d + uptoBulkAll r
def uptoBulkEntries {H : Type} : List (Lit × DataW H) → Nat
  | [] => 0
  | x :: r => uptoBulkEntry x + uptoBulkEntries r
def uptoBulkEntry {H : Type} : Lit × DataW H → Nat
  | (.string bytes, d) => bytes.length + uptoBulk d + 1
  | (_, d) => uptoBulk d + 1
 end
def uptoSmall : (H : Type) → List (DataW H) → Bool := fun _ ds => decide (uptoBulkAll ds ≤ 1048576)
def OpenSpec.upto (s : _root_.Go.ChangeSpec) : _root_.Go.OpenSpec := { _root_.Go.OpenSpec.ofChange s with cond := some uptoSmall }

/-- 'bitextlaw14.ShingleWords', WHERE WHAT IT READS IS OF BULK AT MOST 1048576: true; the input reads as it did. -/
def shingleWordsUptoRow : OpenClaim := { program := "ytncdjfgoigaflaa", sum := "c7c60ff756284a6e040cd9d4109ba0fa2ccd143314a4a36da88586301a6d8ca7", func := "bitext/bitextlaw14.ShingleWords", spec := "shingleWords", inPlace := ["internal/bytealg.abigen_runtime_cmpstring"], unfollowed := true, recurses := true, plainKeys := false, apart := false, narrowed := true }
def ShingleWordsUptoSaid : Prop := shingleWordsUptoRow.holds Try.pinned (OpenSpec.upto shingleWordsSpec)

/-- 'bitextlaw14.ShingleGrams', WHERE WHAT IT READS IS OF BULK AT MOST 1048576: true; the input reads as it did. -/
def shingleGramsUptoRow : OpenClaim := { program := "ytncdjfgoigaflaa", sum := "c7c60ff756284a6e040cd9d4109ba0fa2ccd143314a4a36da88586301a6d8ca7", func := "bitext/bitextlaw14.ShingleGrams", spec := "shingleGrams", inPlace := ["internal/bytealg.abigen_runtime_cmpstring"], unfollowed := true, recurses := true, plainKeys := false, apart := false, narrowed := true }
def ShingleGramsUptoSaid : Prop := shingleGramsUptoRow.holds Try.pinned (OpenSpec.upto shingleGramsSpec)

/-- 'bitextlaw14.ShingleMissing', WHERE WHAT IT READS IS OF BULK AT MOST 1048576: true; the input reads as it did. -/
def shingleMissingUptoRow : OpenClaim := { program := "ytncdjfgoigaflaa", sum := "c7c60ff756284a6e040cd9d4109ba0fa2ccd143314a4a36da88586301a6d8ca7", func := "bitext/bitextlaw14.ShingleMissing", spec := "shingleMissing", inPlace := ["internal/bytealg.abigen_runtime_cmpstring"], unfollowed := true, recurses := true, plainKeys := false, apart := false, narrowed := true }
def ShingleMissingUptoSaid : Prop := shingleMissingUptoRow.holds Try.pinned (OpenSpec.upto shingleMissingSpec)

/-- 'bitextlaw14.ShingleBounds', WHERE WHAT IT READS IS OF BULK AT MOST 1048576: true; the input reads as it did. -/
def shingleBoundsUptoRow : OpenClaim := { program := "ytncdjfgoigaflaa", sum := "c7c60ff756284a6e040cd9d4109ba0fa2ccd143314a4a36da88586301a6d8ca7", func := "bitext/bitextlaw14.ShingleBounds", spec := "shingleBounds", inPlace := ["internal/bytealg.abigen_runtime_cmpstring"], unfollowed := true, recurses := true, plainKeys := false, apart := false, narrowed := true }
def ShingleBoundsUptoSaid : Prop := shingleBoundsUptoRow.holds Try.pinned (OpenSpec.upto shingleBoundsSpec)

/-- 'bitextlaw14.ShingleBelow', WHERE WHAT IT READS IS OF BULK AT MOST 1048576: true; the input reads as it did. -/
def shingleBelowUptoRow : OpenClaim := { program := "ytncdjfgoigaflaa", sum := "c7c60ff756284a6e040cd9d4109ba0fa2ccd143314a4a36da88586301a6d8ca7", func := "bitext/bitextlaw14.ShingleBelow", spec := "shingleBelow", inPlace := ["internal/bytealg.abigen_runtime_cmpstring"], unfollowed := true, recurses := true, plainKeys := false, apart := false, narrowed := true }
def ShingleBelowUptoSaid : Prop := shingleBelowUptoRow.holds Try.pinned (OpenSpec.upto shingleBelowSpec)

/-- 'bitextlaw14.ShingleSymmetric', WHERE WHAT IT READS IS OF BULK AT MOST 1048576: true; the input reads as it did. -/
def shingleSymmetricUptoRow : OpenClaim := { program := "ytncdjfgoigaflaa", sum := "c7c60ff756284a6e040cd9d4109ba0fa2ccd143314a4a36da88586301a6d8ca7", func := "bitext/bitextlaw14.ShingleSymmetric", spec := "shingleSymmetric", inPlace := ["internal/bytealg.abigen_runtime_cmpstring"], unfollowed := true, recurses := true, plainKeys := false, apart := false, narrowed := true }
def ShingleSymmetricUptoSaid : Prop := shingleSymmetricUptoRow.holds Try.pinned (OpenSpec.upto shingleSymmetricSpec)

/-- 'bitextlaw14.ShingleOrder', WHERE WHAT IT READS IS OF BULK AT MOST 1048576: true; the input reads as it did. -/
def shingleOrderUptoRow : OpenClaim := { program := "ytncdjfgoigaflaa", sum := "c7c60ff756284a6e040cd9d4109ba0fa2ccd143314a4a36da88586301a6d8ca7", func := "bitext/bitextlaw14.ShingleOrder", spec := "shingleOrder", inPlace := ["internal/bytealg.abigen_runtime_cmpstring"], unfollowed := true, recurses := true, plainKeys := false, apart := false, narrowed := true }
def ShingleOrderUptoSaid : Prop := shingleOrderUptoRow.holds Try.pinned (OpenSpec.upto shingleOrderSpec)

end Rows
end Go.Proofs.Ytncdjfgoigaflaa
