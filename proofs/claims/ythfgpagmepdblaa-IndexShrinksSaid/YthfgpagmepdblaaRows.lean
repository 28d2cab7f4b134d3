/-
  No cell of these rows narrows 'for every input' (looked for: loops, veiled, ifaces, maps, wideKeys, modest, calm, conditions, laid).
  DERIVED. THE GIVEN ROWS OF THIS SEAT. 4 by the template 'for every input the law returns true; each argument reads behind the call as it read before'; 0 by the template 'total and deterministic' (their statements: YthfgpagmepdblaaTotals.lean).
  GIVEN WITH THE SEED: the statements are not yours to turn. If you find one false, say at which input.
  Laid BY PROGRAM, IN A SANDBOX (cutbox-rows.mjs): the forced cells as the released guide's own fill.sh prints them over the translation b201d55f9135097f… (all of the seat's roots in one cut). By AI agents, Wed Nov 11 2026. No macro, syntax, notation, axiom, sorry.
-/
import Derived.Test.YthfgpagmepdblaaChecked
import GoSem.Claim
import GoSem.ClaimJoined
import GoSem.ClaimMapViews
import Derived.JoinedTies
import Derived.KernelRfl
namespace Go.Proofs.Ythfgpagmepdblaa
/- THE CELL 'sum', in the pinned program and in every row, IS THE sha256 OF THE DUMP (.gsa) THAT YthfgpagmepdblaaProg.lean LOADS. Nothing in Lean hashes anything: it is a label: what it is worth is what the hold of that sum in a sandbox is worth. -/
noncomputable def Try.pinned : Pinned := { name := "ythfgpagmepdblaa", sum := "b201d55f9135097f2b3be49151e3a386afe2b6ced43aa57247b3083852e8ccb2", checked := Try.checked }
namespace Rows
def none {H : Type} : Left H := { results := [], args := [] }

/-- 'bitextlaw15.IndexMisses': WHATEVER THE INPUT: true; the input reads as it did. -/
def indexMissesSpec : ChangeSpec := { name := "indexMisses", fn := fun _ => fun
  | [d1, d2, d3, d4] => { results := [.lit (.bool true)], args := [d1, d2, d3, d4] }
  | _ => none }
def indexMissesRow : OpenClaim := { program := "ythfgpagmepdblaa", sum := "b201d55f9135097f2b3be49151e3a386afe2b6ced43aa57247b3083852e8ccb2", func := "bitext/bitextlaw15.IndexMisses", spec := "indexMisses", inPlace := ["internal/bytealg.abigen_runtime_cmpstring"], unfollowed := true, recurses := true, plainKeys := false, apart := false }
def IndexMissesSaid : Prop := indexMissesRow.holds Try.pinned (OpenSpec.ofChange indexMissesSpec)

/-- ITS FALSE NEIGHBOUR: 'it returns false'. Refute it at one input. -/
def indexMissesWrong : ChangeSpec := { name := "indexMisses", fn := fun _ => fun
  | [d1, d2, d3, d4] => { results := [.lit (.bool false)], args := [d1, d2, d3, d4] }
  | _ => none }
def IndexMissesWrongFalsely : Prop := indexMissesRow.holds Try.pinned (OpenSpec.ofChange indexMissesWrong)

/-- 'bitextlaw15.IndexShrinks': WHATEVER THE INPUT: true; the input reads as it did. -/
def indexShrinksSpec : ChangeSpec := { name := "indexShrinks", fn := fun _ => fun
  | [d1, d2, d3, d4] => { results := [.lit (.bool true)], args := [d1, d2, d3, d4] }
  | _ => none }
def indexShrinksRow : OpenClaim := { program := "ythfgpagmepdblaa", sum := "b201d55f9135097f2b3be49151e3a386afe2b6ced43aa57247b3083852e8ccb2", func := "bitext/bitextlaw15.IndexShrinks", spec := "indexShrinks", inPlace := ["internal/bytealg.abigen_runtime_cmpstring"], unfollowed := true, recurses := true, plainKeys := false, apart := false }
def IndexShrinksSaid : Prop := indexShrinksRow.holds Try.pinned (OpenSpec.ofChange indexShrinksSpec)

/-- ITS FALSE NEIGHBOUR: 'it returns false'. Refute it at one input. -/
def indexShrinksWrong : ChangeSpec := { name := "indexShrinks", fn := fun _ => fun
  | [d1, d2, d3, d4] => { results := [.lit (.bool false)], args := [d1, d2, d3, d4] }
  | _ => none }
def IndexShrinksWrongFalsely : Prop := indexShrinksRow.holds Try.pinned (OpenSpec.ofChange indexShrinksWrong)

/-- 'bitextlaw15.IndexOrder': WHATEVER THE INPUT: true; the input reads as it did. -/
def indexOrderSpec : ChangeSpec := { name := "indexOrder", fn := fun _ => fun
  | [d1, d2, d3] => { results := [.lit (.bool true)], args := [d1, d2, d3] }
  | _ => none }
def indexOrderRow : OpenClaim := { program := "ythfgpagmepdblaa", sum := "b201d55f9135097f2b3be49151e3a386afe2b6ced43aa57247b3083852e8ccb2", func := "bitext/bitextlaw15.IndexOrder", spec := "indexOrder", inPlace := ["internal/bytealg.abigen_runtime_cmpstring"], unfollowed := true, recurses := true, plainKeys := false, apart := false }
def IndexOrderSaid : Prop := indexOrderRow.holds Try.pinned (OpenSpec.ofChange indexOrderSpec)

/-- ITS FALSE NEIGHBOUR: 'it returns false'. Refute it at one input. -/
def indexOrderWrong : ChangeSpec := { name := "indexOrder", fn := fun _ => fun
  | [d1, d2, d3] => { results := [.lit (.bool false)], args := [d1, d2, d3] }
  | _ => none }
def IndexOrderWrongFalsely : Prop := indexOrderRow.holds Try.pinned (OpenSpec.ofChange indexOrderWrong)

/-- 'bitextlaw15.IndexFull': WHATEVER THE INPUT: true; the input reads as it did. -/
def indexFullSpec : ChangeSpec := { name := "indexFull", fn := fun _ => fun
  | [d] => { results := [.lit (.bool true)], args := [d] }
  | _ => none }
def indexFullRow : OpenClaim := { program := "ythfgpagmepdblaa", sum := "b201d55f9135097f2b3be49151e3a386afe2b6ced43aa57247b3083852e8ccb2", func := "bitext/bitextlaw15.IndexFull", spec := "indexFull", inPlace := ["internal/bytealg.abigen_runtime_cmpstring"], unfollowed := true, recurses := true, plainKeys := false, apart := false }
def IndexFullSaid : Prop := indexFullRow.holds Try.pinned (OpenSpec.ofChange indexFullSpec)

/-- ITS FALSE NEIGHBOUR: 'it returns false'. Refute it at one input. -/
def indexFullWrong : ChangeSpec := { name := "indexFull", fn := fun _ => fun
  | [d] => { results := [.lit (.bool false)], args := [d] }
  | _ => none }
def IndexFullWrongFalsely : Prop := indexFullRow.holds Try.pinned (OpenSpec.ofChange indexFullWrong)

/- THE SECOND FORM. 'bulk': how many values and letters a reading holds, each counted each time it is reached (what is shared counts as often as it is met; a slice's spare places count too). A statement '..UptoSaid' is the law's where the arguments, and the package variables that the reading takes, are together of bulk at most 1048576: NARROWER than '..Said'. Prove '..Said' where nothing that the law and all that it calls make is longer than what came in: it says more and counts as full. Else prove '..UptoSaid'. A law counts once. -/
mutual
def uptoBulk {H : Type} : DataW H → Nat
  | .lit (.string bytes) => bytes.length + 1
  | .lit _ => 1
  | .nil => 1
  | .ptr d => uptoBulk d + 1
  | .slice elems spare => uptoBulkAll elems + uptoBulkAll spare + 1
  | .agg parts => uptoBulkAll parts + 1
  | .iface _ d => uptoBulk d + 1
  | .map entries => uptoBulkEntries entries + 1
  | .held _ => 1
def uptoBulkAll {H : Type} : List (DataW H) → Nat
  | [] => 0
  | d :: r => uptoBulk d + uptoBulkAll r
def uptoBulkEntries {H : Type} : List (Lit × DataW H) → Nat
  | [] => 0
  | x :: r => uptoBulkEntry x + uptoBulkEntries r
def uptoBulkEntry {H : Type} : Lit × DataW H → Nat
  | (.string bytes, d) => bytes.length + uptoBulk d + 1
  | (_, d) => uptoBulk d + 1
 end
def uptoSmall : (H : Type) → List (DataW H) → Bool := fun _ ds => decide (uptoBulkAll ds ≤ 1048576)
def OpenSpec.upto (s : _root_.Go.ChangeSpec) : _root_.Go.OpenSpec := { _root_.Go.OpenSpec.ofChange s with cond := some uptoSmall }

/-- 'bitextlaw15.IndexMisses', WHERE WHAT IT READS IS OF BULK AT MOST 1048576: true; the input reads as it did. -/
def indexMissesUptoRow : OpenClaim := { program := "ythfgpagmepdblaa", sum := "b201d55f9135097f2b3be49151e3a386afe2b6ced43aa57247b3083852e8ccb2", func := "bitext/bitextlaw15.IndexMisses", spec := "indexMisses", inPlace := ["internal/bytealg.abigen_runtime_cmpstring"], unfollowed := true, recurses := true, plainKeys := false, apart := false, narrowed := true }
def IndexMissesUptoSaid : Prop := indexMissesUptoRow.holds Try.pinned (OpenSpec.upto indexMissesSpec)

/-- 'bitextlaw15.IndexShrinks', WHERE WHAT IT READS IS OF BULK AT MOST 1048576: true; the input reads as it did. -/
def indexShrinksUptoRow : OpenClaim := { program := "ythfgpagmepdblaa", sum := "b201d55f9135097f2b3be49151e3a386afe2b6ced43aa57247b3083852e8ccb2", func := "bitext/bitextlaw15.IndexShrinks", spec := "indexShrinks", inPlace := ["internal/bytealg.abigen_runtime_cmpstring"], unfollowed := true, recurses := true, plainKeys := false, apart := false, narrowed := true }
def IndexShrinksUptoSaid : Prop := indexShrinksUptoRow.holds Try.pinned (OpenSpec.upto indexShrinksSpec)

/-- 'bitextlaw15.IndexOrder', WHERE WHAT IT READS IS OF BULK AT MOST 1048576: true; the input reads as it did. -/
def indexOrderUptoRow : OpenClaim := { program := "ythfgpagmepdblaa", sum := "b201d55f9135097f2b3be49151e3a386afe2b6ced43aa57247b3083852e8ccb2", func := "bitext/bitextlaw15.IndexOrder", spec := "indexOrder", inPlace := ["internal/bytealg.abigen_runtime_cmpstring"], unfollowed := true, recurses := true, plainKeys := false, apart := false, narrowed := true }
def IndexOrderUptoSaid : Prop := indexOrderUptoRow.holds Try.pinned (OpenSpec.upto indexOrderSpec)

/-- 'bitextlaw15.IndexFull', WHERE WHAT IT READS IS OF BULK AT MOST 1048576: true; the input reads as it did. -/
def indexFullUptoRow : OpenClaim := { program := "ythfgpagmepdblaa", sum := "b201d55f9135097f2b3be49151e3a386afe2b6ced43aa57247b3083852e8ccb2", func := "bitext/bitextlaw15.IndexFull", spec := "indexFull", inPlace := ["internal/bytealg.abigen_runtime_cmpstring"], unfollowed := true, recurses := true, plainKeys := false, apart := false, narrowed := true }
def IndexFullUptoSaid : Prop := indexFullUptoRow.holds Try.pinned (OpenSpec.upto indexFullSpec)

end Rows
end Go.Proofs.Ythfgpagmepdblaa
