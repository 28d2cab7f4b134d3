/- Contracts of width, Length, few, isTag and their like. -/
import Derived.Test.YthfgpagmepdblaaGreatIt
import Derived.LoopTactic
import Derived.Outline
namespace Go.Proofs.YthfgpagmepdblaaGreat
open Go.ChangeShapes Go.WideShapes Go.ChangeAt Go.RowKit
set_option linter.unusedVariables false
set_option maxRecDepth 100000

def wid (x : It) : Nat := if x.k = 1 then x.t.size else 1
def lenI (l : List It) : Nat := (l.map wid).sum
def txtI (l : List It) : Nat := (l.map fun x => x.t.size).sum
def isT (k : Int) : Bool := decide (k = 2 ∨ k = 3 ∨ k = 4)
theorem lenI_snoc (l : List It) (x : It) : lenI (l ++ [x]) = lenI l + wid x := by unfold lenI; simp
theorem txtI_snoc (l : List It) (x : It) : txtI (l ++ [x]) = txtI l + x.t.size := by unfold txtI; simp
theorem lenI_append (l m : List It) : lenI (l ++ m) = lenI l + lenI m := by unfold lenI; simp
theorem lenI_take (l : List It) (k : Nat) : lenI (l.take k) ≤ lenI l := by
  conv => rhs; rw [← List.take_append_drop k l, lenI_append]
  omega
theorem txtI_take (l : List It) (k : Nat) : txtI (l.take k) ≤ txtI l := by
  conv => rhs; rw [← List.take_append_drop k l]; unfold txtI; rw [List.map_append, List.sum_append]
  unfold txtI; omega
theorem lenI_next (l : List It) (k : Nat) (h : k < l.length) : lenI (l.take (k + 1)) = lenI (l.take k) + wid l[k] := by rw [List.take_succ_eq_append_getElem h, lenI_snoc]
theorem txtI_next (l : List It) (k : Nat) (h : k < l.length) : txtI (l.take (k + 1)) = txtI (l.take k) + l[k].t.size := by rw [List.take_succ_eq_append_getElem h, txtI_snoc]

/-- Is a list short? -/
def fewB (l : List It) : Bool := decide (l.length ≤ 60) && decide (txtI l ≤ 2000)
end Go.Proofs.YthfgpagmepdblaaGreat
