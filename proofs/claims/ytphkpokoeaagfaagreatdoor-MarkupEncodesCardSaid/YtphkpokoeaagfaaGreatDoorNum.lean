/- The numbers of a fragment: the reference's. -/
import Derived.Test.YtphkpokoeaagfaaGreatDoorTgs
import Derived.Test.YtphkpokoeaagfaaGreatDoorSam
namespace Go.Proofs.YtphkpokoeaagfaaGreatDoor
open Go.ChangeShapes Go.WideShapes Go.ChangeAt Go.RowKit
set_option linter.unusedVariables false
set_option maxRecDepth 100000

def numS (out : List Int) (x : It) : List Int := if isT x.k = true ∧ x.id ∉ out then out ++ [x.id] else out
def numsL (l : List It) : List Int := l.foldl numS []
theorem nums_next (l : List It) (k : Nat) (h : k < l.length) : numsL (l.take (k + 1)) = numS (numsL (l.take k)) (l[k]'h) := by
  rw [List.take_succ_eq_append_getElem h]; unfold numsL; rw [List.foldl_append]; rfl
theorem numS_len (out : List Int) (x : It) : (numS out x).length ≤ out.length + 1 := by unfold numS; split <;> simp
theorem nums_len (l : List It) : ∀ k, k ≤ l.length → (numsL (l.take k)).length ≤ k := by
  intro k
  induction k with
  | zero => intro _; simp [numsL]
  | succ j ih =>
    intro hj
    rw [nums_next l j hj]
    have := numS_len (numsL (l.take j)) l[j]; have := ih (by omega); omega
theorem Ones.row {W : World} {p : Option Addr} {l : List Int} (h : Ones W (Value.int .i64) p l) (i : Nat) (hi : i < l.length) : ∃ a, p = some a ∧ a.block < W.heap.size ∧ W.cell? (a.add i) = some (.int .i64 (l[i]'hi)) := by
  obtain ⟨a, hp, hlt, hc⟩ := h (by omega)
  exact ⟨a, hp, hlt, hc i hi⟩

/-- What a call that answers numbers says. -/
def EndN (L : List Int) (w : World) (e : Ending) (w' : World) : Prop := ∃ v, e = .returned v ∧ AccN w L v w'

def upL (n : Nat) : List Int := (List.range n).map fun (i : Nat) => (i : Int) + 1
theorem upL_next (k : Nat) : upL (k + 1) = upL k ++ [(k : Int) + 1] := by unfold upL; rw [List.range_succ, List.map_append]; rfl
theorem upL_len (k : Nat) : (upL k).length = k := by unfold upL; simp
end Go.Proofs.YtphkpokoeaagfaaGreatDoor
