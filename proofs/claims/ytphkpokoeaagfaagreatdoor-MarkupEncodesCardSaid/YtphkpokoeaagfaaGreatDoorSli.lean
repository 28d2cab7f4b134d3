/- Contracts of cut and Slice, and of the reference's Slice. -/
import Derived.Test.YtphkpokoeaagfaaGreatDoorAcc
import Derived.Test.YtphkpokoeaagfaaGreatDoorLen
namespace Go.Proofs.YtphkpokoeaagfaaGreatDoor
open Go.ChangeShapes Go.WideShapes Go.ChangeAt Go.RowKit
set_option linter.unusedVariables false
set_option maxRecDepth 100000

/-- An item with a part of its positions. -/
def cutI (x : It) (u v : Nat) : It := if x.k = 1 then ⟨x.k, x.t.extract u v, x.id⟩ else x
/-- What the positions from a to b take of an item that begins at s. -/
def oneI (x : It) (s a b : Nat) : List It := if max a s < min b (s + wid x) then [cutI x (max a s - s) (min b (s + wid x) - s)] else []
def slI : List It → Nat → Nat → Nat → List It
  | [], _, _, _ => []
  | x :: t, s, a, b => oneI x s a b ++ slI t (s + wid x) a b
theorem slI_append (l m : List It) : ∀ s a b, slI (l ++ m) s a b = slI l s a b ++ slI m (s + lenI l) a b := by
  induction l with
  | nil => intro s a b; simp [slI, lenI]
  | cons x t ih =>
    intro s a b
    rw [List.cons_append, slI, slI, ih]
    have : lenI (x :: t) = wid x + lenI t := by simp [lenI]
    rw [this, List.append_assoc, Nat.add_assoc]
theorem slI_next (l : List It) (k : Nat) (h : k < l.length) (a b : Nat) : slI (l.take (k + 1)) 0 a b = slI (l.take k) 0 a b ++ oneI l[k] (lenI (l.take k)) a b := by
  rw [List.take_succ_eq_append_getElem h, slI_append]
  simp [slI]
theorem oneI_len (x : It) (s a b : Nat) : (oneI x s a b).length ≤ 1 := by unfold oneI; split <;> simp
theorem slI_len (l : List It) : ∀ s a b, (slI l s a b).length ≤ l.length := by
  induction l with
  | nil => intro s a b; exact Nat.le_refl _
  | cons x t ih => intro s a b; rw [slI, List.length_append]; have := oneI_len x s a b; have := ih (s + wid x) a b; simp; omega
/-- What Slice gives. -/
def sliceOk (l : List It) (a b : Int) : Bool := decide (0 ≤ a ∧ a ≤ b ∧ b ≤ (lenI l : Int))
def sliceI (l : List It) (a b : Int) : List It := if sliceOk l a b = true then slI l 0 a.toNat b.toNat else []

/-- The end of a call that gives a slice of items and a bool. -/
def EndSl (L : List It) (b : Bool) (w : World) (e : Ending) (w' : World) : Prop := ∃ v, e = .returned (.tuple #[v, .bool b]) ∧ AccI w L v w'
end Go.Proofs.YtphkpokoeaagfaaGreatDoor
