/- The contract of Validate. -/
import Derived.Test.YtncdjfgoigaflaaVal
import Derived.Carry
namespace Go.Proofs.Ytncdjfgoigaflaa
open Go.ChangeShapes Go.WideShapes Go.ChangeAt Go.RowKit
set_option linter.unusedVariables false
set_option maxRecDepth 100000

theorem lastText_snoc (P : List It) (x : It) : lastText (P ++ [x]) = decide (x.k = 1) := by unfold lastText; simp
/-- What holds at each round's head of Validate. -/
structure VRel (l : List It) (w : World) (T : Nat) (k : Nat) (wr : World) : Prop where
  le : k ≤ l.length
  ok : errL [] (l.take k) = 0
  below : Below w.heap.size w wr
  base : w.heap.size ≤ T
  var : Var2M wr (T + 2) T (T + 1)
  t : MapAt 3 vInt Value.bool wr T k (fun id => if taken (l.take k) id = true then some true else none)
  u : MapAt 3 vInt Value.string wr (T + 1) k (unc (l.take k))
theorem VRel.call {l : List It} {w : World} {T k : Nat} {wr w1 : World} (h : VRel l w T k wr) (hb : Below wr.heap.size wr w1) : VRel l w T k w1 :=
  ⟨h.le, h.ok, BelowOn h.below hb, h.base, h.var.call hb, h.t.call hb, h.u.call hb⟩
theorem VRel.alloc {l : List It} {w : World} {T k : Nat} {wr : World} (h : VRel l w T k wr) (o : Obj) : VRel l w T k (wr.alloc o) := h.call ((Below.refl _ _).alloc (Nat.le_refl _) o)
theorem VRel.next {l : List It} {w : World} {T k : Nat} {wr : World} (h : VRel l w T k wr) (hk : k < l.length) (he : errAt (l.take k) (l[k]'hk) = 0) (ht : isT (l[k]'hk).k = false) : VRel l w T (k + 1) wr := by
  refine ⟨hk, errL_take l k hk h.ok he, h.below, h.base, h.var, (h.t.mono (Nat.le_succ k)).ext fun id => ?_, (h.u.mono (Nat.le_succ k)).ext fun id => ?_⟩
  · rw [List.take_succ_eq_append_getElem hk, taken_snoc, ht]; simp
  · rw [List.take_succ_eq_append_getElem hk, unc_snoc, ht]; simp
theorem MapAt.made1 {κ β : Type} [DecidableEq κ] {kt : TypeId} {kv : κ → Value} {enc : β → Value} (w : World) (B : Nat) (hB : w.heap.size = B) : MapAt kt kv enc (w.alloc (.map #[] 0)) B 0 (fun _ => none) := by subst hB; exact MapAt.made w

end Go.Proofs.Ytncdjfgoigaflaa
