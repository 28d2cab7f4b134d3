/- Contracts of Validate and of what it calls. -/
import Derived.Test.YthfgpagmepdblaaGreatValM
import Derived.Test.YthfgpagmepdblaaGreatMap
import Derived.Test.YthfgpagmepdblaaGreatCon
import Derived.Test.YthfgpagmepdblaaGreatAcc
import Derived.Deep.RegionHeld3
namespace Go.Proofs.YthfgpagmepdblaaGreat
open Go.ChangeShapes Go.WideShapes Go.ChangeAt Go.RowKit
set_option linter.unusedVariables false
set_option maxRecDepth 100000

theorem zeroB (w : World) : (zeroValue 4).run Tryz.prog w = .ok (.bool false) w := by kernel_rfl
theorem zeroS (w : World) : (zeroValue 9).run Tryz.prog w = .ok (.string .empty) w := by kernel_rfl
theorem zeroI (w : World) : (zeroValue 3).run Tryz.prog w = .ok (.int .i64 0) w := by kernel_rfl
/-- Nothing that lay has turned but two maps. -/
def But (T U : Nat) (w w' : World) : Prop := ∀ i, i < w.heap.size → i ≠ T → i ≠ U → w'.heap[i]? = w.heap[i]?
theorem But.of {T U : Nat} {w w' : World} (h : Below w.heap.size w w') : But T U w w' := fun i hi _ _ => h.block i hi
theorem But.grown1 {T U : Nat} {w w' : World} (h : w.grownBy w' (some T)) : But T U w w' := fun i hi h1 _ => h.block i hi (fun e => h1 (Option.some.inj e))
theorem But.grown2 {T U : Nat} {w w' : World} (h : w.grownBy w' (some U)) : But T U w w' := fun i hi _ h2 => h.block i hi (fun e => h2 (Option.some.inj e))
theorem But.trans {T U : Nat} {w w1 w2 : World} (h : But T U w w1) (hs : w.heap.size ≤ w1.heap.size) (k : But T U w1 w2) : But T U w w2 := fun i hi h1 h2 => (k i (by omega) h1 h2).trans (h i hi h1 h2)
theorem grown_below {b base : Nat} {w w' : World} (h : w.grownBy w' (some b)) (hb : base ≤ b) (hs : base ≤ w.heap.size) : Below base w w' :=
  (Below.refl base w).grown h hs (fun k hk => by injection hk with hk; omega)

/-- A variable of two maps, where it lies. -/
structure Var2M (W : World) (b T U : Nat) : Prop where
  c0 : W.cell? ⟨b, 0, none⟩ = some (.map (some T))
  c1 : W.cell? ⟨b, 1, none⟩ = some (.map (some U))
  lt : b < W.heap.size
theorem cell_block {W W' : World} {b : Nat} (h : W'.heap[b]? = W.heap[b]?) (j : Nat) : W'.cell? ⟨b, j, none⟩ = W.cell? ⟨b, j, none⟩ := by simp only [World.cell?, h]
theorem Var2M.same {W W' : World} {b T U : Nat} (h : Var2M W b T U) (hb : W'.heap[b]? = W.heap[b]?) (hs : W.heap.size ≤ W'.heap.size) : Var2M W' b T U :=
  ⟨by rw [cell_block hb]; exact h.c0, by rw [cell_block hb]; exact h.c1, Nat.lt_of_lt_of_le h.lt hs⟩
theorem Var3.same {W W' : World} {b : Nat} {k id : Int} {t : ByteArray} (h : Var3 W b k t id) (hb : W'.heap[b]? = W.heap[b]?) (hs : W.heap.size ≤ W'.heap.size) : Var3 W' b k t id :=
  ⟨by rw [cell_block hb]; exact h.c0, by rw [cell_block hb]; exact h.c1, by rw [cell_block hb]; exact h.c2, Nat.lt_of_lt_of_le h.lt hs⟩
theorem Var2M.other {W W' : World} {b c T U : Nat} (h : Var2M W b T U) (hg : W.grownBy W' (some c)) (hne : b ≠ c) : Var2M W' b T U := h.same (hg.block b h.lt (fun e => hne (Option.some.inj e))) hg.size
theorem Var3.other {W W' : World} {b c : Nat} {k id : Int} {t : ByteArray} (h : Var3 W b k t id) (hg : W.grownBy W' (some c)) (hne : b ≠ c) : Var3 W' b k t id := h.same (hg.block b h.lt (fun e => hne (Option.some.inj e))) hg.size
theorem Var2M.call {W W' : World} {b T U : Nat} (h : Var2M W b T U) (hb : Below W.heap.size W W') : Var2M W' b T U := h.same (hb.block b h.lt) hb.size
theorem Var2M.alloc {W : World} {b T U : Nat} (h : Var2M W b T U) (o : Obj) : Var2M (W.alloc o) b T U := h.call ((Below.refl _ _).alloc (Nat.le_refl _) o)
theorem Var2M.drew {W : World} {b T U : Nat} (h : Var2M W b T U) : Var2M W.drew b T U := ⟨h.c0, h.c1, h.lt⟩
end Go.Proofs.YthfgpagmepdblaaGreat
