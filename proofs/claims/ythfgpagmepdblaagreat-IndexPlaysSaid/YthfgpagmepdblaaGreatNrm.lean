/- Contracts of Normalize and of its closure. -/
import Derived.Test.YthfgpagmepdblaaGreatNrmM
import Derived.Test.YthfgpagmepdblaaGreatBdw
import Derived.Test.YthfgpagmepdblaaGreatSli
import Derived.Deep.RegionLaw
import Derived.Deep.RegionWith
import Derived.Test.YthfgpagmepdblaaGreatVal
namespace Go.Proofs.YthfgpagmepdblaaGreat
open Go.ChangeShapes Go.WideShapes Go.ChangeAt Go.RowKit
set_option linter.unusedVariables false
set_option maxRecDepth 100000

/-- append of one element at a step of a region that draws its order: and where the new slice lies. -/
theorem step_app {α : Type} {t e size bytes : Nat} {z : Value} {enc : α → List Value} (E : El t e size bytes z enc) (w : World) {ops : Array Oper} {o : Oper} {a : Act} {K : Act → World → Prop} {Q : Exit → Act → World → Prop} {EE : Prop} (hg : o.guard = none) (s x : Operand)
    (ho : o.op = .call { callee := .builtin .append, args := #[s, x], argTypes := #[t, t] }) (base : Nat) (L : List α) (v : Value) (hs : a.eval s = v) (h : OwnL e size enc base L v w) (hbase : base ≤ w.heap.size) (y : α) (B : Nat) (cs : Array Value)
    (hx : a.eval x = .slice (some ⟨B, 0, none⟩) 1 1) (hB : w.heap[B]? = some (.cells cs e (0, 0))) (hcs : cs.toList = enc y) (hlen : (L.length + 1) * bytes ≤ 140737488355328) (hlen' : L.length + 1 ≤ maxLen)
    (hK : ∀ g cap w', OwnL e size enc base (L ++ [y]) (.slice (some ⟨g, 0, none⟩) (L.length + 1) cap) w' → w.grownBy w' v.ownBlock → (v.ownBlock = some g ∨ g = w.heap.size) → K (a.put o.dst (.slice (some ⟨g, 0, none⟩) (L.length + 1) cap)) w') :
    if Region.wanted o (yielded ops a.tmps) = true then Oper.wp Tryz.prog o a w K Q else EE := by
  obtain ⟨i, hi, hz0, hz1, hz2⟩ := E.hi
  refine step_append_lies w hg s x t ho base e i z size bytes E.ht hi hz0 hz1 hz2 E.hzs E.hsz v L.length (cellsOf enc L) hs h ⟨B, 0, none⟩ 1 1 (enc y) hx (by rw [E.len]; omega) ?_ (E.one y) (by omega) hlen' hlen hbase _ rfl ?_
  · rw [← hcs]; exact World.news_of_block hB
  · intro g cap w' h2 h3 h4 h5
    refine hK _ _ _ ?_ h3 h4
    unfold OwnL; rw [List.length_append, show cellsOf enc (L ++ [y]) = cellsOf enc L ++ enc y from by unfold cellsOf; rw [List.flatMap_append]; simp]; exact h2
theorem wpl_app {α : Type} {t e size bytes : Nat} {z : Value} {enc : α → List Value} (E : El t e size bytes z enc) (w : World) {ops : Array Oper} {rest : List Oper} {o : Oper} {a : Act} {Q : Exit → Act → World → Prop} (hg : o.guard = none) (s x : Operand)
    (ho : o.op = .call { callee := .builtin .append, args := #[s, x], argTypes := #[t, t] }) (base : Nat) (L : List α) (v : Value) (hs : a.eval s = v) (h : OwnL e size enc base L v w) (hbase : base ≤ w.heap.size) (y : α) (B : Nat) (cs : Array Value)
    (hx : a.eval x = .slice (some ⟨B, 0, none⟩) 1 1) (hB : w.heap[B]? = some (.cells cs e (0, 0))) (hcs : cs.toList = enc y) (hlen : (L.length + 1) * bytes ≤ 140737488355328) (hlen' : L.length + 1 ≤ maxLen)
    (hK : ∀ g cap w', OwnL e size enc base (L ++ [y]) (.slice (some ⟨g, 0, none⟩) (L.length + 1) cap) w' → w.grownBy w' v.ownBlock → (v.ownBlock = some g ∨ g = w.heap.size) → wpList Tryz.prog ops Q rest (a.put o.dst (.slice (some ⟨g, 0, none⟩) (L.length + 1) cap)) w') : wpList Tryz.prog ops Q (o :: rest) a w := by
  obtain ⟨i, hi, hz0, hz1, hz2⟩ := E.hi
  refine wpList_append_lies w hg s x t ho base e i z size bytes E.ht hi hz0 hz1 hz2 E.hzs E.hsz v L.length (cellsOf enc L) hs h ⟨B, 0, none⟩ 1 1 (enc y) hx (by rw [E.len]; omega) ?_ (E.one y) (by omega) hlen' hlen hbase _ rfl ?_
  · rw [← hcs]; exact World.news_of_block hB
  · intro g cap w' h2 h3 h4 h5
    refine hK _ _ _ ?_ h3 h4
    unfold OwnL; rw [List.length_append, show cellsOf enc (L ++ [y]) = cellsOf enc L ++ enc y from by unfold cellsOf; rw [List.flatMap_append]; simp]; exact h2

/-- The blocks that are Normalize's own. -/
def nS (r b : Nat) (g : Option Nat) (v : Value) (i : Nat) : Prop := i = r ∨ i = b ∨ g = some i ∨ v.ownBlock = some i
theorem var_after {w1 w2 : World} {r : Nat} {o ob : Obj} {row : Option Nat} (hr1 : w1.heap[r]? = some ob) (hg : (w1.alloc o).grownBy w2 row) (hne : ¬ some r = row) : w2.heap[r]? = some ob := by
  have hlt : r < w1.heap.size := (Array.getElem?_eq_some_iff.1 hr1).1
  exact (hg.block r (Nat.lt_of_lt_of_le hlt (blw (Below.refl _ w1) o).size) hne).trans ((Lib.alloc_old w1 o r hlt).trans hr1)
theorem var_cell {w : World} {r : Nat} {v : Value} {t : TypeId} (h : w.heap[r]? = some (.cells #[v] t (0, 0))) : w.cell? ⟨r, 0, none⟩ = some v := by rw [Lib.cell_of_heap h]; rfl
theorem var_free {w : World} {r : Nat} {v : Value} {t : TypeId} (h : w.heap[r]? = some (.cells #[v] t (0, 0))) : w.frozen? ⟨r, 0, none⟩ = false := Lib.frozen_of_heap h 0
section
variable {base r b g2 cap n : Nat} {g : Option Nat} {v : Value} {res L : List It} {bs : List UInt8} {w w1 w2 w4 : World} {o : Obj}
end
end Go.Proofs.YthfgpagmepdblaaGreat
