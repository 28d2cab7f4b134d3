/- Contracts of Concat: of the library's, of the program's, of the reference's. -/
import Derived.Test.YtphkpokoeaagfaaGreatDoorRnr
import Derived.Lib.AppendZeros
import Derived.Deep.Upon
namespace Go.Proofs.YtphkpokoeaagfaaGreatDoor
open Go.ChangeShapes Go.WideShapes Go.ChangeAt Go.RowKit
set_option linter.unusedVariables false
set_option maxRecDepth 100000

theorem Its.news {w : World} {a : Addr} {M : List It} (hM : Its w (some a) M) : ∀ j u, (icells M)[j]? = some u → w.cell? (a.add j) = some u := fun j u hj => by
  have hj3 : j < M.length * 3 := by
    rcases Nat.lt_or_ge j (M.length * 3) with h | h
    · exact h
    · rw [List.getElem?_eq_none (by rw [icells_length]; exact h)] at hj; cases hj
  obtain ⟨a', e, _, hc⟩ := hM (by omega)
  cases e
  obtain ⟨q, hq⟩ : ∃ q, q = j / 3 := ⟨_, rfl⟩
  have hql : q < M.length := by omega
  have hj' : j = q * 3 ∨ j = q * 3 + 1 ∨ j = q * 3 + 2 := by omega
  clear hq
  obtain ⟨c0, c1, c2⟩ := hc q hql
  obtain ⟨d0, d1, d2⟩ := icells_at M q hql
  rcases hj' with rfl | rfl | rfl
  · rw [d0] at hj; rw [c0]; exact hj
  · rw [d1] at hj; rw [c1]; exact hj
  · rw [d2] at hj; rw [c2]; exact hj
/-- Appending a slice of items, whatever it is, to one that the call owns. -/
theorem append_its (w : World) (ty : TypeId) (base : Nat) (L M : List It) (v : Value) (p : Option Addr) (c : Nat) (h : OwnL 62 3 ienc base L v w) (hM : Its w p M) (hbase : base ≤ w.heap.size) (hl : (L.length + M.length) * 32 ≤ 140737488355328) :
    ∃ v' w', (Builtin.append_ #[24, 24] ty #[v, .slice p M.length c]).run Tryz.prog w = .ok v' w' ∧ OwnL 62 3 ienc base (L ++ M) v' w' ∧ w.grownBy w' v.ownBlock := by
  obtain ⟨i, hi, hz0, hz1, hz2⟩ := eI.hi
  by_cases h0 : M.length = 0
  · have hM0 : M = [] := List.length_eq_zero_iff.1 h0
    subst hM0
    rw [List.append_nil]
    refine ⟨v, w, ?_, h, World.grownBy.refl _ _⟩
    obtain ⟨p1, c1, rfl, hle, _⟩ := h.its
    refine run_append_nothing w 24 24 ty 62 i eI.ht hi p1 L.length c1 hle _ ?_
    cases p with
    | none => exact Src.ofNil w eI.ht c
    | some a => exact Src.ofSlice w eI.ht a 0 c [] (by simp) (fun j u hj => by simp at hj) (fun u hu => by cases hu)
  · obtain ⟨a, rfl, hlt, _⟩ := hM (by omega)
    have hm3 := icells_length M
    obtain ⟨g, cap, w', hr, h2, h3, h4, h5⟩ := run_append_lies (P := Tryz.prog) w 24 ty base 62 i _ 3 32 eI.ht hi hz0 hz1 hz2 eI.hzs eI.hsz v L.length (cellsOf ienc L) h a M.length c (icells M) hm3 hM.news (icells_one M) (by omega) (by unfold maxLen; omega) hl hbase _ rfl
    refine ⟨_, w', hr, ?_, h3⟩
    unfold OwnL
    rw [List.length_append, show cellsOf ienc (L ++ M) = cellsOf ienc L ++ icells M from by unfold cellsOf icells; rw [List.flatMap_append]; rfl]
    exact h2
theorem wpl_cat {w : World} {ops : Array Oper} {rest : List Oper} {o : Oper} {a : Act} {Q : Exit → Act → World → Prop} (hgd : o.guard = none) (s x : Operand) (ho : o.op = .call { callee := .builtin .append, args := #[s, x], argTypes := #[24, 24] })
    (w0 : World) (L M : List It) (v : Value) (hs : a.eval s = v) (h : AccI w0 L v w) (p : Option Addr) (m c : Nat) (hx : a.eval x = .slice p m c) (hm : m = M.length) (hM : Its w p M) (hl : (L.length + M.length) * 32 ≤ 140737488355328)
    (hK : ∀ v' w', AccI w0 (L ++ M) v' w' → wpList Tryz.prog ops Q rest (a.put o.dst v') w') : wpList Tryz.prog ops Q (o :: rest) a w := by
  subst hm
  obtain ⟨v', w', hr, h1, h2⟩ := append_its w o.type w0.heap.size L M v p c h.own hM h.below.size hl
  exact Lib.wpList_append_run w hgd s x 24 24 ho v _ hs hx v' w' hr (hK v' w' (h.more h2 h1))

end Go.Proofs.YtphkpokoeaagfaaGreatDoor
