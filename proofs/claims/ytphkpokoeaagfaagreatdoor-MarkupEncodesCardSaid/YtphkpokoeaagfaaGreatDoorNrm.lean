/- Contracts of Normalize and of its closure. -/
import Derived.Test.YtphkpokoeaagfaaGreatDoorNrmM
import Derived.Test.YtphkpokoeaagfaaGreatDoorBdw
import Derived.Test.YtphkpokoeaagfaaGreatDoorSli
import Derived.Deep.RegionLaw
import Derived.Deep.RegionWith
import Derived.Test.YtphkpokoeaagfaaGreatDoorVal
namespace Go.Proofs.YtphkpokoeaagfaaGreatDoor
open Go.ChangeShapes Go.WideShapes Go.ChangeAt Go.RowKit
set_option linter.unusedVariables false
set_option maxRecDepth 100000

/-- append of one element at a step of a region that draws its order: and where the new slice lies. -/
theorem step_app {α : Type} {t e size bytes : Nat} {z : Value} {enc : α → List Value} (E : El t e size bytes z enc) (w : World) {ops : Array Oper} {o : Oper} {a : Act} {K : Act → World → Prop} {Q : Exit → Act → World → Prop} {EE : Prop} (hg : o.guard = none) (s x : Operand)
    (ho : o.op = .call { callee := .builtin .append, args := #[s, x], argTypes := #[t, t] }) (base : Nat) (L : List α) (v : Value) (hs : a.eval s = v) (h : OwnL e size enc base L v w) (hbase : base ≤ w.heap.size) (y : α) (B : Nat) (cs : Array Value)
    (hx : a.eval x = .slice (some ⟨B, 0, none⟩) 1 1) (hB : w.heap[B]? = some (.cells cs e (0, 0))) (hcs : cs.toList = enc y) (hlen : (L.length + 1) * bytes ≤ 140737488355328) (hlen' : L.length + 1 ≤ maxLen)
    (hK : ∀ g cap w', OwnL e size enc base (L ++ [y]) (.slice (some ⟨g, 0, none⟩) (L.length + 1) cap) w' → w.grownBy w' v.ownBlock → (v.ownBlock = some g ∨ g = w.heap.size) → K (a.put o.dst (.slice (some ⟨g, 0, none⟩) (L.length + 1) cap)) w') :
    if Region.wanted o (yielded ops a.tmps) = true then Oper.wp Tryz.prog o a w K Q else EE := by
  obtain ⟨i, hi, hz0, hz1, hz2⟩ := E.hi
  refine step_append_lies w hg s x t ho base e i z size bytes E.ht hi hz0 hz1 hz2 E.hzs E.hsz v L.length (cellsOf enc L) hs h ⟨B, 0, none⟩ 1 1 (enc y) hx (by rw [E.len]; omega) ?_ (E.one y) (by omega) hlen' hlen hbase _ rfl ?_
  · rw [← hcs]; exact World.news_of_block hB
  · intro g cap w' h2 h3 h4 h5
    refine hK _ _ _ ?_ h3 h4
    unfold OwnL; rw [List.length_append, show cellsOf enc (L ++ [y]) = cellsOf enc L ++ enc y from by unfold cellsOf; rw [List.flatMap_append]; simp]; exact h2
theorem wpl_app {α : Type} {t e size bytes : Nat} {z : Value} {enc : α → List Value} (E : El t e size bytes z enc) (w : World) {ops : Array Oper} {rest : List Oper} {o : Oper} {a : Act} {Q : Exit → Act → World → Prop} (hg : o.guard = none) (s x : Operand)
    (ho : o.op = .call { callee := .builtin .append, args := #[s, x], argTypes := #[t, t] }) (base : Nat) (L : List α) (v : Value) (hs : a.eval s = v) (h : OwnL e size enc base L v w) (hbase : base ≤ w.heap.size) (y : α) (B : Nat) (cs : Array Value)
    (hx : a.eval x = .slice (some ⟨B, 0, none⟩) 1 1) (hB : w.heap[B]? = some (.cells cs e (0, 0))) (hcs : cs.toList = enc y) (hlen : (L.length + 1) * bytes ≤ 140737488355328) (hlen' : L.length + 1 ≤ maxLen)
    (hK : ∀ g cap w', OwnL e size enc base (L ++ [y]) (.slice (some ⟨g, 0, none⟩) (L.length + 1) cap) w' → w.grownBy w' v.ownBlock → (v.ownBlock = some g ∨ g = w.heap.size) → wpList Tryz.prog ops Q rest (a.put o.dst (.slice (some ⟨g, 0, none⟩) (L.length + 1) cap)) w') : wpList Tryz.prog ops Q (o :: rest) a w := by
  obtain ⟨i, hi, hz0, hz1, hz2⟩ := E.hi
  refine wpList_append_lies w hg s x t ho base e i z size bytes E.ht hi hz0 hz1 hz2 E.hzs E.hsz v L.length (cellsOf enc L) hs h ⟨B, 0, none⟩ 1 1 (enc y) hx (by rw [E.len]; omega) ?_ (E.one y) (by omega) hlen' hlen hbase _ rfl ?_
  · rw [← hcs]; exact World.news_of_block hB
  · intro g cap w' h2 h3 h4 h5
    refine hK _ _ _ ?_ h3 h4
    unfold OwnL; rw [List.length_append, show cellsOf enc (L ++ [y]) = cellsOf enc L ++ enc y from by unfold cellsOf; rw [List.flatMap_append]; simp]; exact h2

/-- What Normalize has in hand: the builder, the result's variable, the result. -/
structure NSt (base r b : Nat) (g : Option Nat) (v : Value) (res : List It) (bs : List UInt8) (w : World) : Prop where
  bld : Bld base w b g bs
  var : w.heap[r]? = some (.cells #[v] 24 (0, 0))
  own : OwnL 62 3 ienc base res v w
  rb : base ≤ r
  hrb : r ≠ b
  vr : v.ownBlock ≠ some r
  vb : v.ownBlock ≠ some b
  gr : g ≠ some r
  vg : ∀ i, g = some i → v.ownBlock ≠ some i
/-- The blocks that are Normalize's own. -/
def nS (r b : Nat) (g : Option Nat) (v : Value) (i : Nat) : Prop := i = r ∨ i = b ∨ g = some i ∨ v.ownBlock = some i
theorem NSt.size {base r b : Nat} {g : Option Nat} {v : Value} {res : List It} {bs : List UInt8} {w : World} (h : NSt base r b g v res bs w) : r < w.heap.size ∧ b < w.heap.size ∧ (∀ i, g = some i → base ≤ i ∧ i < w.heap.size) ∧ ∀ i, v.ownBlock = some i → base ≤ i ∧ i < w.heap.size :=
  ⟨(Array.getElem?_eq_some_iff.1 h.var).1, h.bld.lt.1, h.bld.lt.2, fun i hi => World.ownsRow.lt h.own i hi⟩
theorem NSt.same {base r b : Nat} {g : Option Nat} {v : Value} {res : List It} {bs : List UInt8} {w w' : World} (h : NSt base r b g v res bs w) (hb : ∀ i, nS r b g v i → w'.heap[i]? = w.heap[i]?) : NSt base r b g v res bs w' :=
  ⟨h.bld.same (hb _ (.inr (.inl rfl))) (fun i hi => hb i (.inr (.inr (.inl hi)))), (hb r (.inl rfl)).trans h.var, ownsRow_same h.own (fun i hi => hb i (.inr (.inr (.inr hi)))), h.rb, h.hrb, h.vr, h.vb, h.gr, h.vg⟩
theorem NSt.call {base r b : Nat} {g : Option Nat} {v : Value} {res : List It} {bs : List UInt8} {w w' : World} (h : NSt base r b g v res bs w) (hb : Below w.heap.size w w') : NSt base r b g v res bs w' := by
  obtain ⟨s1, s2, s3, s4⟩ := h.size
  refine h.same fun i hi => hb.block i ?_
  rcases hi with rfl | rfl | hi | hi
  · exact s1
  · exact s2
  · exact (s3 i hi).2
  · exact (s4 i hi).2
theorem NSt.base {base r b : Nat} {g : Option Nat} {v : Value} {res : List It} {bs : List UInt8} {w : World} (h : NSt base r b g v res bs w) : ∀ i, nS r b g v i → base ≤ i := fun i hi => by
  obtain ⟨s1, s2, s3, s4⟩ := h.size
  rcases hi with rfl | rfl | hi | hi
  · exact h.rb
  · exact h.bld.1
  · exact (s3 i hi).1
  · exact (s4 i hi).1

theorem var_after {w1 w2 : World} {r : Nat} {o ob : Obj} {row : Option Nat} (hr1 : w1.heap[r]? = some ob) (hg : (w1.alloc o).grownBy w2 row) (hne : ¬ some r = row) : w2.heap[r]? = some ob := by
  have hlt : r < w1.heap.size := (Array.getElem?_eq_some_iff.1 hr1).1
  exact (hg.block r (Nat.lt_of_lt_of_le hlt (blw (Below.refl _ w1) o).size) hne).trans ((Lib.alloc_old w1 o r hlt).trans hr1)
theorem var_cell {w : World} {r : Nat} {v : Value} {t : TypeId} (h : w.heap[r]? = some (.cells #[v] t (0, 0))) : w.cell? ⟨r, 0, none⟩ = some v := by rw [Lib.cell_of_heap h]; rfl
theorem var_free {w : World} {r : Nat} {v : Value} {t : TypeId} (h : w.heap[r]? = some (.cells #[v] t (0, 0))) : w.frozen? ⟨r, 0, none⟩ = false := Lib.frozen_of_heap h 0
section
variable {base r b g2 cap n : Nat} {g : Option Nat} {v : Value} {res L : List It} {bs : List UInt8} {w w1 w2 w4 : World} {o : Obj}
theorem endrun_b (h : NSt base r b g v res bs w) (hO1 : Only (fun i => g = some i) w.drew w1) (hgr2 : (w1.alloc o).grownBy w2 v.ownBlock) (nv : Value) :
    ∃ p vb, (w2.setCell ⟨r, 0, none⟩ nv).heap[b]? = some (.cells #[p, vb] 99 (0, 0)) := by
  obtain ⟨_, p, vb, _, hb, _, _, hne⟩ := h.bld
  refine ⟨p, vb, ?_⟩
  rw [Below.heap_setCell _ _ _ _ (fun e => h.hrb e.symm)]
  exact var_after ((hO1.block b (Array.getElem?_eq_some_iff.1 hb).1 hne).trans hb) hgr2 (fun e => h.vb e.symm)
theorem endrun_fin (h : NSt base r b g v res bs w) (hO1 : Only (fun i => g = some i) w.drew w1) (hgr2 : (w1.alloc o).grownBy w2 v.ownBlock) (hloc2 : v.ownBlock = some g2 ∨ g2 = (w1.alloc o).heap.size)
    (hown2 : OwnL 62 3 ienc base L (.slice (some ⟨g2, 0, none⟩) n cap) w2) (hO4 : Only (fun i => i = b) (w2.setCell ⟨r, 0, none⟩ (.slice (some ⟨g2, 0, none⟩) n cap)) w4) (hB4 : Bld base w4 b none []) :
    Only (nS r b g v) w w4 ∧ ∃ g' v', NSt base r b g' v' L [] w4 := by
  obtain ⟨s1, s2, s3, s4⟩ := h.size
  have hbw : base ≤ w.heap.size := by have := h.rb; omega
  have z1 : w.heap.size ≤ w1.heap.size := hO1.size
  have z2 : w1.heap.size ≤ (w1.alloc o).heap.size := (blw (Below.refl _ w1) o).size
  have z3 := hgr2.size
  have hg2r : g2 ≠ r := fun e => by
    rcases hloc2 with h1 | h1
    · exact h.vr (by rw [h1, e])
    · omega
  have hg2b : g2 ≠ b := fun e => by
    rcases hloc2 with h1 | h1
    · exact h.vb (by rw [h1, e])
    · omega
  have hlt2 : g2 < w2.heap.size := (World.ownsRow.lt hown2 g2 rfl).2
  have hg2base : base ≤ g2 := (World.ownsRow.lt hown2 g2 rfl).1
  have szs : (w2.setCell ⟨r, 0, none⟩ (.slice (some ⟨g2, 0, none⟩) n cap)).heap.size = w2.heap.size := by simp [World.setCell]
  have hr1 : w1.heap[r]? = some (.cells #[v] 24 (0, 0)) := (hO1.block r s1 h.gr).trans h.var
  have hr2 := var_after hr1 hgr2 (fun e => h.vr e.symm)
  refine ⟨?_, none, .slice (some ⟨g2, 0, none⟩) n cap, hB4, ?_, ?_, h.rb, h.hrb, fun e => hg2r (Option.some.inj e), fun e => hg2b (Option.some.inj e), by simp, by simp⟩
  · have b1 : Only (nS r b g v) w.drew w1 := hO1.mono (fun i _ hi => .inr (.inr (.inl hi)))
    have b2 : Only (nS r b g v) (w1.alloc o) w2 := Only.of_grown hgr2 (fun i hi => .inr (.inr (.inr hi)))
    have b3 : Only (nS r b g v) (w2.setCell ⟨r, 0, none⟩ (.slice (some ⟨g2, 0, none⟩) n cap)) w4 := hO4.mono (fun i _ hi => .inr (.inl hi))
    have b0 : Only (nS r b g v) w w.drew := Only.of_below (Below.refl _ w).drew
    exact (((b0.trans b1).alloc o).trans b2 |>.setCell ⟨r, 0, none⟩ _ (.inl rfl)).trans b3
  · rw [hO4.block r (by rw [szs]; have := (Array.getElem?_eq_some_iff.1 hr2).1; omega) h.hrb]
    simp [World.setCell, Array.getElem?_modify, hr2]
  · refine ownsRow_same hown2 fun i hi => ?_
    injection hi with hi
    subst hi
    rw [hO4.block g2 (by rw [szs]; exact hlt2) hg2b, Below.heap_setCell _ _ _ _ hg2r]
end
set_option maxHeartbeats 3200000 in
theorem endrun_any (base r b : Nat) (g : Option Nat) (v : Value) (res : List It) (bs : List UInt8) (w : World) (h : NSt base r b g v res bs w) (hl : res.length ≤ 4000000000) :
    Calls Tryz.prog 57 #[.pointer (some ⟨b, 0, none⟩), .pointer (some ⟨r, 0, none⟩)] w fun e w' => e = .returned (.tuple #[]) ∧ Only (nS r b g v) w w' ∧ ∃ g' v', NSt base r b g' v' (flush res bs) [] w' := by
  have hlen := fun w h => bld_len base w b g bs h
  obtain ⟨s1, s2, s3, s4⟩ := h.size
  have hbw : base ≤ w.heap.size := by have := h.rb; omega
  by_cases hb : bs = []
  · subst hb
    have HL := Lib.hid hlen; clear hlen
    rw [flush_nil]
    go_enter Tryz.func57, Tryz.ntmps57
    go_wp2_with fail
    refine (HL.out _ h.bld).mono ?_; rintro e w1 ⟨rfl, rfl⟩
    go_wp2_with fail
    go_end0
    exact ⟨rfl, Only.refl _ _, g, v, h⟩
  · have hpos : decide (0 < bs.length) = true := by
      have : bs.length ≠ 0 := by simpa using hb
      exact decide_eq_true (by omega)
    have hstr := fun w h => bld_str base w b g bs h hb
    have hrst := fun w p v h => bld_reset base w b g p v h
    rw [flush_some res bs hb]
    have c0 : w.cell? ⟨r, 0, none⟩ = some v := by rw [Lib.cell_of_heap h.var]; rfl
    have HL := Lib.hid hlen; have HS := Lib.hid hstr; have HR := Lib.hid hrst
    have HB := Lib.hid hb
    clear hlen hstr hrst hb
    generalize hst : (⟨bs.toArray⟩ : ByteArray) = st at *
    clear hst
    go_enter Tryz.func57, Tryz.ntmps57
    go_wp2_with fail
    refine (HL.out _ h.bld).mono ?_; rintro e w1 ⟨rfl, rfl⟩
    go_wp2_with fail
    go_region_law (first
      | (refine step_app eI _ (by rfl) _ _ (by rfl) base res v (by rfl) (World.ownsRow.alloc own1 (.cells #[.int .i64 1, .string st, .int .i64 0] 62)) hsz1 ⟨1, st, 0⟩ w1.heap.size #[.int .i64 1, .string st, .int .i64 0] (by rfl) (heap_alloc_new w1 (.cells #[.int .i64 1, .string st, .int .i64 0] 62)) (by rfl) (by omega) (by unfold maxLen; omega) ?_; intro g2 cap w2 hown2 hgr2 hloc2; have hr2 := var_after hr1 hgr2 (fun e => h.vr e.symm); have r2 := var_cell hr2; have f2 := var_free hr2)
      | (go_simp; go_at_call 59; refine (HS.out _ (h.bld.call (Below.refl _ _).drew)).mono ?_; rintro e w1 ⟨rfl, hO1⟩; have own1 : OwnL 62 3 ienc base res v w1 := ownsRow_same h.own (fun i hi => hO1.block i (s4 i hi).2 (fun e => h.vg i e hi)); have r1 : w1.cell? ⟨r, 0, none⟩ = some v := (cell_block (hO1.block r s1 h.gr) 0).trans c0; have hr1 : w1.heap[r]? = some (.cells #[v] 24 (0, 0)) := (hO1.block r s1 h.gr).trans h.var; have lr1 : r < w1.heap.size := Nat.lt_of_lt_of_le s1 hO1.size; have hsz1 : base ≤ (w1.alloc (.cells #[.int .i64 1, .string st, .int .i64 0] 62)).heap.size := Nat.le_trans hbw (Nat.le_trans hO1.size (blw (Below.refl _ w1) _).size)))
    all_goals obtain ⟨p, vb, hbk⟩ := endrun_b h hO1 hgr2 (.slice (some ⟨g2, 0, none⟩) (res.length + 1) cap)
    all_goals go_wp2_with fail
    all_goals refine (HR.out _ p vb h.bld.1 hbk).mono ?_
    all_goals rintro e w4 ⟨rfl, hB4, hO4⟩
    all_goals go_wp2_with fail
    all_goals go_end0
    all_goals exact ⟨rfl, endrun_fin h hO1 hgr2 hloc2 hown2 hO4 hB4⟩
end Go.Proofs.YtphkpokoeaagfaaGreatDoor
