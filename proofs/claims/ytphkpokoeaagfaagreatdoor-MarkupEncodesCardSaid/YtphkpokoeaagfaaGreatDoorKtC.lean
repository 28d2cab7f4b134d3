/- The content that is read: what it holds, where it lies. closeLast; sizes of elements. The contract of the content's add. -/
import Derived.Test.YtphkpokoeaagfaaGreatDoorKtB
import Derived.Test.YtphkpokoeaagfaaGreatDoorKtA
import Derived.Test.YtphkpokoeaagfaaGreatDoorTwo
import Derived.Test.YtphkpokoeaagfaaGreatDoorNrm
import Derived.Test.YtphkpokoeaagfaaGreatDoorFrg
import Derived.Deep.RegionLaw
namespace Go.Proofs.YtphkpokoeaagfaaGreatDoor
open Go.ChangeShapes Go.WideShapes Go.ChangeAt Go.RowKit
set_option linter.unusedVariables false
set_option linter.unusedSimpArgs false
set_option maxRecDepth 100000

def nI (cs : List Nat) : List Int := cs.map fun (n : Nat) => (n : Int)
theorem nI_len (cs : List Nat) : (nI cs).length = cs.length := by unfold nI; simp
theorem nI_snoc (cs : List Nat) (n : Nat) : nI (cs ++ [n]) = nI cs ++ [(n : Int)] := by unfold nI; simp
theorem OwnL.obj {α : Type} {e size : Nat} {enc : α → List Value} {base : Nat} {L : List α} {v : Value} {w : World} (h : OwnL e size enc base L v w) {g : Nat} (hg : v.ownBlock = some g) : ∃ cur, w.heap[g]? = some (.cells cur e (0, 0)) := by
  rcases h.2 with ⟨hv, _⟩ | ⟨g', cap, cur, hv, _, hh, _⟩
  · rw [hv] at hg; cases hg
  · rw [hv] at hg; injection hg with hg; subst hg; exact ⟨cur, hh⟩
/-- Two blocks of different kinds are two. -/
theorem apart {w : World} {i j : Nat} {a b : Obj} (ha : w.heap[i]? = some a) (hb : w.heap[j]? = some b) (h : a ≠ b) : i ≠ j := fun e => by subst e; rw [ha] at hb; injection hb with hb; exact h hb
/-- A row without its last element. -/
theorem OwnL.popI {base : Nat} {L : List It} {y : It} {g n cap : Nat} {w : World} (h : OwnL 62 3 ienc base (L ++ [y]) (.slice (some ⟨g, 0, none⟩) n cap) w) : OwnL 62 3 ienc base L (.slice (some ⟨g, 0, none⟩) L.length cap) w := by
  obtain ⟨h1, h2⟩ := h
  have hcl : ∀ M : List It, (cellsOf ienc M).length = M.length * 3 := cellsOf_len eI
  refine ⟨hcl L, ?_⟩
  rcases h2 with ⟨h2, _⟩ | ⟨g', cap', cur, hv, hg, hh, hl, hm, hs, ht⟩
  · cases h2
  · injection hv with e1 e2 e3
    injection e1 with e1; injection e1 with e1; subst e1; subst e3
    rw [List.length_append] at hl ht
    refine .inr ⟨g, cap, cur, rfl, hg, hh, by omega, hm, hs, ?_⟩
    have := congrArg (List.take (L.length * 3)) ht
    rw [List.take_take, Nat.min_eq_left (by simp; omega)] at this
    rw [this, show cellsOf ienc (L ++ [y]) = cellsOf ienc L ++ ienc y from by unfold cellsOf; rw [List.flatMap_append]; simp, ← hcl L, List.take_left]
/-- The content in block V: elements, where they begin, how many items, how many numbers, the open tags. -/
structure Cnt (base V : Nat) (E : List It) (S : List Nat) (n t : Nat) (op : List It) (vE vS vO : Value) (w : World) : Prop where
  var : w.heap[V]? = some (.cells #[vE, vS, .int .i64 n, .int .i64 t, vO] 69 (0, 0))
  own : OwnL 62 3 ienc base E vE w
  cut : OwnL 3 1 nenc base (nI S) vS w
  opn : OwnL 62 3 ienc base op vO w
  bV : base ≤ V
  eo : ∀ i, vE.ownBlock = some i → vO.ownBlock ≠ some i
def cS (V : Nat) (vE vS vO : Value) (i : Nat) : Prop := i = V ∨ vE.ownBlock = some i ∨ vS.ownBlock = some i ∨ vO.ownBlock = some i
section
variable {base V n t : Nat} {E op : List It} {S : List Nat} {vE vS vO : Value} {w w' : World}
theorem Cnt.lt (h : Cnt base V E S n t op vE vS vO w) : ∀ i, cS V vE vS vO i → base ≤ i ∧ i < w.heap.size := by
  intro i hi
  rcases hi with rfl | hi | hi | hi
  · exact ⟨h.bV, (Array.getElem?_eq_some_iff.1 h.var).1⟩
  · exact World.ownsRow.lt h.own i hi
  · exact World.ownsRow.lt h.cut i hi
  · exact World.ownsRow.lt h.opn i hi
theorem Cnt.same (h : Cnt base V E S n t op vE vS vO w) (hb : ∀ i, cS V vE vS vO i → w'.heap[i]? = w.heap[i]?) : Cnt base V E S n t op vE vS vO w' :=
  ⟨(hb V (.inl rfl)).trans h.var, ownsRow_same h.own (fun i hi => hb i (.inr (.inl hi))), ownsRow_same h.cut (fun i hi => hb i (.inr (.inr (.inl hi)))), ownsRow_same h.opn (fun i hi => hb i (.inr (.inr (.inr hi)))), h.bV, h.eo⟩
theorem Cnt.call (h : Cnt base V E S n t op vE vS vO w) (hb : Below w.heap.size w w') : Cnt base V E S n t op vE vS vO w' := h.same fun i hi => hb.block i (h.lt i hi).2
theorem Cnt.only {Z : Nat → Prop} (h : Cnt base V E S n t op vE vS vO w) (hb : Only Z w w') (hn : ∀ i, Z i → ¬ cS V vE vS vO i) : Cnt base V E S n t op vE vS vO w' := h.same fun i hi => hb.block i (h.lt i hi).2 (fun hs => hn i hs hi)
theorem Cnt.alloc (h : Cnt base V E S n t op vE vS vO w) (o : Obj) : Cnt base V E S n t op vE vS vO (w.alloc o) := h.call (blw (Below.refl _ _) o)
theorem Cnt.drew (h : Cnt base V E S n t op vE vS vO w) : Cnt base V E S n t op vE vS vO w.drew := h.call (Below.refl _ _).drew
/-- A block that is none of the content's. -/
theorem Cnt.setOther (h : Cnt base V E S n t op vE vS vO w) {a : Addr} (hn : ¬ cS V vE vS vO a.block) (v : Value) : Cnt base V E S n t op vE vS vO (w.setCell a v) := h.same fun i hi => Below.heap_setCell _ _ _ _ (fun e => hn (by have e : i = a.block := e; rw [← e]; exact hi))
theorem Cnt.de (h : Cnt base V E S n t op vE vS vO w) : vE.ownBlock ≠ some V := fun e => by
  obtain ⟨cur, hc⟩ := h.own.obj e
  exact apart hc h.var (fun e => by simp at e) rfl
theorem Cnt.ds (h : Cnt base V E S n t op vE vS vO w) : vS.ownBlock ≠ some V := fun e => by
  obtain ⟨cur, hc⟩ := h.cut.obj e
  exact apart hc h.var (fun e => by simp at e) rfl
theorem Cnt.dO (h : Cnt base V E S n t op vE vS vO w) : vO.ownBlock ≠ some V := fun e => by
  obtain ⟨cur, hc⟩ := h.opn.obj e
  exact apart hc h.var (fun e => by simp at e) rfl
theorem Cnt.es (h : Cnt base V E S n t op vE vS vO w) : ∀ i, vE.ownBlock = some i → vS.ownBlock ≠ some i := fun i h1 h2 => by
  obtain ⟨c1, hc⟩ := h.own.obj h1
  obtain ⟨c2, hd⟩ := h.cut.obj h2
  exact apart hc hd (fun e => by simp at e) rfl
theorem Cnt.os (h : Cnt base V E S n t op vE vS vO w) : ∀ i, vO.ownBlock = some i → vS.ownBlock ≠ some i := fun i h1 h2 => by
  obtain ⟨c1, hc⟩ := h.opn.obj h1
  obtain ⟨c2, hd⟩ := h.cut.obj h2
  exact apart hc hd (fun e => by simp at e) rfl
structure Cl5 (V : Nat) (vE vS : Value) (n t : Nat) (vO : Value) (w : World) : Prop where
  c0 : w.cell? ⟨V, 0, none⟩ = some vE
  c1 : w.cell? ⟨V, 1, none⟩ = some vS
  c2 : w.cell? ⟨V, 2, none⟩ = some (.int .i64 n)
  c3 : w.cell? ⟨V, 3, none⟩ = some (.int .i64 t)
  c4 : w.cell? ⟨V, 4, none⟩ = some vO
  f0 : w.frozen? ⟨V, 0, none⟩ = false
  f1 : w.frozen? ⟨V, 1, none⟩ = false
  f2 : w.frozen? ⟨V, 2, none⟩ = false
  f3 : w.frozen? ⟨V, 3, none⟩ = false
  f4 : w.frozen? ⟨V, 4, none⟩ = false
theorem cl5_of (hv : w.heap[V]? = some (.cells #[vE, vS, .int .i64 n, .int .i64 t, vO] 69 (0, 0))) : Cl5 V vE vS n t vO w :=
  ⟨by rw [Lib.cell_of_heap hv]; rfl, by rw [Lib.cell_of_heap hv]; rfl, by rw [Lib.cell_of_heap hv]; rfl, by rw [Lib.cell_of_heap hv]; rfl, by rw [Lib.cell_of_heap hv]; rfl, Lib.frozen_of_heap hv 0, Lib.frozen_of_heap hv 1, Lib.frozen_of_heap hv 2, Lib.frozen_of_heap hv 3, Lib.frozen_of_heap hv 4⟩
theorem Cnt.cells (h : Cnt base V E S n t op vE vS vO w) : Cl5 V vE vS n t vO w := cl5_of h.var
/-- The cells stay, where another row grows. -/
theorem Cnt.past (h : Cnt base V E S n t op vE vS vO w) {row : Option Nat} (hg : w.grownBy w' row) (hr : row ≠ some V) : Cl5 V vE vS n t vO w' :=
  cl5_of ((hg.block V (h.lt V (.inl rfl)).2 (fun e => hr e.symm)).trans h.var)
theorem Cnt.setE (h : Cnt base V E S n t op vE vS vO w) {E' : List It} {vE' : Value} {w1 : World} (hg : w.grownBy w1 vE.ownBlock) (hown : OwnL 62 3 ienc base E' vE' w1) (hloc : ∀ i, vE'.ownBlock = some i → vE.ownBlock = some i ∨ w.heap.size ≤ i) :
    Cnt base V E' S n t op vE' vS vO (w1.setCell ⟨V, 0, none⟩ vE') ∧ Only (cS V vE vS vO) w (w1.setCell ⟨V, 0, none⟩ vE') := by
  have hlt := h.lt
  have hD1 := (hg.block V (hlt V (.inl rfl)).2 (fun e => h.de e.symm)).trans h.var
  have hold : ∀ i, cS V vE vS vO i → i ≠ V → vE.ownBlock ≠ some i → (w1.setCell ⟨V, 0, none⟩ vE').heap[i]? = w.heap[i]? := fun i hi h1 h2 => by
    rw [Below.heap_setCell _ _ _ _ h1]; exact hg.block i (hlt i hi).2 (fun e => h2 e.symm)
  have hiD : vE'.ownBlock ≠ some V := fun e => by
    rcases hloc V e with h1 | h1
    · exact h.de h1
    · have := (hlt V (.inl rfl)).2; omega
  refine ⟨⟨?_, ?_, ?_, ?_, h.bV, fun i hi ho => ?_⟩, ?_⟩
  · have := setCell_heap w1 V 0 _ _ vE' hD1
    simpa using this
  · exact ownsRow_same hown (fun i hi => Below.heap_setCell _ _ _ _ (fun e => hiD (by have e' : i = V := e; rw [← e']; exact hi)))
  · exact ownsRow_same h.cut (fun i hi => hold i (.inr (.inr (.inl hi))) (fun e => h.ds (by rw [← e]; exact hi)) (fun e => h.es i e hi))
  · exact ownsRow_same h.opn (fun i hi => hold i (.inr (.inr (.inr hi))) (fun e => h.dO (by rw [← e]; exact hi)) (fun e => h.eo i e hi))
  · rcases hloc i hi with h1 | h1
    · exact h.eo i h1 ho
    · have := (hlt i (.inr (.inr (.inr ho)))).2; omega
  · exact (Only.of_grown hg (fun i hi => .inr (.inl hi))).setCell _ _ (.inl rfl)
theorem Cnt.setO (h : Cnt base V E S n t op vE vS vO w) {op' : List It} {vO' : Value} {w1 : World} (hg : w.grownBy w1 vO.ownBlock) (hown : OwnL 62 3 ienc base op' vO' w1) (hloc : ∀ i, vO'.ownBlock = some i → vO.ownBlock = some i ∨ w.heap.size ≤ i) :
    Cnt base V E S n t op' vE vS vO' (w1.setCell ⟨V, 4, none⟩ vO') ∧ Only (cS V vE vS vO) w (w1.setCell ⟨V, 4, none⟩ vO') := by
  have hlt := h.lt
  have hD1 := (hg.block V (hlt V (.inl rfl)).2 (fun e => h.dO e.symm)).trans h.var
  have hold : ∀ i, cS V vE vS vO i → i ≠ V → vO.ownBlock ≠ some i → (w1.setCell ⟨V, 4, none⟩ vO').heap[i]? = w.heap[i]? := fun i hi h1 h2 => by
    rw [Below.heap_setCell _ _ _ _ h1]; exact hg.block i (hlt i hi).2 (fun e => h2 e.symm)
  have hiD : vO'.ownBlock ≠ some V := fun e => by
    rcases hloc V e with h1 | h1
    · exact h.dO h1
    · have := (hlt V (.inl rfl)).2; omega
  refine ⟨⟨?_, ?_, ?_, ?_, h.bV, fun i hi ho => ?_⟩, ?_⟩
  · have := setCell_heap w1 V 4 _ _ vO' hD1
    simpa using this
  · exact ownsRow_same h.own (fun i hi => hold i (.inr (.inl hi)) (fun e => h.de (by rw [← e]; exact hi)) (h.eo i hi))
  · exact ownsRow_same h.cut (fun i hi => hold i (.inr (.inr (.inl hi))) (fun e => h.ds (by rw [← e]; exact hi)) (fun e => h.os i e hi))
  · exact ownsRow_same hown (fun i hi => Below.heap_setCell _ _ _ _ (fun e => hiD (by have e' : i = V := e; rw [← e']; exact hi)))
  · rcases hloc i ho with h1 | h1
    · exact h.eo i hi h1
    · have := (hlt i (.inr (.inl hi))).2; omega
  · exact (Only.of_grown hg (fun i hi => .inr (.inr (.inr hi)))).setCell _ _ (.inl rfl)
theorem Cnt.setS (h : Cnt base V E S n t op vE vS vO w) {S' : List Nat} {vS' : Value} {w1 : World} (hg : w.grownBy w1 vS.ownBlock) (hown : OwnL 3 1 nenc base (nI S') vS' w1) (hloc : ∀ i, vS'.ownBlock = some i → vS.ownBlock = some i ∨ w.heap.size ≤ i) :
    Cnt base V E S' n t op vE vS' vO (w1.setCell ⟨V, 1, none⟩ vS') ∧ Only (cS V vE vS vO) w (w1.setCell ⟨V, 1, none⟩ vS') := by
  have hlt := h.lt
  have hD1 := (hg.block V (hlt V (.inl rfl)).2 (fun e => h.ds e.symm)).trans h.var
  have hold : ∀ i, cS V vE vS vO i → i ≠ V → vS.ownBlock ≠ some i → (w1.setCell ⟨V, 1, none⟩ vS').heap[i]? = w.heap[i]? := fun i hi h1 h2 => by
    rw [Below.heap_setCell _ _ _ _ h1]; exact hg.block i (hlt i hi).2 (fun e => h2 e.symm)
  have hiD : vS'.ownBlock ≠ some V := fun e => by
    rcases hloc V e with h1 | h1
    · exact h.ds h1
    · have := (hlt V (.inl rfl)).2; omega
  refine ⟨⟨?_, ?_, ?_, ?_, h.bV, h.eo⟩, ?_⟩
  · have := setCell_heap w1 V 1 _ _ vS' hD1
    simpa using this
  · exact ownsRow_same h.own (fun i hi => hold i (.inr (.inl hi)) (fun e => h.de (by rw [← e]; exact hi)) (fun e => h.es i hi e))
  · exact ownsRow_same hown (fun i hi => Below.heap_setCell _ _ _ _ (fun e => hiD (by have e' : i = V := e; rw [← e']; exact hi)))
  · exact ownsRow_same h.opn (fun i hi => hold i (.inr (.inr (.inr hi))) (fun e => h.dO (by rw [← e]; exact hi)) (fun e => h.os i hi e))
  · exact (Only.of_grown hg (fun i hi => .inr (.inr (.inl hi)))).setCell _ _ (.inl rfl)
theorem Cnt.setN (h : Cnt base V E S n t op vE vS vO w) (n' : Nat) : Cnt base V E S n' t op vE vS vO (w.setCell ⟨V, 2, none⟩ (.int .i64 n')) ∧ Only (cS V vE vS vO) w (w.setCell ⟨V, 2, none⟩ (.int .i64 n')) := by
  have hold : ∀ i, i ≠ V → (w.setCell ⟨V, 2, none⟩ (.int .i64 n')).heap[i]? = w.heap[i]? := fun i h1 => Below.heap_setCell _ _ _ _ h1
  refine ⟨⟨?_, ?_, ?_, ?_, h.bV, h.eo⟩, ?_⟩
  · have := setCell_heap w V 2 _ _ (.int .i64 n') h.var
    simpa using this
  · exact ownsRow_same h.own (fun i hi => hold i (fun e => h.de (by rw [← e]; exact hi)))
  · exact ownsRow_same h.cut (fun i hi => hold i (fun e => h.ds (by rw [← e]; exact hi)))
  · exact ownsRow_same h.opn (fun i hi => hold i (fun e => h.dO (by rw [← e]; exact hi)))
  · exact (Only.refl _ _).setCell _ _ (.inl rfl)
theorem Cnt.setT (h : Cnt base V E S n t op vE vS vO w) (t' : Nat) : Cnt base V E S n t' op vE vS vO (w.setCell ⟨V, 3, none⟩ (.int .i64 t')) ∧ Only (cS V vE vS vO) w (w.setCell ⟨V, 3, none⟩ (.int .i64 t')) := by
  have hold : ∀ i, i ≠ V → (w.setCell ⟨V, 3, none⟩ (.int .i64 t')).heap[i]? = w.heap[i]? := fun i h1 => Below.heap_setCell _ _ _ _ h1
  refine ⟨⟨?_, ?_, ?_, ?_, h.bV, h.eo⟩, ?_⟩
  · have := setCell_heap w V 3 _ _ (.int .i64 t') h.var
    simpa using this
  · exact ownsRow_same h.own (fun i hi => hold i (fun e => h.de (by rw [← e]; exact hi)))
  · exact ownsRow_same h.cut (fun i hi => hold i (fun e => h.ds (by rw [← e]; exact hi)))
  · exact ownsRow_same h.opn (fun i hi => hold i (fun e => h.dO (by rw [← e]; exact hi)))
  · exact (Only.refl _ _).setCell _ _ (.inl rfl)
theorem Cnt.pop {op0 : List It} {z : It} {g m c : Nat} (h : Cnt base V E S n t (op0 ++ [z]) vE vS (.slice (some ⟨g, 0, none⟩) m c) w) :
    Cnt base V E S n t op0 vE vS (.slice (some ⟨g, 0, none⟩) op0.length c) (w.setCell ⟨V, 4, none⟩ (.slice (some ⟨g, 0, none⟩) op0.length c)) ∧ Only (cS V vE vS (.slice (some ⟨g, 0, none⟩) m c)) w (w.setCell ⟨V, 4, none⟩ (.slice (some ⟨g, 0, none⟩) op0.length c)) := by
  have hold : ∀ i, i ≠ V → (w.setCell ⟨V, 4, none⟩ (.slice (some ⟨g, 0, none⟩) op0.length c)).heap[i]? = w.heap[i]? := fun i h1 => Below.heap_setCell _ _ _ _ h1
  refine ⟨⟨?_, ?_, ?_, ?_, h.bV, h.eo⟩, ?_⟩
  · have := setCell_heap w V 4 _ _ (.slice (some ⟨g, 0, none⟩) op0.length c) h.var
    simpa using this
  · exact ownsRow_same h.own (fun i hi => hold i (fun e => h.de (by rw [← e]; exact hi)))
  · exact ownsRow_same h.cut (fun i hi => hold i (fun e => h.ds (by rw [← e]; exact hi)))
  · exact ownsRow_same h.opn.popI (fun i hi => hold i (fun e => h.dO (by rw [← e]; exact hi)))
  · exact (Only.refl _ _).setCell _ _ (.inl rfl)
end
set_option maxHeartbeats 800000 in
theorem ends_any (base V n t : Nat) (E : List It) (S : List Nat) (op : List It) (vE vS vO : Value) (w : World) (h : Cnt base V E S n t op vE vS vO w) (hl : E.length ≤ 1000000) :
    Calls Tryz.prog 98 #[.pointer (some ⟨V, 0, none⟩)] w fun e w' => e = .returned (.bool (lastText E)) ∧ w = w' := by
  obtain ⟨p, c, rfl, h1, h2, hI⟩ := h.own.its
  have x0 := h.cells.c0
  rcases Nat.lt_or_ge 0 E.length with hlo | hlo
  · obtain ⟨L, z, ho, hz⟩ := out_last E hlo
    have hm : E.length = L.length + 1 := by rw [ho]; simp
    have hg : E[L.length]'(by omega) = z := by simp only [ho]; simp
    obtain ⟨a, rfl, hlt, hk, hk1, hk2⟩ := hI.row L.length (by omega)
    rw [hg] at hk
    clear hk1 hk2
    rw [hz]
    have hl2 : (L.length : Int) ≤ 1000000 := by omega
    have hc2 : (L.length : Int) < (E.length : Int) := by omega
    rw [hm] at x0 hl h1
    clear hm ho hz hg hI h hlo
    obtain ⟨m, rfl⟩ : ∃ m, m = L.length := ⟨_, rfl⟩
    go_enter Tryz.func98, Tryz.ntmps98
    go_wp2
    all_goals go_ret
    all_goals exact ⟨ret_bool (by rw [Bool.eq_iff_iff]; simp), rfl⟩
  · have ho : E = [] := List.length_eq_zero_iff.1 (by omega)
    subst ho
    go_enter Tryz.func98, Tryz.ntmps98
    go_wp2
    all_goals go_ret
    all_goals exact ⟨rfl, rfl⟩
set_option maxHeartbeats 800000 in
theorem nextnum_any (base V n t : Nat) (E : List It) (S : List Nat) (op : List It) (vE vS vO : Value) (w : World) (h : Cnt base V E S n t op vE vS vO w) (hl : t ≤ 1000000) :
    Calls Tryz.prog 96 #[.pointer (some ⟨V, 0, none⟩)] w fun e w' => e = .returned (.int .i64 ((t + 1 : Nat) : Int)) ∧ w.setCell ⟨V, 3, none⟩ (.int .i64 ((t + 1 : Nat) : Int)) = w' := by
  obtain ⟨c0, c1, c2, c3, c4, f0, f1, f2, f3, f4⟩ := h.cells
  obtain ⟨d0, d1, d2, d3, d4, g0, g1, g2, g3, g4⟩ := (h.setT (t + 1)).1.cells
  have hl2 : (t : Int) ≤ 1000000 := by omega
  have e1 : ((t + 1 : Nat) : Int) = (t : Int) + 1 := by omega
  rw [e1] at d3 ⊢
  rw [e1] at d0 d1 d2 d4 g0 g1 g2 g3 g4
  clear h
  go_enter Tryz.func96, Tryz.ntmps96
  go_wp2
  all_goals go_ret
  all_goals exact ⟨rfl, rfl⟩
end Go.Proofs.YtphkpokoeaagfaaGreatDoor
namespace Go.Proofs.YtphkpokoeaagfaaGreatDoor
open Go.ChangeShapes Go.WideShapes Go.ChangeAt Go.RowKit
set_option linter.unusedVariables false
set_option linter.unusedSimpArgs false
set_option maxRecDepth 100000

/-- An element with or without its number. -/
def SmE (x : It) : Prop := (x.k = 1 ∧ x.t.size = 1) ∨ (x.k ≠ 1 ∧ x.t.size ≤ 1024)
theorem SmE.small {x : It} (h : SmE x) : x.t.size ≤ 1024 := by rcases h with ⟨_, h⟩ | ⟨_, h⟩ <;> omega
theorem SmE.text {x : It} (h : SmE x) (hk : x.k = 1) : x.t.size ≠ 0 := by
  rcases h with ⟨_, h⟩ | ⟨h, _⟩
  · omega
  · exact absurd hk h
theorem okM_small {x : It} (h : okM x = true) : x.t.size ≤ 1024 := by
  unfold okM at h
  split at h
  · have := (isNm_bytes _ h).2.1; omega
  · have := ((isCon_iff _).1 h).size; omega
theorem One0.sm {x : It} (h : One0 x) : SmE x := by
  rcases h with ⟨_, ⟨h1, h2⟩ | ⟨h1, h2⟩ | ⟨h1, h2, _⟩⟩
  · exact .inl ⟨h1, h2⟩
  · refine .inr ⟨by omega, ?_⟩
    have := (isNm_bytes _ h2).2.1; omega
  · refine .inr ⟨fun e => ?_, okM_small h2⟩
    rw [e] at h1; cases h1
theorem numM_sm {op : List It} {n : Nat} {x y : It} {op' : List It} {n' : Nat} (h : numM op n x = some (y, op', n')) (hx : SmE x) : SmE y := by
  obtain ⟨h1, h2, _⟩ := numM_kt h
  unfold SmE; rw [h1, h2]; exact hx
theorem last_normS (f : List It) (x : It) (h : SmE x) : lastText (normS f x) = decide (x.k = 1) := by
  by_cases hk : x.k = 1
  · have h1 : x.t.size ≠ 0 := h.text hk
    rw [decide_eq_true hk]
    rcases Nat.lt_or_ge 0 f.length with hlo | hlo
    · obtain ⟨L, z, ho, hl⟩ := out_last f hlo
      by_cases hz : z.k = 1
      · rw [norm_last f x hk h1 L z ho hz]; unfold lastText; simp
      · rw [norm_fresh f x hk h1 (by rw [hl]; simpa using hz)]; unfold lastText; simp
    · have ho : f = [] := List.length_eq_zero_iff.1 (by omega)
      subst ho
      rw [norm_fresh [] x hk h1 rfl]; unfold lastText; simp
  · rw [norm_other f x hk, lastText_one f x hk, decide_eq_false hk]
theorem last_norm (xs : List It) (h : ∀ x ∈ xs, SmE x) : lastText (norm xs) = lastText xs := by
  refine list_rev (P := fun xs => (∀ x ∈ xs, SmE x) → lastText (norm xs) = lastText xs) (fun _ => rfl) ?_ xs h
  intro l x _ hx
  rw [norm_snoc, last_normS _ _ (hx x (by simp))]
  unfold lastText; simp
/-- How many items there are with one position more. -/
theorem len_more (xs : List It) (x : It) (h : ∀ y ∈ xs, SmE y) (hx : SmE x) : (norm (xs ++ [x])).length = if x.k = 1 ∧ lastText xs = true then (norm xs).length else (norm xs).length + 1 := by
  rw [norm_snoc]
  by_cases hk : x.k = 1
  · have h1 : x.t.size ≠ 0 := hx.text hk
    cases hl : lastText xs
    · rw [if_neg (by simp), norm_fresh _ x hk h1 (by rw [last_norm xs h, hl])]; simp
    · rw [if_pos ⟨hk, rfl⟩]
      rw [← last_norm xs h] at hl
      have hlo : 0 < (norm xs).length := by
        rcases Nat.lt_or_ge 0 (norm xs).length with h | h
        · exact h
        · rw [List.length_eq_zero_iff.1 (Nat.le_zero.1 h)] at hl; cases hl
      obtain ⟨L, z, ho, hz⟩ := out_last _ hlo
      rw [hl] at hz
      rw [norm_last _ x hk h1 L z ho (by simpa using hz.symm), ho]; simp
  · rw [if_neg (fun h => hk h.1), norm_other _ x hk]; simp
theorem sm_txt (xs : List It) (h : ∀ x ∈ xs, SmE x) : txtI xs ≤ 1024 * xs.length := by
  induction xs with
  | nil => exact Nat.le_refl _
  | cons x t ih =>
    have h1 := (h x (by simp)).small
    have h2 := ih (fun y hy => h y (by simp [hy]))
    have h3 : txtI (x :: t) = x.t.size + txtI t := by unfold txtI; simp
    rw [h3]; simp; omega
set_option maxHeartbeats 1600000 in
theorem close_nil (base V n t : Nat) (E : List It) (S : List Nat) (vE vS vO : Value) (nm : ByteArray) (w : World) (h : Cnt base V E S n t [] vE vS vO w) :
    Calls Tryz.prog 97 #[.pointer (some ⟨V, 0, none⟩), .string nm] w fun e w' => e = .returned (.tuple #[.agg #[.int .i64 0, .string ⟨#[]⟩, .int .i64 0], .bool false]) ∧ Below w.heap.size w w' := by
  obtain ⟨po, co, rfl, ho1, ho2, _⟩ := h.opn.its
  have hZ := heap_alloc_new w (.cells #[.int .i64 0, .string ByteArray.empty, .int .i64 0] 62)
  have hB := blw (Below.refl w.heap.size w) (.cells #[.int .i64 0, .string ByteArray.empty, .int .i64 0] 62)
  have d4 := h.cells.c4
  have hV := (h.lt V (.inl rfl)).2
  clear h
  go_enter Tryz.func97, Tryz.ntmps97
  go_wp2_with fail
  have hZ : (w.alloc (.cells #[.int .i64 0, .string ⟨#[]⟩, .int .i64 0] 62)).heap[w.heap.size]? = _ := hZ
  obtain ⟨z0, z1, z2, _⟩ := cells_item hZ
  (try simp only [Exit.inBlock, Exit.then])
  refine bodyPost_ret (v := .tuple #[.agg #[.int .i64 0, .string ⟨#[]⟩, .int .i64 0], .bool false]) (by simp [results, Tryz.results97, go_sem, z0, z1, z2]; try rfl) rfl ⟨rfl, hB⟩
set_option maxHeartbeats 1600000 in
theorem close_bad (base V n t : Nat) (E : List It) (S : List Nat) (op : List It) (z : It) (vE vS vO : Value) (nm : ByteArray) (w : World) (h : Cnt base V E S n t (op ++ [z]) vE vS vO w) (hz : z.t.size ≤ maxLen) (hn : nameB z.t ≠ nm) (hl : op.length ≤ 1000000) :
    Calls Tryz.prog 97 #[.pointer (some ⟨V, 0, none⟩), .string nm] w fun e w' => e = .returned (.tuple #[.agg #[.int .i64 0, .string ⟨#[]⟩, .int .i64 0], .bool false]) ∧ Below w.heap.size w w' := by
  obtain ⟨po, co, rfl, ho1, ho2, hI⟩ := h.opn.its
  have hm : (op ++ [z]).length = op.length + 1 := by simp
  have hg : (op ++ [z])[op.length]'(by simp) = z := by simp
  have hZ := heap_alloc_new w (.cells #[.int .i64 0, .string ⟨#[]⟩, .int .i64 0] 62)
  have hB := blw (Below.refl w.heap.size w) (.cells #[.int .i64 0, .string ⟨#[]⟩, .int .i64 0] 62)
  obtain ⟨a, rfl, hlt, hk, hk1, hk2⟩ := (hI.call hB).row op.length (by simp)
  rw [hg] at hk hk1 hk2
  have d4 := h.cells.c4
  have hV := (h.lt V (.inl rfl)).2
  have hc := fun W => tagname_any z.k z.t z.id W hz
  have hnm : ((nameB z.t).toList == nm.toList) = false := lst_ne nm.toList (by rw [Go.ByteArray.toList_eq nm, bsL_of]; exact hn)
  have HC := Lib.hid hc
  rw [hm] at d4 ho1
  have hl2 : (op.length : Int) ≤ 1000000 := by omega
  clear h hI hm hg hc
  go_enter Tryz.func97, Tryz.ntmps97
  go_wp2_with fail
  refine (HC.out _).mono ?_; rintro e w1 ⟨rfl, hb1⟩
  have hZ1 := (hb1.block _ (Array.getElem?_eq_some_iff.1 hZ).1).trans hZ
  have hB1 := BelowOn hB hb1
  obtain ⟨v0, v1, v2, v3, v4, v5⟩ := cells_item hZ1
  go_wp2_with fail
  have hWz := heap_set3 (a' := .int .i64 0) (b' := .string ⟨#[]⟩) (c' := .int .i64 0) hZ1
  have hBz := (((Only.of_below (S := fun i => False) hB1).setNew (p := ⟨w.heap.size, 0, none⟩) (Nat.le_refl _) (.int .i64 0)).setNew (p := ⟨w.heap.size, 1, none⟩) (Nat.le_refl _) (.string ⟨#[]⟩)).setNew (p := ⟨w.heap.size, 2, none⟩) (Nat.le_refl _) (.int .i64 0)
  generalize (((w1.setCell ⟨w.heap.size, 0, none⟩ (.int .i64 0)).setCell ⟨w.heap.size, 1, none⟩ (.string ⟨#[]⟩)).setCell ⟨w.heap.size, 2, none⟩ (.int .i64 0)) = wz at *
  obtain ⟨z0, z1, z2, _⟩ := cells_item hWz
  (try simp only [Exit.inBlock, Exit.then])
  refine bodyPost_ret (v := .tuple #[.agg #[.int .i64 0, .string ⟨#[]⟩, .int .i64 0], .bool false]) (by simp [results, Tryz.results97, go_sem, z0, z1, z2]; try rfl) rfl ⟨rfl, hBz.below w.heap.size (Nat.le_refl _) (fun i hi => hi.elim)⟩
set_option maxHeartbeats 1600000 in
theorem close_ok (base V n t : Nat) (E : List It) (S : List Nat) (op : List It) (z : It) (vE vS : Value) (g ml c : Nat) (w : World) (h : Cnt base V E S n t (op ++ [z]) vE vS (.slice (some ⟨g, 0, none⟩) ml c) w) (hbw : base ≤ w.heap.size) (hz : z.t.size ≤ maxLen) (hl : op.length ≤ 1000000) :
    Calls Tryz.prog 97 #[.pointer (some ⟨V, 0, none⟩), .string (nameB z.t)] w fun e w' => e = .returned (.tuple #[.agg #[.int .i64 z.k, .string z.t, .int .i64 z.id], .bool true]) ∧ Cnt base V E S n t op vE vS (.slice (some ⟨g, 0, none⟩) op.length c) w' ∧ Only (cS V vE vS (.slice (some ⟨g, 0, none⟩) ml c)) w w' := by
  obtain ⟨a, ha⟩ : ∃ a : Addr, a = ⟨g, 0, none⟩ := ⟨_, rfl⟩
  have hV := (h.lt V (.inl rfl)).2
  have hZ := heap_alloc_new w (.cells #[.int .i64 0, .string ⟨#[]⟩, .int .i64 0] 62)
  have hB := blw (Below.refl w.heap.size w) (.cells #[.int .i64 0, .string ⟨#[]⟩, .int .i64 0] 62)
  have hCa := h.alloc (.cells #[.int .i64 0, .string ⟨#[]⟩, .int .i64 0] 62)
  obtain ⟨po, co, e0, ho1, ho2, hI⟩ := hCa.opn.its
  injection e0 with e1 e2 e3
  subst e1; subst e3
  have hm : (op ++ [z]).length = op.length + 1 := by simp
  have hg : (op ++ [z])[op.length]'(by simp) = z := by simp
  obtain ⟨a', ha', hlt, hk, hk1, hk2⟩ := hI.row op.length (by simp)
  injection ha' with ha'
  have ha' := ha'.symm
  subst ha'
  rw [hg] at hk hk1 hk2
  have d4 := h.cells.c4
  have hc := fun W => tagname_any z.k z.t z.id W hz
  have hnm : ((nameB z.t).toList == (nameB z.t).toList) = true := by simp
  rw [← ha] at hk hk1 hk2 d4
  have HA := Lib.hid ha
  rw [e2, hm] at d4
  rw [hm] at ho1
  have hl2 : (op.length : Int) ≤ 1000000 := by omega
  have HC := Lib.hid hc
  have HCA := Lib.hid hCa
  have hVn : V ≠ w.heap.size := by omega
  have HN := Lib.hid (fun i (hi : cS V vE vS (.slice (some ⟨g, 0, none⟩) ml c) i) => (h.lt i hi).2)
  clear h hI hm hg hc e2 ha hCa hlt
  go_enter Tryz.func97, Tryz.ntmps97
  go_wp2_with fail
  refine (HC.out _).mono ?_; rintro e w1 ⟨rfl, hb1⟩
  have hZ1 := (hb1.block _ (Array.getElem?_eq_some_iff.1 hZ).1).trans hZ
  have hB1 := BelowOn hB hb1
  have hC1 := HCA.out.call hb1
  obtain ⟨k0, k1, k2, k3, k4, _, _, _, _, f4⟩ := hC1.cells
  obtain ⟨po, co, e0, _, _, hI1⟩ := hC1.opn.its
  injection e0 with e1 e2 e3
  subst e1
  obtain ⟨a', ha', hlt1, hj, hj1, hj2⟩ := hI1.row op.length (by simp)
  injection ha' with ha'
  subst ha'
  rw [show (op ++ [z])[op.length]'(by simp) = z from by simp] at hj hj1 hj2
  rw [← HA.out] at hj hj1 hj2 k4
  rw [e2, show (op ++ [z]).length = op.length + 1 from by simp] at k4
  obtain ⟨v0, v1, v2, v3, v4, v5⟩ := cells_item hZ1
  have HC1 := Lib.hid hC1
  have E2 := Lib.hid e2
  clear hC1 e2 e3 hI1 hk hk1 hk2 hlt1 hb1
  go_upto_region 5 with fail
  have hns : ¬ cS V vE vS (.slice (some ⟨g, 0, none⟩) ml c) w.heap.size := fun hv => by
    have := HN.out _ hv; omega
  have hC2 := ((HC1.out.setOther (a := ⟨w.heap.size, 0, none⟩) hns (.int .i64 z.k)).setOther (a := ⟨w.heap.size, 1, none⟩) hns (.string z.t)).setOther (a := ⟨w.heap.size, 2, none⟩) hns (.int .i64 z.id)
  have hZ2 := heap_set3 (a' := .int .i64 z.k) (b' := .string z.t) (c' := .int .i64 z.id) hZ1
  have hO2 := (((Only.of_below (S := cS V vE vS (.slice (some ⟨g, 0, none⟩) ml c)) hB1).setNew (p := ⟨w.heap.size, 0, none⟩) (Nat.le_refl _) (.int .i64 z.k)).setNew (p := ⟨w.heap.size, 1, none⟩) (Nat.le_refl _) (.string z.t)).setNew (p := ⟨w.heap.size, 2, none⟩) (Nat.le_refl _) (.int .i64 z.id)
  clear k0 k1 k2 k3 k4 f4 v0 v1 v2 v3 v4 v5 hj hj1 hj2
  generalize (((w1.setCell ⟨w.heap.size, 0, none⟩ (.int .i64 z.k)).setCell ⟨w.heap.size, 1, none⟩ (.string z.t)).setCell ⟨w.heap.size, 2, none⟩ (.int .i64 z.id)) = w2 at *
  obtain ⟨k0, k1, k2, k3, k4, _, _, _, _, f4⟩ := hC2.cells
  rw [← HA.out, E2.out, show (op ++ [z]).length = op.length + 1 from by simp] at k4
  have HC2 := Lib.hid hC2
  clear hC2
  go_upto_region 6 with fail
  have hC3 := HC2.out.pop.1
  have hZ3 := (Below.heap_setCell w2 ⟨V, 4, none⟩ (.slice (some ⟨g, 0, none⟩) op.length c) w.heap.size (fun e => hVn e.symm)).trans hZ2
  have hO3 := hO2.next HC2.out.pop.2 (fun i _ h => h)
  rw [HA.out]
  clear k0 k1 k2 k3 k4 f4
  generalize (w2.setCell ⟨V, 4, none⟩ (.slice (some ⟨g, 0, none⟩) op.length c)) = w3 at *
  obtain ⟨v0, v1, v2, v3, v4, v5⟩ := cells_item hZ3
  go_wp2_with fail
  have hWz := heap_set3 (a' := .int .i64 z.k) (b' := .string z.t) (c' := .int .i64 z.id) hZ3
  have hns3 : ¬ cS V vE vS (.slice (some ⟨g, 0, none⟩) op.length c) w.heap.size := hns
  have hCz := ((hC3.setOther (a := ⟨w.heap.size, 0, none⟩) hns3 (.int .i64 z.k)).setOther (a := ⟨w.heap.size, 1, none⟩) hns3 (.string z.t)).setOther (a := ⟨w.heap.size, 2, none⟩) hns3 (.int .i64 z.id)
  have hOz := ((hO3.setNew (p := ⟨w.heap.size, 0, none⟩) (Nat.le_refl _) (.int .i64 z.k)).setNew (p := ⟨w.heap.size, 1, none⟩) (Nat.le_refl _) (.string z.t)).setNew (p := ⟨w.heap.size, 2, none⟩) (Nat.le_refl _) (.int .i64 z.id)
  generalize (((w3.setCell ⟨w.heap.size, 0, none⟩ (.int .i64 z.k)).setCell ⟨w.heap.size, 1, none⟩ (.string z.t)).setCell ⟨w.heap.size, 2, none⟩ (.int .i64 z.id)) = wz at *
  obtain ⟨z0, z1, z2, _⟩ := cells_item hWz
  (try simp only [Exit.inBlock, Exit.then])
  refine bodyPost_ret (v := .tuple #[.agg #[.int .i64 z.k, .string z.t, .int .i64 z.id], .bool true]) (by simp [results, Tryz.results97, go_sem, z0, z1, z2]; try rfl) rfl ⟨rfl, hCz, hOz⟩
end Go.Proofs.YtphkpokoeaagfaaGreatDoor
namespace Go.Proofs.YtphkpokoeaagfaaGreatDoor
open Go.ChangeShapes Go.WideShapes Go.ChangeAt Go.RowKit
set_option linter.unusedVariables false
set_option linter.unusedSimpArgs false
set_option maxRecDepth 100000

/-- What add leaves where the element fits. -/
def EndA1 (base V : Nat) (E : List It) (S : List Nat) (vE vS vO : Value) (q : Nat) (y : It) (op' : List It) (t' : Nat) (w : World) (e : Ending) (w' : World) : Prop :=
  e = .returned (.int .i64 (if 512 < (norm (E ++ [y])).length ∨ 1024 ≤ E.length then 3 else 0)) ∧ ∃ vE' vS' vO', Cnt base V (E ++ [y]) (S ++ [q]) (norm (E ++ [y])).length t' op' vE' vS' vO' w' ∧ Only (cS V vE vS vO) w w' ∧ ∀ i, cS V vE' vS' vO' i → cS V vE vS vO i ∨ w.heap.size ≤ i
/-- What add leaves where no open tag fits. -/
def EndA0 (base V : Nat) (E : List It) (S : List Nat) (n t : Nat) (op : List It) (vE vS vO : Value) (w : World) (e : Ending) (w' : World) : Prop :=
  e = .returned (.int .i64 7) ∧ Cnt base V E S n t op vE vS vO w' ∧ Below w.heap.size w w'
set_option maxHeartbeats 3200000 in
theorem add_slot (base V n t : Nat) (E : List It) (S : List Nat) (op : List It) (vE vS vO : Value) (tx : ByteArray) (q : Nat) (w : World) (h : Cnt base V E S n t op vE vS vO w) (hbw : base ≤ w.heap.size) (hxs : ∀ y ∈ E, SmE y) (htx : tx.size ≤ 1024) (hn : n = (norm E).length) (hl : E.length ≤ 1024) (hc : S.length ≤ 1024) (hn5 : n ≤ 512) (ht : t ≤ 1000000) (hop : op.length ≤ 1000000) :
    Calls Tryz.prog 56 #[.pointer (some ⟨V, 0, none⟩), .agg #[.int .i64 5, .string tx, .int .i64 0], .int .i64 (q : Int)] w (EndA1 base V E S vE vS vO q (⟨5, tx, 0⟩ : It) op t w) := by
  have hlm := len_more E (⟨5, tx, 0⟩ : It) hxs (.inr ⟨(by decide : (5 : Int) ≠ 1), htx⟩)
  rw [if_neg (fun h => absurd h.1 (by decide : (5 : Int) ≠ 1)), ← hn] at hlm
  clear hn hxs
  unfold EndA1
  generalize (norm (E ++ [(⟨5, tx, 0⟩ : It)])).length = n1 at *
  generalize hr : (if 512 < n1 ∨ 1024 ≤ E.length then (3 : Int) else 0) = r
  have HRR := Lib.hid hr
  clear hr
  obtain ⟨pi, ci, rfl, hi1, hi2, _⟩ := h.own.its
  obtain ⟨pc, cc, rfl, hc1, hc2, _⟩ := h.cut.ints
  obtain ⟨po, co, rfl, ho1, ho2, _⟩ := h.opn.its
  have hml := nI_len S
  have hbV := (h.lt V (.inl rfl)).2
  have hBn : V ≠ w.heap.size := by omega
  have hV0 := h.alloc (.cells #[.int .i64 5, .string tx, .int .i64 0] 62)
  have hO0 : Only (cS V (.slice pi E.length ci) (.slice pc (nI S).length cc) (.slice po op.length co)) w (w.alloc (.cells #[.int .i64 5, .string tx, .int .i64 0] 62)) := Only.of_below (blw (Below.refl _ _) _)
  have hX0 := heap_alloc_new w (.cells #[.int .i64 5, .string tx, .int .i64 0] 62)
  have hms : nI (S ++ [q]) = nI S ++ [(q : Int)] := nI_snoc S q
  have HLT := Lib.hid h.lt
  have HLM := Lib.hid hlm
  generalize hmm : nI S = ms at *
  have HMS := Lib.hid hms
  have HMM := Lib.hid hmm
  have hm5 : ms.length ≤ 1024 := by omega
  have hn9 : (n : Int) ≤ 512 := by omega
  clear hms hml hmm hlm
  obtain ⟨a0, a1, a2, a3, a4, af0, af1, af2, af3, af4⟩ := h.cells
  obtain ⟨b0, b1, b2, b3, b4, bf0, bf1, bf2, bf3, bf4⟩ := hV0.cells
  go_enter Tryz.func56, Tryz.ntmps56
  go_upto_region 14 with fail
  clear a0 a1 a2 a3 a4 af0 af1 af2 af3 af4 b0 b1 b2 b3 b4 bf0 bf1 bf2 bf3 bf4
  have hz2 : (w.setCell ⟨V, 2, none⟩ (.int .i64 ((n + 1 : Nat) : Int))).heap.size = w.heap.size := by simp [World.setCell]
  have hC2 := (h.setN (n + 1)).1.alloc (.cells #[.int .i64 5, .string tx, .int .i64 0] 62)
  have hO2 := (h.setN (n + 1)).2.alloc (.cells #[.int .i64 5, .string tx, .int .i64 0] 62)
  have hX13 := heap_alloc_new (w.setCell ⟨V, 2, none⟩ (.int .i64 ((n + 1 : Nat) : Int))) (.cells #[.int .i64 5, .string tx, .int .i64 0] 62)
  rw [hz2] at hX13
  have hX := hX13
  have HO13 := Lib.hid hO2
  have HC13 := Lib.hid hC2
  have HL : Hid (∀ i, cS V (.slice pi E.length ci) (.slice pc ms.length cc) (.slice po op.length co) i → cS V (.slice pi E.length ci) (.slice pc ms.length cc) (.slice po op.length co) i ∨ w.heap.size + 1 ≤ i) := Lib.hid (fun i hi => .inl hi)
  change Code.wp _ _ _ _ ((w.setCell ⟨V, 2, none⟩ (.int .i64 ((n + 1 : Nat) : Int))).alloc (.cells #[.int .i64 5, .string tx, .int .i64 0] 62))
  clear hC2 hO2 hz2
  generalize (w.setCell ⟨V, 2, none⟩ (.int .i64 ((n + 1 : Nat) : Int))).alloc (.cells #[.int .i64 5, .string tx, .int .i64 0] 62) = W3 at *
  rw [← HLM.out] at HC13
  clear hV0 hX0 hO0
  have hVA := (HC13.out.alloc (.cells #[.int .i64 5, .string tx, .int .i64 0] 62)).drew
  have HV := Lib.hid hVA
  have hsz6 : base ≤ ((W3.alloc (.cells #[.int .i64 5, .string tx, .int .i64 0] 62)).drew).heap.size := by have := HO13.out.size; simp [World.drew]; omega
  have hXlt := (Array.getElem?_eq_some_iff.1 hX13).1
  obtain ⟨y0, y1, y2, y3, y4, yf0, yf1, yf2, yf3, yf4⟩ := hVA.cells
  obtain ⟨z0, z1, z2, z3, z4, zf0, zf1, zf2, zf3, zf4⟩ := HC13.out.cells
  obtain ⟨t0, t1, t2, _, _, _⟩ := cells_item hX13
  have hXA : (W3.alloc (.cells #[.int .i64 5, .string tx, .int .i64 0] 62)).heap[w.heap.size]? = some (.cells #[.int .i64 5, .string tx, .int .i64 0] 62 (0, 0)) := (Lib.alloc_old W3 _ _ hXlt).trans hX13
  obtain ⟨s0, s1, s2, _, _, _⟩ := cells_item hXA
  have HO6 := Lib.hid hVA.own
  clear hVA hXA
  go_region_law (refine step_app eI _ (by rfl) _ _ (by rfl) base E _ (by rfl) HO6.out hsz6 (⟨5, tx, 0⟩ : It) _ _ (by rfl) (heap_alloc_new W3 (.cells #[.int .i64 5, .string tx, .int .i64 0] 62)) (by rfl) (by omega) (by unfold maxLen; omega) ?_; intro g cap w5 hO5 hg5 hl5; obtain ⟨d0, d1, d2, d3, d4, k0, k1, k2, k3, k4⟩ := HV.out.past hg5 HV.out.de)
  all_goals
    (have hs5 := HV.out.setE (E' := E ++ [(⟨5, tx, 0⟩ : It)]) hg5 hO5 (fun i hi => by injection hi with hi; subst hi; rcases hl5 with e | e; exact .inl e; exact .inr (Nat.le_of_eq e.symm))
     have HS := Lib.hid hs5.1
     have HB := Lib.hid ((HO13.out.trans (Only.of_below ((blw (Below.refl _ W3) (.cells #[.int .i64 5, .string tx, .int .i64 0] 62)).drew))).next hs5.2 (fun i hi hS => by
       rcases HL.out i hS with h | h
       · exact h
       · omega))
     have HL5 : Hid (∀ i, cS V (.slice (some ⟨g, 0, none⟩) (E.length + 1) cap) (.slice pc ms.length cc) (.slice po op.length co) i → cS V (.slice pi E.length ci) (.slice pc ms.length cc) (.slice po op.length co) i ∨ w.heap.size ≤ i) := Lib.hid (fun i hi => by
       rcases hi with rfl | hi | hi
       · exact .inl (.inl rfl)
       · injection hi with hi; subst hi
         rcases hl5 with e | e
         · exact .inl (.inr (.inl e))
         · exact .inr (by rw [e]; have := HO13.out.size; simp [World.drew]; omega)
       · rcases HL.out i (.inr (.inr hi)) with h | h
         · exact .inl h
         · exact .inr (by omega))
     clear hs5 hO5 hg5 hl5 d0 d1 d2 d3 d4 k0 k1 k2 k3 k4 y0 y1 y2 y3 y4 yf0 yf1 yf2 yf3 yf4 z0 z1 z2 z3 z4 zf0 zf1 zf2 zf3 zf4 t0 t1 t2 s0 s1 s2 hXlt hX13 hX
     generalize hw6 : World.setCell _ ⟨V, 0, none⟩ _ = w6 at *
     clear hw6
     obtain ⟨c0, c1, c2, c3, c4, cf0, cf1, cf2, cf3, cf4⟩ := HS.out.cells
     have hV7 := HS.out.alloc (.cells #[.int .i64 (q : Int)] 3)
     obtain ⟨e0, e1, e2, e3, e4, ef0, ef1, ef2, ef3, ef4⟩ := hV7.cells
     have HV7 := Lib.hid hV7
     have hsz7 : base ≤ (w6.alloc (.cells #[.int .i64 (q : Int)] 3)).heap.size := by have := HB.out.size; simp; omega
     have hcut7 := hV7.cut
     rw [HMM.out] at hcut7
     have HC7 := Lib.hid hcut7
     clear hV7 hcut7
     go_upto_region 15 with fail
     go_upto_region 16 with (at_builtin; refine wpl_app eN _ rfl _ _ rfl base ms _ rfl HC7.out hsz7 (q : Int) w6.heap.size _ rfl (heap_alloc_new w6 _) rfl (by omega) (by unfold maxLen; omega) ?_; intro g2 CP w8 hown8 hgr8 hloc8; obtain ⟨d0, d1, d2, d3, d4, k0, k1, k2, k3, k4⟩ := HV7.out.past hgr8 HV7.out.ds)
     have hs8 := HV7.out.setS (S' := S ++ [q]) hgr8 (by rw [HMS.out]; exact hown8) (fun i hi => by injection hi with hi; subst hi; rcases hloc8 with e | e; exact .inl e; exact .inr (Nat.le_of_eq e.symm))
     have HS8 := Lib.hid hs8.1
     have HB8 := Lib.hid ((HB.out.alloc (.cells #[.int .i64 (q : Int)] 3)).next hs8.2 (fun i hi hS => by
       rcases HL5.out i hS with h | h
       · exact h
       · omega))
     have HL8 : Hid (∀ i, cS V (.slice (some ⟨g, 0, none⟩) (E.length + 1) cap) (.slice (some ⟨g2, 0, none⟩) (ms.length + 1) CP) (.slice po op.length co) i → cS V (.slice pi E.length ci) (.slice pc ms.length cc) (.slice po op.length co) i ∨ w.heap.size ≤ i) := Lib.hid (fun i hi => by
       rcases hi with rfl | hi | hi | hi
       · exact .inl (.inl rfl)
       · exact HL5.out i (.inr (.inl hi))
       · injection hi with hi; subst hi
         rcases hloc8 with e | e
         · exact .inl (.inr (.inr (.inl e)))
         · exact .inr (by rw [e]; have := HB.out.size; simp; omega)
       · exact HL5.out i (.inr (.inr (.inr hi))))
     clear hs8 hown8 hgr8 hloc8 d0 d1 d2 d3 d4 k0 k1 k2 k3 k4 c0 c1 c2 c3 c4 cf0 cf1 cf2 cf3 cf4 e0 e1 e2 e3 e4 ef0 ef1 ef2 ef3 ef4 hsz7
     generalize hw9 : World.setCell _ ⟨V, 1, none⟩ _ = w9 at *
     clear hw9
     obtain ⟨c0, c1, c2, c3, c4, cf0, cf1, cf2, cf3, cf4⟩ := HS8.out.cells
     by_cases c5 : n1 ≤ 512
     · have q5 : (n1 : Int) ≤ 512 := by omega
       by_cases c6 : E.length ≤ 1023
       · have q6 : (E.length : Int) ≤ 1023 := by omega
         go_wp2_with fail
         go_ret
         exact ⟨by rw [← HRR.out, if_neg (by omega)]; rfl, _, _, _, HS8.out, HB8.out, HL8.out⟩
       · have q6 : ¬ (E.length : Int) ≤ 1023 := by omega
         go_wp2_with fail
         go_ret
         exact ⟨by rw [← HRR.out, if_pos (by omega)]; rfl, _, _, _, HS8.out, HB8.out, HL8.out⟩
     · have q5 : ¬ (n1 : Int) ≤ 512 := by omega
       go_wp2_with fail
       go_ret
       exact ⟨by rw [← HRR.out, if_pos (by omega)]; rfl, _, _, _, HS8.out, HB8.out, HL8.out⟩)
set_option maxHeartbeats 3200000 in
theorem add_text1 (base V n t : Nat) (E : List It) (S : List Nat) (op : List It) (vE vS vO : Value) (tx : ByteArray) (q : Nat) (w : World) (h : Cnt base V E S n t op vE vS vO w) (hbw : base ≤ w.heap.size) (hxs : ∀ y ∈ E, SmE y) (htx : tx.size ≤ 1024) (hn : n = (norm E).length) (hl : E.length ≤ 1024) (hc : S.length ≤ 1024) (hn5 : n ≤ 512) (ht : t ≤ 1000000) (hop : op.length ≤ 1000000) (hsz : tx.size = 1) (hlt : lastText E = true):
    Calls Tryz.prog 56 #[.pointer (some ⟨V, 0, none⟩), .agg #[.int .i64 1, .string tx, .int .i64 0], .int .i64 (q : Int)] w (EndA1 base V E S vE vS vO q (⟨1, tx, 0⟩ : It) op t w) := by
  have hlm := len_more E (⟨1, tx, 0⟩ : It) hxs (.inl ⟨rfl, hsz⟩)
  rw [if_pos ⟨rfl, hlt⟩, ← hn] at hlm
  clear hn hxs
  unfold EndA1
  generalize (norm (E ++ [(⟨1, tx, 0⟩ : It)])).length = n1 at *
  generalize hr : (if 512 < n1 ∨ 1024 ≤ E.length then (3 : Int) else 0) = r
  have HRR := Lib.hid hr
  clear hr
  obtain ⟨pi, ci, rfl, hi1, hi2, _⟩ := h.own.its
  obtain ⟨pc, cc, rfl, hc1, hc2, _⟩ := h.cut.ints
  obtain ⟨po, co, rfl, ho1, ho2, _⟩ := h.opn.its
  have hml := nI_len S
  have hbV := (h.lt V (.inl rfl)).2
  have hBn : V ≠ w.heap.size := by omega
  have hV0 := h.alloc (.cells #[.int .i64 1, .string tx, .int .i64 0] 62)
  have hO0 : Only (cS V (.slice pi E.length ci) (.slice pc (nI S).length cc) (.slice po op.length co)) w (w.alloc (.cells #[.int .i64 1, .string tx, .int .i64 0] 62)) := Only.of_below (blw (Below.refl _ _) _)
  have hX0 := heap_alloc_new w (.cells #[.int .i64 1, .string tx, .int .i64 0] 62)
  have hms : nI (S ++ [q]) = nI S ++ [(q : Int)] := nI_snoc S q
  have HLT := Lib.hid h.lt
  have HLM := Lib.hid hlm
  generalize hmm : nI S = ms at *
  have HMS := Lib.hid hms
  have HMM := Lib.hid hmm
  have hm5 : ms.length ≤ 1024 := by omega
  have hn9 : (n : Int) ≤ 512 := by omega
  clear hms hml hmm hlm
  obtain ⟨a0, a1, a2, a3, a4, af0, af1, af2, af3, af4⟩ := h.cells
  obtain ⟨b0, b1, b2, b3, b4, bf0, bf1, bf2, bf3, bf4⟩ := hV0.cells
  have hEn := fun W (hW : Cnt base V E S n t op (.slice pi E.length ci) (.slice pc ms.length cc) (.slice po op.length co) W) => ends_any base V n t E S op _ _ _ W hW (by omega)
  rw [hlt] at hEn
  have HE := Lib.hid hEn
  clear hEn hlt
  go_enter Tryz.func56, Tryz.ntmps56
  go_wp2_with fail
  refine (HE.out _ hV0).mono ?_; rintro e w1 ⟨rfl, rfl⟩
  go_upto_region 14 with fail
  clear a0 a1 a2 a3 a4 af0 af1 af2 af3 af4 b0 b1 b2 b3 b4 bf0 bf1 bf2 bf3 bf4
  have HC := Lib.hid hV0
  have hX := hX0
  have HO := Lib.hid hO0
  have HL : Hid (∀ i, cS V (.slice pi E.length ci) (.slice pc ms.length cc) (.slice po op.length co) i → cS V (.slice pi E.length ci) (.slice pc ms.length cc) (.slice po op.length co) i ∨ w.heap.size + 1 ≤ i) := Lib.hid (fun i hi => .inl hi)
  change Code.wp _ _ _ _ (w.alloc (.cells #[.int .i64 1, .string tx, .int .i64 0] 62))
  generalize w.alloc (.cells #[.int .i64 1, .string tx, .int .i64 0] 62) = W at *
  clear hV0 hX0 hO0
  have hX13 := hX
  have HO13 := HO
  have HC13 := HC
  obtain ⟨W3, hW3⟩ : ∃ W3, W3 = W := ⟨_, rfl⟩
  rw [← hW3] at hX13 HO13 HC13 ⊢
  rw [← HLM.out] at HC13
  clear hW3
  have hVA := (HC13.out.alloc (.cells #[.int .i64 1, .string tx, .int .i64 0] 62)).drew
  have HV := Lib.hid hVA
  have hsz6 : base ≤ ((W3.alloc (.cells #[.int .i64 1, .string tx, .int .i64 0] 62)).drew).heap.size := by have := HO13.out.size; simp [World.drew]; omega
  have hXlt := (Array.getElem?_eq_some_iff.1 hX13).1
  obtain ⟨y0, y1, y2, y3, y4, yf0, yf1, yf2, yf3, yf4⟩ := hVA.cells
  obtain ⟨z0, z1, z2, z3, z4, zf0, zf1, zf2, zf3, zf4⟩ := HC13.out.cells
  obtain ⟨t0, t1, t2, _, _, _⟩ := cells_item hX13
  have hXA : (W3.alloc (.cells #[.int .i64 1, .string tx, .int .i64 0] 62)).heap[w.heap.size]? = some (.cells #[.int .i64 1, .string tx, .int .i64 0] 62 (0, 0)) := (Lib.alloc_old W3 _ _ hXlt).trans hX13
  obtain ⟨s0, s1, s2, _, _, _⟩ := cells_item hXA
  have HO6 := Lib.hid hVA.own
  clear hVA hXA
  go_region_law (refine step_app eI _ (by rfl) _ _ (by rfl) base E _ (by rfl) HO6.out hsz6 (⟨1, tx, 0⟩ : It) _ _ (by rfl) (heap_alloc_new W3 (.cells #[.int .i64 1, .string tx, .int .i64 0] 62)) (by rfl) (by omega) (by unfold maxLen; omega) ?_; intro g cap w5 hO5 hg5 hl5; obtain ⟨d0, d1, d2, d3, d4, k0, k1, k2, k3, k4⟩ := HV.out.past hg5 HV.out.de)
  all_goals
    (have hs5 := HV.out.setE (E' := E ++ [(⟨1, tx, 0⟩ : It)]) hg5 hO5 (fun i hi => by injection hi with hi; subst hi; rcases hl5 with e | e; exact .inl e; exact .inr (Nat.le_of_eq e.symm))
     have HS := Lib.hid hs5.1
     have HB := Lib.hid ((HO13.out.trans (Only.of_below ((blw (Below.refl _ W3) (.cells #[.int .i64 1, .string tx, .int .i64 0] 62)).drew))).next hs5.2 (fun i hi hS => by
       rcases HL.out i hS with h | h
       · exact h
       · omega))
     have HL5 : Hid (∀ i, cS V (.slice (some ⟨g, 0, none⟩) (E.length + 1) cap) (.slice pc ms.length cc) (.slice po op.length co) i → cS V (.slice pi E.length ci) (.slice pc ms.length cc) (.slice po op.length co) i ∨ w.heap.size ≤ i) := Lib.hid (fun i hi => by
       rcases hi with rfl | hi | hi
       · exact .inl (.inl rfl)
       · injection hi with hi; subst hi
         rcases hl5 with e | e
         · exact .inl (.inr (.inl e))
         · exact .inr (by rw [e]; have := HO13.out.size; simp [World.drew]; omega)
       · rcases HL.out i (.inr (.inr hi)) with h | h
         · exact .inl h
         · exact .inr (by omega))
     clear hs5 hO5 hg5 hl5 d0 d1 d2 d3 d4 k0 k1 k2 k3 k4 y0 y1 y2 y3 y4 yf0 yf1 yf2 yf3 yf4 z0 z1 z2 z3 z4 zf0 zf1 zf2 zf3 zf4 t0 t1 t2 s0 s1 s2 hXlt hX13 hX
     generalize hw6 : World.setCell _ ⟨V, 0, none⟩ _ = w6 at *
     clear hw6
     obtain ⟨c0, c1, c2, c3, c4, cf0, cf1, cf2, cf3, cf4⟩ := HS.out.cells
     have hV7 := HS.out.alloc (.cells #[.int .i64 (q : Int)] 3)
     obtain ⟨e0, e1, e2, e3, e4, ef0, ef1, ef2, ef3, ef4⟩ := hV7.cells
     have HV7 := Lib.hid hV7
     have hsz7 : base ≤ (w6.alloc (.cells #[.int .i64 (q : Int)] 3)).heap.size := by have := HB.out.size; simp; omega
     have hcut7 := hV7.cut
     rw [HMM.out] at hcut7
     have HC7 := Lib.hid hcut7
     clear hV7 hcut7
     go_upto_region 15 with fail
     go_upto_region 16 with (at_builtin; refine wpl_app eN _ rfl _ _ rfl base ms _ rfl HC7.out hsz7 (q : Int) w6.heap.size _ rfl (heap_alloc_new w6 _) rfl (by omega) (by unfold maxLen; omega) ?_; intro g2 CP w8 hown8 hgr8 hloc8; obtain ⟨d0, d1, d2, d3, d4, k0, k1, k2, k3, k4⟩ := HV7.out.past hgr8 HV7.out.ds)
     have hs8 := HV7.out.setS (S' := S ++ [q]) hgr8 (by rw [HMS.out]; exact hown8) (fun i hi => by injection hi with hi; subst hi; rcases hloc8 with e | e; exact .inl e; exact .inr (Nat.le_of_eq e.symm))
     have HS8 := Lib.hid hs8.1
     have HB8 := Lib.hid ((HB.out.alloc (.cells #[.int .i64 (q : Int)] 3)).next hs8.2 (fun i hi hS => by
       rcases HL5.out i hS with h | h
       · exact h
       · omega))
     have HL8 : Hid (∀ i, cS V (.slice (some ⟨g, 0, none⟩) (E.length + 1) cap) (.slice (some ⟨g2, 0, none⟩) (ms.length + 1) CP) (.slice po op.length co) i → cS V (.slice pi E.length ci) (.slice pc ms.length cc) (.slice po op.length co) i ∨ w.heap.size ≤ i) := Lib.hid (fun i hi => by
       rcases hi with rfl | hi | hi | hi
       · exact .inl (.inl rfl)
       · exact HL5.out i (.inr (.inl hi))
       · injection hi with hi; subst hi
         rcases hloc8 with e | e
         · exact .inl (.inr (.inr (.inl e)))
         · exact .inr (by rw [e]; have := HB.out.size; simp; omega)
       · exact HL5.out i (.inr (.inr (.inr hi))))
     clear hs8 hown8 hgr8 hloc8 d0 d1 d2 d3 d4 k0 k1 k2 k3 k4 c0 c1 c2 c3 c4 cf0 cf1 cf2 cf3 cf4 e0 e1 e2 e3 e4 ef0 ef1 ef2 ef3 ef4 hsz7
     generalize hw9 : World.setCell _ ⟨V, 1, none⟩ _ = w9 at *
     clear hw9
     obtain ⟨c0, c1, c2, c3, c4, cf0, cf1, cf2, cf3, cf4⟩ := HS8.out.cells
     by_cases c5 : n1 ≤ 512
     · have q5 : (n1 : Int) ≤ 512 := by omega
       by_cases c6 : E.length ≤ 1023
       · have q6 : (E.length : Int) ≤ 1023 := by omega
         go_wp2_with fail
         go_ret
         exact ⟨by rw [← HRR.out, if_neg (by omega)]; rfl, _, _, _, HS8.out, HB8.out, HL8.out⟩
       · have q6 : ¬ (E.length : Int) ≤ 1023 := by omega
         go_wp2_with fail
         go_ret
         exact ⟨by rw [← HRR.out, if_pos (by omega)]; rfl, _, _, _, HS8.out, HB8.out, HL8.out⟩
     · have q5 : ¬ (n1 : Int) ≤ 512 := by omega
       go_wp2_with fail
       go_ret
       exact ⟨by rw [← HRR.out, if_pos (by omega)]; rfl, _, _, _, HS8.out, HB8.out, HL8.out⟩)
set_option maxHeartbeats 3200000 in
theorem add_text0 (base V n t : Nat) (E : List It) (S : List Nat) (op : List It) (vE vS vO : Value) (tx : ByteArray) (q : Nat) (w : World) (h : Cnt base V E S n t op vE vS vO w) (hbw : base ≤ w.heap.size) (hxs : ∀ y ∈ E, SmE y) (htx : tx.size ≤ 1024) (hn : n = (norm E).length) (hl : E.length ≤ 1024) (hc : S.length ≤ 1024) (hn5 : n ≤ 512) (ht : t ≤ 1000000) (hop : op.length ≤ 1000000) (hsz : tx.size = 1) (hlt : lastText E = false):
    Calls Tryz.prog 56 #[.pointer (some ⟨V, 0, none⟩), .agg #[.int .i64 1, .string tx, .int .i64 0], .int .i64 (q : Int)] w (EndA1 base V E S vE vS vO q (⟨1, tx, 0⟩ : It) op t w) := by
  have hlm := len_more E (⟨1, tx, 0⟩ : It) hxs (.inl ⟨rfl, hsz⟩)
  rw [if_neg (fun h => by rw [hlt] at h; cases h.2), ← hn] at hlm
  clear hn hxs
  unfold EndA1
  generalize (norm (E ++ [(⟨1, tx, 0⟩ : It)])).length = n1 at *
  generalize hr : (if 512 < n1 ∨ 1024 ≤ E.length then (3 : Int) else 0) = r
  have HRR := Lib.hid hr
  clear hr
  obtain ⟨pi, ci, rfl, hi1, hi2, _⟩ := h.own.its
  obtain ⟨pc, cc, rfl, hc1, hc2, _⟩ := h.cut.ints
  obtain ⟨po, co, rfl, ho1, ho2, _⟩ := h.opn.its
  have hml := nI_len S
  have hbV := (h.lt V (.inl rfl)).2
  have hBn : V ≠ w.heap.size := by omega
  have hV0 := h.alloc (.cells #[.int .i64 1, .string tx, .int .i64 0] 62)
  have hO0 : Only (cS V (.slice pi E.length ci) (.slice pc (nI S).length cc) (.slice po op.length co)) w (w.alloc (.cells #[.int .i64 1, .string tx, .int .i64 0] 62)) := Only.of_below (blw (Below.refl _ _) _)
  have hX0 := heap_alloc_new w (.cells #[.int .i64 1, .string tx, .int .i64 0] 62)
  have hms : nI (S ++ [q]) = nI S ++ [(q : Int)] := nI_snoc S q
  have HLT := Lib.hid h.lt
  have HLM := Lib.hid hlm
  generalize hmm : nI S = ms at *
  have HMS := Lib.hid hms
  have HMM := Lib.hid hmm
  have hm5 : ms.length ≤ 1024 := by omega
  have hn9 : (n : Int) ≤ 512 := by omega
  clear hms hml hmm hlm
  obtain ⟨a0, a1, a2, a3, a4, af0, af1, af2, af3, af4⟩ := h.cells
  obtain ⟨b0, b1, b2, b3, b4, bf0, bf1, bf2, bf3, bf4⟩ := hV0.cells
  have hEn := fun W (hW : Cnt base V E S n t op (.slice pi E.length ci) (.slice pc ms.length cc) (.slice po op.length co) W) => ends_any base V n t E S op _ _ _ W hW (by omega)
  rw [hlt] at hEn
  have HE := Lib.hid hEn
  clear hEn hlt
  go_enter Tryz.func56, Tryz.ntmps56
  go_wp2_with fail
  refine (HE.out _ hV0).mono ?_; rintro e w1 ⟨rfl, rfl⟩
  go_upto_region 14 with fail
  clear a0 a1 a2 a3 a4 af0 af1 af2 af3 af4 b0 b1 b2 b3 b4 bf0 bf1 bf2 bf3 bf4
  have hz2 : (w.setCell ⟨V, 2, none⟩ (.int .i64 ((n + 1 : Nat) : Int))).heap.size = w.heap.size := by simp [World.setCell]
  have hC2 := (h.setN (n + 1)).1.alloc (.cells #[.int .i64 1, .string tx, .int .i64 0] 62)
  have hO2 := (h.setN (n + 1)).2.alloc (.cells #[.int .i64 1, .string tx, .int .i64 0] 62)
  have hX13 := heap_alloc_new (w.setCell ⟨V, 2, none⟩ (.int .i64 ((n + 1 : Nat) : Int))) (.cells #[.int .i64 1, .string tx, .int .i64 0] 62)
  rw [hz2] at hX13
  have hX := hX13
  have HO13 := Lib.hid hO2
  have HC13 := Lib.hid hC2
  have HL : Hid (∀ i, cS V (.slice pi E.length ci) (.slice pc ms.length cc) (.slice po op.length co) i → cS V (.slice pi E.length ci) (.slice pc ms.length cc) (.slice po op.length co) i ∨ w.heap.size + 1 ≤ i) := Lib.hid (fun i hi => .inl hi)
  change Code.wp _ _ _ _ ((w.setCell ⟨V, 2, none⟩ (.int .i64 ((n + 1 : Nat) : Int))).alloc (.cells #[.int .i64 1, .string tx, .int .i64 0] 62))
  clear hC2 hO2 hz2
  generalize (w.setCell ⟨V, 2, none⟩ (.int .i64 ((n + 1 : Nat) : Int))).alloc (.cells #[.int .i64 1, .string tx, .int .i64 0] 62) = W3 at *
  rw [← HLM.out] at HC13
  clear hV0 hX0 hO0
  have hVA := (HC13.out.alloc (.cells #[.int .i64 1, .string tx, .int .i64 0] 62)).drew
  have HV := Lib.hid hVA
  have hsz6 : base ≤ ((W3.alloc (.cells #[.int .i64 1, .string tx, .int .i64 0] 62)).drew).heap.size := by have := HO13.out.size; simp [World.drew]; omega
  have hXlt := (Array.getElem?_eq_some_iff.1 hX13).1
  obtain ⟨y0, y1, y2, y3, y4, yf0, yf1, yf2, yf3, yf4⟩ := hVA.cells
  obtain ⟨z0, z1, z2, z3, z4, zf0, zf1, zf2, zf3, zf4⟩ := HC13.out.cells
  obtain ⟨t0, t1, t2, _, _, _⟩ := cells_item hX13
  have hXA : (W3.alloc (.cells #[.int .i64 1, .string tx, .int .i64 0] 62)).heap[w.heap.size]? = some (.cells #[.int .i64 1, .string tx, .int .i64 0] 62 (0, 0)) := (Lib.alloc_old W3 _ _ hXlt).trans hX13
  obtain ⟨s0, s1, s2, _, _, _⟩ := cells_item hXA
  have HO6 := Lib.hid hVA.own
  clear hVA hXA
  go_region_law (refine step_app eI _ (by rfl) _ _ (by rfl) base E _ (by rfl) HO6.out hsz6 (⟨1, tx, 0⟩ : It) _ _ (by rfl) (heap_alloc_new W3 (.cells #[.int .i64 1, .string tx, .int .i64 0] 62)) (by rfl) (by omega) (by unfold maxLen; omega) ?_; intro g cap w5 hO5 hg5 hl5; obtain ⟨d0, d1, d2, d3, d4, k0, k1, k2, k3, k4⟩ := HV.out.past hg5 HV.out.de)
  all_goals
    (have hs5 := HV.out.setE (E' := E ++ [(⟨1, tx, 0⟩ : It)]) hg5 hO5 (fun i hi => by injection hi with hi; subst hi; rcases hl5 with e | e; exact .inl e; exact .inr (Nat.le_of_eq e.symm))
     have HS := Lib.hid hs5.1
     have HB := Lib.hid ((HO13.out.trans (Only.of_below ((blw (Below.refl _ W3) (.cells #[.int .i64 1, .string tx, .int .i64 0] 62)).drew))).next hs5.2 (fun i hi hS => by
       rcases HL.out i hS with h | h
       · exact h
       · omega))
     have HL5 : Hid (∀ i, cS V (.slice (some ⟨g, 0, none⟩) (E.length + 1) cap) (.slice pc ms.length cc) (.slice po op.length co) i → cS V (.slice pi E.length ci) (.slice pc ms.length cc) (.slice po op.length co) i ∨ w.heap.size ≤ i) := Lib.hid (fun i hi => by
       rcases hi with rfl | hi | hi
       · exact .inl (.inl rfl)
       · injection hi with hi; subst hi
         rcases hl5 with e | e
         · exact .inl (.inr (.inl e))
         · exact .inr (by rw [e]; have := HO13.out.size; simp [World.drew]; omega)
       · rcases HL.out i (.inr (.inr hi)) with h | h
         · exact .inl h
         · exact .inr (by omega))
     clear hs5 hO5 hg5 hl5 d0 d1 d2 d3 d4 k0 k1 k2 k3 k4 y0 y1 y2 y3 y4 yf0 yf1 yf2 yf3 yf4 z0 z1 z2 z3 z4 zf0 zf1 zf2 zf3 zf4 t0 t1 t2 s0 s1 s2 hXlt hX13 hX
     generalize hw6 : World.setCell _ ⟨V, 0, none⟩ _ = w6 at *
     clear hw6
     obtain ⟨c0, c1, c2, c3, c4, cf0, cf1, cf2, cf3, cf4⟩ := HS.out.cells
     have hV7 := HS.out.alloc (.cells #[.int .i64 (q : Int)] 3)
     obtain ⟨e0, e1, e2, e3, e4, ef0, ef1, ef2, ef3, ef4⟩ := hV7.cells
     have HV7 := Lib.hid hV7
     have hsz7 : base ≤ (w6.alloc (.cells #[.int .i64 (q : Int)] 3)).heap.size := by have := HB.out.size; simp; omega
     have hcut7 := hV7.cut
     rw [HMM.out] at hcut7
     have HC7 := Lib.hid hcut7
     clear hV7 hcut7
     go_upto_region 15 with fail
     go_upto_region 16 with (at_builtin; refine wpl_app eN _ rfl _ _ rfl base ms _ rfl HC7.out hsz7 (q : Int) w6.heap.size _ rfl (heap_alloc_new w6 _) rfl (by omega) (by unfold maxLen; omega) ?_; intro g2 CP w8 hown8 hgr8 hloc8; obtain ⟨d0, d1, d2, d3, d4, k0, k1, k2, k3, k4⟩ := HV7.out.past hgr8 HV7.out.ds)
     have hs8 := HV7.out.setS (S' := S ++ [q]) hgr8 (by rw [HMS.out]; exact hown8) (fun i hi => by injection hi with hi; subst hi; rcases hloc8 with e | e; exact .inl e; exact .inr (Nat.le_of_eq e.symm))
     have HS8 := Lib.hid hs8.1
     have HB8 := Lib.hid ((HB.out.alloc (.cells #[.int .i64 (q : Int)] 3)).next hs8.2 (fun i hi hS => by
       rcases HL5.out i hS with h | h
       · exact h
       · omega))
     have HL8 : Hid (∀ i, cS V (.slice (some ⟨g, 0, none⟩) (E.length + 1) cap) (.slice (some ⟨g2, 0, none⟩) (ms.length + 1) CP) (.slice po op.length co) i → cS V (.slice pi E.length ci) (.slice pc ms.length cc) (.slice po op.length co) i ∨ w.heap.size ≤ i) := Lib.hid (fun i hi => by
       rcases hi with rfl | hi | hi | hi
       · exact .inl (.inl rfl)
       · exact HL5.out i (.inr (.inl hi))
       · injection hi with hi; subst hi
         rcases hloc8 with e | e
         · exact .inl (.inr (.inr (.inl e)))
         · exact .inr (by rw [e]; have := HB.out.size; simp; omega)
       · exact HL5.out i (.inr (.inr (.inr hi))))
     clear hs8 hown8 hgr8 hloc8 d0 d1 d2 d3 d4 k0 k1 k2 k3 k4 c0 c1 c2 c3 c4 cf0 cf1 cf2 cf3 cf4 e0 e1 e2 e3 e4 ef0 ef1 ef2 ef3 ef4 hsz7
     generalize hw9 : World.setCell _ ⟨V, 1, none⟩ _ = w9 at *
     clear hw9
     obtain ⟨c0, c1, c2, c3, c4, cf0, cf1, cf2, cf3, cf4⟩ := HS8.out.cells
     by_cases c5 : n1 ≤ 512
     · have q5 : (n1 : Int) ≤ 512 := by omega
       by_cases c6 : E.length ≤ 1023
       · have q6 : (E.length : Int) ≤ 1023 := by omega
         go_wp2_with fail
         go_ret
         exact ⟨by rw [← HRR.out, if_neg (by omega)]; rfl, _, _, _, HS8.out, HB8.out, HL8.out⟩
       · have q6 : ¬ (E.length : Int) ≤ 1023 := by omega
         go_wp2_with fail
         go_ret
         exact ⟨by rw [← HRR.out, if_pos (by omega)]; rfl, _, _, _, HS8.out, HB8.out, HL8.out⟩
     · have q5 : ¬ (n1 : Int) ≤ 512 := by omega
       go_wp2_with fail
       go_ret
       exact ⟨by rw [← HRR.out, if_pos (by omega)]; rfl, _, _, _, HS8.out, HB8.out, HL8.out⟩)
end Go.Proofs.YtphkpokoeaagfaaGreatDoor
