/- The draft of Parse: what it holds, where it lies. Contracts of the draft's methods endText, addText. The contract of the draft's admits. The contract of the draft's add. The contract of Parse. The fixed example of the laws; what made gives. What the laws' generator answers. What the rows' condition on the listed variables gives, and that a start meets it. -/
import Derived.Test.YtaogjccmeajpoaaGreatDoorNtC
import Derived.Test.YtaogjccmeajpoaaGreatDoorMap
import Derived.Test.YtaogjccmeajpoaaGreatDoorNrq
import Derived.Test.YtaogjccmeajpoaaGreatDoorNtB
import Derived.StillTailTactics
import Derived.Deep.RegionLaw
import Derived.Test.YtaogjccmeajpoaaGreatDoorVld
import Derived.Test.YtaogjccmeajpoaaGreatDoorNtA
import Derived.Test.YtaogjccmeajpoaaGreatDoorMad
import Derived.Test.YtaogjccmeajpoaaGreatDoorSam
import Derived.Test.YtaogjccmeajpoaaGreatDoorTie
import Derived.LaidMore
import Derived.MakeChecks
import Derived.LaidHandle
import Derived.Lib.LaidU8
import Derived.Stop.LaidErr
namespace Go.Proofs.YtaogjccmeajpoaaGreatDoor
open Go.ChangeShapes Go.WideShapes Go.ChangeAt Go.RowKit
set_option linter.unusedVariables false
set_option linter.unusedSimpArgs false
set_option maxRecDepth 100000

/-- The items written so far: the last text gets its bytes later. -/
def pend (res : List It) (bs : List UInt8) : List It := if bs = [] then res else res ++ [⟨1, .empty, 0⟩]
theorem pend_nil (res : List It) : pend res [] = res := if_pos rfl
theorem pend_some (res : List It) (bs : List UInt8) (h : bs ≠ []) : pend res bs = res ++ [⟨1, .empty, 0⟩] := if_neg h
theorem pend_flush (res : List It) (bs : List UInt8) : (pend res bs).length = (flush res bs).length := by unfold pend flush; split <;> simp
/-- A look-up's slice: none there is a nil slice. -/
def pickS (o : Option Value) : Value := pickE (fun v : Value => v) (.slice none 0 0) o
theorem pickS_none : pickS none = .slice none 0 0 := rfl
theorem pickS_some (v : Value) : pickS (some v) = v := rfl
/-- What lies in a block. -/
theorem OwnL.obj {base : Nat} {L : List It} {v : Value} {w : World} (h : OwnL 43 3 ienc base L v w) {g : Nat} (hg : v.ownBlock = some g) : ∃ cur, w.heap[g]? = some (.cells cur 43 (0, 0)) := by
  rcases h.2 with ⟨hv, _⟩ | ⟨g', cap, cur, hv, _, hh, _⟩
  · rw [hv] at hg; cases hg
  · rw [hv] at hg; injection hg with hg; subst hg; exact ⟨cur, hh⟩
theorem OwB.obj {base : Nat} {l : List UInt8} {v : Value} {w : World} (h : OwB base l v w) {g : Nat} (hg : v.ownBlock = some g) : ∃ cur, w.heap[g]? = some (.cells cur 5 (0, 0)) := by
  rcases h.2 with ⟨hv, _⟩ | ⟨g', cap, cur, hv, _, hh, _⟩
  · rw [hv] at hg; cases hg
  · rw [hv] at hg; injection hg with hg; subst hg; exact ⟨cur, hh⟩
theorem OwB.form' {base : Nat} {l : List UInt8} {v : Value} {w : World} (h : OwB base l v w) : ∃ a c, v = .slice a l.length c ∧ l.length ≤ c ∧ c ≤ maxLen := by
  rcases h.2 with ⟨hv, h0⟩ | ⟨g, cap, cur, hv, _, _, h1, h2, _⟩
  · rw [h0]; exact ⟨none, 0, hv, Nat.le_refl _, Nat.zero_le _⟩
  · exact ⟨_, _, hv, h1, h2⟩
theorem MapAt.obj {β : Type} {enc : β → Value} {w : World} {b n : Nat} {f : Int → Option β} (h : MapAt 3 vInt enc w b n f) : ∃ es c, w.heap[b]? = some (.map es c) := by
  obtain ⟨D, ⟨es, clock, h1, _⟩, _⟩ := h
  exact ⟨es, clock, h1⟩
/-- Two blocks of different kinds are two. -/
theorem apart {w : World} {i j : Nat} {a b : Obj} (ha : w.heap[i]? = some a) (hb : w.heap[j]? = some b) (h : a ≠ b) : i ≠ j := fun e => by subst e; rw [ha] at hb; injection hb with hb; exact h hb

/-- The draft in block D, its map in block T: the items res and a text of bytes bs behind them, n positions, the tags by their numbers. -/
structure DSt (base D T cnt : Nat) (res : List It) (bs : List UInt8) (n : Nat) (G : Int → List It) (φ : Int → Option Value) (vi vt : Value) (w : World) : Prop where
  var : w.heap[D]? = some (.cells #[vi, vt, .int .i64 n, .map (some T)] 52 (0, 0))
  own : OwnL 43 3 ienc base (pend res bs) vi w
  txt : OwB base bs vt w
  map : MapAt 3 vInt (fun v : Value => v) w T cnt φ
  grp : ∀ a, OwnL 43 3 ienc base (G a) (pickS (φ a)) w
  bD : base ≤ D
  bT : base ≤ T
  gg : ∀ a b, a ≠ b → ∀ i, (pickS (φ a)).ownBlock = some i → (pickS (φ b)).ownBlock ≠ some i
  gi : ∀ a i, (pickS (φ a)).ownBlock = some i → vi.ownBlock ≠ some i
/-- The draft's blocks. -/
def dS (D T : Nat) (φ : Int → Option Value) (vi vt : Value) (i : Nat) : Prop := i = D ∨ i = T ∨ vi.ownBlock = some i ∨ vt.ownBlock = some i ∨ ∃ a, (pickS (φ a)).ownBlock = some i
section
variable {base D T cnt n : Nat} {res : List It} {bs : List UInt8} {G : Int → List It} {φ : Int → Option Value} {vi vt : Value} {w w' : World}
theorem DSt.lt (h : DSt base D T cnt res bs n G φ vi vt w) : ∀ i, dS D T φ vi vt i → base ≤ i ∧ i < w.heap.size := by
  intro i hi
  rcases hi with rfl | rfl | hi | hi | ⟨a, hi⟩
  · exact ⟨h.bD, (Array.getElem?_eq_some_iff.1 h.var).1⟩
  · exact ⟨h.bT, h.map.lt⟩
  · exact World.ownsRow.lt h.own i hi
  · exact World.ownsRow.lt h.txt i hi
  · exact World.ownsRow.lt (h.grp a) i hi
theorem DSt.same (h : DSt base D T cnt res bs n G φ vi vt w) (hb : ∀ i, dS D T φ vi vt i → w'.heap[i]? = w.heap[i]?) : DSt base D T cnt res bs n G φ vi vt w' :=
  ⟨(hb D (.inl rfl)).trans h.var, ownsRow_same h.own (fun i hi => hb i (.inr (.inr (.inl hi)))), ownsRow_same h.txt (fun i hi => hb i (.inr (.inr (.inr (.inl hi))))), h.map.block (hb T (.inr (.inl rfl))),
    fun a => ownsRow_same (h.grp a) (fun i hi => hb i (.inr (.inr (.inr (.inr ⟨a, hi⟩))))), h.bD, h.bT, h.gg, h.gi⟩
theorem DSt.call (h : DSt base D T cnt res bs n G φ vi vt w) (hb : Below w.heap.size w w') : DSt base D T cnt res bs n G φ vi vt w' :=
  h.same fun i hi => hb.block i (h.lt i hi).2
theorem DSt.alloc (h : DSt base D T cnt res bs n G φ vi vt w) (o : Obj) : DSt base D T cnt res bs n G φ vi vt (w.alloc o) := h.call (blw (Below.refl _ _) o)
theorem DSt.drew (h : DSt base D T cnt res bs n G φ vi vt w) : DSt base D T cnt res bs n G φ vi vt w.drew := h.call (Below.refl _ _).drew
/-- The blocks of different kinds are different ones. -/
theorem DSt.di (h : DSt base D T cnt res bs n G φ vi vt w) : vi.ownBlock ≠ some D := fun e => by
  obtain ⟨cur, hc⟩ := h.own.obj e
  exact apart hc h.var (fun e => by simp at e) rfl
theorem DSt.dt (h : DSt base D T cnt res bs n G φ vi vt w) : vt.ownBlock ≠ some D := fun e => by
  obtain ⟨cur, hc⟩ := h.txt.obj e
  exact apart hc h.var (fun e => by simp at e) rfl
theorem DSt.dg (h : DSt base D T cnt res bs n G φ vi vt w) (a : Int) : (pickS (φ a)).ownBlock ≠ some D := fun e => by
  obtain ⟨cur, hc⟩ := (h.grp a).obj e
  exact apart hc h.var (fun e => by simp at e) rfl
theorem DSt.dT (h : DSt base D T cnt res bs n G φ vi vt w) : T ≠ D := by
  obtain ⟨es, c, hm⟩ := h.map.obj
  exact apart hm h.var (fun e => by simp at e)
theorem DSt.ti (h : DSt base D T cnt res bs n G φ vi vt w) : vi.ownBlock ≠ some T := fun e => by
  obtain ⟨cur, hc⟩ := h.own.obj e
  obtain ⟨es, c, hm⟩ := h.map.obj
  exact apart hc hm (fun e => by simp at e) rfl
theorem DSt.tt (h : DSt base D T cnt res bs n G φ vi vt w) : vt.ownBlock ≠ some T := fun e => by
  obtain ⟨cur, hc⟩ := h.txt.obj e
  obtain ⟨es, c, hm⟩ := h.map.obj
  exact apart hc hm (fun e => by simp at e) rfl
theorem DSt.tg (h : DSt base D T cnt res bs n G φ vi vt w) (a : Int) : (pickS (φ a)).ownBlock ≠ some T := fun e => by
  obtain ⟨cur, hc⟩ := (h.grp a).obj e
  obtain ⟨es, c, hm⟩ := h.map.obj
  exact apart hc hm (fun e => by simp at e) rfl
theorem DSt.it (h : DSt base D T cnt res bs n G φ vi vt w) : ∀ i, vi.ownBlock = some i → vt.ownBlock ≠ some i := fun i h1 h2 => by
  obtain ⟨c1, hc⟩ := h.own.obj h1
  obtain ⟨c2, hd⟩ := h.txt.obj h2
  exact apart hc hd (fun e => by simp at e) rfl
theorem DSt.gt (h : DSt base D T cnt res bs n G φ vi vt w) (a : Int) : ∀ i, (pickS (φ a)).ownBlock = some i → vt.ownBlock ≠ some i := fun i h1 h2 => by
  obtain ⟨c1, hc⟩ := (h.grp a).obj h1
  obtain ⟨c2, hd⟩ := h.txt.obj h2
  exact apart hc hd (fun e => by simp at e) rfl
/-- The cells of the draft's variable. -/
theorem DSt.cells (h : DSt base D T cnt res bs n G φ vi vt w) : w.cell? ⟨D, 0, none⟩ = some vi ∧ w.cell? ⟨D, 1, none⟩ = some vt ∧ w.cell? ⟨D, 2, none⟩ = some (.int .i64 n) ∧ w.cell? ⟨D, 3, none⟩ = some (.map (some T)) ∧ w.frozen? ⟨D, 0, none⟩ = false ∧ w.frozen? ⟨D, 1, none⟩ = false ∧ w.frozen? ⟨D, 2, none⟩ = false :=
  ⟨by rw [Lib.cell_of_heap h.var]; rfl, by rw [Lib.cell_of_heap h.var]; rfl, by rw [Lib.cell_of_heap h.var]; rfl, by rw [Lib.cell_of_heap h.var]; rfl, Lib.frozen_of_heap h.var 0, Lib.frozen_of_heap h.var 1, Lib.frozen_of_heap h.var 2⟩
/-- The variable's slice of items is another one. -/
theorem DSt.setItems (h : DSt base D T cnt res bs n G φ vi vt w) {res' : List It} {vi' : Value} {w1 : World} (hg : w.grownBy w1 vi.ownBlock) (hown : OwnL 43 3 ienc base (pend res' bs) vi' w1) (hloc : ∀ i, vi'.ownBlock = some i → vi.ownBlock = some i ∨ w.heap.size ≤ i) :
    DSt base D T cnt res' bs n G φ vi' vt (w1.setCell ⟨D, 0, none⟩ vi') ∧ Only (dS D T φ vi vt) w (w1.setCell ⟨D, 0, none⟩ vi') := by
  have hlt := h.lt
  have hD1 : w1.heap[D]? = some (.cells #[vi, vt, .int .i64 n, .map (some T)] 52 (0, 0)) := (hg.block D (hlt D (.inl rfl)).2 (fun e => h.di e.symm)).trans h.var
  have hold : ∀ i, dS D T φ vi vt i → i ≠ D → vi.ownBlock ≠ some i → (w1.setCell ⟨D, 0, none⟩ vi').heap[i]? = w.heap[i]? := fun i hi h1 h2 => by
    rw [Below.heap_setCell _ _ _ _ h1]; exact hg.block i (hlt i hi).2 (fun e => h2 e.symm)
  have hiD : vi'.ownBlock ≠ some D := fun e => by
    rcases hloc D e with h1 | h1
    · exact h.di h1
    · have := (hlt D (.inl rfl)).2; omega
  refine ⟨⟨?_, ?_, ?_, ?_, fun a => ?_, h.bD, h.bT, h.gg, fun a i hi h2 => ?_⟩, ?_⟩
  · have := setCell_heap w1 D 0 _ _ vi' hD1
    simpa using this
  · exact ownsRow_same hown (fun i hi => Below.heap_setCell _ _ _ _ (fun e => hiD (by have e' : i = D := e; rw [← e']; exact hi)))
  · exact ownsRow_same h.txt (fun i hi => hold i (.inr (.inr (.inr (.inl hi)))) (fun e => h.dt (by rw [← e]; exact hi)) (fun e => h.it i e hi))
  · exact h.map.block (hold T (.inr (.inl rfl)) h.dT h.ti)
  · exact ownsRow_same (h.grp a) (fun i hi => hold i (.inr (.inr (.inr (.inr ⟨a, hi⟩)))) (fun e => h.dg a (by rw [← e]; exact hi)) (h.gi a i hi))
  · rcases hloc i h2 with h1 | h1
    · exact h.gi a i hi h1
    · have := (hlt i (.inr (.inr (.inr (.inr ⟨a, hi⟩))))).2; omega
  · exact (Only.of_grown hg (fun i hi => .inr (.inr (.inl hi)))).setCell _ _ (.inl rfl)
theorem DSt.setText (h : DSt base D T cnt res bs n G φ vi vt w) {res' : List It} {bs' : List UInt8} {vt' : Value} {w1 : World} (hg : w.grownBy w1 vt.ownBlock) (hown : OwB base bs' vt' w1) (hp : pend res' bs' = pend res bs) (hloc : ∀ i, vt'.ownBlock = some i → vt.ownBlock = some i ∨ w.heap.size ≤ i) :
    DSt base D T cnt res' bs' n G φ vi vt' (w1.setCell ⟨D, 1, none⟩ vt') ∧ Only (dS D T φ vi vt) w (w1.setCell ⟨D, 1, none⟩ vt') := by
  have hlt := h.lt
  have hD1 : w1.heap[D]? = some (.cells #[vi, vt, .int .i64 n, .map (some T)] 52 (0, 0)) := (hg.block D (hlt D (.inl rfl)).2 (fun e => h.dt e.symm)).trans h.var
  have hold : ∀ i, dS D T φ vi vt i → i ≠ D → vt.ownBlock ≠ some i → (w1.setCell ⟨D, 1, none⟩ vt').heap[i]? = w.heap[i]? := fun i hi h1 h2 => by
    rw [Below.heap_setCell _ _ _ _ h1]; exact hg.block i (hlt i hi).2 (fun e => h2 e.symm)
  have hiD : vt'.ownBlock ≠ some D := fun e => by
    rcases hloc D e with h1 | h1
    · exact h.dt h1
    · have := (hlt D (.inl rfl)).2; omega
  refine ⟨⟨?_, ?_, ?_, ?_, fun a => ?_, h.bD, h.bT, h.gg, h.gi⟩, ?_⟩
  · have := setCell_heap w1 D 1 _ _ vt' hD1
    simpa using this
  · rw [hp]; exact ownsRow_same h.own (fun i hi => hold i (.inr (.inr (.inl hi))) (fun e => h.di (by rw [← e]; exact hi)) (h.it i hi))
  · exact ownsRow_same hown (fun i hi => Below.heap_setCell _ _ _ _ (fun e => hiD (by have e' : i = D := e; rw [← e']; exact hi)))
  · exact h.map.block (hold T (.inr (.inl rfl)) h.dT h.tt)
  · exact ownsRow_same (h.grp a) (fun i hi => hold i (.inr (.inr (.inr (.inr ⟨a, hi⟩)))) (fun e => h.dg a (by rw [← e]; exact hi)) (h.gt a i hi))
  · exact (Only.of_grown hg (fun i hi => .inr (.inr (.inr (.inl hi))))).setCell _ _ (.inl rfl)
theorem DSt.setN (h : DSt base D T cnt res bs n G φ vi vt w) (n' : Nat) : DSt base D T cnt res bs n' G φ vi vt (w.setCell ⟨D, 2, none⟩ (.int .i64 n')) ∧ Only (dS D T φ vi vt) w (w.setCell ⟨D, 2, none⟩ (.int .i64 n')) := by
  have hold : ∀ i, i ≠ D → (w.setCell ⟨D, 2, none⟩ (.int .i64 n')).heap[i]? = w.heap[i]? := fun i h1 => Below.heap_setCell _ _ _ _ h1
  refine ⟨⟨?_, ?_, ?_, ?_, fun a => ?_, h.bD, h.bT, h.gg, h.gi⟩, ?_⟩
  · have := setCell_heap w D 2 _ _ (.int .i64 n') h.var
    simpa using this
  · exact ownsRow_same h.own (fun i hi => hold i (fun e => h.di (by rw [← e]; exact hi)))
  · exact ownsRow_same h.txt (fun i hi => hold i (fun e => h.dt (by rw [← e]; exact hi)))
  · exact h.map.block (hold T h.dT)
  · exact ownsRow_same (h.grp a) (fun i hi => hold i (fun e => h.dg a (by rw [← e]; exact hi)))
  · exact (Only.refl _ _).setCell _ _ (.inl rfl)
end
/-- The blocks of a later draft are those of the first or new ones. -/
theorem Only.next {S S' : Nat → Prop} {a b c : World} (h : Only S a b) (k : Only S' b c) (hs : ∀ i, i < a.heap.size → S' i → S i) : Only S a c :=
  ⟨k.os.trans h.os, k.tape.trans h.tape, k.output.trans h.output, Nat.le_trans h.size k.size, fun i hi hS => (k.block i (Nat.lt_of_lt_of_le hi h.size) (fun hS' => hS (hs i hi hS'))).trans (h.block i hi hS)⟩
/-- A text into the last item. -/
theorem OwnL.setText {base : Nat} {L : List It} {k id : Int} {t t' : ByteArray} {g n cap : Nat} {w : World} (h : OwnL 43 3 ienc base (L ++ [⟨k, t, id⟩]) (.slice (some ⟨g, 0, none⟩) n cap) w) :
    OwnL 43 3 ienc base (L ++ [⟨k, t', id⟩]) (.slice (some ⟨g, 0, none⟩) n cap) (w.setCell ⟨g, L.length * 3 + 1, none⟩ (.string t')) := by
  obtain ⟨g', cap', cur, hv, hb, hh, hc, hm, hs, ht⟩ := h.row (by simp)
  injection hv with h1 h2 h3
  injection h1 with h1; injection h1 with h1
  subst h1; subst h2; subst h3
  refine ⟨?_, .inr ⟨g, cap, cur.setIfInBounds (L.length * 3 + 1) (.string t'), by simp, hb, setCell_heap _ _ _ _ _ _ hh, by simpa using hc, hm, by simpa using hs, ?_⟩⟩
  · show (icells (L ++ [_])).length = _; rw [icells_length]
  · show _ = icells (L ++ [_])
    rw [icells_snoc] at ht
    rw [icells_snoc]
    have hl := icells_length L
    simp only [Array.toList_setIfInBounds]
    rw [List.take_set]
    rw [show (L ++ [(⟨k, t', id⟩ : It)]).length = (L ++ [(⟨k, t, id⟩ : It)]).length by simp, ht]
    generalize icells L = c at *
    rw [← hl, List.set_append_right _ _ (by omega)]
    simp
/-- A row cut to nothing. -/
theorem OwB.cut {base : Nat} {l : List UInt8} {g n c : Nat} {w : World} (h : OwB base l (.slice (some ⟨g, 0, none⟩) n c) w) : OwB base [] (.slice (some ⟨g, 0, none⟩) 0 c) w := by
  rcases h.2 with ⟨hv, _⟩ | ⟨g', cap, cur, hv, hb, hh, h1, h2, h3, h4⟩
  · cases hv
  · injection hv with e1 e2 e3
    injection e1 with e1; injection e1 with e1
    subst e1; subst e3
    exact ⟨rfl, .inr ⟨g, c, cur, rfl, hb, hh, Nat.zero_le _, h2, h3, by simp [Lib.byteCells]⟩⟩
end Go.Proofs.YtaogjccmeajpoaaGreatDoor
namespace Go.Proofs.YtaogjccmeajpoaaGreatDoor
open Go.ChangeShapes Go.WideShapes Go.ChangeAt Go.RowKit
set_option linter.unusedVariables false
set_option linter.unusedSimpArgs false
set_option maxRecDepth 100000

theorem dS_text {D T : Nat} {φ : Int → Option Value} {vi vt vt' : Value} (h : vt'.ownBlock = vt.ownBlock) {i : Nat} (hi : dS D T φ vi vt' i) : dS D T φ vi vt i := by
  rcases hi with h1 | h1 | h1 | h1 | h1
  · exact .inl h1
  · exact .inr (.inl h1)
  · exact .inr (.inr (.inl h1))
  · exact .inr (.inr (.inr (.inl (h ▸ h1))))
  · exact .inr (.inr (.inr (.inr h1)))
theorem setCell_grown (w : World) (g j : Nat) (v : Value) : w.grownBy (w.setCell ⟨g, j, none⟩ v) (some g) :=
  ⟨rfl, rfl, rfl, by simp [World.setCell], fun i hi hne => Below.heap_setCell _ _ _ _ (fun e => hne (by rw [e]))⟩
theorem DSt.fill {base D T cnt n : Nat} {res : List It} {bs : List UInt8} {G : Int → List It} {φ : Int → Option Value} {vi vt : Value} {w : World} (h : DSt base D T cnt res bs n G φ vi vt w) (hb : bs ≠ []) {gi n0 ci g n1 c : Nat} (hvi : vi = .slice (some ⟨gi, 0, none⟩) n0 ci) (hvt : vt = .slice (some ⟨g, 0, none⟩) n1 c) :
    DSt base D T cnt (flush res bs) [] n G φ vi (.slice (some ⟨g, 0, none⟩) 0 c) ((w.setCell ⟨gi, res.length * 3 + 1, none⟩ (.string (bsL bs))).setCell ⟨D, 1, none⟩ (.slice (some ⟨g, 0, none⟩) 0 c)) ∧ Only (dS D T φ vi vt) w ((w.setCell ⟨gi, res.length * 3 + 1, none⟩ (.string (bsL bs))).setCell ⟨D, 1, none⟩ (.slice (some ⟨g, 0, none⟩) 0 c)) := by
  have hgi : vi.ownBlock = some gi := by rw [hvi]; rfl
  have hgt : vt.ownBlock = some g := by rw [hvt]; rfl
  have hiD : gi ≠ D := fun e => h.di (by rw [hgi, e])
  have htD : g ≠ D := fun e => h.dt (by rw [hgt, e])
  have hitg : gi ≠ g := fun e => h.it gi hgi (by rw [hgt, e])
  have hown := h.own
  rw [pend_some res bs hb, hvi] at hown
  have hset := hown.setText (t' := bsL bs)
  have hfl : flush res bs = res ++ [⟨1, bsL bs, 0⟩] := flush_some res bs hb
  have hold : ∀ i, i ≠ D → i ≠ gi → ((w.setCell ⟨gi, res.length * 3 + 1, none⟩ (.string (bsL bs))).setCell ⟨D, 1, none⟩ (.slice (some ⟨g, 0, none⟩) 0 c)).heap[i]? = w.heap[i]? := fun i h1 h2 => by
    rw [Below.heap_setCell _ _ _ _ h1, Below.heap_setCell _ _ _ _ h2]
  have htxt := h.txt
  rw [hvt] at htxt
  refine ⟨⟨?_, ?_, ?_, ?_, fun a => ?_, h.bD, h.bT, h.gg, h.gi⟩, ?_⟩
  · have h1 : (w.setCell ⟨gi, res.length * 3 + 1, none⟩ (.string (bsL bs))).heap[D]? = _ := (Below.heap_setCell _ _ _ _ (fun e => hiD e.symm)).trans h.var
    have := setCell_heap _ D 1 _ _ (.slice (some ⟨g, 0, none⟩) 0 c) h1
    simpa using this
  · rw [pend_nil, hfl, hvi]
    exact ownsRow_same hset (fun i hi => Below.heap_setCell _ _ _ _ (fun e => hiD (by have e' : i = D := e; injection hi with hi; rw [← e', ← hi])))
  · exact ownsRow_same htxt.cut (fun i hi => by injection hi with hi; subst hi; exact hold g htD (fun e => hitg e.symm))
  · exact h.map.block (hold T h.dT (fun e => h.ti (by rw [hgi, e])))
  · exact ownsRow_same (h.grp a) (fun i hi => hold i (fun e => h.dg a (by rw [← e]; exact hi)) (fun e => h.gi a i hi (by rw [hgi, e])))
  · exact ((Only.refl _ _).setCell _ _ (.inr (.inr (.inl hgi)))).setCell _ _ (.inl rfl)
set_option maxHeartbeats 3200000 in
theorem endtext_any (base D T cnt n : Nat) (res : List It) (bs : List UInt8) (G : Int → List It) (φ : Int → Option Value) (vi vt : Value) (w : World) (h : DSt base D T cnt res bs n G φ vi vt w) (hl : res.length ≤ 1000) :
    Calls Tryz.prog 23 #[.pointer (some ⟨D, 0, none⟩)] w fun e w' => e = .returned (.tuple #[]) ∧ ∃ vt', DSt base D T cnt (flush res bs) [] n G φ vi vt' w' ∧ Only (dS D T φ vi vt) w w' ∧ vt'.ownBlock = vt.ownBlock := by
  obtain ⟨c0, c1, c2, c3, f0, f1, f2⟩ := h.cells
  by_cases hb : bs = []
  · subst hb
    obtain ⟨a, c, hv, _, _⟩ := h.txt.form'
    subst hv
    rw [flush_nil]
    have HH := Lib.hid h
    clear h
    go_enter Tryz.func23, Tryz.ntmps23
    go_wp2_with fail
    go_end0
    exact ⟨rfl, _, HH.out, Only.refl _ _, rfl⟩
  · have hpos : 0 < bs.length := List.length_pos_iff.2 hb
    have hp := pend_some res bs hb
    have hown := h.own
    rw [hp] at hown
    obtain ⟨m, hm⟩ : ∃ m, res.length = m := ⟨_, rfl⟩
    obtain ⟨gi, ci, cur, hvi, hgi, hcur, k1, k2, _, _⟩ := hown.row (by simp)
    rw [show (res ++ [(⟨1, ByteArray.empty, 0⟩ : It)]).length = m + 1 by simp [hm]] at hvi k1
    have hcv := conv_own h.drew.txt
    obtain ⟨g, ct, hvt⟩ : ∃ g ct, vt = .slice (some ⟨g, 0, none⟩) bs.length ct := by
      rcases h.txt.2 with ⟨_, h0⟩ | ⟨g, cap, cur, hv, _⟩
      · omega
      · exact ⟨g, cap, hv⟩
    have hfin := h.drew.fill hb hvi hvt
    have hcell : w.cell? ⟨gi, m * 3 + 1, none⟩ = some (.string ByteArray.empty) := by
      have h1 := World.ownsRow.cells hown (g := gi) (by rw [hvi]; rfl) (m * 3 + 1) (.string ByteArray.empty) (by
        have h2 := (icells_at (res ++ [(⟨1, ByteArray.empty, 0⟩ : It)]) m (by simp; omega)).2.1
        have e : (res ++ [(⟨1, ByteArray.empty, 0⟩ : It)])[m]'(by simp; omega) = ⟨1, ByteArray.empty, 0⟩ := by subst hm; simp
        rw [e] at h2; exact h2)
      have ea : ((⟨gi, 0, none⟩ : Addr).add (m * 3 + 1)) = ⟨gi, m * 3 + 1, none⟩ := by unfold Addr.add; simp
      rw [ea] at h1; exact h1
    rw [hm] at hfin hl
    have hneD : gi ≠ D := fun e => h.di (by rw [hvi, e]; rfl)
    subst hvi hvt
    have cw : IntKind.i64.wrap (m : Int) = (m : Int) := IntWalk.i64_in _ ⟨by omega, by omega⟩
    have fz : ∀ j, w.frozen? ⟨gi, j, none⟩ = false := fun j => Lib.frozen_of_heap hcur j
    have fz1 := fz (m * 3 + 1)
    have HF := Lib.hid hfin
    have q1 : decide (0 < bs.length) = true := decide_eq_true hpos
    have g0 : ((m : Int) < (m : Int) + 1) = True := by simp; omega
    clear hfin hown hp hb h hm fz
    go_enter Tryz.func23, Tryz.ntmps23
    go_upto_region 1 with fail
    go_still_tail 17, (by kernel_rfl)
    change wpList _ _ _ _ _ w.drew
    go_wp2_with fail
    go_end0
    exact ⟨rfl, _, HF.out.1, (Only.of_below (Below.refl _ w).drew).trans HF.out.2, rfl⟩
theorem dS_next {D T : Nat} {φ : Int → Option Value} {vi vi' vt vt' : Value} {m : Nat} (hi : ∀ i, vi'.ownBlock = some i → vi.ownBlock = some i ∨ m ≤ i) (ht : ∀ i, vt'.ownBlock = some i → vt.ownBlock = some i ∨ m ≤ i) {i : Nat} (hm : i < m) (h : dS D T φ vi' vt' i) : dS D T φ vi vt i := by
  rcases h with h1 | h1 | h1 | h1 | h1
  · exact .inl h1
  · exact .inr (.inl h1)
  · rcases hi i h1 with h2 | h2
    · exact .inr (.inr (.inl h2))
    · omega
  · rcases ht i h1 with h2 | h2
    · exact .inr (.inr (.inr (.inl h2)))
    · omega
  · exact .inr (.inr (.inr (.inr h1)))
theorem DSt.past {base D T cnt n : Nat} {res : List It} {bs : List UInt8} {G : Int → List It} {φ : Int → Option Value} {vi vt : Value} {w w1 : World} {row : Option Nat} (h : DSt base D T cnt res bs n G φ vi vt w) (hg : w.grownBy w1 row) (hne : row ≠ some D) :
    w1.cell? ⟨D, 0, none⟩ = some vi ∧ w1.cell? ⟨D, 1, none⟩ = some vt ∧ w1.cell? ⟨D, 3, none⟩ = some (.map (some T)) ∧ w1.frozen? ⟨D, 0, none⟩ = false ∧ w1.frozen? ⟨D, 1, none⟩ = false := by
  have hD1 := (hg.block D (h.lt D (.inl rfl)).2 (fun e => hne e.symm)).trans h.var
  exact ⟨by rw [Lib.cell_of_heap hD1]; rfl, by rw [Lib.cell_of_heap hD1]; rfl, by rw [Lib.cell_of_heap hD1]; rfl, Lib.frozen_of_heap hD1 0, Lib.frozen_of_heap hD1 1⟩
theorem wpl_strL (w : World) {ops : Array Oper} {rest : List Oper} {o : Oper} {a : Act} {Q : Exit → Act → World → Prop} (hg : o.guard = none) (s x : Operand)
    (ho : o.op = .call { callee := .builtin .append, args := #[s, x], argTypes := #[31, 9] }) (base : Nat) (L : List UInt8) (v : Value) (hs : a.eval s = v) (h : OwB base L v w) (hbase : base ≤ w.heap.size) (t : ByteArray) (hx : a.eval x = .string t) (hlen : L.length + t.size ≤ 140737488355328)
    (hK : ∀ p n c w', OwB base (L ++ t.data.toList) (.slice p n c) w' → w.grownBy w' v.ownBlock → (∀ i, (Value.slice p n c).ownBlock = some i → v.ownBlock = some i ∨ w.heap.size ≤ i) → wpList Tryz.prog ops Q rest (a.put o.dst (.slice p n c)) w') : wpList Tryz.prog ops Q (o :: rest) a w := by
  refine wpl_append_str hg s x ho base v L.length _ hs h t hx hlen hbase fun v' w' h2 h3 h4 => ?_
  have h5 : OwB base (L ++ t.data.toList) v' w' := by unfold OwB; rw [List.length_append, byteCells_append, ← strCells_eq, show t.data.toList.length = t.size by simp]; exact h2
  obtain ⟨p, n, c, rfl⟩ := h5.form
  exact hK p n c w' h5 h3 (fun i hi => (h4 i hi).imp id (fun e => Nat.le_of_eq e.symm))
theorem tl_ne {t : ByteArray} (h : t.size ≠ 0) : t.data.toList ≠ [] := fun e => h ((bytes_nil t).1 e)
set_option maxHeartbeats 3200000 in
theorem addtext_any (base D T cnt n : Nat) (res : List It) (bs : List UInt8) (G : Int → List It) (φ : Int → Option Value) (vi vt : Value) (t : ByteArray) (w : World) (h : DSt base D T cnt res bs n G φ vi vt w) (hl : res.length ≤ 1000) (hbl : bs.length ≤ 100000) (htl : t.size ≤ 100000) (ht : t.size ≠ 0) (hbw : base ≤ w.heap.size) :
    Calls Tryz.prog 45 #[.pointer (some ⟨D, 0, none⟩), .string t] w fun e w' => e = .returned (.tuple #[]) ∧ ∃ vi' vt', DSt base D T cnt res (bs ++ t.data.toList) n G φ vi' vt' w' ∧ Only (dS D T φ vi vt) w w' ∧ (∀ i, vi'.ownBlock = some i → vi.ownBlock = some i ∨ w.heap.size ≤ i) ∧ (∀ i, vt'.ownBlock = some i → vt.ownBlock = some i ∨ w.heap.size ≤ i) := by
  obtain ⟨c0, c1, c2, c3, f0, f1, f2⟩ := h.cells
  obtain ⟨a, c, hv, _, _⟩ := h.txt.form'
  subst hv
  by_cases hb : bs = []
  · subst hb
    have hp : pend res t.data.toList = res ++ [⟨1, .empty, 0⟩] := pend_some _ _ (tl_ne ht)
    have hown := h.own
    rw [pend_nil] at hown
    obtain ⟨pi, ci, hvi, _, _, _⟩ := hown.its
    subst hvi
    have HO := Lib.hid (hown.call (blw (Below.refl w.heap.size w) (.cells #[.int .i64 1, .string ByteArray.empty, .int .i64 0] 43)))
    have HH := Lib.hid h
    have hsz : base ≤ (w.alloc (.cells #[.int .i64 1, .string ByteArray.empty, .int .i64 0] 43)).heap.size := Nat.le_trans hbw (blw (Below.refl _ w) _).size
    have HP := Lib.hid hp
    clear h hown hp
    go_enter Tryz.func45, Tryz.ntmps45
    go_wp2_with (first
      | (at_builtin; refine wpl_strL _ rfl _ _ rfl base [] _ rfl HS.out.1.txt hsz2 t rfl (by simp; omega) ?_; intro p3 n3 c3 w3 hO3 hg3 hl3; have hs3 := HS.out.1.setText (res' := res) hg3 hO3 (by rw [List.nil_append, HP.out, pend_nil]) hl3; obtain ⟨e0, e1, e3, g0, g1⟩ := HS.out.1.past hg3 HS.out.1.dt)
      | (at_builtin; refine wpl_app eI _ rfl _ _ rfl base res _ rfl HO.out hsz ⟨1, .empty, 0⟩ _ _ rfl (heap_alloc_new _ _) rfl (by omega) (by unfold maxLen; omega) ?_; intro g cap w1 hO1 hg1 hl1; have HS := Lib.hid ((HH.out.alloc (.cells #[.int .i64 1, .string ByteArray.empty, .int .i64 0] 43)).setItems (res' := res ++ [⟨1, .empty, 0⟩]) hg1 (by rw [pend_nil]; exact hO1) (fun i hi => by injection hi with hi; subst hi; rcases hl1 with e | e; exact .inl e; exact .inr (Nat.le_of_eq e.symm))); obtain ⟨d0, d1, d3, k0, k1⟩ := (HH.out.alloc (.cells #[.int .i64 1, .string ByteArray.empty, .int .i64 0] 43)).past hg1 HH.out.di; obtain ⟨y0, y1, y2, y3, z0, z1, z2⟩ := HS.out.1.cells; have hsz2 := Nat.le_trans hsz HS.out.2.size; have HL1 := Lib.hid hl1; clear hl1))
    go_end0
    have z1 : w.heap.size ≤ (w.alloc (.cells #[.int .i64 1, .string ByteArray.empty, .int .i64 0] 43)).heap.size := (blw (Below.refl _ w) _).size
    have z2 := HS.out.2.size
    have li : ∀ i, (Value.slice (some ⟨g, 0, none⟩) (res.length + 1) cap).ownBlock = some i → (Value.slice pi res.length ci).ownBlock = some i ∨ w.heap.size ≤ i := fun i hi => by
      injection hi with hi; subst hi
      rcases HL1.out with e | e
      · exact .inl e
      · exact .inr (by rw [e]; exact z1)
    have lt : ∀ i, (Value.slice p3 n3 c3).ownBlock = some i → (Value.slice a 0 c).ownBlock = some i ∨ w.heap.size ≤ i := fun i hi => (hl3 i hi).imp id (fun e => by omega)
    refine ⟨rfl, _, _, hs3.1, ?_, li, lt⟩
    have hA : Only (dS D T φ (.slice pi res.length ci) (.slice a 0 c)) w _ := (Only.of_below (blw (Below.refl _ w) _)).trans HS.out.2
    exact hA.next hs3.2 (fun i hi h => dS_next li (fun _ h => .inl h) hi h)
  · have hp : ∀ l, pend res (bs ++ l) = pend res bs := fun l => by rw [pend_some res bs hb, pend_some _ _ (by simp [hb])]
    have q : decide (bs.length = 0) = false := by simp [hb]
    have q' : ((bs.length : Int) == 0) = false := by simp [hb]
    have HH := Lib.hid h
    have HP := Lib.hid hp
    clear h hp hb
    go_enter Tryz.func45, Tryz.ntmps45
    go_wp2_with (at_builtin; refine wpl_strL _ rfl _ _ rfl base bs _ rfl HH.out.txt hbw t rfl (by omega) ?_; intro p3 n3 c3' w3 hO3 hg3 hl3; have hs3 := HH.out.setText (res' := res) hg3 hO3 (HP.out _) hl3; obtain ⟨e0, e1, e3, g0, g1⟩ := HH.out.past hg3 HH.out.dt)
    go_end0
    exact ⟨rfl, _, _, hs3.1, hs3.2, fun i hi => .inl hi, hl3⟩
end Go.Proofs.YtaogjccmeajpoaaGreatDoor
namespace Go.Proofs.YtaogjccmeajpoaaGreatDoor
open Go.ChangeShapes Go.WideShapes Go.ChangeAt Go.RowKit
set_option linter.unusedVariables false
set_option linter.unusedSimpArgs false
set_option maxRecDepth 100000

theorem zeroF (w : World) : (zeroValue 22).run Tryz.prog w = .ok (.slice none 0 0) w := by kernel_rfl
theorem und48 : Tryz.prog.underlying 50 = some (.map 3 22) := Tryz.underlying50
theorem vId_inj (a b : Value) (h : (fun v : Value => v) a = (fun v : Value => v) b) : a = b := h
theorem DSt.look {base D T cnt n : Nat} {res : List It} {bs : List UInt8} {G : Int → List It} {φ : Int → Option Value} {vi vt : Value} {w : World} (h : DSt base D T cnt res bs n G φ vi vt w) {a : Int} (ha : (Lit.int .i64 a).wf = true) :
    (Instr.lookup 50 (.map (some T)) (.int .i64 a) false).run Tryz.prog w = .ok (pickS (φ a)) w := h.map.look k3 und48 (zeroF w) (key_int ha)
theorem DSt.tag {base D T cnt n : Nat} {res : List It} {bs : List UInt8} {G : Int → List It} {φ : Int → Option Value} {vi vt : Value} {w w1 w2 : World} (h : DSt base D T cnt res bs n G φ vi vt w) (a : Int) (x : It) {v' : Value}
    (hg1 : w.grownBy w1 (pickS (φ a)).ownBlock) (hown : OwnL 43 3 ienc base (G a ++ [x]) v' w1) (hloc : ∀ i, v'.ownBlock = some i → (pickS (φ a)).ownBlock = some i ∨ w.heap.size ≤ i)
    (hM : MapAt 3 vInt (fun v : Value => v) w2 T (cnt + 1) (fun k => if k = a then some v' else φ k)) (hg2 : w1.drew.grownBy w2 (some T)) :
    DSt base D T (cnt + 1) res bs n (fun k => if k = a then G k ++ [x] else G k) (fun k => if k = a then some v' else φ k) vi vt w2 ∧ Only (dS D T φ vi vt) w w2 ∧ ∀ k i, (pickS (if k = a then some v' else φ k)).ownBlock = some i → (pickS (φ k)).ownBlock = some i ∨ w.heap.size ≤ i := by
  have hlt := h.lt
  have s1 : w.heap.size ≤ w1.heap.size := hg1.size
  have hold : ∀ i, dS D T φ vi vt i → i ≠ T → (pickS (φ a)).ownBlock ≠ some i → w2.heap[i]? = w.heap[i]? := fun i hi h1 h2 => by
    have e1 := hg1.block i (hlt i hi).2 (fun e => h2 e.symm)
    have e2 := hg2.block i (Nat.lt_of_lt_of_le (hlt i hi).2 s1) (fun e => h1 (Option.some.inj e))
    exact e2.trans e1
  have hvT : v'.ownBlock ≠ some T := fun e => by
    rcases hloc T e with h1 | h1
    · exact h.tg a h1
    · have := (hlt T (.inr (.inl rfl))).2; omega
  have hself : OwnL 43 3 ienc base (G a ++ [x]) v' w2 := ownsRow_same hown (fun i hi => hg2.block i (World.ownsRow.lt hown i hi).2 (fun e => hvT (by rw [hi, e])))
  refine ⟨⟨?_, ?_, ?_, hM, fun k => ?_, h.bD, h.bT, fun k j hne i hk hj => ?_, fun k i hk hi => ?_⟩, ?_, fun k i hk => ?_⟩
  · exact (hold D (.inl rfl) (fun e => h.dT e.symm) (h.dg a)).trans h.var
  · exact ownsRow_same h.own (fun i hi => hold i (.inr (.inr (.inl hi))) (fun e => h.ti (by rw [← e]; exact hi)) (fun e => h.gi a i e hi))
  · exact ownsRow_same h.txt (fun i hi => hold i (.inr (.inr (.inr (.inl hi)))) (fun e => h.tt (by rw [← e]; exact hi)) (fun e => h.gt a i e hi))
  · by_cases e : k = a
    · subst e; rw [if_pos rfl, if_pos rfl]; exact hself
    · rw [if_neg e, if_neg e]
      exact ownsRow_same (h.grp k) (fun i hi => hold i (.inr (.inr (.inr (.inr ⟨k, hi⟩)))) (fun e => h.tg k (by rw [← e]; exact hi)) (h.gg k a e i hi))
  · by_cases e : k = a
    · subst e
      rw [if_pos rfl] at hk
      rw [if_neg (fun e => hne e.symm)] at hj
      rcases hloc i hk with h1 | h1
      · exact h.gg k j hne i h1 hj
      · have := (hlt i (.inr (.inr (.inr (.inr ⟨j, hj⟩))))).2; omega
    · rw [if_neg e] at hk
      by_cases e2 : j = a
      · subst e2
        rw [if_pos rfl] at hj
        rcases hloc i hj with h1 | h1
        · exact h.gg k j hne i hk h1
        · have := (hlt i (.inr (.inr (.inr (.inr ⟨k, hk⟩))))).2; omega
      · rw [if_neg e2] at hj
        exact h.gg k j hne i hk hj
  · by_cases e : k = a
    · subst e
      rw [if_pos rfl] at hk
      rcases hloc i hk with h1 | h1
      · exact h.gi k i h1 hi
      · have := (hlt i (.inr (.inr (.inl hi)))).2; omega
    · rw [if_neg e] at hk; exact h.gi k i hk hi
  · have hA : Only (dS D T φ vi vt) w w1 := Only.of_grown hg1 (fun i hi => .inr (.inr (.inr (.inr ⟨a, hi⟩))))
    have hB : Only (dS D T φ vi vt) w1.drew w2 := Only.of_grown hg2 (fun i hi => .inr (.inl (Option.some.inj hi).symm))
    exact (hA.trans (Only.of_below (Below.refl _ w1).drew)).trans hB
  · by_cases e : k = a
    · subst e; rw [if_pos rfl] at hk; exact hloc i hk
    · rw [if_neg e] at hk; exact .inl hk
theorem oks_snoc {l : List It} {x : It} (h : Oks l) (hx : x.ok) : Oks (l ++ [x]) := Oks.of fun y hy => by
  rcases List.mem_append.1 hy with h1 | h1
  · obtain ⟨i, hi, e⟩ := List.mem_iff_getElem.1 h1
    rw [← e]; exact h i hi
  · rw [List.mem_singleton] at h1; rw [h1]; exact hx
set_option maxHeartbeats 3200000 in
theorem dadmits_any (base D T cnt n : Nat) (res : List It) (bs : List UInt8) (G : Int → List It) (φ : Int → Option Value) (vi vt : Value) (x : It) (w : World) (h : DSt base D T cnt res bs n G φ vi vt w) (hbw : base ≤ w.heap.size) (hx : x.ok) (hG : (G x.id).length ≤ 1000) (hcnt : cnt ≤ 2000) (hO : Oks (G x.id)) :
    Calls Tryz.prog 44 #[.pointer (some ⟨D, 0, none⟩), .agg #[.int .i64 x.k, .string x.t, .int .i64 x.id]] w fun e w' => e = .returned (.bool (decide (valE (G x.id ++ [x]) = 0))) ∧ Only (dS D T φ vi vt) w w' ∧
      ∃ φ', DSt base D T (cnt + 1) res bs n (fun a => if a = x.id then G a ++ [x] else G a) φ' vi vt w' ∧ ∀ a i, (pickS (φ' a)).ownBlock = some i → (pickS (φ a)).ownBlock = some i ∨ w.heap.size ≤ i := by
  have h1 := h.alloc (.cells #[.int .i64 x.k, .string x.t, .int .i64 x.id] 43)
  obtain ⟨c0, c1, c2, c3, f0, f1, f2⟩ := h1.cells
  have hlk0 := h1.drew.look hx.id
  have hlk1 := (h1.alloc (.cells #[.int .i64 x.k, .string x.t, .int .i64 x.id] 43)).drew.look hx.id
  obtain ⟨e0, e1, e2, e3, g0, g1, g2⟩ := (h1.alloc (.cells #[.int .i64 x.k, .string x.t, .int .i64 x.id] 43)).cells
  have V := VarB.new w x
  obtain ⟨v0, v1, v2, vl⟩ := V.v
  obtain ⟨y0, y1, y2, yl⟩ := (V.alloc (.cells #[.int .i64 x.k, .string x.t, .int .i64 x.id] 43)).v
  obtain ⟨pg, cg, hpg, _, _, _⟩ := (h1.grp x.id).its
  have hgrp := ((h1.alloc (.cells #[.int .i64 x.k, .string x.t, .int .i64 x.id] 43)).drew.grp x.id)
  rw [hpg] at hlk0 hlk1 hgrp
  have hsz : base ≤ (((w.alloc (.cells #[.int .i64 x.k, .string x.t, .int .i64 x.id] 43)).alloc (.cells #[.int .i64 x.k, .string x.t, .int .i64 x.id] 43)).drew).heap.size := Nat.le_trans hbw (Nat.le_trans (blw (Below.refl _ w) _).size (blw (Below.refl _ (w.alloc (.cells #[.int .i64 x.k, .string x.t, .int .i64 x.id] 43))) _).size)
  have HH := Lib.hid h; have H1 := Lib.hid h1; have HX := Lib.hid hx; have HO := Lib.hid hO; have HGR := Lib.hid hgrp
  clear h h1 hx hO V hgrp
  have HPG := Lib.hid hpg; clear hpg
  go_enter Tryz.func44, Tryz.ntmps44
  go_upto_region 1 with fail
  go_region_law (refine step_app eI _ (by rfl) _ _ (by rfl) base (G x.id) _ (by rfl) HGR.out hsz x _ _ (by rfl) (show _ from heap_new' (w.alloc (.cells #[.int .i64 x.k, .string x.t, .int .i64 x.id] 43)) _ _ (by simp)) (by rfl) (by omega) (by unfold maxLen; omega) ?_; intro g cap w1 hO1 hg1 hl1)
  all_goals
    (have hD := (H1.out.alloc (.cells #[.int .i64 x.k, .string x.t, .int .i64 x.id] 43)).drew
     obtain ⟨d0, d1, d3, k0, k1⟩ := hD.past hg1 (by rw [← HPG.out]; exact hD.dg x.id)
     have hV := (VarB.new w x).alloc (.cells #[.int .i64 x.k, .string x.t, .int .i64 x.id] 43)
     have hneV : (Value.slice pg (G x.id).length cg).ownBlock ≠ some w.heap.size := fun e => by
       have := World.ownsRow.lt (HH.out.grp x.id) w.heap.size (by rw [HPG.out]; exact e)
       omega
     have hV1 : VarB w1 w.heap.size x := (hg1.block w.heap.size (show w.heap.size < _ by simp; omega) (fun e => hneV e.symm)).trans hV
     obtain ⟨z0, z1, z2, zl⟩ := hV1.v
     have hMap : MapAt 3 vInt (fun v : Value => v) w1.drew T cnt φ := hD.map.block (hg1.block T (hD.lt T (.inr (.inl rfl))).2 (fun e => hD.tg x.id (by rw [HPG.out]; exact e.symm)))
     have hkey := key_int HX.out.id
     have HV1 := Lib.hid hV1
     clear hV hneV hV1 v0 v1 v2 vl y0 y1 y2 yl c0 c1 c2 c3 f0 f1 f2 e0 e1 e2 e3 g0 g1 g2 hlk0 hlk1
     go_upto_region 2 with fail
     go_still_tail 7, (by kernel_rfl)
     change wpList _ _ _ _ _ w1.drew
     go_wp2_with (at_mapUpdate; refine wpl_put rfl _ _ _ 50 rfl k3 vInt_inj und48 T rfl hMap (by unfold maxLen; omega) x.id _ rfl rfl hkey ?_; intro w2 hM2 hg2)
     have hs := hD.tag x.id x (by rw [HPG.out]; exact hg1) hO1 (fun i hi => by injection hi with hi; subst hi; rw [HPG.out]; rcases hl1 with e | e; exact .inl e; exact .inr (Nat.le_of_eq e.symm)) hM2 hg2
     have hown2 := hs.1.grp x.id
     rw [if_pos rfl, if_pos rfl] at hown2
     obtain ⟨p5, c5, hv5, hc5, hm5, hI5⟩ := hown2.its
     have hv5' : (Value.slice (some ⟨g, 0, none⟩) ((G x.id).length + 1) cap) = .slice p5 (G x.id ++ [x]).length c5 := hv5
     injection hv5' with i1 i2 i3
     subst i1 i3
     have hvl := validate_any (some ⟨g, 0, none⟩) cap (G x.id ++ [x]) w2 hI5 (oks_snoc HO.out HX.out) hc5 hm5
     rw [show (G x.id ++ [x]).length = (G x.id).length + 1 by simp] at hvl
     have HVL := Lib.hid hvl; have HS := Lib.hid hs
     clear hvl hs hown2 hI5 hv5 i2 hM2 hg2 hMap hO1 hg1 hl1 hD hc5 hm5 d0 d1 d3 k0 k1 z0 z1 z2 zl
     go_wp2_with fail
     refine HVL.out.mono ?_; rintro e w3 ⟨rfl, hb3⟩
     go_wp2_with fail
     go_ret
     exact ⟨ret_bool rfl, ((Only.of_below (((Below.refl _ w).alloc (Nat.le_refl _) _).alloc (by simp) _).drew).trans HS.out.2.1).trans (Only.of_below hb3), _, HS.out.1.call hb3, fun a i hi => (HS.out.2.2 a i hi).imp id (fun e => Nat.le_trans (by simp; omega) e)⟩)
end Go.Proofs.YtaogjccmeajpoaaGreatDoor
namespace Go.Proofs.YtaogjccmeajpoaaGreatDoor
open Go.ChangeShapes Go.WideShapes Go.ChangeAt Go.RowKit
set_option linter.unusedVariables false
set_option linter.unusedSimpArgs false
set_option maxRecDepth 100000

theorem nistag_any (k : Int) (t : ByteArray) (id : Int) (w : World) : Calls Tryz.prog 43 #[.agg #[.int .i64 k, .string t, .int .i64 id]] w fun e w' => e = .returned (.bool (isT k)) ∧ Below w.heap.size w w' := by
  go_enter Tryz.func43, Tryz.ntmps43
  go_wp2
  all_goals go_ret
  all_goals refine ⟨ret_bool ?_, blw (Below.refl _ _) _⟩
  all_goals first | (unfold isT; simp_all; done) | (unfold isT; rw [Bool.eq_iff_iff]; simp_all)
theorem valid_ok {x : It} (hp : properB x = true) (hs : x.t.size ≤ 1024) : x.ok := by
  rcases proper_kinds hp with h | h | h
  · obtain ⟨_, hi⟩ := (proper_text h).1 hp
    exact ⟨by rw [h]; decide, by omega, by rw [hi]; decide⟩
  · obtain ⟨h1, h2, _, _⟩ := isT_proper h hp
    unfold isT at h; simp at h
    exact ⟨wf_i64 (by omega) (by omega), by omega, wf_i64 (by omega) (by omega)⟩
  · rw [slot_proper h] at hp
    simp at hp
    exact ⟨by rw [h]; decide, by omega, by rw [hp.2]; decide⟩
theorem valid_oks {f : List It} (h : valE f = 0) : Oks f := fun i hi => by
  obtain ⟨a, b⟩ := item_small h i hi
  exact valid_ok a b
theorem grp_oks {f : List It} (h : Oks f) (a : Int) : Oks (grpL f a) := Oks.of fun y hy => by
  obtain ⟨i, hi, e⟩ := List.mem_iff_getElem.1 (grp_mem.1 hy).1
  rw [← e]; exact h i hi
/-- What add leaves. -/
def EndAdd (base D T : Nat) (f : List It) (n : Nat) (x : It) (w : World) (e : Ending) (w' : World) : Prop := e = .returned (.int .i64 (addE f n x)) ∧ Below base w w' ∧ (addE f n x = 0 →
  ∃ cnt res bs G φ vi vt, DSt base D T cnt res bs (n + 1) G φ vi vt w' ∧ flush res bs = normS f x ∧ lastText res = false ∧ (∀ a, G a = grpL (normS f x) a) ∧ cnt ≤ n + 1 ∧ bs.length ≤ n + 1)
theorem flush_last {res : List It} {bs : List UInt8} (h : bs = []) : flush res bs = res := by rw [h, flush_nil]
set_option maxHeartbeats 6400000 in
theorem add_any (base D T cnt n : Nat) (res : List It) (bs : List UInt8) (G : Int → List It) (φ : Int → Option Value) (vi vt : Value) (x : It) (w : World) (h : DSt base D T cnt res bs n G φ vi vt w) (hbw : base ≤ w.heap.size) (hx : x.ok)
    (hlt : lastText res = false) (hf : errL [] (flush res bs) = 0) (hG : ∀ a, G a = grpL (flush res bs) a) (hn : n ≤ 1024) (hl : (flush res bs).length ≤ 512) (hlen : lenI (flush res bs) = n) (hcnt : cnt ≤ n) (hbs : bs.length ≤ n) (hk : (x.k = 1 ∧ x.t.size = 1) ∨ (x.k ≠ 1 ∧ properB x = true)) :
    Calls Tryz.prog 22 #[.pointer (some ⟨D, 0, none⟩), .agg #[.int .i64 x.k, .string x.t, .int .i64 x.id]] w (EndAdd base D T (flush res bs) n x w) := by
  have hval : valE (flush res bs) = 0 := valE_of hl (by omega) hf
  have hoks := valid_oks hval
  have hrl : res.length ≤ 1000 := by
    have : res.length ≤ (flush res bs).length := flush_len res bs
    omega
  have hti := fun W => nistag_any x.k x.t x.id W
  have HTI := Lib.hid hti; clear hti
  have h1 := h.alloc (.cells #[.int .i64 x.k, .string x.t, .int .i64 x.id] 43)
  have V := VarB.new w x
  obtain ⟨v0, v1, v2, vl⟩ := V.v
  have hB0 : Below base w (w.alloc (.cells #[.int .i64 x.k, .string x.t, .int .i64 x.id] 43)) := (Below.refl base w).alloc hbw _
  obtain ⟨NL, hNL⟩ : ∃ m, (normS (flush res bs) x).length = m := ⟨_, rfl⟩
  have HNL := Lib.hid hNL; clear hNL
  have hlow : ∀ i, dS D T φ vi vt i → base ≤ i := fun i hi => (h.lt i hi).1
  rcases hk with ⟨hk1, hs1⟩ | ⟨hk1, hp⟩
  · have hadd : addE (flush res bs) n x = if 512 < NL ∨ 1024 < n + 1 then 3 else 0 := by
      unfold addE; rw [if_neg (fun hh => hh.1 hk1), HNL.out]
    have hat := fun W hD hW => addtext_any base D T cnt n res bs G φ vi vt x.t W hD hrl (by omega) (by omega) (by omega) hW
    have hfl : flush res (bs ++ x.t.data.toList) = normS (flush res bs) x := (norm_text res bs x hlt hk1).symm
    have hgr : ∀ a, G a = grpL (normS (flush res bs) x) a := fun a => by rw [hG, grp_text _ _ _ hk1]
    have q0 : isT x.k = false := by rw [hk1]; rfl
    have q9 : (x.k == 1) = true := by rw [hk1]; rfl
    rw [q0] at HTI
    have hsz : (bs ++ x.t.data.toList).length ≤ n + 1 := by
      have : x.t.data.toList.length = x.t.size := by simp
      rw [List.length_append]; omega
    have HLT := Lib.hid hlt; have HADD := Lib.hid hadd; have HAT := Lib.hid hat; have HFL := Lib.hid hfl; have HGR := Lib.hid hgr; have H1 := Lib.hid h1; have HSZ := Lib.hid hsz; have HLOW := Lib.hid hlow; have HB0 := Lib.hid hB0; have HV := Lib.hid V
    clear hadd hat hfl hgr h1 hsz h hf hG hl hlen hval hoks hk1 hs1 q0 hlow hB0 V hlt hx
    go_enter Tryz.func22, Tryz.ntmps22
    go_wp2_with fail
    refine (HTI.out _).mono ?_; rintro e w1 ⟨rfl, hb1⟩
    have V1 : VarB w1 w.heap.size x := (hb1.block _ HV.out.v.lt).trans HV.out
    clear v0 v1 v2 vl
    obtain ⟨v0, v1, v2, vl⟩ := V1.v
    go_wp2_with fail
    refine (HAT.out _ (H1.out.call hb1) (Nat.le_trans hbw (Nat.le_trans HB0.out.size hb1.size))).mono ?_
    rintro e w2 ⟨rfl, vi', vt', hD2, hO2, _, _⟩
    have HB := Lib.hid ((HB0.out.trans (hb1.mono (Nat.le_trans hbw HB0.out.size))).trans (hO2.below base (Nat.le_trans hbw (Nat.le_trans HB0.out.size hb1.size)) HLOW.out))
    have HS := Lib.hid hD2
    clear hO2 hD2 v0 v1 v2 vl
    obtain ⟨p9, c9, hv9, _, _, _⟩ := HS.out.own.its
    rw [show (pend res (bs ++ x.t.data.toList)).length = NL by rw [pend_flush, HFL.out, HNL.out]] at hv9
    subst hv9
    obtain ⟨y0, y1, y2, y3, z0, z1, z2⟩ := HS.out.cells
    have HN2 := Lib.hid (HS.out.setN (n + 1))
    have hB9 : Below base _ _ := HN2.out.2.below base (Nat.le_trans hbw HB.out.size) (fun i hi => (HS.out.lt i hi).1)
    obtain ⟨x0, x1, x2, x3, _, _, _⟩ := HN2.out.1.cells
    rw [show (((n + 1 : Nat)) : Int) = (n : Int) + 1 by simp] at x0 x1 x2 x3 hB9
    by_cases c1 : 512 < NL
    · have q1 : decide (512 < NL) = true := decide_eq_true c1
      have q1' : decide ((512 : Int) < (NL : Int)) = true := decide_eq_true (by omega)
      have hE := HADD.out
      rw [if_pos (.inl c1)] at hE
      have HE := Lib.hid hE
      clear hE c1
      go_wp2_with fail
      go_ret
      exact ⟨by rw [HE.out]; rfl, HB.out.trans hB9, fun h0 => by rw [HE.out] at h0; cases h0⟩
    · have q1 : decide (512 < NL) = false := decide_eq_false c1
      have q1' : decide ((512 : Int) < (NL : Int)) = false := decide_eq_false (by omega)
      by_cases c2 : 1024 < n + 1
      · have q2 : decide ((1024 : Int) < (n : Int) + 1) = true := decide_eq_true (by omega)
        have q2' : decide (1024 < n + 1) = true := decide_eq_true c2
        have hE := HADD.out
        rw [if_pos (.inr c2)] at hE
        have HE := Lib.hid hE
        clear hE c1 c2
        go_wp2_with fail
        go_ret
        exact ⟨by rw [HE.out]; rfl, HB.out.trans hB9, fun h0 => by rw [HE.out] at h0; cases h0⟩
      · have q2 : decide ((1024 : Int) < (n : Int) + 1) = false := decide_eq_false (by omega)
        have q2' : decide (1024 < n + 1) = false := decide_eq_false c2
        have hE := HADD.out
        rw [if_neg (by omega)] at hE
        have HE := Lib.hid hE
        clear hE c1 c2
        go_wp2_with fail
        go_ret
        exact ⟨by rw [HE.out]; rfl, HB.out.trans hB9, fun _ => ⟨_, res, (bs ++ x.t.data.toList), _, _, _, _, HN2.out.1, HFL.out, HLT.out, HGR.out, (by omega), HSZ.out⟩⟩
  · have q9 : (x.k == 1) = false := by simpa using hk1
    have hno := norm_other (flush res bs) x hk1
    have hlen1 : NL = (flush res bs).length + 1 := by rw [← HNL.out, hno]; simp
    have hlast : lastText (flush res bs ++ [x]) = false := lastText_one _ _ hk1
    have het := fun cnt W (G : Int → List It) φ hD => endtext_any base D T cnt n res bs G φ vi vt W hD hrl
    have HET := Lib.hid het; clear het
    have hfl6 : (flush res bs).length ≤ 512 := hl
    cases ht : isT x.k
    · have he0 := err_slot (flush res bs) x hp hk1 ht
      have hadd : addE (flush res bs) n x = if 512 < NL ∨ 1024 < n + 1 then 3 else 0 := by
        unfold addE; rw [if_neg (fun hh => hh.2 he0), HNL.out]
      have hgr : ∀ a, G a = grpL (normS (flush res bs) x) a := fun a => by rw [hG, grp_step, if_neg (by rw [ht]; simp), List.append_nil]
      rw [ht] at HTI
      rw [hno] at hgr
      have hfl : flush (flush res bs ++ [x]) [] = normS (flush res bs) x := by rw [flush_nil, hno]
      have HADD := Lib.hid hadd; have HFL := Lib.hid hfl; have H1 := Lib.hid h1; have HLT := Lib.hid hlast; have HLOW := Lib.hid hlow; have HB0 := Lib.hid hB0; have HV := Lib.hid V; have HH := Lib.hid h
      rw [← hno] at hgr
      have HGR := Lib.hid hgr
      clear hadd hfl hgr h1 hlast hlow hB0 V h hf hG hl hlen hval hoks hk1 hp ht he0 hno hlt hx
      generalize flush res bs = f at *
      subst hlen1
      have hl6 : f.length ≤ 512 := hfl6
      go_enter Tryz.func22, Tryz.ntmps22
      go_wp2_with fail
      refine (HTI.out _).mono ?_; rintro e w1 ⟨rfl, hb1⟩
      have V1 : VarB w1 w.heap.size x := (hb1.block _ HV.out.v.lt).trans HV.out
      clear v0 v1 v2 vl
      obtain ⟨v0, v1, v2, vl⟩ := V1.v
      go_wp2_with fail
      refine (HET.out _ _ _ _ (H1.out.call hb1)).mono ?_
      rintro e w3 ⟨rfl, vt', hD3, hO3, _⟩
      have HB3 := Lib.hid ((HB0.out.trans (hb1.mono (Nat.le_trans hbw HB0.out.size))).trans (hO3.below base (Nat.le_trans hbw (Nat.le_trans HB0.out.size hb1.size)) HLOW.out))
      have HVV : Hid (VarB w3 w.heap.size x) := Lib.hid ((hO3.block _ V1.v.lt (fun hS => by have := (HH.out.lt _ hS).2; omega)).trans V1)
      have HDD := Lib.hid hD3
      clear hD3 hO3 v0 v1 v2 vl V1
      have hq := HDD.out.cells
      obtain ⟨c0, c1, c2, c3, f0, f1, f2⟩ := hq
      obtain ⟨e0, e1, e2, e3, g0, g1, g2⟩ := (HDD.out.alloc (.cells #[.int .i64 x.k, .string x.t, .int .i64 x.id] 43)).cells
      obtain ⟨y0, y1, y2, yl⟩ := HVV.out.v
      obtain ⟨t0, t1, t2, tl⟩ := (HVV.out.alloc (.cells #[.int .i64 x.k, .string x.t, .int .i64 x.id] 43)).v
      have hown6 := (HDD.out.alloc (.cells #[.int .i64 x.k, .string x.t, .int .i64 x.id] 43)).drew.own
      rw [pend_nil] at hown6
      obtain ⟨p6, c6, hv6, _, _, _⟩ := hown6.its
      subst hv6
      have HO6 := Lib.hid hown6
      clear hown6
      have hsz6 : base ≤ ((w3.alloc (.cells #[.int .i64 x.k, .string x.t, .int .i64 x.id] 43)).drew).heap.size := Nat.le_trans hbw (Nat.le_trans HB3.out.size (blw (Below.refl _ w3) _).size)
      go_upto_region 6 with fail
      go_region_law (refine step_app eI _ (by rfl) _ _ (by rfl) base f _ (by rfl) HO6.out hsz6 x _ _ (by rfl) (heap_alloc_new w3 (.cells #[.int .i64 x.k, .string x.t, .int .i64 x.id] 43)) (by rfl) (by omega) (by unfold maxLen; omega) ?_; intro g cap w5 hO5 hg5 hl5; obtain ⟨d0, d1, d3, k0, k1⟩ := (HDD.out.alloc (.cells #[.int .i64 x.k, .string x.t, .int .i64 x.id] 43)).drew.past hg5 (HDD.out.alloc (.cells #[.int .i64 x.k, .string x.t, .int .i64 x.id] 43)).drew.di)
      all_goals
        (have hs5 := (HDD.out.alloc (.cells #[.int .i64 x.k, .string x.t, .int .i64 x.id] 43)).drew.setItems (res' := f ++ [x]) hg5 (by rw [pend_nil]; exact hO5) (fun i hi => by injection hi with hi; subst hi; rcases hl5 with e | e; exact .inl e; exact .inr (Nat.le_of_eq e.symm))
         have HS := Lib.hid hs5.1
         have HB := Lib.hid (((HB3.out.alloc (Nat.le_trans hbw HB3.out.size) (.cells #[.int .i64 x.k, .string x.t, .int .i64 x.id] 43)).drew).trans (hs5.2.below base hsz6 (fun i hi => ((HDD.out.alloc (.cells #[.int .i64 x.k, .string x.t, .int .i64 x.id] 43)).drew.lt i hi).1)))
         clear hs5 hO5 hg5 hl5 d0 d1 d3 k0 k1 y0 y1 y2 yl t0 t1 t2 tl c0 c1 c2 c3 f0 f1 f2 e0 e1 e2 e3 g0 g1 g2
         obtain ⟨y0, y1, y2, y3, z0, z1, z2⟩ := HS.out.cells
         have HN2 := Lib.hid (HS.out.setN (n + 1))
         have hB9 : Below base _ _ := HN2.out.2.below base (Nat.le_trans hbw HB.out.size) (fun i hi => (HS.out.lt i hi).1)
         obtain ⟨x0, x1, x2, x3, _, _, _⟩ := HN2.out.1.cells
         rw [show (((n + 1 : Nat)) : Int) = (n : Int) + 1 by simp] at x0 x1 x2 x3 hB9
         by_cases c1 : 512 < (f.length + 1)
         · have q1 : decide (512 < (f.length + 1)) = true := decide_eq_true c1
           have q1' : decide ((512 : Int) < ((f.length : Int) + 1)) = true := decide_eq_true (by omega)
           have hE := HADD.out
           rw [if_pos (.inl c1)] at hE
           have HE := Lib.hid hE
           clear hE c1
           go_wp2_with fail
           go_ret
           exact ⟨by rw [HE.out]; rfl, HB.out.trans hB9, fun h0 => by rw [HE.out] at h0; cases h0⟩
         · have q1 : decide (512 < (f.length + 1)) = false := decide_eq_false c1
           have q1' : decide ((512 : Int) < ((f.length : Int) + 1)) = false := decide_eq_false (by omega)
           by_cases c2 : 1024 < n + 1
           · have q2 : decide ((1024 : Int) < (n : Int) + 1) = true := decide_eq_true (by omega)
             have q2' : decide (1024 < n + 1) = true := decide_eq_true c2
             have hE := HADD.out
             rw [if_pos (.inr c2)] at hE
             have HE := Lib.hid hE
             clear hE c1 c2
             go_wp2_with fail
             go_ret
             exact ⟨by rw [HE.out]; rfl, HB.out.trans hB9, fun h0 => by rw [HE.out] at h0; cases h0⟩
           · have q2 : decide ((1024 : Int) < (n : Int) + 1) = false := decide_eq_false (by omega)
             have q2' : decide (1024 < n + 1) = false := decide_eq_false c2
             have hE := HADD.out
             rw [if_neg (by omega)] at hE
             have HE := Lib.hid hE
             clear hE c1 c2
             go_wp2_with fail
             go_ret
             exact ⟨by rw [HE.out]; rfl, HB.out.trans hB9, fun _ => ⟨_, (f ++ [x]), [], _, _, _, _, HN2.out.1, HFL.out, HLT.out, HGR.out, (by omega), (by simp)⟩⟩)

    · have hbt := err_tag (flush res bs) x hp ht
      have hgf := grp_fits (flush res bs) x hf hp ht
      have hda := fun W hD hW => dadmits_any base D T cnt n res bs G φ vi vt x W hD hW hx (by rw [hG]; have := grp_len (flush res bs) x.id hf; omega) (by omega) (by rw [hG]; exact grp_oks hoks x.id)
      have hv : decide (valE (G x.id ++ [x]) = 0) = !tagBad (flush res bs) x := by
        rw [hG, hgf]; cases tagBad (flush res bs) x <;> rfl
      rw [hv] at hda
      clear hgf hv
      rw [ht] at HTI
      cases tb : tagBad (flush res bs) x
      · rw [tb] at hda hbt
        have he0 : errAt (flush res bs) x = 0 := hbt
        have hadd : addE (flush res bs) n x = if 512 < NL ∨ 1024 < n + 1 then 3 else 0 := by
          unfold addE; rw [if_neg (fun hh => hh.2 he0), HNL.out]
        have hgr : ∀ a, (if a = x.id then G a ++ [x] else G a) = grpL (normS (flush res bs) x) a := fun a => by
          rw [grp_step, hG]
          by_cases e : a = x.id
          · rw [if_pos e, if_pos ⟨ht, e.symm⟩]
          · rw [if_neg e, if_neg (fun h => e h.2.symm), List.append_nil]
        have hfl : flush (flush res bs ++ [x]) [] = normS (flush res bs) x := by rw [flush_nil, hno]
        have HDA := Lib.hid hda
        have HADD := Lib.hid hadd; have HFL := Lib.hid hfl; have H1 := Lib.hid h1; have HLT := Lib.hid hlast; have HLOW := Lib.hid hlow; have HB0 := Lib.hid hB0; have HV := Lib.hid V; have HH := Lib.hid h
        have HGR := Lib.hid hgr
        clear hadd hfl hgr h1 hlast hlow hB0 V h hf hG hl hlen hval hoks hk1 hp ht he0 hno hlt hx hbt tb hda
        generalize flush res bs = f at *
        subst hlen1
        have hl6 : f.length ≤ 512 := hfl6
        go_enter Tryz.func22, Tryz.ntmps22
        go_wp2_with fail
        refine (HTI.out _).mono ?_; rintro e w1 ⟨rfl, hb1⟩
        have V1 : VarB w1 w.heap.size x := (hb1.block _ HV.out.v.lt).trans HV.out
        clear v0 v1 v2 vl
        obtain ⟨v0, v1, v2, vl⟩ := V1.v
        go_wp2_with fail
        refine (HDA.out _ (H1.out.call hb1) (Nat.le_trans hbw (Nat.le_trans HB0.out.size hb1.size))).mono ?_
        rintro e w2 ⟨rfl, hO2, φ', hD2, hφ⟩
        have V2 : VarB w2 w.heap.size x := (hO2.block _ V1.v.lt (fun hS => by have := (HH.out.lt _ hS).2; omega)).trans V1
        have HB2 := Lib.hid ((HB0.out.trans (hb1.mono (Nat.le_trans hbw HB0.out.size))).trans (hO2.below base (Nat.le_trans hbw (Nat.le_trans HB0.out.size hb1.size)) HLOW.out))
        have HNS : Hid (¬ dS D T φ' vi vt w.heap.size) := Lib.hid (fun hS => by
          have hS' : dS D T φ vi vt w.heap.size := by
            rcases hS with h1 | h1 | h1 | h1 | ⟨a, h1⟩
            · exact .inl h1
            · exact .inr (.inl h1)
            · exact .inr (.inr (.inl h1))
            · exact .inr (.inr (.inr (.inl h1)))
            · rcases hφ a _ h1 with h2 | h2
              · exact .inr (.inr (.inr (.inr ⟨a, h2⟩)))
              · omega
          have := (HH.out.lt _ hS').2; omega)
        have HD2 := Lib.hid hD2
        clear hD2 hφ hO2 v0 v1 v2 vl V1
        obtain ⟨v0, v1, v2, vl⟩ := V2.v
        go_wp2_with fail
        refine (HET.out _ _ _ _ HD2.out).mono ?_
        rintro e w3 ⟨rfl, vt', hD3, hO3, _⟩
        have HB3 := Lib.hid (HB2.out.trans (hO3.below base (Nat.le_trans hbw HB2.out.size) (fun i hi => (HD2.out.lt i hi).1)))
        have HVV : Hid (VarB w3 w.heap.size x) := Lib.hid ((hO3.block _ V2.v.lt HNS.out).trans V2)
        have HDD := Lib.hid hD3
        clear hD3 hO3 v0 v1 v2 vl V2
        have hq := HDD.out.cells
        obtain ⟨c0, c1, c2, c3, f0, f1, f2⟩ := hq
        obtain ⟨e0, e1, e2, e3, g0, g1, g2⟩ := (HDD.out.alloc (.cells #[.int .i64 x.k, .string x.t, .int .i64 x.id] 43)).cells
        obtain ⟨y0, y1, y2, yl⟩ := HVV.out.v
        obtain ⟨t0, t1, t2, tl⟩ := (HVV.out.alloc (.cells #[.int .i64 x.k, .string x.t, .int .i64 x.id] 43)).v
        have hown6 := (HDD.out.alloc (.cells #[.int .i64 x.k, .string x.t, .int .i64 x.id] 43)).drew.own
        rw [pend_nil] at hown6
        obtain ⟨p6, c6, hv6, _, _, _⟩ := hown6.its
        subst hv6
        have HO6 := Lib.hid hown6
        clear hown6
        have hsz6 : base ≤ ((w3.alloc (.cells #[.int .i64 x.k, .string x.t, .int .i64 x.id] 43)).drew).heap.size := Nat.le_trans hbw (Nat.le_trans HB3.out.size (blw (Below.refl _ w3) _).size)
        go_upto_region 6 with fail
        go_region_law (refine step_app eI _ (by rfl) _ _ (by rfl) base f _ (by rfl) HO6.out hsz6 x _ _ (by rfl) (heap_alloc_new w3 (.cells #[.int .i64 x.k, .string x.t, .int .i64 x.id] 43)) (by rfl) (by omega) (by unfold maxLen; omega) ?_; intro g cap w5 hO5 hg5 hl5; obtain ⟨d0, d1, d3, k0, k1⟩ := (HDD.out.alloc (.cells #[.int .i64 x.k, .string x.t, .int .i64 x.id] 43)).drew.past hg5 (HDD.out.alloc (.cells #[.int .i64 x.k, .string x.t, .int .i64 x.id] 43)).drew.di)
        all_goals
          (have hs5 := (HDD.out.alloc (.cells #[.int .i64 x.k, .string x.t, .int .i64 x.id] 43)).drew.setItems (res' := f ++ [x]) hg5 (by rw [pend_nil]; exact hO5) (fun i hi => by injection hi with hi; subst hi; rcases hl5 with e | e; exact .inl e; exact .inr (Nat.le_of_eq e.symm))
           have HS := Lib.hid hs5.1
           have HB := Lib.hid (((HB3.out.alloc (Nat.le_trans hbw HB3.out.size) (.cells #[.int .i64 x.k, .string x.t, .int .i64 x.id] 43)).drew).trans (hs5.2.below base hsz6 (fun i hi => ((HDD.out.alloc (.cells #[.int .i64 x.k, .string x.t, .int .i64 x.id] 43)).drew.lt i hi).1)))
           clear hs5 hO5 hg5 hl5 d0 d1 d3 k0 k1 y0 y1 y2 yl t0 t1 t2 tl c0 c1 c2 c3 f0 f1 f2 e0 e1 e2 e3 g0 g1 g2
           obtain ⟨y0, y1, y2, y3, z0, z1, z2⟩ := HS.out.cells
           have HN2 := Lib.hid (HS.out.setN (n + 1))
           have hB9 : Below base _ _ := HN2.out.2.below base (Nat.le_trans hbw HB.out.size) (fun i hi => (HS.out.lt i hi).1)
           obtain ⟨x0, x1, x2, x3, _, _, _⟩ := HN2.out.1.cells
           rw [show (((n + 1 : Nat)) : Int) = (n : Int) + 1 by simp] at x0 x1 x2 x3 hB9
           by_cases c1 : 512 < (f.length + 1)
           · have q1 : decide (512 < (f.length + 1)) = true := decide_eq_true c1
             have q1' : decide ((512 : Int) < ((f.length : Int) + 1)) = true := decide_eq_true (by omega)
             have hE := HADD.out
             rw [if_pos (.inl c1)] at hE
             have HE := Lib.hid hE
             clear hE c1
             go_wp2_with fail
             go_ret
             exact ⟨by rw [HE.out]; rfl, HB.out.trans hB9, fun h0 => by rw [HE.out] at h0; cases h0⟩
           · have q1 : decide (512 < (f.length + 1)) = false := decide_eq_false c1
             have q1' : decide ((512 : Int) < ((f.length : Int) + 1)) = false := decide_eq_false (by omega)
             by_cases c2 : 1024 < n + 1
             · have q2 : decide ((1024 : Int) < (n : Int) + 1) = true := decide_eq_true (by omega)
               have q2' : decide (1024 < n + 1) = true := decide_eq_true c2
               have hE := HADD.out
               rw [if_pos (.inr c2)] at hE
               have HE := Lib.hid hE
               clear hE c1 c2
               go_wp2_with fail
               go_ret
               exact ⟨by rw [HE.out]; rfl, HB.out.trans hB9, fun h0 => by rw [HE.out] at h0; cases h0⟩
             · have q2 : decide ((1024 : Int) < (n : Int) + 1) = false := decide_eq_false (by omega)
               have q2' : decide (1024 < n + 1) = false := decide_eq_false c2
               have hE := HADD.out
               rw [if_neg (by omega)] at hE
               have HE := Lib.hid hE
               clear hE c1 c2
               go_wp2_with fail
               go_ret
               exact ⟨by rw [HE.out]; rfl, HB.out.trans hB9, fun _ => ⟨_, (f ++ [x]), [], _, _, _, _, HN2.out.1, HFL.out, HLT.out, HGR.out, (by omega), (by simp)⟩⟩)

      · rw [tb] at hda hbt
        have he7 : errAt (flush res bs) x = 7 := hbt
        have hadd : addE (flush res bs) n x = 7 := by
          unfold addE; rw [if_pos ⟨hk1, by rw [he7]; decide⟩, he7]
        have HDA := Lib.hid hda
        have HADD := Lib.hid hadd; have H1 := Lib.hid h1; have HLOW := Lib.hid hlow; have HB0 := Lib.hid hB0; have HV := Lib.hid V; have HH := Lib.hid h
        clear hadd h1 hlast hlow hB0 V h hf hG hl hlen hval hoks hk1 hp ht he7 hno hlt hx hbt tb hda
        go_enter Tryz.func22, Tryz.ntmps22
        go_wp2_with fail
        refine (HTI.out _).mono ?_; rintro e w1 ⟨rfl, hb1⟩
        have V1 : VarB w1 w.heap.size x := (hb1.block _ HV.out.v.lt).trans HV.out
        clear v0 v1 v2 vl
        obtain ⟨v0, v1, v2, vl⟩ := V1.v
        go_wp2_with fail
        refine (HDA.out _ (H1.out.call hb1) (Nat.le_trans hbw (Nat.le_trans HB0.out.size hb1.size))).mono ?_
        rintro e w2 ⟨rfl, hO2, φ', hD2, hφ⟩
        have HB2 := Lib.hid ((HB0.out.trans (hb1.mono (Nat.le_trans hbw HB0.out.size))).trans (hO2.below base (Nat.le_trans hbw (Nat.le_trans HB0.out.size hb1.size)) HLOW.out))
        clear hD2 hφ hO2 v0 v1 v2 vl V1
        go_wp2_with fail
        go_ret
        exact ⟨by rw [HADD.out]; rfl, HB2.out, fun h0 => by rw [HADD.out] at h0; cases h0⟩
end Go.Proofs.YtaogjccmeajpoaaGreatDoor
namespace Go.Proofs.YtaogjccmeajpoaaGreatDoor
open Go.ChangeShapes Go.WideShapes Go.ChangeAt Go.RowKit
set_option linter.unusedVariables false
set_option linter.unusedSimpArgs false
set_option maxRecDepth 100000

/-- What Parse answers. -/
def EndP (R : List It × Nat × Int) (w : World) (e : Ending) (w' : World) : Prop := ∃ p c, e = .returned (.tuple #[.slice p R.1.length c, .int .i64 R.2.1, .int .i64 R.2.2]) ∧ R.1.length ≤ c ∧ c ≤ maxLen ∧ Its w' p R.1 ∧ Below w.heap.size w w'
/-- What holds at each round's head of Parse. -/
structure PRel (S : List UInt8) (w : World) (D T p cnt : Nat) (res : List It) (bs : List UInt8) (n : Nat) (G : Int → List It) (φ : Int → Option Value) (vi vt : Value) (wr : World) : Prop where
  le : p ≤ S.length
  dst : DSt w.heap.size D T cnt res bs n G φ vi vt wr
  last : lastText res = false
  err : errL [] (flush res bs) = 0
  grp : ∀ a, G a = grpL (flush res bs) a
  n1 : n ≤ 1024
  l1 : (flush res bs).length ≤ 512
  len : lenI (flush res bs) = n
  cn : cnt ≤ n
  bn : bs.length ≤ n
  below : Below w.heap.size w wr
  eq : parseN S = go (flush res bs) n p (S.drop p)
theorem elem_ok {l : List UInt8} {x : It} {k : Nat} (h : rdE l = some (x, k)) : x.ok ∧ ((x.k = 1 ∧ x.t.size = 1) ∨ (x.k ≠ 1 ∧ properB x = true)) := by
  obtain ⟨_, hw, hp, ht⟩ := rd_take h
  by_cases hk : x.k = 1
  · obtain ⟨e, hs⟩ := ht hk
    refine ⟨?_, .inl ⟨hk, hs⟩⟩
    rw [e]
    exact ⟨(show (Lit.int .i64 1).wf = true by decide), by show x.t.size ≤ _; omega, (show (Lit.int .i64 0).wf = true by decide)⟩
  · exact ⟨valid_ok (hp hk) (txt_small (n := 0) (hp hk) (by omega)), .inr ⟨hk, hp hk⟩⟩
theorem PRel.next {S : List UInt8} {w : World} {D T p cnt : Nat} {res : List It} {bs : List UInt8} {n : Nat} {G : Int → List It} {φ : Int → Option Value} {vi vt : Value} {wr : World} (h : PRel S w D T p cnt res bs n G φ vi vt wr) (hp : p < S.length) {x : It} {k : Nat} (hr : rdE (S.drop p) = some (x, k))
    (hadd : addE (flush res bs) n x = 0) {cnt' : Nat} {res' : List It} {bs' : List UInt8} {G' : Int → List It} {φ' : Int → Option Value} {vi' vt' : Value} {w' : World} (hb : Below w.heap.size w w')
    (hd : DSt w.heap.size D T cnt' res' bs' (n + 1) G' φ' vi' vt' w') (hf : flush res' bs' = normS (flush res bs) x) (hl : lastText res' = false) (hg : ∀ a, G' a = grpL (normS (flush res bs) x) a) (hc : cnt' ≤ n + 1) (hbn : bs'.length ≤ n + 1) :
    PRel S w D T (p + k) cnt' res' bs' (n + 1) G' φ' vi' vt' w' := by
  have hkp := rd_pos hr
  obtain ⟨_, hw, hpr, ht⟩ := rd_take hr
  have hs : S.drop p ≠ [] := fun e => by rw [e] at hr; cases hr
  unfold addE at hadd
  by_cases h1 : x.k ≠ 1 ∧ errAt (flush res bs) x ≠ 0
  · rw [if_pos h1] at hadd; exact absurd hadd h1.2
  · rw [if_neg h1] at hadd
    by_cases h2 : 512 < (normS (flush res bs) x).length ∨ 1024 < n + 1
    · rw [if_pos h2] at hadd; cases hadd
    · have h1' : x.k = 1 ∨ errAt (flush res bs) x = 0 := by
        by_cases hk : x.k = 1
        · exact .inl hk
        · by_cases he : errAt (flush res bs) x = 0
          · exact .inr he
          · exact absurd ⟨hk, he⟩ h1
      have hgo := go_more (flush res bs) n p (S.drop p) hs hr h1' (by omega) (by omega)
      rw [List.length_drop] at hkp
      refine ⟨by omega, hd, hl, ?_, fun a => by rw [hg, hf], by omega, by rw [hf]; omega, ?_, hc, hbn, hb, ?_⟩
      · rw [hf]; exact err_step _ x h.err (fun hk => (ht hk).1) (fun hk => ⟨hpr hk, h1'.resolve_left hk⟩)
      · rw [hf, len_step, hw, h.len]
      · rw [h.eq, hgo, hf, List.drop_drop]
theorem go_err {S : List UInt8} {f : List It} {n p : Nat} {x : It} {k : Nat} {z : Int} (hr : rdE (S.drop p) = some (x, k)) (hadd : addE f n x = z) (hz : z ≠ 0) : go f n p (S.drop p) = ([], p, z) := by
  have hs : S.drop p ≠ [] := fun e => by rw [e] at hr; cases hr
  unfold addE at hadd
  by_cases h1 : x.k ≠ 1 ∧ errAt f x ≠ 0
  · rw [if_pos h1] at hadd
    rw [go_bad f n p _ hs hr h1.1 h1.2, hadd]
  · rw [if_neg h1] at hadd
    by_cases h2 : 512 < (normS f x).length ∨ 1024 < n + 1
    · rw [if_pos h2] at hadd
      have h1' : x.k = 1 ∨ errAt f x = 0 := by
        by_cases hk : x.k = 1
        · exact .inl hk
        · by_cases he : errAt f x = 0
          · exact .inr he
          · exact absurd ⟨hk, he⟩ h1
      rw [go_full f n p _ hs hr h1' h2, hadd]
    · rw [if_neg h2] at hadd; exact absurd hadd.symm hz

set_option maxHeartbeats 6400000 in
theorem parse_any (s : ByteArray) (w : World) (hs : s.size ≤ 1000000000000) (hE : Env w.heap.size w) : Calls Tryz.prog 13 #[.string s] w (EndP (parseN s.data.toList) w) := by
  have hsl : s.data.toList.length = s.size := by simp
  have hmm := @run_makeMap Tryz.prog
  obtain ⟨R, hR⟩ : ∃ R, parseN s.data.toList = R := ⟨_, rfl⟩
  have hno : ∀ (p : Nat) (z : Int) w', R = ([], p, z) → Below w.heap.size w w' → EndP R w (.returned (.tuple #[.slice none 0 0, .int .i64 p, .int .i64 z])) w' := fun p z w' h hb => ⟨none, 0, by rw [h]; rfl, by rw [h]; exact Nat.le_refl _, Nat.zero_le _, by rw [h]; exact Its.nil _ _, hb⟩
  have hel := fun p (hp : p < s.size) W hW hEW => readelement_any (s.extract p s.size) (s.data.toList.drop p) w.heap.size W (by rw [extract_drop, bsL_list]) (fun e => by have := congrArg List.length e; simp at this; omega) (by simp; omega) hW hEW
  have HEL := Lib.hid hel; have HNO := Lib.hid hno; have HE := Lib.hid hE
  rw [hR]
  have HR := Lib.hid hR
  clear hel hno hE hR
  have hstart : PRel s.data.toList w (w.heap.size + 1) w.heap.size 0 0 [] [] 0 (fun _ => []) (fun _ => none) (.slice none 0 0) (.slice none 0 0) ((w.alloc (.map #[] 0)).alloc (.cells #[.slice none 0 0, .slice none 0 0, .int .i64 0, .map (some w.heap.size)] 52)) := by
    refine ⟨Nat.zero_le _, ⟨?_, ?_, OwB.nil _ _, ?_, fun a => OwnL.nil _ _, by omega, Nat.le_refl _, fun a b hne i hi => (by cases hi), fun a i hi => (by cases hi)⟩, rfl, rfl, fun a => rfl, by omega, by simp [flush], rfl, Nat.le_refl _, Nat.le_refl _, blw (blw (Below.refl _ _) _) _, by rw [flush_nil]; rfl⟩
    · exact heap_new2 w _ _
    · rw [pend_nil]; exact OwnL.nil _ _
    · exact (MapAt.made w).alloc _
  have HST := Lib.hid hstart; clear hstart
  go_enter Tryz.func13, Tryz.ntmps13
  go_wp2_with fail
  clear hmm
  go_loopw [3] (fun at_ wr => ∃ (p cnt : Nat) (res : List It) (bs : List UInt8) (n : Nat) (G : Int → List It) (φ : Int → Option Value) (vi vt : Value), at_ = .int .i64 p ∧ PRel s.data.toList w (w.heap.size + 1) w.heap.size p cnt res bs n G φ vi vt wr) (fun at_ _ => s.size - (intOf at_).toNat)
  case atStart => exact ⟨0, _, _, _, _, _, _, _, _, rfl, HST.out⟩
  case round =>
    obtain ⟨p, cnt, res, bs, n, G, φ, vi, vt, rfl, hP⟩ := hrel
    have hple := hP.le
    rw [hsl] at hple
    by_cases hlt : p < s.size
    · have hpos : (0 : Int) ≤ (p : Int) := by omega
      have hp2 : (p : Int) ≤ (s.size : Int) := by omega
      have HP := Lib.hid hP
      clear hP hsl
      go_wp2_with fail
      refine (HEL.out p hlt _ HP.out.below.size (HE.out.call HP.out.below)).mono ?_; rintro e w1 ⟨x, k, rfl, hx, hb1⟩
      cases hrd : rdE (s.data.toList.drop p) with
      | none =>
        rw [hrd] at hx
        obtain ⟨rfl, rfl⟩ := hx
        have hfin : R = ([], p, 2) := by rw [← HR.out, HP.out.eq, go_none _ _ _ _ (fun e => by have := congrArg List.length e; simp at this; omega) hrd]
        have hB1 := BelowOn HP.out.below hb1
        have HF := Lib.hid hfin
        clear hrd hfin
        go_wp2_with fail
        go_ret3
        exact HNO.out p 2 _ HF.out (blw hB1 _)
      | some y =>
        obtain ⟨x', k'⟩ := y
        rw [hrd] at hx
        obtain ⟨rfl, rfl⟩ := hx
        have hk1 := rd_pos hrd
        obtain ⟨hxo, hxk⟩ := elem_ok hrd
        have hple' : k ≤ s.size - p := by have := hk1.2; simp at this; omega
        have q1 : ((k : Int) == 0) = false := by simp; omega
        have hD1 := (HP.out.dst.call hb1).call (blw (Below.refl _ w1) (.cells #[.int .i64 x.k, .string x.t, .int .i64 x.id] 43))
        have hB1 := blw (BelowOn HP.out.below hb1) (.cells #[.int .i64 x.k, .string x.t, .int .i64 x.id] 43)
        have hadd := add_any w.heap.size (w.heap.size + 1) w.heap.size cnt n res bs G φ vi vt x _ hD1 hB1.size hxo HP.out.last HP.out.err HP.out.grp HP.out.n1 HP.out.l1 HP.out.len HP.out.cn HP.out.bn hxk
        have HADD := Lib.hid hadd
        have HD := Lib.hid hrd
        have HB1 := Lib.hid hB1
        have V := VarB.new w1 x
        obtain ⟨v0, v1, v2, vl⟩ := V.v
        clear hadd hD1 hxo hxk V hB1
        obtain ⟨z, hz⟩ : ∃ z, addE (flush res bs) n x = z := ⟨_, rfl⟩
        have HZ := Lib.hid hz
        unfold EndAdd at HADD
        rw [hz] at HADD
        clear hz hrd
        by_cases h0 : z = 0
        · have q2 : (z == 0) = true := by simpa using h0
          have q3 : (z != 0) = false := by simpa using h0
          subst h0
          go_wp2_with fail
          refine HADD.out.mono ?_; rintro e w3 ⟨rfl, hb3, hmore⟩
          obtain ⟨cnt', res', bs', G', φ', vi', vt', hd, hf, hl, hg, hc, hbn⟩ := hmore trivial
          have hPn := HP.out.next (by rw [show s.data.toList.length = s.size by simp]; exact hlt) HD.out HZ.out (HB1.out.trans hb3) hd hf hl hg hc hbn
          clear hd hf hl hg hc hbn hmore v0 v1 v2 vl
          have HPN := Lib.hid hPn; clear hPn
          go_wp2_with fail
          go_roundw
          case rel => exact ⟨p + k, _, _, _, _, _, _, _, _, by go_num, HPN.out⟩
          case measure => simp [intOf]; omega
        · have q2 : (z == 0) = false := by simpa using h0
          have q3 : (z != 0) = true := by simpa using h0
          have hfin : R = ([], p, z) := by rw [← HR.out, HP.out.eq, go_err HD.out HZ.out h0]
          have HF := Lib.hid hfin
          clear h0 hfin
          go_wp2_with fail
          refine HADD.out.mono ?_; rintro e w3 ⟨rfl, hb3, _⟩
          clear v0 v1 v2 vl
          go_wp2_with fail
          go_ret3
          exact HNO.out p z _ HF.out (HB1.out.trans hb3)
    · have hpe : p = s.size := by omega
      have hdrop : s.data.toList.drop p = [] := List.drop_of_length_le (by simp; omega)
      have hfin : R = (flush res bs, 0, 0) := by rw [← HR.out, hP.eq, hdrop, go_nil]
      have hrl : res.length ≤ 1000 := by have := flush_len res bs; have := hP.l1; omega
      have het := endtext_any w.heap.size (w.heap.size + 1) w.heap.size cnt n res bs G φ vi vt wr hP.dst hrl
      have HET := Lib.hid het
      have HP := Lib.hid hP
      have HF := Lib.hid hfin
      clear het hP hfin hdrop hrl
      go_wp2_with fail
      refine HET.out.mono ?_; rintro e w3 ⟨rfl, vt', hD3, hO3, _⟩
      have hB3 := HP.out.below.trans (hO3.below w.heap.size HP.out.below.size (fun i hi => (HP.out.dst.lt i hi).1))
      have hown := hD3.own
      rw [pend_nil] at hown
      obtain ⟨pi, ci, hvi, hc1, hc2, hI⟩ := hown.its
      subst hvi
      obtain ⟨y0, y1, y2, y3, z0, z1, z2⟩ := hD3.cells
      have HI := Lib.hid hI
      clear hown hI hD3 hO3
      go_wp2_with fail
      go_ret3
      exact ⟨pi, ci, by rw [HF.out]; rfl, by rw [HF.out]; exact hc1, hc2, by rw [HF.out]; exact HI.out, hB3⟩
end Go.Proofs.YtaogjccmeajpoaaGreatDoor
namespace Go.Proofs.YtaogjccmeajpoaaGreatDoor
open Go.ChangeShapes Go.WideShapes Go.ChangeAt Go.RowKit
set_option linter.unusedVariables false
set_option linter.unusedSimpArgs false
set_option maxRecDepth 100000

theorem Env.mono {base base' : Nat} {w : World} (h : Env base w) (hb : base ≤ base') : Env base' w := ⟨h.tab.mono hb, h.e1, h.e2, Nat.lt_of_lt_of_le h.l1 hb, Nat.lt_of_lt_of_le h.l2 hb⟩
theorem Env.next {w w1 : World} (h : Env w.heap.size w) (hb : Below w.heap.size w w1) : Env w1.heap.size w1 := (h.call hb).mono hb.size
def k4 : List It := [⟨2, ⟨#[98]⟩, 1⟩, ⟨1, ⟨#[97, 60, 98]⟩, 0⟩, ⟨3, ⟨#[98]⟩, 1⟩, ⟨5, ⟨#[110]⟩, 0⟩]
theorem k4_val : valE k4 = 0 := by decide +kernel
theorem dec1 : Lib.decDigits 1 = [49] := Lib.decDigits_one (by decide)
theorem dec2 : Lib.decDigits 2 = [50] := Lib.decDigits_one (by decide)
theorem el_b1 : elL ⟨2, ⟨#[98]⟩, 1⟩ = [60, 49, 58, 98, 62] := by
  show [60] ++ Lib.decDigits 1 ++ [58] ++ [98] ++ [62] = _; rw [dec1]; rfl
theorem el_c1 : elL ⟨3, ⟨#[98]⟩, 1⟩ = [60, 47, 49, 58, 98, 62] := by
  show [60, 47] ++ Lib.decDigits 1 ++ [58] ++ [98] ++ [62] = _; rw [dec1]; rfl
theorem el_c2 : elL ⟨3, ⟨#[98]⟩, 2⟩ = [60, 47, 50, 58, 98, 62] := by
  show [60, 47] ++ Lib.decDigits 2 ++ [58] ++ [98] ++ [62] = _; rw [dec2]; rfl
theorem el_i1 : elL ⟨3, ⟨#[105]⟩, 1⟩ = [60, 47, 49, 58, 105, 62] := by
  show [60, 47] ++ Lib.decDigits 1 ++ [58] ++ [105] ++ [62] = _; rw [dec1]; rfl
theorem el_t : elL ⟨1, ⟨#[97, 60, 98]⟩, 0⟩ = [97, 92, 60, 98] := by decide +kernel
theorem el_n : elL ⟨5, ⟨#[110]⟩, 0⟩ = [123, 110, 125] := by decide +kernel
theorem k4_fmt : fmtS k4 = ⟨#[60, 49, 58, 98, 62, 97, 92, 60, 98, 60, 47, 49, 58, 98, 62, 123, 110, 125]⟩ := by
  rw [fmtS_ok k4_val]
  show bsL (elL ⟨2, ⟨#[98]⟩, 1⟩ ++ (elL ⟨1, ⟨#[97, 60, 98]⟩, 0⟩ ++ (elL ⟨3, ⟨#[98]⟩, 1⟩ ++ (elL ⟨5, ⟨#[110]⟩, 0⟩ ++ [])))) = _
  rw [el_b1, el_t, el_c1, el_n]; rfl
theorem kn_parse : parseN [60, 49, 58, 98, 62, 60, 47, 50, 58, 98, 62, 60, 47, 49, 58, 105, 62] = ([], 11, 7) := by
  have e : ([60, 49, 58, 98, 62, 60, 47, 50, 58, 98, 62, 60, 47, 49, 58, 105, 62] : List UInt8) = elL ⟨2, ⟨#[98]⟩, 1⟩ ++ (elL ⟨3, ⟨#[98]⟩, 2⟩ ++ elL ⟨3, ⟨#[105]⟩, 1⟩) := by rw [el_b1, el_c2, el_i1]; rfl
  rw [e]
  have h1 := go_other [] (⟨2, ⟨#[98]⟩, 1⟩ : It) 0 0 (elL ⟨3, ⟨#[98]⟩, 2⟩ ++ elL ⟨3, ⟨#[105]⟩, 1⟩) (by decide +kernel) (by decide) (by decide +kernel) (by decide) (by decide)
  have h2 := go_other [(⟨2, ⟨#[98]⟩, 1⟩ : It)] (⟨3, ⟨#[98]⟩, 2⟩ : It) 1 5 (elL ⟨3, ⟨#[105]⟩, 1⟩) (by decide +kernel) (by decide) (by decide +kernel) (by decide) (by decide)
  have hr := rd_el (⟨3, ⟨#[105]⟩, 1⟩ : It) (by decide +kernel) (by decide) []
  rw [List.append_nil] at hr
  have he : errAt [(⟨2, ⟨#[98]⟩, 1⟩ : It), ⟨3, ⟨#[98]⟩, 2⟩] ⟨3, ⟨#[105]⟩, 1⟩ = 7 := by decide +kernel
  have h3 := go_bad [(⟨2, ⟨#[98]⟩, 1⟩ : It), ⟨3, ⟨#[98]⟩, 2⟩] 2 11 _ (by rw [el_i1]; simp) hr (by decide) (by rw [he]; decide)
  rw [he] at h3
  rw [el_b1] at h1
  rw [el_c2] at h1 h2
  rw [el_b1, el_c2]
  exact h1.trans (h2.trans h3)
theorem k4_oks : Oks k4 := valid_oks k4_val
set_option maxHeartbeats 3200000 in
theorem known_any (w : World) (hE : Env w.heap.size w) : Calls Tryz.prog 8 #[] w fun e w' => e = .returned (.bool true) ∧ Below w.heap.size w w' := by
  have hf := fun W (p : Option Addr) (hI : Its W p k4) (hT : TabB W.heap.size W) => format_any p 4 k4 W hI k4_oks (by decide) (by unfold maxLen; omega) hT
  rw [k4_fmt, k4_val] at hf
  have hp := fun W (hE : Env W.heap.size W) => parse_any ⟨#[60, 49, 58, 98, 62, 60, 47, 50, 58, 98, 62, 60, 47, 49, 58, 105, 62]⟩ W (by decide) hE
  have hkn : parseN (⟨#[60, 49, 58, 98, 62, 60, 47, 50, 58, 98, 62, 60, 47, 49, 58, 105, 62]⟩ : ByteArray).data.toList = ([], 11, 7) := kn_parse
  rw [hkn] at hp
  have HF := Lib.hid hf; have HP := Lib.hid hp; have HE := Lib.hid hE
  clear hf hp hkn hE
  go_enter Tryz.func8, Tryz.ntmps8
  go_wp2_with fail
  refine (HF.out _ _ (Its.lit (heap_alloc_new _ _) rfl) ((HE.out.tab.call (blw (Below.refl _ w) _)).mono (blw (Below.refl _ w) _).size)).mono ?_
  rintro e w1 ⟨rfl, hb1⟩
  have hB1 := BelowOn (blw (Below.refl w.heap.size w) _) hb1
  go_wp2_with fail
  refine (HP.out _ ((HE.out.call hB1).mono hB1.size)).mono ?_
  rintro e w2 ⟨p, c, rfl, _, _, _, hb2⟩
  go_wp2_with fail
  go_ret
  exact ⟨rfl, BelowOn hB1 hb2⟩
end Go.Proofs.YtaogjccmeajpoaaGreatDoor
namespace Go.Proofs.YtaogjccmeajpoaaGreatDoor
open Go.ChangeShapes Go.WideShapes Go.ChangeAt Go.RowKit
set_option linter.unusedVariables false
set_option maxRecDepth 100000

set_option maxHeartbeats 1600000 in
theorem nmade_any (p : Option Addr) (cap : Nat) (L : List Int) (w : World) (hL : Ones w (Value.int .i64) p L) (hw : ∀ i (h : i < L.length), (Lit.int .i64 (L[i]'h)).wf = true) (hc : L.length ≤ cap) (hm : cap ≤ maxLen) :
    Calls Tryz.prog 11 #[.slice p L.length cap] w (EndF (mk L true false) w) := by
  have hN := NumsAt.made hL hw hc hm
  have hf := fragment_any w.heap.size p cap L 0 true false 8 8 rfl _ hN (fun h0 a ha => by have := ones_any hL h0 a ha; simp; omega) (by omega) (by omega)
  have HF := Lib.hid hf; clear hf hN
  have hend : ∀ v w2, Below w.heap.size w w2 → OwnL 43 3 ienc w.heap.size (mk L true false) v w2 → EndF (mk L true false) w (.returned v) w2 := fun v w2 h1 h2 => EndI.f ⟨v, rfl, h1, h2⟩
  have HEND := Lib.hid hend; clear hend
  unfold maxLen at hm
  go_enter Tryz.func11, Tryz.ntmps11
  go_wp2_with fail
  refine (HF.out).mono ?_
  rintro e w2 ⟨v, rfl, hg, hN2, hown⟩
  have hb : Below w.heap.size w w2 := (blw (Below.refl w.heap.size w) _).trans (grown_below hg (Nat.le_refl _) (by simp))
  have hown2 : OwnL 43 3 ienc w.heap.size (mk L true false) v w2 := ownsRow_base hown (by simp)
  clear hN2 hown hg
  go_wp2_with fail
  go_ret
  exact HEND.out _ _ hb hown2
theorem mk_valid (l : List Int) : valE (mk l true false) = 0 := (mk_ok l true false).valid (by decide)
theorem mk_oks (l : List Int) : Oks (mk l true false) := valid_oks (mk_valid l)
end Go.Proofs.YtaogjccmeajpoaaGreatDoor
namespace Go.Proofs.YtaogjccmeajpoaaGreatDoor
open Go.ChangeShapes Go.WideShapes Go.ChangeAt Go.RowKit
set_option linter.unusedVariables false
set_option maxRecDepth 100000

theorem gPow : Tryz.prog.globalNamed "internal/strconv.uint64pow10" = some 1 := by kernel_rfl
theorem tPow : (Tryz.prog.globals[1]?).map (·.type) = some 114 := by kernel_rfl
theorem cellsU64 : Tryz.prog.cellsOf 96 = 1 := by kernel_rfl
theorem cellsPow : Tryz.prog.cellsOf 114 = 20 := by kernel_rfl
theorem laidData : (Rows.laid_internal_strconv_uint64pow10 : DataW Unit) = Lib.tabData .u64 Lib.pow10Tab := by rfl
theorem gRange : Tryz.prog.globalNamed "strconv.ErrRange" = some 3 := by kernel_rfl
theorem gSyntax : Tryz.prog.globalNamed "strconv.ErrSyntax" = some 2 := by kernel_rfl
theorem tRange : (Tryz.prog.globals[3]?).map (·.type) = some 92 := by kernel_rfl
theorem tSyntax : (Tryz.prog.globals[2]?).map (·.type) = some 92 := by kernel_rfl
theorem cellsEs : Tryz.prog.cellsOf 129 = 1 := by kernel_rfl
theorem cellsStr : Tryz.prog.cellsOf 9 = 1 := by kernel_rfl
theorem starEs : "*" ++ "errors.errorString" = "*errors.errorString" := by decide
theorem rowEs (u : TypeId) (h : Tryz.prog.typeName? 3 u = some "*errors.errorString") : u = 127 :=
  typeName_ptr_named (nm := "errors.errorString") (by rw [starEs]; kernel_rfl) (by kernel_rfl) (by decide) u (by rw [starEs]; exact h)
abbrev laidL : List (String × DataW Unit) := [("math/bits.deBruijn32tab", Rows.laid_math_bits_deBruijn32tab), ("math/bits.deBruijn64tab", Rows.laid_math_bits_deBruijn64tab), ("internal/strconv.uint64pow10", Rows.laid_internal_strconv_uint64pow10), ("strconv.ErrRange", Rows.laid_strconv_ErrRange), ("strconv.ErrSyntax", Rows.laid_strconv_ErrSyntax)]
theorem env_of_laid {W : World} (h : laidMetH Tryz.prog laidL W) : Env W.heap.size W := by
  rw [MakeChecks.laidMetH_plain _ _ _ (by kernel_rfl)] at h
  have hT : Lib.TabIs Tryz.prog W "internal/strconv.uint64pow10" .u64 Lib.pow10Tab := by
    obtain ⟨g, t, cs, fuel, p, hg, ht, hv, hd⟩ := Lib.laidMet.reads h (n := "internal/strconv.uint64pow10") (d := Rows.laid_internal_strconv_uint64pow10) (.tail _ (.tail _ (.head _)))
    obtain rfl := Option.some.inj (gPow.symm.trans hg)
    obtain rfl := Option.some.inj (tPow.symm.trans ht)
    unfold Lib.TabIs
    rw [laidData] at hd
    rw [hv, ← Lib.cells_of_tab Tryz.underlying114 Tryz.underlying96 cellsU64 cellsPow hd]
  obtain ⟨a1, s1, hv1, _, _, _⟩ := laid_sentinel h.tail.tail.tail gRange tRange Tryz.underlying92 rowEs Tryz.underlying127 Tryz.underlying129 rfl rfl Tryz.underlying9 cellsEs cellsStr
  obtain ⟨a2, s2, hv2, _, _, _⟩ := laid_sentinel h.tail.tail.tail.tail gSyntax tSyntax Tryz.underlying92 rowEs Tryz.underlying127 Tryz.underlying129 rfl rfl Tryz.underlying9 cellsEs cellsStr
  have c1 : W.cell? ⟨3, 0, none⟩ = some (.iface 127 (.pointer (some a1))) := by have h0 := World.var?_cell gRange hv1 0; simpa using h0
  have c2 : W.cell? ⟨2, 0, none⟩ = some (.iface 127 (.pointer (some a2))) := by have h0 := World.var?_cell gSyntax hv2 0; simpa using h0
  exact ⟨fun w1 hb => Lib.tabBelow_of_tabIs hT w1 hb, ⟨_, c2, .inr ⟨_, _, rfl⟩⟩, ⟨_, c1, .inr ⟨_, _, rfl⟩⟩, World.block_lt_of_cell? W _ c2, World.block_lt_of_cell? W _ c1⟩
theorem door_met (os : Os) (args : Array Value) : laidMetH Tryz.prog laidL ((World.doorLaid Tryz.prog 62 os).forCall (fun _ _ => 0) ⟨#[], args, []⟩).memory :=
  laidMetH_of_parts3 (fuel := 8) (laidMet_of_run' 8 (by kernel_rfl) (by kernel_rfl)) (by kernel_rfl) (by kernel_rfl)
end Go.Proofs.YtaogjccmeajpoaaGreatDoor
