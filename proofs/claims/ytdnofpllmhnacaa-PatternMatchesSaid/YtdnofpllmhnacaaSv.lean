/- Sets in variables: whole loads and stores; what changes where. -/
import Derived.Test.YtdnofpllmhnacaaMod
namespace Go.Proofs.Ytdnofpllmhnacaa
open Go.ChangeShapes Go.WideShapes Go.ChangeAt Go.RowKit Go.Sort
set_option linter.unusedVariables false
set_option linter.unusedSimpArgs false
set_option maxRecDepth 100000

def wrA : Array Value → Nat → List Value → Array Value
  | cur, _, [] => cur
  | cur, o, v :: r => wrA (cur.setIfInBounds o v) (o + 1) r
theorem wrA_size (cur : Array Value) (o : Nat) (vs : List Value) : (wrA cur o vs).size = cur.size := by
  induction vs generalizing cur o with
  | nil => rfl
  | cons v r ih => rw [wrA, ih]; simp
theorem wrA_at (vs : List Value) : ∀ (cur : Array Value) (o j : Nat), o + vs.length ≤ cur.size → (wrA cur o vs)[j]? = if o ≤ j ∧ j < o + vs.length then vs[j - o]? else cur[j]? := by
  induction vs with
  | nil => intro cur o j h; rw [if_neg (by simp only [List.length_nil]; omega), wrA]
  | cons v r ih =>
    intro cur o j h
    simp only [List.length_cons] at h ⊢
    rw [wrA, ih _ _ _ (by simp; omega)]
    by_cases h1 : o + 1 ≤ j ∧ j < o + 1 + r.length
    · rw [if_pos h1, if_pos (by omega), show j - o = (j - (o + 1)) + 1 by omega, List.getElem?_cons_succ]
    · rw [if_neg h1]
      by_cases h2 : o = j
      · subst h2; rw [if_pos (by omega), Nat.sub_self, Array.getElem?_setIfInBounds_self_of_lt (by omega)]; rfl
      · rw [if_neg (by omega)]; rw [Array.getElem?_setIfInBounds_ne h2]
theorem wrA_all (cur : Array Value) (cs : List Value) (h : cur.size = cs.length) : wrA cur 0 cs = cs.toArray := by
  apply Array.ext_getElem?
  intro j
  rw [wrA_at _ _ _ _ (by omega)]
  by_cases hj : j < cs.length
  · rw [if_pos (by omega)]; simp
  · rw [if_neg (by omega), Array.getElem?_eq_none (by omega)]; simp; omega
theorem setCells_row (vs : List Value) : ∀ (w : World) (b o : Nat) (cur : Array Value) (t : TypeId), w.heap[b]? = some (.cells cur t (0, 0)) → (w.setCells b o vs).heap[b]? = some (.cells (wrA cur o vs) t (0, 0)) := by
  induction vs with
  | nil => intro w b o cur t h; exact h
  | cons v r ih => intro w b o cur t h; exact ih _ b (o + 1) _ t (setCell_at w b o cur t v h)
theorem setCells_grow (vs : List Value) : ∀ (w : World) (b o : Nat), w.grownBy (w.setCells b o vs) (some b) := by
  induction vs with
  | nil => intro w b o; exact World.grownBy.refl _ _
  | cons v r ih => intro w b o; exact grow_then (grow_cell w b o v) (ih _ b (o + 1))
/-- A variable of type t that is the set S. -/
def SAtT (t B : Nat) (S : BSet) (W : World) : Prop := W.heap[B]? = some (.cells (setC S).toArray t (0, 0))
theorem SAtT.store {t B : Nat} {S0 : BSet} {W : World} (h : SAtT t B S0 W) (S : BSet) : SAtT t B S (W.setCells B 0 (setC S)) := by
  unfold SAtT at h ⊢
  rw [setCells_row _ _ _ _ _ _ h, wrA_all _ _ (by simp [setC_length])]
theorem SAtT.range {t B : Nat} {S : BSet} {W : World} (h : SAtT t B S W) : W.rangeAt B 0 (setC S) := fun j v hv => by
  rw [cell_of_row _ _ _ _ _ _ h]; simpa using hv
theorem SAtT.lt {t B : Nat} {S : BSet} {W : World} (h : SAtT t B S W) : B < W.heap.size := (Array.getElem?_eq_some_iff.1 h).1
theorem SAtT.call {t B : Nat} {S : BSet} {W W' : World} (h : SAtT t B S W) (hb : Below W.heap.size W W') : SAtT t B S W' := (hb.block B h.lt).trans h
theorem SAtT.keep {t B : Nat} {S : BSet} {W W' : World} (h : SAtT t B S W) {r : Option Nat} (hg : W.grownBy W' r) (hne : some B ≠ r) : SAtT t B S W' := (hg.block B h.lt hne).trans h
theorem SAtT.there {t B : Nat} {S : BSet} {W : World} (h : SAtT t B S W) : W.there B 0 32 := fun j hj => by
  refine ⟨?_, Lib.frozen_of_heap h _⟩
  rw [cell_of_row _ _ _ _ _ _ h]; simp [setC_length]; omega
theorem SAtT.new (t : Nat) (w : World) : SAtT t w.heap.size emptyS (w.alloc (.cells (List.replicate 32 (Value.int .u8 0)).toArray t)) := heap_alloc_new w _
theorem SAtT.newS (t : Nat) (w : World) (S : BSet) : SAtT t w.heap.size S (w.alloc (.cells (setC S).toArray t)) := heap_alloc_new w _
theorem sizeT {t : Nat} (ht : t = 55 ∨ t = 35) : (Try.prog.info? t).map (·.size) = some 32 := by rcases ht with rfl | rfl; exact size55; exact size35
theorem undT {t : Nat} (ht : t = 55 ∨ t = 35) : ∃ d, Try.prog.underlying t = some d ∧ d.isRow = true := by rcases ht with rfl | rfl; exact und55; exact und35
/-- Loads and stores of whole sets. -/
theorem wpl_loadSet {ops : Array Oper} {rest : List Oper} {op : Oper} {a : Act} {w : World} {Q : Exit → Act → World → Prop} (hgd : op.guard = none) (t : Nat) (ht : t = 55 ∨ t = 35) (x : Operand) (ho : op.op = .load t x) (B : Nat) (S : BSet)
    (hx : a.eval x = .pointer (some ⟨B, 0, none⟩)) (h : SAtT t B S w) (hk : wpList Try.prog ops Q rest (a.put op.dst (.agg (setC S).toArray)) w) : wpList Try.prog ops Q (op :: rest) a w := by
  obtain ⟨d, hu, hd⟩ := undT ht
  exact wpList_load_mid hgd t x ho B 0 hx (setC S) d h.range hu hd (by rw [setC_length]; exact sizeT ht) hk
theorem wpl_storeSet {ops : Array Oper} {rest : List Oper} {op : Oper} {a : Act} {w : World} {Q : Exit → Act → World → Prop} (hgd : op.guard = none) (t : Nat) (ht : t = 55 ∨ t = 35) (x y : Operand) (ho : op.op = .store t x y) (B : Nat) (S0 S : BSet)
    (hx : a.eval x = .pointer (some ⟨B, 0, none⟩)) (hy : a.eval y = .agg (setC S).toArray) (h : SAtT t B S0 w)
    (hk : ∀ w', SAtT t B S w' → w.grownBy w' (some B) → wpList Try.prog ops Q rest (a.put op.dst undef) w') : wpList Try.prog ops Q (op :: rest) a w := by
  refine wpList_store_mid hgd t x y ho B 0 (setC S).toArray hx hy ?_ ?_ (set_one S) ?_
  · simpa [setC_length] using h.there
  · simpa [setC_length] using sizeT ht
  · rw [show (setC S).toArray.toList = setC S by simp]
    exact hk _ (h.store S) (setCells_grow _ _ _ _)
/-- What a result variable reads as. -/
theorem SAtT.read {t B : Nat} {S : BSet} {W : World} (ht : t = 55 ∨ t = 35) (h : SAtT t B S W) : (loadVar t ⟨B, 0, none⟩).run Try.prog W = .ok (.agg (setC S).toArray) W := by
  obtain ⟨d, hu, hd⟩ := undT ht
  exact run_loadVar_mid (P := Try.prog) W B 0 t (setC S) d h.range hu hd (by rw [setC_length]; exact sizeT ht)
/-- Nothing but the blocks of l has changed. -/
structure Gr (l : List Nat) (w w' : World) : Prop where
  os : w'.os = w.os
  tape : w'.tape = w.tape
  output : w'.output = w.output
  size : w.heap.size ≤ w'.heap.size
  block : ∀ k, k < w.heap.size → k ∉ l → w'.heap[k]? = w.heap[k]?
theorem Gr.refl (l : List Nat) (w : World) : Gr l w w := ⟨rfl, rfl, rfl, Nat.le_refl _, fun _ _ _ => rfl⟩
theorem Gr.trans {l : List Nat} {a b c : World} (h : Gr l a b) (k : Gr l b c) : Gr l a c := ⟨k.os.trans h.os, k.tape.trans h.tape, k.output.trans h.output, Nat.le_trans h.size k.size, fun i hi hn => (k.block i (Nat.lt_of_lt_of_le hi h.size) hn).trans (h.block i hi hn)⟩
theorem Gr.of {l : List Nat} {w w' : World} {b : Nat} (h : w.grownBy w' (some b)) (hb : b ∈ l ∨ w.heap.size ≤ b) : Gr l w w' := ⟨h.os, h.tape, h.output, h.size, fun k hk hn => h.block k hk (fun e => by injection e with e; subst e; rcases hb with hb | hb; exact hn hb; omega)⟩
theorem Gr.ofB {l : List Nat} {w w' : World} (h : Below w.heap.size w w') : Gr l w w' := ⟨h.os, h.tape, h.output, h.size, fun k hk _ => h.block k hk⟩
/-- A store into a block that is newer than w. -/
theorem Gr.set {l : List Nat} {w a b : World} {k : Nat} (h : Gr l w a) (g : a.grownBy b (some k)) (hk : k ∈ l ∨ w.heap.size ≤ k) : Gr l w b := ⟨g.os.trans h.os, g.tape.trans h.tape, g.output.trans h.output, Nat.le_trans h.size g.size, fun i hi hn => (g.block i (Nat.lt_of_lt_of_le hi h.size) (fun e => by injection e with e; subst e; rcases hk with hk | hk; exact hn hk; omega)).trans (h.block i hi hn)⟩
theorem Gr.below {l : List Nat} {w a b : World} (h : Gr l w a) (g : Below a.heap.size a b) : Gr l w b := h.trans (Gr.ofB g)
theorem Gr.alloc {l : List Nat} {w a : World} (h : Gr l w a) (o : Obj) : Gr l w (a.alloc o) := h.below (blw (Below.refl _ _) o)
theorem Gr.drewN {l : List Nat} {w a : World} (h : Gr l w a) (n : Nat) : Gr l w (a.drewN n) := ⟨h.os, h.tape, h.output, h.size, h.block⟩
theorem Gr.to {w w' : World} {b : Nat} (h : Gr [b] w w') : w.grownBy w' (some b) := ⟨h.os, h.tape, h.output, h.size, fun k hk hn => h.block k hk (by simp; intro e; exact hn (by rw [e]))⟩
theorem Gr.less {l : List Nat} {w a b : World} {x : Nat} (h : Gr l w a) (g : Gr (x :: l) a b) (hx : w.heap.size ≤ x) : Gr l w b := ⟨g.os.trans h.os, g.tape.trans h.tape, g.output.trans h.output, Nat.le_trans h.size g.size, fun i hi hn => (g.block i (Nat.lt_of_lt_of_le hi h.size) (by simp; exact ⟨by omega, hn⟩)).trans (h.block i hi hn)⟩
theorem RD.keep {R n : Nat} {s : ByteArray} {W W' : World} {l : List Nat} (h : RD R s n W) (hg : Gr l W W') (hne : R ∉ l) : RD R s n W' := ⟨(hg.block R (Array.getElem?_eq_some_iff.1 h.var).1 hne).trans h.var, h.le, h.sm⟩
theorem SAtT.gr {t B : Nat} {S : BSet} {W W' : World} {l : List Nat} (h : SAtT t B S W) (hg : Gr l W W') (hne : B ∉ l) : SAtT t B S W' := (hg.block B h.lt hne).trans h
theorem RD.lt {R n : Nat} {s : ByteArray} {W : World} (h : RD R s n W) : R < W.heap.size := (Array.getElem?_eq_some_iff.1 h.var).1
end Go.Proofs.Ytdnofpllmhnacaa
