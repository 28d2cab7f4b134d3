/- Contracts of isTag and step, and of the reference's IsTag and alone. Contract of the method cost of a part. A region that draws its order: a head of operations that are quiet in a class of worlds, and behind them a tail that comes up in its own order (the tail may store, allocate, append). Rows of elements of several cells: owned by the call (RowG), and as slices (Rw); what changes where. Contract of newPart; of the reference's Cost. -/
import Derived.Test.YthfgpagmepdblaaGreatDtA
import Derived.Lib.QuietBelow
import Derived.BigQuiet
import Derived.Deep.QuietTactic
import Derived.Test.YthfgpagmepdblaaGreatTkA
import Derived.StillTail
import Derived.Deep.MidRow
namespace Go.Proofs.YthfgpagmepdblaaGreat
open Go.ChangeShapes Go.WideShapes Go.ChangeAt Go.RowKit Go.Sort
set_option linter.unusedVariables false
set_option linter.unusedSimpArgs false
set_option maxRecDepth 100000

theorem isT_eq (k : Int) : isT k = (k == 2 || k == 3 || k == 4) := by unfold isT; rw [Bool.eq_iff_iff]; simp [or_assoc]
theorem Var3.newT (W : World) (k : Int) (t : ByteArray) (id : Int) : Var3 (W.alloc (.cells #[.int .i64 k, .string t, .int .i64 id] 43)) W.heap.size k t id := ⟨by simp, by simp, by simp, by simp⟩
theorem drtag_any (k : Int) (t : ByteArray) (id : Int) (w : World) : Calls Tryz.prog 88 #[.agg #[.int .i64 k, .string t, .int .i64 id]] w fun e w' => e = .returned (.bool (isT k)) ∧ Below w.heap.size w w' := by
  go_enter Tryz.func88, Tryz.ntmps88
  go_wp2
  all_goals go_ret
  all_goals refine ⟨?_, blw (Below.refl _ _) _⟩
  all_goals (rw [isT_eq]; simp_all)
end Go.Proofs.YthfgpagmepdblaaGreat
namespace Go.Proofs.YthfgpagmepdblaaGreat
open Go.ChangeShapes Go.WideShapes Go.ChangeAt Go.RowKit Go.Sort
set_option linter.unusedVariables false
set_option linter.unusedSimpArgs false
set_option maxRecDepth 100000

/-- A part, as it lies. -/
structure PtA (W : World) (p : Addr) (x : It) (ix : Int) : Prop where
  lt : p.block < W.heap.size
  c0 : W.cell? ⟨p.block, p.off, none⟩ = some (.int .i64 x.k)
  c1 : W.cell? ⟨p.block, p.off + 1, none⟩ = some (.string x.t)
  c2 : W.cell? ⟨p.block, p.off + 2, none⟩ = some (.int .i64 x.id)
  c3 : W.cell? ⟨p.block, p.off + 3, none⟩ = some (.int .i64 ix)
  c4 : W.cell? ⟨p.block, p.off + 4, none⟩ = some (.int .i64 (wtT x.k))
  c5 : W.cell? ⟨p.block, p.off + 5, none⟩ = some (.int .i64 (stp x))
  c6 : W.cell? ⟨p.block, p.off + 6, none⟩ = some (.string (keyT x.k x.t))
theorem PtA.call {W w1 : World} {p : Addr} {x : It} {ix : Int} (h : PtA W p x ix) (hb : Below W.heap.size W w1) : PtA w1 p x ix :=
  ⟨Nat.lt_of_lt_of_le h.lt hb.size, by rw [hb.cell (p := ⟨_, _, none⟩) h.lt]; exact h.c0, by rw [hb.cell (p := ⟨_, _, none⟩) h.lt]; exact h.c1, by rw [hb.cell (p := ⟨_, _, none⟩) h.lt]; exact h.c2, by rw [hb.cell (p := ⟨_, _, none⟩) h.lt]; exact h.c3,
   by rw [hb.cell (p := ⟨_, _, none⟩) h.lt]; exact h.c4, by rw [hb.cell (p := ⟨_, _, none⟩) h.lt]; exact h.c5, by rw [hb.cell (p := ⟨_, _, none⟩) h.lt]; exact h.c6⟩
def cO (x y : It) : Nat := if okP x y = true then cst x y else 0
theorem cO_le (x y : It) : cO x y ≤ 4 := by unfold cO; split
                                            · exact cst_le4 x y
                                            · omega
end Go.Proofs.YthfgpagmepdblaaGreat
namespace Go.Proofs.YthfgpagmepdblaaGreat
open Go.Sort Go.RowKit
set_option linter.unusedVariables false
section
variable {P : Program} {ops : Array Oper} {md : Region.Mode} {C : World → Prop}
/-- The head in whatever order; L is said of the state in which the head is done. -/
def HeadQ (P : Program) (md : Region.Mode) (ops : Array Oper) (C : World → Prop) (n : Nat) (L : Array Bool → Act → Prop) : Nat → Array Bool → Act → Prop
  | 0, listed, a => L listed a
  | f + 1, listed, a => Region.ready md ops listed ≠ [] ∧ ∀ i ∈ Region.ready md ops listed, i < n ∧ qOp P ops C i (HeadQ P md ops C n L f (listed.setIfInBounds i true)) a
theorem any_of_headQ {n g : Nat} {L : Array Bool → Act → Prop} {Q' : Exit → Act → World → Prop} (hL : ∀ listed a w, C w → L listed a → wpAny P md ops Q' g listed a w) (f : Nat) :
    ∀ (listed : Array Bool) (a : Act) (w : World), C w → HeadQ P md ops C n L f listed a → wpAny P md ops Q' (f + g) listed a w := by
  induction f with
  | zero => intro listed a w hw h; rw [Nat.zero_add]; exact hL _ _ _ hw h
  | succ f ih =>
    intro listed a w hw h
    rw [Nat.succ_add]
    refine ⟨fun h0 => absurd h0 h.1, fun i hi => wpOp_of_qOp hw (fun a' w' hw' h' => ih _ a' w' hw' h') (h.2 i hi).2⟩
theorem headQ_take {n i : Nat} {oi : Oper} {v : Value} {L : Array Bool → Act → Prop} (hi : ops[i]? = some oi) (hsel : Region.noSelect ops = true) (hs : Region.sinkB md ops n = true) (hc : Region.chainB md ops n = true) (hn : n < ops.size) (hin : i < n)
    (hdone : ∀ listed a, L listed a → ∀ j ∈ Region.ready md ops listed, n ≤ j) (f : Nat) : ∀ (listed : Array Bool) (a : Act), HeadInv md ops n listed →
      (∀ j oj, ops[j]? = some oj → j ≠ i → listed.getD j true = false → (∀ e ∈ oj.after, Region.binds md e = true → e.on ≠ i) → oi.apart ops oj = true) →
      i ∈ Region.ready md ops listed → YieldsIn P ops C oi v a → HeadQ P md ops C n L f (listed.setIfInBounds i true) (a.put oi.dst v) → HeadQ P md ops C n L (f + 1) listed a := by
  have sel := Region.noSelect_spec hsel
  induction f with
  | zero =>
    intro listed a inv _ hr hy H
    refine ⟨fun h => (by rw [h] at hr; cases hr), fun j hj => ?_⟩
    rcases Nat.lt_or_ge j n with hjn | hjn
    · refine ⟨hjn, ?_⟩
      by_cases e : j = i
      · subst e; exact hy.qOp hi H
      · exact absurd (hdone _ _ H j (ready_mono hj e)) (by omega)
    · exact absurd hj (tail_waits hs hc hn inv _ i rfl hin (mem_ready.1 hr).1 j hjn)
  | succ f ih =>
    intro listed a inv hfree hr hy H
    have hun := (mem_ready.1 hr).1
    refine ⟨fun h => (by rw [h] at hr; cases hr), fun j hj => ?_⟩
    rcases Nat.lt_or_ge j n with hjn | hjn
    · refine ⟨hjn, ?_⟩
      by_cases e : j = i
      · subst e; exact hy.qOp hi H
      obtain ⟨hjun, oj, hoj, hall⟩ := mem_ready.1 hj
      have h2 := qOp_put hoj (hfree j oj hoj e hjun (fun x hx hb he => by have := hall x hx hb; rw [he, getD_both hun] at this; cases this)) (fun cs b => sel i oi cs b hi) (fun cs b => sel j oj cs b hoj) hy (H.2 j (ready_mono hj e)).2
      refine qOp_mono (fun a' h3 => ih (listed.setIfInBounds j true) a' (inv.set hj hjn) (fun k ok hk hki hku hkn => hfree k ok hk hki ?_ hkn) (ready_mono hr (Ne.symm e)) h3.1 ?_) h2
      · by_cases hjk : j = k
        · subst hjk; exact hjun
        · rwa [getD_set_ne true hjk] at hku
      · rw [Array.setIfInBounds_comm _ _ e]; exact h3.2
    · exact absurd hj (tail_waits hs hc hn inv _ i rfl hin hun j hjn)
theorem headQ_lex {n g : Nat} {Lq : Act → Prop} (hsel : Region.noSelect ops = true) (hs : Region.sinkB md ops n = true) (hc : Region.chainB md ops n = true) (hn : n < ops.size) (l : List Oper) :
    ∀ (k : Nat) (listed : Array Bool) (a : Act), (∀ j, j < l.length → l[j]? = ops[k + j]?) → k + l.length = n → HeadInv md ops n listed → Region.lexHead md ops g l.length k listed = true → wpQuiet P ops C Lq l a →
      HeadQ P md ops C n (fun listed' a' => Region.seqB md ops g n listed' = true ∧ Lq a') l.length listed a := by
  induction l with
  | nil =>
    intro k listed a _ hk _ hB h
    obtain rfl : k = n := by simpa using hk
    exact ⟨hB, h⟩
  | cons o l ih =>
    intro k listed a hl hk inv hB h
    have h0 : ops[k]? = some o := by have := hl 0 (by simp); rw [Nat.add_zero] at this; rw [← this]; rfl
    simp only [List.length_cons, Region.lexHead, Bool.and_eq_true] at hB
    have hkn : k < n := by simp only [List.length_cons] at hk; omega
    have hr : k ∈ Region.ready md ops listed := by simpa using hB.1.1
    obtain ⟨v, hy, hK⟩ := yieldsIn_of_qOp h0 (show qOp P ops C k (wpQuiet P ops C Lq l) a by unfold qOp; simp only [h0]; exact h)
    refine headQ_take h0 hsel hs hc hn hkn (fun listed' a' hL => seqB_ready hL.1) l.length listed a inv (Region.free_spec h0 hB.1.2) hr hy (ih (k + 1) _ _ (fun j hj => ?_) (by simp only [List.length_cons] at hk; omega) (inv.set hr hkn) hB.2 hK)
    have := hl (j + 1) (by simp; omega)
    rw [show k + (j + 1) = k + 1 + j by omega] at this
    rw [← this]; rfl
/-- The region's law at the class of the worlds of which nothing old has turned. -/
theorem wp_region_quiet_tail {id : Nat} {Q : Exit → Act → World → Prop} {a : Act} {w : World} {l : List Oper} (n : Nat) (hm : P.follows .mixedOrders = true) (hB : Region.lexTailB .any l.toArray n = true)
    (h : wpQuiet P l.toArray (fun w' => ∃ p : Regrown, w' = grow (redrawn w p.d) p.os) (fun a' => ∀ w', (∃ p : Regrown, w' = grow (redrawn w p.d) p.os) → wpList P l.toArray Q (l.drop n) a' w') (l.take n) a) : (Code.region id l.toArray true).wp P Q a w := by
  simp only [Region.lexTailB, Bool.and_eq_true, decide_eq_true_eq] at hB
  obtain ⟨⟨⟨⟨hsel, hn⟩, hs⟩, hc⟩, hlex⟩ := hB
  have hn' : n < l.length := by simpa using hn
  have htl : (l.take n).length = n := by simp; omega
  have hsz : l.toArray.size - n = (l.drop n).length := by simp
  have inv0 : HeadInv .any l.toArray n (Array.replicate l.toArray.size false) :=
    ⟨by simp, fun j oj _ hl => (by rw [getD_replicate_false] at hl; cases hl), fun t _ ht => getD_in (by simpa using ht) (getD_replicate_false _ _)⟩
  have H := headQ_lex (md := .any) (g := l.toArray.size - n) hsel hs hc hn (l.take n) 0 _ a (fun j hj => by rw [htl] at hj; simp [hj]) (by simpa using htl) inv0 (by rw [htl]; exact hlex) h
  refine wp_region_any hm ?_
  have h2 := any_of_headQ (Q' := Q) (g := l.toArray.size - n) (fun listed a' w' hw' hL => by
    have := wpAny_of_seq (md := .any) (Q' := Q) (l.drop n) n listed a' w' (fun j => by simp [List.getElem?_drop]) (by rw [← hsz]; exact hL.1) (hL.2 w' hw')
    rwa [← hsz] at this) _ _ _ { w with drawn := w.drawn + 1 } ⟨⟨w.drawn + 1, #[]⟩, by rw [grow_empty]; rfl⟩ H
  rwa [htl, show n + (l.toArray.size - n) = l.toArray.size by omega] at h2
end
end Go.Proofs.YthfgpagmepdblaaGreat
namespace Go.Proofs.YthfgpagmepdblaaGreat
open Go.ChangeShapes Go.WideShapes Go.ChangeAt Go.RowKit Go.Sort
set_option linter.unusedVariables false
set_option linter.unusedSimpArgs false
set_option maxRecDepth 100000

theorem keep_heap {W W' : World} {B : Nat} {o : Obj} (h : W.heap[B]? = some o) (hb : Below W.heap.size W W') : W'.heap[B]? = some o := by
  rw [hb.block B (Array.getElem?_eq_some_iff.1 h).1]; exact h
theorem setCell_at (w : World) (g i : Nat) (cur : Array Value) (e : TypeId) (v : Value) (h : w.heap[g]? = some (.cells cur e (0, 0))) : (w.setCell ⟨g, i, none⟩ v).heap[g]? = some (.cells (cur.setIfInBounds i v) e (0, 0)) := by
  simp [World.setCell, Array.getElem?_modify, h]
theorem grow_below {w w' : World} (h : Below w.heap.size w w') (row : Option Nat) : w.grownBy w' row := ⟨h.os, h.tape, h.output, h.size, fun i hi _ => h.block i hi⟩
theorem grow_then {a b c : World} {row : Option Nat} (h : a.grownBy b row) (k : b.grownBy c row) : a.grownBy c row :=
  ⟨k.os.trans h.os, k.tape.trans h.tape, k.output.trans h.output, Nat.le_trans h.size k.size, fun i hi hne => (k.block i (Nat.lt_of_lt_of_le hi h.size) hne).trans (h.block i hi hne)⟩
theorem grow_cell (w : World) (g i : Nat) (v : Value) : w.grownBy (w.setCell ⟨g, i, none⟩ v) (some g) := ⟨rfl, rfl, rfl, by simp, fun j hj hne => Below.heap_setCell w ⟨g, i, none⟩ v j (fun e => hne (by rw [e]))⟩
theorem grow_drew (w : World) (row : Option Nat) : w.grownBy w.drew row := ⟨rfl, rfl, rfl, Nat.le_refl _, fun _ _ _ => rfl⟩
theorem below_of_grow {B g : Nat} {a w w' : World} (h : Below B a w) (hg : w.grownBy w' (some g)) (hB : B ≤ w.heap.size) (hr : B ≤ g) : Below B a w' := h.grown hg hB (fun k hk => by injection hk with hk; omega)
def wrA : Array Value → Nat → List Value → Array Value
  | cur, _, [] => cur
  | cur, o, v :: r => wrA (cur.setIfInBounds o v) (o + 1) r
theorem wrA_size (cur : Array Value) (o : Nat) (vs : List Value) : (wrA cur o vs).size = cur.size := by
  induction vs generalizing cur o with
  | nil => rfl
  | cons v r ih => rw [wrA, ih]; simp
theorem setCells_row (vs : List Value) : ∀ (w : World) (b o : Nat) (cur : Array Value) (t : TypeId), w.heap[b]? = some (.cells cur t (0, 0)) → (w.setCells b o vs).heap[b]? = some (.cells (wrA cur o vs) t (0, 0)) := by
  induction vs with
  | nil => intro w b o cur t h; exact h
  | cons v r ih => intro w b o cur t h; exact ih _ b (o + 1) _ t (setCell_at w b o cur t v h)
theorem setCells_grown (vs : List Value) : ∀ (w : World) (b o : Nat), w.grownBy (w.setCells b o vs) (some b) := by
  induction vs with
  | nil => intro w b o; exact World.grownBy.refl _ _
  | cons v r ih => intro w b o; exact grow_then (grow_cell w b o v) (ih _ b (o + 1))
theorem range_cell {W : World} {b o : Nat} {cs : List Value} (h : W.rangeAt b o cs) (j : Nat) (hj : j < cs.length) : W.cell? ⟨b, o + j, none⟩ = some (cs[j]'hj) := h j _ (List.getElem?_eq_getElem hj)
theorem range_keep {W W' : World} {b o : Nat} {cs : List Value} (h : W.rangeAt b o cs) (hb : W'.heap[b]? = W.heap[b]?) : W'.rangeAt b o cs := fun j v hv => by
  rw [World.cell?_of_block (w := W) (a := ⟨b, o + j, none⟩) hb]; exact h j v hv
theorem there_keep {W W' : World} {b o n : Nat} (h : W.there b o n) (hb : W'.heap[b]? = W.heap[b]?) : W'.there b o n := fun j hj => by
  rw [World.cell?_of_block (w := W) (a := ⟨b, o + j, none⟩) hb, World.frozen?_of_block (w := W) (a := ⟨b, o + j, none⟩) hb]; exact h j hj

section
variable {α : Type} {enc : α → List Value} {t sz : Nat}
/-- Block g is just the elements of P. -/
structure RowG (enc : α → List Value) (t sz g : Nat) (P : List α) (W : World) : Prop where
  row : ∃ cur, W.heap[g]? = some (.cells cur t (0, 0))
  each : ∀ i (h : i < P.length), W.rangeAt g (i * sz) (enc (P[i]'h))
  len : ∀ x, (enc x).length = sz
theorem RowG.lt {g : Nat} {P : List α} {W : World} (h : RowG enc t sz g P W) : g < W.heap.size := by
  obtain ⟨cur, hc⟩ := h.row; exact (Array.getElem?_eq_some_iff.1 hc).1
theorem RowG.there {g : Nat} {P : List α} {W : World} (h : RowG enc t sz g P W) (i : Nat) (hi : i < P.length) : W.there g (i * sz) sz := fun j hj => by
  obtain ⟨cur, hc⟩ := h.row
  exact ⟨(h.each i hi).isSome j (by rw [h.len]; exact hj), Lib.frozen_of_heap hc _⟩
theorem RowG.set {g : Nat} {P : List α} {W : World} (h : RowG enc t sz g P W) (i : Nat) (hi : i < P.length) (x : α) : RowG enc t sz g (P.set i x) (W.setCells g (i * sz) (enc x)) := by
  obtain ⟨cur, hc⟩ := h.row
  refine ⟨⟨_, setCells_row (enc x) W g (i * sz) cur t hc⟩, fun j hj => ?_, h.len⟩
  rw [List.length_set] at hj
  by_cases e : i = j
  · subst e
    rw [List.getElem_set_self]
    exact World.rangeAt_setCells_same W g (i * sz) (enc x) (by rw [h.len]; exact h.there i hi)
  · rw [List.getElem_set_ne e]
    refine World.rangeAt_setCells_apart (h.each j hj) g (i * sz) (enc x) ?_
    rw [h.len, h.len]
    rcases Nat.lt_or_ge i j with hij | hij
    · right; right; have := Nat.mul_le_mul_right sz (show i + 1 ≤ j from hij); rw [Nat.add_mul, Nat.one_mul] at this; exact this
    · right; left; have := Nat.mul_le_mul_right sz (show j + 1 ≤ i by omega); rw [Nat.add_mul, Nat.one_mul] at this; exact this
/-- One cell of an element is turned. -/
theorem RowG.put {g : Nat} {P : List α} {W : World} (h : RowG enc t sz g P W) (i : Nat) (hi : i < P.length) (k : Nat) (hk : k < sz) (v : Value) (x : α) (hx : enc x = (enc (P[i]'hi)).set k v) : RowG enc t sz g (P.set i x) (W.setCell ⟨g, i * sz + k, none⟩ v) := by
  obtain ⟨cur, hc⟩ := h.row
  have hsome : (W.cell? ⟨g, i * sz + k, none⟩).isSome = true := (h.there i hi k hk).1
  refine ⟨⟨_, setCell_at W g (i * sz + k) cur t v hc⟩, fun j hj => ?_, h.len⟩
  rw [List.length_set] at hj
  intro m u hu
  by_cases e : i = j
  · subst e
    rw [List.getElem_set_self, hx] at hu
    by_cases hm : m = k
    · subst hm
      obtain ⟨y, hy⟩ := Option.isSome_iff_exists.1 hsome
      rw [World.cell?_setCell_same _ _ _ hy]
      rw [List.getElem?_set_self (by rw [h.len]; exact hk)] at hu; exact hu
    · rw [World.cell?_setCell_other _ _ _ _ (fun e => by injection e with e1 e2; omega)]
      rw [List.getElem?_set_ne (Ne.symm hm)] at hu
      exact h.each i hi m u hu
  · rw [List.getElem_set_ne e] at hu
    have hm : m < sz := by have := (List.getElem?_eq_some_iff.1 hu).1; rwa [h.len] at this
    rw [World.cell?_setCell_other _ _ _ _ (fun e2 => by
      injection e2 with e1 e2
      rcases Nat.lt_or_ge i j with hij | hij
      · have := Nat.mul_le_mul_right sz (show i + 1 ≤ j from hij); rw [Nat.add_mul, Nat.one_mul] at this; omega
      · have := Nat.mul_le_mul_right sz (show j + 1 ≤ i by omega); rw [Nat.add_mul, Nat.one_mul] at this; omega)]
    exact h.each j hj m u hu
theorem RowG.keep {g : Nat} {P : List α} {W W' : World} (h : RowG enc t sz g P W) (hb : W'.heap[g]? = W.heap[g]?) : RowG enc t sz g P W' := by
  obtain ⟨cur, hc⟩ := h.row
  exact ⟨⟨cur, hb.trans hc⟩, fun i hi => range_keep (h.each i hi) hb, h.len⟩
theorem RowG.call {g : Nat} {P : List α} {W W' : World} (h : RowG enc t sz g P W) (hb : Below W.heap.size W W') : RowG enc t sz g P W' := h.keep (hb.block g h.lt)
theorem RowG.other {g : Nat} {P : List α} {W W' : World} (h : RowG enc t sz g P W) {r : Option Nat} (hg : W.grownBy W' r) (hne : some g ≠ r) : RowG enc t sz g P W' := h.keep (hg.block g h.lt hne)
theorem RowG.drew {g : Nat} {P : List α} {W : World} (h : RowG enc t sz g P W) : RowG enc t sz g P W.drew := h.keep rfl
theorem RowG.alloc {g : Nat} {P : List α} {W : World} (h : RowG enc t sz g P W) (o : Obj) : RowG enc t sz g P (W.alloc o) := h.call ((Below.refl _ _).alloc (Nat.le_refl _) o)
theorem RowG.new {W : World} {cs : Array Value} {P : List α} (hlen : ∀ x, (enc x).length = sz) (hc : cs.toList = P.flatMap enc) : RowG enc t sz W.heap.size P (W.alloc (.cells cs t)) := by
  have hh := heap_alloc_new W (.cells cs t)
  refine ⟨⟨cs, hh⟩, fun i hi j v hv => ?_, hlen⟩
  rw [Lib.cell_of_heap hh]
  have hj : j < sz := by have := (List.getElem?_eq_some_iff.1 hv).1; rwa [hlen] at this
  have key : ∀ (P : List α) (i : Nat) (hi : i < P.length), (enc (P[i]'hi))[j]? = some v → (P.flatMap enc)[i * sz + j]? = some v := by
    intro P
    induction P with
    | nil => intro i hi; cases hi
    | cons x P ih =>
      intro i hi hv
      rw [List.flatMap_cons]
      cases i with
      | zero => rw [List.getElem?_append_left (by rw [hlen]; omega), Nat.zero_mul, Nat.zero_add]; exact hv
      | succ i =>
        rw [List.getElem?_append_right (by rw [hlen, Nat.add_mul]; omega), hlen, show (i + 1) * sz + j - sz = i * sz + j by rw [Nat.add_mul]; omega]
        exact ih i (by simpa using hi) hv
  have := key P i hi hv
  rw [← hc] at this
  simpa using this
/-- A slice of such elements; of one without elements nothing is said. -/
def Rw (enc : α → List Value) (sz : Nat) (W : World) (p : Option Addr) (l : List α) : Prop :=
  0 < l.length → ∃ b o, p = some ⟨b, o, none⟩ ∧ b < W.heap.size ∧ ∀ i (h : i < l.length), W.rangeAt b (o + i * sz) (enc (l[i]'h))
theorem Rw.nil (W : World) (p : Option Addr) : Rw enc sz W p [] := fun h => by cases h
theorem Rw.keep {W W' : World} {p : Option Addr} {l : List α} (h : Rw enc sz W p l) (hs : W.heap.size ≤ W'.heap.size) (hb : ∀ a, p = some a → a.block < W.heap.size → W'.heap[a.block]? = W.heap[a.block]?) : Rw enc sz W' p l := fun h0 => by
  obtain ⟨b, o, hp, hlt, hc⟩ := h h0
  exact ⟨b, o, hp, Nat.lt_of_lt_of_le hlt hs, fun i hi => range_keep (hc i hi) (hb _ hp hlt)⟩
theorem Rw.call {W W' : World} {p : Option Addr} {l : List α} (h : Rw enc sz W p l) (hb : Below W.heap.size W W') : Rw enc sz W' p l := h.keep hb.size fun a ha hlt => hb.block _ hlt
theorem Rw.other {W W' : World} {p : Option Addr} {l : List α} (h : Rw enc sz W p l) {g : Nat} (hg : W.grownBy W' (some g)) (hne : ∀ a, p = some a → a.block ≠ g) : Rw enc sz W' p l := h.keep hg.size fun a ha hlt => hg.block _ hlt (fun e => by injection e with e; exact hne a ha e)
theorem RowG.rw {g : Nat} {P : List α} {W : World} (h : RowG enc t sz g P W) : Rw enc sz W (some ⟨g, 0, none⟩) P := fun _ => ⟨g, 0, rfl, h.lt, fun i hi => by rw [Nat.zero_add]; exact h.each i hi⟩
end
section
variable {P : Program}
theorem step_load_mid {ops : Array Oper} {o : Oper} {a : Act} {w : World} {K : Act → World → Prop} {Q : Exit → Act → World → Prop} {E : Prop} (hgd : o.guard = none) (ty : TypeId) (x : Operand) (ho : o.op = .load ty x)
    (b off : Nat) (hx : a.eval x = .pointer (some ⟨b, off, none⟩)) (cs : List Value) (d : TypeDesc) (hc : w.rangeAt b off cs) (hu : P.underlying ty = some d) (hd : d.isRow = true) (hi : (P.info? ty).map (·.size) = some cs.length)
    (h : K (a.put o.dst (.agg cs.toArray)) w) : if Region.wanted o (yielded ops a.tmps) = true then Oper.wp P o a w K Q else E := by
  have hw : Region.wanted o (yielded ops a.tmps) = true := by simp [Region.wanted, hgd]
  rw [if_pos hw]
  exact wp_load_mid ty x ho b off hx cs d hc hu hd hi h
theorem step_store_mid {ops : Array Oper} {o : Oper} {a : Act} {w : World} {K : Act → World → Prop} {Q : Exit → Act → World → Prop} {E : Prop} (hgd : o.guard = none) (ty : TypeId) (x y : Operand) (ho : o.op = .store ty x y)
    (b off : Nat) (cells : Array Value) (hx : a.eval x = .pointer (some ⟨b, off, none⟩)) (hy : a.eval y = .agg cells) (ht : w.there b off cells.size) (hi : (P.info? ty).map (·.size) = some cells.size) (h1 : cells.all (·.oneCell') = true)
    (h : K (a.put o.dst undef) (w.setCells b off cells.toList)) : if Region.wanted o (yielded ops a.tmps) = true then Oper.wp P o a w K Q else E := by
  have hw : Region.wanted o (yielded ops a.tmps) = true := by simp [Region.wanted, hgd]
  rw [if_pos hw]
  exact wp_store_mid ty x y ho b off cells hx hy ht hi h1 h
end
theorem there_of {W : World} {g n : Nat} {cs : Array Value} {t : TypeId} (h : W.heap[g]? = some (.cells cs t (0, 0))) (hn : n ≤ cs.size) : W.there g 0 n := fun j hj =>
  ⟨by rw [Lib.cell_of_heap h]; simp; omega, Lib.frozen_of_heap h _⟩
theorem heap_lt {W : World} {g : Nat} {o : Obj} (h : W.heap[g]? = some o) : g < W.heap.size := (Array.getElem?_eq_some_iff.1 h).1
theorem drew_below (w : World) : Below w.heap.size w w.drew := ⟨rfl, rfl, rfl, Nat.le_refl _, fun _ _ => rfl⟩
end Go.Proofs.YthfgpagmepdblaaGreat
namespace Go.Proofs.YthfgpagmepdblaaGreat
open Go.ChangeShapes Go.WideShapes Go.ChangeAt Go.RowKit Go.Sort
set_option linter.unusedVariables false
set_option linter.unusedSimpArgs false
set_option maxRecDepth 100000

def penc (x : It) (i : Int) : List Value := [.int .i64 x.k, .string x.t, .int .i64 x.id, .int .i64 i, .int .i64 (wtT x.k), .int .i64 (stp x), .string (keyT x.k x.t)]
theorem penc_len (x : It) (i : Int) : (penc x i).length = 7 := rfl
theorem penc_one (x : It) (i : Int) : (penc x i).toArray.all (·.oneCell') = true := all_oneCell_toArray fun v hv => by
  simp [penc] at hv; rcases hv with rfl | rfl | rfl | rfl | rfl | rfl | rfl <;> rfl
end Go.Proofs.YthfgpagmepdblaaGreat
