/- Tags of a fragment. The numbers of a fragment: the reference's. firstTags and Numbers of package item. The contract of Validate. Contracts of the reference's Check and Validate. The contract of the reference's Check at every kind, and of its Validate. The contracts of both Validates at any items. The contract of the fixed example. The walk of ItemConcats. The generator of fragments as a function of its numbers. Sizes of what the generator makes. Place, and the numbers that the generator draws from. The generator's words and lines. Two slices of numbers that a call makes side by side; what Shape answers. The generator of fragments: what a round has in hand. Rename. The reference's Rename. Renumber and Canonical. -/
import Derived.Test.YthfgpagmepdblaaGreatNrw
import Derived.Test.YthfgpagmepdblaaGreatRnr
import Derived.Test.YthfgpagmepdblaaGreatArg
import Derived.Test.YthfgpagmepdblaaGreatSam
import Derived.Test.YthfgpagmepdblaaGreatVal
import Derived.Carry
import Derived.BigQuiet
import Derived.Deep.QuietTactic
import Derived.Test.YthfgpagmepdblaaGreatPln
import Derived.Test.YthfgpagmepdblaaGreatNrq
import Derived.Test.YthfgpagmepdblaaGreatNrmM
import Derived.Test.YthfgpagmepdblaaGreatNrm
import Derived.Deep.CutRange
import Derived.Deep.CutBlock
import Derived.Deep.Cut
import Derived.StillTailTactics
namespace Go.Proofs.YthfgpagmepdblaaGreat
open Go.ChangeShapes Go.WideShapes Go.ChangeAt Go.RowKit
set_option linter.unusedVariables false
set_option maxRecDepth 100000

def tagsL (l : List It) : List It := l.filter fun x => isT x.k
theorem tags_next (l : List It) (k : Nat) (h : k < l.length) : tagsL (l.take (k + 1)) = tagsL (l.take k) ++ (if isT (l[k]'h).k = true then [l[k]'h] else []) := by
  rw [List.take_succ_eq_append_getElem h]; unfold tagsL; rw [List.filter_append]
  congr 1
  cases hh : isT (l[k]'h).k <;> simp [hh]
theorem tags_len (l : List It) : (tagsL l).length ≤ l.length := List.length_filter_le _ _
theorem txt_filter (p : It → Bool) (l : List It) : txtI (l.filter p) ≤ txtI l := by
  induction l with
  | nil => exact Nat.le_refl _
  | cons x t ih =>
    rw [List.filter_cons]
    have e : txtI (x :: t) = x.t.size + txtI t := rfl
    split
    · have e2 : txtI (x :: t.filter p) = x.t.size + txtI (t.filter p) := rfl
      omega
    · omega

end Go.Proofs.YthfgpagmepdblaaGreat
namespace Go.Proofs.YthfgpagmepdblaaGreat
open Go.ChangeShapes Go.WideShapes Go.ChangeAt Go.RowKit
set_option linter.unusedVariables false
set_option maxRecDepth 100000

def numS (out : List Int) (x : It) : List Int := if isT x.k = true ∧ x.id ∉ out then out ++ [x.id] else out
def numsL (l : List It) : List Int := l.foldl numS []
theorem nums_next (l : List It) (k : Nat) (h : k < l.length) : numsL (l.take (k + 1)) = numS (numsL (l.take k)) (l[k]'h) := by
  rw [List.take_succ_eq_append_getElem h]; unfold numsL; rw [List.foldl_append]; rfl
theorem numS_len (out : List Int) (x : It) : (numS out x).length ≤ out.length + 1 := by unfold numS; split <;> simp
theorem nums_len (l : List It) : ∀ k, k ≤ l.length → (numsL (l.take k)).length ≤ k := by
  intro k
  induction k with
  | zero => intro _; simp [numsL]
  | succ j ih =>
    intro hj
    rw [nums_next l j hj]
    have := numS_len (numsL (l.take j)) l[j]; have := ih (by omega); omega
theorem Ones.row {W : World} {p : Option Addr} {l : List Int} (h : Ones W (Value.int .i64) p l) (i : Nat) (hi : i < l.length) : ∃ a, p = some a ∧ a.block < W.heap.size ∧ W.cell? (a.add i) = some (.int .i64 (l[i]'hi)) := by
  obtain ⟨a, hp, hlt, hc⟩ := h (by omega)
  exact ⟨a, hp, hlt, hc i hi⟩

/-- What a call that answers numbers says. -/
def EndN (L : List Int) (w : World) (e : Ending) (w' : World) : Prop := ∃ v, e = .returned v ∧ AccN w L v w'

def upL (n : Nat) : List Int := (List.range n).map fun (i : Nat) => (i : Int) + 1
theorem upL_next (k : Nat) : upL (k + 1) = upL k ++ [(k : Int) + 1] := by unfold upL; rw [List.range_succ, List.map_append]; rfl
theorem upL_len (k : Nat) : (upL k).length = k := by unfold upL; simp
end Go.Proofs.YthfgpagmepdblaaGreat
namespace Go.Proofs.YthfgpagmepdblaaGreat
open Go.ChangeShapes Go.WideShapes Go.ChangeAt Go.RowKit
set_option linter.unusedVariables false
set_option maxRecDepth 100000

def fstS (out : List It) (x : It) : List It := if x.id ∈ out.map It.id then out else out ++ [x]
def fstL (l : List It) : List It := l.foldl fstS []
def firsts (l : List It) : List It := fstL (tagsL l)
theorem fst_next (l : List It) (k : Nat) (h : k < l.length) : fstL (l.take (k + 1)) = fstS (fstL (l.take k)) (l[k]'h) := by
  rw [List.take_succ_eq_append_getElem h]; unfold fstL; rw [List.foldl_append]; rfl
theorem fstS_len (out : List It) (x : It) : (fstS out x).length ≤ out.length + 1 := by unfold fstS; split <;> simp
theorem fst_len (l : List It) : ∀ k, k ≤ l.length → (fstL (l.take k)).length ≤ k := by
  intro k
  induction k with
  | zero => intro _; simp [fstL]
  | succ j ih =>
    intro hj
    rw [fst_next l j hj]
    have := fstS_len (fstL (l.take j)) l[j]; have := ih (by omega); omega
theorem firsts_len (l : List It) : (firsts l).length ≤ l.length := by
  have h := fst_len (tagsL l) _ (Nat.le_refl _)
  rw [List.take_length] at h
  have := tags_len l
  unfold firsts; omega
theorem nums_firsts (l : List It) : (firsts l).map It.id = numsL l := by
  have : ∀ (l : List It) (out : List It), ((l.filter (fun x => isT x.k)).foldl fstS out).map It.id = l.foldl numS (out.map It.id) := by
    intro l
    induction l with
    | nil => intro out; rfl
    | cons x t ih =>
      intro out
      rw [List.filter_cons, List.foldl_cons]
      cases q : isT x.k
      · rw [if_neg (by simp), ih, show numS (out.map It.id) x = out.map It.id from if_neg (by simp [q])]
      · rw [if_pos rfl, List.foldl_cons, ih]
        congr 1
        unfold fstS numS
        by_cases h : x.id ∈ out.map It.id
        · rw [if_pos h, if_neg (fun c => c.2 h)]
        · rw [if_neg h, if_pos ⟨q, h⟩]; simp
  exact this l []
def seenF (out : List It) (id : Int) : Option Bool := if id ∈ out.map It.id then some true else none
theorem txt_fst (l : List It) : ∀ out, txtI (l.foldl fstS out) ≤ txtI out + txtI l := by
  induction l with
  | nil => intro out; exact Nat.le_refl _
  | cons x t ih =>
    intro out
    rw [List.foldl_cons]
    have h1 := ih (fstS out x)
    have h2 : txtI (fstS out x) ≤ txtI out + x.t.size := by
      unfold fstS; split
      · omega
      · rw [txtI_snoc]; omega
    have h3 : txtI (x :: t) = x.t.size + txtI t := rfl
    omega
theorem Oks.tags {l : List It} (h : Oks l) : Oks (tagsL l) := fun i hi => by
  have : (tagsL l)[i] ∈ l := (List.mem_filter.1 (List.getElem_mem hi)).1
  obtain ⟨j, hj, e⟩ := List.getElem_of_mem this
  rw [← e]; exact h j hj

/-! ### worlds in which one old block turns -/
theorem OwnL.keep {α : Type} {e size : Nat} {enc : α → List Value} {base : Nat} {L : List α} {v : Value} {w w1 : World} (h : OwnL e size enc base L v w) (hs : w.heap.size ≤ w1.heap.size) (hb : ∀ k, base ≤ k → k < w.heap.size → w1.heap[k]? = w.heap[k]?) : OwnL e size enc base L v w1 := by
  obtain ⟨h1, h2⟩ := h
  refine ⟨h1, ?_⟩
  rcases h2 with h2 | ⟨g, cap, cur, hv, hg, hh, r⟩
  · exact .inl h2
  · refine .inr ⟨g, cap, cur, hv, hg, ?_, r⟩
    have hlt : g < w.heap.size := by
      rcases Nat.lt_or_ge g w.heap.size with hlt | hge
      · exact hlt
      · rw [Array.getElem?_eq_none hge] at hh; cases hh
    rw [hb g hg hlt]; exact hh
theorem OwnL.other {α : Type} {e size : Nat} {enc : α → List Value} {base M : Nat} {L : List α} {v : Value} {w w1 : World} (h : OwnL e size enc base L v w) (hg : w.grownBy w1 (some M)) (hM : M < base) : OwnL e size enc base L v w1 :=
  h.keep hg.size fun k hk hlt => hg.block k hlt (fun e => by injection e; omega)
theorem OwnL.addr {α : Type} {e size : Nat} {enc : α → List Value} {base n cap : Nat} {L : List α} {p : Option Addr} {w : World} (h : OwnL e size enc base L (.slice p n cap) w) : ∀ a, p = some a → base ≤ a.block ∧ a.block < w.heap.size := fun a ha => by
  rcases h.2 with ⟨hv, _⟩ | ⟨g, c, cur, hv, hg, hh, _⟩
  · injection hv with h1; rw [ha] at h1; cases h1
  · injection hv with h1; rw [ha] at h1; injection h1 with h1; subst h1
    refine ⟨hg, ?_⟩
    rcases Nat.lt_or_ge g w.heap.size with hlt | hge
    · exact hlt
    · rw [Array.getElem?_eq_none hge] at hh; cases hh
theorem Its.keep {W w1 : World} {p : Option Addr} {l : List It} (h : Its W p l) (hs : W.heap.size ≤ w1.heap.size) (hb : ∀ a, p = some a → w1.heap[a.block]? = W.heap[a.block]?) : Its w1 p l := fun h0 => by
  obtain ⟨a, hp, hlt, hc⟩ := h h0
  have hh := hb a hp
  have e : ∀ n, w1.cell? (a.add n) = W.cell? (a.add n) := fun n => World.cell?_of_block (by rw [add_block]; exact hh)
  refine ⟨a, hp, Nat.lt_of_lt_of_le hlt hs, fun i hi => ?_⟩
  rw [e, e, e]; exact hc i hi
theorem Its.other {W w1 : World} {p : Option Addr} {l : List It} {M : Nat} (h : Its W p l) (hg : W.grownBy w1 (some M)) (hp : ∀ a, p = some a → a.block ≠ M) : Its w1 p l := fun h0 => by
  obtain ⟨a, ha, hlt, _⟩ := h h0
  exact (h.keep hg.size fun b hb => hg.block _ (by rw [ha] at hb; injection hb with hb; subst hb; exact hlt) (fun e => by injection e with e; exact hp b hb e)) h0
theorem Its.under {W w1 : World} {p : Option Addr} {l : List It} {B : Nat} (h : Its W p l) (hb : Below B W w1) (hp : ∀ a, p = some a → a.block < B) : Its w1 p l :=
  h.keep hb.size fun a ha => hb.block _ (hp a ha)

section
variable {α : Type} {t e size bytes : Nat} {z : Value} {enc : α → List Value}
/-- append of one element to a slice that is owned from block base on. -/
theorem wpl_append2 (E : El t e size bytes z enc) (w : World) {ops : Array Oper} {rest : List Oper} {o : Oper} {a : Act} {Q : Exit → Act → World → Prop} (hg : o.guard = none) (s x : Operand)
    (ho : o.op = .call { callee := .builtin .append, args := #[s, x], argTypes := #[t, t] }) (base : Nat) (hbase : base ≤ w.heap.size) (L : List α) (v : Value) (hs : a.eval s = v) (h : OwnL e size enc base L v w) (y : α) (B : Nat) (cs : Array Value)
    (hx : a.eval x = .slice (some ⟨B, 0, none⟩) 1 1) (hB : w.heap[B]? = some (.cells cs e (0, 0))) (hcs : cs.toList = enc y) (hlen : (L.length + 1) * bytes ≤ 140737488355328) (hlen' : L.length + 1 ≤ maxLen)
    (hK : ∀ v' w', OwnL e size enc base (L ++ [y]) v' w' → Below base w w' → wpList Tryz.prog ops Q rest (a.put o.dst v') w') : wpList Tryz.prog ops Q (o :: rest) a w := by
  obtain ⟨i, hi, hz0, hz1, hz2⟩ := E.hi
  refine wpList_append_lies w hg s x t ho base e i z size bytes E.ht hi hz0 hz1 hz2 E.hzs E.hsz v L.length (cellsOf enc L) hs h ⟨B, 0, none⟩ 1 1 (enc y) hx (by rw [E.len]; omega) ?_ (E.one y) (by omega) hlen' hlen hbase _ rfl ?_
  · rw [← hcs]; exact World.news_of_block hB
  · intro g cap w' h2 h3 h4 h5
    refine hK _ w' ?_ ((Below.refl base w).grown h3 hbase (fun k hk => (h.lt k hk).1))
    unfold OwnL; rw [List.length_append, show cellsOf enc (L ++ [y]) = cellsOf enc L ++ enc y from by unfold cellsOf; rw [List.flatMap_append]; simp]; exact h2
end

/-- What holds at each round's head of firstTags. -/
structure FRel (g : List It) (w : World) (p1 : Option Addr) (S k : Nat) (v : Value) (wr : World) : Prop where
  le : k ≤ g.length
  base : w.heap.size < S
  size : S ≤ wr.heap.size
  below : Below w.heap.size w wr
  own : OwnL 45 3 ienc S (fstL (g.take k)) v wr
  map : MapAt 3 vInt Value.bool wr w.heap.size k (seenF (fstL (g.take k)))
  its : Its wr p1 g
  addr : ∀ a, p1 = some a → a.block < S ∧ a.block ≠ w.heap.size
theorem FRel.alloc {g : List It} {w : World} {p1 : Option Addr} {S k : Nat} {v : Value} {wr : World} (h : FRel g w p1 S k v wr) (o : Obj) : FRel g w p1 S k v (wr.alloc o) :=
  ⟨h.le, h.base, by have := h.size; simp; omega, blw h.below o, World.ownsRow.alloc h.own o, h.map.alloc o, h.its.call (blw (Below.refl _ _) o), h.addr⟩

end Go.Proofs.YthfgpagmepdblaaGreat
namespace Go.Proofs.YthfgpagmepdblaaGreat
open Go.ChangeShapes Go.WideShapes Go.ChangeAt Go.RowKit
set_option linter.unusedVariables false
set_option maxRecDepth 100000

theorem lastText_snoc (P : List It) (x : It) : lastText (P ++ [x]) = decide (x.k = 1) := by unfold lastText; simp
/-- What holds at each round's head of Validate. -/
structure VRel (l : List It) (w : World) (T : Nat) (k : Nat) (wr : World) : Prop where
  le : k ≤ l.length
  ok : errL [] (l.take k) = 0
  below : Below w.heap.size w wr
  base : w.heap.size ≤ T
  var : Var2M wr (T + 2) T (T + 1)
  t : MapAt 3 vInt Value.bool wr T k (fun id => if taken (l.take k) id = true then some true else none)
  u : MapAt 3 vInt Value.string wr (T + 1) k (unc (l.take k))
theorem VRel.call {l : List It} {w : World} {T k : Nat} {wr w1 : World} (h : VRel l w T k wr) (hb : Below wr.heap.size wr w1) : VRel l w T k w1 :=
  ⟨h.le, h.ok, BelowOn h.below hb, h.base, h.var.call hb, h.t.call hb, h.u.call hb⟩
theorem VRel.alloc {l : List It} {w : World} {T k : Nat} {wr : World} (h : VRel l w T k wr) (o : Obj) : VRel l w T k (wr.alloc o) := h.call ((Below.refl _ _).alloc (Nat.le_refl _) o)
theorem VRel.next {l : List It} {w : World} {T k : Nat} {wr : World} (h : VRel l w T k wr) (hk : k < l.length) (he : errAt (l.take k) (l[k]'hk) = 0) (ht : isT (l[k]'hk).k = false) : VRel l w T (k + 1) wr := by
  refine ⟨hk, errL_take l k hk h.ok he, h.below, h.base, h.var, (h.t.mono (Nat.le_succ k)).ext fun id => ?_, (h.u.mono (Nat.le_succ k)).ext fun id => ?_⟩
  · rw [List.take_succ_eq_append_getElem hk, taken_snoc, ht]; simp
  · rw [List.take_succ_eq_append_getElem hk, unc_snoc, ht]; simp
theorem MapAt.made1 {κ β : Type} [DecidableEq κ] {kt : TypeId} {kv : κ → Value} {enc : β → Value} (w : World) (B : Nat) (hB : w.heap.size = B) : MapAt kt kv enc (w.alloc (.map #[] 0)) B 0 (fun _ => none) := by subst hB; exact MapAt.made w

end Go.Proofs.YthfgpagmepdblaaGreat
namespace Go.Proofs.YthfgpagmepdblaaGreat
open Go.ChangeShapes Go.WideShapes Go.ChangeAt Go.RowKit
set_option linter.unusedVariables false
set_option maxRecDepth 100000

theorem Var3.drewN {W : World} {b : Nat} {k id : Int} {t : ByteArray} (h : Var3 W b k t id) (n : Nat) : Var3 (W.drewN n) b k t id := ⟨h.c0, h.c1, h.c2, h.lt⟩
theorem bdrewN {b : Nat} {w w' : World} (h : Below b w w') (n : Nat) : Below b w (w'.drewN n) := ⟨h.os, h.tape, h.output, h.size, h.block⟩
def chkE (b : Bool) (P : List It) (x : It) : Int := if b = false then 1 else if tagBad P x = true then 7 else 0
theorem chkE_1 (P : List It) (x : It) : chkE false P x = 1 := rfl
theorem chkE_7 {P : List It} {x : It} (h : tagBad P x = true) : chkE true P x = 7 := by unfold chkE; rw [if_neg (by simp), if_pos h]
theorem chkE_0 {P : List It} {x : It} (h : tagBad P x = false) : chkE true P x = 0 := by unfold chkE; rw [if_neg (by simp), if_neg (by simp [h])]
/-- The loop of Check: the tags ahead. -/
theorem tagBad_yes (P : List It) (x : It) (k : Nat) (hk : k < P.length) (h : clash x (P[k]'hk) = true) : tagBad P x = true := by
  unfold tagBad; rw [List.any_eq_true]; exact ⟨_, List.getElem_mem hk, h⟩
theorem tagBad_no (P : List It) (x : It) (h : ∀ j (hj : j < P.length), clash x (P[j]'hj) = false) : tagBad P x = false := by
  unfold tagBad; rw [List.any_eq_false]
  intro y hy
  obtain ⟨j, hj, rfl⟩ := List.getElem_of_mem hy
  rw [h j hj]; simp
theorem rname_q (s : ByteArray) (w : World) (n : Nat) (hs : s.size ≤ maxLen) : Calls Tryz.prog 33 #[.string s] (w.drewN n) fun e w' => e = .returned (.string (nameB s)) ∧ w' = w.drewN n :=
  (rname_any s (w.drewN n) hs).mono fun e w' ⟨he, hw⟩ => ⟨he, hw.symm⟩

end Go.Proofs.YthfgpagmepdblaaGreat
namespace Go.Proofs.YthfgpagmepdblaaGreat
open Go.ChangeShapes Go.WideShapes Go.ChangeAt Go.RowKit
set_option linter.unusedVariables false
set_option linter.unusedSimpArgs false
set_option maxRecDepth 100000

theorem lastText_at (P : List It) (h : 0 < P.length) : lastText P = decide ((P[P.length - 1]'(by omega)).k = 1) := by
  unfold lastText
  rw [List.getLast?_eq_getElem?, List.getElem?_eq_getElem (by omega)]
theorem errAt_1 (P : List It) (x : It) (h : x.k = 1) : errAt P x = if x.t.size = 0 ∨ x.id ≠ 0 ∨ lastText P = true then 1 else 0 := by
  have ht : isT x.k = false := by rw [h]; rfl
  have hp : properB x = (decide (x.t.size ≠ 0) && decide (x.id = 0)) := by unfold properB; rw [if_pos h]
  unfold errAt
  rw [hp]
  by_cases h1 : x.t.size = 0 <;> by_cases h2 : x.id = 0 <;> by_cases h3 : lastText P = true <;> simp [h, h1, h2, h3, ht]
  all_goals (rw [show isT 1 = false from rfl]; simp)
theorem errAt_5 (P : List It) (x : It) (h : x.k = 5) : errAt P x = if (isNm x.t && decide (x.id = 0)) = false then 1 else 0 := by
  have ht : isT x.k = false := by rw [h]; rfl
  have hp : properB x = (isNm x.t && decide (x.id = 0)) := by unfold properB; rw [if_neg (by omega), if_neg (by omega), if_neg (by omega), if_pos h]
  unfold errAt
  rw [hp, ht]
  cases hb : (isNm x.t && decide (x.id = 0))
  · rw [if_pos (.inl rfl)]; rfl
  · rw [if_neg (by rintro (h' | h'); cases h'; omega), if_neg (by simp)]; rfl
theorem errAt_T (P : List It) (x : It) (b : Bool) (h : isT x.k = true) (hp : properB x = b) : errAt P x = chkE b P x := by
  have h1 : x.k ≠ 1 := by intro e; rw [e] at h; cases h
  unfold errAt chkE
  rw [hp, h]
  cases b
  · rw [if_pos (.inl rfl), if_pos rfl]
  · by_cases hb : tagBad P x = true <;> simp [h1, hb]
theorem errAt_0 (P : List It) (x : It) (h1 : x.k ≠ 1) (h2 : x.k ≠ 2) (h3 : x.k ≠ 3) (h4 : x.k ≠ 4) (h5 : x.k ≠ 5) : errAt P x = 1 := by
  have hp : properB x = false := by unfold properB; rw [if_neg h1, if_neg (by omega), if_neg h3, if_neg h5]
  unfold errAt
  rw [if_pos (.inl hp)]

end Go.Proofs.YthfgpagmepdblaaGreat
namespace Go.Proofs.YthfgpagmepdblaaGreat
open Go.ChangeShapes Go.WideShapes Go.ChangeAt Go.RowKit
set_option linter.unusedVariables false
set_option maxRecDepth 100000

theorem Its.take {W : World} {p : Option Addr} {l : List It} (h : Its W p l) (k : Nat) : Its W p (l.take k) := fun h0 => by
  obtain ⟨a, hp, hlt, hc⟩ := h (by simp at h0; omega)
  refine ⟨a, hp, hlt, fun i hi => ?_⟩
  have hi' : i < l.length := by simp at hi; omega
  simpa using hc i hi'
theorem Oks.take {l : List It} (h : Oks l) (k : Nat) : Oks (l.take k) := fun i hi => by
  have hi' : i < l.length := by simp at hi; omega
  simpa using h i hi'
theorem wid_le (x : It) (h : x.ok) : wid x ≤ 140737488355328 := by unfold wid; have := h.t; split <;> omega
theorem lenI_le (l : List It) (h : Oks l) : lenI l ≤ l.length * 140737488355328 := by
  have : ∀ k, k ≤ l.length → lenI (l.take k) ≤ k * 140737488355328 := by
    intro k
    induction k with
    | zero => intro _; simp [lenI]
    | succ j ih =>
      intro hj
      rw [lenI_next l j (by omega)]
      have := ih (by omega)
      have := wid_le _ (h j (by omega))
      omega
  have := this l.length (Nat.le_refl _)
  rwa [List.take_length] at this

end Go.Proofs.YthfgpagmepdblaaGreat
namespace Go.Proofs.YthfgpagmepdblaaGreat
open Go.ChangeShapes Go.WideShapes Go.ChangeAt Go.RowKit
set_option linter.unusedVariables false
set_option maxRecDepth 100000

/-- A slice literal. -/
theorem Its.lit {W : World} {B : Nat} {cs : Array Value} {fr : Nat × Nat} {l : List It} (h : W.heap[B]? = some (.cells cs 45 fr)) (hc : cs.toList = icells l) : Its W (some ⟨B, 0, none⟩) l := fun h0 => by
  refine ⟨_, rfl, (Array.getElem?_eq_some_iff.1 h).1, fun i hi => ?_⟩
  obtain ⟨c0, c1, c2⟩ := icells_at l i hi
  have hn := World.news_of_block h
  rw [hc] at hn
  exact ⟨hn _ _ c0, hn _ _ c1, hn _ _ c2⟩
def k0 : List It := [⟨2, ⟨#[98]⟩, 1⟩, ⟨1, ⟨#[97, 98]⟩, 0⟩, ⟨3, ⟨#[98]⟩, 1⟩]
def k1 : List It := [⟨1, ⟨#[98]⟩, 0⟩, ⟨3, ⟨#[98]⟩, 1⟩]
theorem Oks.of {l : List It} (h : ∀ x ∈ l, x.ok) : Oks l := fun i hi => h _ (List.getElem_mem hi)
theorem k0_ok : Oks k0 := Oks.of fun x hx => by
  unfold k0 at hx
  rcases List.mem_cons.1 hx with rfl | hx
  · exact ⟨by decide, by decide, by decide⟩
  rcases List.mem_cons.1 hx with rfl | hx
  · exact ⟨by decide, by decide, by decide⟩
  rcases List.mem_cons.1 hx with rfl | hx
  · exact ⟨by decide, by decide, by decide⟩
  · cases hx
theorem k0_val : valE k0 = 0 := by decide +kernel
theorem k0_len : lenI k0 = 4 := by decide +kernel
theorem k0_slice : sliceI k0 2 4 = k1 := by decide +kernel
theorem k0_sliceOk : sliceOk k0 2 4 = true := by decide +kernel
end Go.Proofs.YthfgpagmepdblaaGreat
namespace Go.Proofs.YthfgpagmepdblaaGreat
open Go.ChangeShapes Go.WideShapes Go.ChangeAt Go.RowKit
set_option linter.unusedVariables false
set_option maxRecDepth 100000

/-- A fragment of at most n times what is few. -/
structure Sm (n : Nat) (l : List It) : Prop where
  len : l.length ≤ 60 * n
  txt : txtI l ≤ 2000 * n
theorem Sm.of {l : List It} (h : fewB l = true) : Sm 1 l := by
  unfold fewB at h; rw [Bool.and_eq_true] at h
  exact ⟨by have := of_decide_eq_true h.1; omega, by have := of_decide_eq_true h.2; omega⟩
theorem lenI_txt (l : List It) : lenI l ≤ txtI l + l.length := by
  induction l with
  | nil => exact Nat.le_refl _
  | cons x t ih =>
    show wid x + lenI t ≤ x.t.size + txtI t + (t.length + 1)
    have : wid x ≤ x.t.size + 1 := by unfold wid; split <;> omega
    omega
theorem Sm.lenI {n : Nat} {l : List It} (h : Sm n l) : lenI l ≤ 2060 * n := by have := lenI_txt l; have := h.len; have := h.txt; omega
theorem txt_normed (l : List It) : txtI (norm l) ≤ txtI l := by
  have := txt_norms l l.length (Nat.le_refl _)
  rwa [List.take_length] at this
theorem Sm.norm {n : Nat} {l : List It} (h : Sm n l) : Sm n (YthfgpagmepdblaaGreat.norm l) := ⟨by have := norm_len l; have := h.len; omega, by have := txt_normed l; have := h.txt; omega⟩
theorem Sm.cat {a b : Nat} {l m : List It} (h : Sm a l) (k : Sm b m) : Sm (a + b) (YthfgpagmepdblaaGreat.norm (l ++ m)) :=
  Sm.norm ⟨by have := h.len; have := k.len; rw [List.length_append]; omega, by have := h.txt; have := k.txt; rw [txtI_append]; omega⟩
theorem Sm.nil : Sm 0 [] := ⟨by simp, by simp [txtI]⟩

/-- What a call that answers a fragment says. -/
def EndF (L : List It) (w : World) (e : Ending) (w' : World) : Prop := ∃ p c, e = .returned (.slice p L.length c) ∧ L.length ≤ c ∧ c ≤ maxLen ∧ Its w' p L ∧ Below w.heap.size w w'
theorem EndI.f {L : List It} {w w' : World} {e : Ending} (h : EndI L w e w') : EndF L w e w' := by
  obtain ⟨v, rfl, hA⟩ := h
  obtain ⟨p, c, rfl, h1, h2, hI⟩ := hA.own.its
  exact ⟨p, c, rfl, h1, h2, hI, hA.below⟩
theorem plain_size {n : Nat} {l : List It} (h : Sm n l) : (⟨(plainL l).toArray⟩ : ByteArray).size ≤ 2060 * n := by
  have h1 := plain_len l l.length (Nat.le_refl _)
  rw [List.take_length] at h1
  have h2 : (⟨(plainL l).toArray⟩ : ByteArray).size = (plainL l).length := by show (plainL l).toArray.size = _; simp
  rw [h2]; have := h.len; have := h.txt; omega

end Go.Proofs.YthfgpagmepdblaaGreat
namespace Go.Proofs.YthfgpagmepdblaaGreat
set_option linter.unusedVariables false

/-- The number that is drawn at place m, below n. -/
def nx (L : List Int) (m n : Nat) : Nat := ((L.getD m 0) % (n : Int)).toNat
theorem nx_lt (L : List Int) (m n : Nat) (h : 0 < n) : nx L m n < n := by
  have h1 := Int.emod_lt_of_pos (L.getD m 0) (show (0 : Int) < n by omega)
  have h2 := Int.emod_nonneg (L.getD m 0) (show (n : Int) ≠ 0 by omega)
  unfold nx; omega
theorem nx_eq (L : List Int) (m n : Nat) (h : 0 < n) : (nx L m n : Int) = (L.getD m 0) % (n : Int) := by
  have h2 := Int.emod_nonneg (L.getD m 0) (show (n : Int) ≠ 0 by omega)
  unfold nx; omega
def wordL : List ByteArray := [⟨#[114, 101, 100]⟩, ⟨#[99, 97, 114]⟩, ⟨#[82, 101, 100]⟩, ⟨#[97]⟩, ⟨#[99, 97, 114, 115]⟩, ⟨#[49, 44, 53]⟩, ⟨#[50, 50]⟩, ⟨#[100, 111, 110, 39, 116]⟩, ⟨#[46]⟩, ⟨#[33]⟩, ⟨#[32]⟩, ⟨#[32, 32]⟩, ⟨#[60]⟩, ⟨#[38]⟩, ⟨#[123]⟩, ⟨#[34]⟩, ⟨#[92]⟩, ⟨#[120, 45, 121]⟩, ⟨#[10]⟩, ⟨#[61]⟩, ⟨#[125]⟩, ⟨#[62]⟩, ⟨#[9]⟩, ⟨#[98]⟩]
def slotL : List ByteArray := [⟨#[110]⟩, ⟨#[110, 97, 109, 101]⟩, ⟨#[120, 49]⟩]
def emptyL : List ByteArray := [⟨#[98, 114]⟩, ⟨#[105, 109, 103, 32, 97]⟩]
def openL : List ByteArray := [⟨#[98]⟩, ⟨#[105]⟩, ⟨#[97, 32, 104, 61, 49]⟩]
def pickB (wl : List ByteArray) (k : Nat) : ByteArray := wl.getD k .empty
theorem pickB_all {P : ByteArray → Prop} (wl : List ByteArray) (h : ∀ x ∈ wl, P x) (k : Nat) (hk : k < wl.length) : P (pickB wl k) := by
  unfold pickB; rw [List.getD_eq_getElem?_getD, List.getElem?_eq_getElem hk]; exact h _ (List.getElem_mem hk)
def lineGo (L : List Int) : Nat → Nat → ByteArray → ByteArray × Nat
  | 0, m, o => (o, m)
  | k + 1, m, o => if o.size = 0 then lineGo L k (m + 1) (o ++ pickB wordL (nx L m 24)) else if 0 < nx L (m + 1) 3 then lineGo L k (m + 2) (o ++ (⟨#[32]⟩ : ByteArray) ++ pickB wordL (nx L m 24)) else lineGo L k (m + 2) (o ++ pickB wordL (nx L m 24))
def lineF (L : List Int) (m n : Nat) : ByteArray × Nat := lineGo L (nx L m (n + 1)) (m + 1) .empty
theorem word_size (L : List Int) (m : Nat) : 1 ≤ (pickB wordL (nx L m 24)).size ∧ (pickB wordL (nx L m 24)).size ≤ 5 :=
  pickB_all (P := fun s => 1 ≤ s.size ∧ s.size ≤ 5) wordL (by decide) _ (nx_lt L m 24 (by decide))
theorem lineGo_size (L : List Int) : ∀ (k m : Nat) (o : ByteArray), (lineGo L k m o).1.size ≤ o.size + 6 * k ∧ (lineGo L k m o).2 ≤ m + 2 * k ∧ m ≤ (lineGo L k m o).2 := by
  intro k
  induction k with
  | zero => intro m o; exact ⟨Nat.le_refl _, Nat.le_refl _, Nat.le_refl _⟩
  | succ k ih =>
    intro m o
    have hw := word_size L m
    rw [lineGo]
    split
    · obtain ⟨a, b, c⟩ := ih (m + 1) (o ++ pickB wordL (nx L m 24))
      rw [ByteArray.size_append] at a; exact ⟨by omega, by omega, by omega⟩
    · split
      · obtain ⟨a, b, c⟩ := ih (m + 2) (o ++ (⟨#[32]⟩ : ByteArray) ++ pickB wordL (nx L m 24))
        rw [ByteArray.size_append, ByteArray.size_append, show (⟨#[32]⟩ : ByteArray).size = 1 from rfl] at a; exact ⟨by omega, by omega, by omega⟩
      · obtain ⟨a, b, c⟩ := ih (m + 2) (o ++ pickB wordL (nx L m 24))
        rw [ByteArray.size_append] at a; exact ⟨by omega, by omega, by omega⟩
theorem lineF_size (L : List Int) (m n : Nat) : (lineF L m n).1.size ≤ 6 * n ∧ (lineF L m n).2 ≤ m + 1 + 2 * n ∧ m + 1 ≤ (lineF L m n).2 := by
  obtain ⟨a, b, c⟩ := lineGo_size L (nx L m (n + 1)) (m + 1) .empty
  have := nx_lt L m (n + 1) (by omega)
  rw [show ByteArray.empty.size = 0 from rfl] at a
  unfold lineF; exact ⟨by omega, by omega, c⟩

/-- Where the generator of fragments stands: the fragment, the open tags, the last number, how many numbers are used. -/
structure St where
  f : List It
  o : List It
  id : Nat
  m : Nat
def closeI (y : It) : It := ⟨3, nameB y.t, y.id⟩
/-- Which open tag is closed, and how many numbers are used behind it. -/
def pickK (L : List Int) (nested : Bool) (n m : Nat) : Nat × Nat := if nested = true then (n - 1, m) else (nx L m n, m + 1)
/-- The next item, with what becomes of the open tags, of the number, of the place. -/
def nextG (L : List Int) (tags nested : Bool) (o : List It) (id m : Nat) : It × List It × Nat × Nat :=
  let t := (lineF L m 3).1
  let m1 := (lineF L m 3).2
  let c := nx L m1 8
  let m2 := m1 + 1
  if c = 0 ∨ c = 1 then (⟨5, pickB slotL (nx L m2 3), 0⟩, o, id, m2 + 1)
  else if c = 2 then (if tags = true then (⟨4, pickB emptyL (nx L m2 2), (id + 1 : Nat)⟩, o, id + 1, m2 + 1) else (⟨1, t, 0⟩, o, id, m2))
  else if c = 3 ∨ c = 4 then (if tags = true then (⟨2, pickB openL (nx L m2 3), (id + 1 : Nat)⟩, o ++ [⟨2, pickB openL (nx L m2 3), (id + 1 : Nat)⟩], id + 1, m2 + 1) else (⟨1, t, 0⟩, o, id, m2))
  else if c = 5 ∨ c = 6 then
    (if 0 < o.length then (closeI (o.getD (pickK L nested o.length m2).1 ⟨0, .empty, 0⟩), o.take (pickK L nested o.length m2).1 ++ o.drop ((pickK L nested o.length m2).1 + 1), id, (pickK L nested o.length m2).2)
     else if tags = true ∧ nested = false then (⟨3, ⟨#[98]⟩, (id + 1 : Nat)⟩, o, id + 1, m2) else (⟨1, t, 0⟩, o, id, m2))
  else (⟨1, t, 0⟩, o, id, m2)
def stepG (L : List Int) (tags nested : Bool) (s : St) : St :=
  ⟨norm (s.f ++ [(nextG L tags nested s.o s.id s.m).1]), (nextG L tags nested s.o s.id s.m).2.1, (nextG L tags nested s.o s.id s.m).2.2.1, (nextG L tags nested s.o s.id s.m).2.2.2⟩
def runG (L : List Int) (tags nested : Bool) : Nat → St → St
  | 0, s => s
  | k + 1, s => runG L tags nested k (stepG L tags nested s)
def startG (L : List Int) (tags nested : Bool) (m n : Nat) : St := runG L tags nested (nx L m (n + 1)) ⟨[], [], 0, m + 1⟩
/-- The fragment that the generator makes, and how many numbers it has used. -/
def fragG (L : List Int) (tags nested : Bool) (m n : Nat) : List It × Nat :=
  (if nested = true then (startG L tags nested m n).f ++ (startG L tags nested m n).o.reverse.map closeI else (startG L tags nested m n).f, (startG L tags nested m n).m)
section
variable (L : List Int) (tags nested : Bool) (o : List It) (id m : Nat)
theorem nextG_slot (hc : nx L (lineF L m 3).2 8 = 0 ∨ nx L (lineF L m 3).2 8 = 1) : nextG L tags nested o id m = (⟨5, pickB slotL (nx L ((lineF L m 3).2 + 1) 3), 0⟩, o, id, (lineF L m 3).2 + 1 + 1) := by
  unfold nextG; dsimp only; rw [if_pos hc]
theorem nextG_empty (hc : nx L (lineF L m 3).2 8 = 2) (ht : tags = true) : nextG L tags nested o id m = (⟨4, pickB emptyL (nx L ((lineF L m 3).2 + 1) 2), (id + 1 : Nat)⟩, o, id + 1, (lineF L m 3).2 + 1 + 1) := by
  unfold nextG; dsimp only; rw [if_neg (by omega), if_pos hc, if_pos ht]
theorem nextG_open (hc : nx L (lineF L m 3).2 8 = 3 ∨ nx L (lineF L m 3).2 8 = 4) (ht : tags = true) : nextG L tags nested o id m = (⟨2, pickB openL (nx L ((lineF L m 3).2 + 1) 3), (id + 1 : Nat)⟩, o ++ [⟨2, pickB openL (nx L ((lineF L m 3).2 + 1) 3), (id + 1 : Nat)⟩], id + 1, (lineF L m 3).2 + 1 + 1) := by
  unfold nextG; dsimp only; rw [if_neg (by omega), if_neg (by omega), if_pos hc, if_pos ht]
theorem nextG_close (hc : nx L (lineF L m 3).2 8 = 5 ∨ nx L (lineF L m 3).2 8 = 6) (ho : 0 < o.length) (K : Nat × Nat) (hK : pickK L nested o.length ((lineF L m 3).2 + 1) = K) : nextG L tags nested o id m = (closeI (o.getD K.1 ⟨0, .empty, 0⟩), o.take K.1 ++ o.drop (K.1 + 1), id, K.2) := by
  unfold nextG; dsimp only; rw [if_neg (by omega), if_neg (by omega), if_neg (by omega), if_pos hc, if_pos ho, hK]
theorem nextG_alone (hc : nx L (lineF L m 3).2 8 = 5 ∨ nx L (lineF L m 3).2 8 = 6) (ho : ¬ 0 < o.length) (ht : tags = true ∧ nested = false) : nextG L tags nested o id m = (⟨3, ⟨#[98]⟩, (id + 1 : Nat)⟩, o, id + 1, (lineF L m 3).2 + 1) := by
  unfold nextG; dsimp only; rw [if_neg (by omega), if_neg (by omega), if_neg (by omega), if_pos hc, if_neg ho, if_pos ht]
theorem nextG_text (hc : nx L (lineF L m 3).2 8 = 7 ∨ (2 ≤ nx L (lineF L m 3).2 8 ∧ nx L (lineF L m 3).2 8 ≤ 4 ∧ tags = false) ∨ (5 ≤ nx L (lineF L m 3).2 8 ∧ nx L (lineF L m 3).2 8 ≤ 6 ∧ ¬ 0 < o.length ∧ ¬ (tags = true ∧ nested = false))) : nextG L tags nested o id m = (⟨1, (lineF L m 3).1, 0⟩, o, id, (lineF L m 3).2 + 1) := by
  unfold nextG; dsimp only
  generalize nx L (lineF L m 3).2 8 = c at *
  rcases hc with rfl | ⟨h1, h2, h3⟩ | ⟨h1, h2, h3, h4⟩
  · rw [if_neg (by omega), if_neg (by omega), if_neg (by omega), if_neg (by omega)]
  · have ht : ¬ tags = true := by simp [h3]
    rw [if_neg (by omega)]
    by_cases e : c = 2
    · rw [if_pos e, if_neg ht]
    · rw [if_neg e, if_pos (by omega), if_neg ht]
  · rw [if_neg (by omega), if_neg (by omega), if_neg (by omega), if_pos (by omega), if_neg h3, if_neg h4]
end
end Go.Proofs.YthfgpagmepdblaaGreat
namespace Go.Proofs.YthfgpagmepdblaaGreat
set_option linter.unusedVariables false

structure Sz (M : Nat) (s : St) (n : Nat) : Prop where
  fl : s.f.length ≤ n
  ft : txtI s.f ≤ 18 * n
  ol : s.o.length ≤ n
  ot : ∀ y ∈ s.o, y.t.size ≤ 5
  id : s.id ≤ n
  lo : M ≤ s.m
  m : s.m ≤ M + 10 * n
theorem name_size (t : ByteArray) : (nameB t).size ≤ t.size := by unfold nameB; rw [ByteArray.size_extract]; omega
structure NextOk (o : List It) (id m : Nat) (r : It × List It × Nat × Nat) : Prop where
  x : r.1.t.size ≤ 18
  ol : r.2.1.length ≤ o.length + 1
  ot : (∀ y ∈ o, y.t.size ≤ 5) → ∀ y ∈ r.2.1, y.t.size ≤ 5
  id : r.2.2.1 ≤ id + 1
  lo : m ≤ r.2.2.2
  m : r.2.2.2 ≤ m + 10
theorem next_ok (L : List Int) (tags nested : Bool) (o : List It) (id m : Nat) (ho : ∀ y ∈ o, y.t.size ≤ 5) : NextOk o id m (nextG L tags nested o id m) := by
  obtain ⟨l1, l2, l3⟩ := lineF_size L m 3
  have sl : ∀ k, (pickB slotL (nx L k 3)).size ≤ 5 := fun k => pickB_all (P := fun s => s.size ≤ 5) slotL (by decide) _ (nx_lt L k 3 (by decide))
  have se : ∀ k, (pickB emptyL (nx L k 2)).size ≤ 5 := fun k => pickB_all (P := fun s => s.size ≤ 5) emptyL (by decide) _ (nx_lt L k 2 (by decide))
  have so : ∀ k, (pickB openL (nx L k 3)).size ≤ 5 := fun k => pickB_all (P := fun s => s.size ≤ 5) openL (by decide) _ (nx_lt L k 3 (by decide))
  unfold nextG
  dsimp only
  generalize lineF L m 3 = F at *
  have ht : NextOk o id m (⟨1, F.1, 0⟩, o, id, F.2 + 1) := ⟨by show F.1.size ≤ _; omega, by show o.length ≤ _; omega, fun h => h, by show id ≤ _; omega, by show m ≤ F.2 + 1; omega, by show F.2 + 1 ≤ _; omega⟩
  split
  · exact ⟨by show (pickB _ _).size ≤ _; have := sl (F.2 + 1); omega, by show o.length ≤ _; omega, fun h => h, by show id ≤ _; omega, by show m ≤ F.2 + 1 + 1; omega, by show F.2 + 1 + 1 ≤ _; omega⟩
  split
  · split
    · exact ⟨by show (pickB _ _).size ≤ _; have := se (F.2 + 1); omega, by show o.length ≤ _; omega, fun h => h, by show id + 1 ≤ _; omega, by show m ≤ F.2 + 1 + 1; omega, by show F.2 + 1 + 1 ≤ _; omega⟩
    · exact ht
  split
  · split
    · have := so (F.2 + 1)
      refine ⟨by show (pickB _ _).size ≤ _; omega, by show (o ++ _).length ≤ _; simp, fun h y hy => ?_, by show id + 1 ≤ _; omega, by show m ≤ F.2 + 1 + 1; omega, by show F.2 + 1 + 1 ≤ _; omega⟩
      rcases List.mem_append.1 hy with hy | hy
      · exact h y hy
      · rw [List.mem_singleton] at hy; rw [hy]; exact this
    · exact ht
  split
  · split
    · rename_i hpos
      have hk : (pickK L nested o.length (F.2 + 1)).1 < o.length ∧ F.2 + 1 ≤ (pickK L nested o.length (F.2 + 1)).2 ∧ (pickK L nested o.length (F.2 + 1)).2 ≤ F.2 + 2 := by
        unfold pickK
        split
        · exact ⟨by show o.length - 1 < _; omega, by show F.2 + 1 ≤ F.2 + 1; omega, by show F.2 + 1 ≤ _; omega⟩
        · exact ⟨nx_lt _ _ _ hpos, by show F.2 + 1 ≤ F.2 + 2; omega, by show F.2 + 2 ≤ _; omega⟩
      generalize pickK L nested o.length (F.2 + 1) = K at *
      obtain ⟨k1, k2, k3⟩ := hk
      refine ⟨?_, by show (List.take _ o ++ List.drop _ o).length ≤ _; rw [List.length_append, List.length_take, List.length_drop]; omega, fun h y hy => ?_, by show id ≤ _; omega, by show m ≤ K.2; omega, by show K.2 ≤ _; omega⟩
      · show (nameB (o.getD K.1 _).t).size ≤ _
        rw [List.getD_eq_getElem?_getD, List.getElem?_eq_getElem k1]
        have h1 := ho _ (List.getElem_mem k1)
        have h2 := name_size (o[K.1]'k1).t
        show (nameB (o[K.1]'k1).t).size ≤ _
        omega
      · rcases List.mem_append.1 hy with hy | hy
        · exact h y (List.mem_of_mem_take hy)
        · exact h y (List.mem_of_mem_drop hy)
    · split
      · exact ⟨by show (1 : Nat) ≤ _; omega, by show o.length ≤ _; omega, fun h => h, by show id + 1 ≤ _; omega, by show m ≤ F.2 + 1; omega, by show F.2 + 1 ≤ _; omega⟩
      · exact ht
  · exact ht
theorem Sz.step {M n : Nat} {s : St} (h : Sz M s n) (L : List Int) (tags nested : Bool) : Sz M (stepG L tags nested s) (n + 1) := by
  have k := next_ok L tags nested s.o s.id s.m h.ot
  unfold stepG
  generalize nextG L tags nested s.o s.id s.m = r at *
  have a := norm_len (s.f ++ [r.1]); have b := txt_normed (s.f ++ [r.1])
  rw [List.length_append] at a; rw [txtI_snoc] at b
  simp at a
  have h1 := h.fl; have h2 := h.ft; have h3 := h.ol; have h4 := h.id; have h5 := h.m
  have k1 := k.x; have k2 := k.ol; have k3 := k.id; have k4 := k.m; have k5 := k.lo; have h6 := h.lo
  exact ⟨by show (norm _).length ≤ _; omega, by show txtI (norm _) ≤ _; omega, by show r.2.1.length ≤ _; omega, k.ot h.ot, by show r.2.2.1 ≤ _; omega, by show M ≤ r.2.2.2; omega, by show r.2.2.2 ≤ _; omega⟩
end Go.Proofs.YthfgpagmepdblaaGreat
namespace Go.Proofs.YthfgpagmepdblaaGreat
open Go.ChangeShapes Go.WideShapes Go.ChangeAt Go.RowKit
set_option linter.unusedVariables false
set_option maxRecDepth 100000

theorem place_any (a n : Int) (w : World) (h0 : 1 ≤ n) (h1 : n ≤ 4611686018427387904) (ha : (Lit.int .i64 a).wf = true) :
    Calls Tryz.prog 8 #[.int .i64 a, .int .i64 n] w fun e w' => e = .returned (.int .i64 (a % n)) ∧ w = w' := by
  have hb : -n < a.tmod n ∧ a.tmod n < n := by
    have h2 := Int.tmod_lt_of_pos a (show 0 < n by omega)
    have h3 := Int.lt_tmod_of_pos a (show 0 < n by omega)
    omega
  have hn0 : n ≠ 0 := by omega
  have e := Int.tmod_eq_emod (a := a) (b := n)
  have m0 := Int.emod_nonneg a hn0
  have m1 := Int.emod_lt_of_pos a (show 0 < n by omega)
  have q0 : (n == 0) = false := by simpa using hn0
  by_cases hc : a.tmod n < 0
  · have hr : a % n = a.tmod n + n := by
      rw [e] at hc ⊢
      split at hc
      · omega
      · rename_i hh; rw [if_neg hh]; omega
    have qc : decide (a.tmod n < 0) = true := by simpa using hc
    rw [hr]
    have b1 : 0 ≤ a.tmod n + n := by omega
    have b2 : a.tmod n + n < n := by omega
    obtain ⟨b3, b4⟩ := hb
    clear e hr m0 m1 hc
    go_enter Tryz.func8, Tryz.ntmps8
    go_wp2_with fail
    go_ret
    exact ⟨rfl, rfl⟩
  · have hr : a % n = a.tmod n := by
      rw [e] at hc ⊢
      split at hc
      · rename_i hh; rw [if_pos hh]; omega
      · rename_i hh; rw [if_neg hh]; omega
    have qc : decide (a.tmod n < 0) = false := by simpa using hc
    rw [hr]
    obtain ⟨b3, b4⟩ := hb
    clear e hr m0 m1
    go_enter Tryz.func8, Tryz.ntmps8
    go_wp2_with fail
    go_ret
    exact ⟨rfl, rfl⟩

/-- The numbers behind a pointer: a list and how many of it are used. -/
structure NumsAt (W : World) (b : Nat) (p : Option Addr) (cap : Nat) (L : List Int) (m : Nat) : Prop where
  hh : W.heap[b]? = some (.cells #[.slice p L.length cap, .int .i64 m] 33 (0, 0))
  ones : Ones W (Value.int .i64) p L
  ap : 0 < L.length → ∀ a, p = some a → a.block ≠ b
  wf : ∀ i (h : i < L.length), (Lit.int .i64 (L[i]'h)).wf = true
  le : L.length ≤ cap
  cm : cap ≤ maxLen
theorem NumsAt.lt {W : World} {b : Nat} {p : Option Addr} {cap : Nat} {L : List Int} {m : Nat} (h : NumsAt W b p cap L m) : b < W.heap.size := (Array.getElem?_eq_some_iff.1 h.hh).1
theorem NumsAt.call {W W' : World} {b : Nat} {p : Option Addr} {cap : Nat} {L : List Int} {m : Nat} (h : NumsAt W b p cap L m) (hb : Below W.heap.size W W') : NumsAt W' b p cap L m :=
  ⟨(hb.block b h.lt).trans h.hh, h.ones.call hb, h.ap, h.wf, h.le, h.cm⟩
theorem ones_keep {α : Type} {en : α → Value} {W W' : World} {p : Option Addr} {L : List α} (h : Ones W en p L) (hs : W.heap.size ≤ W'.heap.size) (hb : 0 < L.length → ∀ a, p = some a → W'.heap[a.block]? = W.heap[a.block]?) : Ones W' en p L := fun h0 => by
  obtain ⟨a, hp, hlt, hc⟩ := h h0
  have hb := hb h0
  exact ⟨a, hp, Nat.lt_of_lt_of_le hlt hs, fun i hi => (World.cell?_of_block (w := W) (w' := W') (a := a.add i) (by rw [add_block]; exact hb a hp)).trans (hc i hi)⟩
theorem NumsAt.next {W : World} {b : Nat} {p : Option Addr} {cap : Nat} {L : List Int} {m : Nat} (h : NumsAt W b p cap L m) (n : Nat) :
    W.grownBy ((W.setCell ⟨b, 1, none⟩ (.int .i64 ((m : Int) + 1))).drewN n) (some b) ∧ NumsAt ((W.setCell ⟨b, 1, none⟩ (.int .i64 ((m : Int) + 1))).drewN n) b p cap L (m + 1) := by
  have hk : ∀ k, k ≠ b → ((W.setCell ⟨b, 1, none⟩ (.int .i64 ((m : Int) + 1))).drewN n).heap[k]? = W.heap[k]? := fun k hk => Below.heap_setCell W ⟨b, 1, none⟩ _ k hk
  have hs : W.heap.size ≤ ((W.setCell ⟨b, 1, none⟩ (.int .i64 ((m : Int) + 1))).drewN n).heap.size := by simp
  refine ⟨⟨rfl, rfl, rfl, hs, fun k _ hne => hk k (fun e => hne (by rw [e]))⟩, ?_, ones_keep h.ones hs (fun h0 a ha => hk _ (h.ap h0 a ha)), h.ap, h.wf, h.le, h.cm⟩
  have := setCell_heap W b 1 _ 33 (.int .i64 ((m : Int) + 1)) h.hh
  simpa using this

set_option maxHeartbeats 1600000 in
theorem next_any (b : Nat) (p : Option Addr) (cap : Nat) (L : List Int) (m : Nat) (n : Int) (k : Nat) (hk : n = (k : Int)) (w : World) (h : NumsAt w b p cap L m) (hm : m ≤ 1000000) (h0 : 1 ≤ n) (h1 : n ≤ 1000000) :
    Calls Tryz.prog 16 #[.pointer (some ⟨b, 0, none⟩), .int .i64 n] w fun e w' => e = .returned (.int .i64 (nx L m k)) ∧ w.grownBy w' (some b) ∧ NumsAt w' b p cap L (m + 1) := by
  have hp := fun a w ha => place_any a n w h0 (by omega) ha
  have HP := Lib.hid hp; clear hp
  have c0 : w.cell? ⟨b, 0, none⟩ = some (.slice p L.length cap) := by rw [Lib.cell_of_heap h.hh]; rfl
  have c1 : w.cell? ⟨b, 1, none⟩ = some (.int .i64 m) := by rw [Lib.cell_of_heap h.hh]; rfl
  have f1 := Lib.frozen_of_heap h.hh 1
  have hx := nx_eq L m k (by omega)
  rw [← hk, List.getD_eq_getElem?_getD] at hx
  have HN := Lib.hid h.next
  have mixed : Tryz.prog.follows .mixedOrders = true := by kernel_rfl
  by_cases hlt : m < L.length
  · have q : decide (m < L.length) = true := decide_eq_true hlt
    obtain ⟨ad, rfl, had, d0⟩ := h.ones.row m hlt
    have hwf := h.wf m hlt
    rw [List.getElem?_eq_getElem hlt, Option.getD_some] at hx
    have hle := h.le; have hcm := h.cm
    unfold maxLen at hcm
    generalize L[m] = x at *
    have HX := Lib.hid hx; clear hx
    clear hk
    go_enter Tryz.func16, Tryz.ntmps16
    go_wp2_with fail
    go_quiet (fail)
    go_wp2_with fail
    go_quiet (fail)
    go_wp2_with fail
    refine (HP.out x _ hwf).mono ?_; rintro e w1 ⟨rfl, rfl⟩
    go_wp2_with fail
    go_ret
    exact ⟨ret_int HX.out.symm, HN.out _⟩
  · have q : decide (m < L.length) = false := decide_eq_false hlt
    rw [List.getElem?_eq_none (by omega), Option.getD_none] at hx
    have HX := Lib.hid hx; clear hx
    clear hk
    have hle := h.le; have hcm := h.cm
    unfold maxLen at hcm
    go_enter Tryz.func16, Tryz.ntmps16
    go_wp2_with fail
    go_quiet (fail)
    go_wp2_with fail
    refine (HP.out 0 _ (by decide)).mono ?_; rintro e w1 ⟨rfl, rfl⟩
    go_wp2_with fail
    go_ret
    exact ⟨ret_int HX.out.symm, HN.out _⟩
end Go.Proofs.YthfgpagmepdblaaGreat
namespace Go.Proofs.YthfgpagmepdblaaGreat
open Go.ChangeShapes Go.WideShapes Go.ChangeAt Go.RowKit
set_option linter.unusedVariables false
set_option maxRecDepth 100000

theorem chg_trans {b : Nat} {w w1 w2 : World} (h : w.grownBy w1 (some b)) (k : w1.grownBy w2 (some b)) : w.grownBy w2 (some b) :=
  ⟨k.os.trans h.os, k.tape.trans h.tape, k.output.trans h.output, Nat.le_trans h.size k.size, fun i hi hne => (k.block i (Nat.lt_of_lt_of_le hi h.size) hne).trans (h.block i hi hne)⟩
theorem chg_below {b : Nat} {w w1 : World} (h : Below w.heap.size w w1) : w.grownBy w1 (some b) := ⟨h.os, h.tape, h.output, h.size, fun i hi _ => h.block i hi⟩
/-- A string out of a row of strings that was just made. -/
theorem pick_row {W : World} {B : Nat} {cs : Array Value} (hB : W.heap[B]? = some (.cells cs 9 (0, 0))) (wl : List ByteArray) (hcs : cs.toList = wl.map Value.string) (k : Nat) (hk : k < wl.length) : W.cell? ⟨B, k, none⟩ = some (.string (pickB wl k)) := by
  rw [Lib.cell_of_heap hB]
  show cs[k]? = _
  rw [← Array.getElem?_toList, hcs, List.getElem?_map, List.getElem?_eq_getElem hk]
  unfold pickB
  rw [List.getD_eq_getElem?_getD, List.getElem?_eq_getElem hk]; rfl

theorem ret_str {a b : ByteArray} (h : a = b) : Ending.returned (.string a) = .returned (.string b) := by rw [h]
set_option maxHeartbeats 1600000 in
theorem word_any (b : Nat) (p : Option Addr) (cap : Nat) (L : List Int) (m : Nat) (w : World) (h : NumsAt w b p cap L m) (hm : m ≤ 1000000) :
    Calls Tryz.prog 49 #[.pointer (some ⟨b, 0, none⟩)] w fun e w' => e = .returned (.string (pickB wordL (nx L m 24))) ∧ w.grownBy w' (some b) ∧ NumsAt w' b p cap L (m + 1) := by
  have hn := fun W h => next_any b p cap L m 24 24 rfl W h hm (by omega) (by omega)
  have hk := nx_lt L m 24 (by omega)
  generalize nx L m 24 = k at *
  have HN := Lib.hid hn; clear hn
  have hlt := h.lt
  go_enter Tryz.func49, Tryz.ntmps49
  go_wp2_with fail
  refine (HN.out _ (h.call (blw (Below.refl _ _) _))).mono ?_
  rintro e w1 ⟨rfl, hg, hN⟩
  have hB := (hg.block w.heap.size (by simp) (fun e => by injection e with e; omega)).trans (heap_alloc_new w _)
  have hc := pick_row hB wordL rfl k hk
  clear hB
  have hfin := chg_trans (chg_below (b := b) (blw (Below.refl w.heap.size w) _)) hg
  clear hg
  obtain ⟨s, hs⟩ : ∃ s, s = pickB wordL k := ⟨_, rfl⟩
  rw [← hs] at hc
  have HS := Lib.hid hs; clear hs
  go_wp2_with fail
  go_ret
  exact ⟨ret_str HS.out, hfin, hN⟩

theorem line0 (L : List Int) (m : Nat) (o : ByteArray) : lineGo L 0 m o = (o, m) := rfl
theorem line1 (L : List Int) (k m : Nat) (o : ByteArray) (h : o.size = 0) : lineGo L (k + 1) m o = lineGo L k (m + 1) (o ++ pickB wordL (nx L m 24)) := by rw [lineGo, if_pos h]
theorem line2 (L : List Int) (k m : Nat) (o : ByteArray) (h : ¬ o.size = 0) (h2 : 0 < nx L (m + 1) 3) : lineGo L (k + 1) m o = lineGo L k (m + 2) (o ++ (⟨#[32]⟩ : ByteArray) ++ pickB wordL (nx L m 24)) := by rw [lineGo, if_neg h, if_pos h2]
theorem line3 (L : List Int) (k m : Nat) (o : ByteArray) (h : ¬ o.size = 0) (h2 : ¬ 0 < nx L (m + 1) 3) : lineGo L (k + 1) m o = lineGo L k (m + 2) (o ++ pickB wordL (nx L m 24)) := by rw [lineGo, if_neg h, if_neg h2]

set_option maxHeartbeats 3200000 in
theorem line_any (b : Nat) (p : Option Addr) (cap : Nat) (L : List Int) (m : Nat) (n : Int) (N : Nat) (hnN : n = (N : Int)) (w : World) (h : NumsAt w b p cap L m) (hm : m ≤ 900000) (hn : N ≤ 100) :
    Calls Tryz.prog 32 #[.pointer (some ⟨b, 0, none⟩), .int .i64 n] w fun e w' => e = .returned (.string (lineF L m N).1) ∧ w.grownBy w' (some b) ∧ NumsAt w' b p cap L (lineF L m N).2 := by
  subst hnN
  have h1 := fun W h => next_any b p cap L m ((N : Int) + 1) (N + 1) (by omega) W h (by omega) (by omega) (by omega)
  have hi0 := nx_lt L m (N + 1) (by omega)
  generalize hF : lineF L m N = F at *
  unfold lineF at hF
  generalize nx L m (N + 1) = i0 at *
  have H1 := Lib.hid h1; clear h1
  have h2 := fun m' (hm' : m' ≤ 1000000) W h => next_any b p cap L m' 3 3 rfl W h hm' (by omega) (by omega)
  have H2 := Lib.hid h2; clear h2
  have h3 := fun m' (hm' : m' ≤ 1000000) W h => word_any b p cap L m' W h hm'
  have H3 := Lib.hid h3; clear h3
  have HF := Lib.hid hF; clear hF
  go_enter Tryz.func32, Tryz.ntmps32
  go_wp2_with fail
  refine (H1.out _ h).mono ?_
  rintro e w1 ⟨rfl, hg, hN⟩
  go_wp2_with fail
  go_loopw [5, 6] (fun s i wr => ∃ (k m' : Nat) (o : ByteArray), k ≤ N ∧ i = .int .i64 k ∧ s = .string o ∧ o.size + 6 * k ≤ 6 * N ∧ w.grownBy wr (some b) ∧ m' + 2 * k ≤ m + 1 + 2 * N ∧ NumsAt wr b p cap L m' ∧ Hid (lineGo L k m' o = F)) (fun _ i _ => (intOf i).toNat)
  case atStart => exact ⟨i0, m + 1, _, by omega, rfl, rfl, by show 0 + _ ≤ _; omega, hg, by omega, hN, HF⟩
  case round =>
    obtain ⟨k, m', o, hk, rfl, rfl, ho, hgr, hm', hN', HL⟩ := hrel
    by_cases hlt : 0 < k
    · have q : decide (0 < (k : Int)) = true := decide_eq_true (by omega)
      obtain ⟨k, rfl⟩ : ∃ j, k = j + 1 := ⟨k - 1, by omega⟩
      have hl1 := line1 L k m' o
      have hl2 := line2 L k m' o
      have hl3 := line3 L k m' o
      obtain ⟨s1, s2⟩ := word_size L m'
      have H3' := Lib.hid (H3.out m' (by omega))
      generalize pickB wordL (nx L m' 24) = s at *
      have HL1 := Lib.hid hl1; have HL2 := Lib.hid hl2; have HL3 := Lib.hid hl3
      clear hl1 hl2 hl3
      go_wp2_with fail
      refine (H3'.out _ hN').mono ?_
      rintro e w2 ⟨rfl, hg2, hN2⟩
      have hgr2 := chg_trans hgr hg2
      have sz1 : o.size + s.size ≤ 9223372036854775807 := by omega
      have sz2 : o.size + 1 ≤ 9223372036854775807 := by omega
      by_cases hz : o.size = 0
      · have q2 := str_none hz
        have sz3 : (o ++ s).size = o.size + s.size := ByteArray.size_append
        have HE := Lib.hid ((HL1.out hz).symm.trans HL.out)
        go_wp2_with fail
        go_roundw
        case rel => exact ⟨k, m' + 1, o ++ s, by omega, by go_num, rfl, by omega, hgr2, by omega, hN2, HE⟩
        case measure => simp [intOf]
      · have q2 := str_some hz
        have H2' := Lib.hid (H2.out (m' + 1) (by omega))
        have HL2 := Lib.hid (HL2.out hz); have HL3 := Lib.hid (HL3.out hz)
        generalize nx L (m' + 1) 3 = r3 at *
        go_wp2_with fail
        refine (H2'.out _ hN2).mono ?_
        rintro e w3 ⟨rfl, hg3, hN3⟩
        have hgr3 := chg_trans hgr2 hg3
        by_cases hr : 0 < r3
        · have q3 : decide (0 < r3) = true := decide_eq_true hr
          have sz3 : (o ++ (⟨#[32]⟩ : ByteArray)).size = o.size + 1 := by rw [ByteArray.size_append]; rfl
          have sz4 : (o ++ (⟨#[32]⟩ : ByteArray) ++ s).size = o.size + 1 + s.size := by rw [ByteArray.size_append, sz3]
          have sz5 : (o ++ (⟨#[32]⟩ : ByteArray)).size + s.size ≤ 9223372036854775807 := by omega
          have HE := Lib.hid ((HL2.out hr).symm.trans HL.out)
          go_wp2_with fail
          go_roundw
          case rel => exact ⟨k, m' + 2, o ++ ⟨#[32]⟩ ++ s, by omega, by go_num, rfl, by omega, hgr3, by omega, hN3, HE⟩
          case measure => simp [intOf]
        · have q3 : decide (0 < r3) = false := decide_eq_false hr
          have sz3 : (o ++ s).size = o.size + s.size := ByteArray.size_append
          have HE := Lib.hid ((HL3.out hr).symm.trans HL.out)
          go_wp2_with fail
          go_roundw
          case rel => exact ⟨k, m' + 2, o ++ s, by omega, by go_num, rfl, by omega, hgr3, by omega, hN3, HE⟩
          case measure => simp [intOf]
    · obtain rfl : k = 0 := by omega
      have hfin := (line0 L m' o).symm.trans HL.out
      subst hfin
      go_wp2_with fail
      go_ret
      exact ⟨rfl, hgr, hN'⟩
end Go.Proofs.YthfgpagmepdblaaGreat
namespace Go.Proofs.YthfgpagmepdblaaGreat
open Go.ChangeShapes Go.WideShapes Go.ChangeAt Go.RowKit
set_option linter.unusedVariables false
set_option maxRecDepth 100000

theorem OwnL.keepAt {α : Type} {e size : Nat} {enc : α → List Value} {base : Nat} {L : List α} {v : Value} {w w1 : World} (h : OwnL e size enc base L v w) (hb : ∀ k, v.ownBlock = some k → w1.heap[k]? = w.heap[k]?) : OwnL e size enc base L v w1 := by
  obtain ⟨h1, h2⟩ := h
  refine ⟨h1, ?_⟩
  rcases h2 with h2 | ⟨g, cap, cur, hv, hg, hh, r⟩
  · exact .inl h2
  · refine .inr ⟨g, cap, cur, hv, hg, ?_, r⟩
    rw [hb g (by rw [hv]; rfl)]; exact hh
abbrev OwnN := OwnL 3 1 nenc
structure Two (w : World) (Lc Lo : List Int) (vc vo : Value) (wr : World) : Prop where
  below : Below w.heap.size w wr
  c : OwnN w.heap.size Lc vc wr
  o : OwnN w.heap.size Lo vo wr
  ne : ∀ k, vc.ownBlock = some k → vo.ownBlock ≠ some k
theorem Two.start (w : World) : Two w [] [] (.slice none 0 0) (.slice none 0 0) w := ⟨Below.refl _ _, OwnL.nil _ _, OwnL.nil _ _, fun k h => by simp [Value.ownBlock] at h⟩
theorem Two.swap {w : World} {Lc Lo : List Int} {vc vo : Value} {wr : World} (h : Two w Lc Lo vc vo wr) : Two w Lo Lc vo vc wr := ⟨h.below, h.o, h.c, fun k h1 h2 => h.ne k h2 h1⟩
theorem Two.alloc {w : World} {Lc Lo : List Int} {vc vo : Value} {wr : World} (h : Two w Lc Lo vc vo wr) (ob : Obj) : Two w Lc Lo vc vo (wr.alloc ob) := ⟨blw h.below ob, World.ownsRow.alloc h.c ob, World.ownsRow.alloc h.o ob, h.ne⟩
theorem Two.drewN {w : World} {Lc Lo : List Int} {vc vo : Value} {wr : World} (h : Two w Lc Lo vc vo wr) (n : Nat) : Two w Lc Lo vc vo (wr.drewN n) := ⟨⟨h.below.os, h.below.tape, h.below.output, h.below.size, h.below.block⟩, h.c, h.o, h.ne⟩
theorem Two.push {w : World} {Lc Lo : List Int} {vc vo : Value} {W w' : World} (h : Two w Lc Lo vc vo W) {y : Int} {g n cap : Nat} (hown : OwnN w.heap.size (Lo ++ [y]) (.slice (some ⟨g, 0, none⟩) n cap) w') (hgr : W.grownBy w' vo.ownBlock) (hloc : vo.ownBlock = some g ∨ g = W.heap.size) :
    Two w Lc (Lo ++ [y]) vc (.slice (some ⟨g, 0, none⟩) n cap) w' := by
  refine ⟨h.below.grown hgr h.below.size (fun k hk => (h.o.lt k hk).1), h.c.keepAt (fun k hk => hgr.block k (h.c.lt k hk).2 (fun e => h.ne k hk e.symm)), hown, fun k hk e => ?_⟩
  have e' : g = k := by simpa [Value.ownBlock] using e
  subst e'
  rcases hloc with h1 | h1
  · exact h.ne _ hk h1
  · have := (h.c.lt _ hk).2; omega
theorem OwnN.pop {base : Nat} {L : List Int} {y : Int} {g n cap : Nat} {w : World} (h : OwnN base (L ++ [y]) (.slice (some ⟨g, 0, none⟩) n cap) w) : OwnN base L (.slice (some ⟨g, 0, none⟩) L.length cap) w := by
  obtain ⟨h1, h2⟩ := h
  have hcl : ∀ M : List Int, (cellsOf nenc M).length = M.length * 1 := cellsOf_len eN
  refine ⟨hcl L, ?_⟩
  rcases h2 with ⟨h2, _⟩ | ⟨g', cap', cur, hv, hg, hh, hl, hm, hs, ht⟩
  · cases h2
  · injection hv with e1 e2 e3
    injection e1 with e1; injection e1 with e1; subst e1; subst e3
    rw [List.length_append] at hl ht
    refine .inr ⟨g, cap, cur, rfl, hg, hh, by omega, hm, hs, ?_⟩
    have := congrArg (List.take (L.length * 1)) ht
    rw [List.take_take, Nat.min_eq_left (by simp)] at this
    rw [this, show cellsOf nenc (L ++ [y]) = cellsOf nenc L ++ nenc y from by unfold cellsOf; rw [List.flatMap_append]; simp, ← hcl L, List.take_left]
theorem Two.pop {w : World} {Lc L : List Int} {y : Int} {vc : Value} {g n cap : Nat} {W : World} (h : Two w Lc (L ++ [y]) vc (.slice (some ⟨g, 0, none⟩) n cap) W) : Two w Lc L vc (.slice (some ⟨g, 0, none⟩) L.length cap) W :=
  ⟨h.below, h.c, h.o.pop, fun k hk e => h.ne k hk (by simpa [Value.ownBlock] using e)⟩

def shS (st : Option (List Int × List Int)) (x : It) : Option (List Int × List Int) := match st with
  | none => none
  | some (c, o) => if x.k = 2 then some (c, o ++ [x.id]) else if x.k = 3 then (match o.getLast? with | none => some (c ++ [x.id], o) | some y => if y = x.id then some (c, o.dropLast) else none) else some (c, o)
def shL (l : List It) : Option (List Int × List Int) := l.foldl shS (some ([], []))
theorem sh_next (l : List It) (k : Nat) (h : k < l.length) : shL (l.take (k + 1)) = shS (shL (l.take k)) (l[k]'h) := by
  rw [List.take_succ_eq_append_getElem h]; unfold shL; rw [List.foldl_append]; rfl
theorem sh_stuck (l : List It) : l.foldl shS none = none := by
  induction l with
  | nil => rfl
  | cons x t ih => exact ih
theorem sh_bad (l : List It) (k : Nat) (h : shL (l.take k) = none) : shL l = none := by
  rw [← List.take_append_drop k l]; unfold shL at *; rw [List.foldl_append, h]; exact sh_stuck _
theorem sh_len (l : List It) : ∀ k, k ≤ l.length → ∀ c o, shL (l.take k) = some (c, o) → c.length + o.length ≤ k := by
  intro k
  induction k with
  | zero => intro _ c o h; simp [shL] at h; obtain ⟨rfl, rfl⟩ := h; simp
  | succ j ih =>
    intro hj c o h
    rw [sh_next l j hj] at h
    cases hp : shL (l.take j) with
    | none => rw [hp] at h; cases h
    | some st =>
      obtain ⟨c1, o1⟩ := st
      have := ih (by omega) c1 o1 hp
      rw [hp] at h
      unfold shS at h
      dsimp only at h
      split at h
      · cases h; simp; omega
      · split at h
        · cases hl : o1.getLast? with
          | none => rw [hl] at h; cases h; simp; omega
          | some y =>
            rw [hl] at h; dsimp only at h
            split at h
            · cases h; simp; omega
            · cases h
        · cases h; omega
/-- What Shape answers. -/
def EndSh (st : Option (List Int × List Int)) (w : World) (e : Ending) (w' : World) : Prop := match st with
  | none => e = .returned (.tuple #[.slice none 0 0, .slice none 0 0, .bool false]) ∧ Below w.heap.size w w'
  | some (c, o) => ∃ vc vo, e = .returned (.tuple #[vc, vo, .bool true]) ∧ Two w c o vc vo w'
end Go.Proofs.YthfgpagmepdblaaGreat
namespace Go.Proofs.YthfgpagmepdblaaGreat
open Go.ChangeShapes Go.WideShapes Go.ChangeAt Go.RowKit
set_option linter.unusedVariables false
set_option maxRecDepth 100000

abbrev OwnI := OwnL 45 3 ienc
/-- The generator between two calls: the numbers, the fragment, the open tags. -/
structure GRel (b : Nat) (pn : Option Addr) (cn : Nat) (L : List Int) (w : World) (f o : List It) (m : Nat) (vf vo : Value) (W : World) : Prop where
  base : b < w.heap.size
  chg : w.grownBy W (some b)
  nums : NumsAt W b pn cn L m
  f : OwnI w.heap.size f vf W
  o : OwnI w.heap.size o vo W
  ne : ∀ k, vf.ownBlock = some k → vo.ownBlock ≠ some k
  nums_lo : 0 < L.length → ∀ a, pn = some a → a.block < w.heap.size
theorem NumsAt.keep {W W' : World} {b : Nat} {p : Option Addr} {cap : Nat} {L : List Int} {m : Nat} (h : NumsAt W b p cap L m) (hs : W.heap.size ≤ W'.heap.size) (hb : W'.heap[b]? = W.heap[b]?) (hp : 0 < L.length → ∀ a, p = some a → W'.heap[a.block]? = W.heap[a.block]?) : NumsAt W' b p cap L m :=
  ⟨hb.trans h.hh, ones_keep h.ones hs hp, h.ap, h.wf, h.le, h.cm⟩
section
variable {b m : Nat} {pn : Option Addr} {cn : Nat} {L : List Int} {w W W' : World} {f o : List It} {vf vo : Value}
theorem GRel.next (h : GRel b pn cn L w f o m vf vo W) {m' : Nat} (hg : W.grownBy W' (some b)) (hN : NumsAt W' b pn cn L m') : GRel b pn cn L w f o m' vf vo W' :=
  ⟨h.base, chg_trans h.chg hg, hN, h.f.other hg h.base, h.o.other hg h.base, h.ne, h.nums_lo⟩
theorem GRel.call (h : GRel b pn cn L w f o m vf vo W) (hb : Below W.heap.size W W') : GRel b pn cn L w f o m vf vo W' :=
  h.next (chg_below hb) (h.nums.call hb)
theorem GRel.alloc (h : GRel b pn cn L w f o m vf vo W) (ob : Obj) : GRel b pn cn L w f o m vf vo (W.alloc ob) := h.call (blw (Below.refl _ _) ob)
theorem GRel.drewN (h : GRel b pn cn L w f o m vf vo W) (n : Nat) : GRel b pn cn L w f o m vf vo (W.drewN n) :=
  ⟨h.base, ⟨h.chg.os, h.chg.tape, h.chg.output, h.chg.size, h.chg.block⟩, ⟨h.nums.hh, h.nums.ones, h.nums.ap, h.nums.wf, h.nums.le, h.nums.cm⟩, h.f, h.o, h.ne, h.nums_lo⟩
/-- A store into a block of its own. -/
theorem GRel.set (h : GRel b pn cn L w f o m vf vo W) (B : Nat) (hB : w.heap.size ≤ B) (hf : vf.ownBlock ≠ some B) (ho : vo.ownBlock ≠ some B) (i : Nat) (v : Value) : GRel b pn cn L w f o m vf vo (W.setCell ⟨B, i, none⟩ v) := by
  have hk : ∀ k, k ≠ B → (W.setCell ⟨B, i, none⟩ v).heap[k]? = W.heap[k]? := fun k hk => Below.heap_setCell W ⟨B, i, none⟩ _ k hk
  have hs : (W.setCell ⟨B, i, none⟩ v).heap.size = W.heap.size := by simp [World.setCell]
  have hbs := h.base
  exact ⟨h.base, ⟨h.chg.os, h.chg.tape, h.chg.output, by rw [hs]; exact h.chg.size, fun k h1 h2 => (hk k (by omega)).trans (h.chg.block k h1 h2)⟩,
    h.nums.keep (by omega) (hk b (by omega)) (fun h0 a ha => hk _ (by have := h.nums_lo h0 a ha; omega)),
    h.f.keepAt (fun k e => hk k (fun e2 => hf (by rw [← e2]; exact e))), h.o.keepAt (fun k e => hk k (fun e2 => ho (by rw [← e2]; exact e))), h.ne, h.nums_lo⟩
/-- The open tags have turned: in their own block, or they lie in a new one. -/
theorem GRel.push (h : GRel b pn cn L w f o m vf vo W) {o' : List It} {g n cap : Nat} (hown : OwnI w.heap.size o' (.slice (some ⟨g, 0, none⟩) n cap) W') (hgr : W.grownBy W' vo.ownBlock) (hloc : vo.ownBlock = some g ∨ g = W.heap.size) : GRel b pn cn L w f o' m vf (.slice (some ⟨g, 0, none⟩) n cap) W' := by
  have hbs := h.base
  have hsz := h.chg.size
  have hlo : ∀ k, k < w.heap.size → W'.heap[k]? = W.heap[k]? := fun k hk => hgr.block k (by omega) (fun e => by have := (h.o.lt k e.symm).1; omega)
  refine ⟨h.base, ⟨hgr.os.trans h.chg.os, hgr.tape.trans h.chg.tape, hgr.output.trans h.chg.output, Nat.le_trans h.chg.size hgr.size, fun k h1 h2 => (hlo k h1).trans (h.chg.block k h1 h2)⟩,
    h.nums.keep hgr.size (hlo b hbs) (fun h0 a ha => hlo _ (h.nums_lo h0 a ha)),
    h.f.keepAt (fun k e => hgr.block k (h.f.lt k e).2 (fun e2 => h.ne k e e2.symm)), hown, fun k hk e => ?_, h.nums_lo⟩
  have e' : g = k := by simpa [Value.ownBlock] using e
  subst e'
  rcases hloc with h1 | h1
  · exact h.ne _ hk h1
  · have := (h.f.lt _ hk).2; omega
/-- The fragment has grown. -/
theorem GRel.pushF (h : GRel b pn cn L w f o m vf vo W) {f' : List It} {g n cap : Nat} (hown : OwnI w.heap.size f' (.slice (some ⟨g, 0, none⟩) n cap) W') (hgr : W.grownBy W' vf.ownBlock) (hloc : vf.ownBlock = some g ∨ g = W.heap.size) : GRel b pn cn L w f' o m (.slice (some ⟨g, 0, none⟩) n cap) vo W' := by
  have hs : GRel b pn cn L w o f m vo vf W := ⟨h.base, h.chg, h.nums, h.o, h.f, fun k h1 h2 => h.ne k h2 h1, h.nums_lo⟩
  have hp := hs.push hown hgr hloc
  exact ⟨hp.base, hp.chg, hp.nums, hp.o, hp.f, fun k h1 h2 => hp.ne k h2 h1, hp.nums_lo⟩
/-- The fragment has been made anew. -/
theorem GRel.made (h : GRel b pn cn L w f o m vf vo W) {f' : List It} {v : Value} (hA : AccI W f' v W') : GRel b pn cn L w f' o m v vo W' := by
  have hw := h.chg.size
  have h' := h.call hA.below
  refine ⟨h'.base, h'.chg, h'.nums, ownsRow_base hA.own hw, h'.o, fun k hk e => ?_, h'.nums_lo⟩
  have h1 := (hA.own.lt k hk).1
  have h2 := (h.o.lt k e).2
  omega
theorem GRel.itsF {pf : Option Addr} {n cf : Nat} (h : GRel b pn cn L w f o m (.slice pf n cf) vo W) : n = f.length ∧ f.length ≤ cf ∧ cf ≤ maxLen ∧ Its W pf f := by
  obtain ⟨p, c, e, h1, h2, hI⟩ := h.f.its
  injection e with e1 e2 e3
  subst e1; subst e3
  exact ⟨e2, h1, h2, hI⟩
theorem GRel.itsO {po : Option Addr} {n co : Nat} (h : GRel b pn cn L w f o m vf (.slice po n co) W) : n = o.length ∧ o.length ≤ co ∧ co ≤ maxLen ∧ Its W po o := by
  obtain ⟨p, c, e, h1, h2, hI⟩ := h.o.its
  injection e with e1 e2 e3
  subst e1; subst e3
  exact ⟨e2, h1, h2, hI⟩
theorem its_one {W : World} {B : Nat} {x : It} (h : W.heap[B]? = some (.cells #[.int .i64 x.k, .string x.t, .int .i64 x.id] 45 (0, 0))) : Its W (some ⟨B, 0, none⟩) [x] := fun _ => by
  refine ⟨_, rfl, (Array.getElem?_eq_some_iff.1 h).1, fun i hi => ?_⟩
  have hi0 : i = 0 := by simp at hi; exact hi
  subst hi0
  have e : ∀ n, (⟨B, 0, none⟩ : Addr).add n = ⟨B, n, none⟩ := fun n => by unfold Addr.add; split <;> simp_all
  rw [e, e, e]
  exact ⟨by rw [Lib.cell_of_heap h]; rfl, by rw [Lib.cell_of_heap h]; rfl, by rw [Lib.cell_of_heap h]; rfl⟩
theorem cells_item {W : World} {B : Nat} {k id : Int} {t : ByteArray} (h : W.heap[B]? = some (.cells #[.int .i64 k, .string t, .int .i64 id] 45 (0, 0))) : W.cell? ⟨B, 0, none⟩ = some (.int .i64 k) ∧ W.cell? ⟨B, 1, none⟩ = some (.string t) ∧ W.cell? ⟨B, 2, none⟩ = some (.int .i64 id) ∧ W.frozen? ⟨B, 0, none⟩ = false ∧ W.frozen? ⟨B, 1, none⟩ = false ∧ W.frozen? ⟨B, 2, none⟩ = false :=
  ⟨by rw [Lib.cell_of_heap h]; rfl, by rw [Lib.cell_of_heap h]; rfl, by rw [Lib.cell_of_heap h]; rfl, Lib.frozen_of_heap h 0, Lib.frozen_of_heap h 1, Lib.frozen_of_heap h 2⟩
theorem heap_set3 {W : World} {B : Nat} {a b c a' b' c' : Value} (h : W.heap[B]? = some (.cells #[a, b, c] 45 (0, 0))) : (((W.setCell ⟨B, 0, none⟩ a').setCell ⟨B, 1, none⟩ b').setCell ⟨B, 2, none⟩ c').heap[B]? = some (.cells #[a', b', c'] 45 (0, 0)) := by
  have h1 := setCell_heap W B 0 _ 45 a' h
  have h2 := setCell_heap _ B 1 _ 45 b' h1
  have h3 := setCell_heap _ B 2 _ 45 c' h2
  exact h3
theorem set3_size (W : World) (B : Nat) (a b c : Value) : (((W.setCell ⟨B, 0, none⟩ a).setCell ⟨B, 1, none⟩ b).setCell ⟨B, 2, none⟩ c).heap.size = W.heap.size := by simp [World.setCell]
theorem GRel.set3 (h : GRel b pn cn L w f o m vf vo W) (B : Nat) (hB : w.heap.size ≤ B) (hf : vf.ownBlock ≠ some B) (ho : vo.ownBlock ≠ some B) (a' b' c' : Value) : GRel b pn cn L w f o m vf vo (((W.setCell ⟨B, 0, none⟩ a').setCell ⟨B, 1, none⟩ b').setCell ⟨B, 2, none⟩ c') :=
  ((h.set B hB hf ho 0 a').set B hB hf ho 1 b').set B hB hf ho 2 c'
theorem GRel.atO {po : Option Addr} {n co : Nat} (h : GRel b pn cn L w f o m vf (.slice po n co) W) (h0 : 0 < o.length) : ∃ g, po = some ⟨g, 0, none⟩ := by
  rcases h.o.2 with ⟨_, hz⟩ | ⟨g, cap, cur, hv, _⟩
  · omega
  · injection hv with e1; exact ⟨g, e1⟩
theorem addr3 (g k : Nat) : (⟨g, 0, none⟩ : Addr).add k = ⟨g, k, none⟩ := by unfold Addr.add; split <;> simp_all
theorem its_at {g : Nat} {l : List It} (h : Its W (some ⟨g, 0, none⟩) l) (i : Nat) (hi : i < l.length) : g < W.heap.size ∧ W.cell? ⟨g, i * 3, none⟩ = some (.int .i64 (l[i]'hi).k) ∧ W.cell? ⟨g, i * 3 + 1, none⟩ = some (.string (l[i]'hi).t) ∧ W.cell? ⟨g, i * 3 + 2, none⟩ = some (.int .i64 (l[i]'hi).id) := by
  obtain ⟨a, e, hlt, hc⟩ := h (by omega)
  cases e
  obtain ⟨c0, c1, c2⟩ := hc i hi
  rw [addr3] at c0 c1 c2
  exact ⟨hlt, c0, c1, c2⟩
theorem its_take {p : Option Addr} {l : List It} (h : Its W p l) (k : Nat) : Its W p (l.take k) := fun h0 => by
  have hlt : 0 < l.length := by rw [List.length_take] at h0; omega
  obtain ⟨a, e, hb, hc⟩ := h hlt
  refine ⟨a, e, hb, fun i hi => ?_⟩
  rw [List.length_take] at hi
  have := hc i (by omega)
  rw [List.getElem_take]; exact this
theorem its_drop {g : Nat} {l : List It} (h : Its W (some ⟨g, 0, none⟩) l) (k : Nat) : Its W (some ⟨g, k * 3, none⟩) (l.drop k) := fun h0 => by
  rw [List.length_drop] at h0
  obtain ⟨a, e, hb, hc⟩ := h (by omega)
  cases e
  refine ⟨_, rfl, hb, fun i hi => ?_⟩
  rw [List.length_drop] at hi
  have := hc (k + i) (by omega)
  have e : ∀ n, (⟨g, k * 3, none⟩ : Addr).add n = ⟨g, k * 3 + n, none⟩ := fun n => by unfold Addr.add; split <;> simp_all
  rw [List.getElem_drop, e, e, e]
  rw [addr3, addr3, addr3] at this
  rw [show k * 3 + (i * 3) = (k + i) * 3 by omega, show k * 3 + (i * 3 + 1) = (k + i) * 3 + 1 by omega, show k * 3 + (i * 3 + 2) = (k + i) * 3 + 2 by omega]
  exact this
theorem its_set3 {p : Option Addr} {l : List It} (h : Its W p l) (B : Nat) (hp : ∀ a, p = some a → a.block ≠ B) (a' b' c' : Value) : Its (((W.setCell ⟨B, 0, none⟩ a').setCell ⟨B, 1, none⟩ b').setCell ⟨B, 2, none⟩ c') p l :=
  h.keep (by rw [set3_size]; exact Nat.le_refl _) (fun a ha => by
    have := hp a ha
    rw [Below.heap_setCell _ _ _ _ this, Below.heap_setCell _ _ _ _ this, Below.heap_setCell _ _ _ _ this])
theorem own_ne {go n c B : Nat} (h : (Value.slice (some ⟨go, 0, none⟩) n c).ownBlock ≠ some B) : ∀ a, some (⟨go, 0, none⟩ : Addr) = some a → a.block ≠ B := fun a e e2 => by
  cases e; exact h (by simpa [Value.ownBlock] using e2)
theorem Its.two {p : Option Addr} {l : List It} (h : Its W p l) : Its W.drew.drew p l := h
theorem its_empty {p : Option Addr} {l : List It} (h : l.length = 0) : Its W p l := fun h0 => by omega
/-- The open tags have been made anew. -/
theorem GRel.madeO (h : GRel b pn cn L w f o m vf vo W) {o' : List It} {v : Value} (hA : AccI W o' v W') : GRel b pn cn L w f o' m vf v W' := by
  have hw := h.chg.size
  have h' := h.call hA.below
  refine ⟨h'.base, h'.chg, h'.nums, h'.f, ownsRow_base hA.own hw, fun k hk e => ?_, h'.nums_lo⟩
  have h1 := (hA.own.lt k e).1
  have h2 := (h.f.lt k hk).2
  omega
/-- append of a whole slice of items at a step of a region that draws its order. -/
theorem step_cat {ops : Array Oper} {o : Oper} {a : Act} {K : Act → World → Prop} {Q : Exit → Act → World → Prop} {EE : Prop} (w : World) (hgd : o.guard = none) (s x : Operand) (ho : o.op = .call { callee := .builtin .append, args := #[s, x], argTypes := #[46, 46] })
    (w0 : World) (L M : List It) (v : Value) (hs : a.eval s = v) (h : AccI w0 L v w) (p : Option Addr) (m c : Nat) (hx : a.eval x = .slice p m c) (hm : m = M.length) (hM : Its w p M) (hl : (L.length + M.length) * 32 ≤ 140737488355328)
    (hK : ∀ v' w', AccI w0 (L ++ M) v' w' → K (a.put o.dst v') w') : if Region.wanted o (yielded ops a.tmps) = true then Oper.wp Tryz.prog o a w K Q else EE := by
  subst hm
  obtain ⟨v', w', hr, h1, h2⟩ := append_its w o.type w0.heap.size L M v p c h.own hM h.below.size hl
  have hw : Region.wanted o (yielded ops a.tmps) = true := by simp [Region.wanted, hgd]
  rw [if_pos hw]
  exact Lib.wp_append_run w s x 46 46 ho v _ hs hx v' w' hr (hK v' w' (h.more h2 h1))
/-- The fragment behind the closing tags of the last open ones. -/
def closeF (f o : List It) (i : Nat) : List It := f ++ (o.drop i).reverse.map closeI
theorem its_held2 {W : World} {g a b : Nat} {t : ByteArray} {id : Int} (h : W.cell? ⟨g, a, none⟩ = some (.string t) ∧ W.cell? ⟨g, b, none⟩ = some (.int .i64 id)) (ob : Obj) : (W.alloc ob).cell? ⟨g, a, none⟩ = some (.string t) ∧ (W.alloc ob).cell? ⟨g, b, none⟩ = some (.int .i64 id) := by
  have hb := blw (Below.refl _ W) ob
  exact ⟨by rw [hb.cell (p := ⟨g, a, none⟩) (World.block_lt_of_cell? W _ h.1)]; exact h.1, by rw [hb.cell (p := ⟨g, b, none⟩) (World.block_lt_of_cell? W _ h.2)]; exact h.2⟩
theorem closeF_all (f o : List It) : closeF f o o.length = f := by unfold closeF; simp
theorem closeF_none (f o : List It) : closeF f o 0 = f ++ o.reverse.map closeI := by unfold closeF; simp
theorem closeF_next (f o : List It) (j : Nat) (h : j < o.length) : closeF f o j = closeF f o (j + 1) ++ [closeI (o[j]'h)] := by
  unfold closeF
  rw [List.drop_eq_getElem_cons h, List.reverse_cons, List.map_append, List.append_assoc]; rfl
theorem closeF_len (f o : List It) (i : Nat) : (closeF f o i).length ≤ f.length + o.length := by unfold closeF; rw [List.length_append, List.length_map, List.length_reverse, List.length_drop]; omega
end
end Go.Proofs.YthfgpagmepdblaaGreat
namespace Go.Proofs.YthfgpagmepdblaaGreat
open Go.ChangeShapes Go.WideShapes Go.ChangeAt Go.RowKit
set_option linter.unusedVariables false
set_option maxRecDepth 100000

/-- The number that a list of pairs gives a number. -/
def nmF (ps : List (Int × Int)) (id : Int) : Option Int := (ps.find? fun q => q.1 == id).map (·.2)
theorem nm_snoc (ps : List (Int × Int)) (a b id : Int) : nmF (ps ++ [(a, b)]) id = match nmF ps id with | some v => some v | none => if a = id then some b else none := by
  unfold nmF
  rw [List.find?_append]
  cases h : ps.find? fun q => q.1 == id with
  | some v => rfl
  | none =>
    by_cases e : a = id
    · simp [e]
    · simp [e]
theorem nm_have (ps : List (Int × Int)) (a b c : Int) (h : nmF ps a = some c) (id : Int) : nmF (ps ++ [(a, b)]) id = nmF ps id := by
  rw [nm_snoc]
  cases h2 : nmF ps id with
  | some v => rfl
  | none =>
    show (if a = id then _ else _) = none
    rw [if_neg (fun e => by rw [e, h2] at h; cases h)]
theorem nm_new (ps : List (Int × Int)) (a b : Int) (h : nmF ps a = none) (id : Int) : (if id = a then some b else nmF ps id) = nmF (ps ++ [(a, b)]) id := by
  rw [nm_snoc]
  by_cases e : id = a
  · rw [if_pos e, e, h]; simp
  · rw [if_neg e]
    cases h2 : nmF ps id with
    | some v => rfl
    | none => show none = if a = id then _ else _; rw [if_neg (fun c => e c.symm)]
def ren1 (ps : List (Int × Int)) (x : It) : List It := if isT x.k = true then (match nmF ps x.id with | some n => [⟨x.k, x.t, n⟩] | none => []) else [x]
def renL (ps : List (Int × Int)) (l : List It) : List It := l.flatMap (ren1 ps)
theorem ren_next (ps : List (Int × Int)) (l : List It) (k : Nat) (h : k < l.length) : renL ps (l.take (k + 1)) = renL ps (l.take k) ++ ren1 ps (l[k]'h) := by
  rw [List.take_succ_eq_append_getElem h]; unfold renL; rw [List.flatMap_append]; simp
theorem ren1_len (ps : List (Int × Int)) (x : It) : (ren1 ps x).length ≤ 1 := by unfold ren1; split; split <;> simp; simp
theorem ren_len (ps : List (Int × Int)) (l : List It) : ∀ k, k ≤ l.length → (renL ps (l.take k)).length ≤ k := by
  intro k
  induction k with
  | zero => intro _; simp [renL]
  | succ j ih =>
    intro hj
    rw [ren_next ps l j hj, List.length_append]
    have := ren1_len ps l[j]; have := ih (by omega); omega
theorem ren1_txt (ps : List (Int × Int)) (x : It) : txtI (ren1 ps x) ≤ x.t.size := by unfold ren1 txtI; split; split <;> simp; simp
theorem ren_txt (ps : List (Int × Int)) (l : List It) : txtI (renL ps l) ≤ txtI l := by
  induction l with
  | nil => exact Nat.le_refl _
  | cons x t ih =>
    have e1 : renL ps (x :: t) = ren1 ps x ++ renL ps t := rfl
    have e2 : txtI (x :: t) = x.t.size + txtI t := rfl
    rw [e1, txtI_append, e2]
    have := ren1_txt ps x; omega
end Go.Proofs.YthfgpagmepdblaaGreat
namespace Go.Proofs.YthfgpagmepdblaaGreat
open Go.ChangeShapes Go.WideShapes Go.ChangeAt Go.RowKit
set_option linter.unusedVariables false
set_option maxRecDepth 100000

theorem nmr_one (P : List (Int × Int)) (a b id : Int) (h : nmF P id = none) : nmF (P ++ [(a, b)]) id = if a = id then some b else none := by rw [nm_snoc, h]
theorem nm_some (P Q : List (Int × Int)) (id n : Int) (h : nmF P id = some n) : nmF (P ++ Q) id = some n := by
  unfold nmF at *
  rw [List.find?_append]
  cases h2 : P.find? fun q => q.1 == id with
  | some v => rw [h2] at h; exact h
  | none => rw [h2] at h; cases h
theorem nm_take (P : List (Int × Int)) (j : Nat) (id n : Int) (h : nmF (P.take j) id = some n) : nmF P id = some n := by
  rw [← List.take_append_drop j P]; exact nm_some _ _ _ _ h

end Go.Proofs.YthfgpagmepdblaaGreat
namespace Go.Proofs.YthfgpagmepdblaaGreat
open Go.ChangeShapes Go.WideShapes Go.ChangeAt Go.RowKit
set_option linter.unusedVariables false
set_option maxRecDepth 100000

def EndF2 (L : List It) (w : World) (e : Ending) (w' : World) : Prop := ∃ p c, e = .returned (.slice p L.length c) ∧ L.length ≤ c ∧ c ≤ maxLen ∧ Its w' p L ∧ Below w.heap.size w w'
theorem EndI.f2 {L : List It} {w w' : World} {e : Ending} (h : EndI L w e w') : EndF2 L w e w' := by
  obtain ⟨v, rfl, hA⟩ := h
  obtain ⟨p, c, rfl, h1, h2, hI⟩ := hA.own.its
  exact ⟨p, c, rfl, h1, h2, hI, hA.below⟩
def EndNF (L : List Int) (w : World) (e : Ending) (w' : World) : Prop := ∃ p c, e = .returned (.slice p L.length c) ∧ L.length ≤ c ∧ c ≤ maxLen ∧ Ones w' (Value.int .i64) p L ∧ Below w.heap.size w w'
theorem EndN.f {L : List Int} {w w' : World} {e : Ending} (h : EndN L w e w') : EndNF L w e w' := by
  obtain ⟨v, rfl, hA⟩ := h
  obtain ⟨p, c, rfl, h1, h2, hI⟩ := hA.own.ints
  exact ⟨p, c, rfl, h1, h2, hI, hA.below⟩
theorem nums_wf (l : List It) (hO : Oks l) : ∀ i (h : i < (numsL l).length), (Lit.int .i64 ((numsL l)[i]'h)).wf = true := by
  have : ∀ (l : List It) (out : List Int), (∀ x ∈ l, x.ok) → (∀ n ∈ out, (Lit.int .i64 n).wf = true) → ∀ n ∈ l.foldl numS out, (Lit.int .i64 n).wf = true := by
    intro l
    induction l with
    | nil => intro out _ h; exact h
    | cons x t ih =>
      intro out h1 h2
      rw [List.foldl_cons]
      refine ih _ (fun y hy => h1 y (by simp [hy])) ?_
      intro n hn
      unfold numS at hn
      split at hn
      · rcases List.mem_append.1 hn with hn | hn
        · exact h2 n hn
        · rw [List.mem_singleton.1 hn]; exact (h1 x (by simp)).id
      · exact h2 n hn
  intro i h
  exact this l [] (fun x hx => by obtain ⟨j, hj, e⟩ := List.getElem_of_mem hx; rw [← e]; exact hO j hj) (fun n hn => by cases hn) _ (List.getElem_mem h)
theorem nums_le (l : List It) : (numsL l).length ≤ l.length := by
  have h := nums_len l _ (Nat.le_refl _)
  rwa [List.take_length] at h
/-- The pairs of Renumber. -/
def upPairs (ns : List Int) : List (Int × Int) := ns.zip (upL ns.length)

def EndFF (L M : List It) (w : World) (e : Ending) (w' : World) : Prop := ∃ p c q d, e = .returned (.tuple #[.slice p L.length c, .slice q M.length d]) ∧ L.length ≤ c ∧ c ≤ maxLen ∧ M.length ≤ d ∧ d ≤ maxLen ∧ Its w' p L ∧ Its w' q M ∧ Below w.heap.size w w'
theorem Oks.append {l m : List It} (h : Oks l) (k : Oks m) : Oks (l ++ m) := fun i hi => by
  rcases List.mem_append.1 (List.getElem_mem hi) with hx | hx
  · obtain ⟨j, hj, e⟩ := List.getElem_of_mem hx; rw [← e]; exact h j hj
  · obtain ⟨j, hj, e⟩ := List.getElem_of_mem hx; rw [← e]; exact k j hj

end Go.Proofs.YthfgpagmepdblaaGreat
