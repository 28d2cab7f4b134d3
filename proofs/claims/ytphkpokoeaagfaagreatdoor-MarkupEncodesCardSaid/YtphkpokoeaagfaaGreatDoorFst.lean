/- firstTags and Numbers of package item. -/
import Derived.Test.YtphkpokoeaagfaaGreatDoorNum
import Derived.Test.YtphkpokoeaagfaaGreatDoorVal
namespace Go.Proofs.YtphkpokoeaagfaaGreatDoor
open Go.ChangeShapes Go.WideShapes Go.ChangeAt Go.RowKit
set_option linter.unusedVariables false
set_option maxRecDepth 100000

def fstS (out : List It) (x : It) : List It := if x.id ∈ out.map It.id then out else out ++ [x]
def fstL (l : List It) : List It := l.foldl fstS []
def firsts (l : List It) : List It := fstL (tagsL l)
theorem fst_next (l : List It) (k : Nat) (h : k < l.length) : fstL (l.take (k + 1)) = fstS (fstL (l.take k)) (l[k]'h) := by
  rw [List.take_succ_eq_append_getElem h]; unfold fstL; rw [List.foldl_append]; rfl
theorem fstS_len (out : List It) (x : It) : (fstS out x).length ≤ out.length + 1 := by unfold fstS; split <;> simp
theorem fst_len (l : List It) : ∀ k, k ≤ l.length → (fstL (l.take k)).length ≤ k := by
  intro k
  induction k with
  | zero => intro _; simp [fstL]
  | succ j ih =>
    intro hj
    rw [fst_next l j hj]
    have := fstS_len (fstL (l.take j)) l[j]; have := ih (by omega); omega
theorem firsts_len (l : List It) : (firsts l).length ≤ l.length := by
  have h := fst_len (tagsL l) _ (Nat.le_refl _)
  rw [List.take_length] at h
  have := tags_len l
  unfold firsts; omega
theorem nums_firsts (l : List It) : (firsts l).map It.id = numsL l := by
  have : ∀ (l : List It) (out : List It), ((l.filter (fun x => isT x.k)).foldl fstS out).map It.id = l.foldl numS (out.map It.id) := by
    intro l
    induction l with
    | nil => intro out; rfl
    | cons x t ih =>
      intro out
      rw [List.filter_cons, List.foldl_cons]
      cases q : isT x.k
      · rw [if_neg (by simp), ih, show numS (out.map It.id) x = out.map It.id from if_neg (by simp [q])]
      · rw [if_pos rfl, List.foldl_cons, ih]
        congr 1
        unfold fstS numS
        by_cases h : x.id ∈ out.map It.id
        · rw [if_pos h, if_neg (fun c => c.2 h)]
        · rw [if_neg h, if_pos ⟨q, h⟩]; simp
  exact this l []
def seenF (out : List It) (id : Int) : Option Bool := if id ∈ out.map It.id then some true else none
theorem txt_fst (l : List It) : ∀ out, txtI (l.foldl fstS out) ≤ txtI out + txtI l := by
  induction l with
  | nil => intro out; exact Nat.le_refl _
  | cons x t ih =>
    intro out
    rw [List.foldl_cons]
    have h1 := ih (fstS out x)
    have h2 : txtI (fstS out x) ≤ txtI out + x.t.size := by
      unfold fstS; split
      · omega
      · rw [txtI_snoc]; omega
    have h3 : txtI (x :: t) = x.t.size + txtI t := rfl
    omega
theorem Oks.tags {l : List It} (h : Oks l) : Oks (tagsL l) := fun i hi => by
  have : (tagsL l)[i] ∈ l := (List.mem_filter.1 (List.getElem_mem hi)).1
  obtain ⟨j, hj, e⟩ := List.getElem_of_mem this
  rw [← e]; exact h j hj

/-! ### worlds in which one old block turns -/
theorem OwnL.keep {α : Type} {e size : Nat} {enc : α → List Value} {base : Nat} {L : List α} {v : Value} {w w1 : World} (h : OwnL e size enc base L v w) (hs : w.heap.size ≤ w1.heap.size) (hb : ∀ k, base ≤ k → k < w.heap.size → w1.heap[k]? = w.heap[k]?) : OwnL e size enc base L v w1 := by
  obtain ⟨h1, h2⟩ := h
  refine ⟨h1, ?_⟩
  rcases h2 with h2 | ⟨g, cap, cur, hv, hg, hh, r⟩
  · exact .inl h2
  · refine .inr ⟨g, cap, cur, hv, hg, ?_, r⟩
    have hlt : g < w.heap.size := by
      rcases Nat.lt_or_ge g w.heap.size with hlt | hge
      · exact hlt
      · rw [Array.getElem?_eq_none hge] at hh; cases hh
    rw [hb g hg hlt]; exact hh
theorem OwnL.other {α : Type} {e size : Nat} {enc : α → List Value} {base M : Nat} {L : List α} {v : Value} {w w1 : World} (h : OwnL e size enc base L v w) (hg : w.grownBy w1 (some M)) (hM : M < base) : OwnL e size enc base L v w1 :=
  h.keep hg.size fun k hk hlt => hg.block k hlt (fun e => by injection e; omega)
theorem OwnL.addr {α : Type} {e size : Nat} {enc : α → List Value} {base n cap : Nat} {L : List α} {p : Option Addr} {w : World} (h : OwnL e size enc base L (.slice p n cap) w) : ∀ a, p = some a → base ≤ a.block ∧ a.block < w.heap.size := fun a ha => by
  rcases h.2 with ⟨hv, _⟩ | ⟨g, c, cur, hv, hg, hh, _⟩
  · injection hv with h1; rw [ha] at h1; cases h1
  · injection hv with h1; rw [ha] at h1; injection h1 with h1; subst h1
    refine ⟨hg, ?_⟩
    rcases Nat.lt_or_ge g w.heap.size with hlt | hge
    · exact hlt
    · rw [Array.getElem?_eq_none hge] at hh; cases hh
theorem Its.keep {W w1 : World} {p : Option Addr} {l : List It} (h : Its W p l) (hs : W.heap.size ≤ w1.heap.size) (hb : ∀ a, p = some a → w1.heap[a.block]? = W.heap[a.block]?) : Its w1 p l := fun h0 => by
  obtain ⟨a, hp, hlt, hc⟩ := h h0
  have hh := hb a hp
  have e : ∀ n, w1.cell? (a.add n) = W.cell? (a.add n) := fun n => World.cell?_of_block (by rw [add_block]; exact hh)
  refine ⟨a, hp, Nat.lt_of_lt_of_le hlt hs, fun i hi => ?_⟩
  rw [e, e, e]; exact hc i hi
theorem Its.other {W w1 : World} {p : Option Addr} {l : List It} {M : Nat} (h : Its W p l) (hg : W.grownBy w1 (some M)) (hp : ∀ a, p = some a → a.block ≠ M) : Its w1 p l := fun h0 => by
  obtain ⟨a, ha, hlt, _⟩ := h h0
  exact (h.keep hg.size fun b hb => hg.block _ (by rw [ha] at hb; injection hb with hb; subst hb; exact hlt) (fun e => by injection e with e; exact hp b hb e)) h0
theorem Its.under {W w1 : World} {p : Option Addr} {l : List It} {B : Nat} (h : Its W p l) (hb : Below B W w1) (hp : ∀ a, p = some a → a.block < B) : Its w1 p l :=
  h.keep hb.size fun a ha => hb.block _ (hp a ha)

section
variable {α : Type} {t e size bytes : Nat} {z : Value} {enc : α → List Value}
/-- append of one element to a slice that is owned from block base on. -/
theorem wpl_append2 (E : El t e size bytes z enc) (w : World) {ops : Array Oper} {rest : List Oper} {o : Oper} {a : Act} {Q : Exit → Act → World → Prop} (hg : o.guard = none) (s x : Operand)
    (ho : o.op = .call { callee := .builtin .append, args := #[s, x], argTypes := #[t, t] }) (base : Nat) (hbase : base ≤ w.heap.size) (L : List α) (v : Value) (hs : a.eval s = v) (h : OwnL e size enc base L v w) (y : α) (B : Nat) (cs : Array Value)
    (hx : a.eval x = .slice (some ⟨B, 0, none⟩) 1 1) (hB : w.heap[B]? = some (.cells cs e (0, 0))) (hcs : cs.toList = enc y) (hlen : (L.length + 1) * bytes ≤ 140737488355328) (hlen' : L.length + 1 ≤ maxLen)
    (hK : ∀ v' w', OwnL e size enc base (L ++ [y]) v' w' → Below base w w' → wpList Tryz.prog ops Q rest (a.put o.dst v') w') : wpList Tryz.prog ops Q (o :: rest) a w := by
  obtain ⟨i, hi, hz0, hz1, hz2⟩ := E.hi
  refine wpList_append_lies w hg s x t ho base e i z size bytes E.ht hi hz0 hz1 hz2 E.hzs E.hsz v L.length (cellsOf enc L) hs h ⟨B, 0, none⟩ 1 1 (enc y) hx (by rw [E.len]; omega) ?_ (E.one y) (by omega) hlen' hlen hbase _ rfl ?_
  · rw [← hcs]; exact World.news_of_block hB
  · intro g cap w' h2 h3 h4 h5
    refine hK _ w' ?_ ((Below.refl base w).grown h3 hbase (fun k hk => (h.lt k hk).1))
    unfold OwnL; rw [List.length_append, show cellsOf enc (L ++ [y]) = cellsOf enc L ++ enc y from by unfold cellsOf; rw [List.flatMap_append]; simp]; exact h2
end

/-- What holds at each round's head of firstTags. -/
structure FRel (g : List It) (w : World) (p1 : Option Addr) (S k : Nat) (v : Value) (wr : World) : Prop where
  le : k ≤ g.length
  base : w.heap.size < S
  size : S ≤ wr.heap.size
  below : Below w.heap.size w wr
  own : OwnL 62 3 ienc S (fstL (g.take k)) v wr
  map : MapAt 3 vInt Value.bool wr w.heap.size k (seenF (fstL (g.take k)))
  its : Its wr p1 g
  addr : ∀ a, p1 = some a → a.block < S ∧ a.block ≠ w.heap.size
theorem FRel.alloc {g : List It} {w : World} {p1 : Option Addr} {S k : Nat} {v : Value} {wr : World} (h : FRel g w p1 S k v wr) (o : Obj) : FRel g w p1 S k v (wr.alloc o) :=
  ⟨h.le, h.base, by have := h.size; simp; omega, blw h.below o, World.ownsRow.alloc h.own o, h.map.alloc o, h.its.call (blw (Below.refl _ _) o), h.addr⟩

end Go.Proofs.YtphkpokoeaagfaaGreatDoor
