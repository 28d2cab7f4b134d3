/- Slices that a call makes by appending: of items, of numbers, of strings. -/
import Derived.Test.YtphkpokoeaagfaaGreatDoorIt
import Derived.OwnWalk
namespace Go.Proofs.YtphkpokoeaagfaaGreatDoor
open Go.ChangeShapes Go.WideShapes Go.ChangeAt Go.RowKit
set_option linter.unusedVariables false
set_option maxRecDepth 100000

/-- What an element type is to the append. -/
structure El {α : Type} (t e size bytes : Nat) (z : Value) (enc : α → List Value) : Prop where
  ht : Tryz.prog.underlying t = some (.slice e)
  hi : ∃ i, Tryz.prog.info? e = some i ∧ i.zero = some z ∧ i.size = size ∧ i.bytes = bytes
  hzs : z.cells.size = size
  hsz : 0 < size
  len : ∀ x, (enc x).length = size
  one : ∀ x, ∀ u ∈ enc x, u.oneCell' = true
def ienc (x : It) : List Value := [.int .i64 x.k, .string x.t, .int .i64 x.id]
def nenc (x : Int) : List Value := [.int .i64 x]
def senc (x : ByteArray) : List Value := [.string x]
theorem info3 : (Tryz.prog.info? 3).map (fun i => (i.zero, i.size, i.bytes)) = some (some (.int .i64 0), 1, 8) := by kernel_rfl
theorem info9 : (Tryz.prog.info? 9).map (fun i => (i.zero, i.size, i.bytes)) = some (some (.string .empty), 1, 16) := by kernel_rfl
theorem eI : El 24 62 3 32 (.agg #[.int .i64 0, .string .empty, .int .i64 0]) ienc :=
  ⟨Tryz.underlying24, info_parts info26, rfl, by omega, fun _ => rfl, fun x u hu => by simp [ienc] at hu; rcases hu with rfl | rfl | rfl <;> rfl⟩
theorem eN : El 22 3 1 8 (.int .i64 0) nenc := ⟨Tryz.underlying22, info_parts info3, rfl, by omega, fun _ => rfl, fun x u hu => by simp [nenc] at hu; subst hu; rfl⟩
theorem eS : El 79 9 1 16 (.string .empty) senc := ⟨Tryz.underlying79, info_parts info9, rfl, by omega, fun _ => rfl, fun x u hu => by simp [senc] at hu; subst hu; rfl⟩

section
variable {α : Type} {t e size bytes : Nat} {z : Value} {enc : α → List Value}
def cellsOf (enc : α → List Value) (L : List α) : List Value := L.flatMap enc
theorem cellsOf_len (E : El t e size bytes z enc) (L : List α) : (cellsOf enc L).length = L.length * size := by
  induction L with
  | nil => simp [cellsOf]
  | cons x r ih => unfold cellsOf at *; rw [List.flatMap_cons, List.length_append, ih, E.len]; simp [Nat.add_mul]; omega
/-- A slice that the call owns from block base on. -/
def OwnL (e size : Nat) (enc : α → List Value) (base : Nat) (L : List α) (v : Value) (w : World) : Prop := w.ownsRow base e size v L.length (cellsOf enc L)
theorem OwnL.nil (w : World) (base : Nat) : OwnL e size enc base [] (.slice none 0 0) w := World.ownsRow_nil _ _ _ _
theorem OwnL.call {base : Nat} {L : List α} {v : Value} {w w1 : World} (h : OwnL e size enc base L v w) (hb : Below w.heap.size w w1) : OwnL e size enc base L v w1 := ownsRow_below h hb
/-- What a call has made so far: the slice, and nothing old has turned. -/
structure Acc (e size : Nat) (enc : α → List Value) (w : World) (L : List α) (v : Value) (wr : World) : Prop where
  below : Below w.heap.size w wr
  own : OwnL e size enc w.heap.size L v wr
theorem Acc.start (w : World) : Acc e size enc w [] (.slice none 0 0) w := ⟨Below.refl _ _, OwnL.nil _ _⟩
theorem Acc.call {w : World} {L : List α} {v : Value} {wr w1 : World} (h : Acc e size enc w L v wr) (hb : Below wr.heap.size wr w1) : Acc e size enc w L v w1 := ⟨BelowOn h.below hb, h.own.call hb⟩
theorem Acc.alloc {w : World} {L : List α} {v : Value} {wr : World} (h : Acc e size enc w L v wr) (o : Obj) : Acc e size enc w L v (wr.alloc o) := ⟨blw h.below o, World.ownsRow.alloc h.own o⟩
theorem Acc.drew {w : World} {L : List α} {v : Value} {wr : World} (h : Acc e size enc w L v wr) : Acc e size enc w L v wr.drew := ⟨h.below.drew, h.own⟩
theorem Acc.more {w : World} {L L' : List α} {v v' : Value} {w1 w2 : World} (h : Acc e size enc w L v w1) (g : w1.grownBy w2 v.ownBlock) (own' : OwnL e size enc w.heap.size L' v' w2) : Acc e size enc w L' v' w2 :=
  ⟨h.below.grown g h.below.size (fun k hk => (h.own.lt k hk).1), own'⟩
/-- append of one element that lies in a block of its own. -/
theorem wpl_append (E : El t e size bytes z enc) (w : World) {ops : Array Oper} {rest : List Oper} {o : Oper} {a : Act} {Q : Exit → Act → World → Prop} (hg : o.guard = none) (s x : Operand)
    (ho : o.op = .call { callee := .builtin .append, args := #[s, x], argTypes := #[t, t] }) (w0 : World) (L : List α) (v : Value) (hs : a.eval s = v) (h : Acc e size enc w0 L v w) (y : α) (B : Nat) (cs : Array Value)
    (hx : a.eval x = .slice (some ⟨B, 0, none⟩) 1 1) (hB : w.heap[B]? = some (.cells cs e (0, 0))) (hcs : cs.toList = enc y) (hlen : (L.length + 1) * bytes ≤ 140737488355328) (hlen' : L.length + 1 ≤ maxLen)
    (hK : ∀ v' w', Acc e size enc w0 (L ++ [y]) v' w' → Below w0.heap.size w0 w' → wpList Tryz.prog ops Q rest (a.put o.dst v') w') : wpList Tryz.prog ops Q (o :: rest) a w := by
  obtain ⟨i, hi, hz0, hz1, hz2⟩ := E.hi
  refine wpList_append_lies w hg s x t ho w0.heap.size e i z size bytes E.ht hi hz0 hz1 hz2 E.hzs E.hsz v L.length (cellsOf enc L) hs h.own ⟨B, 0, none⟩ 1 1 (enc y) hx (by rw [E.len]; omega) ?_ (E.one y) (by omega) hlen' hlen h.below.size _ rfl ?_
  · rw [← hcs]; exact World.news_of_block hB
  · intro g cap w' h2 h3 h4 h5
    have ha : Acc e size enc w0 (L ++ [y]) (.slice (some ⟨g, 0, none⟩) (L.length + 1) cap) w' := h.more h3 (by
      unfold OwnL; rw [List.length_append, show cellsOf enc (L ++ [y]) = cellsOf enc L ++ enc y from by unfold cellsOf; rw [List.flatMap_append]; simp]; exact h2)
    exact hK _ w' ha ha.below
end
abbrev AccI := Acc 62 3 ienc
abbrev AccN := Acc 3 1 nenc
abbrev AccS := Acc 9 1 senc
theorem OwnL.its {base : Nat} {L : List It} {v : Value} {wr : World} (h : OwnL 62 3 ienc base L v wr) : ∃ p cap, v = .slice p L.length cap ∧ L.length ≤ cap ∧ cap ≤ maxLen ∧ Its wr p L := OwnIts.form h

/-- The cells of a slice of one-cell elements. -/
def Ones {α : Type} (W : World) (enc : α → Value) (p : Option Addr) (l : List α) : Prop :=
  0 < l.length → ∃ a, p = some a ∧ a.block < W.heap.size ∧ ∀ i (h : i < l.length), W.cell? (a.add i) = some (enc (l[i]'h))
theorem Ones.call {α : Type} {W w1 : World} {enc : α → Value} {p : Option Addr} {l : List α} (h : Ones W enc p l) (hb : Below W.heap.size W w1) : Ones w1 enc p l := fun h0 => by
  obtain ⟨a, hp, hlt, hc⟩ := h h0
  exact ⟨a, hp, Nat.lt_of_lt_of_le hlt hb.size, fun i hi => by rw [hb.cell (p := a.add i) (by rw [add_block]; exact hlt)]; exact hc i hi⟩
theorem Ones.nil {α : Type} (W : World) (enc : α → Value) (p : Option Addr) : Ones W enc p [] := fun h => by cases h
theorem cells_map {α : Type} (en : α → Value) (L : List α) : cellsOf (fun x => [en x]) L = L.map en := by
  unfold cellsOf
  induction L with
  | nil => rfl
  | cons x r ih => rw [List.flatMap_cons, List.map_cons, ih]; rfl
theorem OwnL.ones {α : Type} {e : Nat} {en : α → Value} {base : Nat} {L : List α} {v : Value} {wr : World} (h : OwnL e 1 (fun x => [en x]) base L v wr) :
    ∃ p cap, v = .slice p L.length cap ∧ L.length ≤ cap ∧ cap ≤ maxLen ∧ Ones wr en p L := by
  rcases h.2 with ⟨hv, h0⟩ | ⟨g, cap, cur, hv, hg, hh, hn, hm, hs, ht⟩
  · have : L = [] := List.length_eq_zero_iff.1 h0
    subst this
    exact ⟨none, 0, hv, Nat.le_refl _, Nat.zero_le _, Ones.nil _ _ _⟩
  · refine ⟨some ⟨g, 0, none⟩, cap, hv, hn, hm, fun _ => ⟨_, rfl, ?_, fun i hi => ?_⟩⟩
    · rcases Nat.lt_or_ge g wr.heap.size with hlt | hge
      · exact hlt
      · rw [Array.getElem?_eq_none hge] at hh; cases hh
    · have hc := World.ownsRow.cells h (g := g) (by rw [hv]; rfl)
      refine hc i _ ?_
      rw [cells_map, List.getElem?_map, List.getElem?_eq_getElem hi]; rfl
theorem OwnL.ints {base : Nat} {L : List Int} {v : Value} {wr : World} (h : OwnL 3 1 nenc base L v wr) : ∃ p cap, v = .slice p L.length cap ∧ L.length ≤ cap ∧ cap ≤ maxLen ∧ Ones wr (Value.int .i64) p L := OwnL.ones h
theorem OwnL.strs {base : Nat} {L : List ByteArray} {v : Value} {wr : World} (h : OwnL 9 1 senc base L v wr) : ∃ p cap, v = .slice p L.length cap ∧ L.length ≤ cap ∧ cap ≤ maxLen ∧ Ones wr Value.string p L := OwnL.ones h

/-- A variable of three cells, where it lies. -/
structure Var3 (W : World) (b : Nat) (k : Int) (t : ByteArray) (id : Int) : Prop where
  c0 : W.cell? ⟨b, 0, none⟩ = some (.int .i64 k)
  c1 : W.cell? ⟨b, 1, none⟩ = some (.string t)
  c2 : W.cell? ⟨b, 2, none⟩ = some (.int .i64 id)
  lt : b < W.heap.size
theorem Var3.call {W w1 : World} {b : Nat} {k id : Int} {t : ByteArray} (h : Var3 W b k t id) (hb : Below W.heap.size W w1) : Var3 w1 b k t id :=
  ⟨by rw [hb.cell (p := ⟨b, 0, none⟩) h.lt]; exact h.c0, by rw [hb.cell (p := ⟨b, 1, none⟩) h.lt]; exact h.c1, by rw [hb.cell (p := ⟨b, 2, none⟩) h.lt]; exact h.c2, Nat.lt_of_lt_of_le h.lt hb.size⟩
theorem Var3.alloc {W : World} {b : Nat} {k id : Int} {t : ByteArray} (h : Var3 W b k t id) (o : Obj) : Var3 (W.alloc o) b k t id := h.call ((Below.refl _ _).alloc (Nat.le_refl _) o)
theorem Var3.drew {W : World} {b : Nat} {k id : Int} {t : ByteArray} (h : Var3 W b k t id) : Var3 W.drew b k t id := ⟨h.c0, h.c1, h.c2, h.lt⟩
theorem Var3.new (W : World) (k : Int) (t : ByteArray) (id : Int) : Var3 (W.alloc (.cells #[.int .i64 k, .string t, .int .i64 id] 62)) W.heap.size k t id := ⟨by simp, by simp, by simp, by simp⟩
end Go.Proofs.YtphkpokoeaagfaaGreatDoor
