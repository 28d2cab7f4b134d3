/- Patterns that a call makes: an atom built, laid into a slice literal, appended. -/
import Derived.Test.YtdnofpllmhnacaaRst
import Derived.Test.YtdnofpllmhnacaaGen
import Derived.Test.YtdnofpllmhnacaaMch
import Derived.Laws.Tables
import Derived.Great.BuildSlice
namespace Go.Proofs.Ytdnofpllmhnacaa
open Go.ChangeShapes Go.WideShapes Go.ChangeAt Go.RowKit Go.Sort
set_option linter.unusedVariables false
set_option linter.unusedSimpArgs false
set_option maxRecDepth 100000

def zeroAt : At := ⟨emptyS, 0, false⟩
theorem info37 : (Try.prog.info? 37).map (fun i => (i.zero, i.size, i.bytes)) = some (some (.agg zeroAt.cs.toArray), 34, 48) := by kernel_rfl
theorem info37' : ∃ i, Try.prog.info? 37 = some i ∧ i.zero = some (.agg zeroAt.cs.toArray) ∧ i.size = 34 ∧ i.bytes = 48 := by
  cases hi : Try.prog.info? 37 with
  | none => have := info37; rw [hi] at this; cases this
  | some i =>
    have h := info37
    rw [hi] at h
    simp only [Option.map_some, Option.some.injEq, Prod.mk.injEq] at h
    exact ⟨i, rfl, h.1, h.2.1, h.2.2⟩
theorem built_atom (S : BSet) : Try.prog.built 37 [(0, .agg (setC S).toArray)] = some (At.cs ⟨S, 0, false⟩).toArray := by kernel_rfl
theorem wpl_buildAt {ops : Array Oper} {rest : List Oper} {op : Oper} {a : Act} {w : World} {Q : Exit → Act → World → Prop} (hgd : op.guard = none) (x : Operand) (ho : op.op = .build 37 #[(0, x)]) (S : BSet) (hx : a.eval x = .agg (setC S).toArray)
    (h : wpList Try.prog ops Q rest (a.put op.dst (.agg (At.cs ⟨S, 0, false⟩).toArray)) w) : wpList Try.prog ops Q (op :: rest) a w :=
  wpList_plain hgd fun _ hK => wp_build 37 _ ho (by simp [hx, built_atom]) (by simp only [List.map_toArray, List.map_cons, List.map_nil, hx, built_atom, Option.getD_some]; exact hK _ _ h)
theorem slice_atom (x : At) : Instr.fill (fun i => some (i * 34, 34)) ((Array.range (1 * 34)).map ((Value.agg zeroAt.cs.toArray).cells[· % (Value.agg zeroAt.cs.toArray).cells.size]!)) [(0, .agg x.cs.toArray)] = some x.cs.toArray := by kernel_rfl
theorem wpl_sliceAt {ops : Array Oper} {rest : List Oper} {op : Oper} {a : Act} {w : World} {Q : Exit → Act → World → Prop} (hgd : op.guard = none) (x : Operand) (ho : op.op = .buildSlice 26 1 #[(0, x)]) (y : At) (hx : a.eval x = .agg y.cs.toArray) (H : Nat) (hH : w.heap.size = H)
    (h : wpList Try.prog ops Q rest (a.put op.dst (.slice (some ⟨H, 0, none⟩) 1 1)) (w.alloc (.cells y.cs.toArray 37))) : wpList Try.prog ops Q (op :: rest) a w := by
  obtain ⟨i, hi, hz, hs, hb⟩ := info37'
  subst hH
  refine wpList_buildSlice hgd 26 37 1 _ ho y.cs.toArray i _ Try.underlying26 hi hz (by rw [hs]; decide) (by rw [hs]; decide) ?_ h
  rw [hs]
  simp only [List.map_toArray, List.map_cons, List.map_nil, hx]
  exact slice_atom y

/-- The cells of a pattern. -/
def ca (P : List At) : List Value := P.flatMap At.cs
theorem ca_len (P : List At) : (ca P).length = P.length * 34 := by
  induction P with
  | nil => rfl
  | cons x r ih => unfold ca at *; rw [List.flatMap_cons, List.length_append, ih, At.cs_length]; simp [Nat.add_mul]; omega
theorem ca_at (P : List At) : ∀ (i : Nat) (h : i < P.length) (j : Nat) (v : Value), (P[i]'h).cs[j]? = some v → (ca P)[i * 34 + j]? = some v := by
  induction P with
  | nil => intro i h; exact absurd h (Nat.not_lt_zero _)
  | cons x r ih =>
    intro i h j v hv
    have hx := x.cs_length
    unfold ca at *
    rw [List.flatMap_cons]
    cases i with
    | zero =>
      rw [List.getElem_cons_zero] at hv
      have : j < x.cs.length := (List.getElem?_eq_some_iff.1 hv).1
      rw [List.getElem?_append_left (by omega)]
      rw [show 0 * 34 + j = j by omega]; exact hv
    | succ i =>
      rw [List.getElem_cons_succ] at hv
      rw [List.getElem?_append_right (by omega), show (i + 1) * 34 + j - x.cs.length = i * 34 + j by omega]
      exact ih i (by simpa using h) j v hv
/-- A pattern that the call owns, from block base on. -/
def OwA (base : Nat) (P : List At) (v : Value) (W : World) : Prop := W.ownsRow base 37 34 v P.length (ca P)
theorem OwA.nil (W : World) (base : Nat) : OwA base [] (.slice none 0 0) W := World.ownsRow_nil _ _ _ _
theorem OwA.gr {base : Nat} {P : List At} {v : Value} {W W' : World} {l : List Nat} (h : OwA base P v W) (g : Gr l W W') (hl : ∀ x ∈ l, x < base) : OwA base P v W' := by
  refine ⟨h.1, ?_⟩
  rcases h.2 with h2 | ⟨b, cap, cur, hv, hb, hh, h3⟩
  · exact .inl h2
  · refine .inr ⟨b, cap, cur, hv, hb, (g.block b (Array.getElem?_eq_some_iff.1 hh).1 (fun hx => ?_)).trans hh, h3⟩
    have := hl b hx; omega
theorem OwA.call {base : Nat} {P : List At} {v : Value} {W W' : World} (h : OwA base P v W) (g : Below W.heap.size W W') : OwA base P v W' := h.gr (Gr.ofB (l := []) g) (by simp)
theorem OwA.mono {base b : Nat} {P : List At} {v : Value} {W : World} (h : OwA base P v W) (hb : b ≤ base) : OwA b P v W := by
  refine ⟨h.1, ?_⟩
  rcases h.2 with h2 | ⟨g, cap, cur, hv, hg, h3⟩
  · exact .inl h2
  · exact .inr ⟨g, cap, cur, hv, by omega, h3⟩
/-- What an owned pattern is as an argument. -/
theorem OwA.ats {base : Nat} {P : List At} {v : Value} {W : World} (h : OwA base P v W) : ∃ p c, v = .slice p P.length c ∧ P.length ≤ c ∧ c ≤ maxLen ∧ Ats W p P ∧ (∀ b o, p = some ⟨b, o, none⟩ → base ≤ b) := by
  rcases h.2 with ⟨hv, h0⟩ | ⟨g, cap, cur, hv, hg, hh, hn, hm, hs, ht⟩
  · refine ⟨none, 0, by rw [hv, h0], by omega, Nat.zero_le _, fun h => by omega, fun b o e => by cases e⟩
  · refine ⟨some ⟨g, 0, none⟩, cap, hv, hn, hm, fun h0 => ⟨g, 0, rfl, (Array.getElem?_eq_some_iff.1 hh).1, fun i hi j u hu => ?_⟩, fun b o e => by injection e with e; injection e with e1 e2; omega⟩
    have hc := World.ownsRow.cells h (g := g) (by rw [hv]; rfl) (i * 34 + j) u (ca_at P i hi j u hu)
    rw [show (0 + i * 34 + j) = i * 34 + j by omega]
    have : (⟨g, 0, none⟩ : Addr).add (i * 34 + j) = ⟨g, i * 34 + j, none⟩ := by simp [Addr.add]; omega
    rwa [this] at hc
/-- append of one atom that lies in a block of its own. -/
theorem wpl_appendAt (w : World) {ops : Array Oper} {rest : List Oper} {o : Oper} {a : Act} {Q : Exit → Act → World → Prop} (hg : o.guard = none) (s x : Operand)
    (ho : o.op = .call { callee := .builtin .append, args := #[s, x], argTypes := #[26, 26] }) (base : Nat) (P : List At) (v : Value) (hs : a.eval s = v) (h : OwA base P v w) (hbase : base ≤ w.heap.size) (y : At) (B : Nat)
    (hx : a.eval x = .slice (some ⟨B, 0, none⟩) 1 1) (hB : w.heap[B]? = some (.cells y.cs.toArray 37 (0, 0))) (hlen : P.length ≤ 1000)
    (hK : ∀ v' w', OwA base (P ++ [y]) v' w' → w.grownBy w' v.ownBlock → wpList Try.prog ops Q rest (a.put o.dst v') w') : wpList Try.prog ops Q (o :: rest) a w := by
  obtain ⟨i, hi, hz0, hz1, hz2⟩ := info37'
  refine wpList_append_lies w hg s x 26 ho base 37 i _ 34 48 Try.underlying26 hi hz0 hz1 hz2 (by rfl) (by omega) v P.length (ca P) hs h ⟨B, 0, none⟩ 1 1 y.cs hx (by rw [At.cs_length]) ?_ (fun u hu => ?_) (by omega) (by unfold maxLen; omega) (by omega) hbase _ rfl ?_
  · have := World.news_of_block hB
    simpa using this
  · unfold At.cs setC at hu
    rcases List.mem_append.1 hu with hu | hu
    · obtain ⟨i, _, rfl⟩ := List.mem_map.1 hu; rfl
    · simp at hu; rcases hu with rfl | rfl <;> rfl
  · intro g cap w' h2 h3 h4 h5
    refine hK _ w' ?_ h3
    unfold OwA; rw [List.length_append, show ca (P ++ [y]) = ca P ++ y.cs from by unfold ca; rw [List.flatMap_append]; simp]; exact h2
end Go.Proofs.Ytdnofpllmhnacaa
