/- Items and lists of items: how they lie in memory, and how an argument reads as one. -/
import Derived.Test.YtphkpokoeaagfaaGreatDoorLeaf
import Derived.Deep.Slices
import Derived.Deep.Strs
import Derived.Deep.AppendLies
namespace Go.Proofs.YtphkpokoeaagfaaGreatDoor
set_option maxRecDepth 100000
open Go.ChangeShapes Go.WideShapes Go.ChangeAt Go.RowKit
open Go.ChangeMaps (open_string shut_string)
set_option linter.unusedVariables false

/-- An item. -/
structure It where
  k : Int
  t : ByteArray
  id : Int
theorem It.ext' {x y : It} (h1 : x.k = y.k) (h2 : x.t = y.t) (h3 : x.id = y.id) : x = y := by cases x; cases y; simp_all
def It.v (x : It) : Value := .agg #[.int .i64 x.k, .string x.t, .int .i64 x.id]
/-- What every item of an argument has. -/
structure It.ok (x : It) : Prop where
  k : (Lit.int .i64 x.k).wf = true
  t : x.t.size ≤ 140737488355328
  id : (Lit.int .i64 x.id).wf = true
def Oks (l : List It) : Prop := ∀ i (h : i < l.length), (l[i]'h).ok

theorem add_block (a : Addr) (n : Nat) : (a.add n).block = a.block := by unfold Addr.add; split <;> rfl
theorem add_next (a : Addr) (n m : Nat) (hm : 0 < m) : (⟨(a.add n).block, (a.add n).off + m, none⟩ : Addr) = a.add (n + m) := by
  unfold Addr.add
  by_cases h : n = 0
  · rw [if_pos h, if_neg (by omega), h]; simp
  · rw [if_neg h, if_neg (by omega)]; simp; omega
theorem BelowOn {w a b : World} (h : Below w.heap.size w a) (k : Below a.heap.size a b) : Below w.heap.size w b := h.trans (k.mono h.size)
theorem blw {w a : World} (h : Below w.heap.size w a) (o : Obj) : Below w.heap.size w (a.alloc o) := h.alloc h.size o

/-- The cells of a slice of items; of a slice without elements nothing is said. -/
def Its (W : World) (p : Option Addr) (l : List It) : Prop :=
  0 < l.length → ∃ a, p = some a ∧ a.block < W.heap.size ∧ ∀ i (h : i < l.length), W.cell? (a.add (i * 3)) = some (.int .i64 (l[i]'h).k) ∧ W.cell? (a.add (i * 3 + 1)) = some (.string (l[i]'h).t) ∧ W.cell? (a.add (i * 3 + 2)) = some (.int .i64 (l[i]'h).id)
theorem Its.call {W w1 : World} {p : Option Addr} {l : List It} (h : Its W p l) (hb : Below W.heap.size W w1) : Its w1 p l := fun h0 => by
  obtain ⟨a, hp, hlt, hc⟩ := h h0
  refine ⟨a, hp, Nat.lt_of_lt_of_le hlt hb.size, fun i hi => ?_⟩
  obtain ⟨c0, c1, c2⟩ := hc i hi
  exact ⟨by rw [hb.cell (p := a.add (i * 3)) (by rw [add_block]; exact hlt)]; exact c0, by rw [hb.cell (p := a.add (i * 3 + 1)) (by rw [add_block]; exact hlt)]; exact c1, by rw [hb.cell (p := a.add (i * 3 + 2)) (by rw [add_block]; exact hlt)]; exact c2⟩
theorem Its.nil (W : World) (p : Option Addr) : Its W p [] := fun h => by cases h
/-- The three cells of an element, as a load spells them. -/
theorem Its.row {W : World} {p : Option Addr} {l : List It} (h : Its W p l) (i : Nat) (hi : i < l.length) : ∃ a, p = some a ∧ a.block < W.heap.size ∧
    W.cell? (a.add (i * 3)) = some (.int .i64 (l[i]'hi).k) ∧ W.cell? ⟨(a.add (i * 3)).block, (a.add (i * 3)).off + 1, none⟩ = some (.string (l[i]'hi).t) ∧ W.cell? ⟨(a.add (i * 3)).block, (a.add (i * 3)).off + 2, none⟩ = some (.int .i64 (l[i]'hi).id) := by
  obtain ⟨a, hp, hlt, hc⟩ := h (by omega)
  obtain ⟨c0, c1, c2⟩ := hc i hi
  exact ⟨a, hp, hlt, c0, by rw [add_next _ _ _ (by omega)]; exact c1, by rw [add_next _ _ _ (by omega)]; exact c2⟩

/-- A list of items as memory holds it. -/
def icells (l : List It) : List Value := l.flatMap fun x => [.int .i64 x.k, .string x.t, .int .i64 x.id]
theorem icells_snoc (l : List It) (x : It) : icells (l ++ [x]) = icells l ++ [.int .i64 x.k, .string x.t, .int .i64 x.id] := by unfold icells; rw [List.flatMap_append]; rfl
theorem icells_append (l m : List It) : icells (l ++ m) = icells l ++ icells m := by unfold icells; rw [List.flatMap_append]
theorem icells_length (l : List It) : (icells l).length = l.length * 3 := by
  induction l with
  | nil => rfl
  | cons x t ih => show ([_, _, _] ++ icells t).length = _; rw [List.length_append, ih]; simp; omega
theorem icells_at (l : List It) : ∀ i (h : i < l.length), (icells l)[i * 3]? = some (.int .i64 (l[i]'h).k) ∧ (icells l)[i * 3 + 1]? = some (.string (l[i]'h).t) ∧ (icells l)[i * 3 + 2]? = some (.int .i64 (l[i]'h).id) := by
  induction l with
  | nil => intro i h; cases h
  | cons x t ih =>
    intro i h
    have e : icells (x :: t) = .int .i64 x.k :: .string x.t :: .int .i64 x.id :: icells t := rfl
    rw [e]
    cases i with
    | zero => exact ⟨rfl, rfl, rfl⟩
    | succ j =>
      have := ih j (by simp at h; omega)
      rw [show (j + 1) * 3 = j * 3 + 1 + 1 + 1 from by omega]
      exact this
theorem icells_one (l : List It) : ∀ u ∈ icells l, u.oneCell' = true := by
  intro u hu
  unfold icells at hu
  rw [List.mem_flatMap] at hu
  obtain ⟨x, _, hx⟩ := hu
  simp at hx
  rcases hx with rfl | rfl | rfl <;> rfl
theorem ownsRow_below {w w' : World} {base : Nat} {e : TypeId} {size : Nat} {v : Value} {n : Nat} {xs : List Value} (h : w.ownsRow base e size v n xs) (hb : Below w.heap.size w w') : w'.ownsRow base e size v n xs := by
  obtain ⟨h1, h2⟩ := h
  refine ⟨h1, ?_⟩
  rcases h2 with h2 | ⟨g, cap, cur, hv, hg, hh, r⟩
  · exact .inl h2
  · refine .inr ⟨g, cap, cur, hv, hg, ?_, r⟩
    have hlt : g < w.heap.size := by
      rcases Nat.lt_or_ge g w.heap.size with hlt | hge
      · exact hlt
      · rw [Array.getElem?_eq_none hge] at hh; cases hh
    rw [hb.block g hlt]; exact hh
theorem ownsRow_base {w : World} {base base' : Nat} {e : TypeId} {size : Nat} {v : Value} {n : Nat} {xs : List Value} (h : w.ownsRow base e size v n xs) (hb : base' ≤ base) : w.ownsRow base' e size v n xs := by
  obtain ⟨h1, h2⟩ := h
  refine ⟨h1, ?_⟩
  rcases h2 with h2 | ⟨g, cap, cur, hv, hg, r⟩
  · exact .inl h2
  · exact .inr ⟨g, cap, cur, hv, Nat.le_trans hb hg, r⟩
/-- A slice of items that the call has made itself. -/
def OwnIts (base : Nat) (L : List It) (v : Value) (wr : World) : Prop := wr.ownsRow base 62 3 v L.length (icells L)
theorem OwnIts.call {base : Nat} {L : List It} {v : Value} {wr w1 : World} (h : OwnIts base L v wr) (hb : Below wr.heap.size wr w1) : OwnIts base L v w1 := ownsRow_below h hb
theorem OwnIts.form {base : Nat} {L : List It} {v : Value} {wr : World} (h : OwnIts base L v wr) : ∃ p cap, v = .slice p L.length cap ∧ L.length ≤ cap ∧ cap ≤ maxLen ∧ Its wr p L := by
  rcases h.2 with ⟨hv, h0⟩ | ⟨g, cap, cur, hv, hg, hh, hn, hm, hs, ht⟩
  · have : L = [] := List.length_eq_zero_iff.1 h0
    subst this
    exact ⟨none, 0, hv, Nat.le_refl _, Nat.zero_le _, Its.nil _ _⟩
  · refine ⟨some ⟨g, 0, none⟩, cap, hv, hn, hm, fun _ => ⟨_, rfl, ?_, fun i hi => ?_⟩⟩
    · rcases Nat.lt_or_ge g wr.heap.size with hlt | hge
      · exact hlt
      · rw [Array.getElem?_eq_none hge] at hh; cases hh
    · have hc := h.cells (g := g) (by rw [hv]; rfl)
      obtain ⟨c0, c1, c2⟩ := icells_at L i hi
      exact ⟨hc _ _ c0, hc _ _ c1, hc _ _ c2⟩
theorem info26 : (Tryz.prog.info? 62).map (fun i => (i.zero, i.size, i.bytes)) = some (some (.agg #[.int .i64 0, .string .empty, .int .i64 0]), 3, 32) := by kernel_rfl

/-! ### arguments -/
theorem und26 : ∃ f0 f1 f2 : Field, Tryz.prog.underlying 62 = some (.struct #[f0, f1, f2]) ∧ f0.type = 3 ∧ f1.type = 9 ∧ f2.type = 3 ∧ f0.offset = 0 ∧ f1.offset = 1 ∧ f2.offset = 2 := ⟨_, _, _, Tryz.underlying62, rfl, rfl, rfl, rfl, rfl, rfl⟩
theorem cells26 : Tryz.prog.cellsOf 62 = 3 := by kernel_rfl
theorem cells3 : Tryz.prog.cellsOf 3 = 1 := by kernel_rfl
theorem cells9 : Tryz.prog.cellsOf 9 = 1 := by kernel_rfl
section
variable {H : Type} {enc : TypeId × Value → H} {W : World} {base : Nat} {sp : Nat → Bool} {held : Bool}
theorem read_item {fuel : Nat} {cs : List Value} {x : DataW H × List MemPlace} (h : DataW.trod enc Tryz.prog W base sp held fuel 62 cs = some x) :
    ∃ y : It, (Lit.int .i64 y.k).wf = true ∧ (Lit.int .i64 y.id).wf = true ∧ cs = [.int .i64 y.k, .string y.t, .int .i64 y.id] ∧ x.1 = .agg [.lit (.int .i64 y.k), .lit (.string y.t.data.toList), .lit (.int .i64 y.id)] := by
  obtain ⟨f0, f1, f2, hu, t0, t1, t2, o0, o1, o2⟩ := und26
  obtain ⟨xs, n, _, hx, hl, hxl, hf⟩ := DataW.trod_struct hu h
  rw [cells26] at hl
  match xs, hxl, cs, hl with
  | [y0, y1, y2], _, [v0, v1, v2], _ =>
    have g0 := hf 0 f0 rfl
    have g1 := hf 1 f1 rfl
    have g2 := hf 2 f2 rfl
    rw [t0, o0, cells3] at g0
    rw [t1, o1, cells9] at g1
    rw [t2, o2, cells3] at g2
    simp at g0 g1 g2
    obtain ⟨a, e0, d0, w0⟩ := DataW.trod_int Tryz.underlying3 g0
    obtain ⟨s, e1, d1, w1⟩ := DataW.trod_string Tryz.underlying9 g1
    obtain ⟨b, e2, d2, w2⟩ := DataW.trod_int Tryz.underlying3 g2
    simp only [List.cons.injEq, and_true] at e0 e1 e2
    exact ⟨⟨a, s, b⟩, w0, w2, by rw [e0, e1, e2], by rw [hx, d0, d1, d2]; rfl⟩
/-- A text is no longer than what the call's form reaches. -/
theorem text_le {d : DataW H} {y : It} (hd : d = .agg [.lit (.int .i64 y.k), .lit (.string y.t.data.toList), .lit (.int .i64 y.id)]) (hz : ∀ n ∈ DataW.weights Tryz.prog 62 d, n ≤ reachBytes) : y.t.size ≤ 140737488355328 := by
  obtain ⟨f0, f1, f2, hu, t0, t1, t2, o0, o1, o2⟩ := und26
  have := hz y.t.data.toList.length (by
    rw [hd, DataW.weights, hu]
    simp [DataW.weightsEach, DataW.weights])
  have e : y.t.data.toList.length = y.t.size := by simp
  rw [e] at this
  unfold reachBytes at this
  omega
theorem weights_all {e : TypeId} {l : List (DataW H)} {d : DataW H} (hd : d ∈ l) {n : Nat} (hn : n ∈ DataW.weights Tryz.prog e d) : n ∈ DataW.weightsAll Tryz.prog e l := by
  induction l with
  | nil => cases hd
  | cons x t ih =>
    rw [DataW.weightsAll]
    rcases List.mem_cons.1 hd with rfl | h
    · exact List.mem_append_left _ hn
    · exact List.mem_append_right _ (ih h)
theorem opened_item {v : Value} {d : DataW H} {p : List MemPlace} (hv : Value.okWide Tryz.prog W .any base 62 v) (h : DataW.Trod enc Tryz.prog W base sp held 62 v d p) (hz : ∀ n ∈ DataW.weights Tryz.prog 62 d, n ≤ reachBytes) : ∃ y : It, y.ok ∧ v = y.v := by
  obtain ⟨fuel, hf⟩ := h
  obtain ⟨y, hk, hi, hc, hd⟩ := read_item hf
  refine ⟨y, ⟨hk, text_le hd hz, hi⟩, ?_⟩
  obtain ⟨cs, rfl, _, _⟩ := hv
  have hc' : cs.toList = [Value.int IntKind.i64 y.k, Value.string y.t, Value.int IntKind.i64 y.id] := by simpa [Value.cells] using hc
  unfold It.v
  congr 1
  apply Array.ext'
  simpa using hc'
theorem opened {v : Value} {d : DataW H} {p : List MemPlace} (hv : Value.okWide Tryz.prog W .any base 24 v) (h : DataW.Trod enc Tryz.prog W base (fun _ => true) held 24 v d p) (hz : ∀ n ∈ DataW.weights Tryz.prog 24 d, n ≤ reachBytes) :
    ∃ (p : Option Addr) (cap : Nat) (l : List It), v = .slice p l.length cap ∧ l.length ≤ cap ∧ cap ≤ maxLen ∧ Its W p l ∧ Oks l := by
  obtain ⟨a0, len, cap, rfl⟩ := okWide_slice Tryz.underlying24 hv
  obtain ⟨fuel, hf⟩ := h
  rcases Go.Deep.open_slice Tryz.underlying24 hf with ⟨hcs, _⟩ | ⟨a, len', cap', m, n, D, Pl, hcs, _, hl, hm, hmm, hd, hx⟩
  · simp [Value.cells] at hcs
    obtain ⟨rfl, rfl, rfl⟩ := hcs
    exact ⟨none, 0, [], rfl, Nat.le_refl _, Nat.zero_le _, Its.nil _ _, fun i hi => by cases hi⟩
  · simp [Value.cells] at hcs
    obtain ⟨rfl, rfl, rfl⟩ := hcs
    have hlm : len ≤ m := by rw [hmm]; simp; exact hl
    have hd' : d = .slice ((List.range len).map D) ((List.range (m - len)).map fun j => D (len + j)) := by simpa using congrArg Prod.fst hd
    have each : ∀ i, ∃ y : It, i < len → y.ok ∧ W.cell? (a.add (i * 3)) = some (.int .i64 y.k) ∧ W.cell? (a.add (i * 3 + 1)) = some (.string y.t) ∧ W.cell? (a.add (i * 3 + 2)) = some (.int .i64 y.id) := fun i => by
      by_cases hi : i < len
      · obtain ⟨cs', h1, h2⟩ := hx i (by omega)
        obtain ⟨y, hk, hid, rfl, hdi⟩ := read_item h2
        have hz' : ∀ n ∈ DataW.weights Tryz.prog 62 (D i), n ≤ reachBytes := fun n hn => hz n (by
          rw [hd', DataW.weights, Tryz.underlying24]
          exact List.mem_cons_of_mem _ (List.mem_append_left _ (weights_all (List.mem_map.2 ⟨i, by simpa using hi, rfl⟩) hn)))
        rw [cells26] at h1
        obtain ⟨_, _, hcell⟩ := World.cells?_some h1
        have e0 := hcell 0 (by omega)
        have e1 := hcell 1 (by omega)
        have e2 := hcell 2 (by omega)
        rw [Go.Deep.add_add] at e0 e1 e2
        exact ⟨y, fun _ => ⟨⟨hk, text_le hdi hz', hid⟩, by simpa using e0, by simpa using e1, by simpa using e2⟩⟩
      · exact ⟨⟨0, .empty, 0⟩, fun h => absurd h hi⟩
    obtain ⟨f, hf⟩ := Classical.axiomOfChoice each
    refine ⟨some a, cap, (List.range len).map f, by simp, by simpa using hl, hm, fun h0 => ⟨a, rfl, ?_, fun i hi => ?_⟩, fun i hi => ?_⟩
    · have := World.block_lt_of_cell? W _ (hf 0 (by simpa using h0)).2.1
      simpa [add_block] using this
    · have hi' : i < len := by simpa using hi
      simpa using (hf i hi').2
    · have hi' : i < len := by simpa using hi
      simpa using (hf i hi').1
end
end Go.Proofs.YtphkpokoeaagfaaGreatDoor
