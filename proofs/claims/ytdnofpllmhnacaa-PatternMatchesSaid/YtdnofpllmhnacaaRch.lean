/- Reach: which positions of a pattern are reached; skip, read, whole. -/
import Derived.Test.YtdnofpllmhnacaaBas
import Derived.Lib.Builder
import Derived.Deep.WholeRow
import Derived.Deep.Cut
namespace Go.Proofs.Ytdnofpllmhnacaa
open Go.ChangeShapes Go.WideShapes Go.ChangeAt Go.RowKit Go.Sort
set_option linter.unusedVariables false
set_option linter.unusedSimpArgs false
set_option maxRecDepth 100000

theorem setCell_heap (w : World) (g i : Nat) (cur : Array Value) (e : TypeId) (v : Value) (h : w.heap[g]? = some (.cells cur e (0, 0))) : (w.setCell ⟨g, i, none⟩ v).heap[g]? = some (.cells (cur.setIfInBounds i v) e (0, 0)) := by
  simp [World.setCell, Array.getElem?_modify, h]
instance : Inhabited At := ⟨⟨fun _ => false, 0, false⟩⟩
/-- The cells of a slice of atoms; of an empty slice nothing is said. -/
def Ats (W : World) (p : Option Addr) (P : List At) : Prop := 0 < P.length → ∃ b o, p = some ⟨b, o, none⟩ ∧ b < W.heap.size ∧ ∀ i (h : i < P.length), W.rangeAt b (o + i * 34) (P[i]'h).cs
theorem rangeAt_below {W W' : World} {b o : Nat} {cs : List Value} (h : W.rangeAt b o cs) (hb : W'.heap[b]? = W.heap[b]?) : W'.rangeAt b o cs := fun j v hv => by
  rw [World.cell?_of_block (w := W) (w' := W') (a := ⟨b, o + j, none⟩) hb]; exact h j v hv
theorem Ats.keep {W W' : World} {p : Option Addr} {P : List At} (h : Ats W p P) (hs : W.heap.size ≤ W'.heap.size) (hb : ∀ b o, p = some ⟨b, o, none⟩ → b < W.heap.size → W'.heap[b]? = W.heap[b]?) : Ats W' p P := fun h0 => by
  obtain ⟨b, o, hp, hlt, hc⟩ := h h0
  exact ⟨b, o, hp, Nat.lt_of_lt_of_le hlt hs, fun i hi => rangeAt_below (hc i hi) (hb b o hp hlt)⟩
theorem Ats.call {W W' : World} {p : Option Addr} {P : List At} (h : Ats W p P) (hb : Below W.heap.size W W') : Ats W' p P := h.keep hb.size fun b o _ hlt => hb.block b hlt

/-- A reach in the variable R, its ends in the block g. -/
structure MS (R g : Nat) (p : Option Addr) (c : Nat) (P : List At) (E : List Bool) (W : World) : Prop where
  var : W.heap[R]? = some (.cells #[.slice p P.length c, .slice (some ⟨g, 0, none⟩) (P.length + 1) (P.length + 1)] 65 (0, 0))
  row : W.heap[g]? = some (.cells (E.map Value.bool).toArray 4 (0, 0))
  len : E.length = P.length + 1
  ats : Ats W p P
  ne : R ≠ g
  ap : 0 < P.length → ∀ b o, p = some ⟨b, o, none⟩ → b ≠ g
  le : P.length ≤ c
  cm : c ≤ maxLen
section
variable {R g : Nat} {p : Option Addr} {c : Nat} {P : List At} {E : List Bool} {W : World}
theorem MS.ltR (h : MS R g p c P E W) : R < W.heap.size := (Array.getElem?_eq_some_iff.1 h.var).1
theorem MS.ltg (h : MS R g p c P E W) : g < W.heap.size := (Array.getElem?_eq_some_iff.1 h.row).1
theorem MS.call {W' : World} (h : MS R g p c P E W) (hb : Below W.heap.size W W') : MS R g p c P E W' :=
  ⟨(hb.block R h.ltR).trans h.var, (hb.block g h.ltg).trans h.row, h.len, h.ats.call hb, h.ne, h.ap, h.le, h.cm⟩
theorem MS.alloc (h : MS R g p c P E W) (o : Obj) : MS R g p c P E (W.alloc o) := h.call (blw (Below.refl _ _) o)
theorem MS.v0 (h : MS R g p c P E W) : W.cell? ⟨R, 0, none⟩ = some (.slice p P.length c) := by rw [cell_of_row _ _ _ _ _ _ h.var]; rfl
theorem MS.v1 (h : MS R g p c P E W) : W.cell? ⟨R, 1, none⟩ = some (.slice (some ⟨g, 0, none⟩) (P.length + 1) (P.length + 1)) := by rw [cell_of_row _ _ _ _ _ _ h.var]; rfl
theorem MS.e (h : MS R g p c P E W) (i : Nat) (hi : i < E.length) : W.cell? ⟨g, i, none⟩ = some (.bool (E[i]'hi)) := by
  rw [cell_of_row _ _ _ _ _ _ h.row]; simp [hi]
theorem MS.fr (h : MS R g p c P E W) (i : Nat) : W.frozen? ⟨g, i, none⟩ = false := Lib.frozen_of_heap h.row i
theorem MS.set (h : MS R g p c P E W) (i : Nat) (b : Bool) : MS R g p c P (E.set i b) (W.setCell ⟨g, i, none⟩ (.bool b)) := by
  have hk : ∀ k, k ≠ g → (W.setCell ⟨g, i, none⟩ (.bool b)).heap[k]? = W.heap[k]? := fun k hk => Below.heap_setCell W ⟨g, i, none⟩ _ k hk
  refine ⟨(hk R h.ne).trans h.var, ?_, by rw [List.length_set]; exact h.len, fun h0 => ?_, h.ne, h.ap, h.le, h.cm⟩
  · have := setCell_heap W g i _ 4 (.bool b) h.row
    rw [this]
    congr 2
    apply Array.ext'
    simp [List.map_set]
  · obtain ⟨b', o, hp, hlt, hc⟩ := h.ats h0
    exact ⟨b', o, hp, by simp; exact hlt, fun j hj => rangeAt_below (hc j hj) (hk b' (h.ap h0 b' o hp))⟩
end

/-- The ends after k steps of skip. -/
def skE (P : List At) (E : List Bool) : Nat → List Bool
  | 0 => E
  | k + 1 => if (skE P E k)[k]! && decide (P[k]!.mn ≤ 0) then (skE P E k).set (k + 1) true else skE P E k
theorem skE_len (P : List At) (E : List Bool) (k : Nat) : (skE P E k).length = E.length := by
  induction k with
  | zero => rfl
  | succ j ih => unfold skE; split <;> simp [ih]
theorem skE_yes {P : List At} {E : List Bool} {k : Nat} (h : ((skE P E k)[k]! && decide (P[k]!.mn ≤ 0)) = true) : skE P E (k + 1) = (skE P E k).set (k + 1) true := by rw [skE, if_pos h]
theorem skE_no {P : List At} {E : List Bool} {k : Nat} (h : ((skE P E k)[k]! && decide (P[k]!.mn ≤ 0)) = false) : skE P E (k + 1) = skE P E k := by rw [skE, if_neg (by rw [h]; decide)]
def anyE (E : List Bool) (k : Nat) : Bool := (E.take (k + 1)).any id
theorem any_set (E : List Bool) (k : Nat) (b : Bool) (h : k + 1 < E.length) : anyE (E.set (k + 1) b) (k + 1) = (anyE E k || b) := by
  unfold anyE
  rw [List.take_succ_eq_append_getElem (by simpa using h), List.any_append, List.take_set_of_le (by omega)]
  simp
theorem any_next (E : List Bool) (k : Nat) (h : k + 1 < E.length) : anyE E (k + 1) = (anyE E k || E[k + 1]) := by
  unfold anyE
  rw [List.take_succ_eq_append_getElem h, List.any_append]; simp
theorem setCells_new (w : World) (z cs : List Value) (t : TypeId) (hl : z.length = cs.length) (hi : (Try.prog.info? t).map (·.size) = some cs.length) (h1 : cs.toArray.all (·.oneCell') = true) :
    (w.alloc (.cells z.toArray t)).setCells w.heap.size 0 cs = w.alloc (.cells cs.toArray t) := by
  have ht : (w.alloc (.cells z.toArray t)).there w.heap.size 0 cs.toArray.size := fun j hj => by
    have hh := heap_alloc_new w (.cells z.toArray t)
    refine ⟨?_, Lib.frozen_of_heap hh _⟩
    rw [cell_of_row _ _ _ _ _ _ hh]
    simp at hj ⊢; omega
  have e1 := run_storeVar_mid (P := Try.prog) (w.alloc (.cells z.toArray t)) w.heap.size 0 t cs.toArray ht (by simpa using hi) h1
  have e2 := run_storeVar_new (P := Try.prog) w t z.toArray cs.toArray (by simpa using hi) (by simpa using hl) h1
  rw [e1] at e2
  exact (Result.ok.inj e2).2
theorem at_one (x : At) : x.cs.toArray.all (·.oneCell') = true := all_oneCell_toArray fun v hv => by
  unfold At.cs setC at hv
  rcases List.mem_append.1 hv with hv | hv
  · obtain ⟨i, _, rfl⟩ := List.mem_map.1 hv; rfl
  · simp at hv; rcases hv with rfl | rfl <;> rfl
/-- An atom into the variable that was laid last. -/
theorem wpl_storeAt {ops : Array Oper} {rest : List Oper} {op : Oper} {a : Act} {w : World} {Q : Exit → Act → World → Prop} (hgd : op.guard = none) (x y : Operand) (ho : op.op = .store 37 x y) (w0 : World) (z : List Value)
    (hw : w = w0.alloc (.cells z.toArray 37)) (hz : z.length = 34) (hx : a.eval x = .pointer (some ⟨w0.heap.size, 0, none⟩)) (v : At) (hy : a.eval y = .agg v.cs.toArray)
    (h : wpList Try.prog ops Q rest (a.put op.dst undef) (w0.alloc (.cells v.cs.toArray 37))) : wpList Try.prog ops Q (op :: rest) a w := by
  subst hw
  have hh := heap_alloc_new w0 (.cells z.toArray 37)
  refine wpList_store_mid hgd 37 x y ho w0.heap.size 0 v.cs.toArray hx hy (fun j hj => ?_) (by simpa [At.cs_length] using size37) (at_one v) ?_
  · refine ⟨?_, Lib.frozen_of_heap hh _⟩
    rw [cell_of_row _ _ _ _ _ _ hh]
    simp [At.cs_length] at hj
    simp; omega
  · rw [show v.cs.toArray.toList = v.cs by simp, setCells_new w0 z v.cs 37 (by rw [hz, At.cs_length]) (by rw [At.cs_length]; exact size37) (at_one v)]
    exact h
theorem grow_alloc {w wr : World} {row : Option Nat} (h : w.grownBy wr row) (o : Obj) : w.grownBy (wr.alloc o) row :=
  ⟨h.os, h.tape, h.output, by have := h.size; simp; omega, fun i hi hne => (Lib.alloc_old wr o i (Nat.lt_of_lt_of_le hi h.size)).trans (h.block i hi hne)⟩
theorem grow_set {w wr : World} {g : Nat} (h : w.grownBy wr (some g)) (i : Nat) (v : Value) : w.grownBy (wr.setCell ⟨g, i, none⟩ v) (some g) :=
  ⟨h.os, h.tape, h.output, by have := h.size; simp; omega, fun j hj hne => (Below.heap_setCell wr ⟨g, i, none⟩ v j (fun e => hne (by rw [e]))).trans (h.block j hj hne)⟩
def zAt : At := ⟨fun _ => false, 0, false⟩

set_option maxHeartbeats 3200000 in
theorem skip_any (R g : Nat) (p : Option Addr) (c : Nat) (P : List At) (E : List Bool) (w : World) (h : MS R g p c P E w) (hn : P.length ≤ 4000000000) :
    Calls Try.prog 56 #[.pointer (some ⟨R, 0, none⟩)] w fun e w' => e = .returned (.bool (anyE (skE P E P.length) P.length)) ∧ w.grownBy w' (some g) ∧ MS R g p c P (skE P E P.length) w' := by
  have hcm := h.cm; have hcl := h.le
  unfold maxLen at hcm
  have v0 := h.v0; have v1 := h.v1
  have hE0 : 0 < E.length := by rw [h.len]; omega
  have e0 := h.e 0 hE0
  have hst : Hid (E[0] = anyE E 0) := Lib.hid (by
    unfold anyE
    rw [List.take_succ_eq_append_getElem hE0]; simp)
  go_enter Try.func56, Try.ntmps56
  go_wp2_with fail
  go_loopw [3, 17] (fun v i wr => ∃ k : Nat, k ≤ P.length ∧ i = .int .i64 k ∧ v = .bool (anyE (skE P E k) k) ∧ w.grownBy wr (some g) ∧ MS R g p c P (skE P E k) wr) (fun _ i _ => P.length - (intOf i).toNat)
  case atStart => exact ⟨0, Nat.zero_le _, rfl, by rw [hst.out]; rfl, World.grownBy.refl _ _, h⟩
  case round =>
    obtain ⟨k, hk, rfl, rfl, hg, hM⟩ := hrel
    by_cases hlt : k < P.length
    · obtain ⟨b, o, rfl, hb, hrow⟩ := hM.ats (by omega)
      have hx := hrow k hlt
      have hyes := @skE_yes P E k
      have hno := @skE_no P E k
      have hl1 : k < (skE P E k).length := by rw [hM.len]; omega
      have hl2 : k + 1 < (skE P E k).length := by rw [hM.len]; omega
      rw [getElem!_pos P k hlt, getElem!_pos (skE P E k) k hl1] at hyes hno
      generalize P[k] = x at *
      generalize skE P E k = F at *
      have hM2 := hM.alloc (.cells x.cs.toArray 37)
      have f1 := hM2.e k hl1
      have f2 := hM2.e (k + 1) hl2
      have fr := hM2.fr (k + 1)
      have m0 := hM2.v0; have m1 := hM2.v1
      have ha2 := any_set F k true hl2
      have ha1 := any_next F k hl2
      have f3 := (hM2.set (k + 1) true).e (k + 1) (by simpa using hl2)
      have m3 := (hM2.set (k + 1) true).v1
      rw [List.getElem_set_self] at f3
      generalize F[k] = e at *
      generalize F[k + 1] = e' at *
      have hin : (Try.prog.info? 37).map (·.size) = some x.cs.length := by rw [At.cs_length]; exact size37
      obtain ⟨d, hu, hd⟩ := und37
      have hr2 := range_new wr x.cs 37
      have y0 := rangeMin hr2
      have g2 := grow_alloc hg (.cells x.cs.toArray 37)
      generalize anyE F k = an at *
      cases e
      · have HN := Lib.hid (hno rfl)
        have HA := Lib.hid ha1
        clear hyes hno hrow f3 m3 fr ha1 ha2 hr2
        cases an
        · go_upto_region 5 with (first | (refine wpList_load_mid (by rfl) 37 _ (by rfl) b (o + k * 34) (by rfl) x.cs d hx hu hd hin ?_) | (refine wpl_storeAt (by rfl) _ _ (by rfl) wr _ (by rfl) (by rfl) (by rfl) x (by rfl) ?_))
          go_wp2_with fail
          go_roundw
          case rel => exact ⟨k + 1, hlt, by go_num, by rw [HN.out, HA.out]; first | rfl | simp, g2, by rw [HN.out]; exact hM2⟩
          case measure => simp [intOf]; omega
        · go_upto_region 5 with (first | (refine wpList_load_mid (by rfl) 37 _ (by rfl) b (o + k * 34) (by rfl) x.cs d hx hu hd hin ?_) | (refine wpl_storeAt (by rfl) _ _ (by rfl) wr _ (by rfl) (by rfl) (by rfl) x (by rfl) ?_))
          go_wp2_with fail
          go_roundw
          case rel => exact ⟨k + 1, hlt, by go_num, by rw [HN.out, HA.out]; first | rfl | simp, g2, by rw [HN.out]; exact hM2⟩
          case measure => simp [intOf]; omega
      · by_cases hm0 : x.mn ≤ 0
        · have HN := Lib.hid (hyes (by rw [decide_eq_true hm0]; rfl))
          have HA := Lib.hid ha2
          have q0 : decide (x.mn ≤ 0) = true := decide_eq_true hm0
          clear hyes hno hrow ha1 ha2 hr2 hm0
          cases an
          · go_upto_region 5 with (first | (refine wpList_load_mid (by rfl) 37 _ (by rfl) b (o + k * 34) (by rfl) x.cs d hx hu hd hin ?_) | (refine wpl_storeAt (by rfl) _ _ (by rfl) wr _ (by rfl) (by rfl) (by rfl) x (by rfl) ?_))
            go_wp2_with fail
            go_roundw
            case rel => exact ⟨k + 1, hlt, by go_num, by rw [HN.out, HA.out]; first | rfl | simp, grow_set g2 (k + 1) (.bool true), by rw [HN.out]; exact hM2.set (k + 1) true⟩
            case measure => simp [intOf]; omega
          · go_upto_region 5 with (first | (refine wpList_load_mid (by rfl) 37 _ (by rfl) b (o + k * 34) (by rfl) x.cs d hx hu hd hin ?_) | (refine wpl_storeAt (by rfl) _ _ (by rfl) wr _ (by rfl) (by rfl) (by rfl) x (by rfl) ?_))
            go_wp2_with fail
            go_roundw
            case rel => exact ⟨k + 1, hlt, by go_num, by rw [HN.out, HA.out]; first | rfl | simp, grow_set g2 (k + 1) (.bool true), by rw [HN.out]; exact hM2.set (k + 1) true⟩
            case measure => simp [intOf]; omega
        · have HN := Lib.hid (hno (by rw [decide_eq_false hm0]; rfl))
          have HA := Lib.hid ha1
          have q0 : decide (x.mn ≤ 0) = false := decide_eq_false hm0
          clear hyes hno hrow f3 m3 fr ha1 ha2 hr2 hm0
          cases an
          · go_upto_region 5 with (first | (refine wpList_load_mid (by rfl) 37 _ (by rfl) b (o + k * 34) (by rfl) x.cs d hx hu hd hin ?_) | (refine wpl_storeAt (by rfl) _ _ (by rfl) wr _ (by rfl) (by rfl) (by rfl) x (by rfl) ?_))
            go_wp2_with fail
            go_roundw
            case rel => exact ⟨k + 1, hlt, by go_num, by rw [HN.out, HA.out]; first | rfl | simp, g2, by rw [HN.out]; exact hM2⟩
            case measure => simp [intOf]; omega
          · go_upto_region 5 with (first | (refine wpList_load_mid (by rfl) 37 _ (by rfl) b (o + k * 34) (by rfl) x.cs d hx hu hd hin ?_) | (refine wpl_storeAt (by rfl) _ _ (by rfl) wr _ (by rfl) (by rfl) (by rfl) x (by rfl) ?_))
            go_wp2_with fail
            go_roundw
            case rel => exact ⟨k + 1, hlt, by go_num, by rw [HN.out, HA.out]; first | rfl | simp, g2, by rw [HN.out]; exact hM2⟩
            case measure => simp [intOf]; omega
    · obtain rfl : k = P.length := by omega
      go_wp2_with fail
      go_ret
      exact ⟨rfl, hg, hM⟩
end Go.Proofs.Ytdnofpllmhnacaa
