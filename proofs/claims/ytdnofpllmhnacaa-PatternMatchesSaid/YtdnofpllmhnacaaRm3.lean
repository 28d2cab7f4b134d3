/- The reference's reach. -/
import Derived.Test.YtdnofpllmhnacaaRm1
import Derived.Test.YtdnofpllmhnacaaRm2
import Derived.Test.YtdnofpllmhnacaaJnW
import Derived.Test.YtdnofpllmhnacaaRs1
import Derived.Deep.RegionHeld3
namespace Go.Proofs.Ytdnofpllmhnacaa
open Go.ChangeShapes Go.WideShapes Go.ChangeAt Go.RowKit Go.Sort
set_option linter.unusedVariables false
set_option linter.unusedSimpArgs false
set_option maxRecDepth 100000

/-- The cells of n + 1 bools. -/
def fnL (n : Nat) (N : Nat → Bool) : List Value := (List.range (n + 1)).map fun j => .bool (N j)
theorem fnL_len (n : Nat) (N : Nat → Bool) : (fnL n N).length = n + 1 := by simp [fnL]
theorem fnL_at (n : Nat) (N : Nat → Bool) (j : Nat) (h : j ≤ n) : (fnL n N)[j]? = some (.bool (N j)) := by
  unfold fnL; rw [List.getElem?_map, List.getElem?_range (by omega)]; rfl
theorem fnL_set (n : Nat) (N N' : Nat → Bool) (i : Nat) (b : Bool) (hi : i ≤ n) (h : ∀ j, j ≤ n → N' j = if j = i then b else N j) : (fnL n N).toArray.setIfInBounds i (.bool b) = (fnL n N').toArray := by
  apply Array.ext'
  rw [Array.toList_setIfInBounds]
  apply List.ext_getElem?
  intro j
  show ((fnL n N).set i (.bool b))[j]? = (fnL n N')[j]?
  by_cases hj : j ≤ n
  · rw [List.getElem?_set, fnL_len, fnL_at n N' j hj, h j hj]
    by_cases e : i = j
    · subst e; rw [if_pos rfl, if_pos (by omega), if_pos rfl]
    · rw [if_neg e, fnL_at n N j hj, if_neg (fun e2 => e e2.symm)]
  · rw [List.getElem?_eq_none (by rw [List.length_set, fnL_len]; omega), List.getElem?_eq_none (by rw [fnL_len]; omega)]
theorem fnL_congr (n : Nat) {N N' : Nat → Bool} (h : ∀ j, j ≤ n → N j = N' j) : fnL n N = fnL n N' := by
  unfold fnL
  exact List.map_congr_left fun j hj => by rw [h j (by have := List.mem_range.1 hj; omega)]
theorem fnL_false (n : Nat) : fnL n (fun _ => false) = List.replicate (n + 1) (Value.bool false) := by
  apply List.ext_getElem?
  intro j
  by_cases hj : j ≤ n
  · rw [fnL_at n _ j hj, List.getElem?_replicate, if_pos (by omega)]
  · rw [List.getElem?_eq_none (by rw [fnL_len]; omega), List.getElem?_eq_none (by simp; omega)]
/-- A slice of bools that the call owns. -/
def BL (base n : Nat) (A : Nat → Bool) (v : Value) (W : World) : Prop :=
  ∃ g cap, v = .slice (some ⟨g, 0, none⟩) (n + 1) cap ∧ n + 1 ≤ cap ∧ cap ≤ maxLen ∧ base ≤ g ∧ g < W.heap.size ∧ ∀ i, i ≤ n → W.cell? ⟨g, i, none⟩ = some (.bool (A i))
theorem BL.call {base n : Nat} {A : Nat → Bool} {v : Value} {W W' : World} (h : BL base n A v W) (hb : Below W.heap.size W W') : BL base n A v W' := by
  obtain ⟨g, cap, h1, h2, h3, h4, h5, h6⟩ := h
  exact ⟨g, cap, h1, h2, h3, h4, Nat.lt_of_lt_of_le h5 hb.size, fun i hi => (hb.cell (p := ⟨g, i, none⟩) h5).trans (h6 i hi)⟩
/-- The two slices in a round. -/
structure RI (w : World) (n ga : Nat) (A : Nat → Bool) (h : Nat) (N : Nat → Bool) (W : World) : Prop where
  at_ : ∀ i, i ≤ n → W.cell? ⟨ga, i, none⟩ = some (.bool (A i))
  lta : ga < W.heap.size
  nx : W.heap[h]? = some (.cells (fnL n N).toArray 4 (0, 0))
  bel : Below w.heap.size w W
  ne : ga ≠ h
  hb : w.heap.size ≤ h
section
variable {w W W' : World} {n ga h : Nat} {A N N' : Nat → Bool}
theorem RI.lth (r : RI w n ga A h N W) : h < W.heap.size := (Array.getElem?_eq_some_iff.1 r.nx).1
theorem RI.call (r : RI w n ga A h N W) (g : Below W.heap.size W W') : RI w n ga A h N W' :=
  ⟨fun i hi => (g.cell (p := ⟨ga, i, none⟩) r.lta).trans (r.at_ i hi), Nat.lt_of_lt_of_le r.lta g.size, (g.block h r.lth).trans r.nx, BelowOn r.bel g, r.ne, r.hb⟩
theorem RI.drew (r : RI w n ga A h N W) : RI w n ga A h N W.drew := ⟨r.at_, r.lta, r.nx, r.bel.drew, r.ne, r.hb⟩
theorem RI.cell (r : RI w n ga A h N W) (i : Nat) (hi : i ≤ n) : W.cell? ⟨h, i, none⟩ = some (.bool (N i)) := by
  rw [cell_of_row _ _ _ _ _ _ r.nx]; simpa using fnL_at n N i hi
theorem RI.set (r : RI w n ga A h N W) (i : Nat) (b : Bool) (hi : i ≤ n) (hN : ∀ j, j ≤ n → N' j = if j = i then b else N j) : RI w n ga A h N' (W.setCell ⟨h, i, none⟩ (.bool b)) := by
  have hs := setCell_at W h i _ 4 (.bool b) r.nx
  rw [fnL_set n N N' i b hi hN] at hs
  have g := grow_cell W h i (.bool b)
  refine ⟨fun j hj => ?_, by simpa using r.lta, hs, r.bel.grown g r.bel.size (fun k hk => by injection hk with hk; have := r.hb; omega), r.ne, r.hb⟩
  rw [World.cell?_of_block (w := W) (w' := W.setCell ⟨h, i, none⟩ (.bool b)) (a := ⟨ga, j, none⟩) (g.block ga r.lta (fun e => by injection e with e; exact r.ne e))]
  exact r.at_ j hj
theorem RI.same (r : RI w n ga A h N W) (hN : ∀ j, j ≤ n → N j = N' j) : RI w n ga A h N' W := ⟨r.at_, r.lta, by rw [r.nx, fnL_congr n hN], r.bel, r.ne, r.hb⟩
end
/-- next behind i rounds of the first loop; of the second. -/
def n1F (x : At) (A : Nat → Bool) (l : List Nat) (i : Nat) : Nat → Bool := fun j => decide (j ≤ i) && nx1 x A l j
def n2F (x : At) (A : Nat → Bool) (l : List Nat) (i : Nat) : Nat → Bool := fun j => if j < i then nx2 x A l j else nx1 x A l j
theorem n1_zero (x : At) (A : Nat → Bool) (l : List Nat) : ∀ j, n1F x A l 0 j = false := fun j => by
  unfold n1F
  cases j with
  | zero => rfl
  | succ j => rw [decide_eq_false (by omega)]; rfl
theorem n1_next (x : At) (A : Nat → Bool) (l : List Nat) (i : Nat) : ∀ j, n1F x A l (i + 1) j = if j = i + 1 then nx1 x A l (i + 1) else n1F x A l i j := fun j => by
  unfold n1F
  by_cases e : j = i + 1
  · subst e; rw [if_pos rfl, decide_eq_true (Nat.le_refl _)]; rfl
  · rw [if_neg e]
    by_cases h : j ≤ i
    · rw [decide_eq_true h, decide_eq_true (by omega)]
    · rw [decide_eq_false h, decide_eq_false (by omega)]
theorem n1_off (x : At) (A : Nat → Bool) (l : List Nat) (i : Nat) : n1F x A l i (i + 1) = false := by unfold n1F; rw [decide_eq_false (by omega)]; rfl
theorem n1_at (x : At) (A : Nat → Bool) (l : List Nat) (i : Nat) : n1F x A l i i = nx1 x A l i := by unfold n1F; rw [decide_eq_true (Nat.le_refl _)]; rfl
theorem n2_next (x : At) (A : Nat → Bool) (l : List Nat) (i : Nat) : ∀ j, n2F x A l (i + 1) j = if j = i then nx2 x A l i else n2F x A l i j := fun j => by
  unfold n2F
  by_cases e : j = i
  · subst e; rw [if_pos rfl, if_pos (by omega)]
  · rw [if_neg e]
    by_cases h : j < i
    · rw [if_pos h, if_pos (by omega)]
    · rw [if_neg h, if_neg (by omega)]
theorem hin9 (a : At) : (Try.prog.info? 37).map (·.size) = some a.cs.length := by rw [At.cs_length]; exact size37
theorem info4' : ∃ i, Try.prog.info? 4 = some i ∧ i.zero = some (.bool false) ∧ i.size = 1 ∧ i.bytes = 1 := by
  cases hi : Try.prog.info? 4 with
  | none => have := info4; rw [hi] at this; cases this
  | some i =>
    have h4 := info4
    rw [hi] at h4
    simp only [Option.map_some, Option.some.injEq, Prod.mk.injEq] at h4
    exact ⟨i, rfl, h4.1, h4.2.1, h4.2.2⟩
def RcR (w : World) (P : List At) (s : ByteArray) (F : Nat → Bool) (v k : Value) (wr : World) : Prop :=
  ∃ j : Nat, j ≤ P.length ∧ k = .int .i64 j ∧ BL w.heap.size s.size (rcK F P (byt s) j) v wr ∧ Below w.heap.size w wr

set_option maxHeartbeats 12800000 in
theorem reach_any (p : Option Addr) (c : Nat) (P : List At) (s : ByteArray) (base g0 : Nat) (F : Nat → Bool) (cap0 : Nat) (w : World) (hP : Ats w p P) (hc : P.length ≤ c) (hm : c ≤ maxLen) (hn : P.length ≤ 1000000) (hs : s.size ≤ 100000)
    (hF : ∀ i, i ≤ s.size → w.cell? ⟨g0, i, none⟩ = some (.bool (F i))) (hcap : s.size + 1 ≤ cap0) :
    Calls Try.prog 41 #[.slice p P.length c, .string s, .slice (some ⟨g0, 0, none⟩) (s.size + 1) cap0] w fun e w' => ∃ v, e = .returned v ∧ BL w.heap.size s.size (rcK F P (byt s) P.length) v w' ∧ Below w.heap.size w w' := by
  unfold maxLen at hm
  obtain ⟨i4, hi4, hz4, hs4, hb4⟩ := info4'
  have hnews : ∀ j u, (fnL s.size F)[j]? = some u → w.cell? ((⟨g0, 0, none⟩ : Addr).add j) = some u := fun j u hj => by
    have hjl : j < s.size + 1 := by
      have := (List.getElem?_eq_some_iff.1 hj).1
      rwa [fnL_len] at this
    rw [add_flat, Nat.zero_add, hF j (by omega), ← hj, fnL_at s.size F j (by omega)]
  have hone : ∀ u ∈ fnL s.size F, u.oneCell' = true := fun u hu => by
    unfold fnL at hu
    obtain ⟨j, _, rfl⟩ := List.mem_map.1 hu; rfl
  have hnil : w.ownsRow w.heap.size 4 1 (.slice none 0 0) 0 [] := World.ownsRow_nil _ _ _ _
  have HN := Lib.hid (And.intro hnews (And.intro hone hnil)); have HP := Lib.hid hP; clear hnews hone hnil hP hF
  go_enter Try.func41, Try.ntmps41
  go_wp2_with (at_builtin; refine wpList_append_lies _ (by rfl) _ _ _ (by rfl) w.heap.size 4 i4 (.bool false) 1 1 Try.underlying63 hi4 hz4 hs4 hb4 (by rfl) (by omega) (.slice none 0 0) 0 [] (by rfl) HN.out.2.2 ⟨g0, 0, none⟩ (s.size + 1) cap0 (fnL s.size F) (by rfl) (by rw [fnL_len]; omega) HN.out.1 HN.out.2.1 (by omega) (by unfold maxLen; omega) (by omega) (Nat.le_refl _) _ rfl ?_; intro g1 cp1 w1 o1 gr1 at1 lt1)
  have hbl1 : BL w.heap.size s.size F (.slice (some ⟨g1, 0, none⟩) (s.size + 1) cp1) w1 := by
    have hcells := World.ownsRow.cells o1 (g := g1) rfl
    rcases o1.2 with ⟨hv, _⟩ | ⟨g', cap', cur, hv, hbase, hh, hle, hmx, hsz, htk⟩
    · cases hv
    · injection hv with e1 e2 e3
      injection e1 with e1
      injection e1 with e1 _ _
      subst e1; subst e3
      refine ⟨g1, cp1, rfl, by omega, hmx, hbase, lt1, fun i hi => ?_⟩
      have := hcells i (.bool (F i)) (by rw [List.nil_append]; exact fnL_at s.size F i hi)
      rwa [add_flat, Nat.zero_add] at this
  have H1 := Lib.hid (And.intro hbl1 (grow_none gr1)); clear hbl1 o1 gr1 at1 HN
  have hbel : Below w.heap.size w w1 := ⟨H1.out.2.os, H1.out.2.tape, H1.out.2.output, H1.out.2.size, H1.out.2.block⟩
  have HB1 := Lib.hid hbel; clear hbel
  (try rw [Nat.zero_add])
  go_wp2_with fail
  go_loopw [7, 16] (fun v k wr => RcR w P s F v k wr) (fun _ k _ => P.length - (intOf k).toNat)
  case atStart => exact ⟨0, Nat.zero_le _, rfl, by first | exact H1.out.1 | (have := H1.out.1; simpa using this), HB1.out⟩
  case round =>
    clear H1 HB1
    obtain ⟨k, hk, rfl, hL, hB⟩ := hrel
    by_cases hlt : k < P.length
    · have q0 : decide (k < P.length) = true := decide_eq_true hlt
      obtain ⟨b, o, rfl, hb, hrow⟩ := HP.out.call hB (by omega)
      have hxr := hrow k hlt
      have hrk : rcK F P (byt s) (k + 1) = nx2 P[k]! (rcK F P (byt s) k) (byt s) := rfl
      rw [getElem!_pos P k hlt] at hrk
      generalize P[k] = x at *
      generalize rcK F P (byt s) k = A at *
      obtain ⟨ga, ca, rfl, hca, hcm, hga, hlt2, hcell⟩ := hL
      have hmk := make_bools wr s.size (by omega)
      have hh := heap_alloc_new wr (.cells (List.replicate (s.size + 1) (Value.bool false)).toArray 4)
      have hri : RI w s.size ga A wr.heap.size (n1F x A (byt s) 0) (wr.alloc (.cells (List.replicate (s.size + 1) (Value.bool false)).toArray 4)) := by
        have hb1 := blw (Below.refl wr.heap.size wr) (.cells (List.replicate (s.size + 1) (Value.bool false)).toArray 4)
        refine ⟨fun i hi => (hb1.cell (p := ⟨ga, i, none⟩) hlt2).trans (hcell i hi), Nat.lt_of_lt_of_le hlt2 hb1.size, ?_, BelowOn hB hb1, by omega, hB.size⟩
        rw [hh, fnL_congr s.size (N := n1F x A (byt s) 0) (N' := fun _ => false) (fun j _ => n1_zero x A (byt s) j), fnL_false]
      have hbw : b < w.heap.size := by
        obtain ⟨b', o', e, hlt', _⟩ := HP.out (by omega)
        injection e with e; injection e with e1 e2; omega
      have hxw : w.rangeAt b (o + k * 34) x.cs := fun j v hv => by
        have := hxr j v hv
        rwa [hB.cell (p := ⟨b, o + k * 34 + j, none⟩) hbw] at this
      have HR := Lib.hid hri; have HX := Lib.hid hxw; have HRK := Lib.hid hrk; have HMK := Lib.hid hmk
      have hszw : w.heap.size ≤ wr.heap.size := hB.size
      obtain ⟨d, hu, hdd⟩ := und37
      have hin := hin9 x
      have HUD := Lib.hid (And.intro hu (And.intro hdd hin)); clear hu hdd hin
      clear hri hxw hrk hcell hrow hxr hB hh
      generalize hh' : wr.heap.size = h at *
      have HMK2 := Lib.hid hmk
      unfold maxLen at hcm
      go_wp2_with fail
      go_loopw [10] (fun z wr' => ∃ i : Nat, i ≤ s.size ∧ z = .int .i64 i ∧ RI w s.size ga A h (n1F x A (byt s) i) wr') (fun z _ => s.size - (intOf z).toNat)
      case atStart => exact ⟨0, Nat.zero_le _, rfl, HR.out⟩
      case round =>
        clear HR
        obtain ⟨i, hi, rfl, hI⟩ := hrel
        by_cases hil : i < s.size
        · have u0 : decide (i < s.size) = true := decide_eq_true hil
          have hblt : b < wr.heap.size := Nat.lt_of_lt_of_le hbw hI.bel.size
          have hD := hI.drew
          have f1 := hD.at_ i hi
          have f2 := hD.cell i hi
          rw [n1_at] at f2
          have hxr : wr.rangeAt b (o + k * 34) x.cs := rangeAt_below HX.out (hI.bel.block b hbw)
          have fx : wr.drew.rangeAt b (o + k * 34) x.cs := fun j v hv => hxr j v hv
          have f3 : wr.drew.cell? ⟨b, o + k * 34 + 33, none⟩ = some (.bool x.many) := rangeMany fx
          have hC := fun W => rcontains_any x (s[i]'hil).toNat (s[i]'hil).toNat_lt W
          have hnx : nx1 x A (byt s) (i + 1) = ((A i || (x.many && nx1 x A (byt s) i)) && x.s (s[i]'hil).toNat) := by
            rw [nx1, byt_get s i hil]
          have hnn := n1_next x A (byt s) i
          have hoff := n1_off x A (byt s) i
          have i0 : (0 : Int) ≤ (i : Int) := by omega
          have i1 : (i : Int) < (s.size : Int) + 1 := by omega
          have i2 : (i : Int) < (s.size : Int) := by omega
          have i3 : (0 : Int) ≤ (k : Int) := by omega
          have i4' : (k : Int) < (P.length : Int) := by omega
          have i5 : (i : Int) < (ca : Int) := by omega
          have hsz2 : (s.size : Int) ≤ 100000 := by omega
          have HF := Lib.hid (And.intro f1 (And.intro f2 (And.intro f3 (And.intro fx (And.intro hD hblt))))); have HNX := Lib.hid (And.intro hnx (And.intro hnn hoff))
          clear f1 f2 f3 fx hD hI hnx hnn hoff hxr hblt

          cases hA : A i with
          | true =>
            cases hsb : x.s (s[i]'hil).toNat with
            | true =>
              have hnx1 := HNX.out.1
              obtain ⟨f1, f2, f3, fx, hD, hblt⟩ := HF.out
              obtain ⟨hu, hdd, hin⟩ := HUD.out
              rw [hA] at f1 hnx1
              rw [hsb] at hC hnx1
              have HC := Lib.hid hC; clear hC
              simp only [Bool.true_or, Bool.false_or, Bool.true_and, Bool.false_and, Bool.and_true, Bool.and_false] at hnx1
              clear hA hsb
              have HNX1 := Lib.hid hnx1; clear hnx1
              have HD2 := Lib.hid (And.intro f1 (And.intro f2 (And.intro f3 (And.intro fx (And.intro hD (And.intro hblt (And.intro hu (And.intro hdd hin))))))))
              clear f1 f2 f3 fx hD hblt hu hdd hin
              go_upto_region 9 with fail
              obtain ⟨f1, f2, f3, fx, hD, hblt, hu, hdd, hin⟩ := HD2.out
              refine wp_region_held_drew (S := fun W => W.cell? ⟨ga, i, none⟩ = some (.bool true) ∧ W.cell? ⟨h, i, none⟩ = some (.bool (nx1 x A (byt s) i)) ∧ W.cell? ⟨b, o + k * 34 + 33, none⟩ = some (.bool x.many) ∧ W.rangeAt b (o + k * 34) x.cs) (by kernel_rfl) (⟨f1, f2, f3, fx⟩) (fun hHeld => ?_)
              refine wpAnyH_take (i := 0) (v := ?_) rfl (by kernel_rfl) (by kernel_rfl) (by kernel_rfl) (fun _ _ _ h => h) (Or.inl ⟨by rfl, ?_⟩) hHeld ?_
              rotate_left
              · (intro w hSw; obtain ⟨q7, q8, q9, q10⟩ := hSw; clear q10; go_simp; try with_reducible rfl)
              try simp only [Act.put, List.getElem_toArray, List.getElem_cons_zero, List.getElem_cons_succ, List.setIfInBounds_toArray, List.set_cons_zero, List.set_cons_succ]
              refine wpAnyH_take (i := 1) (v := ?_) rfl (by kernel_rfl) (by kernel_rfl) (by kernel_rfl) (fun _ _ _ h => h) (Or.inl ⟨by rfl, ?_⟩) hHeld ?_
              rotate_left
              · (intro w hSw; obtain ⟨q7, q8, q9, q10⟩ := hSw; clear q10; go_simp; try with_reducible rfl)
              try simp only [Act.put, List.getElem_toArray, List.getElem_cons_zero, List.getElem_cons_succ, List.setIfInBounds_toArray, List.set_cons_zero, List.set_cons_succ]
              refine wpAnyH_take (i := 2) (v := ?_) rfl (by kernel_rfl) (by kernel_rfl) (by kernel_rfl) (fun _ _ _ h => h) (Or.inl ⟨by rfl, ?_⟩) hHeld ?_
              rotate_left
              · (intro w hSw; obtain ⟨q7, q8, q9, q10⟩ := hSw; clear q10; go_simp; try with_reducible rfl)
              try simp only [Act.put, List.getElem_toArray, List.getElem_cons_zero, List.getElem_cons_succ, List.setIfInBounds_toArray, List.set_cons_zero, List.set_cons_succ]
              refine wpAnyH_take (i := 3) (v := ?_) rfl (by kernel_rfl) (by kernel_rfl) (by kernel_rfl) (fun _ _ _ h => h) (Or.inl ⟨by rfl, ?_⟩) hHeld ?_
              rotate_left
              · (intro w hSw; obtain ⟨q7, q8, q9, q10⟩ := hSw; clear q10; go_simp; try with_reducible rfl)
              try simp only [Act.put, List.getElem_toArray, List.getElem_cons_zero, List.getElem_cons_succ, List.setIfInBounds_toArray, List.set_cons_zero, List.set_cons_succ]
              refine wpAnyH_take (i := 4) (v := ?_) rfl (by kernel_rfl) (by kernel_rfl) (by kernel_rfl) (fun _ _ _ h => h) (Or.inl ⟨by rfl, ?_⟩) hHeld ?_
              rotate_left
              · (intro w hSw; obtain ⟨q7, q8, q9, q10⟩ := hSw; clear q10; go_simp; try with_reducible rfl)
              try simp only [Act.put, List.getElem_toArray, List.getElem_cons_zero, List.getElem_cons_succ, List.setIfInBounds_toArray, List.set_cons_zero, List.set_cons_succ]
              refine wpAnyH_take (i := 5) rfl (by kernel_rfl) (by kernel_rfl) (by kernel_rfl) (fun _ _ _ h => h) (Or.inr ⟨by rfl, rfl⟩) hHeld ?_
              try simp only [Act.put, List.getElem_toArray, List.getElem_cons_zero, List.getElem_cons_succ, List.setIfInBounds_toArray, List.set_cons_zero, List.set_cons_succ]
              refine wpAnyH_take (i := 6) rfl (by kernel_rfl) (by kernel_rfl) (by kernel_rfl) (fun _ _ _ h => h) (Or.inr ⟨by rfl, rfl⟩) hHeld ?_
              try simp only [Act.put, List.getElem_toArray, List.getElem_cons_zero, List.getElem_cons_succ, List.setIfInBounds_toArray, List.set_cons_zero, List.set_cons_succ]
              refine wpAnyH_take (i := 7) rfl (by kernel_rfl) (by kernel_rfl) (by kernel_rfl) (fun _ _ _ h => h) (Or.inr ⟨by rfl, rfl⟩) hHeld ?_
              try simp only [Act.put, List.getElem_toArray, List.getElem_cons_zero, List.getElem_cons_succ, List.setIfInBounds_toArray, List.set_cons_zero, List.set_cons_succ]
              refine wpAnyH_take (i := 8) rfl (by kernel_rfl) (by kernel_rfl) (by kernel_rfl) (fun _ _ _ h => h) (Or.inr ⟨by rfl, rfl⟩) hHeld ?_
              try simp only [Act.put, List.getElem_toArray, List.getElem_cons_zero, List.getElem_cons_succ, List.setIfInBounds_toArray, List.set_cons_zero, List.set_cons_succ]
              refine wpAnyH_take (i := 9) rfl (by kernel_rfl) (by kernel_rfl) (by kernel_rfl) (fun _ _ _ h => h) (Or.inr ⟨by rfl, rfl⟩) hHeld ?_
              try simp only [Act.put, List.getElem_toArray, List.getElem_cons_zero, List.getElem_cons_succ, List.setIfInBounds_toArray, List.set_cons_zero, List.set_cons_succ]
              refine wpAnyH_take (i := 10) rfl (by kernel_rfl) (by kernel_rfl) (by kernel_rfl) (fun _ _ _ h => h) (Or.inr ⟨by rfl, rfl⟩) hHeld ?_
              try simp only [Act.put, List.getElem_toArray, List.getElem_cons_zero, List.getElem_cons_succ, List.setIfInBounds_toArray, List.set_cons_zero, List.set_cons_succ]
              refine wpAnyH_take (i := 11) rfl (by kernel_rfl) (by kernel_rfl) (by kernel_rfl) (fun _ _ _ h => h) (Or.inr ⟨by rfl, rfl⟩) hHeld ?_
              try simp only [Act.put, List.getElem_toArray, List.getElem_cons_zero, List.getElem_cons_succ, List.setIfInBounds_toArray, List.set_cons_zero, List.set_cons_succ]
              refine wpAnyH_take (i := 12) rfl (by kernel_rfl) (by kernel_rfl) (by kernel_rfl) (fun _ _ _ h => h) (Or.inr ⟨by rfl, rfl⟩) hHeld ?_
              try simp only [Act.put, List.getElem_toArray, List.getElem_cons_zero, List.getElem_cons_succ, List.setIfInBounds_toArray, List.set_cons_zero, List.set_cons_succ]
              refine wpAnyH_take (i := 13) rfl (by kernel_rfl) (by kernel_rfl) (by kernel_rfl) (fun _ _ _ h => h) (Or.inr ⟨by rfl, rfl⟩) hHeld ?_
              try simp only [Act.put, List.getElem_toArray, List.getElem_cons_zero, List.getElem_cons_succ, List.setIfInBounds_toArray, List.set_cons_zero, List.set_cons_succ]
              refine wpAnyH_take (i := 14) rfl (by kernel_rfl) (by kernel_rfl) (by kernel_rfl) (fun _ _ _ h => h) (Or.inr ⟨by rfl, rfl⟩) hHeld ?_
              try simp only [Act.put, List.getElem_toArray, List.getElem_cons_zero, List.getElem_cons_succ, List.setIfInBounds_toArray, List.set_cons_zero, List.set_cons_succ]
              refine wpAnyH_take (i := 15) rfl (by kernel_rfl) (by kernel_rfl) (by kernel_rfl) (fun _ _ _ h => h) (Or.inr ⟨by rfl, rfl⟩) hHeld ?_
              try simp only [Act.put, List.getElem_toArray, List.getElem_cons_zero, List.getElem_cons_succ, List.setIfInBounds_toArray, List.set_cons_zero, List.set_cons_succ]
              refine wpAnyH_take (i := 16) (v := ?_) rfl (by kernel_rfl) (by kernel_rfl) (by kernel_rfl) (fun _ _ _ h => h) (Or.inl ⟨by rfl, ?_⟩) hHeld ?_
              rotate_left
              · (intro w hSw; obtain ⟨q7, q8, q9, q10⟩ := hSw; clear q10; go_simp; try with_reducible rfl)
              try simp only [Act.put, List.getElem_toArray, List.getElem_cons_zero, List.getElem_cons_succ, List.setIfInBounds_toArray, List.set_cons_zero, List.set_cons_succ]
              refine wpAnyH_take (i := 17) (v := ?_) rfl (by kernel_rfl) (by kernel_rfl) (by kernel_rfl) (fun _ _ _ h => h) (Or.inl ⟨by rfl, ?_⟩) hHeld ?_
              rotate_left
              · (intro w hSw; obtain ⟨q7, q8, q9, q10⟩ := hSw; clear q10; go_simp; try with_reducible rfl)
              try simp only [Act.put, List.getElem_toArray, List.getElem_cons_zero, List.getElem_cons_succ, List.setIfInBounds_toArray, List.set_cons_zero, List.set_cons_succ]
              refine wpAnyH_take (i := 18) (v := ?_) rfl (by kernel_rfl) (by kernel_rfl) (by kernel_rfl) (fun _ _ _ h => h) (Or.inl ⟨by rfl, ?_⟩) hHeld ?_
              rotate_left
              · (intro w hSw; obtain ⟨q7, q8, q9, q10⟩ := hSw; clear q10; go_simp; try with_reducible rfl)
              try simp only [Act.put, List.getElem_toArray, List.getElem_cons_zero, List.getElem_cons_succ, List.setIfInBounds_toArray, List.set_cons_zero, List.set_cons_succ]
              refine wpAnyH_take (i := 19) (v := ?_) rfl (by kernel_rfl) (by kernel_rfl) (by kernel_rfl) (fun _ _ _ h => h) (Or.inl ⟨by rfl, ?_⟩) hHeld ?_
              rotate_left
              · (intro w hSw; obtain ⟨q7, q8, q9, q10⟩ := hSw; clear q10; go_simp; try with_reducible rfl)
              try simp only [Act.put, List.getElem_toArray, List.getElem_cons_zero, List.getElem_cons_succ, List.setIfInBounds_toArray, List.set_cons_zero, List.set_cons_succ]
              refine wpAnyH_take (i := 20) (v := ?_) rfl (by kernel_rfl) (by kernel_rfl) (by kernel_rfl) (fun _ _ _ h => h) (Or.inl ⟨by rfl, ?_⟩) hHeld ?_
              rotate_left
              · (intro w hSw; obtain ⟨q7, q8, q9, q10⟩ := hSw; clear q10; go_simp; try with_reducible rfl)
              try simp only [Act.put, List.getElem_toArray, List.getElem_cons_zero, List.getElem_cons_succ, List.setIfInBounds_toArray, List.set_cons_zero, List.set_cons_succ]
              refine wpAnyH_take (i := 21) rfl (by kernel_rfl) (by kernel_rfl) (by kernel_rfl) (fun _ _ _ h => h) (yieldsIf_load_mid (by rfl) 37 _ (by rfl) (b) (o + k * 34) (by rfl) (x.cs) _ (fun W h => h.2.2.2) hu hdd hin) hHeld ?_
              try simp only [Act.put, List.getElem_toArray, List.getElem_cons_zero, List.getElem_cons_succ, List.setIfInBounds_toArray, List.set_cons_zero, List.set_cons_succ]
              refine wpAnyH_take (i := 22) (v := ?_) rfl (by kernel_rfl) (by kernel_rfl) (by kernel_rfl) (fun _ _ _ h => h) (Or.inl ⟨by rfl, ?_⟩) hHeld ?_
              rotate_left
              · (intro w hSw; obtain ⟨q7, q8, q9, q10⟩ := hSw; clear q10; go_simp; try with_reducible rfl)
              try simp only [Act.put, List.getElem_toArray, List.getElem_cons_zero, List.getElem_cons_succ, List.setIfInBounds_toArray, List.set_cons_zero, List.set_cons_succ]
              refine wpAnyH_take (i := 23) (v := ?_) rfl (by kernel_rfl) (by kernel_rfl) (by kernel_rfl) (fun _ _ _ h => h) (Or.inl ⟨by rfl, ?_⟩) hHeld ?_
              rotate_left
              · (intro w hSw; obtain ⟨q7, q8, q9, q10⟩ := hSw; clear q10; go_simp; try with_reducible rfl)
              try simp only [Act.put, List.getElem_toArray, List.getElem_cons_zero, List.getElem_cons_succ, List.setIfInBounds_toArray, List.set_cons_zero, List.set_cons_succ]
              refine wpAnyH_take (i := 24) (v := ?_) rfl (by kernel_rfl) (by kernel_rfl) (by kernel_rfl) (fun _ _ _ h => h) (Or.inl ⟨by rfl, ?_⟩) hHeld ?_
              rotate_left
              · (intro w hSw; obtain ⟨q7, q8, q9, q10⟩ := hSw; clear q10; go_simp; try with_reducible rfl)
              try simp only [Act.put, List.getElem_toArray, List.getElem_cons_zero, List.getElem_cons_succ, List.setIfInBounds_toArray, List.set_cons_zero, List.set_cons_succ]
              refine wpAnyH_ready (rs := [25]) (by kernel_rfl) (by simp) ?_
              refine AllReadyH.cons rfl (fun K hK => ?_) (AllReadyH.nil)
              go_simp
              refine (HC.out _).mono ?_; rintro e w1 ⟨rfl, hb1⟩
              have hbl : b < wr.drew.heap.size := hblt
              have HD := Lib.hid (hD.call hb1)
              go_wp2_with fail
              refine hK.out _ _ (⟨(hb1.cell (p := ⟨ga, i, none⟩) hD.lta).trans f1, (hb1.cell (p := ⟨h, i, none⟩) hD.lth).trans f2, (hb1.cell (p := ⟨b, o + k * 34 + 33, none⟩) hbl).trans f3, rangeAt_below fx (hb1.block b hbl)⟩) (fun hHeld => ?_)
              clear hK K
              try simp only [Act.put, List.getElem_toArray, List.getElem_cons_zero, List.getElem_cons_succ, List.setIfInBounds_toArray, List.set_cons_zero, List.set_cons_succ]
              refine wpAnyH_take (i := 26) (v := ?_) rfl (by kernel_rfl) (by kernel_rfl) (by kernel_rfl) (fun _ _ _ h => h) (Or.inl ⟨by rfl, ?_⟩) hHeld ?_
              rotate_left
              · (intro w hSw; obtain ⟨q7, q8, q9, q10⟩ := hSw; clear q10; go_simp; try with_reducible rfl)
              try simp only [Act.put, List.getElem_toArray, List.getElem_cons_zero, List.getElem_cons_succ, List.setIfInBounds_toArray, List.set_cons_zero, List.set_cons_succ]
              refine wpAnyH_done (by kernel_rfl) ?_ _
              clear f1 f2 f3 fx hu hdd hin hblt hb1 hbl
              have hnx1 := HNX1.out
              have fr := Lib.frozen_of_heap HD.out.nx (i + 1)
              have f9 := HD.out.cell (i + 1) hil
              have hS2 := HD.out.set (N' := n1F x A (byt s) (i + 1)) (i + 1) true hil (fun j hj => by rw [HNX.out.2.1 j, hnx1])
              have HS2 := Lib.hid hS2; clear hS2
              have j0 : ((i : Int) + 1).toNat = i + 1 := by omega
              go_wp2_with fail
              go_roundw
              case rel => exact ⟨i + 1, hil, by go_num, HS2.out⟩
              case measure => simp [intOf]; omega
            | false =>
              have hnx1 := HNX.out.1
              obtain ⟨f1, f2, f3, fx, hD, hblt⟩ := HF.out
              obtain ⟨hu, hdd, hin⟩ := HUD.out
              rw [hA] at f1 hnx1
              rw [hsb] at hC hnx1
              have HC := Lib.hid hC; clear hC
              simp only [Bool.true_or, Bool.false_or, Bool.true_and, Bool.false_and, Bool.and_true, Bool.and_false] at hnx1
              clear hA hsb
              have HNX1 := Lib.hid hnx1; clear hnx1
              have HD2 := Lib.hid (And.intro f1 (And.intro f2 (And.intro f3 (And.intro fx (And.intro hD (And.intro hblt (And.intro hu (And.intro hdd hin))))))))
              clear f1 f2 f3 fx hD hblt hu hdd hin
              go_upto_region 9 with fail
              obtain ⟨f1, f2, f3, fx, hD, hblt, hu, hdd, hin⟩ := HD2.out
              refine wp_region_held_drew (S := fun W => W.cell? ⟨ga, i, none⟩ = some (.bool true) ∧ W.cell? ⟨h, i, none⟩ = some (.bool (nx1 x A (byt s) i)) ∧ W.cell? ⟨b, o + k * 34 + 33, none⟩ = some (.bool x.many) ∧ W.rangeAt b (o + k * 34) x.cs) (by kernel_rfl) (⟨f1, f2, f3, fx⟩) (fun hHeld => ?_)
              refine wpAnyH_take (i := 0) (v := ?_) rfl (by kernel_rfl) (by kernel_rfl) (by kernel_rfl) (fun _ _ _ h => h) (Or.inl ⟨by rfl, ?_⟩) hHeld ?_
              rotate_left
              · (intro w hSw; obtain ⟨q7, q8, q9, q10⟩ := hSw; clear q10; go_simp; try with_reducible rfl)
              try simp only [Act.put, List.getElem_toArray, List.getElem_cons_zero, List.getElem_cons_succ, List.setIfInBounds_toArray, List.set_cons_zero, List.set_cons_succ]
              refine wpAnyH_take (i := 1) (v := ?_) rfl (by kernel_rfl) (by kernel_rfl) (by kernel_rfl) (fun _ _ _ h => h) (Or.inl ⟨by rfl, ?_⟩) hHeld ?_
              rotate_left
              · (intro w hSw; obtain ⟨q7, q8, q9, q10⟩ := hSw; clear q10; go_simp; try with_reducible rfl)
              try simp only [Act.put, List.getElem_toArray, List.getElem_cons_zero, List.getElem_cons_succ, List.setIfInBounds_toArray, List.set_cons_zero, List.set_cons_succ]
              refine wpAnyH_take (i := 2) (v := ?_) rfl (by kernel_rfl) (by kernel_rfl) (by kernel_rfl) (fun _ _ _ h => h) (Or.inl ⟨by rfl, ?_⟩) hHeld ?_
              rotate_left
              · (intro w hSw; obtain ⟨q7, q8, q9, q10⟩ := hSw; clear q10; go_simp; try with_reducible rfl)
              try simp only [Act.put, List.getElem_toArray, List.getElem_cons_zero, List.getElem_cons_succ, List.setIfInBounds_toArray, List.set_cons_zero, List.set_cons_succ]
              refine wpAnyH_take (i := 3) (v := ?_) rfl (by kernel_rfl) (by kernel_rfl) (by kernel_rfl) (fun _ _ _ h => h) (Or.inl ⟨by rfl, ?_⟩) hHeld ?_
              rotate_left
              · (intro w hSw; obtain ⟨q7, q8, q9, q10⟩ := hSw; clear q10; go_simp; try with_reducible rfl)
              try simp only [Act.put, List.getElem_toArray, List.getElem_cons_zero, List.getElem_cons_succ, List.setIfInBounds_toArray, List.set_cons_zero, List.set_cons_succ]
              refine wpAnyH_take (i := 4) (v := ?_) rfl (by kernel_rfl) (by kernel_rfl) (by kernel_rfl) (fun _ _ _ h => h) (Or.inl ⟨by rfl, ?_⟩) hHeld ?_
              rotate_left
              · (intro w hSw; obtain ⟨q7, q8, q9, q10⟩ := hSw; clear q10; go_simp; try with_reducible rfl)
              try simp only [Act.put, List.getElem_toArray, List.getElem_cons_zero, List.getElem_cons_succ, List.setIfInBounds_toArray, List.set_cons_zero, List.set_cons_succ]
              refine wpAnyH_take (i := 5) rfl (by kernel_rfl) (by kernel_rfl) (by kernel_rfl) (fun _ _ _ h => h) (Or.inr ⟨by rfl, rfl⟩) hHeld ?_
              try simp only [Act.put, List.getElem_toArray, List.getElem_cons_zero, List.getElem_cons_succ, List.setIfInBounds_toArray, List.set_cons_zero, List.set_cons_succ]
              refine wpAnyH_take (i := 6) rfl (by kernel_rfl) (by kernel_rfl) (by kernel_rfl) (fun _ _ _ h => h) (Or.inr ⟨by rfl, rfl⟩) hHeld ?_
              try simp only [Act.put, List.getElem_toArray, List.getElem_cons_zero, List.getElem_cons_succ, List.setIfInBounds_toArray, List.set_cons_zero, List.set_cons_succ]
              refine wpAnyH_take (i := 7) rfl (by kernel_rfl) (by kernel_rfl) (by kernel_rfl) (fun _ _ _ h => h) (Or.inr ⟨by rfl, rfl⟩) hHeld ?_
              try simp only [Act.put, List.getElem_toArray, List.getElem_cons_zero, List.getElem_cons_succ, List.setIfInBounds_toArray, List.set_cons_zero, List.set_cons_succ]
              refine wpAnyH_take (i := 8) rfl (by kernel_rfl) (by kernel_rfl) (by kernel_rfl) (fun _ _ _ h => h) (Or.inr ⟨by rfl, rfl⟩) hHeld ?_
              try simp only [Act.put, List.getElem_toArray, List.getElem_cons_zero, List.getElem_cons_succ, List.setIfInBounds_toArray, List.set_cons_zero, List.set_cons_succ]
              refine wpAnyH_take (i := 9) rfl (by kernel_rfl) (by kernel_rfl) (by kernel_rfl) (fun _ _ _ h => h) (Or.inr ⟨by rfl, rfl⟩) hHeld ?_
              try simp only [Act.put, List.getElem_toArray, List.getElem_cons_zero, List.getElem_cons_succ, List.setIfInBounds_toArray, List.set_cons_zero, List.set_cons_succ]
              refine wpAnyH_take (i := 10) rfl (by kernel_rfl) (by kernel_rfl) (by kernel_rfl) (fun _ _ _ h => h) (Or.inr ⟨by rfl, rfl⟩) hHeld ?_
              try simp only [Act.put, List.getElem_toArray, List.getElem_cons_zero, List.getElem_cons_succ, List.setIfInBounds_toArray, List.set_cons_zero, List.set_cons_succ]
              refine wpAnyH_take (i := 11) rfl (by kernel_rfl) (by kernel_rfl) (by kernel_rfl) (fun _ _ _ h => h) (Or.inr ⟨by rfl, rfl⟩) hHeld ?_
              try simp only [Act.put, List.getElem_toArray, List.getElem_cons_zero, List.getElem_cons_succ, List.setIfInBounds_toArray, List.set_cons_zero, List.set_cons_succ]
              refine wpAnyH_take (i := 12) rfl (by kernel_rfl) (by kernel_rfl) (by kernel_rfl) (fun _ _ _ h => h) (Or.inr ⟨by rfl, rfl⟩) hHeld ?_
              try simp only [Act.put, List.getElem_toArray, List.getElem_cons_zero, List.getElem_cons_succ, List.setIfInBounds_toArray, List.set_cons_zero, List.set_cons_succ]
              refine wpAnyH_take (i := 13) rfl (by kernel_rfl) (by kernel_rfl) (by kernel_rfl) (fun _ _ _ h => h) (Or.inr ⟨by rfl, rfl⟩) hHeld ?_
              try simp only [Act.put, List.getElem_toArray, List.getElem_cons_zero, List.getElem_cons_succ, List.setIfInBounds_toArray, List.set_cons_zero, List.set_cons_succ]
              refine wpAnyH_take (i := 14) rfl (by kernel_rfl) (by kernel_rfl) (by kernel_rfl) (fun _ _ _ h => h) (Or.inr ⟨by rfl, rfl⟩) hHeld ?_
              try simp only [Act.put, List.getElem_toArray, List.getElem_cons_zero, List.getElem_cons_succ, List.setIfInBounds_toArray, List.set_cons_zero, List.set_cons_succ]
              refine wpAnyH_take (i := 15) rfl (by kernel_rfl) (by kernel_rfl) (by kernel_rfl) (fun _ _ _ h => h) (Or.inr ⟨by rfl, rfl⟩) hHeld ?_
              try simp only [Act.put, List.getElem_toArray, List.getElem_cons_zero, List.getElem_cons_succ, List.setIfInBounds_toArray, List.set_cons_zero, List.set_cons_succ]
              refine wpAnyH_take (i := 16) (v := ?_) rfl (by kernel_rfl) (by kernel_rfl) (by kernel_rfl) (fun _ _ _ h => h) (Or.inl ⟨by rfl, ?_⟩) hHeld ?_
              rotate_left
              · (intro w hSw; obtain ⟨q7, q8, q9, q10⟩ := hSw; clear q10; go_simp; try with_reducible rfl)
              try simp only [Act.put, List.getElem_toArray, List.getElem_cons_zero, List.getElem_cons_succ, List.setIfInBounds_toArray, List.set_cons_zero, List.set_cons_succ]
              refine wpAnyH_take (i := 17) (v := ?_) rfl (by kernel_rfl) (by kernel_rfl) (by kernel_rfl) (fun _ _ _ h => h) (Or.inl ⟨by rfl, ?_⟩) hHeld ?_
              rotate_left
              · (intro w hSw; obtain ⟨q7, q8, q9, q10⟩ := hSw; clear q10; go_simp; try with_reducible rfl)
              try simp only [Act.put, List.getElem_toArray, List.getElem_cons_zero, List.getElem_cons_succ, List.setIfInBounds_toArray, List.set_cons_zero, List.set_cons_succ]
              refine wpAnyH_take (i := 18) (v := ?_) rfl (by kernel_rfl) (by kernel_rfl) (by kernel_rfl) (fun _ _ _ h => h) (Or.inl ⟨by rfl, ?_⟩) hHeld ?_
              rotate_left
              · (intro w hSw; obtain ⟨q7, q8, q9, q10⟩ := hSw; clear q10; go_simp; try with_reducible rfl)
              try simp only [Act.put, List.getElem_toArray, List.getElem_cons_zero, List.getElem_cons_succ, List.setIfInBounds_toArray, List.set_cons_zero, List.set_cons_succ]
              refine wpAnyH_take (i := 19) (v := ?_) rfl (by kernel_rfl) (by kernel_rfl) (by kernel_rfl) (fun _ _ _ h => h) (Or.inl ⟨by rfl, ?_⟩) hHeld ?_
              rotate_left
              · (intro w hSw; obtain ⟨q7, q8, q9, q10⟩ := hSw; clear q10; go_simp; try with_reducible rfl)
              try simp only [Act.put, List.getElem_toArray, List.getElem_cons_zero, List.getElem_cons_succ, List.setIfInBounds_toArray, List.set_cons_zero, List.set_cons_succ]
              refine wpAnyH_take (i := 20) (v := ?_) rfl (by kernel_rfl) (by kernel_rfl) (by kernel_rfl) (fun _ _ _ h => h) (Or.inl ⟨by rfl, ?_⟩) hHeld ?_
              rotate_left
              · (intro w hSw; obtain ⟨q7, q8, q9, q10⟩ := hSw; clear q10; go_simp; try with_reducible rfl)
              try simp only [Act.put, List.getElem_toArray, List.getElem_cons_zero, List.getElem_cons_succ, List.setIfInBounds_toArray, List.set_cons_zero, List.set_cons_succ]
              refine wpAnyH_take (i := 21) rfl (by kernel_rfl) (by kernel_rfl) (by kernel_rfl) (fun _ _ _ h => h) (yieldsIf_load_mid (by rfl) 37 _ (by rfl) (b) (o + k * 34) (by rfl) (x.cs) _ (fun W h => h.2.2.2) hu hdd hin) hHeld ?_
              try simp only [Act.put, List.getElem_toArray, List.getElem_cons_zero, List.getElem_cons_succ, List.setIfInBounds_toArray, List.set_cons_zero, List.set_cons_succ]
              refine wpAnyH_take (i := 22) (v := ?_) rfl (by kernel_rfl) (by kernel_rfl) (by kernel_rfl) (fun _ _ _ h => h) (Or.inl ⟨by rfl, ?_⟩) hHeld ?_
              rotate_left
              · (intro w hSw; obtain ⟨q7, q8, q9, q10⟩ := hSw; clear q10; go_simp; try with_reducible rfl)
              try simp only [Act.put, List.getElem_toArray, List.getElem_cons_zero, List.getElem_cons_succ, List.setIfInBounds_toArray, List.set_cons_zero, List.set_cons_succ]
              refine wpAnyH_take (i := 23) (v := ?_) rfl (by kernel_rfl) (by kernel_rfl) (by kernel_rfl) (fun _ _ _ h => h) (Or.inl ⟨by rfl, ?_⟩) hHeld ?_
              rotate_left
              · (intro w hSw; obtain ⟨q7, q8, q9, q10⟩ := hSw; clear q10; go_simp; try with_reducible rfl)
              try simp only [Act.put, List.getElem_toArray, List.getElem_cons_zero, List.getElem_cons_succ, List.setIfInBounds_toArray, List.set_cons_zero, List.set_cons_succ]
              refine wpAnyH_take (i := 24) (v := ?_) rfl (by kernel_rfl) (by kernel_rfl) (by kernel_rfl) (fun _ _ _ h => h) (Or.inl ⟨by rfl, ?_⟩) hHeld ?_
              rotate_left
              · (intro w hSw; obtain ⟨q7, q8, q9, q10⟩ := hSw; clear q10; go_simp; try with_reducible rfl)
              try simp only [Act.put, List.getElem_toArray, List.getElem_cons_zero, List.getElem_cons_succ, List.setIfInBounds_toArray, List.set_cons_zero, List.set_cons_succ]
              refine wpAnyH_ready (rs := [25]) (by kernel_rfl) (by simp) ?_
              refine AllReadyH.cons rfl (fun K hK => ?_) (AllReadyH.nil)
              go_simp
              refine (HC.out _).mono ?_; rintro e w1 ⟨rfl, hb1⟩
              have hbl : b < wr.drew.heap.size := hblt
              have HD := Lib.hid (hD.call hb1)
              go_wp2_with fail
              refine hK.out _ _ (⟨(hb1.cell (p := ⟨ga, i, none⟩) hD.lta).trans f1, (hb1.cell (p := ⟨h, i, none⟩) hD.lth).trans f2, (hb1.cell (p := ⟨b, o + k * 34 + 33, none⟩) hbl).trans f3, rangeAt_below fx (hb1.block b hbl)⟩) (fun hHeld => ?_)
              clear hK K
              try simp only [Act.put, List.getElem_toArray, List.getElem_cons_zero, List.getElem_cons_succ, List.setIfInBounds_toArray, List.set_cons_zero, List.set_cons_succ]
              refine wpAnyH_take (i := 26) (v := ?_) rfl (by kernel_rfl) (by kernel_rfl) (by kernel_rfl) (fun _ _ _ h => h) (Or.inl ⟨by rfl, ?_⟩) hHeld ?_
              rotate_left
              · (intro w hSw; obtain ⟨q7, q8, q9, q10⟩ := hSw; clear q10; go_simp; try with_reducible rfl)
              try simp only [Act.put, List.getElem_toArray, List.getElem_cons_zero, List.getElem_cons_succ, List.setIfInBounds_toArray, List.set_cons_zero, List.set_cons_succ]
              refine wpAnyH_done (by kernel_rfl) ?_ _
              clear f1 f2 f3 fx hu hdd hin hblt hb1 hbl
              have hnx1 := HNX1.out
              have hS2 := HD.out.same (N' := n1F x A (byt s) (i + 1)) (fun j hj => by
                rw [HNX.out.2.1 j]
                by_cases e : j = i + 1
                · rw [if_pos e, hnx1, e]; exact HNX.out.2.2
                · rw [if_neg e])
              have HS2 := Lib.hid hS2; clear hS2
              go_wp2_with fail
              go_roundw
              case rel => exact ⟨i + 1, hil, by go_num, HS2.out⟩
              case measure => simp [intOf]; omega
          | false =>
            cases hmny : x.many with
            | false =>
              have hnx1 := HNX.out.1
              obtain ⟨f1, f2, f3, fx, hD, hblt⟩ := HF.out
              obtain ⟨hu, hdd, hin⟩ := HUD.out
              rw [hA] at f1 hnx1
              rw [hmny] at f3 hnx1
              clear hC
              simp only [Bool.true_or, Bool.false_or, Bool.true_and, Bool.false_and, Bool.and_true, Bool.and_false] at hnx1
              clear hA hmny
              have HNX1 := Lib.hid hnx1; clear hnx1
              have HD2 := Lib.hid (And.intro f1 (And.intro f2 (And.intro f3 (And.intro fx (And.intro hD (And.intro hblt (And.intro hu (And.intro hdd hin))))))))
              clear f1 f2 f3 fx hD hblt hu hdd hin
              go_upto_region 9 with fail
              obtain ⟨f1, f2, f3, fx, hD, hblt, hu, hdd, hin⟩ := HD2.out
              refine wp_region_held_drew (S := fun W => W.cell? ⟨ga, i, none⟩ = some (.bool false) ∧ W.cell? ⟨h, i, none⟩ = some (.bool (nx1 x A (byt s) i)) ∧ W.cell? ⟨b, o + k * 34 + 33, none⟩ = some (.bool false) ∧ W.rangeAt b (o + k * 34) x.cs) (by kernel_rfl) (⟨f1, f2, f3, fx⟩) (fun hHeld => ?_)
              refine wpAnyH_take (i := 0) (v := ?_) rfl (by kernel_rfl) (by kernel_rfl) (by kernel_rfl) (fun _ _ _ h => h) (Or.inl ⟨by rfl, ?_⟩) hHeld ?_
              rotate_left
              · (intro w hSw; obtain ⟨q7, q8, q9, q10⟩ := hSw; clear q10; go_simp; try with_reducible rfl)
              try simp only [Act.put, List.getElem_toArray, List.getElem_cons_zero, List.getElem_cons_succ, List.setIfInBounds_toArray, List.set_cons_zero, List.set_cons_succ]
              refine wpAnyH_take (i := 1) (v := ?_) rfl (by kernel_rfl) (by kernel_rfl) (by kernel_rfl) (fun _ _ _ h => h) (Or.inl ⟨by rfl, ?_⟩) hHeld ?_
              rotate_left
              · (intro w hSw; obtain ⟨q7, q8, q9, q10⟩ := hSw; clear q10; go_simp; try with_reducible rfl)
              try simp only [Act.put, List.getElem_toArray, List.getElem_cons_zero, List.getElem_cons_succ, List.setIfInBounds_toArray, List.set_cons_zero, List.set_cons_succ]
              refine wpAnyH_take (i := 2) (v := ?_) rfl (by kernel_rfl) (by kernel_rfl) (by kernel_rfl) (fun _ _ _ h => h) (Or.inl ⟨by rfl, ?_⟩) hHeld ?_
              rotate_left
              · (intro w hSw; obtain ⟨q7, q8, q9, q10⟩ := hSw; clear q10; go_simp; try with_reducible rfl)
              try simp only [Act.put, List.getElem_toArray, List.getElem_cons_zero, List.getElem_cons_succ, List.setIfInBounds_toArray, List.set_cons_zero, List.set_cons_succ]
              refine wpAnyH_take (i := 3) (v := ?_) rfl (by kernel_rfl) (by kernel_rfl) (by kernel_rfl) (fun _ _ _ h => h) (Or.inl ⟨by rfl, ?_⟩) hHeld ?_
              rotate_left
              · (intro w hSw; obtain ⟨q7, q8, q9, q10⟩ := hSw; clear q10; go_simp; try with_reducible rfl)
              try simp only [Act.put, List.getElem_toArray, List.getElem_cons_zero, List.getElem_cons_succ, List.setIfInBounds_toArray, List.set_cons_zero, List.set_cons_succ]
              refine wpAnyH_take (i := 4) (v := ?_) rfl (by kernel_rfl) (by kernel_rfl) (by kernel_rfl) (fun _ _ _ h => h) (Or.inl ⟨by rfl, ?_⟩) hHeld ?_
              rotate_left
              · (intro w hSw; obtain ⟨q7, q8, q9, q10⟩ := hSw; clear q10; go_simp; try with_reducible rfl)
              try simp only [Act.put, List.getElem_toArray, List.getElem_cons_zero, List.getElem_cons_succ, List.setIfInBounds_toArray, List.set_cons_zero, List.set_cons_succ]
              refine wpAnyH_take (i := 5) (v := ?_) rfl (by kernel_rfl) (by kernel_rfl) (by kernel_rfl) (fun _ _ _ h => h) (Or.inl ⟨by rfl, ?_⟩) hHeld ?_
              rotate_left
              · (intro w hSw; obtain ⟨q7, q8, q9, q10⟩ := hSw; clear q10; go_simp; try with_reducible rfl)
              try simp only [Act.put, List.getElem_toArray, List.getElem_cons_zero, List.getElem_cons_succ, List.setIfInBounds_toArray, List.set_cons_zero, List.set_cons_succ]
              refine wpAnyH_take (i := 6) (v := ?_) rfl (by kernel_rfl) (by kernel_rfl) (by kernel_rfl) (fun _ _ _ h => h) (Or.inl ⟨by rfl, ?_⟩) hHeld ?_
              rotate_left
              · (intro w hSw; obtain ⟨q7, q8, q9, q10⟩ := hSw; clear q10; go_simp; try with_reducible rfl)
              try simp only [Act.put, List.getElem_toArray, List.getElem_cons_zero, List.getElem_cons_succ, List.setIfInBounds_toArray, List.set_cons_zero, List.set_cons_succ]
              refine wpAnyH_take (i := 7) (v := ?_) rfl (by kernel_rfl) (by kernel_rfl) (by kernel_rfl) (fun _ _ _ h => h) (Or.inl ⟨by rfl, ?_⟩) hHeld ?_
              rotate_left
              · (intro w hSw; obtain ⟨q7, q8, q9, q10⟩ := hSw; clear q10; go_simp; try with_reducible rfl)
              try simp only [Act.put, List.getElem_toArray, List.getElem_cons_zero, List.getElem_cons_succ, List.setIfInBounds_toArray, List.set_cons_zero, List.set_cons_succ]
              refine wpAnyH_take (i := 8) (v := ?_) rfl (by kernel_rfl) (by kernel_rfl) (by kernel_rfl) (fun _ _ _ h => h) (Or.inl ⟨by rfl, ?_⟩) hHeld ?_
              rotate_left
              · (intro w hSw; obtain ⟨q7, q8, q9, q10⟩ := hSw; clear q10; go_simp; try with_reducible rfl)
              try simp only [Act.put, List.getElem_toArray, List.getElem_cons_zero, List.getElem_cons_succ, List.setIfInBounds_toArray, List.set_cons_zero, List.set_cons_succ]
              refine wpAnyH_take (i := 9) (v := ?_) rfl (by kernel_rfl) (by kernel_rfl) (by kernel_rfl) (fun _ _ _ h => h) (Or.inl ⟨by rfl, ?_⟩) hHeld ?_
              rotate_left
              · (intro w hSw; obtain ⟨q7, q8, q9, q10⟩ := hSw; clear q10; go_simp; try with_reducible rfl)
              try simp only [Act.put, List.getElem_toArray, List.getElem_cons_zero, List.getElem_cons_succ, List.setIfInBounds_toArray, List.set_cons_zero, List.set_cons_succ]
              refine wpAnyH_take (i := 10) (v := ?_) rfl (by kernel_rfl) (by kernel_rfl) (by kernel_rfl) (fun _ _ _ h => h) (Or.inl ⟨by rfl, ?_⟩) hHeld ?_
              rotate_left
              · (intro w hSw; obtain ⟨q7, q8, q9, q10⟩ := hSw; clear q10; go_simp; try with_reducible rfl)
              try simp only [Act.put, List.getElem_toArray, List.getElem_cons_zero, List.getElem_cons_succ, List.setIfInBounds_toArray, List.set_cons_zero, List.set_cons_succ]
              refine wpAnyH_take (i := 11) rfl (by kernel_rfl) (by kernel_rfl) (by kernel_rfl) (fun _ _ _ h => h) (Or.inr ⟨by rfl, rfl⟩) hHeld ?_
              try simp only [Act.put, List.getElem_toArray, List.getElem_cons_zero, List.getElem_cons_succ, List.setIfInBounds_toArray, List.set_cons_zero, List.set_cons_succ]
              refine wpAnyH_take (i := 12) rfl (by kernel_rfl) (by kernel_rfl) (by kernel_rfl) (fun _ _ _ h => h) (Or.inr ⟨by rfl, rfl⟩) hHeld ?_
              try simp only [Act.put, List.getElem_toArray, List.getElem_cons_zero, List.getElem_cons_succ, List.setIfInBounds_toArray, List.set_cons_zero, List.set_cons_succ]
              refine wpAnyH_take (i := 13) rfl (by kernel_rfl) (by kernel_rfl) (by kernel_rfl) (fun _ _ _ h => h) (Or.inr ⟨by rfl, rfl⟩) hHeld ?_
              try simp only [Act.put, List.getElem_toArray, List.getElem_cons_zero, List.getElem_cons_succ, List.setIfInBounds_toArray, List.set_cons_zero, List.set_cons_succ]
              refine wpAnyH_take (i := 14) rfl (by kernel_rfl) (by kernel_rfl) (by kernel_rfl) (fun _ _ _ h => h) (Or.inr ⟨by rfl, rfl⟩) hHeld ?_
              try simp only [Act.put, List.getElem_toArray, List.getElem_cons_zero, List.getElem_cons_succ, List.setIfInBounds_toArray, List.set_cons_zero, List.set_cons_succ]
              refine wpAnyH_take (i := 15) (v := ?_) rfl (by kernel_rfl) (by kernel_rfl) (by kernel_rfl) (fun _ _ _ h => h) (Or.inl ⟨by rfl, ?_⟩) hHeld ?_
              rotate_left
              · (intro w hSw; obtain ⟨q7, q8, q9, q10⟩ := hSw; clear q10; go_simp; try with_reducible rfl)
              try simp only [Act.put, List.getElem_toArray, List.getElem_cons_zero, List.getElem_cons_succ, List.setIfInBounds_toArray, List.set_cons_zero, List.set_cons_succ]
              refine wpAnyH_take (i := 16) (v := ?_) rfl (by kernel_rfl) (by kernel_rfl) (by kernel_rfl) (fun _ _ _ h => h) (Or.inl ⟨by rfl, ?_⟩) hHeld ?_
              rotate_left
              · (intro w hSw; obtain ⟨q7, q8, q9, q10⟩ := hSw; clear q10; go_simp; try with_reducible rfl)
              try simp only [Act.put, List.getElem_toArray, List.getElem_cons_zero, List.getElem_cons_succ, List.setIfInBounds_toArray, List.set_cons_zero, List.set_cons_succ]
              refine wpAnyH_take (i := 17) (v := ?_) rfl (by kernel_rfl) (by kernel_rfl) (by kernel_rfl) (fun _ _ _ h => h) (Or.inl ⟨by rfl, ?_⟩) hHeld ?_
              rotate_left
              · (intro w hSw; obtain ⟨q7, q8, q9, q10⟩ := hSw; clear q10; go_simp; try with_reducible rfl)
              try simp only [Act.put, List.getElem_toArray, List.getElem_cons_zero, List.getElem_cons_succ, List.setIfInBounds_toArray, List.set_cons_zero, List.set_cons_succ]
              refine wpAnyH_take (i := 18) rfl (by kernel_rfl) (by kernel_rfl) (by kernel_rfl) (fun _ _ _ h => h) (Or.inr ⟨by rfl, rfl⟩) hHeld ?_
              try simp only [Act.put, List.getElem_toArray, List.getElem_cons_zero, List.getElem_cons_succ, List.setIfInBounds_toArray, List.set_cons_zero, List.set_cons_succ]
              refine wpAnyH_take (i := 19) rfl (by kernel_rfl) (by kernel_rfl) (by kernel_rfl) (fun _ _ _ h => h) (Or.inr ⟨by rfl, rfl⟩) hHeld ?_
              try simp only [Act.put, List.getElem_toArray, List.getElem_cons_zero, List.getElem_cons_succ, List.setIfInBounds_toArray, List.set_cons_zero, List.set_cons_succ]
              refine wpAnyH_take (i := 20) rfl (by kernel_rfl) (by kernel_rfl) (by kernel_rfl) (fun _ _ _ h => h) (Or.inr ⟨by rfl, rfl⟩) hHeld ?_
              try simp only [Act.put, List.getElem_toArray, List.getElem_cons_zero, List.getElem_cons_succ, List.setIfInBounds_toArray, List.set_cons_zero, List.set_cons_succ]
              refine wpAnyH_take (i := 21) rfl (by kernel_rfl) (by kernel_rfl) (by kernel_rfl) (fun _ _ _ h => h) (Or.inr ⟨by rfl, rfl⟩) hHeld ?_
              try simp only [Act.put, List.getElem_toArray, List.getElem_cons_zero, List.getElem_cons_succ, List.setIfInBounds_toArray, List.set_cons_zero, List.set_cons_succ]
              refine wpAnyH_take (i := 22) rfl (by kernel_rfl) (by kernel_rfl) (by kernel_rfl) (fun _ _ _ h => h) (Or.inr ⟨by rfl, rfl⟩) hHeld ?_
              try simp only [Act.put, List.getElem_toArray, List.getElem_cons_zero, List.getElem_cons_succ, List.setIfInBounds_toArray, List.set_cons_zero, List.set_cons_succ]
              refine wpAnyH_take (i := 23) rfl (by kernel_rfl) (by kernel_rfl) (by kernel_rfl) (fun _ _ _ h => h) (Or.inr ⟨by rfl, rfl⟩) hHeld ?_
              try simp only [Act.put, List.getElem_toArray, List.getElem_cons_zero, List.getElem_cons_succ, List.setIfInBounds_toArray, List.set_cons_zero, List.set_cons_succ]
              refine wpAnyH_take (i := 24) rfl (by kernel_rfl) (by kernel_rfl) (by kernel_rfl) (fun _ _ _ h => h) (Or.inr ⟨by rfl, rfl⟩) hHeld ?_
              try simp only [Act.put, List.getElem_toArray, List.getElem_cons_zero, List.getElem_cons_succ, List.setIfInBounds_toArray, List.set_cons_zero, List.set_cons_succ]
              refine wpAnyH_take (i := 25) rfl (by kernel_rfl) (by kernel_rfl) (by kernel_rfl) (fun _ _ _ h => h) (Or.inr ⟨by rfl, rfl⟩) hHeld ?_
              try simp only [Act.put, List.getElem_toArray, List.getElem_cons_zero, List.getElem_cons_succ, List.setIfInBounds_toArray, List.set_cons_zero, List.set_cons_succ]
              have HD := Lib.hid hD
              refine wpAnyH_take (i := 26) (v := ?_) rfl (by kernel_rfl) (by kernel_rfl) (by kernel_rfl) (fun _ _ _ h => h) (Or.inl ⟨by rfl, ?_⟩) hHeld ?_
              rotate_left
              · (intro w hSw; obtain ⟨q7, q8, q9, q10⟩ := hSw; clear q10; go_simp; try with_reducible rfl)
              try simp only [Act.put, List.getElem_toArray, List.getElem_cons_zero, List.getElem_cons_succ, List.setIfInBounds_toArray, List.set_cons_zero, List.set_cons_succ]
              refine wpAnyH_done (by kernel_rfl) ?_ _
              clear f1 f2 f3 fx hu hdd hin hblt
              have hnx1 := HNX1.out
              have hS2 := HD.out.same (N' := n1F x A (byt s) (i + 1)) (fun j hj => by
                rw [HNX.out.2.1 j]
                by_cases e : j = i + 1
                · rw [if_pos e, hnx1, e]; exact HNX.out.2.2
                · rw [if_neg e])
              have HS2 := Lib.hid hS2; clear hS2
              go_wp2_with fail
              go_roundw
              case rel => exact ⟨i + 1, hil, by go_num, HS2.out⟩
              case measure => simp [intOf]; omega
            | true =>
              cases hni : nx1 x A (byt s) i with
              | false =>
                have hnx1 := HNX.out.1
                obtain ⟨f1, f2, f3, fx, hD, hblt⟩ := HF.out
                obtain ⟨hu, hdd, hin⟩ := HUD.out
                rw [hA] at f1 hnx1
                rw [hmny] at f3 hnx1
                rw [hni] at f2 hnx1
                clear hC
                simp only [Bool.true_or, Bool.false_or, Bool.true_and, Bool.false_and, Bool.and_true, Bool.and_false] at hnx1
                clear hA hmny hni
                have HNX1 := Lib.hid hnx1; clear hnx1
                have HD2 := Lib.hid (And.intro f1 (And.intro f2 (And.intro f3 (And.intro fx (And.intro hD (And.intro hblt (And.intro hu (And.intro hdd hin))))))))
                clear f1 f2 f3 fx hD hblt hu hdd hin
                go_upto_region 9 with fail
                obtain ⟨f1, f2, f3, fx, hD, hblt, hu, hdd, hin⟩ := HD2.out
                refine wp_region_held_drew (S := fun W => W.cell? ⟨ga, i, none⟩ = some (.bool false) ∧ W.cell? ⟨h, i, none⟩ = some (.bool false) ∧ W.cell? ⟨b, o + k * 34 + 33, none⟩ = some (.bool true) ∧ W.rangeAt b (o + k * 34) x.cs) (by kernel_rfl) (⟨f1, f2, f3, fx⟩) (fun hHeld => ?_)
                refine wpAnyH_take (i := 0) (v := ?_) rfl (by kernel_rfl) (by kernel_rfl) (by kernel_rfl) (fun _ _ _ h => h) (Or.inl ⟨by rfl, ?_⟩) hHeld ?_
                rotate_left
                · (intro w hSw; obtain ⟨q7, q8, q9, q10⟩ := hSw; clear q10; go_simp; try with_reducible rfl)
                try simp only [Act.put, List.getElem_toArray, List.getElem_cons_zero, List.getElem_cons_succ, List.setIfInBounds_toArray, List.set_cons_zero, List.set_cons_succ]
                refine wpAnyH_take (i := 1) (v := ?_) rfl (by kernel_rfl) (by kernel_rfl) (by kernel_rfl) (fun _ _ _ h => h) (Or.inl ⟨by rfl, ?_⟩) hHeld ?_
                rotate_left
                · (intro w hSw; obtain ⟨q7, q8, q9, q10⟩ := hSw; clear q10; go_simp; try with_reducible rfl)
                try simp only [Act.put, List.getElem_toArray, List.getElem_cons_zero, List.getElem_cons_succ, List.setIfInBounds_toArray, List.set_cons_zero, List.set_cons_succ]
                refine wpAnyH_take (i := 2) (v := ?_) rfl (by kernel_rfl) (by kernel_rfl) (by kernel_rfl) (fun _ _ _ h => h) (Or.inl ⟨by rfl, ?_⟩) hHeld ?_
                rotate_left
                · (intro w hSw; obtain ⟨q7, q8, q9, q10⟩ := hSw; clear q10; go_simp; try with_reducible rfl)
                try simp only [Act.put, List.getElem_toArray, List.getElem_cons_zero, List.getElem_cons_succ, List.setIfInBounds_toArray, List.set_cons_zero, List.set_cons_succ]
                refine wpAnyH_take (i := 3) (v := ?_) rfl (by kernel_rfl) (by kernel_rfl) (by kernel_rfl) (fun _ _ _ h => h) (Or.inl ⟨by rfl, ?_⟩) hHeld ?_
                rotate_left
                · (intro w hSw; obtain ⟨q7, q8, q9, q10⟩ := hSw; clear q10; go_simp; try with_reducible rfl)
                try simp only [Act.put, List.getElem_toArray, List.getElem_cons_zero, List.getElem_cons_succ, List.setIfInBounds_toArray, List.set_cons_zero, List.set_cons_succ]
                refine wpAnyH_take (i := 4) (v := ?_) rfl (by kernel_rfl) (by kernel_rfl) (by kernel_rfl) (fun _ _ _ h => h) (Or.inl ⟨by rfl, ?_⟩) hHeld ?_
                rotate_left
                · (intro w hSw; obtain ⟨q7, q8, q9, q10⟩ := hSw; clear q10; go_simp; try with_reducible rfl)
                try simp only [Act.put, List.getElem_toArray, List.getElem_cons_zero, List.getElem_cons_succ, List.setIfInBounds_toArray, List.set_cons_zero, List.set_cons_succ]
                refine wpAnyH_take (i := 5) (v := ?_) rfl (by kernel_rfl) (by kernel_rfl) (by kernel_rfl) (fun _ _ _ h => h) (Or.inl ⟨by rfl, ?_⟩) hHeld ?_
                rotate_left
                · (intro w hSw; obtain ⟨q7, q8, q9, q10⟩ := hSw; clear q10; go_simp; try with_reducible rfl)
                try simp only [Act.put, List.getElem_toArray, List.getElem_cons_zero, List.getElem_cons_succ, List.setIfInBounds_toArray, List.set_cons_zero, List.set_cons_succ]
                refine wpAnyH_take (i := 6) (v := ?_) rfl (by kernel_rfl) (by kernel_rfl) (by kernel_rfl) (fun _ _ _ h => h) (Or.inl ⟨by rfl, ?_⟩) hHeld ?_
                rotate_left
                · (intro w hSw; obtain ⟨q7, q8, q9, q10⟩ := hSw; clear q10; go_simp; try with_reducible rfl)
                try simp only [Act.put, List.getElem_toArray, List.getElem_cons_zero, List.getElem_cons_succ, List.setIfInBounds_toArray, List.set_cons_zero, List.set_cons_succ]
                refine wpAnyH_take (i := 7) (v := ?_) rfl (by kernel_rfl) (by kernel_rfl) (by kernel_rfl) (fun _ _ _ h => h) (Or.inl ⟨by rfl, ?_⟩) hHeld ?_
                rotate_left
                · (intro w hSw; obtain ⟨q7, q8, q9, q10⟩ := hSw; clear q10; go_simp; try with_reducible rfl)
                try simp only [Act.put, List.getElem_toArray, List.getElem_cons_zero, List.getElem_cons_succ, List.setIfInBounds_toArray, List.set_cons_zero, List.set_cons_succ]
                refine wpAnyH_take (i := 8) (v := ?_) rfl (by kernel_rfl) (by kernel_rfl) (by kernel_rfl) (fun _ _ _ h => h) (Or.inl ⟨by rfl, ?_⟩) hHeld ?_
                rotate_left
                · (intro w hSw; obtain ⟨q7, q8, q9, q10⟩ := hSw; clear q10; go_simp; try with_reducible rfl)
                try simp only [Act.put, List.getElem_toArray, List.getElem_cons_zero, List.getElem_cons_succ, List.setIfInBounds_toArray, List.set_cons_zero, List.set_cons_succ]
                refine wpAnyH_take (i := 9) (v := ?_) rfl (by kernel_rfl) (by kernel_rfl) (by kernel_rfl) (fun _ _ _ h => h) (Or.inl ⟨by rfl, ?_⟩) hHeld ?_
                rotate_left
                · (intro w hSw; obtain ⟨q7, q8, q9, q10⟩ := hSw; clear q10; go_simp; try with_reducible rfl)
                try simp only [Act.put, List.getElem_toArray, List.getElem_cons_zero, List.getElem_cons_succ, List.setIfInBounds_toArray, List.set_cons_zero, List.set_cons_succ]
                refine wpAnyH_take (i := 10) (v := ?_) rfl (by kernel_rfl) (by kernel_rfl) (by kernel_rfl) (fun _ _ _ h => h) (Or.inl ⟨by rfl, ?_⟩) hHeld ?_
                rotate_left
                · (intro w hSw; obtain ⟨q7, q8, q9, q10⟩ := hSw; clear q10; go_simp; try with_reducible rfl)
                try simp only [Act.put, List.getElem_toArray, List.getElem_cons_zero, List.getElem_cons_succ, List.setIfInBounds_toArray, List.set_cons_zero, List.set_cons_succ]
                refine wpAnyH_take (i := 11) (v := ?_) rfl (by kernel_rfl) (by kernel_rfl) (by kernel_rfl) (fun _ _ _ h => h) (Or.inl ⟨by rfl, ?_⟩) hHeld ?_
                rotate_left
                · (intro w hSw; obtain ⟨q7, q8, q9, q10⟩ := hSw; clear q10; go_simp; try with_reducible rfl)
                try simp only [Act.put, List.getElem_toArray, List.getElem_cons_zero, List.getElem_cons_succ, List.setIfInBounds_toArray, List.set_cons_zero, List.set_cons_succ]
                refine wpAnyH_take (i := 12) (v := ?_) rfl (by kernel_rfl) (by kernel_rfl) (by kernel_rfl) (fun _ _ _ h => h) (Or.inl ⟨by rfl, ?_⟩) hHeld ?_
                rotate_left
                · (intro w hSw; obtain ⟨q7, q8, q9, q10⟩ := hSw; clear q10; go_simp; try with_reducible rfl)
                try simp only [Act.put, List.getElem_toArray, List.getElem_cons_zero, List.getElem_cons_succ, List.setIfInBounds_toArray, List.set_cons_zero, List.set_cons_succ]
                refine wpAnyH_take (i := 13) (v := ?_) rfl (by kernel_rfl) (by kernel_rfl) (by kernel_rfl) (fun _ _ _ h => h) (Or.inl ⟨by rfl, ?_⟩) hHeld ?_
                rotate_left
                · (intro w hSw; obtain ⟨q7, q8, q9, q10⟩ := hSw; clear q10; go_simp; try with_reducible rfl)
                try simp only [Act.put, List.getElem_toArray, List.getElem_cons_zero, List.getElem_cons_succ, List.setIfInBounds_toArray, List.set_cons_zero, List.set_cons_succ]
                refine wpAnyH_take (i := 14) (v := ?_) rfl (by kernel_rfl) (by kernel_rfl) (by kernel_rfl) (fun _ _ _ h => h) (Or.inl ⟨by rfl, ?_⟩) hHeld ?_
                rotate_left
                · (intro w hSw; obtain ⟨q7, q8, q9, q10⟩ := hSw; clear q10; go_simp; try with_reducible rfl)
                try simp only [Act.put, List.getElem_toArray, List.getElem_cons_zero, List.getElem_cons_succ, List.setIfInBounds_toArray, List.set_cons_zero, List.set_cons_succ]
                refine wpAnyH_take (i := 15) (v := ?_) rfl (by kernel_rfl) (by kernel_rfl) (by kernel_rfl) (fun _ _ _ h => h) (Or.inl ⟨by rfl, ?_⟩) hHeld ?_
                rotate_left
                · (intro w hSw; obtain ⟨q7, q8, q9, q10⟩ := hSw; clear q10; go_simp; try with_reducible rfl)
                try simp only [Act.put, List.getElem_toArray, List.getElem_cons_zero, List.getElem_cons_succ, List.setIfInBounds_toArray, List.set_cons_zero, List.set_cons_succ]
                refine wpAnyH_take (i := 16) (v := ?_) rfl (by kernel_rfl) (by kernel_rfl) (by kernel_rfl) (fun _ _ _ h => h) (Or.inl ⟨by rfl, ?_⟩) hHeld ?_
                rotate_left
                · (intro w hSw; obtain ⟨q7, q8, q9, q10⟩ := hSw; clear q10; go_simp; try with_reducible rfl)
                try simp only [Act.put, List.getElem_toArray, List.getElem_cons_zero, List.getElem_cons_succ, List.setIfInBounds_toArray, List.set_cons_zero, List.set_cons_succ]
                refine wpAnyH_take (i := 17) (v := ?_) rfl (by kernel_rfl) (by kernel_rfl) (by kernel_rfl) (fun _ _ _ h => h) (Or.inl ⟨by rfl, ?_⟩) hHeld ?_
                rotate_left
                · (intro w hSw; obtain ⟨q7, q8, q9, q10⟩ := hSw; clear q10; go_simp; try with_reducible rfl)
                try simp only [Act.put, List.getElem_toArray, List.getElem_cons_zero, List.getElem_cons_succ, List.setIfInBounds_toArray, List.set_cons_zero, List.set_cons_succ]
                refine wpAnyH_take (i := 18) rfl (by kernel_rfl) (by kernel_rfl) (by kernel_rfl) (fun _ _ _ h => h) (Or.inr ⟨by rfl, rfl⟩) hHeld ?_
                try simp only [Act.put, List.getElem_toArray, List.getElem_cons_zero, List.getElem_cons_succ, List.setIfInBounds_toArray, List.set_cons_zero, List.set_cons_succ]
                refine wpAnyH_take (i := 19) rfl (by kernel_rfl) (by kernel_rfl) (by kernel_rfl) (fun _ _ _ h => h) (Or.inr ⟨by rfl, rfl⟩) hHeld ?_
                try simp only [Act.put, List.getElem_toArray, List.getElem_cons_zero, List.getElem_cons_succ, List.setIfInBounds_toArray, List.set_cons_zero, List.set_cons_succ]
                refine wpAnyH_take (i := 20) rfl (by kernel_rfl) (by kernel_rfl) (by kernel_rfl) (fun _ _ _ h => h) (Or.inr ⟨by rfl, rfl⟩) hHeld ?_
                try simp only [Act.put, List.getElem_toArray, List.getElem_cons_zero, List.getElem_cons_succ, List.setIfInBounds_toArray, List.set_cons_zero, List.set_cons_succ]
                refine wpAnyH_take (i := 21) rfl (by kernel_rfl) (by kernel_rfl) (by kernel_rfl) (fun _ _ _ h => h) (Or.inr ⟨by rfl, rfl⟩) hHeld ?_
                try simp only [Act.put, List.getElem_toArray, List.getElem_cons_zero, List.getElem_cons_succ, List.setIfInBounds_toArray, List.set_cons_zero, List.set_cons_succ]
                refine wpAnyH_take (i := 22) rfl (by kernel_rfl) (by kernel_rfl) (by kernel_rfl) (fun _ _ _ h => h) (Or.inr ⟨by rfl, rfl⟩) hHeld ?_
                try simp only [Act.put, List.getElem_toArray, List.getElem_cons_zero, List.getElem_cons_succ, List.setIfInBounds_toArray, List.set_cons_zero, List.set_cons_succ]
                refine wpAnyH_take (i := 23) rfl (by kernel_rfl) (by kernel_rfl) (by kernel_rfl) (fun _ _ _ h => h) (Or.inr ⟨by rfl, rfl⟩) hHeld ?_
                try simp only [Act.put, List.getElem_toArray, List.getElem_cons_zero, List.getElem_cons_succ, List.setIfInBounds_toArray, List.set_cons_zero, List.set_cons_succ]
                refine wpAnyH_take (i := 24) rfl (by kernel_rfl) (by kernel_rfl) (by kernel_rfl) (fun _ _ _ h => h) (Or.inr ⟨by rfl, rfl⟩) hHeld ?_
                try simp only [Act.put, List.getElem_toArray, List.getElem_cons_zero, List.getElem_cons_succ, List.setIfInBounds_toArray, List.set_cons_zero, List.set_cons_succ]
                refine wpAnyH_take (i := 25) rfl (by kernel_rfl) (by kernel_rfl) (by kernel_rfl) (fun _ _ _ h => h) (Or.inr ⟨by rfl, rfl⟩) hHeld ?_
                try simp only [Act.put, List.getElem_toArray, List.getElem_cons_zero, List.getElem_cons_succ, List.setIfInBounds_toArray, List.set_cons_zero, List.set_cons_succ]
                have HD := Lib.hid hD
                refine wpAnyH_take (i := 26) (v := ?_) rfl (by kernel_rfl) (by kernel_rfl) (by kernel_rfl) (fun _ _ _ h => h) (Or.inl ⟨by rfl, ?_⟩) hHeld ?_
                rotate_left
                · (intro w hSw; obtain ⟨q7, q8, q9, q10⟩ := hSw; clear q10; go_simp; try with_reducible rfl)
                try simp only [Act.put, List.getElem_toArray, List.getElem_cons_zero, List.getElem_cons_succ, List.setIfInBounds_toArray, List.set_cons_zero, List.set_cons_succ]
                refine wpAnyH_done (by kernel_rfl) ?_ _
                clear f1 f2 f3 fx hu hdd hin hblt
                have hnx1 := HNX1.out
                have hS2 := HD.out.same (N' := n1F x A (byt s) (i + 1)) (fun j hj => by
                  rw [HNX.out.2.1 j]
                  by_cases e : j = i + 1
                  · rw [if_pos e, hnx1, e]; exact HNX.out.2.2
                  · rw [if_neg e])
                have HS2 := Lib.hid hS2; clear hS2
                go_wp2_with fail
                go_roundw
                case rel => exact ⟨i + 1, hil, by go_num, HS2.out⟩
                case measure => simp [intOf]; omega
              | true =>
                cases hsb : x.s (s[i]'hil).toNat with
                | true =>
                  have hnx1 := HNX.out.1
                  obtain ⟨f1, f2, f3, fx, hD, hblt⟩ := HF.out
                  obtain ⟨hu, hdd, hin⟩ := HUD.out
                  rw [hA] at f1 hnx1
                  rw [hmny] at f3 hnx1
                  rw [hni] at f2 hnx1
                  rw [hsb] at hC hnx1
                  have HC := Lib.hid hC; clear hC
                  simp only [Bool.true_or, Bool.false_or, Bool.true_and, Bool.false_and, Bool.and_true, Bool.and_false] at hnx1
                  clear hA hmny hni hsb
                  have HNX1 := Lib.hid hnx1; clear hnx1
                  have HD2 := Lib.hid (And.intro f1 (And.intro f2 (And.intro f3 (And.intro fx (And.intro hD (And.intro hblt (And.intro hu (And.intro hdd hin))))))))
                  clear f1 f2 f3 fx hD hblt hu hdd hin
                  go_upto_region 9 with fail
                  obtain ⟨f1, f2, f3, fx, hD, hblt, hu, hdd, hin⟩ := HD2.out
                  refine wp_region_held_drew (S := fun W => W.cell? ⟨ga, i, none⟩ = some (.bool false) ∧ W.cell? ⟨h, i, none⟩ = some (.bool true) ∧ W.cell? ⟨b, o + k * 34 + 33, none⟩ = some (.bool true) ∧ W.rangeAt b (o + k * 34) x.cs) (by kernel_rfl) (⟨f1, f2, f3, fx⟩) (fun hHeld => ?_)
                  refine wpAnyH_take (i := 0) (v := ?_) rfl (by kernel_rfl) (by kernel_rfl) (by kernel_rfl) (fun _ _ _ h => h) (Or.inl ⟨by rfl, ?_⟩) hHeld ?_
                  rotate_left
                  · (intro w hSw; obtain ⟨q7, q8, q9, q10⟩ := hSw; clear q10; go_simp; try with_reducible rfl)
                  try simp only [Act.put, List.getElem_toArray, List.getElem_cons_zero, List.getElem_cons_succ, List.setIfInBounds_toArray, List.set_cons_zero, List.set_cons_succ]
                  refine wpAnyH_take (i := 1) (v := ?_) rfl (by kernel_rfl) (by kernel_rfl) (by kernel_rfl) (fun _ _ _ h => h) (Or.inl ⟨by rfl, ?_⟩) hHeld ?_
                  rotate_left
                  · (intro w hSw; obtain ⟨q7, q8, q9, q10⟩ := hSw; clear q10; go_simp; try with_reducible rfl)
                  try simp only [Act.put, List.getElem_toArray, List.getElem_cons_zero, List.getElem_cons_succ, List.setIfInBounds_toArray, List.set_cons_zero, List.set_cons_succ]
                  refine wpAnyH_take (i := 2) (v := ?_) rfl (by kernel_rfl) (by kernel_rfl) (by kernel_rfl) (fun _ _ _ h => h) (Or.inl ⟨by rfl, ?_⟩) hHeld ?_
                  rotate_left
                  · (intro w hSw; obtain ⟨q7, q8, q9, q10⟩ := hSw; clear q10; go_simp; try with_reducible rfl)
                  try simp only [Act.put, List.getElem_toArray, List.getElem_cons_zero, List.getElem_cons_succ, List.setIfInBounds_toArray, List.set_cons_zero, List.set_cons_succ]
                  refine wpAnyH_take (i := 3) (v := ?_) rfl (by kernel_rfl) (by kernel_rfl) (by kernel_rfl) (fun _ _ _ h => h) (Or.inl ⟨by rfl, ?_⟩) hHeld ?_
                  rotate_left
                  · (intro w hSw; obtain ⟨q7, q8, q9, q10⟩ := hSw; clear q10; go_simp; try with_reducible rfl)
                  try simp only [Act.put, List.getElem_toArray, List.getElem_cons_zero, List.getElem_cons_succ, List.setIfInBounds_toArray, List.set_cons_zero, List.set_cons_succ]
                  refine wpAnyH_take (i := 4) (v := ?_) rfl (by kernel_rfl) (by kernel_rfl) (by kernel_rfl) (fun _ _ _ h => h) (Or.inl ⟨by rfl, ?_⟩) hHeld ?_
                  rotate_left
                  · (intro w hSw; obtain ⟨q7, q8, q9, q10⟩ := hSw; clear q10; go_simp; try with_reducible rfl)
                  try simp only [Act.put, List.getElem_toArray, List.getElem_cons_zero, List.getElem_cons_succ, List.setIfInBounds_toArray, List.set_cons_zero, List.set_cons_succ]
                  refine wpAnyH_take (i := 5) (v := ?_) rfl (by kernel_rfl) (by kernel_rfl) (by kernel_rfl) (fun _ _ _ h => h) (Or.inl ⟨by rfl, ?_⟩) hHeld ?_
                  rotate_left
                  · (intro w hSw; obtain ⟨q7, q8, q9, q10⟩ := hSw; clear q10; go_simp; try with_reducible rfl)
                  try simp only [Act.put, List.getElem_toArray, List.getElem_cons_zero, List.getElem_cons_succ, List.setIfInBounds_toArray, List.set_cons_zero, List.set_cons_succ]
                  refine wpAnyH_take (i := 6) (v := ?_) rfl (by kernel_rfl) (by kernel_rfl) (by kernel_rfl) (fun _ _ _ h => h) (Or.inl ⟨by rfl, ?_⟩) hHeld ?_
                  rotate_left
                  · (intro w hSw; obtain ⟨q7, q8, q9, q10⟩ := hSw; clear q10; go_simp; try with_reducible rfl)
                  try simp only [Act.put, List.getElem_toArray, List.getElem_cons_zero, List.getElem_cons_succ, List.setIfInBounds_toArray, List.set_cons_zero, List.set_cons_succ]
                  refine wpAnyH_take (i := 7) (v := ?_) rfl (by kernel_rfl) (by kernel_rfl) (by kernel_rfl) (fun _ _ _ h => h) (Or.inl ⟨by rfl, ?_⟩) hHeld ?_
                  rotate_left
                  · (intro w hSw; obtain ⟨q7, q8, q9, q10⟩ := hSw; clear q10; go_simp; try with_reducible rfl)
                  try simp only [Act.put, List.getElem_toArray, List.getElem_cons_zero, List.getElem_cons_succ, List.setIfInBounds_toArray, List.set_cons_zero, List.set_cons_succ]
                  refine wpAnyH_take (i := 8) (v := ?_) rfl (by kernel_rfl) (by kernel_rfl) (by kernel_rfl) (fun _ _ _ h => h) (Or.inl ⟨by rfl, ?_⟩) hHeld ?_
                  rotate_left
                  · (intro w hSw; obtain ⟨q7, q8, q9, q10⟩ := hSw; clear q10; go_simp; try with_reducible rfl)
                  try simp only [Act.put, List.getElem_toArray, List.getElem_cons_zero, List.getElem_cons_succ, List.setIfInBounds_toArray, List.set_cons_zero, List.set_cons_succ]
                  refine wpAnyH_take (i := 9) (v := ?_) rfl (by kernel_rfl) (by kernel_rfl) (by kernel_rfl) (fun _ _ _ h => h) (Or.inl ⟨by rfl, ?_⟩) hHeld ?_
                  rotate_left
                  · (intro w hSw; obtain ⟨q7, q8, q9, q10⟩ := hSw; clear q10; go_simp; try with_reducible rfl)
                  try simp only [Act.put, List.getElem_toArray, List.getElem_cons_zero, List.getElem_cons_succ, List.setIfInBounds_toArray, List.set_cons_zero, List.set_cons_succ]
                  refine wpAnyH_take (i := 10) (v := ?_) rfl (by kernel_rfl) (by kernel_rfl) (by kernel_rfl) (fun _ _ _ h => h) (Or.inl ⟨by rfl, ?_⟩) hHeld ?_
                  rotate_left
                  · (intro w hSw; obtain ⟨q7, q8, q9, q10⟩ := hSw; clear q10; go_simp; try with_reducible rfl)
                  try simp only [Act.put, List.getElem_toArray, List.getElem_cons_zero, List.getElem_cons_succ, List.setIfInBounds_toArray, List.set_cons_zero, List.set_cons_succ]
                  refine wpAnyH_take (i := 11) (v := ?_) rfl (by kernel_rfl) (by kernel_rfl) (by kernel_rfl) (fun _ _ _ h => h) (Or.inl ⟨by rfl, ?_⟩) hHeld ?_
                  rotate_left
                  · (intro w hSw; obtain ⟨q7, q8, q9, q10⟩ := hSw; clear q10; go_simp; try with_reducible rfl)
                  try simp only [Act.put, List.getElem_toArray, List.getElem_cons_zero, List.getElem_cons_succ, List.setIfInBounds_toArray, List.set_cons_zero, List.set_cons_succ]
                  refine wpAnyH_take (i := 12) (v := ?_) rfl (by kernel_rfl) (by kernel_rfl) (by kernel_rfl) (fun _ _ _ h => h) (Or.inl ⟨by rfl, ?_⟩) hHeld ?_
                  rotate_left
                  · (intro w hSw; obtain ⟨q7, q8, q9, q10⟩ := hSw; clear q10; go_simp; try with_reducible rfl)
                  try simp only [Act.put, List.getElem_toArray, List.getElem_cons_zero, List.getElem_cons_succ, List.setIfInBounds_toArray, List.set_cons_zero, List.set_cons_succ]
                  refine wpAnyH_take (i := 13) (v := ?_) rfl (by kernel_rfl) (by kernel_rfl) (by kernel_rfl) (fun _ _ _ h => h) (Or.inl ⟨by rfl, ?_⟩) hHeld ?_
                  rotate_left
                  · (intro w hSw; obtain ⟨q7, q8, q9, q10⟩ := hSw; clear q10; go_simp; try with_reducible rfl)
                  try simp only [Act.put, List.getElem_toArray, List.getElem_cons_zero, List.getElem_cons_succ, List.setIfInBounds_toArray, List.set_cons_zero, List.set_cons_succ]
                  refine wpAnyH_take (i := 14) (v := ?_) rfl (by kernel_rfl) (by kernel_rfl) (by kernel_rfl) (fun _ _ _ h => h) (Or.inl ⟨by rfl, ?_⟩) hHeld ?_
                  rotate_left
                  · (intro w hSw; obtain ⟨q7, q8, q9, q10⟩ := hSw; clear q10; go_simp; try with_reducible rfl)
                  try simp only [Act.put, List.getElem_toArray, List.getElem_cons_zero, List.getElem_cons_succ, List.setIfInBounds_toArray, List.set_cons_zero, List.set_cons_succ]
                  refine wpAnyH_take (i := 15) (v := ?_) rfl (by kernel_rfl) (by kernel_rfl) (by kernel_rfl) (fun _ _ _ h => h) (Or.inl ⟨by rfl, ?_⟩) hHeld ?_
                  rotate_left
                  · (intro w hSw; obtain ⟨q7, q8, q9, q10⟩ := hSw; clear q10; go_simp; try with_reducible rfl)
                  try simp only [Act.put, List.getElem_toArray, List.getElem_cons_zero, List.getElem_cons_succ, List.setIfInBounds_toArray, List.set_cons_zero, List.set_cons_succ]
                  refine wpAnyH_take (i := 16) (v := ?_) rfl (by kernel_rfl) (by kernel_rfl) (by kernel_rfl) (fun _ _ _ h => h) (Or.inl ⟨by rfl, ?_⟩) hHeld ?_
                  rotate_left
                  · (intro w hSw; obtain ⟨q7, q8, q9, q10⟩ := hSw; clear q10; go_simp; try with_reducible rfl)
                  try simp only [Act.put, List.getElem_toArray, List.getElem_cons_zero, List.getElem_cons_succ, List.setIfInBounds_toArray, List.set_cons_zero, List.set_cons_succ]
                  refine wpAnyH_take (i := 17) (v := ?_) rfl (by kernel_rfl) (by kernel_rfl) (by kernel_rfl) (fun _ _ _ h => h) (Or.inl ⟨by rfl, ?_⟩) hHeld ?_
                  rotate_left
                  · (intro w hSw; obtain ⟨q7, q8, q9, q10⟩ := hSw; clear q10; go_simp; try with_reducible rfl)
                  try simp only [Act.put, List.getElem_toArray, List.getElem_cons_zero, List.getElem_cons_succ, List.setIfInBounds_toArray, List.set_cons_zero, List.set_cons_succ]
                  refine wpAnyH_take (i := 18) (v := ?_) rfl (by kernel_rfl) (by kernel_rfl) (by kernel_rfl) (fun _ _ _ h => h) (Or.inl ⟨by rfl, ?_⟩) hHeld ?_
                  rotate_left
                  · (intro w hSw; obtain ⟨q7, q8, q9, q10⟩ := hSw; clear q10; go_simp; try with_reducible rfl)
                  try simp only [Act.put, List.getElem_toArray, List.getElem_cons_zero, List.getElem_cons_succ, List.setIfInBounds_toArray, List.set_cons_zero, List.set_cons_succ]
                  refine wpAnyH_take (i := 19) (v := ?_) rfl (by kernel_rfl) (by kernel_rfl) (by kernel_rfl) (fun _ _ _ h => h) (Or.inl ⟨by rfl, ?_⟩) hHeld ?_
                  rotate_left
                  · (intro w hSw; obtain ⟨q7, q8, q9, q10⟩ := hSw; clear q10; go_simp; try with_reducible rfl)
                  try simp only [Act.put, List.getElem_toArray, List.getElem_cons_zero, List.getElem_cons_succ, List.setIfInBounds_toArray, List.set_cons_zero, List.set_cons_succ]
                  refine wpAnyH_take (i := 20) (v := ?_) rfl (by kernel_rfl) (by kernel_rfl) (by kernel_rfl) (fun _ _ _ h => h) (Or.inl ⟨by rfl, ?_⟩) hHeld ?_
                  rotate_left
                  · (intro w hSw; obtain ⟨q7, q8, q9, q10⟩ := hSw; clear q10; go_simp; try with_reducible rfl)
                  try simp only [Act.put, List.getElem_toArray, List.getElem_cons_zero, List.getElem_cons_succ, List.setIfInBounds_toArray, List.set_cons_zero, List.set_cons_succ]
                  refine wpAnyH_take (i := 21) rfl (by kernel_rfl) (by kernel_rfl) (by kernel_rfl) (fun _ _ _ h => h) (yieldsIf_load_mid (by rfl) 37 _ (by rfl) (b) (o + k * 34) (by rfl) (x.cs) _ (fun W h => h.2.2.2) hu hdd hin) hHeld ?_
                  try simp only [Act.put, List.getElem_toArray, List.getElem_cons_zero, List.getElem_cons_succ, List.setIfInBounds_toArray, List.set_cons_zero, List.set_cons_succ]
                  refine wpAnyH_take (i := 22) (v := ?_) rfl (by kernel_rfl) (by kernel_rfl) (by kernel_rfl) (fun _ _ _ h => h) (Or.inl ⟨by rfl, ?_⟩) hHeld ?_
                  rotate_left
                  · (intro w hSw; obtain ⟨q7, q8, q9, q10⟩ := hSw; clear q10; go_simp; try with_reducible rfl)
                  try simp only [Act.put, List.getElem_toArray, List.getElem_cons_zero, List.getElem_cons_succ, List.setIfInBounds_toArray, List.set_cons_zero, List.set_cons_succ]
                  refine wpAnyH_take (i := 23) (v := ?_) rfl (by kernel_rfl) (by kernel_rfl) (by kernel_rfl) (fun _ _ _ h => h) (Or.inl ⟨by rfl, ?_⟩) hHeld ?_
                  rotate_left
                  · (intro w hSw; obtain ⟨q7, q8, q9, q10⟩ := hSw; clear q10; go_simp; try with_reducible rfl)
                  try simp only [Act.put, List.getElem_toArray, List.getElem_cons_zero, List.getElem_cons_succ, List.setIfInBounds_toArray, List.set_cons_zero, List.set_cons_succ]
                  refine wpAnyH_take (i := 24) (v := ?_) rfl (by kernel_rfl) (by kernel_rfl) (by kernel_rfl) (fun _ _ _ h => h) (Or.inl ⟨by rfl, ?_⟩) hHeld ?_
                  rotate_left
                  · (intro w hSw; obtain ⟨q7, q8, q9, q10⟩ := hSw; clear q10; go_simp; try with_reducible rfl)
                  try simp only [Act.put, List.getElem_toArray, List.getElem_cons_zero, List.getElem_cons_succ, List.setIfInBounds_toArray, List.set_cons_zero, List.set_cons_succ]
                  refine wpAnyH_ready (rs := [25]) (by kernel_rfl) (by simp) ?_
                  refine AllReadyH.cons rfl (fun K hK => ?_) (AllReadyH.nil)
                  go_simp
                  refine (HC.out _).mono ?_; rintro e w1 ⟨rfl, hb1⟩
                  have hbl : b < wr.drew.heap.size := hblt
                  have HD := Lib.hid (hD.call hb1)
                  go_wp2_with fail
                  refine hK.out _ _ (⟨(hb1.cell (p := ⟨ga, i, none⟩) hD.lta).trans f1, (hb1.cell (p := ⟨h, i, none⟩) hD.lth).trans f2, (hb1.cell (p := ⟨b, o + k * 34 + 33, none⟩) hbl).trans f3, rangeAt_below fx (hb1.block b hbl)⟩) (fun hHeld => ?_)
                  clear hK K
                  try simp only [Act.put, List.getElem_toArray, List.getElem_cons_zero, List.getElem_cons_succ, List.setIfInBounds_toArray, List.set_cons_zero, List.set_cons_succ]
                  refine wpAnyH_take (i := 26) (v := ?_) rfl (by kernel_rfl) (by kernel_rfl) (by kernel_rfl) (fun _ _ _ h => h) (Or.inl ⟨by rfl, ?_⟩) hHeld ?_
                  rotate_left
                  · (intro w hSw; obtain ⟨q7, q8, q9, q10⟩ := hSw; clear q10; go_simp; try with_reducible rfl)
                  try simp only [Act.put, List.getElem_toArray, List.getElem_cons_zero, List.getElem_cons_succ, List.setIfInBounds_toArray, List.set_cons_zero, List.set_cons_succ]
                  refine wpAnyH_done (by kernel_rfl) ?_ _
                  clear f1 f2 f3 fx hu hdd hin hblt hb1 hbl
                  have hnx1 := HNX1.out
                  have fr := Lib.frozen_of_heap HD.out.nx (i + 1)
                  have f9 := HD.out.cell (i + 1) hil
                  have hS2 := HD.out.set (N' := n1F x A (byt s) (i + 1)) (i + 1) true hil (fun j hj => by rw [HNX.out.2.1 j, hnx1])
                  have HS2 := Lib.hid hS2; clear hS2
                  have j0 : ((i : Int) + 1).toNat = i + 1 := by omega
                  go_wp2_with fail
                  go_roundw
                  case rel => exact ⟨i + 1, hil, by go_num, HS2.out⟩
                  case measure => simp [intOf]; omega
                | false =>
                  have hnx1 := HNX.out.1
                  obtain ⟨f1, f2, f3, fx, hD, hblt⟩ := HF.out
                  obtain ⟨hu, hdd, hin⟩ := HUD.out
                  rw [hA] at f1 hnx1
                  rw [hmny] at f3 hnx1
                  rw [hni] at f2 hnx1
                  rw [hsb] at hC hnx1
                  have HC := Lib.hid hC; clear hC
                  simp only [Bool.true_or, Bool.false_or, Bool.true_and, Bool.false_and, Bool.and_true, Bool.and_false] at hnx1
                  clear hA hmny hni hsb
                  have HNX1 := Lib.hid hnx1; clear hnx1
                  have HD2 := Lib.hid (And.intro f1 (And.intro f2 (And.intro f3 (And.intro fx (And.intro hD (And.intro hblt (And.intro hu (And.intro hdd hin))))))))
                  clear f1 f2 f3 fx hD hblt hu hdd hin
                  go_upto_region 9 with fail
                  obtain ⟨f1, f2, f3, fx, hD, hblt, hu, hdd, hin⟩ := HD2.out
                  refine wp_region_held_drew (S := fun W => W.cell? ⟨ga, i, none⟩ = some (.bool false) ∧ W.cell? ⟨h, i, none⟩ = some (.bool true) ∧ W.cell? ⟨b, o + k * 34 + 33, none⟩ = some (.bool true) ∧ W.rangeAt b (o + k * 34) x.cs) (by kernel_rfl) (⟨f1, f2, f3, fx⟩) (fun hHeld => ?_)
                  refine wpAnyH_take (i := 0) (v := ?_) rfl (by kernel_rfl) (by kernel_rfl) (by kernel_rfl) (fun _ _ _ h => h) (Or.inl ⟨by rfl, ?_⟩) hHeld ?_
                  rotate_left
                  · (intro w hSw; obtain ⟨q7, q8, q9, q10⟩ := hSw; clear q10; go_simp; try with_reducible rfl)
                  try simp only [Act.put, List.getElem_toArray, List.getElem_cons_zero, List.getElem_cons_succ, List.setIfInBounds_toArray, List.set_cons_zero, List.set_cons_succ]
                  refine wpAnyH_take (i := 1) (v := ?_) rfl (by kernel_rfl) (by kernel_rfl) (by kernel_rfl) (fun _ _ _ h => h) (Or.inl ⟨by rfl, ?_⟩) hHeld ?_
                  rotate_left
                  · (intro w hSw; obtain ⟨q7, q8, q9, q10⟩ := hSw; clear q10; go_simp; try with_reducible rfl)
                  try simp only [Act.put, List.getElem_toArray, List.getElem_cons_zero, List.getElem_cons_succ, List.setIfInBounds_toArray, List.set_cons_zero, List.set_cons_succ]
                  refine wpAnyH_take (i := 2) (v := ?_) rfl (by kernel_rfl) (by kernel_rfl) (by kernel_rfl) (fun _ _ _ h => h) (Or.inl ⟨by rfl, ?_⟩) hHeld ?_
                  rotate_left
                  · (intro w hSw; obtain ⟨q7, q8, q9, q10⟩ := hSw; clear q10; go_simp; try with_reducible rfl)
                  try simp only [Act.put, List.getElem_toArray, List.getElem_cons_zero, List.getElem_cons_succ, List.setIfInBounds_toArray, List.set_cons_zero, List.set_cons_succ]
                  refine wpAnyH_take (i := 3) (v := ?_) rfl (by kernel_rfl) (by kernel_rfl) (by kernel_rfl) (fun _ _ _ h => h) (Or.inl ⟨by rfl, ?_⟩) hHeld ?_
                  rotate_left
                  · (intro w hSw; obtain ⟨q7, q8, q9, q10⟩ := hSw; clear q10; go_simp; try with_reducible rfl)
                  try simp only [Act.put, List.getElem_toArray, List.getElem_cons_zero, List.getElem_cons_succ, List.setIfInBounds_toArray, List.set_cons_zero, List.set_cons_succ]
                  refine wpAnyH_take (i := 4) (v := ?_) rfl (by kernel_rfl) (by kernel_rfl) (by kernel_rfl) (fun _ _ _ h => h) (Or.inl ⟨by rfl, ?_⟩) hHeld ?_
                  rotate_left
                  · (intro w hSw; obtain ⟨q7, q8, q9, q10⟩ := hSw; clear q10; go_simp; try with_reducible rfl)
                  try simp only [Act.put, List.getElem_toArray, List.getElem_cons_zero, List.getElem_cons_succ, List.setIfInBounds_toArray, List.set_cons_zero, List.set_cons_succ]
                  refine wpAnyH_take (i := 5) (v := ?_) rfl (by kernel_rfl) (by kernel_rfl) (by kernel_rfl) (fun _ _ _ h => h) (Or.inl ⟨by rfl, ?_⟩) hHeld ?_
                  rotate_left
                  · (intro w hSw; obtain ⟨q7, q8, q9, q10⟩ := hSw; clear q10; go_simp; try with_reducible rfl)
                  try simp only [Act.put, List.getElem_toArray, List.getElem_cons_zero, List.getElem_cons_succ, List.setIfInBounds_toArray, List.set_cons_zero, List.set_cons_succ]
                  refine wpAnyH_take (i := 6) (v := ?_) rfl (by kernel_rfl) (by kernel_rfl) (by kernel_rfl) (fun _ _ _ h => h) (Or.inl ⟨by rfl, ?_⟩) hHeld ?_
                  rotate_left
                  · (intro w hSw; obtain ⟨q7, q8, q9, q10⟩ := hSw; clear q10; go_simp; try with_reducible rfl)
                  try simp only [Act.put, List.getElem_toArray, List.getElem_cons_zero, List.getElem_cons_succ, List.setIfInBounds_toArray, List.set_cons_zero, List.set_cons_succ]
                  refine wpAnyH_take (i := 7) (v := ?_) rfl (by kernel_rfl) (by kernel_rfl) (by kernel_rfl) (fun _ _ _ h => h) (Or.inl ⟨by rfl, ?_⟩) hHeld ?_
                  rotate_left
                  · (intro w hSw; obtain ⟨q7, q8, q9, q10⟩ := hSw; clear q10; go_simp; try with_reducible rfl)
                  try simp only [Act.put, List.getElem_toArray, List.getElem_cons_zero, List.getElem_cons_succ, List.setIfInBounds_toArray, List.set_cons_zero, List.set_cons_succ]
                  refine wpAnyH_take (i := 8) (v := ?_) rfl (by kernel_rfl) (by kernel_rfl) (by kernel_rfl) (fun _ _ _ h => h) (Or.inl ⟨by rfl, ?_⟩) hHeld ?_
                  rotate_left
                  · (intro w hSw; obtain ⟨q7, q8, q9, q10⟩ := hSw; clear q10; go_simp; try with_reducible rfl)
                  try simp only [Act.put, List.getElem_toArray, List.getElem_cons_zero, List.getElem_cons_succ, List.setIfInBounds_toArray, List.set_cons_zero, List.set_cons_succ]
                  refine wpAnyH_take (i := 9) (v := ?_) rfl (by kernel_rfl) (by kernel_rfl) (by kernel_rfl) (fun _ _ _ h => h) (Or.inl ⟨by rfl, ?_⟩) hHeld ?_
                  rotate_left
                  · (intro w hSw; obtain ⟨q7, q8, q9, q10⟩ := hSw; clear q10; go_simp; try with_reducible rfl)
                  try simp only [Act.put, List.getElem_toArray, List.getElem_cons_zero, List.getElem_cons_succ, List.setIfInBounds_toArray, List.set_cons_zero, List.set_cons_succ]
                  refine wpAnyH_take (i := 10) (v := ?_) rfl (by kernel_rfl) (by kernel_rfl) (by kernel_rfl) (fun _ _ _ h => h) (Or.inl ⟨by rfl, ?_⟩) hHeld ?_
                  rotate_left
                  · (intro w hSw; obtain ⟨q7, q8, q9, q10⟩ := hSw; clear q10; go_simp; try with_reducible rfl)
                  try simp only [Act.put, List.getElem_toArray, List.getElem_cons_zero, List.getElem_cons_succ, List.setIfInBounds_toArray, List.set_cons_zero, List.set_cons_succ]
                  refine wpAnyH_take (i := 11) (v := ?_) rfl (by kernel_rfl) (by kernel_rfl) (by kernel_rfl) (fun _ _ _ h => h) (Or.inl ⟨by rfl, ?_⟩) hHeld ?_
                  rotate_left
                  · (intro w hSw; obtain ⟨q7, q8, q9, q10⟩ := hSw; clear q10; go_simp; try with_reducible rfl)
                  try simp only [Act.put, List.getElem_toArray, List.getElem_cons_zero, List.getElem_cons_succ, List.setIfInBounds_toArray, List.set_cons_zero, List.set_cons_succ]
                  refine wpAnyH_take (i := 12) (v := ?_) rfl (by kernel_rfl) (by kernel_rfl) (by kernel_rfl) (fun _ _ _ h => h) (Or.inl ⟨by rfl, ?_⟩) hHeld ?_
                  rotate_left
                  · (intro w hSw; obtain ⟨q7, q8, q9, q10⟩ := hSw; clear q10; go_simp; try with_reducible rfl)
                  try simp only [Act.put, List.getElem_toArray, List.getElem_cons_zero, List.getElem_cons_succ, List.setIfInBounds_toArray, List.set_cons_zero, List.set_cons_succ]
                  refine wpAnyH_take (i := 13) (v := ?_) rfl (by kernel_rfl) (by kernel_rfl) (by kernel_rfl) (fun _ _ _ h => h) (Or.inl ⟨by rfl, ?_⟩) hHeld ?_
                  rotate_left
                  · (intro w hSw; obtain ⟨q7, q8, q9, q10⟩ := hSw; clear q10; go_simp; try with_reducible rfl)
                  try simp only [Act.put, List.getElem_toArray, List.getElem_cons_zero, List.getElem_cons_succ, List.setIfInBounds_toArray, List.set_cons_zero, List.set_cons_succ]
                  refine wpAnyH_take (i := 14) (v := ?_) rfl (by kernel_rfl) (by kernel_rfl) (by kernel_rfl) (fun _ _ _ h => h) (Or.inl ⟨by rfl, ?_⟩) hHeld ?_
                  rotate_left
                  · (intro w hSw; obtain ⟨q7, q8, q9, q10⟩ := hSw; clear q10; go_simp; try with_reducible rfl)
                  try simp only [Act.put, List.getElem_toArray, List.getElem_cons_zero, List.getElem_cons_succ, List.setIfInBounds_toArray, List.set_cons_zero, List.set_cons_succ]
                  refine wpAnyH_take (i := 15) (v := ?_) rfl (by kernel_rfl) (by kernel_rfl) (by kernel_rfl) (fun _ _ _ h => h) (Or.inl ⟨by rfl, ?_⟩) hHeld ?_
                  rotate_left
                  · (intro w hSw; obtain ⟨q7, q8, q9, q10⟩ := hSw; clear q10; go_simp; try with_reducible rfl)
                  try simp only [Act.put, List.getElem_toArray, List.getElem_cons_zero, List.getElem_cons_succ, List.setIfInBounds_toArray, List.set_cons_zero, List.set_cons_succ]
                  refine wpAnyH_take (i := 16) (v := ?_) rfl (by kernel_rfl) (by kernel_rfl) (by kernel_rfl) (fun _ _ _ h => h) (Or.inl ⟨by rfl, ?_⟩) hHeld ?_
                  rotate_left
                  · (intro w hSw; obtain ⟨q7, q8, q9, q10⟩ := hSw; clear q10; go_simp; try with_reducible rfl)
                  try simp only [Act.put, List.getElem_toArray, List.getElem_cons_zero, List.getElem_cons_succ, List.setIfInBounds_toArray, List.set_cons_zero, List.set_cons_succ]
                  refine wpAnyH_take (i := 17) (v := ?_) rfl (by kernel_rfl) (by kernel_rfl) (by kernel_rfl) (fun _ _ _ h => h) (Or.inl ⟨by rfl, ?_⟩) hHeld ?_
                  rotate_left
                  · (intro w hSw; obtain ⟨q7, q8, q9, q10⟩ := hSw; clear q10; go_simp; try with_reducible rfl)
                  try simp only [Act.put, List.getElem_toArray, List.getElem_cons_zero, List.getElem_cons_succ, List.setIfInBounds_toArray, List.set_cons_zero, List.set_cons_succ]
                  refine wpAnyH_take (i := 18) (v := ?_) rfl (by kernel_rfl) (by kernel_rfl) (by kernel_rfl) (fun _ _ _ h => h) (Or.inl ⟨by rfl, ?_⟩) hHeld ?_
                  rotate_left
                  · (intro w hSw; obtain ⟨q7, q8, q9, q10⟩ := hSw; clear q10; go_simp; try with_reducible rfl)
                  try simp only [Act.put, List.getElem_toArray, List.getElem_cons_zero, List.getElem_cons_succ, List.setIfInBounds_toArray, List.set_cons_zero, List.set_cons_succ]
                  refine wpAnyH_take (i := 19) (v := ?_) rfl (by kernel_rfl) (by kernel_rfl) (by kernel_rfl) (fun _ _ _ h => h) (Or.inl ⟨by rfl, ?_⟩) hHeld ?_
                  rotate_left
                  · (intro w hSw; obtain ⟨q7, q8, q9, q10⟩ := hSw; clear q10; go_simp; try with_reducible rfl)
                  try simp only [Act.put, List.getElem_toArray, List.getElem_cons_zero, List.getElem_cons_succ, List.setIfInBounds_toArray, List.set_cons_zero, List.set_cons_succ]
                  refine wpAnyH_take (i := 20) (v := ?_) rfl (by kernel_rfl) (by kernel_rfl) (by kernel_rfl) (fun _ _ _ h => h) (Or.inl ⟨by rfl, ?_⟩) hHeld ?_
                  rotate_left
                  · (intro w hSw; obtain ⟨q7, q8, q9, q10⟩ := hSw; clear q10; go_simp; try with_reducible rfl)
                  try simp only [Act.put, List.getElem_toArray, List.getElem_cons_zero, List.getElem_cons_succ, List.setIfInBounds_toArray, List.set_cons_zero, List.set_cons_succ]
                  refine wpAnyH_take (i := 21) rfl (by kernel_rfl) (by kernel_rfl) (by kernel_rfl) (fun _ _ _ h => h) (yieldsIf_load_mid (by rfl) 37 _ (by rfl) (b) (o + k * 34) (by rfl) (x.cs) _ (fun W h => h.2.2.2) hu hdd hin) hHeld ?_
                  try simp only [Act.put, List.getElem_toArray, List.getElem_cons_zero, List.getElem_cons_succ, List.setIfInBounds_toArray, List.set_cons_zero, List.set_cons_succ]
                  refine wpAnyH_take (i := 22) (v := ?_) rfl (by kernel_rfl) (by kernel_rfl) (by kernel_rfl) (fun _ _ _ h => h) (Or.inl ⟨by rfl, ?_⟩) hHeld ?_
                  rotate_left
                  · (intro w hSw; obtain ⟨q7, q8, q9, q10⟩ := hSw; clear q10; go_simp; try with_reducible rfl)
                  try simp only [Act.put, List.getElem_toArray, List.getElem_cons_zero, List.getElem_cons_succ, List.setIfInBounds_toArray, List.set_cons_zero, List.set_cons_succ]
                  refine wpAnyH_take (i := 23) (v := ?_) rfl (by kernel_rfl) (by kernel_rfl) (by kernel_rfl) (fun _ _ _ h => h) (Or.inl ⟨by rfl, ?_⟩) hHeld ?_
                  rotate_left
                  · (intro w hSw; obtain ⟨q7, q8, q9, q10⟩ := hSw; clear q10; go_simp; try with_reducible rfl)
                  try simp only [Act.put, List.getElem_toArray, List.getElem_cons_zero, List.getElem_cons_succ, List.setIfInBounds_toArray, List.set_cons_zero, List.set_cons_succ]
                  refine wpAnyH_take (i := 24) (v := ?_) rfl (by kernel_rfl) (by kernel_rfl) (by kernel_rfl) (fun _ _ _ h => h) (Or.inl ⟨by rfl, ?_⟩) hHeld ?_
                  rotate_left
                  · (intro w hSw; obtain ⟨q7, q8, q9, q10⟩ := hSw; clear q10; go_simp; try with_reducible rfl)
                  try simp only [Act.put, List.getElem_toArray, List.getElem_cons_zero, List.getElem_cons_succ, List.setIfInBounds_toArray, List.set_cons_zero, List.set_cons_succ]
                  refine wpAnyH_ready (rs := [25]) (by kernel_rfl) (by simp) ?_
                  refine AllReadyH.cons rfl (fun K hK => ?_) (AllReadyH.nil)
                  go_simp
                  refine (HC.out _).mono ?_; rintro e w1 ⟨rfl, hb1⟩
                  have hbl : b < wr.drew.heap.size := hblt
                  have HD := Lib.hid (hD.call hb1)
                  go_wp2_with fail
                  refine hK.out _ _ (⟨(hb1.cell (p := ⟨ga, i, none⟩) hD.lta).trans f1, (hb1.cell (p := ⟨h, i, none⟩) hD.lth).trans f2, (hb1.cell (p := ⟨b, o + k * 34 + 33, none⟩) hbl).trans f3, rangeAt_below fx (hb1.block b hbl)⟩) (fun hHeld => ?_)
                  clear hK K
                  try simp only [Act.put, List.getElem_toArray, List.getElem_cons_zero, List.getElem_cons_succ, List.setIfInBounds_toArray, List.set_cons_zero, List.set_cons_succ]
                  refine wpAnyH_take (i := 26) (v := ?_) rfl (by kernel_rfl) (by kernel_rfl) (by kernel_rfl) (fun _ _ _ h => h) (Or.inl ⟨by rfl, ?_⟩) hHeld ?_
                  rotate_left
                  · (intro w hSw; obtain ⟨q7, q8, q9, q10⟩ := hSw; clear q10; go_simp; try with_reducible rfl)
                  try simp only [Act.put, List.getElem_toArray, List.getElem_cons_zero, List.getElem_cons_succ, List.setIfInBounds_toArray, List.set_cons_zero, List.set_cons_succ]
                  refine wpAnyH_done (by kernel_rfl) ?_ _
                  clear f1 f2 f3 fx hu hdd hin hblt hb1 hbl
                  have hnx1 := HNX1.out
                  have hS2 := HD.out.same (N' := n1F x A (byt s) (i + 1)) (fun j hj => by
                    rw [HNX.out.2.1 j]
                    by_cases e : j = i + 1
                    · rw [if_pos e, hnx1, e]; exact HNX.out.2.2
                    · rw [if_neg e])
                  have HS2 := Lib.hid hS2; clear hS2
                  go_wp2_with fail
                  go_roundw
                  case rel => exact ⟨i + 1, hil, by go_num, HS2.out⟩
                  case measure => simp [intOf]; omega
        · obtain rfl : i = s.size := by omega
          have u0 : decide (s.size < s.size) = false := by simp
          have hI2 := hI.same (N' := n2F x A (byt s) 0) (fun j hj => by unfold n1F n2F; rw [if_neg (by omega), decide_eq_true hj]; rfl)
          have HI := Lib.hid hI2; clear hI hI2
          go_wp2_with fail
          go_loopw [62] (fun z wr' => ∃ i : Nat, i ≤ s.size + 1 ∧ z = .int .i64 i ∧ RI w s.size ga A h (n2F x A (byt s) i) wr') (fun z _ => s.size + 1 - (intOf z).toNat)
          case atStart => exact ⟨0, Nat.zero_le _, rfl, HI.out⟩
          case round =>
            clear HI
            obtain ⟨i, hi, rfl, hI⟩ := hrel
            by_cases hil : i ≤ s.size
            · have u0 : decide (i < s.size + 1) = true := decide_eq_true (by omega)
              have u1 : decide ((i : Int) < (s.size : Int) + 1) = true := by simp; omega
              have f1 := hI.at_ i hil
              have f2 := hI.cell i hil
              rw [show n2F x A (byt s) i i = nx1 x A (byt s) i by unfold n2F; rw [if_neg (Nat.lt_irrefl i)]] at f2
              have fx : wr.rangeAt b (o + k * 34) x.cs := rangeAt_below HX.out (hI.bel.block b hbw)
              have f3 := rangeMin fx
              have fr := Lib.frozen_of_heap hI.nx i
              have hn2 : nx2 x A (byt s) i = (nx1 x A (byt s) i || (decide (x.mn ≤ 0) && A i)) := rfl
              have hset := hI.set (N' := n2F x A (byt s) (i + 1)) i (nx2 x A (byt s) i) hil (fun j hj => n2_next x A (byt s) i j)
              rw [hn2] at hset
              clear fx hn2 hI
              generalize nx1 x A (byt s) i = ni at *
              generalize A i = ai at *
              generalize x.mn = mn at *
              have HS := Lib.hid hset; clear hset
              have i0 : (0 : Int) ≤ (i : Int) := by omega
              have i1 : (i : Int) < (s.size : Int) + 1 := by omega
              cases ni with
              | true =>
                rw [Bool.true_or] at HS
                go_wp2_with fail
                go_roundw
                case rel => exact ⟨i + 1, by omega, by go_num, HS.out⟩
                case measure => simp [intOf]; omega
              | false =>
                rw [Bool.false_or] at HS
                by_cases h0 : mn ≤ 0
                · have u2 : decide (mn ≤ 0) = true := decide_eq_true h0
                  rw [u2, Bool.true_and] at HS
                  cases ai with
                  | true =>
                    go_wp2_with fail
                    go_roundw
                    case rel => exact ⟨i + 1, by omega, by go_num, HS.out⟩
                    case measure => simp [intOf]; omega
                  | false =>
                    go_wp2_with fail
                    go_roundw
                    case rel => exact ⟨i + 1, by omega, by go_num, HS.out⟩
                    case measure => simp [intOf]; omega
                · have u2 : decide (mn ≤ 0) = false := decide_eq_false h0
                  rw [u2, Bool.false_and] at HS
                  go_wp2_with fail
                  go_roundw
                  case rel => exact ⟨i + 1, by omega, by go_num, HS.out⟩
                  case measure => simp [intOf]; omega
            · obtain rfl : i = s.size + 1 := by omega
              have u0 : decide (s.size + 1 < s.size + 1) = false := by simp
              have hbl : BL w.heap.size s.size (rcK F P (byt s) (k + 1)) (.slice (some ⟨h, 0, none⟩) (s.size + 1) (s.size + 1)) wr := by
                refine ⟨h, s.size + 1, rfl, Nat.le_refl _, by unfold maxLen; omega, hI.hb, hI.lth, fun j hj => ?_⟩
                rw [HRK.out, hI.cell j hj]
                unfold n2F; rw [if_pos (by omega)]
              have HE := Lib.hid (And.intro hbl hI.bel); clear hbl hI
              go_wp2_with fail
              go_roundw
              case rel => exact ⟨k + 1, hlt, by go_num, HE.out.1, HE.out.2⟩
              case measure => simp [intOf]; omega
    · obtain rfl : k = P.length := by omega
      have q0 : decide (P.length < P.length) = false := by simp
      have HL := Lib.hid hL; clear hL
      go_wp2_with fail
      go_ret
      exact ⟨_, rfl, HL.out, hB⟩
end Go.Proofs.Ytdnofpllmhnacaa
