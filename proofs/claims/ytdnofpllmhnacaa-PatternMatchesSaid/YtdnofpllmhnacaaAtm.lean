/- The generator of patterns. -/
import Derived.Test.YtdnofpllmhnacaaNum
namespace Go.Proofs.Ytdnofpllmhnacaa
open Go.ChangeShapes Go.WideShapes Go.ChangeAt Go.RowKit Go.Sort
set_option linter.unusedVariables false
set_option linter.unusedSimpArgs false
set_option maxRecDepth 100000

theorem built_atom2 (mn : Int) (many : Bool) : Try.prog.built 37 [(1, .int .i64 mn), (2, .bool many)] = some (At.cs ⟨emptyS, mn, many⟩).toArray := by kernel_rfl
theorem wpl_buildAt2 {ops : Array Oper} {rest : List Oper} {op : Oper} {a : Act} {w : World} {Q : Exit → Act → World → Prop} (hgd : op.guard = none) (x y : Operand) (ho : op.op = .build 37 #[(1, x), (2, y)]) (mn : Int) (many : Bool) (hx : a.eval x = .int .i64 mn) (hy : a.eval y = .bool many)
    (h : wpList Try.prog ops Q rest (a.put op.dst (.agg (At.cs ⟨emptyS, mn, many⟩).toArray)) w) : wpList Try.prog ops Q (op :: rest) a w :=
  wpList_plain hgd fun _ hK => wp_build 37 _ ho (by simp [hx, hy, built_atom2]) (by simp only [List.map_toArray, List.map_cons, List.map_nil, hx, hy, built_atom2, Option.getD_some]; exact hK _ _ h)
theorem cs_add (y : At) (c : Nat) (hc : c < 256) : y.cs.toArray.setIfInBounds (c / 8) (.int .u8 (byteOf (addS y.s c) (c / 8) : Int)) = (At.cs ⟨addS y.s c, y.mn, y.many⟩).toArray := by
  have h := setC_set y.s (addS y.s c) (c / 8) (by omega) (fun j _ hj => add_other y.s c j hj)
  have h2 := congrArg Array.toList h
  rw [Array.toList_setIfInBounds] at h2
  apply Array.ext'
  rw [Array.toList_setIfInBounds]
  unfold At.cs
  rw [List.set_append_left _ _ (by rw [setC_length]; omega)]
  simp only at h2 ⊢
  rw [h2]
theorem AV.add {B : Nat} {y : At} {W : World} (h : AV B y W) (c : Nat) (hc : c < 256) : AV B ⟨addS y.s c, y.mn, y.many⟩ (W.setCell ⟨B, c / 8, none⟩ (.int .u8 (byteOf (addS y.s c) (c / 8) : Int))) := by
  have := setCell_at W B (c / 8) _ 37 (.int .u8 (byteOf (addS y.s c) (c / 8) : Int)) h
  rw [cs_add y c hc] at this
  exact this
theorem AV.cell {B : Nat} {y : At} {W : World} (h : AV B y W) (i : Nat) (hi : i < 32) : W.cell? ⟨B, i, none⟩ = some (.int .u8 (byteOf y.s i : Int)) := by
  have := rangeSet (h.range) i _ (setC_at y.s i hi)
  simpa using this
theorem AV.lt {B : Nat} {y : At} {W : World} (h : AV B y W) : B < W.heap.size := (Array.getElem?_eq_some_iff.1 h).1
theorem AV.gr {B : Nat} {y : At} {W W' : World} {l : List Nat} (h : AV B y W) (g : Gr l W W') (hB : B ∉ l) : AV B y W' := (g.block B h.lt hB).trans h
theorem NumsAt.gr {W W' : World} {b : Nat} {p : Option Addr} {cap : Nat} {L : List Int} {m : Nat} {l : List Nat} (h : NumsAt W b p cap L m) (g : Gr l W W') (hb : b ∉ l) (hp : 0 < L.length → ∀ a, p = some a → a.block ∉ l) : NumsAt W' b p cap L m :=
  ⟨(g.block b h.lt hb).trans h.hh, ones_keep h.ones g.size (fun h0 a ha => by
    obtain ⟨a', ha', hlt, _⟩ := h.ones h0
    rw [ha] at ha'; injection ha' with ha'; subst ha'
    exact g.block _ hlt (hp h0 a ha)), h.ap, h.wf, h.le, h.cm⟩
/-- What holds on the way. -/
structure MA (w : World) (b : Nat) (p : Option Addr) (cap : Nat) (L : List Int) (m : Nat) (P : List At) (v : Value) (W : World) : Prop where
  nm : NumsAt W b p cap L m
  own : OwA w.heap.size P v W
  gr : Gr [b] w W
  lb : b < w.heap.size
  lp : 0 < L.length → ∀ a, p = some a → a.block < w.heap.size
section
variable {w : World} {b : Nat} {p : Option Addr} {cap : Nat} {L : List Int} {m k : Nat} {P Q : List At} {v v' : Value} {W W' : World}
theorem MA.next (h : MA w b p cap L m P v W) (g : W.grownBy W' (some b)) (n : NumsAt W' b p cap L k) : MA w b p cap L k P v W' :=
  ⟨n, h.own.gr (Gr.of (l := [b]) g (Or.inl (by simp))) (by simp; exact h.lb), h.gr.set g (Or.inl (by simp)), h.lb, h.lp⟩
theorem MA.below (h : MA w b p cap L m P v W) (g : Below W.heap.size W W') : MA w b p cap L m P v W' :=
  ⟨h.nm.call g, h.own.call g, h.gr.below g, h.lb, h.lp⟩
theorem MA.other (h : MA w b p cap L m P v W) (g : W.grownBy W' (some k)) (hk : w.heap.size ≤ k) (hv : v.ownBlock ≠ some k) : MA w b p cap L m P v W' :=
  ⟨h.nm.gr (Gr.of (l := [k]) g (Or.inl (by simp))) (by simp; have := h.lb; omega) (fun h0 a ha => by have := h.lp h0 a ha; simp; omega),
   World.ownsRow.kept h.own g (Or.inr hv), h.gr.set g (Or.inr hk), h.lb, h.lp⟩
theorem MA.more (h : MA w b p cap L m P v W) (g : W.grownBy W' v.ownBlock) (o : OwA w.heap.size Q v' W') : MA w b p cap L m Q v' W' := by
  have hlt : ∀ k, v.ownBlock = some k → w.heap.size ≤ k := fun k hk => (World.ownsRow.lt h.own k hk).1
  cases hv : v.ownBlock with
  | none =>
    rw [hv] at g
    have g' : Gr [] W W' := ⟨g.os, g.tape, g.output, g.size, fun i hi _ => g.block i hi (by simp)⟩
    exact ⟨h.nm.gr g' (by simp) (by simp), o, h.gr.trans (g'.mono (by simp)), h.lb, h.lp⟩
  | some k =>
    rw [hv] at g
    have hk := hlt k hv
    exact ⟨h.nm.gr (Gr.of (l := [k]) g (Or.inl (by simp))) (by simp; have := h.lb; omega) (fun h0 a ha => by have := h.lp h0 a ha; simp; omega),
      o, h.gr.set g (Or.inr hk), h.lb, h.lp⟩
theorem MA.row_lt (h : MA w b p cap L m P v W) : v.ownBlock ≠ some W.heap.size := fun e => by
  have := (World.ownsRow.lt h.own _ e).2; omega
end
theorem tbl_eq : ∀ j : Fin 8, ((⟨#[97, 98, 32, 46, 33, 65, 49, 60]⟩ : ByteArray)[j.val]'(j.isLt)).toNat = tb j.val := by decide
def OutR (w : World) (b : Nat) (p : Option Addr) (cap : Nat) (L : List Int) (cnt : Nat) (v i : Value) (wr : World) : Prop :=
  ∃ j : Nat, j ≤ cnt ∧ i = .int .i64 ((cnt : Int) - j) ∧ MA w b p cap L (gsF L j).2 (gsF L j).1 v wr
def InR (w : World) (b : Nat) (p : Option Addr) (cap : Nat) (L : List Int) (m : Nat) (P : List At) (v : Value) (B : Nat) (mn : Int) (many : Bool) (K : Nat) (i : Value) (wr : World) : Prop :=
  ∃ r : Nat, r ≤ K + 1 ∧ i = .int .i64 ((K : Int) - r) ∧ MA w b p cap L (m + r) P v wr ∧ AV B ⟨bsF L m r, mn, many⟩ wr

set_option maxHeartbeats 6400000 in
theorem atoms_any (b : Nat) (p : Option Addr) (cap : Nat) (L : List Int) (w : World) (h : NumsAt w b p cap L 0) :
    Calls Try.prog 40 #[.pointer (some ⟨b, 0, none⟩), .int .i64 5] w fun e w' => ∃ v, e = .returned v ∧ OwA w.heap.size (mkF L) v w' ∧ Gr [b] w w' := by
  have hN := fun m n k hk W h hm h0 h1 => next_any b p cap L m n k hk W h hm h0 h1
  have HN := Lib.hid hN; clear hN
  have hc := nx_lt L 0 6 (by omega)
  have hmk : mkF L = (gsF L (nx L 0 6)).1 := rfl
  generalize mkF L = M at *
  have hst : MA w b p cap L 0 [] (.slice none 0 0) w := ⟨h, OwA.nil _ _, Gr.refl _ _, h.lt, fun h0 a ha => by
    obtain ⟨a', ha', hlt, _⟩ := h.ones h0
    rw [ha] at ha'; injection ha' with ha'; subst ha'; exact hlt⟩
  have HS := Lib.hid hst; have HMK := Lib.hid hmk; clear hst hmk
  go_enter Try.func40, Try.ntmps40
  go_wp2_with fail
  refine (HN.out 0 6 6 rfl _ HS.out.nm (by omega) (by omega) (by omega)).mono ?_; rintro e w1 ⟨rfl, g1, n1⟩
  have H1 := Lib.hid (HS.out.next g1 n1); clear g1 n1 HS
  generalize hcnt : nx L 0 6 = cnt at *
  have HC := Lib.hid hcnt; clear hcnt
  go_wp2_with fail
  go_loopw [5, 6] (fun v i wr => OutR w b p cap L cnt v i wr) (fun _ i _ => (intOf i).toNat)
  case atStart => exact ⟨0, Nat.zero_le _, by simp, H1.out⟩
  case round =>
    clear H1
    obtain ⟨j, hj, rfl, hM⟩ := hrel
    have hgl := gs_len L j
    have hga := gs_at L j
    have hge : (gsF L (j + 1)) = ((gsF L j).1 ++ [atF L (gsF L j).2], (gsF L j).2 + 3 + atK L (gsF L j).2) := rfl
    have hfin : j = cnt → (gsF L j).1 = M := fun e => by rw [e]; exact HMK.out.symm
    generalize hP : (gsF L j).1 = P at *
    generalize hm : (gsF L j).2 = m at *
    have HM := Lib.hid hM; have HGE := Lib.hid hge; have HF := Lib.hid hfin; clear hM hge hfin hP hm
    by_cases hlt : j < cnt
    · have q0 : decide ((0 : Int) < (cnt : Int) - j) = true := by simp; omega
      have hx1 := nx_lt L m 2 (by omega)
      have hx2 := nx_lt L (m + 1) 2 (by omega)
      have hx3 := nx_lt L (m + 2) 4 (by omega)
      have hat : atF L m = ⟨bsF L (m + 3) (atK L m), (nx L m 2 : Int), decide (nx L (m + 1) 2 = 1)⟩ := rfl
      have hak : atK L m = nx L (m + 2) 4 + 1 := rfl
      have c1 := HN.out m 2 2 rfl
      have c2 := HN.out (m + 1) 2 2 rfl
      have c3 := HN.out (m + 2) 4 4 rfl
      generalize nx L m 2 = x1 at *
      generalize nx L (m + 1) 2 = x2 at *
      generalize nx L (m + 2) 4 = x3 at *
      have q1 : ((x2 : Int) == 1) = decide (x2 = 1) := by by_cases e : x2 = 1 <;> simp [e]; omega
      generalize decide (x2 = 1) = many at *
      have C1 := Lib.hid c1; have C2 := Lib.hid c2; have C3 := Lib.hid c3; have HAT := Lib.hid hat; have HAK := Lib.hid hak; clear c1 c2 c3 hat hak
      go_wp2_with fail
      refine (C1.out _ HM.out.nm (by omega) (by omega) (by omega)).mono ?_; rintro e w2 ⟨rfl, g2, n2⟩
      have H2 := Lib.hid (HM.out.next g2 n2); clear g2 n2
      go_wp2_with fail
      refine (C2.out _ H2.out.nm (by omega) (by omega) (by omega)).mono ?_; rintro e w3 ⟨rfl, g3, n3⟩
      have H3 := Lib.hid (H2.out.next g3 n3); clear g3 n3 H2
      have a4 : AV w3.heap.size ⟨emptyS, (x1 : Int), many⟩ (w3.alloc (.cells (At.cs ⟨emptyS, (x1 : Int), many⟩).toArray 37)) := heap_alloc_new w3 _
      have m4 := H3.out.below (blw (Below.refl _ _) (.cells (At.cs ⟨emptyS, (x1 : Int), many⟩).toArray 37))
      have hrl := H3.out.row_lt
      have hsz := H3.out.gr.size
      have H4 := Lib.hid (And.intro m4 (And.intro a4 hrl)); clear m4 a4 hrl H3
      go_upto_region 6 with (first | (refine wpl_buildAt2 (by rfl) _ _ (by rfl) (x1 : Int) many (by rfl) (by rfl) ?_) | (refine wpl_storeAt (by rfl) _ _ (by rfl) w3 _ (by rfl) (by rfl) (by rfl) ⟨emptyS, (x1 : Int), many⟩ (by rfl) ?_))
      go_wp2_with fail
      refine (C3.out _ H4.out.1.nm (by omega) (by omega) (by omega)).mono ?_; rintro e w5 ⟨rfl, g5, n5⟩
      have a5 : AV w3.heap.size ⟨emptyS, (x1 : Int), many⟩ w5 := (g5.block _ (by simp) (fun e => by injection e with e; have := HM.out.lb; omega)).trans H4.out.2.1
      have H5 := Lib.hid (And.intro (H4.out.1.next g5 n5) (And.intro a5 H4.out.2.2)); clear g5 n5 a5 H4
      go_wp2_with fail
      go_loopw [8] (fun i wr' => InR w b p cap L (m + 3) P u5 w3.heap.size (x1 : Int) many x3 i wr') (fun i _ => (intOf i + 1).toNat)
      case atStart => exact ⟨0, Nat.zero_le _, by simp, H5.out.1, H5.out.2.1⟩
      case round =>
        obtain ⟨r, hr, rfl, hM', hA'⟩ := hrel
        have HI := Lib.hid (And.intro hM' hA'); clear hM' hA'
        have hsw := HM.out.gr.size
        by_cases hlt2 : r < x3 + 1
        · have q2 : decide ((0 : Int) ≤ (x3 : Int) - r) = true := by simp; omega
          have hx4 := nx_lt L (m + 3 + r) 8 (by omega)
          have c4 := HN.out (m + 3 + r) 8 8 rfl
          have hb1 : bsF L (m + 3) (r + 1) = addS (bsF L (m + 3) r) (tb (nx L (m + 3 + r) 8)) := rfl
          generalize nx L (m + 3 + r) 8 = x4 at *
          have ht := tbl_eq ⟨x4, hx4⟩
          have hc8 := tb_lt' hx4
          dsimp only at ht
          generalize tb x4 = c at *
          have C4 := Lib.hid c4; have HB := Lib.hid hb1; clear c4 hb1
          have y0 : (0 : Int) ≤ (x4 : Int) := by omega
          have y1 : (x4 : Int) < 8 := by omega
          go_wp2_with fail
          refine (C4.out _ HI.out.1.nm (by omega) (by omega) (by omega)).mono ?_; rintro e w6 ⟨rfl, g6, n6⟩
          have a6 := HI.out.2.gr (Gr.of (l := [b]) g6 (Or.inl (by simp))) (by simp; have := HM.out.lb; omega)
          have H6 := Lib.hid (And.intro (HI.out.1.next g6 n6) a6); clear g6 n6 a6 HI
          go_upto_region 10 with fail
          have hcl := H6.out.2.cell (c / 8) (by omega)
          have fr := Lib.frozen_of_heap H6.out.2 (c / 8)
          have z1 : (0 : Int) ≤ (c : Int) / 8 := by omega
          have z2 : (c : Int) / 8 < 32 := by omega
          have z3 : ((c : Int) / 8).toNat = c / 8 := by omega
          have HA := Lib.hid (add_byte (bsF L (m + 3) r) c hc8)
          have a7 := H6.out.2.add c hc8
          have g7 := grow_cell w6 w3.heap.size (c / 8) (.int .u8 (byteOf (addS (bsF L (m + 3) r) c) (c / 8) : Int))
          have m7 := H6.out.1.other g7 hsz H5.out.2.2
          have H7 := Lib.hid (And.intro m7 a7); clear a7 g7 m7 ht
          go_wp2_with fail
          go_roundw
          case rel => exact ⟨r + 1, by omega, by go_num, by rw [HA.out]; exact H7.out.1, by rw [HA.out, HB.out]; exact H7.out.2⟩
          case measure => simp [intOf]; omega
        · obtain rfl : r = x3 + 1 := by omega
          have q2 : decide ((0 : Int) ≤ (x3 : Int) - ((x3 + 1 : Nat) : Int)) = false := by simp; omega
          have hya : (⟨bsF L (m + 3) (x3 + 1), (x1 : Int), many⟩ : At) = atF L m := by rw [HAT.out, HAK.out]
          have hgn := HGE.out
          rw [HAK.out] at hgn
          have HY := Lib.hid hya; have HG := Lib.hid hgn; clear hya hgn
          generalize bsF L (m + 3) (x3 + 1) = S at *
          obtain ⟨d, hu, hd⟩ := und37
          have hin : (Try.prog.info? 37).map (·.size) = some (At.cs ⟨S, (x1 : Int), many⟩).length := by rw [At.cs_length]; exact size37
          have hc8 := heap_alloc_new wr (.cells (At.cs ⟨S, (x1 : Int), many⟩).toArray 37)
          have H8 := Lib.hid (And.intro (HI.out.1.below (blw (Below.refl _ _) (.cells (At.cs ⟨S, (x1 : Int), many⟩).toArray 37))) hc8); clear hc8
          have hb8 : w.heap.size ≤ (wr.alloc (.cells (At.cs ⟨S, (x1 : Int), many⟩).toArray 37)).heap.size := H8.out.1.gr.size
          go_upto_region 11 with fail
          go_wp2_with (first | (refine wpList_load_mid (by rfl) 37 _ (by rfl) w3.heap.size 0 (by rfl) (At.cs ⟨S, (x1 : Int), many⟩) d HI.out.2.range hu hd hin ?_) | (refine wpl_sliceAt (by rfl) _ (by rfl) ⟨S, (x1 : Int), many⟩ (by rfl) wr.heap.size (by rfl) ?_) | (refine wpl_appendAt _ (by rfl) _ _ (by rfl) w.heap.size P u5 (by rfl) H8.out.1.own hb8 ⟨S, (x1 : Int), many⟩ wr.heap.size (by rfl) H8.out.2 (by omega) ?_; intro v9 w9 o9 g9))
          have m9 := H8.out.1.more g9 o9
          rw [HY.out] at m9
          have H9 := Lib.hid m9; clear m9 o9 g9
          go_roundw
          case rel => exact ⟨j + 1, hlt, by go_num, by rw [HG.out]; exact H9.out⟩
          case measure => simp [intOf]; omega
    · obtain rfl : j = cnt := by omega
      have q0 : decide ((0 : Int) < (j : Int) - j) = false := by simp
      have HF2 := Lib.hid (HF.out rfl); clear HF
      go_wp2_with fail
      go_ret
      exact ⟨_, rfl, by rw [← HF2.out]; exact HM.out.own, HM.out.gr⟩
end Go.Proofs.Ytdnofpllmhnacaa
