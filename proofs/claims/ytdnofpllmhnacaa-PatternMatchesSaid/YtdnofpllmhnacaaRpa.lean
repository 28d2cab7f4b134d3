/- The reference's Parse. -/
import Derived.Test.YtdnofpllmhnacaaRse
namespace Go.Proofs.Ytdnofpllmhnacaa
open Go.ChangeShapes Go.WideShapes Go.ChangeAt Go.RowKit Go.Sort
set_option linter.unusedVariables false
set_option linter.unusedSimpArgs false
set_option maxRecDepth 100000

theorem built_atom1 (S : BSet) : Try.prog.built 37 [(0, .agg (setC S).toArray), (1, .int .i64 1)] = some (At.cs ⟨S, 1, false⟩).toArray := by kernel_rfl
theorem wpl_buildAt1 {ops : Array Oper} {rest : List Oper} {op : Oper} {a : Act} {w : World} {Q : Exit → Act → World → Prop} (hgd : op.guard = none) (x y : Operand) (ho : op.op = .build 37 #[(0, x), (1, y)]) (S : BSet) (hx : a.eval x = .agg (setC S).toArray) (hy : a.eval y = .int .i64 1)
    (h : wpList Try.prog ops Q rest (a.put op.dst (.agg (At.cs ⟨S, 1, false⟩).toArray)) w) : wpList Try.prog ops Q (op :: rest) a w :=
  wpList_plain hgd fun _ hK => wp_build 37 _ ho (by simp [hx, hy, built_atom1]) (by simp only [List.map_toArray, List.map_cons, List.map_nil, hx, hy, built_atom1, Option.getD_some]; exact hK _ _ h)
theorem hin_of' (a : At) : (Try.prog.info? 37).map (·.size) = some a.cs.length := by rw [At.cs_length]; exact size37
/-- What Parse has in hand: the pattern. -/
structure PO (w : World) (P : List At) (v : Value) (W : World) : Prop where
  own : OwA w.heap.size P v W
  bel : Below w.heap.size w W
section
variable {w W W' : World} {P Q : List At} {v v' : Value}
theorem PO.call (h : PO w P v W) (g : Below W.heap.size W W') : PO w P v W' := ⟨h.own.call g, BelowOn h.bel g⟩
theorem PO.other (h : PO w P v W) {k : Nat} (g : W.grownBy W' (some k)) (hk : w.heap.size ≤ k) (hv : v.ownBlock ≠ some k) : PO w P v W' :=
  ⟨World.ownsRow.kept h.own g (Or.inr hv), h.bel.grown g h.bel.size (fun j hj => by injection hj with hj; omega)⟩
theorem PO.more (h : PO w P v W) (g : W.grownBy W' v.ownBlock) (o : OwA w.heap.size Q v' W') : PO w Q v' W' :=
  ⟨o, h.bel.grown g h.bel.size (fun b hb => (World.ownsRow.lt h.own b hb).1)⟩
theorem PO.row_lt (h : PO w P v W) : v.ownBlock ≠ some W.heap.size := fun e => by
  have := (World.ownsRow.lt h.own _ e).2; omega
end
def RpR (s : ByteArray) (w : World) (res : List At × Nat × Int) (v i : Value) (wr : World) : Prop :=
  ∃ (k : Nat) (P : List At) (f : Nat), i = .int .i64 k ∧ PO w P v wr ∧ P.length ≤ 32 ∧ k ≤ s.size ∧ s.size < f + k ∧ prsF s f k P = res
theorem cs_min (S : BSet) (mn : Int) (many : Bool) (m2 : Int) : (At.cs ⟨S, mn, many⟩).toArray.setIfInBounds 32 (.int .i64 m2) = (At.cs ⟨S, m2, many⟩).toArray := by
  apply Array.ext'
  simp only [Array.toList_setIfInBounds]
  unfold At.cs
  rw [List.set_append_right _ _ (by rw [setC_length]; omega), setC_length]
  rfl
theorem cs_many (S : BSet) (mn : Int) (many m2 : Bool) : (At.cs ⟨S, mn, many⟩).toArray.setIfInBounds 33 (.bool m2) = (At.cs ⟨S, mn, m2⟩).toArray := by
  apply Array.ext'
  simp only [Array.toList_setIfInBounds]
  unfold At.cs
  rw [List.set_append_right _ _ (by rw [setC_length]; omega), setC_length]
  rfl
theorem AV.min {B : Nat} {S : BSet} {mn : Int} {many : Bool} {W : World} (h : AV B ⟨S, mn, many⟩ W) : W.cell? ⟨B, 32, none⟩ = some (.int .i64 mn) := by
  have := rangeMin (o := 0) h.range; simpa using this
theorem AV.mny {B : Nat} {S : BSet} {mn : Int} {many : Bool} {W : World} (h : AV B ⟨S, mn, many⟩ W) : W.cell? ⟨B, 33, none⟩ = some (.bool many) := by
  have := rangeMany (o := 0) h.range; simpa using this
theorem AV.setMin {B : Nat} {S : BSet} {mn : Int} {many : Bool} {W : World} (h : AV B ⟨S, mn, many⟩ W) (m2 : Int) : AV B ⟨S, m2, many⟩ (W.setCell ⟨B, 32, none⟩ (.int .i64 m2)) := by
  have := setCell_at W B 32 _ 37 (.int .i64 m2) h; rwa [cs_min] at this
theorem AV.setMany {B : Nat} {S : BSet} {mn : Int} {many : Bool} {W : World} (h : AV B ⟨S, mn, many⟩ W) (m2 : Bool) : AV B ⟨S, mn, m2⟩ (W.setCell ⟨B, 33, none⟩ (.bool m2)) := by
  have := setCell_at W B 33 _ 37 (.bool m2) h; rwa [cs_many] at this

set_option maxHeartbeats 12800000 in
theorem rparse_any (s : ByteArray) (w : World) (hs : s.size ≤ 4000000000) :
    Calls Try.prog 15 #[.string s] w (PrsEnd w (parseF s)) := by
  generalize hres : parseF s = res
  unfold parseF at hres
  have H0 := Lib.hid hres; clear hres
  go_enter Try.func15, Try.ntmps15
  go_wp2_with fail
  go_loopw [5, 6] (fun v i wr => RpR s w res v i wr) (fun _ i _ => s.size + 1 - (intOf i).toNat)
  case atStart => exact ⟨0, [], s.size + 1, rfl, ⟨OwA.nil _ _, Below.refl _ _⟩, Nat.zero_le _, Nat.zero_le _, by omega, H0.out⟩
  case round =>
    clear H0
    obtain ⟨k, P, f, rfl, hM, hP, hk, hf, hr⟩ := hrel
    obtain ⟨f, rfl⟩ : ∃ g, f = g + 1 := ⟨f - 1, by omega⟩
    obtain ⟨p, c, hv, hpc, hcm, hats, hpb⟩ := hM.own.ats
    subst hv
    unfold maxLen at hcm
    have HM := Lib.hid hM; clear hM hats hpb
    have hwz := HM.out.bel.size
    rw [prsF] at hr
    by_cases hlt : k < s.size
    · rw [if_neg (by omega)] at hr
      have q0 : decide (k < s.size) = true := decide_eq_true hlt
      by_cases h32 : P.length = 32
      · rw [if_pos h32] at hr
        have q1 : ((P.length : Int) == 32) = true := by rw [h32]; rfl
        subst hr
        clear h32
        go_wp2_with fail
        go_ret3
        exact ⟨_, rfl, OwA.nil _ _, HM.out.bel⟩
      · rw [if_neg h32] at hr
        have q1 : ((P.length : Int) == 32) = false := by simp; omega
        have hP2 : P.length ≤ 31 := by omega
        have hst := fun W => rset_any s k hlt hs W
        cases hS : stF s k with
        | mk o m =>
          rw [hS] at hst hr
          have hstle := st_le hlt
          rw [hS] at hstle
          have hm1 := hstle.1; have hm2 := hstle.2
          clear hS h32 hstle
          have HST := Lib.hid hst; clear hst
          cases o with
          | none =>
            dsimp only at hr hm1 hm2
            clear hm2
            subst hr
            go_wp2_with fail
            refine (HST.out _).mono ?_; rintro e w1 ⟨S', rfl, hSS, b1⟩
            clear hSS
            have m1 := HM.out.call b1
            have m2 := m1.call (blw (Below.refl _ _) (.cells (List.replicate 32 (Value.int .u8 0)).toArray 35))
            have k2 := SAtT.new 35 w1
            have hrl := m1.row_lt
            have hz1 := m1.bel.size
            have H2 := Lib.hid (And.intro m2 (And.intro k2 hrl)); clear m1 m2 k2 b1 hrl
            unfold setV
            dsimp only
            go_upto_region 7 with (refine wpl_storeSet (by rfl) 35 (Or.inr rfl) _ _ (by rfl) w1.heap.size emptyS S' (by rfl) (by rfl) H2.out.2.1 ?_; intro w2 h2 g2)
            have m3 := H2.out.1.other g2 hz1 H2.out.2.2
            have H3 := Lib.hid m3; clear m3 H2 h2 g2
            go_wp2_with fail
            go_ret3
            exact ⟨_, rfl, OwA.nil _ _, H3.out.bel⟩
          | some S =>
            dsimp only at hr hm1 hm2
            have hkm := hm2 rfl
            have hq := qu_le hm1
            go_wp2_with fail
            refine (HST.out _).mono ?_; rintro e w1 ⟨S', rfl, hSS, b1⟩
            have hSS := hSS S rfl
            unfold setV
            dsimp only
            rw [hSS]
            clear hSS
            have m1 := HM.out.call b1
            have m2 := m1.call (blw (Below.refl _ _) (.cells (List.replicate 32 (Value.int .u8 0)).toArray 35))
            have k2 := SAtT.new 35 w1
            have hrl := m1.row_lt
            have hz1 := m1.bel.size
            have H2 := Lib.hid (And.intro m2 (And.intro k2 hrl)); clear m1 m2 k2 b1 hrl
            go_upto_region 7 with (refine wpl_storeSet (by rfl) 35 (Or.inr rfl) _ _ (by rfl) w1.heap.size emptyS S (by rfl) (by rfl) H2.out.2.1 ?_; intro w2 h2 g2)
            have m3 := H2.out.1.other g2 hz1 H2.out.2.2
            have m4 := m3.call (blw (Below.refl _ _) (.cells (At.cs ⟨S, 1, false⟩).toArray 37))
            have hz2 := m3.bel.size
            have hrl := m3.row_lt
            have a4 : AV w2.heap.size ⟨S, 1, false⟩ (w2.alloc (.cells (At.cs ⟨S, 1, false⟩).toArray 37)) := heap_alloc_new w2 _
            have H3 := Lib.hid h2
            have H4 := Lib.hid (And.intro m4 (And.intro a4 hrl)); clear m3 H2 h2 g2 m4 a4 hrl
            go_upto_region 9 with fail
            go_upto_region 10 with (first | (refine wpl_loadSet (by rfl) 35 (Or.inr rfl) _ (by rfl) w1.heap.size S (by rfl) H3.out ?_) | (refine wpl_buildAt1 (by rfl) _ _ (by rfl) S (by rfl) (by rfl) ?_) | (refine wpl_storeAt (by rfl) _ _ (by rfl) w2 _ (by rfl) (by rfl) (by rfl) ⟨S, 1, false⟩ (by rfl) ?_))
            obtain ⟨d, hu, hd⟩ := und37
            have HUD := Lib.hid (And.intro hu hd); clear hu hd
            clear H3
            generalize w2.alloc (.cells (At.cs ⟨S, 1, false⟩).toArray 37) = w3 at *
            by_cases hms : m < s.size
            · have qm : decide (m < s.size) = true := decide_eq_true hms
              have g3 := pk_get s m hms
              by_cases h42 : pk s m = 42
              · rw [h42] at g3
                have hqf : quF s m = (0, true, m + 1) := by unfold quF; rw [if_pos h42]
                rw [hqf] at hr hq
                dsimp only at hr hq
                have HR := Lib.hid hr; clear hr hqf
                clear h42
                have x0 := H4.out.2.1.min
                have f0 := Lib.frozen_of_heap H4.out.2.1 32
                have a5 := H4.out.2.1.setMin 0
                have x1 := a5.mny
                have f1 := Lib.frozen_of_heap a5 33
                have a6 := a5.setMany true
                have m6 := (H4.out.1.other (grow_cell w3 w2.heap.size 32 (.int .i64 0)) hz2 H4.out.2.2).other (grow_cell (w3.setCell ⟨w2.heap.size, 32, none⟩ (.int .i64 0)) w2.heap.size 33 (.bool true)) hz2 H4.out.2.2
                have H7 := Lib.hid (And.intro m6 a6); clear a6 m6 a5
                go_upto_region 21 with fail
                
                have hb8 : w.heap.size ≤ ((w3.setCell ⟨w2.heap.size, 32, none⟩ (.int .i64 0)).setCell ⟨w2.heap.size, 33, none⟩ (.bool true)).heap.size := H7.out.1.bel.size
                generalize (w3.setCell ⟨w2.heap.size, 32, none⟩ (.int .i64 0)).setCell ⟨w2.heap.size, 33, none⟩ (.bool true) = w7 at *
                have hc8 := heap_alloc_new w7 (.cells (At.cs ⟨S, 0, true⟩).toArray 37)
                have H8 := Lib.hid (And.intro (H7.out.1.call (blw (Below.refl _ _) (.cells (At.cs ⟨S, 0, true⟩).toArray 37))) hc8); clear hc8
                have hb9 : w.heap.size ≤ (w7.alloc (.cells (At.cs ⟨S, 0, true⟩).toArray 37)).heap.size := H8.out.1.bel.size
                go_wp2_with (first | (refine wpList_load_mid (by rfl) 37 _ (by rfl) w2.heap.size 0 (by rfl) (At.cs ⟨S, 0, true⟩) d H7.out.2.range HUD.out.1 HUD.out.2 (hin_of' _) ?_) | (refine wpl_sliceAt (by rfl) _ (by rfl) ⟨S, 0, true⟩ (by rfl) w7.heap.size (by rfl) ?_) | (refine wpl_appendAt _ (by rfl) _ _ (by rfl) w.heap.size P _ (by rfl) H8.out.1.own hb9 ⟨S, 0, true⟩ w7.heap.size (by rfl) H8.out.2 (by omega) ?_; intro v9 w9 o9 g9))
                have H9 := Lib.hid (H8.out.1.more g9 o9); clear o9 g9
                go_roundw
                case rel => exact ⟨m + 1, _, f, by first | rfl | go_num, H9.out, by simp; omega, by omega, by omega, HR.out⟩
                case measure => simp [intOf]; omega
              · have q42 : ((pk s m : Int) == 42) = false := by simp; omega
                by_cases h43 : pk s m = 43
                · rw [h43] at g3 q42
                  have hqf : quF s m = (1, true, m + 1) := by unfold quF; rw [if_neg h42, if_pos h43]
                  rw [hqf] at hr hq
                  dsimp only at hr hq
                  have HR := Lib.hid hr; clear hr hqf
                  clear h42 h43
                  have x0 := H4.out.2.1.mny
                  have f0 := Lib.frozen_of_heap H4.out.2.1 33
                  have a6 := H4.out.2.1.setMany true
                  have m6 := H4.out.1.other (grow_cell w3 w2.heap.size 33 (.bool true)) hz2 H4.out.2.2
                  have H7 := Lib.hid (And.intro m6 a6); clear a6 m6
                  go_upto_region 21 with fail
                  
                  have hb8 : w.heap.size ≤ (w3.setCell ⟨w2.heap.size, 33, none⟩ (.bool true)).heap.size := H7.out.1.bel.size
                  generalize w3.setCell ⟨w2.heap.size, 33, none⟩ (.bool true) = w7 at *
                  have hc8 := heap_alloc_new w7 (.cells (At.cs ⟨S, 1, true⟩).toArray 37)
                  have H8 := Lib.hid (And.intro (H7.out.1.call (blw (Below.refl _ _) (.cells (At.cs ⟨S, 1, true⟩).toArray 37))) hc8); clear hc8
                  have hb9 : w.heap.size ≤ (w7.alloc (.cells (At.cs ⟨S, 1, true⟩).toArray 37)).heap.size := H8.out.1.bel.size
                  go_wp2_with (first | (refine wpList_load_mid (by rfl) 37 _ (by rfl) w2.heap.size 0 (by rfl) (At.cs ⟨S, 1, true⟩) d H7.out.2.range HUD.out.1 HUD.out.2 (hin_of' _) ?_) | (refine wpl_sliceAt (by rfl) _ (by rfl) ⟨S, 1, true⟩ (by rfl) w7.heap.size (by rfl) ?_) | (refine wpl_appendAt _ (by rfl) _ _ (by rfl) w.heap.size P _ (by rfl) H8.out.1.own hb9 ⟨S, 1, true⟩ w7.heap.size (by rfl) H8.out.2 (by omega) ?_; intro v9 w9 o9 g9))
                  have H9 := Lib.hid (H8.out.1.more g9 o9); clear o9 g9
                  go_roundw
                  case rel => exact ⟨m + 1, _, f, by first | rfl | go_num, H9.out, by simp; omega, by omega, by omega, HR.out⟩
                  case measure => simp [intOf]; omega
                · have q43 : ((pk s m : Int) == 43) = false := by simp; omega
                  by_cases h63 : pk s m = 63
                  · rw [h63] at g3 q42 q43
                    have hqf : quF s m = (0, false, m + 1) := by unfold quF; rw [if_neg h42, if_neg h43, if_pos h63]
                    rw [hqf] at hr hq
                    dsimp only at hr hq
                    have HR := Lib.hid hr; clear hr hqf
                    clear h42 h43 h63
                    have x0 := H4.out.2.1.min
                    have f0 := Lib.frozen_of_heap H4.out.2.1 32
                    have a6 := H4.out.2.1.setMin 0
                    have m6 := H4.out.1.other (grow_cell w3 w2.heap.size 32 (.int .i64 0)) hz2 H4.out.2.2
                    have H7 := Lib.hid (And.intro m6 a6); clear a6 m6
                    go_upto_region 21 with fail
                    
                    have hb8 : w.heap.size ≤ (w3.setCell ⟨w2.heap.size, 32, none⟩ (.int .i64 0)).heap.size := H7.out.1.bel.size
                    generalize w3.setCell ⟨w2.heap.size, 32, none⟩ (.int .i64 0) = w7 at *
                    have hc8 := heap_alloc_new w7 (.cells (At.cs ⟨S, 0, false⟩).toArray 37)
                    have H8 := Lib.hid (And.intro (H7.out.1.call (blw (Below.refl _ _) (.cells (At.cs ⟨S, 0, false⟩).toArray 37))) hc8); clear hc8
                    have hb9 : w.heap.size ≤ (w7.alloc (.cells (At.cs ⟨S, 0, false⟩).toArray 37)).heap.size := H8.out.1.bel.size
                    go_wp2_with (first | (refine wpList_load_mid (by rfl) 37 _ (by rfl) w2.heap.size 0 (by rfl) (At.cs ⟨S, 0, false⟩) d H7.out.2.range HUD.out.1 HUD.out.2 (hin_of' _) ?_) | (refine wpl_sliceAt (by rfl) _ (by rfl) ⟨S, 0, false⟩ (by rfl) w7.heap.size (by rfl) ?_) | (refine wpl_appendAt _ (by rfl) _ _ (by rfl) w.heap.size P _ (by rfl) H8.out.1.own hb9 ⟨S, 0, false⟩ w7.heap.size (by rfl) H8.out.2 (by omega) ?_; intro v9 w9 o9 g9))
                    have H9 := Lib.hid (H8.out.1.more g9 o9); clear o9 g9
                    go_roundw
                    case rel => exact ⟨m + 1, _, f, by first | rfl | go_num, H9.out, by simp; omega, by omega, by omega, HR.out⟩
                    case measure => simp [intOf]; omega
                  · have q63 : ((pk s m : Int) == 63) = false := by simp; omega
                    have hqf : quF s m = (1, false, m) := by unfold quF; rw [if_neg h42, if_neg h43, if_neg h63]
                    rw [hqf] at hr hq
                    dsimp only at hr hq
                    have HR := Lib.hid hr; clear hr hqf
                    clear h42 h43 h63
                    have H7 := Lib.hid (And.intro H4.out.1 H4.out.2.1)
                    go_upto_region 21 with fail
                    
                    have hb8 : w.heap.size ≤ (w3).heap.size := H7.out.1.bel.size
                    generalize w3 = w7 at *
                    have hc8 := heap_alloc_new w7 (.cells (At.cs ⟨S, 1, false⟩).toArray 37)
                    have H8 := Lib.hid (And.intro (H7.out.1.call (blw (Below.refl _ _) (.cells (At.cs ⟨S, 1, false⟩).toArray 37))) hc8); clear hc8
                    have hb9 : w.heap.size ≤ (w7.alloc (.cells (At.cs ⟨S, 1, false⟩).toArray 37)).heap.size := H8.out.1.bel.size
                    go_wp2_with (first | (refine wpList_load_mid (by rfl) 37 _ (by rfl) w2.heap.size 0 (by rfl) (At.cs ⟨S, 1, false⟩) d H7.out.2.range HUD.out.1 HUD.out.2 (hin_of' _) ?_) | (refine wpl_sliceAt (by rfl) _ (by rfl) ⟨S, 1, false⟩ (by rfl) w7.heap.size (by rfl) ?_) | (refine wpl_appendAt _ (by rfl) _ _ (by rfl) w.heap.size P _ (by rfl) H8.out.1.own hb9 ⟨S, 1, false⟩ w7.heap.size (by rfl) H8.out.2 (by omega) ?_; intro v9 w9 o9 g9))
                    have H9 := Lib.hid (H8.out.1.more g9 o9); clear o9 g9
                    go_roundw
                    case rel => exact ⟨m, _, f, by first | rfl | go_num, H9.out, by simp; omega, by omega, by omega, HR.out⟩
                    case measure => simp [intOf]; omega
            · have qm : decide (m < s.size) = false := decide_eq_false hms
              have hpe := pk_end (s := s) (n := m) (by omega)
              have hqf : quF s m = (1, false, m) := by unfold quF; rw [hpe]; rfl
              rw [hqf] at hr hq
              dsimp only at hr hq
              have HR := Lib.hid hr; clear hr hqf
              clear hpe
              have H7 := Lib.hid (And.intro H4.out.1 H4.out.2.1)
              go_upto_region 21 with fail
              
              have hb8 : w.heap.size ≤ (w3).heap.size := H7.out.1.bel.size
              generalize w3 = w7 at *
              have hc8 := heap_alloc_new w7 (.cells (At.cs ⟨S, 1, false⟩).toArray 37)
              have H8 := Lib.hid (And.intro (H7.out.1.call (blw (Below.refl _ _) (.cells (At.cs ⟨S, 1, false⟩).toArray 37))) hc8); clear hc8
              have hb9 : w.heap.size ≤ (w7.alloc (.cells (At.cs ⟨S, 1, false⟩).toArray 37)).heap.size := H8.out.1.bel.size
              go_wp2_with (first | (refine wpList_load_mid (by rfl) 37 _ (by rfl) w2.heap.size 0 (by rfl) (At.cs ⟨S, 1, false⟩) d H7.out.2.range HUD.out.1 HUD.out.2 (hin_of' _) ?_) | (refine wpl_sliceAt (by rfl) _ (by rfl) ⟨S, 1, false⟩ (by rfl) w7.heap.size (by rfl) ?_) | (refine wpl_appendAt _ (by rfl) _ _ (by rfl) w.heap.size P _ (by rfl) H8.out.1.own hb9 ⟨S, 1, false⟩ w7.heap.size (by rfl) H8.out.2 (by omega) ?_; intro v9 w9 o9 g9))
              have H9 := Lib.hid (H8.out.1.more g9 o9); clear o9 g9
              go_roundw
              case rel => exact ⟨m, _, f, by first | rfl | go_num, H9.out, by simp; omega, by omega, by omega, HR.out⟩
              case measure => simp [intOf]; omega
    · rw [if_pos (by omega)] at hr
      have q0 : decide (k < s.size) = false := decide_eq_false hlt
      subst hr
      go_wp2_with fail
      go_ret3
      exact ⟨_, rfl, HM.out.own, HM.out.bel⟩
end Go.Proofs.Ytdnofpllmhnacaa
