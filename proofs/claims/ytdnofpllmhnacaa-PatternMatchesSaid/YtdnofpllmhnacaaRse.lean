/- The reference's set. -/
import Derived.Test.YtdnofpllmhnacaaRbe
namespace Go.Proofs.Ytdnofpllmhnacaa
open Go.ChangeShapes Go.WideShapes Go.ChangeAt Go.RowKit Go.Sort
set_option linter.unusedVariables false
set_option linter.unusedSimpArgs false
set_option maxRecDepth 100000

/-- The set whose first k cells are full. -/
def allK (k : Nat) : BSet := fun b => decide (b < 8 * k)
theorem allK_zero : allK 0 = emptyS := by funext b; unfold allK emptyS; simp
theorem allK_byte (k : Nat) : byteOf (allK (k + 1)) k = 255 := by
  refine (byteOf_eq (by decide) fun j hj => ?_).symm
  unfold allK
  rw [decide_eq_true (by omega)]
  match j, hj with
  | 0, _ => rfl | 1, _ => rfl | 2, _ => rfl | 3, _ => rfl | 4, _ => rfl | 5, _ => rfl | 6, _ => rfl | 7, _ => rfl
theorem allK_other (k j : Nat) (h : j ≠ k) : byteOf (allK k) j = byteOf (allK (k + 1)) j := by
  refine byteOf_eq (byteOf_lt _ j) fun i hi => ?_
  rw [byteOf_bit _ j i hi]
  unfold allK
  by_cases h1 : 8 * j + i < 8 * k
  · rw [decide_eq_true h1, decide_eq_true (by omega)]
  · rw [decide_eq_false h1, decide_eq_false (by omega)]
theorem allK_all : setC (allK 32) = setC allS := setC_congr fun b hb => by unfold allK allS; rw [decide_eq_true (by omega)]

set_option maxHeartbeats 6400000 in
theorem rs_dot (s : ByteArray) (i : Nat)  (hi : i < s.size) (hsm : s.size ≤ 4000000000) (he : pk s i = 46) (w : World) :
    Calls Try.prog 35 #[.string s, .int .i64 i] w (BrEnd w (some allS, i + 1)) := by
  have s1 : SAtT 35 w.heap.size emptyS ((w.alloc (.cells (List.replicate 32 (Value.int .u8 0)).toArray 35)).alloc (.cells (List.replicate 32 (Value.int .u8 0)).toArray 35)) := (SAtT.new 35 w).call (blw (Below.refl _ _) _)
  have s2 : SAtT 35 (w.heap.size + 1) emptyS ((w.alloc (.cells (List.replicate 32 (Value.int .u8 0)).toArray 35)).alloc (.cells (List.replicate 32 (Value.int .u8 0)).toArray 35)) := by
    have := SAtT.new 35 (w.alloc (.cells (List.replicate 32 (Value.int .u8 0)).toArray 35))
    rwa [show (w.alloc (.cells (List.replicate 32 (Value.int .u8 0)).toArray 35)).heap.size = w.heap.size + 1 by simp] at this
  have s3 := blw (blw (Below.refl w.heap.size w) (.cells (List.replicate 32 (Value.int .u8 0)).toArray 35)) (.cells (List.replicate 32 (Value.int .u8 0)).toArray 35)
  have H0 := Lib.hid (show BW w emptyS _ from ⟨s1, s2, s3⟩)
  clear s1 s2 s3
  have g0 := pk_get s i hi
  have hx := pk_le s i
  rw [he] at g0
  clear he hx
  go_enter Try.func35, Try.ntmps35
  go_wp2_with fail
  go_loopw [16] (fun i wr' => ∃ t : Nat, t ≤ 32 ∧ i = .int .i64 t ∧ BW w (allK t) wr') (fun i _ => 32 - (intOf i).toNat)
  case atStart => exact ⟨0, Nat.zero_le _, rfl, by rw [allK_zero]; exact H0.out⟩
  case round =>
    clear H0
    obtain ⟨t, ht, rfl, hI⟩ := hrel
    by_cases hlt2 : t < 32
    · have u0 : decide ((t : Int) < 32) = true := decide_eq_true (by omega)
      have hc := hI.b.range t _ (setC_at (allK t) t hlt2)
      rw [Nat.zero_add] at hc
      have fr := Lib.frozen_of_heap hI.b t
      have hix := indexAt_35 (w.heap.size + 1) t hlt2
      have hset := setCell_at wr (w.heap.size + 1) t _ 35 (.int .u8 (byteOf (allK (t + 1)) t : Int)) hI.b
      rw [setC_set (allK t) (allK (t + 1)) t hlt2 (fun j _ hj => allK_other t j hj)] at hset
      have hI2 := hI.set (T := allK (t + 1)) (grow_cell wr (w.heap.size + 1) t (.int .u8 (byteOf (allK (t + 1)) t : Int))) hset
      rw [allK_byte] at hI2
      have k0 : (0 : Int) ≤ (t : Int) := by omega
      have k1 : (t : Int) < 32 := by omega
      have HX := Lib.hid hI2
      clear hset hI2 hI
      go_wp2_with fail
      go_roundw
      case rel => exact ⟨t + 1, by omega, by go_num, HX.out⟩
      case measure => simp [intOf]; omega
    · have u0 : decide ((t : Int) < 32) = false := decide_eq_false (by omega)
      obtain rfl : t = 32 := by omega
      have hI2 : BW w allS wr := ⟨hI.a, by have := hI.b; unfold SAtT at this ⊢; rw [allK_all] at this; exact this, hI.bel⟩
      have HI := Lib.hid hI2; clear hI hI2
      go_upto_region 8 with fail
      go_wp2_with (first | (refine wpl_loadSet (by rfl) 35 (Or.inr rfl) _ (by rfl) (w.heap.size + 1) allS (by rfl) HI.out.b ?_) | (refine wpl_storeSet (by rfl) 35 (Or.inr rfl) _ _ (by rfl) w.heap.size emptyS allS (by rfl) (by rfl) HI.out.a ?_; intro w5 h5 g5))
      have hld := SAtT.read (Or.inr rfl) h5
      have hB := HI.out.bel.grown g5 HI.out.bel.size (fun j hj => by cases hj; omega)
      (try simp only [Exit.inBlock, Exit.then])
      refine bodyPost_ret (v := .tuple #[.agg (setC allS).toArray, .int .i64 ((i : Int) + 1), .int .i64 (-1)]) (by simp [results, Try.results35, asAddr, Result.andThen, hld, Act.put]) rfl ⟨allS, rfl, fun S h => (by cases h; rfl), hB⟩
set_option maxHeartbeats 6400000 in
theorem rs_open (s : ByteArray) (i : Nat)  (hi : i < s.size) (hsm : s.size ≤ 4000000000) (he : pk s i = 91) (w : World) :
    Calls Try.prog 35 #[.string s, .int .i64 i] w (BrEnd w (brF s (i + 1))) := by
  have s1 : SAtT 35 w.heap.size emptyS ((w.alloc (.cells (List.replicate 32 (Value.int .u8 0)).toArray 35)).alloc (.cells (List.replicate 32 (Value.int .u8 0)).toArray 35)) := (SAtT.new 35 w).call (blw (Below.refl _ _) _)
  have s2 : SAtT 35 (w.heap.size + 1) emptyS ((w.alloc (.cells (List.replicate 32 (Value.int .u8 0)).toArray 35)).alloc (.cells (List.replicate 32 (Value.int .u8 0)).toArray 35)) := by
    have := SAtT.new 35 (w.alloc (.cells (List.replicate 32 (Value.int .u8 0)).toArray 35))
    rwa [show (w.alloc (.cells (List.replicate 32 (Value.int .u8 0)).toArray 35)).heap.size = w.heap.size + 1 by simp] at this
  have s3 := blw (blw (Below.refl w.heap.size w) (.cells (List.replicate 32 (Value.int .u8 0)).toArray 35)) (.cells (List.replicate 32 (Value.int .u8 0)).toArray 35)
  have H0 := Lib.hid (show BW w emptyS _ from ⟨s1, s2, s3⟩)
  clear s1 s2 s3
  have g0 := pk_get s i hi
  have hx := pk_le s i
  have hb := fun W => brackets_any s i hi hsm W
  rw [he] at g0
  generalize brF s (i + 1) = r at *
  obtain ⟨o, m⟩ := r
  have HBR := Lib.hid hb; clear hb he hx
  go_enter Try.func35, Try.ntmps35
  go_wp2_with fail
  refine (HBR.out _).mono ?_; rintro e w3 ⟨S', rfl, hS, b3⟩
  have H3 := Lib.hid (H0.out.call b3); have HS := Lib.hid hS; clear b3 hS H0
  cases o with
  | none =>
    unfold setV
    dsimp only
    go_wp2_with (refine wpl_storeSet (by rfl) 35 (Or.inr rfl) _ _ (by rfl) w.heap.size emptyS S' (by rfl) (by rfl) H3.out.a ?_; intro w5 h5 g5)
    have hld := SAtT.read (Or.inr rfl) h5
    have hB := H3.out.bel.grown g5 H3.out.bel.size (fun j hj => by cases hj; omega)
    (try simp only [Exit.inBlock, Exit.then])
    refine bodyPost_ret (v := .tuple #[.agg (setC S').toArray, .int .i64 (0), .int .i64 ((m : Int))]) (by simp [results, Try.results35, asAddr, Result.andThen, hld, Act.put]) rfl ⟨S', rfl, HS.out, hB⟩
  | some S =>
    unfold setV
    dsimp only
    go_wp2_with (refine wpl_storeSet (by rfl) 35 (Or.inr rfl) _ _ (by rfl) w.heap.size emptyS S' (by rfl) (by rfl) H3.out.a ?_; intro w5 h5 g5)
    have hld := SAtT.read (Or.inr rfl) h5
    have hB := H3.out.bel.grown g5 H3.out.bel.size (fun j hj => by cases hj; omega)
    (try simp only [Exit.inBlock, Exit.then])
    refine bodyPost_ret (v := .tuple #[.agg (setC S').toArray, .int .i64 ((m : Int)), .int .i64 (-1)]) (by simp [results, Try.results35, asAddr, Result.andThen, hld, Act.put]) rfl ⟨S', rfl, HS.out, hB⟩
set_option maxHeartbeats 6400000 in
theorem rs_back_end (s : ByteArray) (i : Nat)  (hi : i < s.size) (hsm : s.size ≤ 4000000000) (he : pk s i = 92) (hl : ¬ i + 1 < s.size) (w : World) :
    Calls Try.prog 35 #[.string s, .int .i64 i] w (BrEnd w (none, s.size)) := by
  have s1 : SAtT 35 w.heap.size emptyS ((w.alloc (.cells (List.replicate 32 (Value.int .u8 0)).toArray 35)).alloc (.cells (List.replicate 32 (Value.int .u8 0)).toArray 35)) := (SAtT.new 35 w).call (blw (Below.refl _ _) _)
  have s2 : SAtT 35 (w.heap.size + 1) emptyS ((w.alloc (.cells (List.replicate 32 (Value.int .u8 0)).toArray 35)).alloc (.cells (List.replicate 32 (Value.int .u8 0)).toArray 35)) := by
    have := SAtT.new 35 (w.alloc (.cells (List.replicate 32 (Value.int .u8 0)).toArray 35))
    rwa [show (w.alloc (.cells (List.replicate 32 (Value.int .u8 0)).toArray 35)).heap.size = w.heap.size + 1 by simp] at this
  have s3 := blw (blw (Below.refl w.heap.size w) (.cells (List.replicate 32 (Value.int .u8 0)).toArray 35)) (.cells (List.replicate 32 (Value.int .u8 0)).toArray 35)
  have H0 := Lib.hid (show BW w emptyS _ from ⟨s1, s2, s3⟩)
  clear s1 s2 s3
  have g0 := pk_get s i hi
  have hx := pk_le s i
  rw [he] at g0
  have z1 : decide ((s.size : Int) ≤ (i : Int) + 1) = true := by simp; omega
  clear he hx
  go_enter Try.func35, Try.ntmps35
  go_upto_region 13 with fail
  go_wp2_with (first | (refine wpl_loadSet (by rfl) 35 (Or.inr rfl) _ (by rfl) (w.heap.size + 1) emptyS (by rfl) H0.out.b ?_) | (refine wpl_storeSet (by rfl) 35 (Or.inr rfl) _ _ (by rfl) w.heap.size emptyS emptyS (by rfl) (by rfl) H0.out.a ?_; intro w5 h5 g5))
  have hld := SAtT.read (Or.inr rfl) h5
  have hB := H0.out.bel.grown g5 H0.out.bel.size (fun j hj => by cases hj; omega)
  (try simp only [Exit.inBlock, Exit.then])
  refine bodyPost_ret (v := .tuple #[.agg (setC emptyS).toArray, .int .i64 (0), .int .i64 ((s.size : Int))]) (by simp [results, Try.results35, asAddr, Result.andThen, hld, Act.put]) rfl ⟨emptyS, rfl, fun S h => (by cases h), hB⟩
set_option maxHeartbeats 6400000 in
theorem rs_named (s : ByteArray) (i : Nat) (T : BSet) (hi : i < s.size) (hsm : s.size ≤ 4000000000) (he : pk s i = 92) (hl : i + 1 < s.size) (hnm : nmS (pk s (i + 1)) = some T) (w : World) :
    Calls Try.prog 35 #[.string s, .int .i64 i] w (BrEnd w (some T, i + 2)) := by
  have s1 : SAtT 35 w.heap.size emptyS ((w.alloc (.cells (List.replicate 32 (Value.int .u8 0)).toArray 35)).alloc (.cells (List.replicate 32 (Value.int .u8 0)).toArray 35)) := (SAtT.new 35 w).call (blw (Below.refl _ _) _)
  have s2 : SAtT 35 (w.heap.size + 1) emptyS ((w.alloc (.cells (List.replicate 32 (Value.int .u8 0)).toArray 35)).alloc (.cells (List.replicate 32 (Value.int .u8 0)).toArray 35)) := by
    have := SAtT.new 35 (w.alloc (.cells (List.replicate 32 (Value.int .u8 0)).toArray 35))
    rwa [show (w.alloc (.cells (List.replicate 32 (Value.int .u8 0)).toArray 35)).heap.size = w.heap.size + 1 by simp] at this
  have s3 := blw (blw (Below.refl w.heap.size w) (.cells (List.replicate 32 (Value.int .u8 0)).toArray 35)) (.cells (List.replicate 32 (Value.int .u8 0)).toArray 35)
  have H0 := Lib.hid (show BW w emptyS _ from ⟨s1, s2, s3⟩)
  clear s1 s2 s3
  have g0 := pk_get s i hi
  have hx := pk_le s i
  rw [he] at g0
  have z1 : decide ((s.size : Int) ≤ (i : Int) + 1) = false := by simp; omega
  have z2 : ((i : Int) + 1).toNat = i + 1 := by omega
  have z3 : (0 : Int) ≤ (i : Int) + 1 := by omega
  have z4 : (i : Int) + 1 < (s.size : Int) := by omega
  have g3 := pk_get s (i + 1) hl
  have hx1 := pk_le s (i + 1)
  have hcl := fun W => rclass_any (pk s (i + 1)) hx1 W
  have hof := fun W => rof_any (pk s (i + 1) : Int) W (by omega) (by omega)
  generalize pk s (i + 1) = c at *
  rw [hnm] at hcl
  have HCL := Lib.hid hcl; clear hcl hof hnm he hx
  go_enter Try.func35, Try.ntmps35
  go_wp2_with fail
  refine (HCL.out _).mono ?_; rintro e w1 ⟨rfl, b1⟩
  have W1 := H0.out.call b1
  have hbig1 := W1.big
  have W2 := W1.call (blw (Below.refl _ _) (.cells (List.replicate 32 (Value.int .u8 0)).toArray 35))
  have k2 := SAtT.new 35 w1
  have H2 := Lib.hid (And.intro W2 k2); clear W1 W2 k2 b1
  simp only [Option.getD_some, Option.isSome_some, Option.getD_none, Option.isSome_none]
  go_upto_region 15 with (refine wpl_storeSet (by rfl) 35 (Or.inr rfl) _ _ (by rfl) w1.heap.size emptyS T (by rfl) (by rfl) H2.out.2 ?_; intro w2 h2 g2)
  have H3 := Lib.hid (H2.out.1.other g2 hbig1); have H4 := Lib.hid h2; clear H2 h2 g2
  go_upto_region 16 with fail
  go_wp2_with (first | (refine wpl_loadSet (by rfl) 35 (Or.inr rfl) _ (by rfl) w1.heap.size T (by rfl) H4.out ?_) | (refine wpl_storeSet (by rfl) 35 (Or.inr rfl) _ _ (by rfl) w.heap.size emptyS T (by rfl) (by rfl) H3.out.a ?_; intro w5 h5 g5))
  have hld := SAtT.read (Or.inr rfl) h5
  have hB := H3.out.bel.grown g5 H3.out.bel.size (fun j hj => by cases hj; omega)
  (try simp only [Exit.inBlock, Exit.then])
  refine bodyPost_ret (v := .tuple #[.agg (setC T).toArray, .int .i64 ((i : Int) + 2), .int .i64 (-1)]) (by simp [results, Try.results35, asAddr, Result.andThen, hld, Act.put]) rfl ⟨T, rfl, fun S h => (by cases h; rfl), hB⟩
set_option maxHeartbeats 6400000 in
theorem rs_sign (s : ByteArray) (i : Nat)  (hi : i < s.size) (hsm : s.size ≤ 4000000000) (he : pk s i = 92) (hl : i + 1 < s.size) (hnm : nmS (pk s (i + 1)) = none) (h5 : cls (pk s (i + 1)) = 5) (w : World) :
    Calls Try.prog 35 #[.string s, .int .i64 i] w (BrEnd w (some (addS emptyS (pk s (i + 1))), i + 2)) := by
  have s1 : SAtT 35 w.heap.size emptyS ((w.alloc (.cells (List.replicate 32 (Value.int .u8 0)).toArray 35)).alloc (.cells (List.replicate 32 (Value.int .u8 0)).toArray 35)) := (SAtT.new 35 w).call (blw (Below.refl _ _) _)
  have s2 : SAtT 35 (w.heap.size + 1) emptyS ((w.alloc (.cells (List.replicate 32 (Value.int .u8 0)).toArray 35)).alloc (.cells (List.replicate 32 (Value.int .u8 0)).toArray 35)) := by
    have := SAtT.new 35 (w.alloc (.cells (List.replicate 32 (Value.int .u8 0)).toArray 35))
    rwa [show (w.alloc (.cells (List.replicate 32 (Value.int .u8 0)).toArray 35)).heap.size = w.heap.size + 1 by simp] at this
  have s3 := blw (blw (Below.refl w.heap.size w) (.cells (List.replicate 32 (Value.int .u8 0)).toArray 35)) (.cells (List.replicate 32 (Value.int .u8 0)).toArray 35)
  have H0 := Lib.hid (show BW w emptyS _ from ⟨s1, s2, s3⟩)
  clear s1 s2 s3
  have g0 := pk_get s i hi
  have hx := pk_le s i
  rw [he] at g0
  have z1 : decide ((s.size : Int) ≤ (i : Int) + 1) = false := by simp; omega
  have z2 : ((i : Int) + 1).toNat = i + 1 := by omega
  have z3 : (0 : Int) ≤ (i : Int) + 1 := by omega
  have z4 : (i : Int) + 1 < (s.size : Int) := by omega
  have g3 := pk_get s (i + 1) hl
  have hx1 := pk_le s (i + 1)
  have hcl := fun W => rclass_any (pk s (i + 1)) hx1 W
  have hof := fun W => rof_any (pk s (i + 1) : Int) W (by omega) (by omega)
  have hput := fun W h => put_any (w.heap.size + 1) emptyS (pk s (i + 1)) hx1 W h
  generalize pk s (i + 1) = c at *
  rw [h5] at hof
  have HPUT := Lib.hid hput; clear hput
  rw [hnm] at hcl
  have HCL := Lib.hid hcl; have HOF := Lib.hid hof; clear hcl hof hnm he hx h5
  go_enter Try.func35, Try.ntmps35
  go_wp2_with fail
  refine (HCL.out _).mono ?_; rintro e w1 ⟨rfl, b1⟩
  have W1 := H0.out.call b1
  have hbig1 := W1.big
  have W2 := W1.call (blw (Below.refl _ _) (.cells (List.replicate 32 (Value.int .u8 0)).toArray 35))
  have k2 := SAtT.new 35 w1
  have H2 := Lib.hid (And.intro W2 k2); clear W1 W2 k2 b1
  simp only [Option.getD_some, Option.isSome_some, Option.getD_none, Option.isSome_none]
  go_upto_region 15 with (refine wpl_storeSet (by rfl) 35 (Or.inr rfl) _ _ (by rfl) w1.heap.size emptyS emptyS (by rfl) (by rfl) H2.out.2 ?_; intro w2 h2 g2)
  have H3 := Lib.hid (H2.out.1.other g2 hbig1); have H4 := Lib.hid h2; clear H2 h2 g2
  go_wp2_with fail
  refine (HOF.out _).mono ?_; rintro e w' ⟨rfl, rfl⟩
  go_wp2_with fail
  refine (HPUT.out _ H3.out.b).mono ?_; rintro e w6 ⟨rfl, g6, h6⟩
  have H6 := Lib.hid (H3.out.set g6 h6); clear g6 h6 H3
  generalize hS : addS emptyS c = S at *
  have HSx := Lib.hid hS; clear hS
  go_upto_region 20 with fail
  go_wp2_with (first | (refine wpl_loadSet (by rfl) 35 (Or.inr rfl) _ (by rfl) (w.heap.size + 1) S (by rfl) H6.out.b ?_) | (refine wpl_storeSet (by rfl) 35 (Or.inr rfl) _ _ (by rfl) w.heap.size emptyS S (by rfl) (by rfl) H6.out.a ?_; intro w5 h5 g5))
  have hld := SAtT.read (Or.inr rfl) h5
  have hB := H6.out.bel.grown g5 H6.out.bel.size (fun j hj => by cases hj; omega)
  (try simp only [Exit.inBlock, Exit.then])
  refine bodyPost_ret (v := .tuple #[.agg (setC S).toArray, .int .i64 ((i : Int) + 2), .int .i64 (-1)]) (by simp [results, Try.results35, asAddr, Result.andThen, hld, Act.put]) rfl ⟨S, rfl, fun S2 h => (by cases h; rfl), hB⟩
set_option maxHeartbeats 6400000 in
theorem rs_bad (s : ByteArray) (i : Nat)  (hi : i < s.size) (hsm : s.size ≤ 4000000000) (he : pk s i = 92) (hl : i + 1 < s.size) (hnm : nmS (pk s (i + 1)) = none) (h5 : ¬ cls (pk s (i + 1)) = 5) (w : World) :
    Calls Try.prog 35 #[.string s, .int .i64 i] w (BrEnd w (none, i + 1)) := by
  have s1 : SAtT 35 w.heap.size emptyS ((w.alloc (.cells (List.replicate 32 (Value.int .u8 0)).toArray 35)).alloc (.cells (List.replicate 32 (Value.int .u8 0)).toArray 35)) := (SAtT.new 35 w).call (blw (Below.refl _ _) _)
  have s2 : SAtT 35 (w.heap.size + 1) emptyS ((w.alloc (.cells (List.replicate 32 (Value.int .u8 0)).toArray 35)).alloc (.cells (List.replicate 32 (Value.int .u8 0)).toArray 35)) := by
    have := SAtT.new 35 (w.alloc (.cells (List.replicate 32 (Value.int .u8 0)).toArray 35))
    rwa [show (w.alloc (.cells (List.replicate 32 (Value.int .u8 0)).toArray 35)).heap.size = w.heap.size + 1 by simp] at this
  have s3 := blw (blw (Below.refl w.heap.size w) (.cells (List.replicate 32 (Value.int .u8 0)).toArray 35)) (.cells (List.replicate 32 (Value.int .u8 0)).toArray 35)
  have H0 := Lib.hid (show BW w emptyS _ from ⟨s1, s2, s3⟩)
  clear s1 s2 s3
  have g0 := pk_get s i hi
  have hx := pk_le s i
  rw [he] at g0
  have z1 : decide ((s.size : Int) ≤ (i : Int) + 1) = false := by simp; omega
  have z2 : ((i : Int) + 1).toNat = i + 1 := by omega
  have z3 : (0 : Int) ≤ (i : Int) + 1 := by omega
  have z4 : (i : Int) + 1 < (s.size : Int) := by omega
  have g3 := pk_get s (i + 1) hl
  have hx1 := pk_le s (i + 1)
  have hcl := fun W => rclass_any (pk s (i + 1)) hx1 W
  have hof := fun W => rof_any (pk s (i + 1) : Int) W (by omega) (by omega)
  generalize pk s (i + 1) = c at *
  have q5 : (cls (c : Int) != 5) = true := by simpa using h5
  generalize cls (c : Int) = cc at *
  rw [hnm] at hcl
  have HCL := Lib.hid hcl; have HOF := Lib.hid hof; clear hcl hof hnm he hx h5
  go_enter Try.func35, Try.ntmps35
  go_wp2_with fail
  refine (HCL.out _).mono ?_; rintro e w1 ⟨rfl, b1⟩
  have W1 := H0.out.call b1
  have hbig1 := W1.big
  have W2 := W1.call (blw (Below.refl _ _) (.cells (List.replicate 32 (Value.int .u8 0)).toArray 35))
  have k2 := SAtT.new 35 w1
  have H2 := Lib.hid (And.intro W2 k2); clear W1 W2 k2 b1
  simp only [Option.getD_some, Option.isSome_some, Option.getD_none, Option.isSome_none]
  go_upto_region 15 with (refine wpl_storeSet (by rfl) 35 (Or.inr rfl) _ _ (by rfl) w1.heap.size emptyS emptyS (by rfl) (by rfl) H2.out.2 ?_; intro w2 h2 g2)
  have H3 := Lib.hid (H2.out.1.other g2 hbig1); have H4 := Lib.hid h2; clear H2 h2 g2
  go_wp2_with fail
  refine (HOF.out _).mono ?_; rintro e w' ⟨rfl, rfl⟩
  go_upto_region 18 with fail
  go_wp2_with (first | (refine wpl_loadSet (by rfl) 35 (Or.inr rfl) _ (by rfl) (w.heap.size + 1) emptyS (by rfl) H3.out.b ?_) | (refine wpl_storeSet (by rfl) 35 (Or.inr rfl) _ _ (by rfl) w.heap.size emptyS emptyS (by rfl) (by rfl) H3.out.a ?_; intro w5 h5 g5))
  have hld := SAtT.read (Or.inr rfl) h5
  have hB := H3.out.bel.grown g5 H3.out.bel.size (fun j hj => by cases hj; omega)
  (try simp only [Exit.inBlock, Exit.then])
  refine bodyPost_ret (v := .tuple #[.agg (setC emptyS).toArray, .int .i64 (0), .int .i64 ((i : Int) + 1)]) (by simp [results, Try.results35, asAddr, Result.andThen, hld, Act.put]) rfl ⟨emptyS, rfl, fun S h => (by cases h), hB⟩
set_option maxHeartbeats 6400000 in
theorem rs_plain (s : ByteArray) (i : Nat)  (hi : i < s.size) (hsm : s.size ≤ 4000000000) (h1 : ¬ pk s i = 46) (h2 : ¬ pk s i = 91) (h3 : ¬ pk s i = 92) (ho : okB sgO false (pk s i) = true) (w : World) :
    Calls Try.prog 35 #[.string s, .int .i64 i] w (BrEnd w (some (addS emptyS (pk s i)), i + 1)) := by
  have s1 : SAtT 35 w.heap.size emptyS ((w.alloc (.cells (List.replicate 32 (Value.int .u8 0)).toArray 35)).alloc (.cells (List.replicate 32 (Value.int .u8 0)).toArray 35)) := (SAtT.new 35 w).call (blw (Below.refl _ _) _)
  have s2 : SAtT 35 (w.heap.size + 1) emptyS ((w.alloc (.cells (List.replicate 32 (Value.int .u8 0)).toArray 35)).alloc (.cells (List.replicate 32 (Value.int .u8 0)).toArray 35)) := by
    have := SAtT.new 35 (w.alloc (.cells (List.replicate 32 (Value.int .u8 0)).toArray 35))
    rwa [show (w.alloc (.cells (List.replicate 32 (Value.int .u8 0)).toArray 35)).heap.size = w.heap.size + 1 by simp] at this
  have s3 := blw (blw (Below.refl w.heap.size w) (.cells (List.replicate 32 (Value.int .u8 0)).toArray 35)) (.cells (List.replicate 32 (Value.int .u8 0)).toArray 35)
  have H0 := Lib.hid (show BW w emptyS _ from ⟨s1, s2, s3⟩)
  clear s1 s2 s3
  have g0 := pk_get s i hi
  have hx := pk_le s i
  have hp := fun W => plain_any ⟨#[42, 43, 63, 40, 41, 124, 93, 123, 125]⟩ (pk s i) hx (by decide) W
  rw [show byt ⟨#[42, 43, 63, 40, 41, 124, 93, 123, 125]⟩ = sgO from rfl, plain_out ⟨pk s i, hx⟩] at hp
  dsimp only at hp
  rw [ho] at hp
  have hput := fun W h => put_any (w.heap.size + 1) emptyS (pk s i) hx W h
  have q1 : ((pk s i : Int) == 46) = false := by simp; omega
  have q2 : ((pk s i : Int) == 91) = false := by simp; omega
  have q3 : ((pk s i : Int) == 92) = false := by simp; omega
  generalize pk s i = c at *
  have HPL := Lib.hid hp; have HPUT := Lib.hid hput; clear hp hput h1 h2 h3 ho
  go_enter Try.func35, Try.ntmps35
  go_wp2_with fail
  refine (HPL.out _).mono ?_; rintro e w' ⟨rfl, rfl⟩
  go_wp2_with fail
  refine (HPUT.out _ H0.out.b).mono ?_; rintro e w6 ⟨rfl, g6, h6⟩
  have H6 := Lib.hid (H0.out.set g6 h6); clear g6 h6 H0
  generalize hS : addS emptyS c = S at *
  have HSx := Lib.hid hS; clear hS
  go_upto_region 23 with fail
  go_wp2_with (first | (refine wpl_loadSet (by rfl) 35 (Or.inr rfl) _ (by rfl) (w.heap.size + 1) S (by rfl) H6.out.b ?_) | (refine wpl_storeSet (by rfl) 35 (Or.inr rfl) _ _ (by rfl) w.heap.size emptyS S (by rfl) (by rfl) H6.out.a ?_; intro w5 h5 g5))
  have hld := SAtT.read (Or.inr rfl) h5
  have hB := H6.out.bel.grown g5 H6.out.bel.size (fun j hj => by cases hj; omega)
  (try simp only [Exit.inBlock, Exit.then])
  refine bodyPost_ret (v := .tuple #[.agg (setC S).toArray, .int .i64 ((i : Int) + 1), .int .i64 (-1)]) (by simp [results, Try.results35, asAddr, Result.andThen, hld, Act.put]) rfl ⟨S, rfl, fun S2 h => (by cases h; rfl), hB⟩
set_option maxHeartbeats 6400000 in
theorem rs_none (s : ByteArray) (i : Nat)  (hi : i < s.size) (hsm : s.size ≤ 4000000000) (h1 : ¬ pk s i = 46) (h2 : ¬ pk s i = 91) (h3 : ¬ pk s i = 92) (ho : okB sgO false (pk s i) = false) (w : World) :
    Calls Try.prog 35 #[.string s, .int .i64 i] w (BrEnd w (none, i)) := by
  have s1 : SAtT 35 w.heap.size emptyS ((w.alloc (.cells (List.replicate 32 (Value.int .u8 0)).toArray 35)).alloc (.cells (List.replicate 32 (Value.int .u8 0)).toArray 35)) := (SAtT.new 35 w).call (blw (Below.refl _ _) _)
  have s2 : SAtT 35 (w.heap.size + 1) emptyS ((w.alloc (.cells (List.replicate 32 (Value.int .u8 0)).toArray 35)).alloc (.cells (List.replicate 32 (Value.int .u8 0)).toArray 35)) := by
    have := SAtT.new 35 (w.alloc (.cells (List.replicate 32 (Value.int .u8 0)).toArray 35))
    rwa [show (w.alloc (.cells (List.replicate 32 (Value.int .u8 0)).toArray 35)).heap.size = w.heap.size + 1 by simp] at this
  have s3 := blw (blw (Below.refl w.heap.size w) (.cells (List.replicate 32 (Value.int .u8 0)).toArray 35)) (.cells (List.replicate 32 (Value.int .u8 0)).toArray 35)
  have H0 := Lib.hid (show BW w emptyS _ from ⟨s1, s2, s3⟩)
  clear s1 s2 s3
  have g0 := pk_get s i hi
  have hx := pk_le s i
  have hp := fun W => plain_any ⟨#[42, 43, 63, 40, 41, 124, 93, 123, 125]⟩ (pk s i) hx (by decide) W
  rw [show byt ⟨#[42, 43, 63, 40, 41, 124, 93, 123, 125]⟩ = sgO from rfl, plain_out ⟨pk s i, hx⟩] at hp
  dsimp only at hp
  rw [ho] at hp
  have hput := fun W h => put_any (w.heap.size + 1) emptyS (pk s i) hx W h
  have q1 : ((pk s i : Int) == 46) = false := by simp; omega
  have q2 : ((pk s i : Int) == 91) = false := by simp; omega
  have q3 : ((pk s i : Int) == 92) = false := by simp; omega
  generalize pk s i = c at *
  have HPL := Lib.hid hp; have HPUT := Lib.hid hput; clear hp hput h1 h2 h3 ho
  go_enter Try.func35, Try.ntmps35
  go_wp2_with fail
  refine (HPL.out _).mono ?_; rintro e w' ⟨rfl, rfl⟩
  go_upto_region 24 with fail
  go_wp2_with (first | (refine wpl_loadSet (by rfl) 35 (Or.inr rfl) _ (by rfl) (w.heap.size + 1) emptyS (by rfl) H0.out.b ?_) | (refine wpl_storeSet (by rfl) 35 (Or.inr rfl) _ _ (by rfl) w.heap.size emptyS emptyS (by rfl) (by rfl) H0.out.a ?_; intro w5 h5 g5))
  have hld := SAtT.read (Or.inr rfl) h5
  have hB := H0.out.bel.grown g5 H0.out.bel.size (fun j hj => by cases hj; omega)
  (try simp only [Exit.inBlock, Exit.then])
  refine bodyPost_ret (v := .tuple #[.agg (setC emptyS).toArray, .int .i64 (0), .int .i64 ((i : Int))]) (by simp [results, Try.results35, asAddr, Result.andThen, hld, Act.put]) rfl ⟨emptyS, rfl, fun S h => (by cases h), hB⟩
theorem rset_any (s : ByteArray) (i : Nat) (hi : i < s.size) (hsm : s.size ≤ 4000000000) (w : World) :
    Calls Try.prog 35 #[.string s, .int .i64 i] w (BrEnd w (stF s i)) := by
  unfold stF
  by_cases h46 : pk s i = 46
  · rw [if_pos h46]; exact rs_dot s i hi hsm h46 w
  rw [if_neg h46]
  by_cases h91 : pk s i = 91
  · rw [if_pos h91]; exact rs_open s i hi hsm h91 w
  rw [if_neg h91]
  by_cases h92 : pk s i = 92
  · have ha : rbA s i = i + 1 := by unfold rbA; rw [if_pos h92]
    have hr : rbF sgO s i = if okB sgO true (pk s (i + 1)) then (some (pk s (i + 1)), i + 2) else (none, i + 1) := by
      unfold rbF; rw [ha, decide_eq_true h92]
    have hnd : ndF s i = nmS (pk s (i + 1)) := by unfold ndF; rw [if_pos h92]
    by_cases hl : i + 1 < s.size
    · cases hnm : nmS (pk s (i + 1)) with
      | some T => rw [hnd, hnm]; exact rs_named s i T hi hsm h92 hl hnm w
      | none =>
        rw [hnd, hnm, hr]
        dsimp only
        by_cases h5 : cls (pk s (i + 1)) = 5
        · have ho : okB sgO true (pk s (i + 1)) = true := by unfold okB; rw [if_pos h5]; rfl
          rw [if_pos ho]; exact rs_sign s i hi hsm h92 hl hnm h5 w
        · have ho : okB sgO true (pk s (i + 1)) = false := by unfold okB; rw [if_neg h5]; split <;> rfl
          rw [if_neg (by rw [ho]; decide)]; exact rs_bad s i hi hsm h92 hl hnm h5 w
    · have h0 : pk s (i + 1) = 0 := pk_end (by omega)
      have hz : i + 1 = s.size := by omega
      rw [hnd, hr, h0, nm_none0, if_neg (by decide), hz]
      exact rs_back_end s i hi hsm h92 hl w
  · have hnd : ndF s i = none := by unfold ndF; rw [if_neg h92]
    have ha : rbA s i = i := by unfold rbA; rw [if_neg h92]
    have hr : rbF sgO s i = if okB sgO false (pk s i) then (some (pk s i), i + 1) else (none, i) := by
      unfold rbF; rw [ha, decide_eq_false h92]
    rw [hnd, hr]
    dsimp only
    cases ho : okB sgO false (pk s i) with
    | true => rw [if_pos rfl]; exact rs_plain s i hi hsm h46 h91 h92 ho w
    | false => rw [if_neg (by decide)]; exact rs_none s i hi hsm h46 h91 h92 ho w
end Go.Proofs.Ytdnofpllmhnacaa
