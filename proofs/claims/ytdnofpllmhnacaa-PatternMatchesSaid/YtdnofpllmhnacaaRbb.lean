/- The reference's brackets: sets that are turned. -/
import Derived.Test.YtdnofpllmhnacaaRbm
namespace Go.Proofs.Ytdnofpllmhnacaa
open Go.ChangeShapes Go.WideShapes Go.ChangeAt Go.RowKit Go.Sort
set_option linter.unusedVariables false
set_option linter.unusedSimpArgs false
set_option maxRecDepth 100000

set_option maxHeartbeats 12800000 in
theorem br_true (s : ByteArray) (i : Nat) (hi : i < s.size) (hsm : s.size ≤ 4000000000) (hiv : pk s (i + 1) = 94) (w : World) :
    Calls Try.prog 51 #[.string s, .int .i64 i] w (BrEnd w (brF s (i + 1))) := by
  rw [br_eq', decide_eq_true hiv]
  have hA : brA s (i + 1) = i + 2 := by unfold brA; rw [if_pos hiv]
  rw [hA]
  have s1 : SAtT 35 w.heap.size emptyS ((w.alloc (.cells (List.replicate 32 (Value.int .u8 0)).toArray 35)).alloc (.cells (List.replicate 32 (Value.int .u8 0)).toArray 35)) := (SAtT.new 35 w).call (blw (Below.refl _ _) _)
  have s2 : SAtT 35 (w.heap.size + 1) emptyS ((w.alloc (.cells (List.replicate 32 (Value.int .u8 0)).toArray 35)).alloc (.cells (List.replicate 32 (Value.int .u8 0)).toArray 35)) := by
    have := SAtT.new 35 (w.alloc (.cells (List.replicate 32 (Value.int .u8 0)).toArray 35))
    rwa [show (w.alloc (.cells (List.replicate 32 (Value.int .u8 0)).toArray 35)).heap.size = w.heap.size + 1 by simp] at this
  have s3 := blw (blw (Below.refl w.heap.size w) (.cells (List.replicate 32 (Value.int .u8 0)).toArray 35)) (.cells (List.replicate 32 (Value.int .u8 0)).toArray 35)
  obtain ⟨n, hn⟩ : ∃ n, n = i + 1 := ⟨_, rfl⟩
  have e1 : (i : Int) + 1 = (n : Int) := by omega
  have hnlt : i + 1 < s.size := pk_in (by omega)
  obtain ⟨n2, hn2⟩ : ∃ n2, n2 = i + 2 := ⟨_, rfl⟩
  have e2 : (n : Int) + 1 = (n2 : Int) := by omega
  have hnlt' : n < s.size := by omega
  have g1 : ((s[n]'hnlt').toNat : Int) = 94 := by
    have := pk_get s n hnlt'
    rw [show pk s n = 94 by rw [hn]; exact hiv] at this
    exact this
  simp only [← hn2]
  have hn2l : n2 ≤ s.size := by omega
  have qn : decide (n < s.size) = true := decide_eq_true hnlt'
  have h1n : 1 ≤ n2 := by omega
  generalize hres : mbsF s (s.size + 1) n2 emptyS true = res
  have H0 := Lib.hid (show BW w emptyS _ from ⟨s1, s2, s3⟩)
  have HRES := Lib.hid hres; clear s1 s2 s3 hres hn hn2 hiv hA
  go_enter Try.func51, Try.ntmps51
  go_wp2_with fail
  go_loopw [8, 10] (fun j c wr => BrR w s res j c wr) (fun j _ _ => s.size + 1 - (intOf j).toNat)
  case atStart => exact ⟨n2, emptyS, s.size + 1, 0, rfl, rfl, Nat.zero_le _, by omega, by omega, H0.out, HRES.out⟩
  case round =>
    clear H0 HRES
    obtain ⟨k, S, f, cnt, rfl, rfl, hck, hks, hf, hW, hr⟩ := hrel
    obtain ⟨f, rfl⟩ : ∃ g, f = g + 1 := ⟨f - 1, by omega⟩
    have HW := Lib.hid hW; clear hW
    have hbig := HW.out.big
    by_cases hlt : k < s.size
    · have q0 : decide (s.size ≤ k) = false := decide_eq_false (by omega)
      have g0 := pk_get s k hlt
      by_cases hex : pk s k = 93 ∧ 0 < cnt
      · obtain ⟨h93, hpos⟩ := hex
        rw [decide_eq_false (by omega), mbs_exit h93] at hr
        subst hr
        have qc : decide (0 < cnt) = true := decide_eq_true hpos
        have qc2 : decide ((0 : Int) < (cnt : Int)) = true := by simp; omega
        rw [h93] at g0
        clear h93
        go_wp2_with fail
        go_loopw [140] (fun i wr' => ∃ t : Nat, t ≤ 32 ∧ i = .int .i64 t ∧ BW w (invS S t) wr') (fun i _ => 32 - (intOf i).toNat)
        case atStart => exact ⟨0, Nat.zero_le _, rfl, by rw [inv_zero]; exact HW.out⟩
        case round =>
          obtain ⟨t, ht, rfl, hI⟩ := hrel
          by_cases hlt2 : t < 32
          · have u0 : decide ((t : Int) < 32) = true := decide_eq_true (by omega)
            have hc := hI.b.range t _ (setC_at (invS S t) t hlt2)
            rw [inv_byte, Nat.zero_add] at hc
            have fr := Lib.frozen_of_heap hI.b t
            have hix := indexAt_35 (w.heap.size + 1) t hlt2
            have hx := xor_byte S t
            have hset := setCell_at wr (w.heap.size + 1) t _ 35 (.int .u8 (byteOf (invS S (t + 1)) t : Int)) hI.b
            rw [setC_set (invS S t) (invS S (t + 1)) t hlt2 (fun j _ hj => inv_other S t j hj)] at hset
            have hI2 := hI.set (T := invS S (t + 1)) (grow_cell wr (w.heap.size + 1) t (.int .u8 (byteOf (invS S (t + 1)) t : Int))) hset
            have k0 : (0 : Int) ≤ (t : Int) := by omega
            have k1 : (t : Int) < 32 := by omega
            have HX := Lib.hid hI2; have HO := Lib.hid hx
            clear hx hset hI2 hI
            go_wp2_with fail
            rw [HO.out]
            go_roundw
            case rel => exact ⟨t + 1, by omega, by go_num, HX.out⟩
            case measure => simp [intOf]; omega
          · have u0 : decide ((t : Int) < 32) = false := decide_eq_false (by omega)
            obtain rfl : t = 32 := by omega
            have hI2 : BW w (notS S) wr := ⟨hI.a, by have := hI.b; unfold SAtT at this ⊢; rw [inv_all] at this; exact this, hI.bel⟩
            have HI := Lib.hid hI2; clear hI hI2
            go_upto_region 41 with fail
            go_wp2_with (first | (refine wpl_loadSet (by rfl) 35 (Or.inr rfl) _ (by rfl) (w.heap.size + 1) (notS S) (by rfl) HI.out.b ?_) | (refine wpl_storeSet (by rfl) 35 (Or.inr rfl) _ _ (by rfl) w.heap.size emptyS (notS S) (by rfl) (by rfl) HI.out.a ?_; intro w5 h5 g5))
            have hld := SAtT.read (Or.inr rfl) h5
            have hB := HI.out.bel.grown g5 HI.out.bel.size (fun j hj => by cases hj; omega)
            (try simp only [Exit.inBlock, Exit.then])
            refine bodyPost_ret (v := .tuple #[.agg (setC (notS S)).toArray, .int .i64 ((k : Int) + 1), .int .i64 (-1)]) (by simp [results, Try.results51, asAddr, Result.andThen, hld, Act.put]) rfl ⟨notS S, rfl, fun S' h => (by cases h; rfl), hB⟩
      · have hgo : decide (cnt = 0) = true ∨ pk s k ≠ 93 := by
          by_cases h0 : cnt = 0
          · left; exact decide_eq_true h0
          · right; intro h; exact hex ⟨h, by omega⟩
        rw [mbs_go hgo] at hr
        have hqq : (((pk s k : Int) == 93) = false) ∨ (pk s k = 93 ∧ decide (0 < cnt) = false ∧ decide ((0 : Int) < (cnt : Int)) = false) := by
          by_cases h : pk s k = 93
          · right; have : ¬ 0 < cnt := fun h2 => hex ⟨h, h2⟩
            exact ⟨h, decide_eq_false this, by simp; omega⟩
          · left; simp; omega
        clear hgo hex
        rcases hqq with q93 | ⟨h93, qc, qc2⟩
        · have hmb := hr
          clear hr
          cases hnd : ndF s k with
          | some T =>
            obtain ⟨hk2, h92, hnm⟩ := nd_some hnd
            rw [mb_nd hnd] at hmb
            dsimp only at hmb
            have HMB := Lib.hid hmb
            have hcl := fun W => rclass_any (pk s (k + 1)) (pk_le s _) W
            rw [hnm] at hcl
            have q9 := q93
            rw [h92] at g0 q93
            have z0 : k + 1 < s.size := by omega
            have z1 : decide ((k : Int) + 1 < (s.size : Int)) = true := by simp; omega
            have z2 : ((k : Int) + 1).toNat = k + 1 := by omega
            have z3 : (0 : Int) ≤ (k : Int) + 1 := by omega
            have z4 : (k : Int) + 1 < (s.size : Int) := by omega
            have g3 := pk_get s (k + 1) z0
            generalize pk s (k + 1) = c at *
            have HCL := Lib.hid hcl; clear hcl hmb hnd h92 hnm q9
            go_wp2_with fail
            refine (HCL.out _).mono ?_; rintro e w1 ⟨rfl, b1⟩
            have W1 := HW.out.call b1
            have hbig1 := W1.big
            have W2 := W1.call (blw (Below.refl _ _) (.cells (List.replicate 32 (Value.int .u8 0)).toArray 35))
            have k2 := SAtT.new 35 w1
            have H2 := Lib.hid (And.intro W2 k2); clear W1 W2 k2 b1
            simp only [Option.getD_some, Option.isSome_some]
            go_upto_region 11 with (refine wpl_storeSet (by rfl) 35 (Or.inr rfl) _ _ (by rfl) w1.heap.size emptyS T (by rfl) (by rfl) H2.out.2 ?_; intro w2 h2 g2)
            have H3 := Lib.hid (And.intro (H2.out.1.other g2 hbig1) h2); clear H2 h2 g2
            go_wp2_with fail
            go_loopw [72] (fun i wr' => ∃ t : Nat, t ≤ 32 ∧ i = .int .i64 t ∧ BW w (partS S T t) wr' ∧ SAtT 35 w1.heap.size T wr') (fun i _ => 32 - (intOf i).toNat)
            case atStart => exact ⟨0, Nat.zero_le _, rfl, by rw [part_zero]; exact H3.out.1, H3.out.2⟩
            case round =>
              obtain ⟨t, ht, rfl, hI, hC⟩ := hrel
              by_cases hlt2 : t < 32
              · have u0 : decide ((t : Int) < 32) = true := decide_eq_true (by omega)
                have hc := hI.b.range t _ (setC_at (partS S T t) t hlt2)
                rw [part_byte, Nat.zero_add] at hc
                have hc2 := hC.range t _ (setC_at T t hlt2)
                rw [Nat.zero_add] at hc2
                have fr := Lib.frozen_of_heap hI.b t
                have hix := indexAt_35 (w.heap.size + 1) t hlt2
                have hix2 := indexAt_35 w1.heap.size t hlt2
                have hor := or_u8 _ _ (byteOf_lt S t) (byteOf_lt T t)
                rw [part_next] at hor
                have hset := setCell_at wr (w.heap.size + 1) t _ 35 (.int .u8 (byteOf (partS S T (t + 1)) t : Int)) hI.b
                rw [setC_set (partS S T t) (partS S T (t + 1)) t hlt2 (fun j _ hj => part_other S T t j hj)] at hset
                have gg := grow_cell wr (w.heap.size + 1) t (.int .u8 (byteOf (partS S T (t + 1)) t : Int))
                have hI2 := hI.set (T := partS S T (t + 1)) gg hset
                have hC2 := hC.keep gg (by intro e; injection e with e; omega)
                have k0 : (0 : Int) ≤ (t : Int) := by omega
                have k1 : (t : Int) < 32 := by omega
                have HX := Lib.hid (And.intro hI2 hC2); have HO := Lib.hid hor
                clear hor hset hI2 hC2 gg hI hC
                have mixed : Try.prog.follows .mixedOrders = true := by kernel_rfl
                go_upto_region 15 with fail
                go_region_o
                have hX := HX.out
                rw [← HO.out] at hX
                go_wp2_with fail
                go_roundw
                case rel => exact ⟨t + 1, by omega, by go_num, ⟨hX.1.a, hX.1.b, hX.1.bel.drew⟩, hX.2⟩
                case measure => simp [intOf]; omega
              · have u0 : decide ((t : Int) < 32) = false := decide_eq_false (by omega)
                obtain rfl : t = 32 := by omega
                have hI2 : BW w (orS S T) wr := ⟨hI.a, by have := hI.b; unfold SAtT at this ⊢; rw [part_all] at this; exact this, hI.bel⟩
                have HI := Lib.hid hI2; clear hI hI2 hC
                go_wp2_with fail
                go_roundw
                case rel => exact ⟨k + 2, _, f, cnt + 1, by go_num, by go_num, by omega, by omega, by omega, HI.out, by rw [decide_eq_false (by omega)]; exact HMB.out⟩
                case measure => simp [intOf]; omega
          | none =>
            by_cases h92 : pk s k = 92
            · have q9 := q93
              rw [h92] at g0 q93
              by_cases z0 : k + 1 < s.size
              · have z1 : decide ((k : Int) + 1 < (s.size : Int)) = true := by simp; omega
                have z2 : ((k : Int) + 1).toNat = k + 1 := by omega
                have z3 : (0 : Int) ≤ (k : Int) + 1 := by omega
                have z4 : (k : Int) + 1 < (s.size : Int) := by omega
                have g3 := pk_get s (k + 1) z0
                have hcl := fun W => rclass_any (pk s (k + 1)) (pk_le s _) W
                have hnm : nmS (pk s (k + 1)) = none := by unfold ndF at hnd; rwa [if_pos h92] at hnd
                rw [hnm] at hcl
                have HCL := Lib.hid hcl
                have HND := Lib.hid hnd; have HMB0 := Lib.hid hmb
                clear hcl hnm h92 q9 hnd hmb
                go_wp2_with fail
                refine (HCL.out _).mono ?_; rintro e w1 ⟨rfl, b1⟩
                have W1 := HW.out.call b1
                have hbig1 := W1.big
                have W2 := W1.call (blw (Below.refl _ _) (.cells (List.replicate 32 (Value.int .u8 0)).toArray 35))
                have k2 := SAtT.new 35 w1
                have H2 := Lib.hid (And.intro W2 k2); clear W1 W2 k2 b1
                simp only [Option.getD_none, Option.isSome_none]
                go_upto_region 11 with (refine wpl_storeSet (by rfl) 35 (Or.inr rfl) _ _ (by rfl) w1.heap.size emptyS emptyS (by rfl) (by rfl) H2.out.2 ?_; intro w2 h2 g2)
                have H3 := Lib.hid (H2.out.1.other g2 hbig1); clear H2 h2 g2
                have hnd := HND.out; have hmb := HMB0.out
                clear HND HMB0
                cases hr1 : rbF sgI s k with
                | mk o m =>
                  have hsg := fun W => single_any s k (by omega) hsm W
                  rw [hr1] at hsg
                  cases o with
                  | none =>
                    have hz := (rb_none (by omega) hr1).2
                    rw [mb_bad hnd hr1] at hmb
                    dsimp only at hmb
                    subst hmb
                    have HSG := Lib.hid hsg; clear hsg hr1 hnd
                    go_wp2_with fail
                    refine (HSG.out _).mono ?_; rintro e w' ⟨rfl, rfl⟩
                    unfold sgV
                    dsimp only
                    go_upto_region 20 with fail
                    go_wp2_with (first | (refine wpl_loadSet (by rfl) 35 (Or.inr rfl) _ (by rfl) (w.heap.size + 1) S (by rfl) H3.out.b ?_) | (refine wpl_storeSet (by rfl) 35 (Or.inr rfl) _ _ (by rfl) w.heap.size emptyS S (by rfl) (by rfl) H3.out.a ?_; intro w5 h5 g5))
                    have hld := SAtT.read (Or.inr rfl) h5
                    have hB := H3.out.bel.grown g5 H3.out.bel.size (fun j hj => by cases hj; omega)
                    (try simp only [Exit.inBlock, Exit.then])
                    refine bodyPost_ret (v := .tuple #[.agg (setC S).toArray, .int .i64 0, .int .i64 ((m : Int))]) (by simp [results, Try.results51, asAddr, Result.andThen, hld, Act.put]) rfl ⟨S, rfl, fun S h => (by cases h), hB⟩
                  | some x =>
                    have hkm := (rb_some hr1).1; have hms := (rb_some hr1).2.1; have hx := (rb_some hr1).2.2.1
                    by_cases hd : pk s m = 45
                    · have hms2 : m < s.size := pk_in (by omega)
                      have g2 := pk_get s m hms2
                      rw [hd] at g2
                      have qm : decide (m < s.size) = true := decide_eq_true hms2
                      obtain ⟨m1, hm1⟩ : ∃ m1, m1 = m + 1 := ⟨_, rfl⟩
                      have em : (m : Int) + 1 = (m1 : Int) := by omega
                      have hm1b : m1 ≤ s.size := by omega
                      cases hr2 : rbF sgI s (m + 1) with
                      | mk o2 k2 =>
                        rw [mb_dash hnd hr1 hd hr2] at hmb
                        have hsg2 := fun W => single_any s (m + 1) (by omega) hsm W
                        rw [hr2, ← hm1] at hsg2
                        cases o2 with
                        | none =>
                          have hz := (rb_none (by omega) hr2).2
                          dsimp only [dashF] at hmb
                          subst hmb
                          have HSG := Lib.hid hsg; have HSG2 := Lib.hid hsg2; clear hsg hsg2 hr1 hr2 hnd hd hm1
                          go_wp2_with fail
                          refine (HSG.out _).mono ?_; rintro e w' ⟨rfl, rfl⟩
                          unfold sgV
                          dsimp only
                          go_wp2_with fail
                          refine (HSG2.out _).mono ?_; rintro e w' ⟨rfl, rfl⟩
                          unfold sgV
                          dsimp only
                          go_upto_region 27 with fail
                          go_wp2_with (first | (refine wpl_loadSet (by rfl) 35 (Or.inr rfl) _ (by rfl) (w.heap.size + 1) S (by rfl) H3.out.b ?_) | (refine wpl_storeSet (by rfl) 35 (Or.inr rfl) _ _ (by rfl) w.heap.size emptyS S (by rfl) (by rfl) H3.out.a ?_; intro w5 h5 g5))
                          have hld := SAtT.read (Or.inr rfl) h5
                          have hB := H3.out.bel.grown g5 H3.out.bel.size (fun j hj => by cases hj; omega)
                          (try simp only [Exit.inBlock, Exit.then])
                          refine bodyPost_ret (v := .tuple #[.agg (setC S).toArray, .int .i64 0, .int .i64 ((k2 : Int))]) (by simp [results, Try.results51, asAddr, Result.andThen, hld, Act.put]) rfl ⟨S, rfl, fun S h => (by cases h), hB⟩
                        | some y =>
                          have hkm2 := (rb_some hr2).1; have hms3 := (rb_some hr2).2.1; have hy := (rb_some hr2).2.2.1
                          dsimp only [dashF] at hmb
                          by_cases hyx : y < x
                          · rw [if_pos hyx] at hmb
                            dsimp only at hmb
                            subst hmb
                            have qyx : decide (y < x) = true := decide_eq_true hyx
                            have HM1 := Lib.hid hm1
                            have HSG := Lib.hid hsg; have HSG2 := Lib.hid hsg2; clear hsg hsg2 hr1 hr2 hnd hd hm1
                            go_wp2_with fail
                            refine (HSG.out _).mono ?_; rintro e w' ⟨rfl, rfl⟩
                            unfold sgV
                            dsimp only
                            go_wp2_with fail
                            refine (HSG2.out _).mono ?_; rintro e w' ⟨rfl, rfl⟩
                            unfold sgV
                            dsimp only
                            go_upto_region 29 with fail
                            go_wp2_with (first | (refine wpl_loadSet (by rfl) 35 (Or.inr rfl) _ (by rfl) (w.heap.size + 1) S (by rfl) H3.out.b ?_) | (refine wpl_storeSet (by rfl) 35 (Or.inr rfl) _ _ (by rfl) w.heap.size emptyS S (by rfl) (by rfl) H3.out.a ?_; intro w5 h5 g5))
                            have hld := SAtT.read (Or.inr rfl) h5
                            have hB := H3.out.bel.grown g5 H3.out.bel.size (fun j hj => by cases hj; omega)
                            (try simp only [Exit.inBlock, Exit.then])
                            refine bodyPost_ret (v := .tuple #[.agg (setC S).toArray, .int .i64 0, .int .i64 ((m1 : Int))]) (by simp [results, Try.results51, asAddr, Result.andThen, hld, Act.put]) rfl ⟨S, ret_of (by rw [HM1.out]; rfl), fun S h => (by cases h), hB⟩
                          · rw [if_neg hyx] at hmb
                            dsimp only at hmb
                            have hxy : x ≤ y := by omega
                            have qyx : decide (y < x) = false := decide_eq_false hyx
                            have hkk2 : k < k2 := by omega
                            have HMB := Lib.hid hmb
                            have HSG := Lib.hid hsg; have HSG2 := Lib.hid hsg2; clear hsg hsg2 hr1 hr2 hnd hd hm1 hmb
                            go_wp2_with fail
                            refine (HSG.out _).mono ?_; rintro e w' ⟨rfl, rfl⟩
                            unfold sgV
                            dsimp only
                            go_wp2_with fail
                            refine (HSG2.out _).mono ?_; rintro e w' ⟨rfl, rfl⟩
                            unfold sgV
                            dsimp only
                            go_wp2_with fail
                            go_loopw [19] (fun i wr' => ∃ t : Nat, t ≤ y + 1 - x ∧ i = .int .i64 ((x : Int) + (t : Int)) ∧ BW w (fromS S x t) wr') (fun i _ => y + 1 - (intOf i).toNat)
                            case atStart => exact ⟨0, Nat.zero_le _, by simp, by rw [from_zero]; exact H3.out⟩
                            case round =>
                              obtain ⟨t, ht, rfl, hI⟩ := hrel
                              by_cases hlt2 : x + t ≤ y
                              · have u0 : decide ((x : Int) + (t : Int) ≤ (y : Int)) = true := decide_eq_true (by omega)
                                have w8 : IntKind.u8.wrap ((x : Int) + (t : Int)) = (((x + t : Nat)) : Int) := by
                                  rw [show (x : Int) + (t : Int) = ((x + t : Nat) : Int) by omega]; exact wrap8 _ (by omega)
                                have hA := fun W h => put_any (w.heap.size + 1) (fromS S x t) (x + t) (by omega) W h
                                rw [from_next, Int.natCast_add] at hA
                                have HA := Lib.hid hA; have HI := Lib.hid hI; clear hA hI w8
                                go_wp2_with fail
                                refine (HA.out _ HI.out.b).mono ?_; rintro e w6 ⟨rfl, g6, h6⟩
                                have H6 := Lib.hid (HI.out.set g6 h6); clear g6 h6
                                go_wp2_with fail
                                go_roundw
                                case rel => exact ⟨t + 1, by omega, by rw [Int.natCast_add]; simp; omega, H6.out⟩
                                case measure => simp [intOf]; omega
                              · have u0 : decide ((x : Int) + (t : Int) ≤ (y : Int)) = false := decide_eq_false (by omega)
                                obtain rfl : t = y + 1 - x := by omega
                                rw [from_all S x y hxy, ← or_range] at hI
                                have HI := Lib.hid hI; clear hI
                                go_wp2_with fail
                                go_roundw
                                case rel => exact ⟨k2, _, f, cnt + 1, rfl, by go_num, by omega, by omega, by omega, HI.out, by rw [decide_eq_false (by omega)]; exact HMB.out⟩
                                case measure => simp [intOf]; omega
                    · rw [mb_one hnd hr1 hd] at hmb
                      dsimp only at hmb
                      have HMB := Lib.hid hmb; clear hmb
                      have hq : (decide (m < s.size) = false) ∨ (∃ h : m < s.size, decide (m < s.size) = true ∧ (((s[m]'h).toNat : Int) == 45) = false) := by
                        by_cases h : m < s.size
                        · right; exact ⟨h, decide_eq_true h, by rw [pk_get s m h]; simp; omega⟩
                        · left; exact decide_eq_false h
                      have HSG := Lib.hid hsg; clear hsg hr1 hnd hd
                      rcases hq with qm | ⟨hms2, qm, qd⟩
                      all_goals
                        go_wp2_with fail
                        refine (HSG.out _).mono ?_; rintro e w' ⟨rfl, rfl⟩
                        unfold sgV
                        dsimp only
                        go_wp2_with fail
                        go_loopw [19] (fun i wr' => ∃ t : Nat, t ≤ x + 1 - x ∧ i = .int .i64 ((x : Int) + (t : Int)) ∧ BW w (fromS S x t) wr') (fun i _ => x + 1 - (intOf i).toNat)
                        case atStart => exact ⟨0, Nat.zero_le _, by simp, by rw [from_zero]; exact H3.out⟩
                        case round =>
                          obtain ⟨t, ht, rfl, hI⟩ := hrel
                          by_cases hlt2 : x + t ≤ x
                          · have u0 : decide ((x : Int) + (t : Int) ≤ (x : Int)) = true := decide_eq_true (by omega)
                            have w8 : IntKind.u8.wrap ((x : Int) + (t : Int)) = (((x + t : Nat)) : Int) := by
                              rw [show (x : Int) + (t : Int) = ((x + t : Nat) : Int) by omega]; exact wrap8 _ (by omega)
                            have hA := fun W h => put_any (w.heap.size + 1) (fromS S x t) (x + t) (by omega) W h
                            rw [from_next, Int.natCast_add] at hA
                            have HA := Lib.hid hA; have HI := Lib.hid hI; clear hA hI w8
                            go_wp2_with fail
                            refine (HA.out _ HI.out.b).mono ?_; rintro e w6 ⟨rfl, g6, h6⟩
                            have H6 := Lib.hid (HI.out.set g6 h6); clear g6 h6
                            go_wp2_with fail
                            go_roundw
                            case rel => exact ⟨t + 1, by omega, by rw [Int.natCast_add]; simp; omega, H6.out⟩
                            case measure => simp [intOf]; omega
                          · have u0 : decide ((x : Int) + (t : Int) ≤ (x : Int)) = false := decide_eq_false (by omega)
                            obtain rfl : t = x + 1 - x := by omega
                            rw [from_all S x x (Nat.le_refl _), ← or_range] at hI
                            have HI := Lib.hid hI; clear hI
                            go_wp2_with fail
                            go_roundw
                            case rel => exact ⟨m, _, f, cnt + 1, rfl, by go_num, by omega, by omega, by omega, HI.out, by rw [decide_eq_false (by omega)]; exact HMB.out⟩
                            case measure => simp [intOf]; omega
              · have z1 : decide ((k : Int) + 1 < (s.size : Int)) = false := by simp; omega
                have hz : k + 1 = s.size := by omega
                have hr1 : rbF sgI s k = (none, k + 1) := by
                  have ha : rbA s k = k + 1 := by unfold rbA; rw [if_pos h92]
                  unfold rbF; rw [ha, decide_eq_true h92, pk_end (s := s) (n := k + 1) (by omega)]; rfl
                have hsg := fun W => single_any s k (by omega) hsm W
                rw [hr1] at hsg
                rw [mb_bad hnd hr1] at hmb
                dsimp only at hmb
                subst hmb
                obtain ⟨m, hm⟩ : ∃ m, m = k + 1 := ⟨_, rfl⟩
                rw [← hm] at hsg
                have HM1 := Lib.hid hm
                have HSG := Lib.hid hsg; clear hsg hr1 hnd h92 q9 hz hm
                go_wp2_with fail
                refine (HSG.out _).mono ?_; rintro e w' ⟨rfl, rfl⟩
                unfold sgV
                dsimp only
                go_upto_region 20 with fail
                go_wp2_with (first | (refine wpl_loadSet (by rfl) 35 (Or.inr rfl) _ (by rfl) (w.heap.size + 1) S (by rfl) HW.out.b ?_) | (refine wpl_storeSet (by rfl) 35 (Or.inr rfl) _ _ (by rfl) w.heap.size emptyS S (by rfl) (by rfl) HW.out.a ?_; intro w5 h5 g5))
                have hld := SAtT.read (Or.inr rfl) h5
                have hB := HW.out.bel.grown g5 HW.out.bel.size (fun j hj => by cases hj; omega)
                (try simp only [Exit.inBlock, Exit.then])
                refine bodyPost_ret (v := .tuple #[.agg (setC S).toArray, .int .i64 0, .int .i64 ((m : Int))]) (by simp [results, Try.results51, asAddr, Result.andThen, hld, Act.put]) rfl ⟨S, ret_of (by rw [HM1.out]; rfl), fun S h => (by cases h), hB⟩
            · have q92 : ((pk s k : Int) == 92) = false := by simp; omega
              clear h92
              cases hr1 : rbF sgI s k with
              | mk o m =>
                have hsg := fun W => single_any s k (by omega) hsm W
                rw [hr1] at hsg
                cases o with
                | none =>
                  have hz := (rb_none (by omega) hr1).2
                  rw [mb_bad hnd hr1] at hmb
                  dsimp only at hmb
                  subst hmb
                  have HSG := Lib.hid hsg; clear hsg hr1 hnd
                  go_wp2_with fail
                  refine (HSG.out _).mono ?_; rintro e w' ⟨rfl, rfl⟩
                  unfold sgV
                  dsimp only
                  go_upto_region 20 with fail
                  go_wp2_with (first | (refine wpl_loadSet (by rfl) 35 (Or.inr rfl) _ (by rfl) (w.heap.size + 1) S (by rfl) HW.out.b ?_) | (refine wpl_storeSet (by rfl) 35 (Or.inr rfl) _ _ (by rfl) w.heap.size emptyS S (by rfl) (by rfl) HW.out.a ?_; intro w5 h5 g5))
                  have hld := SAtT.read (Or.inr rfl) h5
                  have hB := HW.out.bel.grown g5 HW.out.bel.size (fun j hj => by cases hj; omega)
                  (try simp only [Exit.inBlock, Exit.then])
                  refine bodyPost_ret (v := .tuple #[.agg (setC S).toArray, .int .i64 0, .int .i64 ((m : Int))]) (by simp [results, Try.results51, asAddr, Result.andThen, hld, Act.put]) rfl ⟨S, rfl, fun S h => (by cases h), hB⟩
                | some x =>
                  have hkm := (rb_some hr1).1; have hms := (rb_some hr1).2.1; have hx := (rb_some hr1).2.2.1
                  by_cases hd : pk s m = 45
                  · have hms2 : m < s.size := pk_in (by omega)
                    have g2 := pk_get s m hms2
                    rw [hd] at g2
                    have qm : decide (m < s.size) = true := decide_eq_true hms2
                    obtain ⟨m1, hm1⟩ : ∃ m1, m1 = m + 1 := ⟨_, rfl⟩
                    have em : (m : Int) + 1 = (m1 : Int) := by omega
                    have hm1b : m1 ≤ s.size := by omega
                    cases hr2 : rbF sgI s (m + 1) with
                    | mk o2 k2 =>
                      rw [mb_dash hnd hr1 hd hr2] at hmb
                      have hsg2 := fun W => single_any s (m + 1) (by omega) hsm W
                      rw [hr2, ← hm1] at hsg2
                      cases o2 with
                      | none =>
                        have hz := (rb_none (by omega) hr2).2
                        dsimp only [dashF] at hmb
                        subst hmb
                        have HSG := Lib.hid hsg; have HSG2 := Lib.hid hsg2; clear hsg hsg2 hr1 hr2 hnd hd hm1
                        go_wp2_with fail
                        refine (HSG.out _).mono ?_; rintro e w' ⟨rfl, rfl⟩
                        unfold sgV
                        dsimp only
                        go_wp2_with fail
                        refine (HSG2.out _).mono ?_; rintro e w' ⟨rfl, rfl⟩
                        unfold sgV
                        dsimp only
                        go_upto_region 27 with fail
                        go_wp2_with (first | (refine wpl_loadSet (by rfl) 35 (Or.inr rfl) _ (by rfl) (w.heap.size + 1) S (by rfl) HW.out.b ?_) | (refine wpl_storeSet (by rfl) 35 (Or.inr rfl) _ _ (by rfl) w.heap.size emptyS S (by rfl) (by rfl) HW.out.a ?_; intro w5 h5 g5))
                        have hld := SAtT.read (Or.inr rfl) h5
                        have hB := HW.out.bel.grown g5 HW.out.bel.size (fun j hj => by cases hj; omega)
                        (try simp only [Exit.inBlock, Exit.then])
                        refine bodyPost_ret (v := .tuple #[.agg (setC S).toArray, .int .i64 0, .int .i64 ((k2 : Int))]) (by simp [results, Try.results51, asAddr, Result.andThen, hld, Act.put]) rfl ⟨S, rfl, fun S h => (by cases h), hB⟩
                      | some y =>
                        have hkm2 := (rb_some hr2).1; have hms3 := (rb_some hr2).2.1; have hy := (rb_some hr2).2.2.1
                        dsimp only [dashF] at hmb
                        by_cases hyx : y < x
                        · rw [if_pos hyx] at hmb
                          dsimp only at hmb
                          subst hmb
                          have qyx : decide (y < x) = true := decide_eq_true hyx
                          have HM1 := Lib.hid hm1
                          have HSG := Lib.hid hsg; have HSG2 := Lib.hid hsg2; clear hsg hsg2 hr1 hr2 hnd hd hm1
                          go_wp2_with fail
                          refine (HSG.out _).mono ?_; rintro e w' ⟨rfl, rfl⟩
                          unfold sgV
                          dsimp only
                          go_wp2_with fail
                          refine (HSG2.out _).mono ?_; rintro e w' ⟨rfl, rfl⟩
                          unfold sgV
                          dsimp only
                          go_upto_region 29 with fail
                          go_wp2_with (first | (refine wpl_loadSet (by rfl) 35 (Or.inr rfl) _ (by rfl) (w.heap.size + 1) S (by rfl) HW.out.b ?_) | (refine wpl_storeSet (by rfl) 35 (Or.inr rfl) _ _ (by rfl) w.heap.size emptyS S (by rfl) (by rfl) HW.out.a ?_; intro w5 h5 g5))
                          have hld := SAtT.read (Or.inr rfl) h5
                          have hB := HW.out.bel.grown g5 HW.out.bel.size (fun j hj => by cases hj; omega)
                          (try simp only [Exit.inBlock, Exit.then])
                          refine bodyPost_ret (v := .tuple #[.agg (setC S).toArray, .int .i64 0, .int .i64 ((m1 : Int))]) (by simp [results, Try.results51, asAddr, Result.andThen, hld, Act.put]) rfl ⟨S, ret_of (by rw [HM1.out]; rfl), fun S h => (by cases h), hB⟩
                        · rw [if_neg hyx] at hmb
                          dsimp only at hmb
                          have hxy : x ≤ y := by omega
                          have qyx : decide (y < x) = false := decide_eq_false hyx
                          have hkk2 : k < k2 := by omega
                          have HMB := Lib.hid hmb
                          have HSG := Lib.hid hsg; have HSG2 := Lib.hid hsg2; clear hsg hsg2 hr1 hr2 hnd hd hm1 hmb
                          go_wp2_with fail
                          refine (HSG.out _).mono ?_; rintro e w' ⟨rfl, rfl⟩
                          unfold sgV
                          dsimp only
                          go_wp2_with fail
                          refine (HSG2.out _).mono ?_; rintro e w' ⟨rfl, rfl⟩
                          unfold sgV
                          dsimp only
                          go_wp2_with fail
                          go_loopw [19] (fun i wr' => ∃ t : Nat, t ≤ y + 1 - x ∧ i = .int .i64 ((x : Int) + (t : Int)) ∧ BW w (fromS S x t) wr') (fun i _ => y + 1 - (intOf i).toNat)
                          case atStart => exact ⟨0, Nat.zero_le _, by simp, by rw [from_zero]; exact HW.out⟩
                          case round =>
                            obtain ⟨t, ht, rfl, hI⟩ := hrel
                            by_cases hlt2 : x + t ≤ y
                            · have u0 : decide ((x : Int) + (t : Int) ≤ (y : Int)) = true := decide_eq_true (by omega)
                              have w8 : IntKind.u8.wrap ((x : Int) + (t : Int)) = (((x + t : Nat)) : Int) := by
                                rw [show (x : Int) + (t : Int) = ((x + t : Nat) : Int) by omega]; exact wrap8 _ (by omega)
                              have hA := fun W h => put_any (w.heap.size + 1) (fromS S x t) (x + t) (by omega) W h
                              rw [from_next, Int.natCast_add] at hA
                              have HA := Lib.hid hA; have HI := Lib.hid hI; clear hA hI w8
                              go_wp2_with fail
                              refine (HA.out _ HI.out.b).mono ?_; rintro e w6 ⟨rfl, g6, h6⟩
                              have H6 := Lib.hid (HI.out.set g6 h6); clear g6 h6
                              go_wp2_with fail
                              go_roundw
                              case rel => exact ⟨t + 1, by omega, by rw [Int.natCast_add]; simp; omega, H6.out⟩
                              case measure => simp [intOf]; omega
                            · have u0 : decide ((x : Int) + (t : Int) ≤ (y : Int)) = false := decide_eq_false (by omega)
                              obtain rfl : t = y + 1 - x := by omega
                              rw [from_all S x y hxy, ← or_range] at hI
                              have HI := Lib.hid hI; clear hI
                              go_wp2_with fail
                              go_roundw
                              case rel => exact ⟨k2, _, f, cnt + 1, rfl, by go_num, by omega, by omega, by omega, HI.out, by rw [decide_eq_false (by omega)]; exact HMB.out⟩
                              case measure => simp [intOf]; omega
                  · rw [mb_one hnd hr1 hd] at hmb
                    dsimp only at hmb
                    have HMB := Lib.hid hmb; clear hmb
                    have hq : (decide (m < s.size) = false) ∨ (∃ h : m < s.size, decide (m < s.size) = true ∧ (((s[m]'h).toNat : Int) == 45) = false) := by
                      by_cases h : m < s.size
                      · right; exact ⟨h, decide_eq_true h, by rw [pk_get s m h]; simp; omega⟩
                      · left; exact decide_eq_false h
                    have HSG := Lib.hid hsg; clear hsg hr1 hnd hd
                    rcases hq with qm | ⟨hms2, qm, qd⟩
                    all_goals
                      go_wp2_with fail
                      refine (HSG.out _).mono ?_; rintro e w' ⟨rfl, rfl⟩
                      unfold sgV
                      dsimp only
                      go_wp2_with fail
                      go_loopw [19] (fun i wr' => ∃ t : Nat, t ≤ x + 1 - x ∧ i = .int .i64 ((x : Int) + (t : Int)) ∧ BW w (fromS S x t) wr') (fun i _ => x + 1 - (intOf i).toNat)
                      case atStart => exact ⟨0, Nat.zero_le _, by simp, by rw [from_zero]; exact HW.out⟩
                      case round =>
                        obtain ⟨t, ht, rfl, hI⟩ := hrel
                        by_cases hlt2 : x + t ≤ x
                        · have u0 : decide ((x : Int) + (t : Int) ≤ (x : Int)) = true := decide_eq_true (by omega)
                          have w8 : IntKind.u8.wrap ((x : Int) + (t : Int)) = (((x + t : Nat)) : Int) := by
                            rw [show (x : Int) + (t : Int) = ((x + t : Nat) : Int) by omega]; exact wrap8 _ (by omega)
                          have hA := fun W h => put_any (w.heap.size + 1) (fromS S x t) (x + t) (by omega) W h
                          rw [from_next, Int.natCast_add] at hA
                          have HA := Lib.hid hA; have HI := Lib.hid hI; clear hA hI w8
                          go_wp2_with fail
                          refine (HA.out _ HI.out.b).mono ?_; rintro e w6 ⟨rfl, g6, h6⟩
                          have H6 := Lib.hid (HI.out.set g6 h6); clear g6 h6
                          go_wp2_with fail
                          go_roundw
                          case rel => exact ⟨t + 1, by omega, by rw [Int.natCast_add]; simp; omega, H6.out⟩
                          case measure => simp [intOf]; omega
                        · have u0 : decide ((x : Int) + (t : Int) ≤ (x : Int)) = false := decide_eq_false (by omega)
                          obtain rfl : t = x + 1 - x := by omega
                          rw [from_all S x x (Nat.le_refl _), ← or_range] at hI
                          have HI := Lib.hid hI; clear hI
                          go_wp2_with fail
                          go_roundw
                          case rel => exact ⟨m, _, f, cnt + 1, rfl, by go_num, by omega, by omega, by omega, HI.out, by rw [decide_eq_false (by omega)]; exact HMB.out⟩
                          case measure => simp [intOf]; omega
        · have hnd : ndF s k = none := by unfold ndF; rw [if_neg (by omega)]
          have hr1 : rbF sgI s k = (none, k) := by
            have ha : rbA s k = k := by unfold rbA; rw [if_neg (by omega)]
            unfold rbF; rw [ha, h93]; rfl
          have hsg := fun W => single_any s k (by omega) hsm W
          rw [hr1] at hsg
          rw [mb_bad hnd hr1] at hr
          dsimp only at hr
          subst hr
          rw [h93] at g0
          have HSG := Lib.hid hsg; clear hsg hr1 hnd h93
          go_wp2_with fail
          refine (HSG.out _).mono ?_; rintro e w' ⟨rfl, rfl⟩
          unfold sgV
          dsimp only
          go_upto_region 20 with fail
          go_wp2_with (first | (refine wpl_loadSet (by rfl) 35 (Or.inr rfl) _ (by rfl) (w.heap.size + 1) S (by rfl) HW.out.b ?_) | (refine wpl_storeSet (by rfl) 35 (Or.inr rfl) _ _ (by rfl) w.heap.size emptyS S (by rfl) (by rfl) HW.out.a ?_; intro w5 h5 g5))
          have hld := SAtT.read (Or.inr rfl) h5
          have hB := HW.out.bel.grown g5 HW.out.bel.size (fun j hj => by cases hj; omega)
          (try simp only [Exit.inBlock, Exit.then])
          refine bodyPost_ret (v := .tuple #[.agg (setC S).toArray, .int .i64 0, .int .i64 ((k : Int))]) (by simp [results, Try.results51, asAddr, Result.andThen, hld, Act.put]) rfl ⟨S, rfl, fun S h => (by cases h), hB⟩
    · obtain rfl : k = s.size := by omega
      rw [mbs_end] at hr
      subst hr
      have q0 : decide (s.size ≤ s.size) = true := by simp
      go_upto_region 6 with fail
      go_wp2_with (first | (refine wpl_loadSet (by rfl) 35 (Or.inr rfl) _ (by rfl) (w.heap.size + 1) S (by rfl) HW.out.b ?_) | (refine wpl_storeSet (by rfl) 35 (Or.inr rfl) _ _ (by rfl) w.heap.size emptyS S (by rfl) (by rfl) HW.out.a ?_; intro w5 h5 g5))
      have hld := SAtT.read (Or.inr rfl) h5
      have hB := HW.out.bel.grown g5 HW.out.bel.size (fun j hj => by cases hj; omega)
      (try simp only [Exit.inBlock, Exit.then])
      refine bodyPost_ret (v := .tuple #[.agg (setC S).toArray, .int .i64 0, .int .i64 ((s.size : Int))]) (by simp [results, Try.results51, asAddr, Result.andThen, hld, Act.put]) rfl ⟨S, rfl, fun S h => (by cases h), hB⟩
end Go.Proofs.Ytdnofpllmhnacaa
