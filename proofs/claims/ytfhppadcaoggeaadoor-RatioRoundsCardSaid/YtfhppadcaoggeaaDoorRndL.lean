/- The walk of RatioRounds. -/
import Derived.Test.YtfhppadcaoggeaaDoorFmtL
import Derived.Test.YtfhppadcaoggeaaDoorPrs
import Derived.Deep.DeepCutAuto
import Derived.Deep.CutBlock
namespace Go.Proofs.YtfhppadcaoggeaaDoor
open Go.ChangeShapes Go.WideShapes Go.ChangeAt Go.RowKit
set_option linter.unusedVariables false

theorem bs_at (l : List UInt8) (j : Nat) (h : j < (bs l).size) : (bs l)[j] = l[j]'(by rw [bs_size] at h; exact h) := rfl
/-- What the loop over the text needs of it. -/
structure Reads (S : ByteArray) (F : Nat → Nat × Int × Nat) (q k P : Nat) (neg : Prop) : Prop where
  zero : F 0 = (0, -1, 1)
  pos : 1 ≤ S.size
  len : S.size ≤ 29
  le : ∀ j, j ≤ S.size → (F j).1 ≤ q ∧ 1 ≤ (F j).2.2 ∧ (F j).2.2 ≤ P ∧ -1 ≤ (F j).2.1 ∧ (F j).2.1 ≤ j
  step : ∀ j (h : j < S.size), F (j + 1) = stp (F j) S[j]
  byte : ∀ j (h : j < S.size), S[j].toNat = 46 ∨ (48 ≤ S[j].toNat ∧ S[j].toNat ≤ 57) ∨ (j = 0 ∧ S[j].toNat = 45)
  fin : F S.size = (q, if k = 0 then -1 else (k : Int), P)
  sign : ∀ (h : 0 < S.size), (neg ∧ S[0].toNat = 45) ∨ (¬ neg ∧ S[0].toNat ≠ 45)
theorem reads_fmt (n d : Int) (k : Nat) (hq : rnd n d k ≤ 9223372036854775807) (hk : k ≤ 6) :
    Reads (bs (fmtL n d k)) (fun j => prs ((fmtL n d k).take j)) (rnd n d k) k (10 ^ k) (n < 0 ∧ 0 < rnd n d k) := by
  obtain ⟨l1, l2⟩ := fmt_len n d k hq hk
  refine ⟨rfl, by rw [bs_size]; exact l1, by rw [bs_size]; exact l2, fun j hj => ?_, fun j h => ?_, fun j h => ?_, ?_, fun h => ?_⟩
  · rw [bs_size] at hj
    have := prs_take (fmtL n d k) j hj
    rw [prs_fmt] at this
    exact this
  · rw [bs_at]; rw [bs_size] at h
    exact prs_succ _ j h
  · rw [bs_at]; rw [bs_size] at h
    rcases fmt_at n d k j h with h1 | h1
    · rcases h1 with h1 | h1
      · exact .inl h1
      · exact .inr (.inl h1)
    · exact .inr (.inr h1)
  · rw [bs_size]
    show prs ((fmtL n d k).take (fmtL n d k).length) = _
    rw [List.take_length, prs_fmt]
  · rw [bs_at]; rw [bs_size] at h
    exact fmt_first n d k h

set_option maxHeartbeats 3200000 in
set_option maxRecDepth 100000 in
theorem rounds (a0 a1 a2 : Int) (w : World) (ht : Tab w) (w0 : (Lit.int .i64 a0).wf = true) (w1 : (Lit.int .i64 a1).wf = true) (w2 : (Lit.int .i64 a2).wf = true) :
    Calls Tryd.prog 4 #[.int .i64 a0, .int .i64 a1, .int .i64 a2] w fun e w' => e = .returned (.bool true) ∧ Below w.heap.size w w' := by
  obtain ⟨x, x1, x2, x3, HX⟩ := some_hid a0 a1 65536 (by omega) (by omega) w0 w1
  obtain ⟨k, hk, ek⟩ := seven a2
  have xd : (0 : Int) < (x.den : Int) := by have := x.den_pos; omega
  have hv : valB x.num x.den = true := fits_val x (small_fits (A := 65536) (B := 65536) ⟨by omega, by omega, x3⟩ (by omega) (by omega))
  have h3 := fun W (hW : Below w.heap.size w W) => format_any x.num x.den k W (ht.call hW) (by omega) (by omega)
  have hb : fmtB x.num x.den k = true := by unfold fmtB; rw [hv]; simp; omega
  have hq := rnd_le x.num x.den k (by omega) (by omega) hk
  have hR := reads_fmt x.num x.den k hq hk
  have hN := rnd_near x.num x.den k xd
  obtain ⟨b1, b2⟩ := pow_le k k (Nat.le_refl _) hk
  unfold FmtEnd at h3
  rw [hb, fmt_yes hb] at h3
  generalize bs (fmtL x.num x.den k) = S at h3 hR
  generalize (fun j => prs ((fmtL x.num x.den k).take j)) = F at hR
  generalize rnd x.num x.den k = q at *
  generalize 10 ^ k = P at *
  obtain ⟨n, hn⟩ : ∃ n, n = x.num := ⟨_, rfl⟩
  obtain ⟨d, hd⟩ : ∃ d : Nat, d = x.den := ⟨_, rfl⟩
  unfold SomeEnd at HX
  rw [← hn, ← hd] at HX h3 hN
  rw [← hn] at x1 x2 hR
  rw [← hd] at x3 xd
  have H3 := Lib.hid h3
  have hS0 := hR.pos; have hS1 := hR.len
  have HR : Hid (Reads S F q k P (n < 0 ∧ 0 < q)) := hR
  have HN := Lib.hid hN
  have hp1 : (1 : Int) ≤ (P : Int) := by omega
  have hp2 : (P : Int) ≤ 1000000 := by omega
  have t1 := mul_bd (n.natAbs : Int) (P : Int) 65536 1000000 (by omega) (by omega) (by omega) (by omega)
  have t2 : 0 ≤ (n.natAbs : Int) * (P : Int) := Int.mul_nonneg (by omega) (by omega)
  have qd0 : 0 ≤ (q : Int) * (d : Int) := Int.mul_nonneg (by omega) (by omega)
  have hqd : (q : Int) ≤ (q : Int) * (d : Int) := by
    have := Int.mul_le_mul_of_nonneg_left (show (1 : Int) ≤ (d : Int) by omega) (show (0 : Int) ≤ (q : Int) by omega)
    rwa [Int.mul_one] at this
  have q1 : q ≤ 100000000000 := by omega
  have HT1 := Lib.hid t1; have HT2 := Lib.hid t2
  clear h3 hv hb hq hR hN hn hd w0 w1 w2 t1 t2 qd0 hqd
  go_enter Tryd.func4, Tryd.ntmps4
  go_wp2_with fail
  refine (HX.out _).mono ?_; rintro e w3 ⟨rfl, hb⟩
  have hB := hb
  clear hb
  have T1 := twoNew w3 w3.heap.size (.int .i64 n) (.int .i64 (d : Int)) rfl
  go_wp2_with fail
  refine (H3.out _ (blw hB _)).mono ?_; rintro e w4 ⟨rfl, hb⟩
  replace T1 := T1.call hb
  replace hB := BelowOn (blw hB _) hb
  clear hb
  go_wp2_with fail
  go_loop [10, 11, 12, 13] (fun nv bv pv iv => ∃ j : Nat, j ≤ S.size ∧ iv = .int .i64 (j : Int) ∧ nv = .int .i64 ((F j).1 : Int) ∧ bv = .int .i64 (F j).2.1 ∧ pv = .int .i64 ((F j).2.2 : Int)) (fun _ _ _ iv => S.size - (intOf iv).toNat)
  case atStart => exact ⟨0, Nat.zero_le _, rfl, by rw [HR.out.zero]; rfl, by rw [HR.out.zero], by rw [HR.out.zero]; rfl⟩
  case round =>
    obtain ⟨j, hj, rfl, rfl, rfl, rfl⟩ := hrel
    obtain ⟨f1, f2, f3, f4, f5⟩ := HR.out.le j hj
    by_cases hlt : j < S.size
    · have hst := HR.out.step j hlt
      have hby := HR.out.byte j hlt
      obtain ⟨f, hf⟩ : ∃ f, f = F j := ⟨_, rfl⟩
      rw [← hf] at hst f1 f2 f3 f4 f5 ⊢
      obtain ⟨m, b, p⟩ := f
      simp only at f1 f2 f3 f4 f5
      unfold stp at hst
      have HF := Lib.hid hf
      clear hf
      rcases hby with h46 | ⟨h48, h57⟩ | ⟨h0, h45⟩
      · rw [if_pos h46] at hst
        have HST := Lib.hid hst; clear hst
        go_wp2_with fail
        go_round
        case rel => exact ⟨j + 1, by omega, by go_num, by rw [HST.out], by rw [HST.out], by rw [HST.out]⟩
        case measure => simp [intOf]; omega
      · rw [if_neg (by omega), if_pos ⟨h48, h57⟩] at hst
        by_cases hb0 : 0 ≤ b
        · rw [if_pos hb0, if_pos hb0] at hst
          have HST := Lib.hid hst; clear hst
          go_wp2_with fail
          go_round
          case rel => exact ⟨j + 1, by omega, by go_num, by rw [HST.out]; go_num, by rw [HST.out], by rw [HST.out]; go_num⟩
          case measure => simp [intOf]; omega
        · rw [if_neg hb0, if_neg hb0] at hst
          have HST := Lib.hid hst; clear hst
          go_wp2_with fail
          go_round
          case rel => exact ⟨j + 1, by omega, by go_num, by rw [HST.out]; go_num, by rw [HST.out], by rw [HST.out]⟩
          case measure => simp [intOf]; omega
      · rw [if_neg (by omega), if_neg (by omega)] at hst
        have HST := Lib.hid hst; clear hst
        subst h0
        go_wp2_with fail
        go_round
        case rel => exact ⟨0 + 1, by omega, by go_num, by rw [HST.out], by rw [HST.out], by rw [HST.out]⟩
        case measure => simp [intOf]; omega
    · obtain rfl : j = S.size := by omega
      have hfin := HR.out.fin
      obtain ⟨f, hf⟩ : ∃ f, f = F S.size := ⟨_, rfl⟩
      rw [← hf] at hfin f1 f2 f3 f4 f5 ⊢
      obtain ⟨m, b, p⟩ := f
      obtain ⟨rfl, hbp⟩ := Prod.mk.inj hfin
      obtain ⟨hbk, rfl⟩ := Prod.mk.inj hbp
      simp only at f1 f2 f3 f4 f5
      have hmx : max b 0 = (k : Int) := by rw [hbk]; split <;> omega
      have hsg := HR.out.sign (by omega)
      have hE := HN.out
      have t1 := HT1.out; have t2 := HT2.out
      have hN := Lib.hid hE; have hF := Lib.hid hf
      clear hfin hbp hbk hf hE
      obtain ⟨c0, c1, lt⟩ := id T1
      rcases hsg with ⟨⟨hn, hq0⟩, h45⟩ | ⟨hsg, h45⟩
      · have hab : (n.natAbs : Int) = -n := by omega
        have HAB := Lib.hid hab
        obtain ⟨v, hv⟩ : ∃ v : Int, v = -(m : Int) := ⟨_, rfl⟩
        obtain ⟨Z, hZ⟩ : ∃ Z, Z = v * (d : Int) := ⟨_, rfl⟩
        obtain ⟨T, hT⟩ : ∃ T, T = n * (p : Int) := ⟨_, rfl⟩
        have hz : Z = -((m : Int) * (d : Int)) := by rw [hZ, hv, Int.neg_mul]
        have htt : T = -((n.natAbs : Int) * (p : Int)) := by rw [hT, hab, Int.neg_mul, Int.neg_neg]
        have hfinal : 2 * max (Z - T) (-(Z - T)) ≤ (d : Int) ∧ -70000000000 ≤ Z ∧ Z ≤ 70000000000 ∧ -70000000000 ≤ T ∧ T ≤ 70000000000 := by
          have := hN.out
          have := HT1.out; have := HT2.out
          have hmd : 0 ≤ (m : Int) * (d : Int) := Int.mul_nonneg (by omega) (by omega)
          omega
        obtain ⟨g0, g1, g2, g3, g4⟩ := hfinal
        have HZ := Lib.hid hZ.symm; have HT := Lib.hid hT.symm; have HV := Lib.hid hv.symm
        have zb : -70000000000 ≤ v * (d : Int) ∧ v * (d : Int) ≤ 70000000000 := by rw [HZ.out]; exact ⟨g1, g2⟩
        have tb : -70000000000 ≤ n * (p : Int) ∧ n * (p : Int) ≤ 70000000000 := by rw [HT.out]; exact ⟨g3, g4⟩
        obtain ⟨zb1, zb2⟩ := zb
        obtain ⟨tb1, tb2⟩ := tb
        clear hz htt hZ hT hab hv t1 t2
        go_upto_region 23 with (fail)
        rw [HV.out]
        go_upto_region 24 with (fail)
        rw [HZ.out, HT.out]
        clear zb1 zb2 tb1 tb2 HV HZ HT HN HT1 HT2 HAB
        go_wp2_with fail
        refine (known_any _).mono ?_; rintro e w6 ⟨rfl, hb⟩
        replace hB := BelowOn hB hb
        go_wp2_with fail
        go_ret
        exact ⟨rfl, hB⟩
      · obtain ⟨Z, hZ⟩ : ∃ Z, Z = (m : Int) * (d : Int) := ⟨_, rfl⟩
        obtain ⟨T, hT⟩ : ∃ T, T = n * (p : Int) := ⟨_, rfl⟩
        have hfinal : 2 * max (Z - T) (-(Z - T)) ≤ (d : Int) ∧ -70000000000 ≤ Z ∧ Z ≤ 70000000000 ∧ -70000000000 ≤ T ∧ T ≤ 70000000000 := by
          have e := hN.out
          rw [← hZ] at e
          have hmd : 0 ≤ (m : Int) * (d : Int) := Int.mul_nonneg (by omega) (by omega)
          rw [← hZ] at hmd
          by_cases hn : n < 0
          · have hab : (n.natAbs : Int) = -n := by omega
            have htt : T = -((n.natAbs : Int) * (p : Int)) := by rw [hT, hab, Int.neg_mul, Int.neg_neg]
            obtain rfl : m = 0 := by omega
            have hz0 : Z = 0 := by rw [hZ]; simp
            omega
          · have hab : (n.natAbs : Int) = n := by omega
            have htt : T = (n.natAbs : Int) * (p : Int) := by rw [hT, hab]
            omega
        obtain ⟨g0, g1, g2, g3, g4⟩ := hfinal
        have HZ := Lib.hid hZ.symm; have HT := Lib.hid hT.symm
        have zb : -70000000000 ≤ (m : Int) * (d : Int) ∧ (m : Int) * (d : Int) ≤ 70000000000 := by rw [HZ.out]; exact ⟨g1, g2⟩
        have tb : -70000000000 ≤ n * (p : Int) ∧ n * (p : Int) ≤ 70000000000 := by rw [HT.out]; exact ⟨g3, g4⟩
        obtain ⟨zb1, zb2⟩ := zb
        obtain ⟨tb1, tb2⟩ := tb
        clear hZ hT t1 t2 hsg
        go_upto_region 24 with (fail)
        rw [HZ.out, HT.out]
        clear zb1 zb2 tb1 tb2 HZ HT HN HT1 HT2
        go_wp2_with fail
        refine (known_any _).mono ?_; rintro e w6 ⟨rfl, hb⟩
        replace hB := BelowOn hB hb
        go_wp2_with fail
        go_ret
        exact ⟨rfl, hB⟩
end Go.Proofs.YtfhppadcaoggeaaDoor
