/- The contract of the reference's Format. -/
import Derived.Test.YtfhppadcaoggeaaDoorFmt
import Derived.Deep.DeepCutAuto
import Derived.Deep.CutBlock
namespace Go.Proofs.YtfhppadcaoggeaaDoor
open Go.ChangeShapes Go.WideShapes Go.ChangeAt Go.RowKit
open Go.Lib (decDigits)
set_option linter.unusedVariables false

theorem rformat_no (n d k : Int) (w : World) (ho : fmtB n d k = false) (hk1 : -9223372036854775808 ≤ k) (hk2 : k ≤ 9223372036854775807) :
    Calls Tryd.prog 6 #[.agg #[.int .i64 n, .int .i64 d], .int .i64 k] w (FmtEnd n d k w) := by
  have hb0 : Below w.heap.size w (w.alloc (.cells #[.int .i64 n, .int .i64 d] 23)) := (Below.refl _ _).alloc (Nat.le_refl _) _
  have hv := fun w => rvalid_any n d w
  have HN := Lib.hid (fmt_no ho); have HO := Lib.hid ho
  have hh := ho
  unfold fmtB at hh
  have hh := of_decide_eq_false hh
  clear ho
  cases h1 : valB n d
  · rw [h1] at hv
    have HV := Lib.hid hv
    clear hv h1 hh
    go_enter Tryd.func6, Tryd.ntmps6
    go_wp2_with fail
    refine (HV.out _).mono ?_; rintro e w1 ⟨rfl, hb⟩
    go_wp2_with fail
    go_ret2
    exact ⟨by rw [HO.out, HN.out]; rfl, BelowOn hb0 hb⟩
  · rw [h1] at hv
    have HV := Lib.hid hv
    by_cases c1 : k < 0
    · clear hv h1 hh
      go_enter Tryd.func6, Tryd.ntmps6
      go_wp2_with fail
      refine (HV.out _).mono ?_; rintro e w1 ⟨rfl, hb⟩
      go_wp2_with fail
      go_ret2
      exact ⟨by rw [HO.out, HN.out]; rfl, BelowOn hb0 hb⟩
    · have c2 : 6 < k := by
        rcases Int.lt_or_le 6 k with h | h
        · exact h
        · exact absurd ⟨h1, by omega, h⟩ hh
      clear hv h1 hh
      go_enter Tryd.func6, Tryd.ntmps6
      go_wp2_with fail
      refine (HV.out _).mono ?_; rintro e w1 ⟨rfl, hb⟩
      go_wp2_with fail
      go_ret2
      exact ⟨by rw [HO.out, HN.out]; rfl, BelowOn hb0 hb⟩

theorem dec_len (x : Nat) (h : x ≤ 9223372036854775807) : (decDigits x).length ≤ 21 := by
  have := Lib.itoa_length_le (x : Int) (by omega) (by omega)
  rw [Lib.itoa_nonneg] at this; exact this
set_option maxHeartbeats 2000000 in
set_option maxRecDepth 100000 in
theorem rformat_yes (n d : Int) (m : Nat) (w : World) (ho : fmtB n d m = true) :
    Calls Tryd.prog 6 #[.agg #[.int .i64 n, .int .i64 d], .int .i64 (m : Int)] w (FmtEnd n d m w) := by
  have hb0 : Below w.heap.size w (w.alloc (.cells #[.int .i64 n, .int .i64 d] 23)) := (Below.refl _ _).alloc (Nat.le_refl _) _
  have hv := fun w => rvalid_any n d w
  have HN := Lib.hid (fmt_yes ho); have HO := Lib.hid ho
  have hh := ho
  unfold fmtB at hh
  obtain ⟨h1, _, hm⟩ := of_decide_eq_true hh
  have hm : m ≤ 6 := by omega
  obtain ⟨x0, x1, x2, x3, x4⟩ := valB_hold h1
  rw [h1] at hv
  have HV := Lib.hid hv
  have hr := rnd_int n d m (by omega)
  have hq := rnd_le n d m (by omega) (by omega) hm
  have hneg := fun (h : n < 0) (hq : 0 < rnd n d m) => fmtL_neg h hq
  have hpos := fun (h : ¬ (n < 0 ∧ 0 < rnd n d m)) => fmtL_pos h
  generalize rnd n d m = q at *
  have HR := Lib.hid hr; have HNEG := Lib.hid hneg; have HPOS := Lib.hid hpos
  clear ho hh hv h1 x4 hr hneg hpos
  go_enter Tryd.func6, Tryd.ntmps6
  go_wp2_with fail
  refine (HV.out _).mono ?_; rintro e w1 ⟨rfl, hb⟩
  have hB := BelowOn hb0 hb
  have T := (twoNew w w.heap.size (.int .i64 n) (.int .i64 d) rfl).call hb
  clear hb hb0
  go_wp2_with fail
  go_loop [6, 7] (fun p i => ∃ j : Nat, j ≤ m ∧ i = .int .i64 (j : Int) ∧ p = .int .i64 ((10 ^ j : Nat) : Int)) (fun _ i => m - (intOf i).toNat)
  case atStart => exact ⟨0, Nat.zero_le _, rfl, rfl⟩
  case round =>
    obtain ⟨j, hj, rfl, rfl⟩ := hrel
    obtain ⟨b1, b2⟩ := pow_le j m hj hm
    by_cases hlt : j < m
    · have e := pow_succ10 j
      obtain ⟨p, hp⟩ : ∃ p, p = 10 ^ j := ⟨_, rfl⟩
      obtain ⟨p', hp'⟩ : ∃ p, p = 10 ^ (j + 1) := ⟨_, rfl⟩
      rw [← hp] at e b1 b2 ⊢
      rw [← hp'] at e
      have HP := Lib.hid hp; have HP' := Lib.hid hp'; have HE := Lib.hid e
      clear hp hp' e
      go_wp2_with fail
      go_round
      case rel => exact ⟨j + 1, by omega, by go_num, by rw [← HP'.out, HE.out]; go_num⟩
      case measure => simp [intOf]; omega
    · obtain rfl : j = m := by omega
      obtain ⟨p, hp⟩ : ∃ p, p = 10 ^ j := ⟨_, rfl⟩
      rw [← hp] at b1 b2 HR ⊢
      have HP := Lib.hid hp; clear hp
      obtain ⟨c0, c1, lt⟩ := id T
      obtain ⟨s, hs⟩ : ∃ s : Nat, s = n.natAbs := ⟨_, rfl⟩
      have hs1 : s ≤ 1073741824 := by omega
      have hmx : max n (-n) = (s : Int) := by omega
      have hE := HR.out
      rw [← hs, Int.mul_assoc] at hE
      have HE := Lib.hid hE.symm
      clear hE
      have z1 := mul_bd (s : Int) (p : Int) 1073741824 1000000 (by omega) (by omega) (by omega) (by omega)
      have z2 : 0 ≤ (s : Int) * (p : Int) := Int.mul_nonneg (by omega) (by omega)
      have hI := fun w => rdecimal_any (q / p) (Nat.le_trans (Nat.div_le_self _ _) hq) w
      rw [Int.natCast_ediv] at hI
      have hlI := dec_len (q / p) (Nat.le_trans (Nat.div_le_self _ _) hq)
      rw [← bs_size] at hlI
      obtain ⟨I, hIs⟩ : ∃ I, I = bs (decDigits (q / p)) := ⟨_, rfl⟩
      rw [← hIs] at hI hlI
      have HI := Lib.hid hI; have HIS := Lib.hid hIs
      clear hI hIs hs HR
      go_upto_region 10 with (fail)
      rw [HE.out]
      clear HE z1 z2
      have dv0 : (0 : Int) ≤ (q : Int) / (p : Int) := Int.ediv_nonneg (by omega) (by omega)
      have dv1 : (q : Int) / (p : Int) ≤ 9223372036854775807 := by
        have := Nat.div_le_self q p
        rw [← Int.natCast_ediv]; omega
      have md0 : (0 : Int) ≤ (q : Int) % (p : Int) := Int.emod_nonneg _ (by omega)
      have md1 : (q : Int) % (p : Int) ≤ 1000000 := by
        have := Int.emod_lt_of_pos (q : Int) (show (0 : Int) < (p : Int) by omega)
        omega
      by_cases hj0 : j = 0
      · have hout : bs (outS q j) = I := by rw [HIS.out, HP.out, hj0]; unfold outS; simp
        have HOUT := Lib.hid hout; clear hout
        have hj1 : ¬ (0 : Int) < (j : Int) := by omega
        have HJ := Lib.hid hj0; clear hj0
        by_cases hn : n < 0
        · by_cases hq0 : 0 < q
          · have hq0' : (0 : Int) < (q : Int) := by omega
            go_wp2_with fail
            (with_reducible refine (HI.out _).mono ?_); rintro e w2 ⟨rfl, hb2⟩
            clear c0 c1 lt
            obtain ⟨c0, c1, lt⟩ := T.call hb2
            have hno : ¬ (9223372036854775807 < 1 + I.size) := by omega
            go_wp2_with fail
            go_ret2
            refine ⟨?_, BelowOn hB hb2⟩
            rw [HO.out, HN.out, HNEG.out hn hq0, HOUT.out]; rfl
          · have hq0' : ¬ (0 : Int) < (q : Int) := by omega
            go_wp2_with fail
            (with_reducible refine (HI.out _).mono ?_); rintro e w2 ⟨rfl, hb2⟩
            clear c0 c1 lt
            obtain ⟨c0, c1, lt⟩ := T.call hb2
            go_wp2_with fail
            go_ret2
            refine ⟨?_, BelowOn hB hb2⟩
            rw [HO.out, HN.out, HPOS.out (by omega), HOUT.out]; rfl
        · go_wp2_with fail
          (with_reducible refine (HI.out _).mono ?_); rintro e w2 ⟨rfl, hb2⟩
          clear c0 c1 lt
          obtain ⟨c0, c1, lt⟩ := T.call hb2
          go_wp2_with fail
          go_ret2
          refine ⟨?_, BelowOn hB hb2⟩
          rw [HO.out, HN.out, HPOS.out (by omega), HOUT.out]; rfl
      · obtain ⟨i, hji⟩ : ∃ i, j = i + 1 := ⟨j - 1, by omega⟩
        have hx : q % p < 10 ^ (i + 1) := by rw [← hji, ← HP.out]; exact Nat.mod_lt _ (by omega)
        have hpad := pad_low i (q % p) hx
        have hlow := low_len i (q % p) hx
        have hmod : pd (i + 1) (q % p) = pd j q := by rw [← hji, HP.out]; exact pd_mod j q
        rw [hmod] at hpad
        have hF := fun w => rdecimal_any (q % p) (Nat.le_trans (Nat.mod_le _ _) hq) w
        rw [Int.natCast_emod] at hF
        have hout : bs (outS q j) = I ++ (bs [46] ++ bs (zeros (j - (decDigits (q % p)).length) ++ decDigits (q % p))) := by
          rw [HIS.out, bs_append, bs_append, hji]
          unfold outS
          rw [if_neg (by omega), hpad, ← hji, HP.out]; rfl
        have hj1 : (0 : Int) < (j : Int) := by omega
        generalize hxx : q % p = x at *
        obtain ⟨L, hL⟩ : ∃ L, L = (decDigits x).length := ⟨_, rfl⟩
        rw [← hL] at hout hlow
        have HF := Lib.hid hF; have HOUT := Lib.hid hout; have HL := Lib.hid hL; have HJI := Lib.hid hji
        have hLj : L ≤ j := by omega
        have hLs : (bs (decDigits x)).size ≤ 7 := by rw [bs_size]; omega
        clear hF hout hL hji hx hpad hlow hmod hxx hj0
        go_wp2_with fail
        (with_reducible refine (HI.out _).mono ?_); rintro e w2 ⟨rfl, hb2⟩
        go_wp2_with fail
        (with_reducible refine (HF.out _).mono ?_); rintro e w3 ⟨rfl, hb3⟩
        have hB3 := BelowOn (BelowOn hB hb2) hb3
        have T3 := (T.call hb2).call hb3
        clear c0 c1 lt hb2 hb3
        go_wp2_with fail
        go_loop [11] (fun t => ∃ z : Nat, z ≤ j - L ∧ t = .string (bs (zeros z ++ decDigits x))) (fun t => match t with | .string s => j - s.size | _ => 0)
        case atStart => exact ⟨0, Nat.zero_le _, rfl⟩
        case round =>
          obtain ⟨z, hz, rfl⟩ := hrel
          have hsz : (bs (zeros z ++ decDigits x)).size = z + L := by rw [bs_size, List.length_append, HL.out]; unfold zeros; simp
          obtain ⟨S, hS⟩ : ∃ S, S = bs (zeros z ++ decDigits x) := ⟨_, rfl⟩
          rw [← hS] at hsz ⊢
          have hsz1 : z + L ≤ S.size := by omega
          have hsz2 : S.size ≤ z + L := by omega
          have HS := Lib.hid hS
          clear hS hsz
          by_cases hlt : z + L < j
          · have hlt' : S.size < j := by omega
            have hno : ¬ (9223372036854775807 < 1 + S.size) := by omega
            go_wp2_with fail
            go_round
            case rel =>
              refine ⟨z + 1, by omega, ?_⟩
              show Value.string (bs [48] ++ S) = _
              rw [HS.out, bs_append]; rfl
            case measure =>
              show j - (bs [48] ++ S).size < j - S.size
              rw [ByteArray.size_append, bs_size]; simp; omega
          · have hzj : z = j - L := by omega
            have heq : bs (outS q j) = I ++ (bs [46] ++ S) := by rw [HOUT.out, HS.out, hzj]
            have HEQ := Lib.hid heq
            have hlt' : ¬ S.size < j := by omega
            have hno1 : ¬ (9223372036854775807 < 1 + S.size) := by omega
            have hno2 : ¬ (9223372036854775807 < I.size + (1 + S.size)) := by omega
            have hno3 : ¬ (9223372036854775807 < 1 + (I.size + (1 + S.size))) := by omega
            obtain ⟨c0, c1, lt⟩ := id T3
            clear heq hzj
            by_cases hn : n < 0
            · by_cases hq0 : 0 < q
              · have hq0' : (0 : Int) < (q : Int) := by omega
                go_wp2_with fail
                go_ret2
                refine ⟨?_, hB3⟩
                rw [HO.out, HN.out, HNEG.out hn hq0, HEQ.out]; rfl
              · have hq0' : ¬ (0 : Int) < (q : Int) := by omega
                go_wp2_with fail
                go_ret2
                refine ⟨?_, hB3⟩
                rw [HO.out, HN.out, HPOS.out (by omega), HEQ.out]; rfl
            · go_wp2_with fail
              go_ret2
              refine ⟨?_, hB3⟩
              rw [HO.out, HN.out, HPOS.out (by omega), HEQ.out]; rfl

theorem rformat_any (n d k : Int) (w : World) (hk1 : -9223372036854775808 ≤ k) (hk2 : k ≤ 9223372036854775807) :
    Calls Tryd.prog 6 #[.agg #[.int .i64 n, .int .i64 d], .int .i64 k] w (FmtEnd n d k w) := by
  cases h : fmtB n d k
  · exact rformat_no n d k w h hk1 hk2
  · have hh := h
    unfold fmtB at hh
    obtain ⟨_, h0, _⟩ := of_decide_eq_true hh
    obtain ⟨m, rfl⟩ := Int.eq_ofNat_of_zero_le h0
    exact rformat_yes n d m w h
end Go.Proofs.YtfhppadcaoggeaaDoor
