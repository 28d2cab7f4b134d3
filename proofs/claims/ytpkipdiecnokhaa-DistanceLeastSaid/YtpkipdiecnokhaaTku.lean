/- Contracts of the reference's word, number, blank, Cut and Tokens. -/
import Derived.Test.YtpkipdiecnokhaaTkt
namespace Go.Proofs.Ytpkipdiecnokhaa
open Go.ChangeShapes Go.WideShapes Go.ChangeAt Go.RowKit
set_option linter.unusedVariables false
set_option linter.unusedSimpArgs false
set_option maxRecDepth 100000

theorem wN_not (T T' : List UInt8) (b : UInt8) (e : T = b :: T') (h : ¬ cls (b.toNat : Int) = 4) : wN T = 0 := by rw [e]; exact if_neg h
theorem wN_yes (T T' : List UInt8) (b : UInt8) (e : T = b :: T') (h : cls (b.toNat : Int) = 4) : wN T = 1 + runL fW jW T' := by rw [e, Nat.add_comm]; exact if_pos h
theorem nN_not (T T' : List UInt8) (b : UInt8) (e : T = b :: T') (h : ¬ cls (b.toNat : Int) = 3) : nN T = 0 := by rw [e]; exact if_neg h
theorem nN_yes (T T' : List UInt8) (b : UInt8) (e : T = b :: T') (h : cls (b.toNat : Int) = 3) : nN T = 1 + runL fD jD T' := by rw [e, Nat.add_comm]; exact if_pos h
theorem two_on (f j : UInt8 → Bool) (s : ByteArray) (k R : Nat) (h1 : k + 1 < s.size) (hj : j (s[k]'(by omega)) = true) (hf : f s[k + 1] = true) (h : k + runL f j (s.data.toList.drop k) = R) : k + 2 + runL f j (s.data.toList.drop (k + 2)) = R := by
  rw [drop_cons s k (by omega), runL_joint f j _ _ (by rw [hj, hd_drop f s (k + 1) h1, hf]; rfl), drop_cons s (k + 1) h1, runL_yes f j _ _ hf] at h
  change k + 2 + runL f j (s.data.toList.drop (k + 1 + 1)) = R
  omega
theorem one_on (f j : UInt8 → Bool) (s : ByteArray) (k R : Nat) (h1 : k < s.size) (hf : f s[k] = true) (h : k + runL f j (s.data.toList.drop k) = R) : k + 1 + runL f j (s.data.toList.drop (k + 1)) = R := by
  rw [drop_cons s k h1, runL_yes f j _ _ hf] at h
  omega
theorem stop_j (f j : UInt8 → Bool) (s : ByteArray) (k R : Nat) (h1 : k < s.size) (hf : f s[k] = false) (hj : j s[k] = false) (h : k + runL f j (s.data.toList.drop k) = R) : k = R := by
  rw [drop_cons s k h1, runL_no f j _ _ hf (by rw [hj]; rfl)] at h; omega
theorem stop_f (f j : UInt8 → Bool) (s : ByteArray) (k R : Nat) (h1 : k + 1 < s.size) (hf : f (s[k]'(by omega)) = false) (hg : f s[k + 1] = false) (h : k + runL f j (s.data.toList.drop k) = R) : k = R := by
  rw [drop_cons s k (by omega), runL_no f j _ _ hf (by rw [hd_drop f s (k + 1) h1, hg]; simp)] at h; omega
theorem stop_e (f j : UInt8 → Bool) (s : ByteArray) (k R : Nat) (h0 : k < s.size) (h1 : ¬ k + 1 < s.size) (hf : f s[k] = false) (h : k + runL f j (s.data.toList.drop k) = R) : k = R := by
  rw [drop_cons s k h0, runL_no f j _ _ hf (by rw [hd_end f s (k + 1) (by omega)]; simp)] at h; omega
theorem stop_n (f j : UInt8 → Bool) (s : ByteArray) (R : Nat) (h : s.size + runL f j (s.data.toList.drop s.size) = R) : s.size = R := by
  rw [drop_end s _ (Nat.le_refl _)] at h; exact h
theorem int_of {k : IntKind} {a b : Nat} (h : a = b) : Ending.returned (.int k (a : Int)) = .returned (.int k (b : Int)) := by rw [h]

set_option maxHeartbeats 3200000 in
theorem rword_any (s : ByteArray) (w : World) (h0 : 0 < s.size) (hs : s.size ≤ 140737488355328) : Calls Try.prog 72 #[.string s] w fun e w' => e = .returned (.int .i64 (wN s.data.toList)) ∧ w = w' := by
  have hb := byteU_le s[0]
  have hc := fun W => rof_any (s[0].toNat : Int) W (by omega) hb
  have e := list_at s h0
  have hq := str_some (a := s) (by omega)
  have h0' : (0 : Int) < (s.size : Int) := by omega
  have HC := Lib.hid hc; clear hc
  by_cases c4 : cls (s[0].toNat : Int) = 4
  · have hR := wN_yes _ _ _ e c4
    have q4 : (cls (s[0].toNat : Int) == 4) = true := by simpa using c4
    have q4' : (cls (s[0].toNat : Int) != 4) = false := by simp [c4]
    generalize wN s.data.toList = R at *
    have H0 := Lib.hid hR.symm
    clear hR c4 e
    go_enter Try.func72, Try.ntmps72
    go_wp2_with fail
    refine (HC.out _).mono ?_; rintro e w1 ⟨rfl, rfl⟩
    go_wp2_with fail
    go_loop [3] (fun i => ∃ k : Nat, k ≤ s.size ∧ i = .int .i64 k ∧ Hid (k + runL fW jW (s.data.toList.drop k) = R)) (fun i => s.size - (intOf i).toNat)
    case atStart => exact ⟨1, h0, rfl, H0⟩
    case round =>
      obtain ⟨k, hk, rfl, HK⟩ := hrel
      by_cases hlt : k < s.size
      · have hlt' : (k : Int) < (s.size : Int) := by omega
        have hb1 := byteU_le (s[k]'hlt)
        have hd := fun W => rof_any ((s[k]'hlt).toNat : Int) W (by omega) hb1
        have HD := Lib.hid hd; clear hd
        have EF := Lib.hid (fW_eq (s[k]'hlt)); have EJ := Lib.hid (jW_eq (s[k]'hlt))
        cases a4 : (cls ((s[k]'hlt).toNat : Int) == 4)
        · cases a3 : (cls ((s[k]'hlt).toNat : Int) == 3)
          · have hf : fW (s[k]'hlt) = false := by rw [EF.out, a4, a3]; rfl
            have HF := Lib.hid hf; clear hf
            cases a39 : (((s[k]'hlt).toNat : Int) == 39)
            · cases a45 : (((s[k]'hlt).toNat : Int) == 45)
              · have HZ := Lib.hid (stop_j fW jW s k R hlt HF.out (by rw [EJ.out, a39, a45]; rfl) HK.out)
                go_wp2_with fail
                refine (HD.out _).mono ?_; rintro e w1 ⟨rfl, rfl⟩
                go_wp2_with fail
                go_ret
                exact ⟨int_of HZ.out, rfl⟩
              · have hj : jW (s[k]'hlt) = true := by rw [EJ.out, a39, a45]; rfl
                have HJ := Lib.hid hj; clear hj
                by_cases hl2 : k + 1 < s.size
                · have hl2' : (k : Int) + 1 < (s.size : Int) := by omega
                  have hb2 := byteU_le (s[k + 1]'hl2)
                  have he := fun W => rof_any ((s[k + 1]'hl2).toNat : Int) W (by omega) hb2
                  have HE := Lib.hid he; clear he
                  have EG := Lib.hid (fW_eq (s[k + 1]'hl2))
                  cases b4 : (cls ((s[k + 1]'hl2).toNat : Int) == 4)
                  · cases b3 : (cls ((s[k + 1]'hl2).toNat : Int) == 3)
                    · have HZ := Lib.hid (stop_f fW jW s k R hl2 HF.out (by rw [EG.out, b4, b3]; rfl) HK.out)
                      go_wp2_with fail
                      refine (HD.out _).mono ?_; rintro e w1 ⟨rfl, rfl⟩
                      go_wp2_with fail
                      refine (HE.out _).mono ?_; rintro e w1 ⟨rfl, rfl⟩
                      go_wp2_with fail
                      go_ret
                      exact ⟨int_of HZ.out, rfl⟩
                    · have HZ := Lib.hid (two_on fW jW s k R hl2 HJ.out (by rw [EG.out, b4, b3]; rfl) HK.out)
                      go_wp2_with fail
                      refine (HD.out _).mono ?_; rintro e w1 ⟨rfl, rfl⟩
                      go_wp2_with fail
                      refine (HE.out _).mono ?_; rintro e w1 ⟨rfl, rfl⟩
                      go_wp2_with fail
                      go_round
                      case rel => exact ⟨k + 2, hl2, by go_num, HZ⟩
                      case measure => simp [intOf]; omega
                  · have HZ := Lib.hid (two_on fW jW s k R hl2 HJ.out (by rw [EG.out, b4]; rfl) HK.out)
                    go_wp2_with fail
                    refine (HD.out _).mono ?_; rintro e w1 ⟨rfl, rfl⟩
                    go_wp2_with fail
                    refine (HE.out _).mono ?_; rintro e w1 ⟨rfl, rfl⟩
                    go_wp2_with fail
                    go_round
                    case rel => exact ⟨k + 2, hl2, by go_num, HZ⟩
                    case measure => simp [intOf]; omega
                · have hl2' : ¬ (k : Int) + 1 < (s.size : Int) := by omega
                  have HZ := Lib.hid (stop_e fW jW s k R hlt hl2 HF.out HK.out)
                  go_wp2_with fail
                  refine (HD.out _).mono ?_; rintro e w1 ⟨rfl, rfl⟩
                  go_wp2_with fail
                  go_ret
                  exact ⟨int_of HZ.out, rfl⟩
            · have hj : jW (s[k]'hlt) = true := by rw [EJ.out, a39]; rfl
              have HJ := Lib.hid hj; clear hj
              by_cases hl2 : k + 1 < s.size
              · have hl2' : (k : Int) + 1 < (s.size : Int) := by omega
                have hb2 := byteU_le (s[k + 1]'hl2)
                have he := fun W => rof_any ((s[k + 1]'hl2).toNat : Int) W (by omega) hb2
                have HE := Lib.hid he; clear he
                have EG := Lib.hid (fW_eq (s[k + 1]'hl2))
                cases b4 : (cls ((s[k + 1]'hl2).toNat : Int) == 4)
                · cases b3 : (cls ((s[k + 1]'hl2).toNat : Int) == 3)
                  · have HZ := Lib.hid (stop_f fW jW s k R hl2 HF.out (by rw [EG.out, b4, b3]; rfl) HK.out)
                    go_wp2_with fail
                    refine (HD.out _).mono ?_; rintro e w1 ⟨rfl, rfl⟩
                    go_wp2_with fail
                    refine (HE.out _).mono ?_; rintro e w1 ⟨rfl, rfl⟩
                    go_wp2_with fail
                    go_ret
                    exact ⟨int_of HZ.out, rfl⟩
                  · have HZ := Lib.hid (two_on fW jW s k R hl2 HJ.out (by rw [EG.out, b4, b3]; rfl) HK.out)
                    go_wp2_with fail
                    refine (HD.out _).mono ?_; rintro e w1 ⟨rfl, rfl⟩
                    go_wp2_with fail
                    refine (HE.out _).mono ?_; rintro e w1 ⟨rfl, rfl⟩
                    go_wp2_with fail
                    go_round
                    case rel => exact ⟨k + 2, hl2, by go_num, HZ⟩
                    case measure => simp [intOf]; omega
                · have HZ := Lib.hid (two_on fW jW s k R hl2 HJ.out (by rw [EG.out, b4]; rfl) HK.out)
                  go_wp2_with fail
                  refine (HD.out _).mono ?_; rintro e w1 ⟨rfl, rfl⟩
                  go_wp2_with fail
                  refine (HE.out _).mono ?_; rintro e w1 ⟨rfl, rfl⟩
                  go_wp2_with fail
                  go_round
                  case rel => exact ⟨k + 2, hl2, by go_num, HZ⟩
                  case measure => simp [intOf]; omega
              · have hl2' : ¬ (k : Int) + 1 < (s.size : Int) := by omega
                have HZ := Lib.hid (stop_e fW jW s k R hlt hl2 HF.out HK.out)
                go_wp2_with fail
                refine (HD.out _).mono ?_; rintro e w1 ⟨rfl, rfl⟩
                go_wp2_with fail
                go_ret
                exact ⟨int_of HZ.out, rfl⟩
          · have HZ := Lib.hid (one_on fW jW s k R hlt (by rw [EF.out, a4, a3]; rfl) HK.out)
            go_wp2_with fail
            refine (HD.out _).mono ?_; rintro e w1 ⟨rfl, rfl⟩
            go_wp2_with fail
            go_round
            case rel => exact ⟨k + 1, hlt, by go_num, HZ⟩
            case measure => simp [intOf]; omega
        · have HZ := Lib.hid (one_on fW jW s k R hlt (by rw [EF.out, a4]; rfl) HK.out)
          go_wp2_with fail
          refine (HD.out _).mono ?_; rintro e w1 ⟨rfl, rfl⟩
          go_wp2_with fail
          go_round
          case rel => exact ⟨k + 1, hlt, by go_num, HZ⟩
          case measure => simp [intOf]; omega
      · obtain rfl : k = s.size := by omega
        have HZ := Lib.hid (stop_n _ _ _ _ HK.out)
        go_wp2_with fail
        go_ret
        exact ⟨int_of HZ.out, rfl⟩
  · have hR := wN_not _ _ _ e c4
    have q4 : (cls (s[0].toNat : Int) == 4) = false := by simpa using c4
    have q4' : (cls (s[0].toNat : Int) != 4) = true := by simp [c4]
    have HR := Lib.hid hR; clear hR c4 e
    go_enter Try.func72, Try.ntmps72
    go_wp2_with fail
    refine (HC.out _).mono ?_; rintro e w1 ⟨rfl, rfl⟩
    go_wp2_with fail
    go_ret
    exact ⟨by rw [HR.out]; rfl, rfl⟩

set_option maxHeartbeats 3200000 in
theorem rnumber_any (s : ByteArray) (w : World) (h0 : 0 < s.size) (hs : s.size ≤ 140737488355328) : Calls Try.prog 73 #[.string s] w fun e w' => e = .returned (.int .i64 (nN s.data.toList)) ∧ w = w' := by
  have hb := byteU_le s[0]
  have hc := fun W => rof_any (s[0].toNat : Int) W (by omega) hb
  have e := list_at s h0
  have hq := str_some (a := s) (by omega)
  have h0' : (0 : Int) < (s.size : Int) := by omega
  have HC := Lib.hid hc; clear hc
  by_cases c4 : cls (s[0].toNat : Int) = 3
  · have hR := nN_yes _ _ _ e c4
    have q4 : (cls (s[0].toNat : Int) == 3) = true := by simpa using c4
    have q4' : (cls (s[0].toNat : Int) != 3) = false := by simp [c4]
    generalize nN s.data.toList = R at *
    have H0 := Lib.hid hR.symm
    clear hR c4 e
    go_enter Try.func73, Try.ntmps73
    go_wp2_with fail
    refine (HC.out _).mono ?_; rintro e w1 ⟨rfl, rfl⟩
    go_wp2_with fail
    go_loop [3] (fun i => ∃ k : Nat, k ≤ s.size ∧ i = .int .i64 k ∧ Hid (k + runL fD jD (s.data.toList.drop k) = R)) (fun i => s.size - (intOf i).toNat)
    case atStart => exact ⟨1, h0, rfl, H0⟩
    case round =>
      obtain ⟨k, hk, rfl, HK⟩ := hrel
      by_cases hlt : k < s.size
      · have hlt' : (k : Int) < (s.size : Int) := by omega
        have hb1 := byteU_le (s[k]'hlt)
        have hd := fun W => rof_any ((s[k]'hlt).toNat : Int) W (by omega) hb1
        have HD := Lib.hid hd; clear hd
        have EF := Lib.hid (fD_eq (s[k]'hlt)); have EJ := Lib.hid (jD_eq (s[k]'hlt))
        cases a3 : (cls ((s[k]'hlt).toNat : Int) == 3)
        · have hf : fD (s[k]'hlt) = false := by rw [EF.out, a3]
          have HF := Lib.hid hf; clear hf
          cases a39 : (((s[k]'hlt).toNat : Int) == 46)
          · cases a45 : (((s[k]'hlt).toNat : Int) == 44)
            · have HZ := Lib.hid (stop_j fD jD s k R hlt HF.out (by rw [EJ.out, a39, a45]; rfl) HK.out)
              go_wp2_with fail
              refine (HD.out _).mono ?_; rintro e w1 ⟨rfl, rfl⟩
              go_wp2_with fail
              go_ret
              exact ⟨int_of HZ.out, rfl⟩
            · have hj : jD (s[k]'hlt) = true := by rw [EJ.out, a39, a45]; rfl
              have HJ := Lib.hid hj; clear hj
              by_cases hl2 : k + 1 < s.size
              · have hl2' : (k : Int) + 1 < (s.size : Int) := by omega
                have hb2 := byteU_le (s[k + 1]'hl2)
                have he := fun W => rof_any ((s[k + 1]'hl2).toNat : Int) W (by omega) hb2
                have HE := Lib.hid he; clear he
                have EG := Lib.hid (fD_eq (s[k + 1]'hl2))
                cases b3 : (cls ((s[k + 1]'hl2).toNat : Int) == 3)
                · have HZ := Lib.hid (stop_f fD jD s k R hl2 HF.out (by rw [EG.out, b3]) HK.out)
                  go_wp2_with fail
                  refine (HD.out _).mono ?_; rintro e w1 ⟨rfl, rfl⟩
                  go_wp2_with fail
                  refine (HE.out _).mono ?_; rintro e w1 ⟨rfl, rfl⟩
                  go_wp2_with fail
                  go_ret
                  exact ⟨int_of HZ.out, rfl⟩
                · have HZ := Lib.hid (two_on fD jD s k R hl2 HJ.out (by rw [EG.out, b3]) HK.out)
                  go_wp2_with fail
                  refine (HD.out _).mono ?_; rintro e w1 ⟨rfl, rfl⟩
                  go_wp2_with fail
                  refine (HE.out _).mono ?_; rintro e w1 ⟨rfl, rfl⟩
                  go_wp2_with fail
                  go_round
                  case rel => exact ⟨k + 2, hl2, by go_num, HZ⟩
                  case measure => simp [intOf]; omega
              · have hl2' : ¬ (k : Int) + 1 < (s.size : Int) := by omega
                have HZ := Lib.hid (stop_e fD jD s k R hlt hl2 HF.out HK.out)
                go_wp2_with fail
                refine (HD.out _).mono ?_; rintro e w1 ⟨rfl, rfl⟩
                go_wp2_with fail
                go_ret
                exact ⟨int_of HZ.out, rfl⟩
          · have hj : jD (s[k]'hlt) = true := by rw [EJ.out, a39]; rfl
            have HJ := Lib.hid hj; clear hj
            by_cases hl2 : k + 1 < s.size
            · have hl2' : (k : Int) + 1 < (s.size : Int) := by omega
              have hb2 := byteU_le (s[k + 1]'hl2)
              have he := fun W => rof_any ((s[k + 1]'hl2).toNat : Int) W (by omega) hb2
              have HE := Lib.hid he; clear he
              have EG := Lib.hid (fD_eq (s[k + 1]'hl2))
              cases b3 : (cls ((s[k + 1]'hl2).toNat : Int) == 3)
              · have HZ := Lib.hid (stop_f fD jD s k R hl2 HF.out (by rw [EG.out, b3]) HK.out)
                go_wp2_with fail
                refine (HD.out _).mono ?_; rintro e w1 ⟨rfl, rfl⟩
                go_wp2_with fail
                refine (HE.out _).mono ?_; rintro e w1 ⟨rfl, rfl⟩
                go_wp2_with fail
                go_ret
                exact ⟨int_of HZ.out, rfl⟩
              · have HZ := Lib.hid (two_on fD jD s k R hl2 HJ.out (by rw [EG.out, b3]) HK.out)
                go_wp2_with fail
                refine (HD.out _).mono ?_; rintro e w1 ⟨rfl, rfl⟩
                go_wp2_with fail
                refine (HE.out _).mono ?_; rintro e w1 ⟨rfl, rfl⟩
                go_wp2_with fail
                go_round
                case rel => exact ⟨k + 2, hl2, by go_num, HZ⟩
                case measure => simp [intOf]; omega
            · have hl2' : ¬ (k : Int) + 1 < (s.size : Int) := by omega
              have HZ := Lib.hid (stop_e fD jD s k R hlt hl2 HF.out HK.out)
              go_wp2_with fail
              refine (HD.out _).mono ?_; rintro e w1 ⟨rfl, rfl⟩
              go_wp2_with fail
              go_ret
              exact ⟨int_of HZ.out, rfl⟩
        · have HZ := Lib.hid (one_on fD jD s k R hlt (by rw [EF.out, a3]) HK.out)
          go_wp2_with fail
          refine (HD.out _).mono ?_; rintro e w1 ⟨rfl, rfl⟩
          go_wp2_with fail
          go_round
          case rel => exact ⟨k + 1, hlt, by go_num, HZ⟩
          case measure => simp [intOf]; omega
      · obtain rfl : k = s.size := by omega
        have HZ := Lib.hid (stop_n _ _ _ _ HK.out)
        go_wp2_with fail
        go_ret
        exact ⟨int_of HZ.out, rfl⟩
  · have hR := nN_not _ _ _ e c4
    have q4 : (cls (s[0].toNat : Int) == 3) = false := by simpa using c4
    have q4' : (cls (s[0].toNat : Int) != 3) = true := by simp [c4]
    have HR := Lib.hid hR; clear hR c4 e
    go_enter Try.func73, Try.ntmps73
    go_wp2_with fail
    refine (HC.out _).mono ?_; rintro e w1 ⟨rfl, rfl⟩
    go_wp2_with fail
    go_ret
    exact ⟨by rw [HR.out]; rfl, rfl⟩

set_option maxHeartbeats 1600000 in
theorem rblank_any (s : ByteArray) (w : World) (hs : s.size ≤ 140737488355328) : Calls Try.prog 74 #[.string s] w fun e w' => e = .returned (.int .i64 (runL fS jS s.data.toList)) ∧ w = w' := by
  generalize hR : runL fS jS s.data.toList = R
  have H0 := Lib.hid (show 0 + runL fS jS (s.data.toList.drop 0) = R by rw [List.drop_zero, hR]; omega)
  clear hR
  go_enter Try.func74, Try.ntmps74
  go_wp2_with fail
  go_loop [3] (fun i => ∃ k : Nat, k ≤ s.size ∧ i = .int .i64 k ∧ Hid (k + runL fS jS (s.data.toList.drop k) = R)) (fun i => s.size - (intOf i).toNat)
  case atStart => exact ⟨0, Nat.zero_le _, rfl, H0⟩
  case round =>
    obtain ⟨k, hk, rfl, HK⟩ := hrel
    by_cases hlt : k < s.size
    · have hlt' : (k : Int) < (s.size : Int) := by omega
      have hb1 := byteU_le (s[k]'hlt)
      have hd := fun W => rof_any ((s[k]'hlt).toNat : Int) W (by omega) hb1
      have HD := Lib.hid hd; clear hd
      have EF := Lib.hid (fS_eq (s[k]'hlt))
      cases a2 : (cls ((s[k]'hlt).toNat : Int) == 2)
      · have HZ := Lib.hid (stop_j fS jS s k R hlt (by rw [EF.out, a2]) rfl HK.out)
        go_wp2_with fail
        refine (HD.out _).mono ?_; rintro e w1 ⟨rfl, rfl⟩
        go_wp2_with fail
        go_ret
        exact ⟨int_of HZ.out, rfl⟩
      · have HZ := Lib.hid (one_on fS jS s k R hlt (by rw [EF.out, a2]) HK.out)
        go_wp2_with fail
        refine (HD.out _).mono ?_; rintro e w1 ⟨rfl, rfl⟩
        go_wp2_with fail
        go_round
        case rel => exact ⟨k + 1, hlt, by go_num, HZ⟩
        case measure => simp [intOf]; omega
    · obtain rfl : k = s.size := by omega
      have HZ := Lib.hid (stop_n _ _ _ _ HK.out)
      go_wp2_with fail
      go_ret
      exact ⟨int_of HZ.out, rfl⟩

/-- What word, number and blank answer at a rest, together. -/
def Parts3 (T : List UInt8) (kk : Int) (n : Nat) : Prop := (kk = 6 ∧ wN T = n ∧ nN T = 0 ∧ runL fS jS T = 0) ∨ (kk = 7 ∧ wN T = 0 ∧ nN T = n ∧ runL fS jS T = 0) ∨ (kk = 8 ∧ wN T = 0 ∧ nN T = 0 ∧ runL fS jS T = n) ∨ (kk = 9 ∧ n = 1 ∧ wN T = 0 ∧ nN T = 0 ∧ runL fS jS T = 0)
theorem parts3 (b : UInt8) (t : List UInt8) : Parts3 (b :: t) (kindT b) (sizeT (b :: t)) := by
  unfold Parts3
  by_cases c4 : cb b = 4
  · left
    refine ⟨if_pos c4, by rw [sizeT, if_pos c4]; exact if_pos c4, if_neg (by omega), ?_⟩
    rw [runL_no _ _ _ _ (by unfold fS; simp [c4]) rfl]
  · by_cases c3 : cb b = 3
    · right; left
      refine ⟨by unfold kindT; rw [if_neg c4, if_pos c3], if_neg c4, by rw [sizeT, if_neg c4, if_pos c3]; exact if_pos c3, ?_⟩
      rw [runL_no _ _ _ _ (by unfold fS; simp [c3]) rfl]
    · by_cases c2 : cb b = 2
      · right; right; left
        refine ⟨by unfold kindT; rw [if_neg c4, if_neg c3, if_pos c2], if_neg c4, if_neg c3, by rw [sizeT, if_neg c4, if_neg c3, if_pos c2, runL_yes _ _ _ _ (by unfold fS; simp [c2])]⟩
      · right; right; right
        refine ⟨by unfold kindT; rw [if_neg c4, if_neg c3, if_neg c2], by rw [sizeT, if_neg c4, if_neg c3, if_neg c2], if_neg c4, if_neg c3, ?_⟩
        rw [runL_no _ _ _ _ (by unfold fS; simp [c2]) rfl]
set_option maxHeartbeats 3200000 in
theorem rcut_any (s : ByteArray) (w : World) (hs : s.size ≤ 2000000000) : Calls Try.prog 57 #[.string s] w (EndT (cutT s.data.toList) w) := by
  generalize hF : cutT s.data.toList = F
  have hFl : F.length ≤ 4000000000 := by
    have h1 := cutT_len s.data.toList
    have h2 : s.data.toList.length = s.size := by simp
    rw [← hF]; omega
  have HF := Lib.hid (show [] ++ cutT s.data.toList = F from hF); clear hF
  go_enter Try.func57, Try.ntmps57
  go_wp2_with fail
  go_loopw [0, 3] (fun t v wr => ∃ (L' : List It) (r : ByteArray), t = .string r ∧ AccT w L' v wr ∧ r.size ≤ 2000000000 ∧ Hid (L' ++ cutT r.data.toList = F)) (fun t _ _ => match t with | .string r => r.size | _ => 0)
  case atStart => exact ⟨[], s, rfl, Acc.start _, hs, HF⟩
  case round =>
    obtain ⟨L', r, rfl, hA, hr, HL⟩ := hrel
    by_cases h0 : 0 < r.size
    · obtain ⟨s1, s2⟩ := size_step r h0
      have k1 := fun W => rword_any r W h0 (by omega)
      have k2 := fun W => rnumber_any r W h0 (by omega)
      have k3 := fun W => rblank_any r W (by omega)
      have hcs := cut_step r h0
      have hP := parts3 r[0] (r.data.toList.drop 1)
      rw [← list_at r h0] at hP
      have hlen : L'.length + 1 ≤ 4000000000 := by
        have := congrArg List.length HL.out
        rw [hcs, List.length_append, List.length_cons] at this; omega
      generalize hz : sizeT r.data.toList = n at *
      generalize kindT r[0] = kk at *
      have HQ := Lib.hid (show (L' ++ [⟨kk, r.extract 0 n, 0⟩]) ++ cutT (r.extract n r.size).data.toList = F by rw [← HL.out, hcs]; simp)
      have HS := Lib.hid (rest_size r n)
      clear hcs hz
      unfold Parts3 at hP
      generalize r.data.toList = T at k1 k2 k3 hP
      generalize wN T = n1 at *
      generalize nN T = n2 at *
      generalize runL fS jS T = n3 at *
      have h0' : (0 : Int) < (r.size : Int) := by omega
      have s1' : (1 : Int) ≤ (n : Int) := by omega
      have s2' : (n : Int) ≤ (r.size : Int) := by omega
      have hnp : 0 < n := by omega
      rcases hP with ⟨rfl, rfl, rfl, rfl⟩ | ⟨rfl, rfl, rfl, rfl⟩ | ⟨rfl, rfl, rfl, rfl⟩ | ⟨rfl, rfl, rfl, rfl, rfl⟩
      · have k2 : ∀ W, Calls Try.prog 73 #[.string r] W fun e w' => e = .returned (.int .i64 0) ∧ W = w' := k2
        have k3 : ∀ W, Calls Try.prog 74 #[.string r] W fun e w' => e = .returned (.int .i64 0) ∧ W = w' := k3
        have K1 := Lib.hid k1; have K2 := Lib.hid k2; have K3 := Lib.hid k3; clear k1 k2 k3
        go_wp2_with fail
        refine (K1.out _).mono ?_; rintro e w1 ⟨rfl, rfl⟩
        go_wp2_with fail
        refine (K2.out _).mono ?_; rintro e w1 ⟨rfl, rfl⟩
        go_wp2_with fail
        refine (K3.out _).mono ?_; rintro e w1 ⟨rfl, rfl⟩
        go_wp2_with (at_builtin; refine wpl_append eT _ rfl _ _ rfl w L' _ rfl (hA.alloc _) ⟨6, r.extract 0 n1, 0⟩ wr.heap.size _ rfl (heap_alloc_new _ _) rfl (by omega) (by unfold maxLen; omega) ?_; intro v' w4 hA4 hb4)
        go_wp2_with fail
        go_roundw
        case rel => exact ⟨_, _, rfl, hA4, by have := HS.out; omega, HQ⟩
        case measure => have := HS.out; show (r.extract n1 r.size).size < r.size; omega
      · have k1 : ∀ W, Calls Try.prog 72 #[.string r] W fun e w' => e = .returned (.int .i64 0) ∧ W = w' := k1
        have k3 : ∀ W, Calls Try.prog 74 #[.string r] W fun e w' => e = .returned (.int .i64 0) ∧ W = w' := k3
        have K1 := Lib.hid k1; have K2 := Lib.hid k2; have K3 := Lib.hid k3; clear k1 k2 k3
        go_wp2_with fail
        refine (K1.out _).mono ?_; rintro e w1 ⟨rfl, rfl⟩
        go_wp2_with fail
        refine (K2.out _).mono ?_; rintro e w1 ⟨rfl, rfl⟩
        go_wp2_with fail
        refine (K3.out _).mono ?_; rintro e w1 ⟨rfl, rfl⟩
        go_wp2_with (at_builtin; refine wpl_append eT _ rfl _ _ rfl w L' _ rfl (hA.alloc _) ⟨7, r.extract 0 n2, 0⟩ wr.heap.size _ rfl (heap_alloc_new _ _) rfl (by omega) (by unfold maxLen; omega) ?_; intro v' w4 hA4 hb4)
        go_wp2_with fail
        go_roundw
        case rel => exact ⟨_, _, rfl, hA4, by have := HS.out; omega, HQ⟩
        case measure => have := HS.out; show (r.extract n2 r.size).size < r.size; omega
      · have k1 : ∀ W, Calls Try.prog 72 #[.string r] W fun e w' => e = .returned (.int .i64 0) ∧ W = w' := k1
        have k2 : ∀ W, Calls Try.prog 73 #[.string r] W fun e w' => e = .returned (.int .i64 0) ∧ W = w' := k2
        have K1 := Lib.hid k1; have K2 := Lib.hid k2; have K3 := Lib.hid k3; clear k1 k2 k3
        go_wp2_with fail
        refine (K1.out _).mono ?_; rintro e w1 ⟨rfl, rfl⟩
        go_wp2_with fail
        refine (K2.out _).mono ?_; rintro e w1 ⟨rfl, rfl⟩
        go_wp2_with fail
        refine (K3.out _).mono ?_; rintro e w1 ⟨rfl, rfl⟩
        go_wp2_with (at_builtin; refine wpl_append eT _ rfl _ _ rfl w L' _ rfl (hA.alloc _) ⟨8, r.extract 0 n3, 0⟩ wr.heap.size _ rfl (heap_alloc_new _ _) rfl (by omega) (by unfold maxLen; omega) ?_; intro v' w4 hA4 hb4)
        go_wp2_with fail
        go_roundw
        case rel => exact ⟨_, _, rfl, hA4, by have := HS.out; omega, HQ⟩
        case measure => have := HS.out; show (r.extract n3 r.size).size < r.size; omega
      · have k1 : ∀ W, Calls Try.prog 72 #[.string r] W fun e w' => e = .returned (.int .i64 0) ∧ W = w' := k1
        have k2 : ∀ W, Calls Try.prog 73 #[.string r] W fun e w' => e = .returned (.int .i64 0) ∧ W = w' := k2
        have k3 : ∀ W, Calls Try.prog 74 #[.string r] W fun e w' => e = .returned (.int .i64 0) ∧ W = w' := k3
        have K1 := Lib.hid k1; have K2 := Lib.hid k2; have K3 := Lib.hid k3; clear k1 k2 k3
        go_wp2_with fail
        refine (K1.out _).mono ?_; rintro e w1 ⟨rfl, rfl⟩
        go_wp2_with fail
        refine (K2.out _).mono ?_; rintro e w1 ⟨rfl, rfl⟩
        go_wp2_with fail
        refine (K3.out _).mono ?_; rintro e w1 ⟨rfl, rfl⟩
        go_wp2_with (at_builtin; refine wpl_append eT _ rfl _ _ rfl w L' _ rfl (hA.alloc _) ⟨9, r.extract 0 1, 0⟩ wr.heap.size _ rfl (heap_alloc_new _ _) rfl (by omega) (by unfold maxLen; omega) ?_; intro v' w4 hA4 hb4)
        go_wp2_with fail
        go_roundw
        case rel => exact ⟨_, _, rfl, hA4, by have := HS.out; omega, HQ⟩
        case measure => have := HS.out; show (r.extract 1 r.size).size < r.size; omega
    · have hz : r.size = 0 := by omega
      have HE := Lib.hid (show L' = F by have := HL.out; rw [(bytes_nil r).2 hz, cutT_nil, List.append_nil] at this; exact this)
      have h0' : ¬ (0 : Int) < (r.size : Int) := by omega
      go_wp2_with fail
      go_ret
      exact ⟨_, rfl, by rw [← HE.out]; exact hA⟩

set_option maxHeartbeats 1600000 in
theorem rtokens_any (p : Option Addr) (cap : Nat) (l : List It) (w : World) (hR : Its w p l) (hc : l.length ≤ cap) (hm : cap ≤ maxLen) (hn : txtI l + l.length ≤ 2000000000) :
    Calls Try.prog 37 #[.slice p l.length cap] w (EndT (toks l) w) := by
  unfold maxLen at hm
  go_enter Try.func37, Try.ntmps37
  go_wp2_with fail
  go_loopw [3, 8] (fun v i wr => ∃ k : Nat, k ≤ l.length ∧ i = .int .i64 k ∧ AccT w (toks (l.take k)) v wr) (fun _ i _ => l.length - (intOf i).toNat)
  case atStart => exact ⟨0, Nat.zero_le _, rfl, Acc.start _⟩
  case round =>
    obtain ⟨k, hk, rfl, hA⟩ := hrel
    by_cases hlt : k < l.length
    · obtain ⟨ad, rfl, had, c0, c1, c2⟩ := (hR.call hA.below).row k hlt
      have hnx := toks_next l k hlt
      have hlen := toks_len (l.take k)
      have ht1 := txtI_take l k
      have ht2 := txtI_take l (k + 1)
      rw [txtI_next l k hlt] at ht2
      have hol : (toks (l.take k)).length + l[k].t.size ≤ 4000000000 := by simp at hlen; omega
      have hzz : l[k].t.size ≤ 2000000000 := by omega
      generalize l[k] = x at *
      generalize toks (l.take k) = out at *
      clear hlen ht1 ht2
      have hHX := hA.below.size
      obtain ⟨kk, t, id⟩ := x
      dsimp only at c0 c1 c2 hol hzz
      by_cases h1 : kk = 1
      · subst h1
        rw [show tokI ⟨1, t, id⟩ = cutT t.data.toList from if_pos rfl] at hnx
        have ha := fun W => rcut_any t W hzz
        have hcl := cutT_len t.data.toList
        rw [show t.data.toList.length = t.size by simp] at hcl
        generalize cutT t.data.toList = M at *
        have HX := Lib.hid hnx; have HT := Lib.hid ha; clear hnx ha
        go_wp2_with fail
        refine (HT.out _).mono ?_; rintro e w2 hE
        obtain ⟨p2, d2, rfl, hcM, hmM, hIM, hb2⟩ := EndT.f hE
        have hA2 := (hA.alloc (.cells #[.int .i64 1, .string t, .int .i64 id] 59)).call hb2
        clear hE
        go_wp2_with (at_builtin; refine wpl_catT rfl _ _ rfl w out M _ rfl hA2 p2 _ _ rfl rfl hIM (by omega) ?_; intro v' w4 hA4)
        go_wp2_with fail
        go_roundw
        case rel => exact ⟨k + 1, hlt, by go_num, by rw [HX.out]; exact hA4⟩
        case measure => simp [intOf]; omega
      · by_cases h2 : 2 ≤ kk ∧ kk ≤ 5
        · rw [tokI_one kk t id h2] at hnx
          have HX := Lib.hid hnx; clear hnx
          have h3 : kk = 2 ∨ kk = 3 ∨ kk = 4 ∨ kk = 5 := by omega
          clear h1 h2
          rcases h3 with rfl | rfl | rfl | rfl
          · go_wp2_with (at_builtin; refine wpl_append eT _ rfl _ _ rfl w out _ rfl ((hA.alloc _).alloc _) ⟨2, t, id⟩ _ #[.int .i64 2, .string t, .int .i64 id] rfl (heap_newT _ _ _) rfl (by omega) (by unfold maxLen; omega) ?_; intro v' w4 hA4 hb4)
            go_wp2_with fail
            go_roundw
            case rel => exact ⟨k + 1, hlt, by go_num, by rw [HX.out]; exact hA4⟩
            case measure => simp [intOf]; omega
          · go_wp2_with (at_builtin; refine wpl_append eT _ rfl _ _ rfl w out _ rfl ((hA.alloc _).alloc _) ⟨3, t, id⟩ _ #[.int .i64 3, .string t, .int .i64 id] rfl (heap_newT _ _ _) rfl (by omega) (by unfold maxLen; omega) ?_; intro v' w4 hA4 hb4)
            go_wp2_with fail
            go_roundw
            case rel => exact ⟨k + 1, hlt, by go_num, by rw [HX.out]; exact hA4⟩
            case measure => simp [intOf]; omega
          · go_wp2_with (at_builtin; refine wpl_append eT _ rfl _ _ rfl w out _ rfl ((hA.alloc _).alloc _) ⟨4, t, id⟩ _ #[.int .i64 4, .string t, .int .i64 id] rfl (heap_newT _ _ _) rfl (by omega) (by unfold maxLen; omega) ?_; intro v' w4 hA4 hb4)
            go_wp2_with fail
            go_roundw
            case rel => exact ⟨k + 1, hlt, by go_num, by rw [HX.out]; exact hA4⟩
            case measure => simp [intOf]; omega
          · go_wp2_with (at_builtin; refine wpl_append eT _ rfl _ _ rfl w out _ rfl ((hA.alloc _).alloc _) ⟨5, t, id⟩ _ #[.int .i64 5, .string t, .int .i64 id] rfl (heap_newT _ _ _) rfl (by omega) (by unfold maxLen; omega) ?_; intro v' w4 hA4 hb4)
            go_wp2_with fail
            go_roundw
            case rel => exact ⟨k + 1, hlt, by go_num, by rw [HX.out]; exact hA4⟩
            case measure => simp [intOf]; omega
        · rw [tokI_none kk t id h1 h2, List.append_nil] at hnx
          have HX := Lib.hid hnx; clear hnx
          have q1 : (kk == 1) = false := by simpa using h1
          have q2 : (kk == 2) = false := by have : ¬ kk = 2 := by omega
                                            simpa using this
          have q3 : (kk == 3) = false := by have : ¬ kk = 3 := by omega
                                            simpa using this
          have q4 : (kk == 4) = false := by have : ¬ kk = 4 := by omega
                                            simpa using this
          have q5 : (kk == 5) = false := by have : ¬ kk = 5 := by omega
                                            simpa using this
          go_wp2_with fail
          go_roundw
          case rel => exact ⟨k + 1, hlt, by go_num, by rw [HX.out]; exact hA.alloc _⟩
          case measure => simp [intOf]; omega
    · obtain rfl : k = l.length := by omega
      rw [List.take_length] at hA
      go_wp2_with fail
      go_ret
      exact ⟨_, rfl, hA⟩
end Go.Proofs.Ytpkipdiecnokhaa
