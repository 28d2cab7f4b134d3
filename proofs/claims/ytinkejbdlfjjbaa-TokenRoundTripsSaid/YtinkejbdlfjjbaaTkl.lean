/- Contracts of class.Of, of what fits a token, of joints and of runs. -/
import Derived.Test.YtinkejbdlfjjbaaTkm
import Derived.Test.YtinkejbdlfjjbaaLeaf
import Derived.Test.YtinkejbdlfjjbaaShelf0
import Derived.LoopTactic
import Derived.Outline
namespace Go.Proofs.Ytinkejbdlfjjbaa
open Go.ChangeShapes Go.WideShapes Go.ChangeAt Go.RowKit
set_option linter.unusedVariables false
set_option linter.unusedSimpArgs false
set_option maxRecDepth 100000

theorem byteU_le (b : UInt8) : (b.toNat : Int) ≤ 255 := by have := b.toNat_lt; omega
theorem of_any (n : Int) (w : World) (h0 : 0 ≤ n) (h1 : n ≤ 255) :
    Calls Try.prog 52 #[.int .u8 n] w fun e w' => e = .returned (.int .i64 (cls n)) ∧ w = w' := by
  go_enter Try.func52, Try.ntmps52
  go_wp2
  all_goals go_ret
  all_goals refine ⟨ret_int ?_, rfl⟩
  all_goals (unfold cls; simp_all; try omega)
theorem rof_any (n : Int) (w : World) (h0 : 0 ≤ n) (h1 : n ≤ 255) :
    Calls Try.prog 57 #[.int .u8 n] w fun e w' => e = .returned (.int .i64 (cls n)) ∧ w = w' := by
  go_enter Try.func57, Try.ntmps57
  go_wp2
  all_goals go_ret
  all_goals refine ⟨ret_int ?_, rfl⟩
  all_goals (unfold cls; simp_all; try omega)
theorem digit_any (b : UInt8) (w : World) : Calls Try.prog 55 #[.int .u8 (b.toNat : Int)] w fun e w' => e = .returned (.bool (fD b)) ∧ w = w' := by
  have hb := byteU_le b
  have hc := fun W => of_any (b.toNat : Int) W (by omega) hb
  have HC := Lib.hid hc; clear hc
  go_enter Try.func55, Try.ntmps55
  go_wp2_with fail
  refine (HC.out _).mono ?_; rintro e w1 ⟨rfl, rfl⟩
  go_wp2_with fail
  go_ret
  exact ⟨ret_bool (by unfold fD cb; rw [Bool.eq_iff_iff]; simp), rfl⟩
theorem space_any (b : UInt8) (w : World) : Calls Try.prog 56 #[.int .u8 (b.toNat : Int)] w fun e w' => e = .returned (.bool (fS b)) ∧ w = w' := by
  have hb := byteU_le b
  have hc := fun W => of_any (b.toNat : Int) W (by omega) hb
  have HC := Lib.hid hc; clear hc
  go_enter Try.func56, Try.ntmps56
  go_wp2_with fail
  refine (HC.out _).mono ?_; rintro e w1 ⟨rfl, rfl⟩
  go_wp2_with fail
  go_ret
  exact ⟨ret_bool (by unfold fS cb; rw [Bool.eq_iff_iff]; simp), rfl⟩
theorem wbyte_any (b : UInt8) (w : World) : Calls Try.prog 54 #[.int .u8 (b.toNat : Int)] w fun e w' => e = .returned (.bool (fW b)) ∧ w = w' := by
  have hb := byteU_le b
  have hc := fun W => of_any (b.toNat : Int) W (by omega) hb
  have hd := fun W => digit_any b W
  have HC := Lib.hid hc; have HD := Lib.hid hd; clear hc hd
  cases q : (cls (b.toNat : Int) == 4)
  · go_enter Try.func54, Try.ntmps54
    go_wp2_with fail
    refine (HC.out _).mono ?_; rintro e w1 ⟨rfl, rfl⟩
    go_wp2_with fail
    refine (HD.out _).mono ?_; rintro e w1 ⟨rfl, rfl⟩
    go_wp2_with fail
    go_ret
    exact ⟨ret_bool (by unfold fW fD cb; rw [Bool.eq_iff_iff]; simp_all), rfl⟩
  · go_enter Try.func54, Try.ntmps54
    go_wp2_with fail
    refine (HC.out _).mono ?_; rintro e w1 ⟨rfl, rfl⟩
    go_wp2_with fail
    go_ret
    exact ⟨ret_bool (by unfold fW cb; rw [Bool.eq_iff_iff]; simp_all), rfl⟩

/-! ### rests of a string -/
theorem drop_cons (s : ByteArray) (k : Nat) (h : k < s.size) : s.data.toList.drop k = s[k] :: s.data.toList.drop (k + 1) := by
  rw [List.drop_eq_getElem_cons (by simpa using h)]; rfl
theorem drop_end (s : ByteArray) (k : Nat) (h : s.size ≤ k) : s.data.toList.drop k = [] := List.drop_eq_nil_iff.2 (by simpa using h)
theorem rest_size (s : ByteArray) (k : Nat) : (s.extract k s.size).size = s.size - k := by rw [ByteArray.size_extract]; omega
theorem rest_list (s : ByteArray) (k : Nat) : (s.extract k s.size).data.toList = s.data.toList.drop k := by
  rw [ByteArray.data_extract, Array.toList_extract, List.extract_eq_take_drop]
  rw [List.take_of_length_le (by simp)]
theorem rest_at (s : ByteArray) (k j : Nat) (h : k + j < s.size) : (s.extract k s.size)[j]'(by rw [rest_size]; omega) = s[k + j] := by
  have e := rest_list s k
  have h1 : (s.extract k s.size).data.toList[j]'(by rw [e]; simp; omega) = (s.data.toList.drop k)[j]'(by simp; omega) := by simp only [e]
  rw [List.getElem_drop] at h1
  exact h1
theorem hd_drop (f : UInt8 → Bool) (s : ByteArray) (k : Nat) (h : k < s.size) : hdF f (s.data.toList.drop k) = f s[k] := by rw [drop_cons s k h]; rfl
theorem hd_end (f : UInt8 → Bool) (s : ByteArray) (k : Nat) (h : s.size ≤ k) : hdF f (s.data.toList.drop k) = false := by rw [drop_end s k h]; rfl

theorem indexW_any (b : UInt8) (w : World) : Calls Try.prog 63 #[.string ⟨#[39, 45]⟩, .int .u8 (b.toNat : Int)] w fun e w' => ∃ z : Int, e = .returned (.int .i64 z) ∧ (0 ≤ z ↔ jW b = true) ∧ w = w' := by
  refine (Try.strings_IndexByte ⟨#[39, 45]⟩ (b.toNat : Int) w).mono ?_
  rintro e w' ⟨rfl, rfl⟩
  refine ⟨_, rfl, ?_, rfl⟩
  have hb : ((b.toNat : Int)).toNat.toUInt8 = b := by simp
  rw [hb]
  show 0 ≤ Lib.indexByte [39, 45] b ↔ _
  unfold jW
  rw [Lib.indexByte, Lib.indexByte, Lib.indexByte]
  by_cases h1 : b = 39
  · subst h1; decide
  · by_cases h2 : b = 45
    · subst h2; decide
    · have e1 : ((39 : UInt8) == b) = false := by simpa using fun c => h1 c.symm
      have e2 : ((45 : UInt8) == b) = false := by simpa using fun c => h2 c.symm
      rw [e1, e2]; simp [h1, h2]
set_option maxHeartbeats 1600000 in
theorem isjointW_any (t : ByteArray) (w : World) (ht : 0 < t.size) (hs : t.size ≤ 140737488355328) : Calls Try.prog 61 #[.string t, .func (.func 54) #[] #[], .string ⟨#[39, 45]⟩] w
    fun e w' => e = .returned (.bool (jW t[0] && hdF fW (t.data.toList.drop 1))) ∧ w = w' := by
  have hi := fun W => indexW_any t[0] W
  have HI := Lib.hid hi; clear hi
  have ht' : (0 : Int) < (t.size : Int) := by omega
  cases q : jW t[0]
  · go_enter Try.func61, Try.ntmps61
    go_wp2_with fail
    refine (HI.out _).mono ?_; rintro e w1 ⟨z, rfl, hz, rfl⟩
    have hz' : ¬ 0 ≤ z := fun c => by rw [hz.1 c] at q; cases q
    clear hz
    go_wp2_with fail
    go_ret
    exact ⟨rfl, rfl⟩
  · by_cases h1 : 1 < t.size
    · have e1 := hd_drop fW t 1 h1
      have hv := fun W => wbyte_any t[1] W
      have HV := Lib.hid hv; clear hv
      have E1 := Lib.hid e1; clear e1
      have h1' : (1 : Int) < (t.size : Int) := by omega
      go_enter Try.func61, Try.ntmps61
      go_wp2_with fail
      refine (HI.out _).mono ?_; rintro e w1 ⟨z, rfl, hz, rfl⟩
      have hz' : 0 ≤ z := hz.2 q
      clear hz
      go_wp2_with fail
      (first | go_at_fn 54 | skip); refine (HV.out _).mono ?_; rintro e w1 ⟨rfl, rfl⟩
      go_wp2_with fail
      go_ret
      exact ⟨ret_bool (by rw [E1.out]; simp), rfl⟩
    · have e1 := hd_end fW t 1 (by omega)
      have E1 := Lib.hid e1; clear e1
      have h1' : ¬ (1 : Int) < (t.size : Int) := by omega
      go_enter Try.func61, Try.ntmps61
      go_wp2_with fail
      refine (HI.out _).mono ?_; rintro e w1 ⟨z, rfl, hz, rfl⟩
      have hz' : 0 ≤ z := hz.2 q
      clear hz
      go_wp2_with fail
      go_ret
      exact ⟨ret_bool (by rw [← List.drop_one, E1.out]), rfl⟩
set_option maxHeartbeats 1600000 in
theorem runW_any (s : ByteArray) (w : World) (hs : s.size ≤ 140737488355328) : Calls Try.prog 53 #[.string s, .func (.func 54) #[] #[], .string ⟨#[39, 45]⟩] w
    fun e w' => e = .returned (.int .i64 (runL fW jW s.data.toList)) ∧ w = w' := by
  generalize hR : runL fW jW s.data.toList = R
  have h0 : 0 + runL fW jW (s.data.toList.drop 0) = R := by rw [List.drop_zero, hR]; omega
  have H0 := Lib.hid h0; clear h0 hR
  go_enter Try.func53, Try.ntmps53
  go_wp2_with fail
  go_loop [10] (fun i => ∃ k : Nat, k ≤ s.size ∧ i = .int .i64 k ∧ Hid (k + runL fW jW (s.data.toList.drop k) = R)) (fun i => s.size - (intOf i).toNat)
  case atStart => exact ⟨0, Nat.zero_le _, rfl, H0⟩
  case round =>
    obtain ⟨k, hk, rfl, HK⟩ := hrel
    by_cases hlt : k < s.size
    · have hv := fun W => wbyte_any s[k] W
      have hd := drop_cons s k hlt
      have hj := fun W => isjointW_any (s.extract k s.size) W (by rw [rest_size]; omega) (by rw [rest_size]; omega)
      rw [show (s.extract k s.size)[0]'(by rw [rest_size]; omega) = s[k] from rest_at s k 0 hlt, rest_list, List.drop_drop] at hj
      have HV := Lib.hid hv; have HD := Lib.hid hd; have HJ := Lib.hid hj; clear hv hd hj
      have hlt' : (k : Int) < (s.size : Int) := by omega
      cases q : fW s[k]
      · cases q2 : (jW s[k] && hdF fW (s.data.toList.drop (k + 1)))
        · have HZ := Lib.hid (show k = R by have := HK.out; rw [HD.out, runL_no _ _ _ _ q q2] at this; omega)
          go_wp2_with fail
          (first | go_at_fn 54 | skip); refine (HV.out _).mono ?_; rintro e w1 ⟨rfl, rfl⟩
          go_wp2_with fail
          refine (HJ.out _).mono ?_; rintro e w1 ⟨rfl, rfl⟩
          go_wp2_with fail
          go_ret
          exact ⟨ret_int (by rw [HZ.out]), rfl⟩
        · have HZ := Lib.hid (show k + 1 + runL fW jW (s.data.toList.drop (k + 1)) = R by have := HK.out; rw [HD.out, runL_joint _ _ _ _ q2] at this; omega)
          go_wp2_with fail
          (first | go_at_fn 54 | skip); refine (HV.out _).mono ?_; rintro e w1 ⟨rfl, rfl⟩
          go_wp2_with fail
          refine (HJ.out _).mono ?_; rintro e w1 ⟨rfl, rfl⟩
          go_wp2_with fail
          go_round
          case rel => exact ⟨k + 1, hlt, by go_num, HZ⟩
          case measure => simp [intOf]; omega
      · have HZ := Lib.hid (show k + 1 + runL fW jW (s.data.toList.drop (k + 1)) = R by have := HK.out; rw [HD.out, runL_yes _ _ _ _ q] at this; omega)
        go_wp2_with fail
        (first | go_at_fn 54 | skip); refine (HV.out _).mono ?_; rintro e w1 ⟨rfl, rfl⟩
        go_wp2_with fail
        go_round
        case rel => exact ⟨k + 1, hlt, by go_num, HZ⟩
        case measure => simp [intOf]; omega
    · obtain rfl : k = s.size := by omega
      have HZ := Lib.hid (show s.size = R by have := HK.out; rw [drop_end s _ (Nat.le_refl _)] at this; exact this)
      go_wp2_with fail
      go_ret
      exact ⟨ret_int (by rw [HZ.out]), rfl⟩

theorem indexD_any (b : UInt8) (w : World) : Calls Try.prog 63 #[.string ⟨#[46, 44]⟩, .int .u8 (b.toNat : Int)] w fun e w' => ∃ z : Int, e = .returned (.int .i64 z) ∧ (0 ≤ z ↔ jD b = true) ∧ w = w' := by
  refine (Try.strings_IndexByte ⟨#[46, 44]⟩ (b.toNat : Int) w).mono ?_
  rintro e w' ⟨rfl, rfl⟩
  refine ⟨_, rfl, ?_, rfl⟩
  have hb : ((b.toNat : Int)).toNat.toUInt8 = b := by simp
  rw [hb]
  show 0 ≤ Lib.indexByte [46, 44] b ↔ _
  unfold jD
  rw [Lib.indexByte, Lib.indexByte, Lib.indexByte]
  by_cases h1 : b = 46
  · subst h1; decide
  · by_cases h2 : b = 44
    · subst h2; decide
    · have e1 : ((46 : UInt8) == b) = false := by simpa using fun c => h1 c.symm
      have e2 : ((44 : UInt8) == b) = false := by simpa using fun c => h2 c.symm
      rw [e1, e2]; simp [h1, h2]
set_option maxHeartbeats 1600000 in
theorem isjointD_any (t : ByteArray) (w : World) (ht : 0 < t.size) (hs : t.size ≤ 140737488355328) : Calls Try.prog 61 #[.string t, .func (.func 55) #[] #[], .string ⟨#[46, 44]⟩] w
    fun e w' => e = .returned (.bool (jD t[0] && hdF fD (t.data.toList.drop 1))) ∧ w = w' := by
  have hi := fun W => indexD_any t[0] W
  have HI := Lib.hid hi; clear hi
  have ht' : (0 : Int) < (t.size : Int) := by omega
  cases q : jD t[0]
  · go_enter Try.func61, Try.ntmps61
    go_wp2_with fail
    refine (HI.out _).mono ?_; rintro e w1 ⟨z, rfl, hz, rfl⟩
    have hz' : ¬ 0 ≤ z := fun c => by rw [hz.1 c] at q; cases q
    clear hz
    go_wp2_with fail
    go_ret
    exact ⟨rfl, rfl⟩
  · by_cases h1 : 1 < t.size
    · have e1 := hd_drop fD t 1 h1
      have hv := fun W => digit_any t[1] W
      have HV := Lib.hid hv; clear hv
      have E1 := Lib.hid e1; clear e1
      have h1' : (1 : Int) < (t.size : Int) := by omega
      go_enter Try.func61, Try.ntmps61
      go_wp2_with fail
      refine (HI.out _).mono ?_; rintro e w1 ⟨z, rfl, hz, rfl⟩
      have hz' : 0 ≤ z := hz.2 q
      clear hz
      go_wp2_with fail
      (first | go_at_fn 55 | skip); refine (HV.out _).mono ?_; rintro e w1 ⟨rfl, rfl⟩
      go_wp2_with fail
      go_ret
      exact ⟨ret_bool (by rw [E1.out]; simp), rfl⟩
    · have e1 := hd_end fD t 1 (by omega)
      have E1 := Lib.hid e1; clear e1
      have h1' : ¬ (1 : Int) < (t.size : Int) := by omega
      go_enter Try.func61, Try.ntmps61
      go_wp2_with fail
      refine (HI.out _).mono ?_; rintro e w1 ⟨z, rfl, hz, rfl⟩
      have hz' : 0 ≤ z := hz.2 q
      clear hz
      go_wp2_with fail
      go_ret
      exact ⟨ret_bool (by rw [← List.drop_one, E1.out]), rfl⟩
set_option maxHeartbeats 1600000 in
theorem runD_any (s : ByteArray) (w : World) (hs : s.size ≤ 140737488355328) : Calls Try.prog 53 #[.string s, .func (.func 55) #[] #[], .string ⟨#[46, 44]⟩] w
    fun e w' => e = .returned (.int .i64 (runL fD jD s.data.toList)) ∧ w = w' := by
  generalize hR : runL fD jD s.data.toList = R
  have h0 : 0 + runL fD jD (s.data.toList.drop 0) = R := by rw [List.drop_zero, hR]; omega
  have H0 := Lib.hid h0; clear h0 hR
  go_enter Try.func53, Try.ntmps53
  go_wp2_with fail
  go_loop [10] (fun i => ∃ k : Nat, k ≤ s.size ∧ i = .int .i64 k ∧ Hid (k + runL fD jD (s.data.toList.drop k) = R)) (fun i => s.size - (intOf i).toNat)
  case atStart => exact ⟨0, Nat.zero_le _, rfl, H0⟩
  case round =>
    obtain ⟨k, hk, rfl, HK⟩ := hrel
    by_cases hlt : k < s.size
    · have hv := fun W => digit_any s[k] W
      have hd := drop_cons s k hlt
      have hj := fun W => isjointD_any (s.extract k s.size) W (by rw [rest_size]; omega) (by rw [rest_size]; omega)
      rw [show (s.extract k s.size)[0]'(by rw [rest_size]; omega) = s[k] from rest_at s k 0 hlt, rest_list, List.drop_drop] at hj
      have HV := Lib.hid hv; have HD := Lib.hid hd; have HJ := Lib.hid hj; clear hv hd hj
      have hlt' : (k : Int) < (s.size : Int) := by omega
      cases q : fD s[k]
      · cases q2 : (jD s[k] && hdF fD (s.data.toList.drop (k + 1)))
        · have HZ := Lib.hid (show k = R by have := HK.out; rw [HD.out, runL_no _ _ _ _ q q2] at this; omega)
          go_wp2_with fail
          (first | go_at_fn 55 | skip); refine (HV.out _).mono ?_; rintro e w1 ⟨rfl, rfl⟩
          go_wp2_with fail
          refine (HJ.out _).mono ?_; rintro e w1 ⟨rfl, rfl⟩
          go_wp2_with fail
          go_ret
          exact ⟨ret_int (by rw [HZ.out]), rfl⟩
        · have HZ := Lib.hid (show k + 1 + runL fD jD (s.data.toList.drop (k + 1)) = R by have := HK.out; rw [HD.out, runL_joint _ _ _ _ q2] at this; omega)
          go_wp2_with fail
          (first | go_at_fn 55 | skip); refine (HV.out _).mono ?_; rintro e w1 ⟨rfl, rfl⟩
          go_wp2_with fail
          refine (HJ.out _).mono ?_; rintro e w1 ⟨rfl, rfl⟩
          go_wp2_with fail
          go_round
          case rel => exact ⟨k + 1, hlt, by go_num, HZ⟩
          case measure => simp [intOf]; omega
      · have HZ := Lib.hid (show k + 1 + runL fD jD (s.data.toList.drop (k + 1)) = R by have := HK.out; rw [HD.out, runL_yes _ _ _ _ q] at this; omega)
        go_wp2_with fail
        (first | go_at_fn 55 | skip); refine (HV.out _).mono ?_; rintro e w1 ⟨rfl, rfl⟩
        go_wp2_with fail
        go_round
        case rel => exact ⟨k + 1, hlt, by go_num, HZ⟩
        case measure => simp [intOf]; omega
    · obtain rfl : k = s.size := by omega
      have HZ := Lib.hid (show s.size = R by have := HK.out; rw [drop_end s _ (Nat.le_refl _)] at this; exact this)
      go_wp2_with fail
      go_ret
      exact ⟨ret_int (by rw [HZ.out]), rfl⟩

theorem indexS_any (b : UInt8) (w : World) : Calls Try.prog 63 #[.string ⟨#[]⟩, .int .u8 (b.toNat : Int)] w fun e w' => ∃ z : Int, e = .returned (.int .i64 z) ∧ (0 ≤ z ↔ jS b = true) ∧ w = w' := by
  refine (Try.strings_IndexByte ⟨#[]⟩ (b.toNat : Int) w).mono ?_
  rintro e w' ⟨rfl, rfl⟩
  refine ⟨_, rfl, ?_, rfl⟩
  have hb : ((b.toNat : Int)).toNat.toUInt8 = b := by simp
  rw [hb]
  show 0 ≤ Lib.indexByte [] b ↔ _
  unfold jS
  rw [Lib.indexByte]; simp
set_option maxHeartbeats 1600000 in
theorem isjointS_any (t : ByteArray) (w : World) (ht : 0 < t.size) (hs : t.size ≤ 140737488355328) : Calls Try.prog 61 #[.string t, .func (.func 56) #[] #[], .string ⟨#[]⟩] w
    fun e w' => e = .returned (.bool (jS t[0] && hdF fS (t.data.toList.drop 1))) ∧ w = w' := by
  have hi := fun W => indexS_any t[0] W
  have HI := Lib.hid hi; clear hi
  have ht' : (0 : Int) < (t.size : Int) := by omega
  cases q : jS t[0]
  · go_enter Try.func61, Try.ntmps61
    go_wp2_with fail
    refine (HI.out _).mono ?_; rintro e w1 ⟨z, rfl, hz, rfl⟩
    have hz' : ¬ 0 ≤ z := fun c => by rw [hz.1 c] at q; cases q
    clear hz
    go_wp2_with fail
    go_ret
    exact ⟨rfl, rfl⟩
  · exact absurd q (by unfold jS; simp)
set_option maxHeartbeats 1600000 in
theorem runS_any (s : ByteArray) (w : World) (hs : s.size ≤ 140737488355328) : Calls Try.prog 53 #[.string s, .func (.func 56) #[] #[], .string ⟨#[]⟩] w
    fun e w' => e = .returned (.int .i64 (runL fS jS s.data.toList)) ∧ w = w' := by
  generalize hR : runL fS jS s.data.toList = R
  have h0 : 0 + runL fS jS (s.data.toList.drop 0) = R := by rw [List.drop_zero, hR]; omega
  have H0 := Lib.hid h0; clear h0 hR
  go_enter Try.func53, Try.ntmps53
  go_wp2_with fail
  go_loop [10] (fun i => ∃ k : Nat, k ≤ s.size ∧ i = .int .i64 k ∧ Hid (k + runL fS jS (s.data.toList.drop k) = R)) (fun i => s.size - (intOf i).toNat)
  case atStart => exact ⟨0, Nat.zero_le _, rfl, H0⟩
  case round =>
    obtain ⟨k, hk, rfl, HK⟩ := hrel
    by_cases hlt : k < s.size
    · have hv := fun W => space_any s[k] W
      have hd := drop_cons s k hlt
      have hj := fun W => isjointS_any (s.extract k s.size) W (by rw [rest_size]; omega) (by rw [rest_size]; omega)
      rw [show (s.extract k s.size)[0]'(by rw [rest_size]; omega) = s[k] from rest_at s k 0 hlt, rest_list, List.drop_drop] at hj
      have HV := Lib.hid hv; have HD := Lib.hid hd; have HJ := Lib.hid hj; clear hv hd hj
      have hlt' : (k : Int) < (s.size : Int) := by omega
      cases q : fS s[k]
      · cases q2 : (jS s[k] && hdF fS (s.data.toList.drop (k + 1)))
        · have HZ := Lib.hid (show k = R by have := HK.out; rw [HD.out, runL_no _ _ _ _ q q2] at this; omega)
          go_wp2_with fail
          (first | go_at_fn 56 | skip); refine (HV.out _).mono ?_; rintro e w1 ⟨rfl, rfl⟩
          go_wp2_with fail
          refine (HJ.out _).mono ?_; rintro e w1 ⟨rfl, rfl⟩
          go_wp2_with fail
          go_ret
          exact ⟨ret_int (by rw [HZ.out]), rfl⟩
        · have HZ := Lib.hid (show k + 1 + runL fS jS (s.data.toList.drop (k + 1)) = R by have := HK.out; rw [HD.out, runL_joint _ _ _ _ q2] at this; omega)
          go_wp2_with fail
          (first | go_at_fn 56 | skip); refine (HV.out _).mono ?_; rintro e w1 ⟨rfl, rfl⟩
          go_wp2_with fail
          refine (HJ.out _).mono ?_; rintro e w1 ⟨rfl, rfl⟩
          go_wp2_with fail
          go_round
          case rel => exact ⟨k + 1, hlt, by go_num, HZ⟩
          case measure => simp [intOf]; omega
      · have HZ := Lib.hid (show k + 1 + runL fS jS (s.data.toList.drop (k + 1)) = R by have := HK.out; rw [HD.out, runL_yes _ _ _ _ q] at this; omega)
        go_wp2_with fail
        (first | go_at_fn 56 | skip); refine (HV.out _).mono ?_; rintro e w1 ⟨rfl, rfl⟩
        go_wp2_with fail
        go_round
        case rel => exact ⟨k + 1, hlt, by go_num, HZ⟩
        case measure => simp [intOf]; omega
    · obtain rfl : k = s.size := by omega
      have HZ := Lib.hid (show s.size = R by have := HK.out; rw [drop_end s _ (Nat.le_refl _)] at this; exact this)
      go_wp2_with fail
      go_ret
      exact ⟨ret_int (by rw [HZ.out]), rfl⟩
end Go.Proofs.Ytinkejbdlfjjbaa
