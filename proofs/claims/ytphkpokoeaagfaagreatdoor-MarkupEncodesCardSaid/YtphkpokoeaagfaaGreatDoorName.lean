/- Contracts of IsName and of the reference's IsName. -/
import Derived.Test.YtphkpokoeaagfaaGreatDoorLeaf
import Derived.LoopTactic
import Derived.Outline
namespace Go.Proofs.YtphkpokoeaagfaaGreatDoor
open Go.ChangeShapes Go.WideShapes Go.ChangeAt Go.RowKit
open Go.ChangeMaps (open_string shut_string)
set_option linter.unusedVariables false

theorem byte_le (c : UInt8) : (c.toNat : Int) ≤ 255 := by have := c.toNat_lt; omega
theorem nm_step {s : ByteArray} {k : Nat} (h : Hid (∀ j, j < k → nmAt s j = true)) (hk : nmAt s k = true) {j : Nat} (hj : j < k + 1) : nmAt s j = true := by
  by_cases e : j = k
  · rw [e]; exact hk
  · exact h.out j (by omega)
theorem nm_one {s : ByteArray} (hk : nmAt s 0 = true) {j : Nat} (hj : j < 1) : nmAt s j = true := by
  obtain rfl : j = 0 := by omega
  exact hk
theorem isname_any (s : ByteArray) (w : World) (hs : s.size ≤ maxLen) :
    Calls Tryz.prog 105 #[.string s] w fun e w' => e = .returned (.bool (isNm s)) ∧ w = w' := by
  unfold maxLen at hs
  by_cases h1 : s.size < 1
  · have hz := isNm_short s h1
    have HZ := Lib.hid hz; clear hz
    go_enter Tryz.func105, Tryz.ntmps105
    go_wp2_with fail
    go_ret
    exact ⟨ret_bool HZ.out.symm, rfl⟩
  by_cases h2 : 24 < s.size
  · have hz := isNm_long s h2
    have HZ := Lib.hid hz; clear hz
    go_enter Tryz.func105, Tryz.ntmps105
    go_wp2_with fail
    go_ret
    exact ⟨ret_bool HZ.out.symm, rfl⟩
  have h0 : 0 < s.size := by omega
  have hb := byte_le s[0]
  have q1 : decide ((s.size : Int) < 1) = false := by simp; omega
  have q2 : decide (24 < (s.size : Int)) = false := by simp; omega
  cases hl : loB (s[0].toNat : Int)
  · have hn := isNm_no s 0 h0 (by rw [nmAt_zero s h0, hl])
    have HN := Lib.hid hn; clear hn
    go_enter Tryz.func105, Tryz.ntmps105
    go_wp2_with (go_at_call 119; refine (lower_any1 _ _ (by omega) hb).mono ?_; rintro e w' ⟨rfl, rfl⟩)
    go_ret
    exact ⟨ret_bool HN.out.symm, rfl⟩
  · have hn := nmAt_zero s h0
    rw [hl] at hn
    have HN := Lib.hid hn; clear hn
    go_enter Tryz.func105, Tryz.ntmps105
    go_wp2_with (go_at_call 119; refine (lower_any1 _ _ (by omega) hb).mono ?_; rintro e w' ⟨rfl, rfl⟩)
    go_loop [3] (fun i => ∃ k : Nat, 1 ≤ k ∧ k ≤ s.size ∧ i = .int .i64 k ∧ Hid (∀ j, j < k → nmAt s j = true)) (fun i => s.size - (intOf i).toNat)
    case atStart =>
      refine ⟨1, by omega, by omega, rfl, fun j hj => ?_⟩
      obtain rfl : j = 0 := by omega
      exact HN.out
    case round =>
      obtain ⟨k, hk1, hk, rfl, HK⟩ := hrel
      clear hl HN q1 q2
      by_cases hlt : k < s.size
      · have hb := byte_le s[k]
        have ek := Lib.hid (nmAt_pos s k hlt (by omega))
        cases hm : nmB (s[k].toNat : Int)
        · have hn := isNm_no s k hlt (by rw [ek.out, hm])
          have HN := Lib.hid hn; clear hn
          go_wp2_with (go_at_call 120; refine (name_any _ _ (by omega) hb).mono ?_; rintro e w' ⟨rfl, rfl⟩)
          go_ret
          exact ⟨ret_bool HN.out.symm, rfl⟩
        · have hn := ek.out
          rw [hm] at hn
          have HN := Lib.hid hn; clear hn
          go_wp2_with (go_at_call 120; refine (name_any _ _ (by omega) hb).mono ?_; rintro e w' ⟨rfl, rfl⟩)
          go_round
          case rel => exact ⟨k + 1, by omega, by omega, by go_num, fun j hj => by
                        by_cases e : j = k
                        · rw [e]; exact HN.out
                        · exact HK.out j (by omega)⟩
          case measure => simp [intOf]; omega
      · go_wp2_with fail
        go_ret
        exact ⟨ret_bool (isNm_yes s (by omega) (by omega) (fun i hi => HK.out i (by omega))).symm, rfl⟩

theorem risname_any (s : ByteArray) (w : World) (hs : s.size ≤ maxLen) :
    Calls Tryz.prog 107 #[.string s] w fun e w' => e = .returned (.bool (isNm s)) ∧ w = w' := by
  unfold maxLen at hs
  by_cases h1 : s.size < 1
  · have hz := isNm_short s h1
    have HZ := Lib.hid hz; clear hz
    go_enter Tryz.func107, Tryz.ntmps107
    go_wp2_with fail
    go_ret
    exact ⟨ret_bool HZ.out.symm, rfl⟩
  by_cases h2 : 24 < s.size
  · have hz := isNm_long s h2
    have HZ := Lib.hid hz; clear hz
    go_enter Tryz.func107, Tryz.ntmps107
    go_wp2_with fail
    go_ret
    exact ⟨ret_bool HZ.out.symm, rfl⟩
  have q1 : decide ((s.size : Int) < 1) = false := by simp; omega
  have q2 : decide (24 < (s.size : Int)) = false := by simp; omega
  go_enter Tryz.func107, Tryz.ntmps107
  go_wp2_with fail
  go_loop [3] (fun i => ∃ k : Nat, k ≤ s.size ∧ i = .int .i64 k ∧ Hid (∀ j, j < k → nmAt s j = true)) (fun i => s.size - (intOf i).toNat)
  case atStart => exact ⟨0, by omega, rfl, fun j hj => by omega⟩
  case round =>
    obtain ⟨k, hk, rfl, HK⟩ := hrel
    clear q1 q2
    by_cases hlt : k < s.size
    · have hb := byte_le s[k]
      by_cases hk0 : k = 0
      · subst hk0
        have ek := nmAt_zero s hlt
        unfold loB at ek
        have EK := Lib.hid ek; clear ek
        go_wp2_with fail
        all_goals first
          | (go_ret; refine ⟨ret_bool ?_, rfl⟩; exact (isNm_no s 0 hlt (by rw [EK.out]; simp; omega)).symm)
          | (go_round; (case rel => exact ⟨1, by omega, rfl, fun j hj => nm_one (by rw [EK.out]; simp; omega) hj⟩); (case measure => simp [intOf]; omega))
      · have ek := nmAt_pos s k hlt (by omega)
        unfold nmB at ek
        have EK := Lib.hid ek; clear ek
        go_wp2_with fail
        all_goals (try simp only [beq_iff_eq, beq_eq_false_iff_ne, ne_eq] at *)
        all_goals first
          | (go_ret; refine ⟨ret_bool ?_, rfl⟩; exact (isNm_no s k hlt (by rw [EK.out]; simp; omega)).symm)
          | (go_round; (case rel => exact ⟨k + 1, by omega, by go_num, fun j hj => nm_step HK (by rw [EK.out]; simp; omega) hj⟩); (case measure => simp [intOf]; omega))
    · go_wp2_with fail
      go_ret
      exact ⟨ret_bool (isNm_yes s (by omega) (by omega) (fun i hi => HK.out i (by omega))).symm, rfl⟩
end Go.Proofs.YtphkpokoeaagfaaGreatDoor
