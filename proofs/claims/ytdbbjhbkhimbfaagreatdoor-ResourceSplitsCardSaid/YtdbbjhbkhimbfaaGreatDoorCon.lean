/- Contracts of the contents of tags: Cut at a space, IsContent, the reference's IsContent and Name. -/
import Derived.Test.YtdbbjhbkhimbfaaGreatDoorConM
import Derived.Test.YtdbbjhbkhimbfaaGreatDoorName
import Derived.Test.YtdbbjhbkhimbfaaGreatDoorShelf0
import Derived.LoopTactic
import Derived.Outline
namespace Go.Proofs.YtdbbjhbkhimbfaaGreatDoor
open Go.ChangeShapes Go.WideShapes Go.ChangeAt Go.RowKit
set_option linter.unusedVariables false
set_option maxRecDepth 100000

theorem scut_any (s : ByteArray) (w : World) (hs : s.size ≤ maxLen) :
    Calls Tryz.prog 65 #[.string s, .string ⟨#[32]⟩] w fun e w' => e = .returned (.tuple #[.string (nameB s), .string (restB s), .bool (decide (cutN s < s.size))]) ∧ Below w.heap.size w w' := by
  unfold maxLen at hs
  have hi := Tryz.stringslite_Index_one s 32
  rw [index_cut] at hi
  have hle := cutN_le s
  by_cases h : cutN s = s.size
  · rw [if_pos h] at hi
    have hn := nameB_all s h
    have hr : restB s = ByteArray.empty := by unfold restB; rw [h]; apply ByteArray.ext; simp
    have hb : decide (cutN s < s.size) = false := by simp; omega
    have HI := Lib.hid hi; have HN := Lib.hid hn; have HR := Lib.hid hr; have HB := Lib.hid hb
    clear hi hn hr hb h hle
    go_enter Tryz.func65, Tryz.ntmps65
    go_wp2_with fail
    refine (HI.out _).mono ?_; rintro e w1 ⟨rfl, rfl⟩
    go_wp2_with fail
    go_ret3
    exact ⟨by rw [HN.out, HR.out, HB.out]; rfl, Below.refl _ _⟩
  · rw [if_neg h] at hi
    have hb : decide (cutN s < s.size) = true := by simp; omega
    have c0 : (0 : Int) ≤ (cutN s : Int) := by omega
    have c1 : (cutN s : Int) ≤ (s.size : Int) := by omega
    have c2 : (0 : Int) ≤ (cutN s : Int) + 1 := by omega
    have c3 : (cutN s : Int) + 1 ≤ (s.size : Int) := by omega
    have hn : s.extract 0 (cutN s) = nameB s := rfl
    have hr : s.extract (cutN s + 1) s.size = restB s := rfl
    have HN := Lib.hid hn; have HR := Lib.hid hr; have HI := Lib.hid hi; have HB := Lib.hid hb
    clear hi hb hn hr
    generalize cutN s = n at *
    have mixed : Tryz.prog.follows .mixedOrders = true := by kernel_rfl
    have cw : IntKind.i64.wrap ((n : Int) + 1) = (n : Int) + 1 := by
      have a1 : (-9223372036854775808 : Int) ≤ (n : Int) + 1 := by omega
      have a2 : (n : Int) + 1 ≤ 9223372036854775807 := by omega
      exact IntWalk.i64_in _ ⟨a1, a2⟩
    have cn : ((n : Int) + 1).toNat = n + 1 := by omega
    go_enter Tryz.func65, Tryz.ntmps65
    go_wp2_with fail
    refine (HI.out _).mono ?_; rintro e w1 ⟨rfl, rfl⟩
    go_wp2_with fail
    go_region_o
    all_goals go_wp2_with fail
    all_goals go_ret3
    all_goals (rw [HB.out, ← HN.out, ← HR.out]; exact ⟨rfl, (Below.refl _ _).drew⟩)

theorem cut_any (s : ByteArray) (w : World) (hs : s.size ≤ maxLen) :
    Calls Tryz.prog 36 #[.string s, .string ⟨#[32]⟩] w fun e w' => e = .returned (.tuple #[.string (nameB s), .string (restB s), .bool (decide (cutN s < s.size))]) ∧ Below w.heap.size w w' := by
  have h := fun w => scut_any s w hs
  generalize nameB s = a at *
  generalize restB s = b at *
  generalize decide (cutN s < s.size) = c at *
  have H := Lib.hid h; clear h
  go_enter Tryz.func36, Tryz.ntmps36
  go_wp2_with fail
  refine (H.out _).mono ?_; rintro e w1 ⟨rfl, hb⟩
  go_wp2_with fail
  go_ret3
  exact ⟨rfl, hb⟩
theorem rname_any (s : ByteArray) (w : World) (hs : s.size ≤ maxLen) :
    Calls Tryz.prog 33 #[.string s] w fun e w' => e = .returned (.string (nameB s)) ∧ w = w' := by
  unfold maxLen at hs
  go_enter Tryz.func33, Tryz.ntmps33
  go_wp2_with fail
  go_loop [3] (fun i => ∃ k : Nat, k ≤ s.size ∧ i = .int .i64 k ∧ Hid (∀ j, j < k → byte s j ≠ 32)) (fun i => s.size - (intOf i).toNat)
  case atStart => exact ⟨0, by omega, rfl, fun j hj => by omega⟩
  case round =>
    obtain ⟨k, hk, rfl, HK⟩ := hrel
    by_cases hlt : k < s.size
    · have hb := byte_at s k hlt
      by_cases h32 : (s[k].toNat : Int) = 32
      · have q : ((s[k].toNat : Int) == 32) = true := by simpa using h32
        have hn : nameB s = s.extract 0 k := by unfold nameB; rw [cutN_eq s k hlt HK.out (by rw [hb]; exact h32)]
        have HN := Lib.hid hn; clear hn hb h32
        go_wp2_with fail
        go_ret
        exact ⟨by rw [HN.out]; rfl, rfl⟩
      · have q : ((s[k].toNat : Int) == 32) = false := by simpa using h32
        have HB := Lib.hid hb; clear hb
        have H32 := Lib.hid h32; clear h32
        go_wp2_with fail
        go_round
        case rel => exact ⟨k + 1, by omega, by go_num, fun j hj => by
                      by_cases e : j = k
                      · rw [e, HB.out]; exact H32.out
                      · exact HK.out j (by omega)⟩
        case measure => simp [intOf]; omega
    · have hn : nameB s = s := nameB_all s (cutN_all s (fun i hi => HK.out i (by omega)))
      have HN := Lib.hid hn; clear hn
      go_wp2_with fail
      go_ret
      exact ⟨by rw [HN.out]; rfl, rfl⟩
set_option maxHeartbeats 1600000 in
theorem riscontent_any (s : ByteArray) (w : World) (hs : s.size ≤ maxLen) :
    Calls Tryz.prog 72 #[.string s] w fun e w' => e = .returned (.bool (isCon s)) ∧ w = w' := by
  have hnm := fun w => rname_any s w hs
  unfold maxLen at hs
  have hle := cutN_le s
  have hns := nameB_size s
  have hin := fun w => risname_any (nameB s) w (by unfold maxLen; omega)
  by_cases h64 : 64 < s.size
  · have hz := isCon_no s (fun h => by have := h.size; omega)
    rw [hz]
    have q : decide (64 < (s.size : Int)) = true := by simp; omega
    clear hz hle hns hin hnm
    go_enter Tryz.func72, Tryz.ntmps72
    go_wp2_with fail
    go_ret
    exact ⟨rfl, rfl⟩
  have q : decide (64 < (s.size : Int)) = false := by simp; omega
  have hno : ∀ k, k < s.size → conB (byte s k) = false → isCon s = false := fun k hk hf => by
    refine isCon_no s (fun h => ?_)
    rw [con_all s h k hk] at hf; cases hf
  have hrest : (∀ k, k < s.size → conB (byte s k) = true) → isCon s = (isNm (nameB s) && ((decide (cutN s = s.size) || decide (cutN s + 1 < s.size)) && decide (byte s (s.size - 1) ≠ 47))) := fun hall => by
    rw [Bool.eq_iff_iff, isCon_iff]
    simp only [Bool.and_eq_true, Bool.or_eq_true, decide_eq_true_eq]
    exact ⟨fun h => ⟨h.name, h.some, con_last s h⟩, fun ⟨h1, h2, h3⟩ => con_of_ref s (by omega) h1 h2 hall h3⟩
  have HNO := Lib.hid hno; have HR := Lib.hid hrest; have HNM := Lib.hid hnm; have HIN := Lib.hid hin; have HLE := Lib.hid hle; have HNS := Lib.hid hns
  clear hno hrest hnm hin hle hns h64
  have h64 : s.size ≤ 64 := by simp at q; omega
  go_enter Tryz.func72, Tryz.ntmps72
  go_wp2_with fail
  go_loop [3] (fun i => ∃ k : Nat, k ≤ s.size ∧ i = .int .i64 k ∧ Hid (∀ j, j < k → conB (byte s j) = true)) (fun i => s.size - (intOf i).toNat)
  case atStart => exact ⟨0, by omega, rfl, fun j hj => by omega⟩
  case round =>
    obtain ⟨k, hk, rfl, HK⟩ := hrel
    by_cases hlt : k < s.size
    · have hb1 := byte_le s[k]
      have hbk := byte_at s k hlt
      cases hcn : conB (s[k].toNat : Int)
      · have hz := HNO.out k hlt (by rw [hbk, hcn])
        have HZ := Lib.hid hz; have HCN := Lib.hid hcn; clear hz hbk hcn
        go_wp2_with fail
        all_goals first
          | (go_ret; exact ⟨ret_bool HZ.out.symm, rfl⟩)
          | (exfalso; have := HCN.out; unfold conB at this; simp at this; simp_all)
      · have HBK := Lib.hid hbk; have HCN := Lib.hid hcn; clear hbk
        unfold conB at hcn
        simp only [decide_eq_true_eq] at hcn
        obtain ⟨a1, a2, a3, a4, a5, a6⟩ := hcn
        have e1 : ((s[k].toNat : Int) == 60) = false := by simpa using a3
        have e2 : ((s[k].toNat : Int) == 62) = false := by simpa using a4
        have e3 : ((s[k].toNat : Int) == 123) = false := by simpa using a5
        have e4 : ((s[k].toNat : Int) == 125) = false := by simpa using a6
        have e5 : decide ((s[k].toNat : Int) < 32) = false := by simpa using a1
        have e6 : decide (126 < (s[k].toNat : Int)) = false := by simpa using a2
        clear a3 a4 a5 a6
        go_wp2_with fail
        go_round
        case rel => exact ⟨k + 1, hlt, by go_num, fun j hj => by
                      by_cases e : j = k
                      · rw [e, HBK.out, HCN.out]
                      · exact HK.out j (by omega)⟩
        case measure => simp [intOf]; omega
    · have hz := HR.out (fun j hj => HK.out j (by omega))
      cases hN : isNm (nameB s)
      · rw [hN] at hz
        have hin := HIN.out
        rw [hN] at hin
        have HI := Lib.hid hin; have HZ := Lib.hid hz; clear hin hz hN
        generalize nameB s = nm at *
        go_wp2_with fail
        refine (HNM.out _).mono ?_; rintro e w2 ⟨rfl, rfl⟩
        go_wp2_with fail
        refine (HI.out _).mono ?_; rintro e w2 ⟨rfl, rfl⟩
        go_wp2_with fail
        go_ret
        exact ⟨ret_bool HZ.out.symm, rfl⟩
      · rw [hN] at hz
        have hin := HIN.out
        rw [hN] at hin
        have hpos := con_pos s hN
        have hle := HLE.out; have hns := HNS.out
        have HI := Lib.hid hin; clear hin
        have hb := byte_at s (s.size - 1) (by omega)
        have hix : (0 : Int) ≤ (s.size : Int) - 1 := by omega
        have hbn : (((s.size : Int) - 1).toNat) = s.size - 1 := by omega
        have HZ := Lib.hid hz; clear hz hN
        rw [hb] at HZ
        generalize hcu : cutN s = c at *
        clear hcu
        by_cases h1 : c = s.size
        · have q1 : ((c : Int) == (s.size : Int)) = true := by simp; omega
          generalize nameB s = nm at *
          have q2 : ((nm.size : Int) == (s.size : Int)) = true := by rw [hns]; exact q1
          go_wp2_with fail
          refine (HNM.out _).mono ?_; rintro e w2 ⟨rfl, rfl⟩
          go_wp2_with fail
          refine (HI.out _).mono ?_; rintro e w2 ⟨rfl, rfl⟩
          go_wp2_with fail
          go_ret
          exact ⟨ret_bool (by rw [HZ.out, Bool.eq_iff_iff]; simp [h1]), rfl⟩
        · have q1 : ((c : Int) == (s.size : Int)) = false := by simp; omega
          by_cases h2 : c + 1 < s.size
          · have q3 : decide ((c : Int) + 1 < (s.size : Int)) = true := by simp; omega
            generalize nameB s = nm at *
            have q2 : ((nm.size : Int) == (s.size : Int)) = false := by rw [hns]; exact q1
            have q4 : decide ((nm.size : Int) + 1 < (s.size : Int)) = true := by rw [hns]; exact q3
            go_wp2_with fail
            refine (HNM.out _).mono ?_; rintro e w2 ⟨rfl, rfl⟩
            go_wp2_with fail
            refine (HI.out _).mono ?_; rintro e w2 ⟨rfl, rfl⟩
            go_wp2_with fail
            go_ret
            exact ⟨ret_bool (by rw [HZ.out, Bool.eq_iff_iff]; simp [h1, h2]), rfl⟩
          · have q3 : decide ((c : Int) + 1 < (s.size : Int)) = false := by simp; omega
            generalize nameB s = nm at *
            have q2 : ((nm.size : Int) == (s.size : Int)) = false := by rw [hns]; exact q1
            have q4 : decide ((nm.size : Int) + 1 < (s.size : Int)) = false := by rw [hns]; exact q3
            go_wp2_with fail
            refine (HNM.out _).mono ?_; rintro e w2 ⟨rfl, rfl⟩
            go_wp2_with fail
            refine (HI.out _).mono ?_; rintro e w2 ⟨rfl, rfl⟩
            go_wp2_with fail
            go_ret
            exact ⟨ret_bool (by rw [HZ.out, Bool.eq_iff_iff]; simp [h1, h2]), rfl⟩
end Go.Proofs.YtdbbjhbkhimbfaaGreatDoor
