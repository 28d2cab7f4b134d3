/- Contracts of the contents of tags: Cut at a space, IsContent, the reference's IsContent and Name. -/
import Derived.Test.YtphkpokoeaagfaaGreatDoorConM
import Derived.Test.YtphkpokoeaagfaaGreatDoorName
import Derived.Test.YtphkpokoeaagfaaGreatDoorShelf0
import Derived.LoopTactic
import Derived.Outline
namespace Go.Proofs.YtphkpokoeaagfaaGreatDoor
open Go.ChangeShapes Go.WideShapes Go.ChangeAt Go.RowKit
set_option linter.unusedVariables false
set_option maxRecDepth 100000

theorem conbyte_any (n : Int) (w : World) (h0 : 0 ≤ n) (h1 : n ≤ 255) :
    Calls Tryz.prog 117 #[.int .u8 n] w fun e w' => e = .returned (.bool (conB n)) ∧ w = w' := by
  go_enter Tryz.func117, Tryz.ntmps117
  go_wp2
  all_goals go_ret
  all_goals refine ⟨ret_bool ?_, rfl⟩
  all_goals (unfold conB; rw [Bool.eq_iff_iff]; simp_all; try omega)

theorem scut_any (s : ByteArray) (w : World) (hs : s.size ≤ maxLen) :
    Calls Tryz.prog 114 #[.string s, .string ⟨#[32]⟩] w fun e w' => e = .returned (.tuple #[.string (nameB s), .string (restB s), .bool (decide (cutN s < s.size))]) ∧ Below w.heap.size w w' := by
  unfold maxLen at hs
  have hi := Tryz.stringslite_Index_one s 32
  rw [index_cut] at hi
  have hle := cutN_le s
  by_cases h : cutN s = s.size
  · rw [if_pos h] at hi
    have hn := nameB_all s h
    have hr : restB s = ByteArray.empty := by unfold restB; rw [h]; apply ByteArray.ext; simp
    have hb : decide (cutN s < s.size) = false := by simp; omega
    have HI := Lib.hid hi; have HN := Lib.hid hn; have HR := Lib.hid hr; have HB := Lib.hid hb
    clear hi hn hr hb h hle
    go_enter Tryz.func114, Tryz.ntmps114
    go_wp2_with fail
    refine (HI.out _).mono ?_; rintro e w1 ⟨rfl, rfl⟩
    go_wp2_with fail
    go_ret3
    exact ⟨by rw [HN.out, HR.out, HB.out]; rfl, Below.refl _ _⟩
  · rw [if_neg h] at hi
    have hb : decide (cutN s < s.size) = true := by simp; omega
    have c0 : (0 : Int) ≤ (cutN s : Int) := by omega
    have c1 : (cutN s : Int) ≤ (s.size : Int) := by omega
    have c2 : (0 : Int) ≤ (cutN s : Int) + 1 := by omega
    have c3 : (cutN s : Int) + 1 ≤ (s.size : Int) := by omega
    have hn : s.extract 0 (cutN s) = nameB s := rfl
    have hr : s.extract (cutN s + 1) s.size = restB s := rfl
    have HN := Lib.hid hn; have HR := Lib.hid hr; have HI := Lib.hid hi; have HB := Lib.hid hb
    clear hi hb hn hr
    generalize cutN s = n at *
    have mixed : Tryz.prog.follows .mixedOrders = true := by kernel_rfl
    have cw : IntKind.i64.wrap ((n : Int) + 1) = (n : Int) + 1 := by
      have a1 : (-9223372036854775808 : Int) ≤ (n : Int) + 1 := by omega
      have a2 : (n : Int) + 1 ≤ 9223372036854775807 := by omega
      exact IntWalk.i64_in _ ⟨a1, a2⟩
    have cn : ((n : Int) + 1).toNat = n + 1 := by omega
    go_enter Tryz.func114, Tryz.ntmps114
    go_wp2_with fail
    refine (HI.out _).mono ?_; rintro e w1 ⟨rfl, rfl⟩
    go_wp2_with fail
    go_region_o
    all_goals go_wp2_with fail
    all_goals go_ret3
    all_goals (rw [HB.out, ← HN.out, ← HR.out]; exact ⟨rfl, (Below.refl _ _).drew⟩)

theorem cut_any (s : ByteArray) (w : World) (hs : s.size ≤ maxLen) :
    Calls Tryz.prog 81 #[.string s, .string ⟨#[32]⟩] w fun e w' => e = .returned (.tuple #[.string (nameB s), .string (restB s), .bool (decide (cutN s < s.size))]) ∧ Below w.heap.size w w' := by
  have h := fun w => scut_any s w hs
  generalize nameB s = a at *
  generalize restB s = b at *
  generalize decide (cutN s < s.size) = c at *
  have H := Lib.hid h; clear h
  go_enter Tryz.func81, Tryz.ntmps81
  go_wp2_with fail
  refine (H.out _).mono ?_; rintro e w1 ⟨rfl, hb⟩
  go_wp2_with fail
  go_ret3
  exact ⟨rfl, hb⟩
theorem nameof_any (s : ByteArray) (w : World) (hs : s.size ≤ maxLen) :
    Calls Tryz.prog 106 #[.string s] w fun e w' => e = .returned (.string (nameB s)) ∧ Below w.heap.size w w' := by
  have h := fun w => cut_any s w hs
  generalize nameB s = a at *
  generalize restB s = b at *
  generalize decide (cutN s < s.size) = c at *
  have H := Lib.hid h; clear h
  go_enter Tryz.func106, Tryz.ntmps106
  go_wp2_with fail
  refine (H.out _).mono ?_; rintro e w1 ⟨rfl, hb⟩
  go_wp2_with fail
  go_ret
  exact ⟨rfl, hb⟩
theorem rname_any (s : ByteArray) (w : World) (hs : s.size ≤ maxLen) :
    Calls Tryz.prog 31 #[.string s] w fun e w' => e = .returned (.string (nameB s)) ∧ w = w' := by
  unfold maxLen at hs
  go_enter Tryz.func31, Tryz.ntmps31
  go_wp2_with fail
  go_loop [3] (fun i => ∃ k : Nat, k ≤ s.size ∧ i = .int .i64 k ∧ Hid (∀ j, j < k → byte s j ≠ 32)) (fun i => s.size - (intOf i).toNat)
  case atStart => exact ⟨0, by omega, rfl, fun j hj => by omega⟩
  case round =>
    obtain ⟨k, hk, rfl, HK⟩ := hrel
    by_cases hlt : k < s.size
    · have hb := byte_at s k hlt
      by_cases h32 : (s[k].toNat : Int) = 32
      · have q : ((s[k].toNat : Int) == 32) = true := by simpa using h32
        have hn : nameB s = s.extract 0 k := by unfold nameB; rw [cutN_eq s k hlt HK.out (by rw [hb]; exact h32)]
        have HN := Lib.hid hn; clear hn hb h32
        go_wp2_with fail
        go_ret
        exact ⟨by rw [HN.out]; rfl, rfl⟩
      · have q : ((s[k].toNat : Int) == 32) = false := by simpa using h32
        have HB := Lib.hid hb; clear hb
        have H32 := Lib.hid h32; clear h32
        go_wp2_with fail
        go_round
        case rel => exact ⟨k + 1, by omega, by go_num, fun j hj => by
                      by_cases e : j = k
                      · rw [e, HB.out]; exact H32.out
                      · exact HK.out j (by omega)⟩
        case measure => simp [intOf]; omega
    · have hn : nameB s = s := nameB_all s (cutN_all s (fun i hi => HK.out i (by omega)))
      have HN := Lib.hid hn; clear hn
      go_wp2_with fail
      go_ret
      exact ⟨by rw [HN.out]; rfl, rfl⟩
theorem suffix_any (r : ByteArray) (w : World) (hr : r.size ≤ maxLen) :
    Calls Tryz.prog 118 #[.string r, .string ⟨#[47]⟩] w fun e w' => e = .returned (.bool (decide (1 ≤ r.size) && decide (byte r (r.size - 1) = 47))) ∧ w' = w :=
  (Tryz.strings_HasSuffix r ⟨#[47]⟩ w hr).mono fun e w' ⟨he, hw⟩ => ⟨by rw [he]; exact ret_bool (hasSuffix_one r 47), hw⟩

theorem iscontent_any (s : ByteArray) (w : World) (hs : s.size ≤ maxLen) :
    Calls Tryz.prog 103 #[.string s] w fun e w' => e = .returned (.bool (isCon s)) ∧ Below w.heap.size w w' := by
  have hc := fun w => cut_any s w hs
  unfold maxLen at hs
  have hle := cutN_le s
  have hns := nameB_size s
  have hrs := restB_size s
  have hrb := restB_byte s
  have hnm := fun w => isname_any (nameB s) w (by unfold maxLen; omega)
  have hsf := fun w => suffix_any (restB s) w (by unfold maxLen; omega)
  by_cases h64 : 64 < s.size
  · have hz := isCon_no s (fun h => by have := h.size; omega)
    rw [hz]
    generalize nameB s = a at *
    generalize restB s = b at *
    generalize decide (cutN s < s.size) = c at *
    have HC := Lib.hid hc; clear hc hz hle hns hrs hnm hsf hrb
    have q : decide (64 < (s.size : Int)) = true := by simp; omega
    go_enter Tryz.func103, Tryz.ntmps103
    go_wp2_with fail
    refine (HC.out _).mono ?_; rintro e w1 ⟨rfl, hb⟩
    go_wp2_with fail
    go_ret
    exact ⟨rfl, hb⟩
  have q : decide (64 < (s.size : Int)) = false := by simp; omega
  cases hN : isNm (nameB s)
  · have hz := isCon_no s (fun h => by have := h.name; rw [hN] at this; cases this)
    rw [hz]
    rw [hN] at hnm
    generalize nameB s = a at *
    generalize restB s = b at *
    generalize decide (cutN s < s.size) = c at *
    have HC := Lib.hid hc; have HN := Lib.hid hnm; clear hc hz hle hns hrs hnm hsf hrb hN
    go_enter Tryz.func103, Tryz.ntmps103
    go_wp2_with fail
    refine (HC.out _).mono ?_; rintro e w1 ⟨rfl, hb⟩
    go_wp2_with fail
    refine (HN.out _).mono ?_; rintro e w2 ⟨rfl, rfl⟩
    go_wp2_with fail
    go_ret
    exact ⟨rfl, hb⟩
  rw [hN] at hnm
  by_cases hsome : cutN s = s.size ∨ cutN s + 1 < s.size
  · have hres : ∀ b : Bool, ((∀ i, i < s.size → cutN s < i → conB (byte s i) = true) ∧ (cutN s + 1 < s.size → byte s (s.size - 1) ≠ 47) ↔ b = true) → isCon s = b := fun b hb => by
      rw [Bool.eq_iff_iff, isCon_iff, ← hb]
      exact ⟨fun h => ⟨h.all, h.last⟩, fun h => ⟨by omega, hN, hsome, h.1, h.2⟩⟩
    have hmore : decide (cutN s < s.size) = true → (restB s).toList.isEmpty = false := fun hd => by
      have : cutN s < s.size := by simpa using hd
      exact str_some (by omega)
    have hz : ∀ k, k < (restB s).size → byte (restB s) k = byte s (cutN s + 1 + k) := fun k hk => hrb k (by rw [hrs] at hk; omega)
    have hsz : (restB s).size ≤ 64 := by omega
    have hno : ∀ k, k < (restB s).size → conB (byte (restB s) k) = false → isCon s = false := fun k hk hf => by
      refine hres false ⟨fun h => ?_, fun h => by cases h⟩
      have := h.1 (cutN s + 1 + k) (by rw [hrs] at hk; omega) (by omega)
      rw [← hz k hk, hf] at this; cases this
    have hyes : (∀ k, k < (restB s).size → conB (byte (restB s) k) = true) → isCon s = !(decide (1 ≤ (restB s).size) && decide (byte (restB s) ((restB s).size - 1) = 47)) := fun hall => by
      refine hres _ ⟨fun h => ?_, fun h => ⟨fun i hi hc => ?_, fun hc => ?_⟩⟩
      · rw [Bool.not_eq_true', Bool.and_eq_false_iff]
        by_cases h1 : 1 ≤ (restB s).size
        · right
          simp only [decide_eq_false_iff_not]
          rw [hz _ (by omega)]
          have := h.2 (by rw [hrs] at h1; omega)
          rw [show cutN s + 1 + ((restB s).size - 1) = s.size - 1 from by rw [hrs] at h1 ⊢; omega]
          exact this
        · left; simpa using h1
      · have := hall (i - (cutN s + 1)) (by rw [hrs]; omega)
        rw [hz _ (by rw [hrs]; omega), show cutN s + 1 + (i - (cutN s + 1)) = i from by omega] at this
        exact this
      · have h1 : 1 ≤ (restB s).size := by rw [hrs]; omega
        simp [h1] at h
        rw [hz _ (by omega), show cutN s + 1 + ((restB s).size - 1) = s.size - 1 from by rw [hrs] at h1 ⊢; omega] at h
        exact h
    have HNO := Lib.hid hno; have HYES := Lib.hid hyes
    have HC := Lib.hid hc; have HN := Lib.hid hnm; have HS := Lib.hid hsf
    clear hc hnm hsf hrb hN hz hno hyes hres hsome hle hns hrs
    generalize nameB s = a at *
    generalize restB s = b at *
    generalize (decide (1 ≤ b.size) && decide (byte b (b.size - 1) = 47)) = sf at *
    have q2 := hmore
    have q3 : decide (cutN s < s.size) = false ∨ decide (cutN s < s.size) = true := by cases decide (cutN s < s.size) <;> simp
    generalize decide (cutN s < s.size) = c at *
    clear hmore h64
    go_enter Tryz.func103, Tryz.ntmps103
    go_wp2_with fail
    refine (HC.out _).mono ?_; rintro e w1 ⟨rfl, hb⟩
    go_wp2_with fail
    refine (HN.out _).mono ?_; rintro e w2 ⟨rfl, rfl⟩
    rcases q3 with rfl | rfl
    · clear q2
      go_wp2_with fail
      go_loopw [30] (fun i wr => ∃ k : Nat, k ≤ b.size ∧ i = .int .i64 k ∧ wr = w1 ∧ Hid (∀ j, j < k → conB (byte b j) = true)) (fun i _ => b.size - (intOf i).toNat)
      case atStart => exact ⟨0, by omega, rfl, rfl, fun j hj => by omega⟩
      case round =>
        obtain ⟨k, hk, rfl, rfl, HK⟩ := hrel
        by_cases hlt : k < b.size
        · have hb1 := byte_le b[k]
          have hcb := fun w => conbyte_any (b[k].toNat : Int) w (by omega) hb1
          have hbk := byte_at b k hlt
          cases hcn : conB (b[k].toNat : Int)
          · rw [hcn] at hcb
            have hz := HNO.out k hlt (by rw [hbk, hcn])
            have HZ := Lib.hid hz; have HCB := Lib.hid hcb; clear hz hcb hbk hcn
            go_wp2_with fail
            refine (HCB.out _).mono ?_; rintro e w2 ⟨rfl, rfl⟩
            go_wp2_with fail
            go_ret
            exact ⟨ret_bool HZ.out.symm, hb⟩
          · rw [hcn] at hcb
            have HCB := Lib.hid hcb; have HBK := Lib.hid hbk; have HCN := Lib.hid hcn; clear hcb hbk hcn
            go_wp2_with fail
            refine (HCB.out _).mono ?_; rintro e w2 ⟨rfl, rfl⟩
            go_wp2_with fail
            go_roundw
            case rel => exact ⟨k + 1, hlt, by go_num, (by trivial), fun j hj => by
                          by_cases e : j = k
                          · rw [e, HBK.out, HCN.out]
                          · exact HK.out j (by omega)⟩
            case measure => simp [intOf]; omega
        · have hz := HYES.out (fun j hj => HK.out j (by omega))
          have HZ := Lib.hid hz; clear hz
          go_wp2_with fail
          refine (HS.out _).mono ?_; rintro e w2 ⟨rfl, rfl⟩
          go_wp2_with fail
          go_ret
          exact ⟨ret_bool HZ.out.symm, hb⟩
    · replace q2 := q2 rfl
      go_wp2_with fail
      go_loopw [30] (fun i wr => ∃ k : Nat, k ≤ b.size ∧ i = .int .i64 k ∧ wr = w1 ∧ Hid (∀ j, j < k → conB (byte b j) = true)) (fun i _ => b.size - (intOf i).toNat)
      case atStart => exact ⟨0, by omega, rfl, rfl, fun j hj => by omega⟩
      case round =>
        obtain ⟨k, hk, rfl, rfl, HK⟩ := hrel
        by_cases hlt : k < b.size
        · have hb1 := byte_le b[k]
          have hcb := fun w => conbyte_any (b[k].toNat : Int) w (by omega) hb1
          have hbk := byte_at b k hlt
          cases hcn : conB (b[k].toNat : Int)
          · rw [hcn] at hcb
            have hz := HNO.out k hlt (by rw [hbk, hcn])
            have HZ := Lib.hid hz; have HCB := Lib.hid hcb; clear hz hcb hbk hcn
            go_wp2_with fail
            refine (HCB.out _).mono ?_; rintro e w2 ⟨rfl, rfl⟩
            go_wp2_with fail
            go_ret
            exact ⟨ret_bool HZ.out.symm, hb⟩
          · rw [hcn] at hcb
            have HCB := Lib.hid hcb; have HBK := Lib.hid hbk; have HCN := Lib.hid hcn; clear hcb hbk hcn
            go_wp2_with fail
            refine (HCB.out _).mono ?_; rintro e w2 ⟨rfl, rfl⟩
            go_wp2_with fail
            go_roundw
            case rel => exact ⟨k + 1, hlt, by go_num, (by trivial), fun j hj => by
                          by_cases e : j = k
                          · rw [e, HBK.out, HCN.out]
                          · exact HK.out j (by omega)⟩
            case measure => simp [intOf]; omega
        · have hz := HYES.out (fun j hj => HK.out j (by omega))
          have HZ := Lib.hid hz; clear hz
          go_wp2_with fail
          refine (HS.out _).mono ?_; rintro e w2 ⟨rfl, rfl⟩
          go_wp2_with fail
          go_ret
          exact ⟨ret_bool HZ.out.symm, hb⟩
  · have hz := isCon_no s (fun h => hsome h.some)
    rw [hz]
    have hmore : decide (cutN s < s.size) = true := by simp; omega
    have hrest := str_none (a := restB s) (by omega)
    rw [hmore] at hc
    have HC := Lib.hid hc; have HN := Lib.hid hnm; clear hc hnm hsf hrb hN hz hle hns hrs hsome hmore
    generalize nameB s = a at *
    generalize restB s = b at *
    clear h64
    go_enter Tryz.func103, Tryz.ntmps103
    go_wp2_with fail
    refine (HC.out _).mono ?_; rintro e w1 ⟨rfl, hb⟩
    go_wp2_with fail
    refine (HN.out _).mono ?_; rintro e w2 ⟨rfl, rfl⟩
    go_wp2_with fail
    go_ret
    exact ⟨rfl, hb⟩

set_option maxHeartbeats 1600000 in
theorem riscontent_any (s : ByteArray) (w : World) (hs : s.size ≤ maxLen) :
    Calls Tryz.prog 108 #[.string s] w fun e w' => e = .returned (.bool (isCon s)) ∧ w = w' := by
  have hnm := fun w => rname_any s w hs
  unfold maxLen at hs
  have hle := cutN_le s
  have hns := nameB_size s
  have hin := fun w => risname_any (nameB s) w (by unfold maxLen; omega)
  by_cases h64 : 64 < s.size
  · have hz := isCon_no s (fun h => by have := h.size; omega)
    rw [hz]
    have q : decide (64 < (s.size : Int)) = true := by simp; omega
    clear hz hle hns hin hnm
    go_enter Tryz.func108, Tryz.ntmps108
    go_wp2_with fail
    go_ret
    exact ⟨rfl, rfl⟩
  have q : decide (64 < (s.size : Int)) = false := by simp; omega
  have hno : ∀ k, k < s.size → conB (byte s k) = false → isCon s = false := fun k hk hf => by
    refine isCon_no s (fun h => ?_)
    rw [con_all s h k hk] at hf; cases hf
  have hrest : (∀ k, k < s.size → conB (byte s k) = true) → isCon s = (isNm (nameB s) && ((decide (cutN s = s.size) || decide (cutN s + 1 < s.size)) && decide (byte s (s.size - 1) ≠ 47))) := fun hall => by
    rw [Bool.eq_iff_iff, isCon_iff]
    simp only [Bool.and_eq_true, Bool.or_eq_true, decide_eq_true_eq]
    exact ⟨fun h => ⟨h.name, h.some, con_last s h⟩, fun ⟨h1, h2, h3⟩ => con_of_ref s (by omega) h1 h2 hall h3⟩
  have HNO := Lib.hid hno; have HR := Lib.hid hrest; have HNM := Lib.hid hnm; have HIN := Lib.hid hin; have HLE := Lib.hid hle; have HNS := Lib.hid hns
  clear hno hrest hnm hin hle hns h64
  have h64 : s.size ≤ 64 := by simp at q; omega
  go_enter Tryz.func108, Tryz.ntmps108
  go_wp2_with fail
  go_loop [3] (fun i => ∃ k : Nat, k ≤ s.size ∧ i = .int .i64 k ∧ Hid (∀ j, j < k → conB (byte s j) = true)) (fun i => s.size - (intOf i).toNat)
  case atStart => exact ⟨0, by omega, rfl, fun j hj => by omega⟩
  case round =>
    obtain ⟨k, hk, rfl, HK⟩ := hrel
    by_cases hlt : k < s.size
    · have hb1 := byte_le s[k]
      have hbk := byte_at s k hlt
      cases hcn : conB (s[k].toNat : Int)
      · have hz := HNO.out k hlt (by rw [hbk, hcn])
        have HZ := Lib.hid hz; have HCN := Lib.hid hcn; clear hz hbk hcn
        go_wp2_with fail
        all_goals first
          | (go_ret; exact ⟨ret_bool HZ.out.symm, rfl⟩)
          | (exfalso; have := HCN.out; unfold conB at this; simp at this; simp_all)
      · have HBK := Lib.hid hbk; have HCN := Lib.hid hcn; clear hbk
        unfold conB at hcn
        simp only [decide_eq_true_eq] at hcn
        obtain ⟨a1, a2, a3, a4, a5, a6⟩ := hcn
        have e1 : ((s[k].toNat : Int) == 60) = false := by simpa using a3
        have e2 : ((s[k].toNat : Int) == 62) = false := by simpa using a4
        have e3 : ((s[k].toNat : Int) == 123) = false := by simpa using a5
        have e4 : ((s[k].toNat : Int) == 125) = false := by simpa using a6
        have e5 : decide ((s[k].toNat : Int) < 32) = false := by simpa using a1
        have e6 : decide (126 < (s[k].toNat : Int)) = false := by simpa using a2
        clear a3 a4 a5 a6
        go_wp2_with fail
        go_round
        case rel => exact ⟨k + 1, hlt, by go_num, fun j hj => by
                      by_cases e : j = k
                      · rw [e, HBK.out, HCN.out]
                      · exact HK.out j (by omega)⟩
        case measure => simp [intOf]; omega
    · have hz := HR.out (fun j hj => HK.out j (by omega))
      cases hN : isNm (nameB s)
      · rw [hN] at hz
        have hin := HIN.out
        rw [hN] at hin
        have HI := Lib.hid hin; have HZ := Lib.hid hz; clear hin hz hN
        generalize nameB s = nm at *
        go_wp2_with fail
        refine (HNM.out _).mono ?_; rintro e w2 ⟨rfl, rfl⟩
        go_wp2_with fail
        refine (HI.out _).mono ?_; rintro e w2 ⟨rfl, rfl⟩
        go_wp2_with fail
        go_ret
        exact ⟨ret_bool HZ.out.symm, rfl⟩
      · rw [hN] at hz
        have hin := HIN.out
        rw [hN] at hin
        have hpos := con_pos s hN
        have hle := HLE.out; have hns := HNS.out
        have HI := Lib.hid hin; clear hin
        have hb := byte_at s (s.size - 1) (by omega)
        have hix : (0 : Int) ≤ (s.size : Int) - 1 := by omega
        have hbn : (((s.size : Int) - 1).toNat) = s.size - 1 := by omega
        have HZ := Lib.hid hz; clear hz hN
        rw [hb] at HZ
        generalize hcu : cutN s = c at *
        clear hcu
        by_cases h1 : c = s.size
        · have q1 : ((c : Int) == (s.size : Int)) = true := by simp; omega
          generalize nameB s = nm at *
          have q2 : ((nm.size : Int) == (s.size : Int)) = true := by rw [hns]; exact q1
          go_wp2_with fail
          refine (HNM.out _).mono ?_; rintro e w2 ⟨rfl, rfl⟩
          go_wp2_with fail
          refine (HI.out _).mono ?_; rintro e w2 ⟨rfl, rfl⟩
          go_wp2_with fail
          go_ret
          exact ⟨ret_bool (by rw [HZ.out, Bool.eq_iff_iff]; simp [h1]), rfl⟩
        · have q1 : ((c : Int) == (s.size : Int)) = false := by simp; omega
          by_cases h2 : c + 1 < s.size
          · have q3 : decide ((c : Int) + 1 < (s.size : Int)) = true := by simp; omega
            generalize nameB s = nm at *
            have q2 : ((nm.size : Int) == (s.size : Int)) = false := by rw [hns]; exact q1
            have q4 : decide ((nm.size : Int) + 1 < (s.size : Int)) = true := by rw [hns]; exact q3
            go_wp2_with fail
            refine (HNM.out _).mono ?_; rintro e w2 ⟨rfl, rfl⟩
            go_wp2_with fail
            refine (HI.out _).mono ?_; rintro e w2 ⟨rfl, rfl⟩
            go_wp2_with fail
            go_ret
            exact ⟨ret_bool (by rw [HZ.out, Bool.eq_iff_iff]; simp [h1, h2]), rfl⟩
          · have q3 : decide ((c : Int) + 1 < (s.size : Int)) = false := by simp; omega
            generalize nameB s = nm at *
            have q2 : ((nm.size : Int) == (s.size : Int)) = false := by rw [hns]; exact q1
            have q4 : decide ((nm.size : Int) + 1 < (s.size : Int)) = false := by rw [hns]; exact q3
            go_wp2_with fail
            refine (HNM.out _).mono ?_; rintro e w2 ⟨rfl, rfl⟩
            go_wp2_with fail
            refine (HI.out _).mono ?_; rintro e w2 ⟨rfl, rfl⟩
            go_wp2_with fail
            go_ret
            exact ⟨ret_bool (by rw [HZ.out, Bool.eq_iff_iff]; simp [h1, h2]), rfl⟩
end Go.Proofs.YtphkpokoeaagfaaGreatDoor
