/- Plain mathematics of ResourceKeys: what a file of one line, or of the same line twice, is divided into. The walk of ResourceKeys. -/
import Derived.Test.YtdbbjhbkhimbfaaDoorRtD
import Derived.Deep.Cut
import Derived.Deep.DeepCutAuto
namespace Go.Proofs.YtdbbjhbkhimbfaaDoor
set_option linter.unusedVariables false
open Go.Lib

def kL (n : Nat) (c : UInt8) : List UInt8 := if n = 0 then [] else List.replicate (n - 1) 107 ++ [c]
def dL (n : Nat) (c : UInt8) : List UInt8 := kL n c ++ [61, 118, 10]
theorem kL_len (n : Nat) (c : UInt8) : (kL n c).length = n := by
  unfold kL; split
  · simp; omega
  · simp; omega
theorem kL_ne (n : Nat) (c : UInt8) (h : c ≠ 61) : ∀ x ∈ kL n c, x ≠ 61 := fun x hx => by
  unfold kL at hx
  split at hx
  · cases hx
  · rcases List.mem_append.1 hx with hx | hx
    · rw [(List.mem_replicate.1 hx).2]; decide
    · rw [List.mem_singleton.1 hx]; exact h
theorem kL_all (n : Nat) (c : UInt8) (hn : 1 ≤ n) : (kL n c).all keyB = keyB c := by
  unfold kL
  rw [if_neg (by omega), List.all_append]
  have : (List.replicate (n - 1) (107 : UInt8)).all keyB = true := List.all_eq_true.2 (fun x hx => by rw [(List.mem_replicate.1 hx).2]; decide)
  rw [this]; simp
/-- The signs that may not begin a line. -/
def spB (c : UInt8) : Bool := c == 10 || c == 61 || c == 35 || c == 32 || c == 9
theorem kL_skip (n : Nat) (c : UInt8) (r : List UInt8) (h : 1 ≤ n → spB c = false) : skipL (kL n c ++ 61 :: r) = false := by
  have hd : ∀ (a : UInt8) (t : List UInt8), blB a = false → (a == 10 || a == 35) = false → skipL (a :: t) = false := fun a t h1 h2 => by
    have : blanks (a :: t) = [] := by unfold blanks; rw [List.takeWhile_cons, h1]; rfl
    unfold skipL; rw [this]; exact h2
  by_cases h0 : n = 0
  · subst h0; exact hd 61 r (by decide) (by decide)
  · have hs := h (by omega)
    unfold spB at hs
    simp only [Bool.or_eq_false_iff] at hs
    by_cases h1 : n = 1
    · subst h1
      show skipL (c :: 61 :: r) = false
      exact hd c _ (by unfold blB; rw [hs.1.2, hs.2]; rfl) (by rw [hs.1.1.1.1, hs.1.1.2]; rfl)
    · have : kL n c = 107 :: (List.replicate (n - 2) 107 ++ [c]) := by
        unfold kL; rw [if_neg h0, show n - 1 = (n - 2) + 1 by omega, List.replicate_succ]; rfl
      rw [this]; exact hd 107 _ (by decide) (by decide)
theorem kL_key (n : Nat) (c : UInt8) (r : List UInt8) (h : c ≠ 61) : upto 61 (kL n c ++ 61 :: r) = kL n c ∧ hasU 61 (kL n c ++ 61 :: r) = true := ⟨upto_app 61 _ _ (kL_ne n c h), has_app 61 _ _ (kL_ne n c h)⟩
theorem kL_keyK (n : Nat) (c : UInt8) (r : List UInt8) (h : 1 ≤ n → c ≠ 61) : keyK (kL n c ++ 61 :: r) = (decide (1 ≤ n) && keyB c && decide (n ≤ 64)) := by
  by_cases h0 : n = 0
  · subst h0; rfl
  · obtain ⟨e1, e2⟩ := kL_key n c r (h (by omega))
    unfold keyK
    rw [e1, e2, kL_len, kL_all n c (by omega)]
    simp only [Bool.true_and]
    rw [decide_eq_true (show 1 ≤ n by omega)]; simp
theorem restD_bsL (l : List UInt8) (p : Nat) : restD (bsL l) p = l.drop p := by unfold restD; rw [bsL_list]
theorem spl_keys_bad (n : Nat) (c : UInt8) (r : List UInt8) (h : 1 ≤ n → spB c = false) (hr : r.length ≤ 200) (hn : n ≤ 100) (hk : (decide (1 ≤ n) && keyB c && decide (n ≤ 64)) = false) : splR (bsL (kL n c ++ 61 :: r)) = ([], 0, 2) := by
  have hs : (bsL (kL n c ++ 61 :: r)).size = n + 1 + r.length := by rw [bsL_size, List.length_append, kL_len]; simp; omega
  unfold splR
  rw [if_neg (by omega)]
  refine spl_nokey _ _ _ _ (by omega) ?_ ?_
  · rw [restD_bsL]; exact kL_skip n c r h
  · rw [restD_bsL, List.drop_zero, kL_keyK n c r (fun h1 e => by have := h h1; rw [e] at this; cases this), hk]
theorem decV : dec elR [118] = ([⟨1, ⟨#[118]⟩, 0⟩], [0, 1], 0, 0) := by kernel_rfl
/-- The first line is read: what is left to do. -/
theorem spl_keys_one (n : Nat) (c : UInt8) (r : List UInt8) (h : spB c = false) (hn : 1 ≤ n) (hn2 : n ≤ 64) (hk : keyB c = true) (hr : r.length ≤ 200) :
    splR (bsL (kL n c ++ 61 :: 118 :: 10 :: r)) = spl (bsL (kL n c ++ 61 :: 118 :: 10 :: r)) [skel (bsL (kL n c ++ 61 :: 118 :: 10 :: r)) 0 (n + 1), ⟨true, bsL (kL n c), ⟨#[118]⟩⟩] (n + 2) (n + 3) := by
  have hc61 : c ≠ 61 := fun e => by rw [e] at h; cases h
  have hl : (kL n c ++ 61 :: 118 :: 10 :: r).length = n + 3 + r.length := by rw [List.length_append, kL_len]; simp; omega
  generalize hD : bsL (kL n c ++ 61 :: 118 :: 10 :: r) = D
  have hs : D.size = n + 3 + r.length := by rw [← hD, bsL_size, hl]
  have hrest : ∀ p, restD D p = (kL n c ++ 61 :: 118 :: 10 :: r).drop p := fun p => by rw [← hD, restD_bsL]
  obtain ⟨e1, e2⟩ := kL_key n c (118 :: 10 :: r) hc61
  have hra : rawAt D 0 = n + 1 := by unfold rawAt; rw [hrest, List.drop_zero, e1, kL_len]; omega
  have hr1 : restD D (n + 1) = 118 :: 10 :: r := by
    rw [hrest, List.drop_append, kL_len, List.drop_of_length_le (by rw [kL_len]; omega), show n + 1 - n = 1 by omega]; rfl
  have hrn : rawN D 0 = 1 := by unfold rawN; rw [hra, hr1, rawL_c _ _ (by decide) (by decide), rawL_10]
  have hka : keyAt D 0 = bsL (kL n c) := by unfold keyAt; rw [hrest, List.drop_zero, e1]
  have hrd : rawD D 0 = [118] := by unfold rawD; rw [hra, hr1, hrn]; rfl
  have hex : D.extract (n + 1) (n + 1 + 1) = ⟨#[118]⟩ := by
    have : (D.extract (n + 1) (n + 1 + 1)).data.toList = [118] := by
      rw [show (D.extract (n + 1) (n + 1 + 1)).data.toList = (D.data.toList.drop (n + 1)).take (n + 1 + 1 - (n + 1)) from by simp [ByteArray.extract, ByteArray.copySlice]]
      have : D.data.toList.drop (n + 1) = 118 :: 10 :: r := hr1
      rw [this, show n + 1 + 1 - (n + 1) = 1 by omega]; rfl
    rw [← bsL_of (D.extract (n + 1) (n + 1 + 1)), this]; rfl
  unfold splR
  rw [if_neg (by omega), spl_unit D [] 0 0 (by omega) (by rw [hrest, List.drop_zero]; exact kL_skip n c _ (fun _ => h)) (by rw [hrest, List.drop_zero, kL_keyK n c _ (fun _ => hc61), hk, decide_eq_true hn, decide_eq_true hn2]; rfl) (by unfold hasK; rfl) (by rw [hrd, decV]), hra, hrn, hka, hex]
  rfl
theorem spl_keys_ok (n : Nat) (c : UInt8) (h : spB c = false) (hn : 1 ≤ n) (hn2 : n ≤ 64) (hk : keyB c = true) : ∃ a z, splR (bsL (dL n c)) = ([a, ⟨true, bsL (kL n c), ⟨#[118]⟩⟩, z], 0, 0) := by
  have := spl_keys_one n c [] h hn hn2 hk (by simp)
  have e := spl_end (bsL (kL n c ++ [61, 118, 10])) [skel (bsL (kL n c ++ [61, 118, 10])) 0 (n + 1), ⟨true, bsL (kL n c), ⟨#[118]⟩⟩] (n + 2) (n + 3) (by rw [bsL_size, List.length_append, kL_len]; simp)
  exact ⟨_, _, this.trans e⟩
theorem spl_keys_twice (n : Nat) (c : UInt8) (h : spB c = false) (hn : 1 ≤ n) (hn2 : n ≤ 64) (hk : keyB c = true) : splR (bsL (dL n c ++ dL n c)) = ([], n + 3, 5) := by
  have hc61 : c ≠ 61 := fun e => by rw [e] at h; cases h
  have e0 : dL n c ++ dL n c = kL n c ++ 61 :: 118 :: 10 :: dL n c := by unfold dL; simp
  have hdl : (dL n c).length = n + 3 := by unfold dL; rw [List.length_append, kL_len]; rfl
  rw [e0, spl_keys_one n c (dL n c) h hn hn2 hk (by omega)]
  have hr : restD (bsL (kL n c ++ 61 :: 118 :: 10 :: dL n c)) (n + 3) = kL n c ++ 61 :: [118, 10] := by
    rw [restD_bsL, List.drop_append, kL_len, List.drop_of_length_le (by rw [kL_len]; omega), show n + 3 - n = 3 by omega]; rfl
  refine spl_twice _ _ _ _ (by rw [bsL_size, List.length_append, kL_len]; simp; omega) ?_ ?_ ?_
  · rw [hr]; exact kL_skip n c _ (fun _ => h)
  · rw [hr, kL_keyK n c _ (fun _ => hc61), hk, decide_eq_true hn, decide_eq_true hn2]; rfl
  · unfold keyAt; rw [hr, (kL_key n c _ hc61).1]
    unfold hasK; simp
end Go.Proofs.YtdbbjhbkhimbfaaDoor
namespace Go.Proofs.YtdbbjhbkhimbfaaDoor
open Go.ChangeShapes Go.WideShapes Go.ChangeAt Go.RowKit
set_option linter.unusedVariables false
set_option linter.unusedSimpArgs false
set_option maxRecDepth 100000

theorem conv_byte (w : World) (c : UInt8) : (convert 22 9 (.slice (some ⟨w.heap.size, 0, none⟩) 1 1)).run Tryd.prog (w.alloc (.cells #[.int .u8 (c.toNat : Int)] 5)) = .ok (.string ⟨#[c]⟩) (w.alloc (.cells #[.int .u8 (c.toNat : Int)] 5)) :=
  Lib.run_convert_whole (P := Tryd.prog) _ 22 5 9 Tryd.underlying22 Tryd.underlying5 Tryd.underlying9 w.heap.size 0 ⟨#[c]⟩ (fun i hi => by
    have hi' : i < 1 := hi
    obtain rfl : i = 0 := by omega
    rw [Nat.zero_add, Lib.cell_of_heap (heap_alloc_new w _)]; rfl) 1
theorem conv_byte' (w : World) (c : UInt8) : (convert 22 9 (.slice (some ⟨w.heap.size, 0, none⟩) 1 1)).run Tryd.prog (w.alloc (.cells #[.int .u8 (c.toNat : Int)] 5)).drew = .ok (.string ⟨#[c]⟩) (w.alloc (.cells #[.int .u8 (c.toNat : Int)] 5)).drew :=
  Lib.run_convert_whole (P := Tryd.prog) _ 22 5 9 Tryd.underlying22 Tryd.underlying5 Tryd.underlying9 w.heap.size 0 ⟨#[c]⟩ (fun i hi => by
    have hi' : i < 1 := hi
    obtain rfl : i = 0 := by omega
    rw [Nat.zero_add]
    show (w.alloc (.cells #[.int .u8 (c.toNat : Int)] 5)).cell? _ = _
    rw [Lib.cell_of_heap (heap_alloc_new w _)]; rfl) 1
theorem kS (k : Nat) (c : UInt8) (h : 1 ≤ k) : (bsL (List.replicate k 107)).extract 0 (k - 1) ++ ⟨#[c]⟩ = bsL (kL k c) := by
  have e1 : (bsL (List.replicate k (107 : UInt8))).extract 0 (k - 1) = bsL (List.replicate (k - 1) 107) := by
    rw [extract_take, bsL_list, List.take_replicate, Nat.min_eq_left (by omega)]
  rw [e1]
  show bsL (List.replicate (k - 1) 107) ++ bsL [c] = _
  rw [bsL_append]; unfold kL; rw [if_neg (by omega)]
theorem dS (k : Nat) (c : UInt8) : bsL (kL k c) ++ ⟨#[61, 118, 10]⟩ = bsL (dL k c) := by
  show bsL (kL k c) ++ bsL [61, 118, 10] = _
  rw [bsL_append]; rfl
theorem wrap_mod (a : Int) : ∃ k : Nat, k < 70 ∧ wrap64 ((IntKind.u64.wrap a).tmod 70) = (k : Int) := by
  have h0 : 0 ≤ IntKind.u64.wrap a := by
    simp [IntKind.wrap, IntKind.bits, IntKind.signed]; omega
  have e : (IntKind.u64.wrap a).tmod 70 = IntKind.u64.wrap a % 70 := Int.tmod_eq_emod_of_nonneg h0
  obtain ⟨k, hk⟩ := Int.eq_ofNat_of_zero_le (Int.emod_nonneg (IntKind.u64.wrap a) (show (70 : Int) ≠ 0 by decide))
  have hk2 := Int.emod_lt_of_pos (IntKind.u64.wrap a) (show (0 : Int) < 70 by decide)
  refine ⟨k, by omega, ?_⟩
  rw [e, hk]
  unfold wrap64
  omega
set_option maxHeartbeats 3200000 in
theorem keys_any (a0 : Int) (a1 : Int) (a2 : Bool) (w : World) (w0 : (Lit.int .i64 a0).wf = true) (w1 : (Lit.int .u8 a1).wf = true) :
    Calls Tryd.prog 11 #[.int .i64 a0, .int .u8 a1, .bool a2] w fun e w' => e = .returned (.bool true) ∧ Below w.heap.size w w' := by
  have HK := Lib.hid known_any
  obtain ⟨c, rfl⟩ : ∃ c : UInt8, a1 = (c.toNat : Int) := by
    have hb : 0 ≤ a1 ∧ a1 ≤ 255 := by simpa [Lit.wf, IntKind.min, IntKind.max, IntKind.signed, IntKind.bits] using w1
    exact ⟨UInt8.ofNat a1.toNat, by rw [UInt8.toNat_ofNat']; omega⟩
  obtain ⟨k, hk, hm1⟩ := wrap_mod a0
  clear w0 w1
  go_enter Tryd.func11, Tryd.ntmps11
  have HM1 := Lib.hid hm1
  clear hm1
  go_upto_region 2 with fail
  rw [HM1.out]
  go_wp2_with fail
  go_loop [7, 8] (fun vs vi => ∃ i : Nat, i ≤ k ∧ vi = .int .i64 i ∧ vs = .string (bsL (List.replicate i 107))) (fun vs vi => k - (intOf vi).toNat)
  case atStart => exact ⟨0, Nat.zero_le _, rfl, rfl⟩
  case round =>
    obtain ⟨i, hi, rfl, rfl⟩ := hrel
    by_cases hlt : i < k
    · have hz : (bsL (List.replicate i 107)).size = i := by rw [bsL_size, List.length_replicate]
      have he : bsL (List.replicate i 107) ++ ⟨#[107]⟩ = bsL (List.replicate (i + 1) 107) := by
        show bsL (List.replicate i 107) ++ bsL [107] = _
        rw [bsL_append, List.replicate_succ']
      have HE := Lib.hid he
      clear he
      generalize bsL (List.replicate i 107) = S at *
      have hno : ¬ (9223372036854775807 < S.size + 1) := by omega
      go_wp2_with fail
      go_round
      case rel => exact ⟨i + 1, hlt, by go_num, by rw [← HE.out]⟩
      case measure => simp [intOf]; omega
    · obtain rfl : i = k := by omega
      have hc0 : (0 : Int) ≤ (c.toNat : Int) := by omega
      have hc1 : (c.toNat : Int) ≤ 255 := by have := c.toNat_lt; omega
      have hkb : keyB c = decide ((97 ≤ (c.toNat : Int) ∧ (c.toNat : Int) ≤ 122) ∨ (48 ≤ (c.toNat : Int) ∧ (c.toNat : Int) ≤ 57) ∨ (c.toNat : Int) = 46 ∨ (c.toNat : Int) = 95 ∨ (c.toNat : Int) = 45) := by
        unfold keyB
        rw [Bool.eq_iff_iff]
        simp only [Bool.or_eq_true, decide_eq_true_eq]
        omega
      have HKB := Lib.hid hkb
      clear hkb
      go_upto_region 7 with fail
      go_cut [9] (fun v w' => v = .bool (keyB c) ∧ w = w')
      case first =>
        have hkb := HKB.out
        cases h46 : ((c.toNat : Int) == 46) <;> cases h95 : ((c.toNat : Int) == 95) <;> cases h45 : ((c.toNat : Int) == 45)
        all_goals clear hkb
        all_goals go_wp2_with fail
        all_goals go_meet
        all_goals refine ⟨?_, rfl⟩
        all_goals rw [HKB.out]
        all_goals simp only [beq_iff_eq, beq_eq_false_iff_ne] at h46 h95 h45
        all_goals refine congrArg Value.bool ?_
        all_goals first | (rw [Bool.eq_iff_iff]; simp <;> omega) | (symm; simp <;> omega) | (simp <;> omega)
      case rest =>
        obtain ⟨rfl, rfl⟩ := hcut
        clear HKB
        have hL : (bsL (List.replicate i 107)).size = i := by rw [bsL_size, List.length_replicate]
        have hKs : (bsL (kL i c)).size = i := by rw [bsL_size, kL_len]
        have hDs : (bsL (dL i c)).size = i + 3 := by rw [bsL_size]; unfold dL; rw [List.length_append, kL_len]; rfl
        have hd := dS i c
        have hdd : bsL (dL i c) ++ bsL (dL i c) = bsL (dL i c ++ dL i c) := bsL_append _ _
        have HDD := Lib.hid hdd; have HD := Lib.hid hd
        clear hd hdd
        go_upto_if 52 with fail
        go_cut [7] (fun vk w' => vk = .string (bsL (kL i c)) ∧ Below w.heap.size w w')
        case first =>
          by_cases h0 : i = 0
          · subst h0
            have e0 : bsL (List.replicate 0 107) = bsL (kL 0 c) := rfl
            rw [e0]
            clear e0 hL hKs
            go_wp2_with fail
            go_meet
            exact ⟨rfl, Below.refl _ _⟩
          · have hk1 := kS i c (by omega)
            have i1 : (1 : Int) ≤ (i : Int) := by omega
            have i2 : (0 : Int) < (i : Int) := by omega
            have hi9 : (i : Int) ≤ 70 := by omega
            have hcv := conv_byte w c
            have hcv' := conv_byte' w c
            have hcn : ((i : Int) - 1).toNat = i - 1 := by omega
            have hks : ¬ (9223372036854775807 < ((bsL (List.replicate i 107)).extract 0 (i - 1)).size + 1) := by simp; omega
            have hl9 : (i : Int) - 1 ≤ ((bsL (List.replicate i 107)).size : Int) := by omega
            have HK1 := Lib.hid hk1
            clear hk1 hL hKs hDs
            generalize bsL (List.replicate i 107) = S at *
            have mixed : Tryd.prog.follows .mixedOrders = true := by kernel_rfl
            go_upto_region 9 with fail
            go_region_o
            go_wp2_with fail
            go_meet
            exact ⟨by rw [HK1.out], (blw (Below.refl _ _) _).drew⟩
        case rest =>
          obtain ⟨rfl, BB⟩ := hcut
          have hdz : ¬ (9223372036854775807 < (bsL (dL i c)).size + (bsL (dL i c)).size) := by omega
          have hkz : ¬ (9223372036854775807 < (bsL (kL i c)).size + 3) := by omega
          go_upto_if 63 with fail
          rw [HD.out]
          go_cut [10] (fun vd w' => vd = .string (if a2 = true then bsL (dL i c ++ dL i c) else bsL (dL i c)) ∧ Below w.heap.size w w')
          case first =>
            cases a2
            · go_wp2_with fail
              go_meet
              exact ⟨rfl, BB⟩
            · go_wp2_with fail
              go_meet
              exact ⟨by rw [HDD.out]; rfl, BB⟩
          case rest =>
            obtain ⟨rfl, BC⟩ := hcut
            have hD0 : bsL (dL i c) = bsL (kL i c ++ 61 :: [118, 10]) := rfl
            have hD1 : bsL (dL i c ++ dL i c) = bsL (kL i c ++ 61 :: (118 :: 10 :: dL i c)) := by unfold dL; simp
            have hdl : (dL i c).length = i + 3 := by unfold dL; rw [List.length_append, kL_len]; rfl
            have hbad : ∀ b : Bool, (1 ≤ i → spB c = false) → (decide (1 ≤ i) && keyB c && decide (i ≤ 64)) = false → splR (if b = true then bsL (dL i c ++ dL i c) else bsL (dL i c)) = ([], 0, 2) := fun b h1 h2 => by
              cases b
              · exact (congrArg splR hD0).trans (spl_keys_bad i c [118, 10] h1 (by decide) (by omega) h2)
              · exact (congrArg splR hD1).trans (spl_keys_bad i c (118 :: 10 :: dL i c) h1 (by simp only [List.length_cons]; omega) (by omega) h2)
            have hDs2 : (if a2 = true then bsL (dL i c ++ dL i c) else bsL (dL i c)).size = (if a2 = true then 2 * (i + 3) else i + 3) := by
              cases a2
              · exact hDs
              · show (bsL (dL i c ++ dL i c)).size = 2 * (i + 3)
                rw [bsL_size, List.length_append, hdl]; omega
            have hok : spB c = false → 1 ≤ i → i ≤ 64 → keyB c = true → ∃ a z, splR (bsL (dL i c)) = ([a, ⟨true, bsL (kL i c), ⟨#[118]⟩⟩, z], 0, 0) := spl_keys_ok i c
            have htw : spB c = false → 1 ≤ i → i ≤ 64 → keyB c = true → splR (bsL (dL i c ++ dL i c)) = ([], i + 3, 5) := spl_keys_twice i c
            have HBD := Lib.hid hbad; have HOK := Lib.hid hok; have HTW := Lib.hid htw; have HDZ := Lib.hid hDs2
            clear hbad hok htw hDs2 hD0 hD1 hdl HD HDD hL hKs hDs hdz hkz
            have hsz : (if a2 = true then bsL (dL i c ++ dL i c) else bsL (dL i c)).size ≤ 999999999999 := by
              rw [HDZ.out]; split <;> omega
            have HS := Lib.hid (fun W => split_any (if a2 = true then bsL (dL i c ++ dL i c) else bsL (dL i c)) W hsz)
            clear hsz
            by_cases hA : 1 ≤ i ∧ spB c = true
            · obtain ⟨hi1, hsp⟩ := hA
              have i2 : (0 : Int) < (i : Int) := by omega
              clear HBD HOK HTW HDZ
              generalize (if a2 = true then bsL (dL i c ++ dL i c) else bsL (dL i c)) = DD at *
              generalize splR DD = R at *
              go_wp2_with fail
              refine (HS.out _).mono ?_; rintro e w1 ⟨pA, cA, rfl, b1, b2, iA, hb1⟩
              have hb2 := BelowOn BC hb1
              clear iA b1 b2
              have hor : (c.toNat : Int) = 10 ∨ (c.toNat : Int) = 61 ∨ (c.toNat : Int) = 35 ∨ (c.toNat : Int) = 32 ∨ (c.toNat : Int) = 9 := by
                unfold spB at hsp
                simp only [Bool.or_eq_true, beq_iff_eq] at hsp
                rcases hsp with (((h | h) | h) | h) | h
                · exact Or.inl (by rw [h]; rfl)
                · exact Or.inr (Or.inl (by rw [h]; rfl))
                · exact Or.inr (Or.inr (Or.inl (by rw [h]; rfl)))
                · exact Or.inr (Or.inr (Or.inr (Or.inl (by rw [h]; rfl))))
                · exact Or.inr (Or.inr (Or.inr (Or.inr (by rw [h]; rfl))))
              clear hsp
              by_cases h10 : (c.toNat : Int) = 10
              · clear hor
                go_wp2_with fail
                refine (HK.out _).mono ?_; rintro e w4 ⟨rfl, hb4⟩
                go_wp2_with fail
                go_ret
                exact ⟨rfl, BelowOn hb2 hb4⟩
              by_cases h61 : (c.toNat : Int) = 61
              · clear hor
                go_wp2_with fail
                refine (HK.out _).mono ?_; rintro e w4 ⟨rfl, hb4⟩
                go_wp2_with fail
                go_ret
                exact ⟨rfl, BelowOn hb2 hb4⟩
              by_cases h35 : (c.toNat : Int) = 35
              · clear hor
                go_wp2_with fail
                refine (HK.out _).mono ?_; rintro e w4 ⟨rfl, hb4⟩
                go_wp2_with fail
                go_ret
                exact ⟨rfl, BelowOn hb2 hb4⟩
              by_cases h32 : (c.toNat : Int) = 32
              · clear hor
                go_wp2_with fail
                refine (HK.out _).mono ?_; rintro e w4 ⟨rfl, hb4⟩
                go_wp2_with fail
                go_ret
                exact ⟨rfl, BelowOn hb2 hb4⟩
              have h9 : (c.toNat : Int) = 9 := by omega
              clear hor
              go_wp2_with fail
              refine (HK.out _).mono ?_; rintro e w4 ⟨rfl, hb4⟩
              go_wp2_with fail
              go_ret
              exact ⟨rfl, BelowOn hb2 hb4⟩
            · have hns : 1 ≤ i → spB c = false := fun h => by
                cases hh : spB c
                · rfl
                · exact absurd ⟨h, hh⟩ hA
              clear hA
              have hnp : ¬ ((0 : Int) < (i : Int)) ∨ ((0 : Int) < (i : Int) ∧ ((c.toNat : Int) == 10) = false ∧ ((c.toNat : Int) == 61) = false ∧ ((c.toNat : Int) == 35) = false ∧ ((c.toNat : Int) == 32) = false ∧ ((c.toNat : Int) == 9) = false) := by
                by_cases h1 : 1 ≤ i
                · have hs := hns h1
                  have hn : ∀ (k : UInt8), (c == k) = false → ((c.toNat : Int) == (k.toNat : Int)) = false := fun k hk => by
                    rw [beq_eq_false_iff_ne] at hk ⊢
                    exact fun e => hk (UInt8.toNat_inj.1 (by omega))
                  unfold spB at hs
                  simp only [Bool.or_eq_false_iff] at hs
                  exact Or.inr ⟨by omega, hn 10 hs.1.1.1.1, hn 61 hs.1.1.1.2, hn 35 hs.1.1.2, hn 32 hs.1.2, hn 9 hs.2⟩
                · exact Or.inl (by omega)
              by_cases hg : (decide (1 ≤ i) && keyB c && decide (i ≤ 64)) = false
              · have hR := HBD.out a2 hns hg
                clear HBD HOK HTW HDZ hns
                generalize (if a2 = true then bsL (dL i c ++ dL i c) else bsL (dL i c)) = DD at *
                rw [hR] at HS
                clear hR
                rcases hnp with hi0 | ⟨hi0, h10, h61, h35, h32, h9⟩
                · clear hg
                  have hi1 : (i : Int) < 1 := by omega
                  go_wp2_with fail
                  refine (HS.out _).mono ?_; rintro e w1 ⟨pA, cA, rfl, b1, b2, iA, hb1⟩
                  have hb2 := BelowOn BC hb1
                  clear iA b1 b2
                  go_wp2_with fail
                  refine (HK.out _).mono ?_; rintro e w4 ⟨rfl, hb4⟩
                  go_wp2_with fail
                  go_ret
                  exact ⟨rfl, BelowOn hb2 hb4⟩
                · have hi1 : ¬ (i : Int) < 1 := by omega
                  by_cases h64 : (64 : Int) < (i : Int)
                  · clear hg
                    go_wp2_with fail
                    refine (HS.out _).mono ?_; rintro e w1 ⟨pA, cA, rfl, b1, b2, iA, hb1⟩
                    have hb2 := BelowOn BC hb1
                    clear iA b1 b2
                    go_wp2_with fail
                    refine (HK.out _).mono ?_; rintro e w4 ⟨rfl, hb4⟩
                    go_wp2_with fail
                    go_ret
                    exact ⟨rfl, BelowOn hb2 hb4⟩
                  · have hkf : keyB c = false := by
                      cases hk0 : keyB c
                      · rfl
                      · rw [hk0, decide_eq_true (show 1 ≤ i by omega), decide_eq_true (show i ≤ 64 by omega)] at hg; cases hg
                    clear hg
                    rw [hkf]
                    clear hkf
                    go_wp2_with fail
                    refine (HS.out _).mono ?_; rintro e w1 ⟨pA, cA, rfl, b1, b2, iA, hb1⟩
                    have hb2 := BelowOn BC hb1
                    clear iA b1 b2
                    go_wp2_with fail
                    refine (HK.out _).mono ?_; rintro e w4 ⟨rfl, hb4⟩
                    go_wp2_with fail
                    go_ret
                    exact ⟨rfl, BelowOn hb2 hb4⟩
              · have hg1 : 1 ≤ i ∧ keyB c = true ∧ i ≤ 64 := by
                  simp only [Bool.and_eq_false_iff, decide_eq_false_iff_not, not_or, Bool.not_eq_false, Decidable.not_not] at hg
                  exact ⟨hg.1.1, hg.1.2, hg.2⟩
                obtain ⟨j1, jk, j64⟩ := hg1
                have hs0 := hns j1
                clear hg hns HBD
                rcases hnp with hi0 | ⟨hi0, h10, h61, h35, h32, h9⟩
                · exact absurd (by omega) hi0
                have hi1 : ¬ (i : Int) < 1 := by omega
                have h64 : ¬ (64 : Int) < (i : Int) := by omega
                have hR := HTW.out hs0 j1 j64 jk
                obtain ⟨pa, pz, hR0⟩ := HOK.out hs0 j1 j64 jk
                clear HOK HTW hs0
                rw [jk]
                clear jk
                cases a2
                · simp only [Bool.false_eq_true, if_false] at *
                  clear hR HDZ
                  generalize bsL (dL i c) = DD at *
                  rw [hR0] at HS
                  clear hR0
                  go_wp2_with fail
                  refine (HS.out _).mono ?_; rintro e w1 ⟨pA, cA, rfl, b1, b2, iA, hb1⟩
                  have hb2 := BelowOn BC hb1
                  obtain ⟨a, rfl, hlt, k0, k1, k2⟩ := iA.row 1 (show 1 < 3 by omega)
                  clear k0 k2 iA
                  have k1' : w1.cell? ⟨a.block, a.off + 3 + 1, none⟩ = some (.string (bsL (kL i c))) := by
                    have := k1
                    unfold Addr.add at this; simpa using this
                  clear k1
                  go_wp2_with fail
                  refine (HK.out _).mono ?_; rintro e w4 ⟨rfl, hb4⟩
                  go_wp2_with fail
                  go_ret
                  exact ⟨rfl, BelowOn hb2 hb4⟩
                · simp only [if_true] at *
                  clear hR0
                  have hsz := HDZ.out
                  clear HDZ
                  generalize bsL (dL i c ++ dL i c) = DD at *
                  rw [hR] at HS
                  clear hR
                  have hq : (i : Int) + 3 = wrap64 ((DD.size : Int) / 2) := by
                    rw [hsz]; unfold wrap64; omega
                  clear hsz
                  go_wp2_with fail
                  refine (HS.out _).mono ?_; rintro e w1 ⟨pA, cA, rfl, b1, b2, iA, hb1⟩
                  have hb2 := BelowOn BC hb1
                  clear iA b1 b2
                  go_wp2_with fail
                  refine (HK.out _).mono ?_; rintro e w4 ⟨rfl, hb4⟩
                  go_wp2_with fail
                  go_ret
                  exact ⟨rfl, BelowOn hb2 hb4⟩
end Go.Proofs.YtdbbjhbkhimbfaaDoor
