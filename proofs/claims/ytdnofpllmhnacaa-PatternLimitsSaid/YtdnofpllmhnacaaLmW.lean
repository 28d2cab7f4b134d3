/- The walk of PatternLimits. -/
import Derived.Test.YtdnofpllmhnacaaVdt
import Derived.Test.YtdnofpllmhnacaaJnW
namespace Go.Proofs.Ytdnofpllmhnacaa
open Go.ChangeShapes Go.WideShapes Go.ChangeAt Go.RowKit Go.Sort
set_option linter.unusedVariables false
set_option linter.unusedSimpArgs false
set_option maxRecDepth 100000

theorem made_zero (n : Nat) : madeCells zeroAt.cs.toArray (n * 34) = (ca (List.replicate n zeroAt)).toArray := by
  have hl : (ca (List.replicate n zeroAt)).length = n * 34 := by rw [ca_len, List.length_replicate]
  apply Array.ext
  · rw [size_madeCells]; simp [hl]
  · intro j h1 h2
    rw [size_madeCells] at h1
    unfold madeCells
    have hj : j / 34 < (List.replicate n zeroAt).length := by rw [List.length_replicate]; omega
    have hk : j % 34 < zeroAt.cs.length := by rw [At.cs_length]; omega
    have h := ca_at (List.replicate n zeroAt) (j / 34) hj (j % 34) (zeroAt.cs[j % 34]'hk) (by rw [List.getElem_replicate]; exact List.getElem?_eq_getElem hk)
    rw [show j / 34 * 34 + j % 34 = j by omega] at h
    have h3 : (ca (List.replicate n zeroAt))[j]? = some ((ca (List.replicate n zeroAt))[j]'(by omega)) := List.getElem?_eq_getElem (by omega)
    rw [h3] at h
    have h4 := Option.some.inj h
    simp only [Array.getElem_map, Array.getElem_range, List.getElem_toArray, List.size_toArray, At.cs_length]
    rw [h4, getElem!_pos zeroAt.cs.toArray (j % 34) (by simpa using hk)]
    simp
theorem make_atoms (w : World) (n : Nat) (hn : n ≤ 1000) : (Instr.makeSlice 26 (.int .i64 (n : Int)) (.int .i64 (n : Int))).run Try.prog w = .ok (.slice (some ⟨w.heap.size, 0, none⟩) n n) (w.alloc (.cells (ca (List.replicate n zeroAt)).toArray 37)) := by
  obtain ⟨i, hi, hz, hs, hb⟩ := info37'
  have := run_make (P := Try.prog) w 26 37 i _ Try.underlying26 hi hz .i64 .i64 (n : Int) (n : Int) (by omega) (by omega) (by rw [hb]; omega) (by omega)
  rw [this, hs, show ((n : Int)).toNat = n by omega, ← made_zero]
  rfl
theorem own_zero (w : World) (n : Nat) (hn : n ≤ 1000) : OwA w.heap.size (List.replicate n zeroAt) (.slice (some ⟨w.heap.size, 0, none⟩) n n) (w.alloc (.cells (ca (List.replicate n zeroAt)).toArray 37)) := by
  refine ⟨ca_len _, .inr ⟨w.heap.size, n, _, by rw [List.length_replicate], Nat.le_refl _, heap_alloc_new w _, by rw [List.length_replicate]; exact Nat.le_refl _, by unfold maxLen; omega, by simp [ca_len], ?_⟩⟩
  rw [List.length_replicate]
  show (ca (List.replicate n zeroAt)).take (n * 34) = _
  rw [List.take_of_length_le (by rw [ca_len, List.length_replicate]; exact Nat.le_refl _)]
/-- The text of k optional letters. -/
def aq : Nat → List Nat
  | 0 => []
  | k + 1 => aq k ++ [97, 63]
theorem aq_len (k : Nat) : (aq k).length = 2 * k := by
  induction k with
  | zero => rfl
  | succ k ih => rw [aq, List.length_append, ih]; simp; omega
theorem lim30 : ((parseF (mkB (aq 30))).1.length = 30 ∧ (parseF (mkB (aq 30))).2 = (0, 0)) ∧ ((parseF (mkB (aq 31))).1.length = 31 ∧ (parseF (mkB (aq 31))).2 = (0, 0)) ∧ ((parseF (mkB (aq 32))).1.length = 32 ∧ (parseF (mkB (aq 32))).2 = (0, 0)) := by decide +kernel
theorem lim33 : (parseF (mkB (aq 33))).2 = (64, 3) ∧ (parseF (mkB (aq 34))).2 = (64, 3) := by decide +kernel
theorem lim_yes (n : Nat) (h : 30 ≤ n) (h2 : n ≤ 32) : (parseF (mkB (aq n))).1.length = n ∧ (parseF (mkB (aq n))).2 = (0, 0) := by
  obtain ⟨h30, h31, h32⟩ := lim30
  rcases (by omega : n = 30 ∨ n = 31 ∨ n = 32) with rfl | rfl | rfl
  · exact h30
  · exact h31
  · exact h32
theorem lim_no (n : Nat) (h : 33 ≤ n) (h2 : n ≤ 34) : (parseF (mkB (aq n))).2 = (64, 3) := by
  rcases (by omega : n = 33 ∨ n = 34) with rfl | rfl
  · exact lim33.1
  · exact lim33.2
theorem val_zero (n : Nat) : valF (List.replicate n zeroAt) = if 32 < n then 3 else 0 := by
  unfold valF
  rw [List.length_replicate]
  by_cases h : 32 < n
  · rw [if_pos h, if_pos h]
  · rw [if_neg h, if_neg h, if_pos]
    rw [List.all_eq_true]
    intro x hx
    rw [(List.mem_replicate.1 hx).2]; rfl

set_option maxHeartbeats 3200000 in
theorem limits_any (a0 : Int) (w : World) (hw : (Lit.int .i64 a0).wf = true) :
    Calls Try.prog 11 #[.int .i64 a0] w fun e w' => e = .returned (.bool true) ∧ Below w.heap.size w w' := by
  have KN := Lib.hid known_any
  obtain ⟨u, hu⟩ : ∃ u : Nat, IntKind.u64.wrap a0 = (u : Int) := by
    have h0 : 0 ≤ IntKind.u64.wrap a0 := by
      simp only [IntKind.wrap, IntKind.bits, IntKind.signed]; simp; omega
    exact ⟨(IntKind.u64.wrap a0).toNat, by omega⟩
  obtain ⟨r, hm, hr5⟩ : ∃ r : Nat, (u : Int).tmod 5 = (r : Int) ∧ r < 5 := by
    refine ⟨u % 5, ?_, by omega⟩
    rw [Int.tmod_eq_emod_of_nonneg (by omega)]; omega
  go_enter Try.func11, Try.ntmps11
  go_upto_region 2 with fail
  clear hu hm
  rw [show (30 : Int) + (r : Int) = ((30 + r : Nat) : Int) by omega]
  obtain ⟨n, hn⟩ : ∃ n, n = 30 + r := ⟨_, rfl⟩
  have hn1 : 30 ≤ n := by omega
  have hn2 : n ≤ 34 := by omega
  rw [← hn]
  clear hn
  go_wp2_with fail
  go_loopw [3, 4] (fun s i wr => ∃ k : Nat, k ≤ n ∧ i = .int .i64 k ∧ s = .string (mkB (aq k)) ∧ w = wr) (fun _ i _ => n - (intOf i).toNat)
  case atStart => exact ⟨0, Nat.zero_le _, rfl, rfl, by first | rfl | trivial⟩
  case round =>
    obtain ⟨k, hk, rfl, rfl, rfl⟩ := hrel
    by_cases hlt : k < n
    · have q0 : decide (k < n) = true := decide_eq_true hlt
      have hs : (mkB (aq k)).size ≤ 100 := by rw [mkB_size, aq_len]; omega
      have hnx : mkB (aq (k + 1)) = mkB (aq k) ++ ⟨#[97, 63]⟩ := by rw [aq, ← mkB_append]; rfl
      have HNX := Lib.hid hnx; clear hnx
      generalize mkB (aq k) = t at *
      go_wp2_with fail
      go_roundw
      case rel => exact ⟨k + 1, hlt, by go_num, by rw [HNX.out], by first | rfl | trivial⟩
      case measure => simp [intOf]; omega
    · obtain rfl : k = n := by omega
      have q0 : decide (k < k) = false := by simp
      have hs : (mkB (aq k)).size ≤ 100 := by rw [mkB_size, aq_len]; omega
      have hp := fun W => parse_any (mkB (aq k)) W (by omega)
      have hy := lim_yes k hn1
      have hno := lim_no k
      have hmk := fun W => make_atoms W k (by omega)
      have hoz := fun W => own_zero W k (by omega)
      have hvl := fun b v W h => @validate_own b (List.replicate k zeroAt) v W h
      rw [val_zero] at hvl
      generalize mkB (aq k) = t at *
      generalize List.replicate k zeroAt = Z at *
      generalize parseF t = R at *
      obtain ⟨P, at_, er⟩ := R
      dsimp only at hy hno
      have HP := Lib.hid hp; have HO := Lib.hid hoz; have HV := Lib.hid hvl; have HM := Lib.hid hmk; clear hp hoz hvl hmk
      by_cases h32 : k ≤ 32
      · obtain ⟨hl, he⟩ := hy h32
        injection he with he1 he2
        subst he1; subst he2
        rw [if_neg (by omega)] at HV
        have ql : ((P.length : Int) == (k : Int)) = true := by rw [hl]; simp
        have q3 : decide ((k : Int) ≤ 32) = true := by simp; omega
        have HL := Lib.hid hl
        clear hno hy hl
        go_wp2_with fail
        refine (HP.out _).mono ?_; rintro e w1 ⟨v, rfl, o1, b1⟩
        obtain ⟨p, c, rfl, hpc, hcm, _, _⟩ := o1.ats
        have B1 := Lib.hid b1; clear b1 o1
        have hmk := HM.out w1
        go_wp2_with fail
        refine (HV.out _ _ _ (HO.out w1)).mono ?_; rintro e w2 ⟨rfl, b2⟩
        have B2 := Lib.hid (BelowOn (blw B1.out _) b2); clear b2 hmk
        go_wp2_with fail
        refine (KN.out _).mono ?_; rintro e w3 ⟨rfl, b3⟩
        have B3 := Lib.hid (BelowOn B2.out b3); clear b3
        go_wp2_with fail
        go_ret
        exact ⟨rfl, B3.out⟩
      · have he := hno (by omega) hn2
        injection he with he1 he2
        subst he1; subst he2
        rw [if_pos (by omega)] at HV
        have q3 : decide ((k : Int) ≤ 32) = false := by simp; omega
        clear hno hy
        go_wp2_with fail
        refine (HP.out _).mono ?_; rintro e w1 ⟨v, rfl, o1, b1⟩
        have B1 := Lib.hid b1; clear b1 o1
        have hmk := HM.out w1
        go_wp2_with fail
        refine (HV.out _ _ _ (HO.out w1)).mono ?_; rintro e w2 ⟨rfl, b2⟩
        have B2 := Lib.hid (BelowOn (blw B1.out _) b2); clear b2 hmk
        go_wp2_with fail
        refine (KN.out _).mono ?_; rintro e w3 ⟨rfl, b3⟩
        have B3 := Lib.hid (BelowOn B2.out b3); clear b3
        go_wp2_with fail
        go_ret
        exact ⟨rfl, B3.out⟩
end Go.Proofs.Ytdnofpllmhnacaa
