/- Contracts of the reference's Check and Validate. -/
import Derived.Test.YtphkpokoeaagfaaGreatDoorVld
import Derived.BigQuiet
import Derived.Deep.QuietTactic
namespace Go.Proofs.YtphkpokoeaagfaaGreatDoor
open Go.ChangeShapes Go.WideShapes Go.ChangeAt Go.RowKit
set_option linter.unusedVariables false
set_option maxRecDepth 100000

theorem Var3.drewN {W : World} {b : Nat} {k id : Int} {t : ByteArray} (h : Var3 W b k t id) (n : Nat) : Var3 (W.drewN n) b k t id := ⟨h.c0, h.c1, h.c2, h.lt⟩
theorem bdrewN {b : Nat} {w w' : World} (h : Below b w w') (n : Nat) : Below b w (w'.drewN n) := ⟨h.os, h.tape, h.output, h.size, h.block⟩
def chkE (b : Bool) (P : List It) (x : It) : Int := if b = false then 1 else if tagBad P x = true then 7 else 0
theorem chkE_1 (P : List It) (x : It) : chkE false P x = 1 := rfl
theorem chkE_7 {P : List It} {x : It} (h : tagBad P x = true) : chkE true P x = 7 := by unfold chkE; rw [if_neg (by simp), if_pos h]
theorem chkE_0 {P : List It} {x : It} (h : tagBad P x = false) : chkE true P x = 0 := by unfold chkE; rw [if_neg (by simp), if_neg (by simp [h])]
/-- The loop of Check: the tags ahead. -/
theorem tagBad_yes (P : List It) (x : It) (k : Nat) (hk : k < P.length) (h : clash x (P[k]'hk) = true) : tagBad P x = true := by
  unfold tagBad; rw [List.any_eq_true]; exact ⟨_, List.getElem_mem hk, h⟩
theorem tagBad_no (P : List It) (x : It) (h : ∀ j (hj : j < P.length), clash x (P[j]'hj) = false) : tagBad P x = false := by
  unfold tagBad; rw [List.any_eq_false]
  intro y hy
  obtain ⟨j, hj, rfl⟩ := List.getElem_of_mem hy
  rw [h j hj]; simp
theorem rname_q (s : ByteArray) (w : World) (n : Nat) (hs : s.size ≤ maxLen) : Calls Tryz.prog 31 #[.string s] (w.drewN n) fun e w' => e = .returned (.string (nameB s)) ∧ w' = w.drewN n :=
  (rname_any s (w.drewN n) hs).mono fun e w' ⟨he, hw⟩ => ⟨he, hw.symm⟩

set_option maxHeartbeats 3200000 in
theorem check3 (p : Option Addr) (cap : Nat) (P : List It) (x : It) (w : World) (hk0 : x.k = 3) (hR : Its w p P) (hO : Oks P) (hc : P.length ≤ cap) (hm : cap ≤ maxLen) (hx : x.ok) :
    Calls Tryz.prog 75 #[.slice p P.length cap, .agg #[.int .i64 3, .string x.t, .int .i64 x.id]] w fun e w' => e = .returned (.int .i64 (chkE (isNm x.t && numB x.id) P x)) ∧ Below w.heap.size w w' := by
  have ht := fun w => risname_any x.t w (by have := hx.t; unfold maxLen; omega)
  unfold maxLen at hm
  cases hcon : isNm x.t
  · rw [hcon] at ht
    have HT := Lib.hid ht; clear ht hcon
    go_enter Tryz.func75, Tryz.ntmps75
    go_wp2_with fail
    refine (HT.out _).mono ?_; rintro e w2 ⟨rfl, rfl⟩
    go_wp2_with fail
    go_ret
    exact ⟨by rw [Bool.false_and, chkE_1]; rfl, blw (Below.refl _ _) _⟩
  rw [hcon] at ht
  have HCON := Lib.hid ht; clear ht hcon
  cases hn : numB x.id
  · have hn' : x.id < 1 ∨ 999 < x.id := by unfold numB at hn; simp at hn; omega
    rcases hn' with h1 | h1
    · have a1 : decide (x.id < 1) = true := by simpa using h1
      clear hn
      go_enter Tryz.func75, Tryz.ntmps75
      go_wp2_with fail
      refine (HCON.out _).mono ?_; rintro e w2 ⟨rfl, rfl⟩
      go_wp2_with fail
      go_ret
      exact ⟨by rw [Bool.and_false, chkE_1]; rfl, blw (Below.refl _ _) _⟩
    · have a1 : decide (x.id < 1) = false := by simp; omega
      have a2 : decide (999 < x.id) = true := by simpa using h1
      clear hn
      go_enter Tryz.func75, Tryz.ntmps75
      go_wp2_with fail
      refine (HCON.out _).mono ?_; rintro e w2 ⟨rfl, rfl⟩
      go_wp2_with fail
      go_ret
      exact ⟨by rw [Bool.and_false, chkE_1]; rfl, blw (Below.refl _ _) _⟩
  · have hn' : 1 ≤ x.id ∧ x.id ≤ 999 := by unfold numB at hn; simpa using hn
    have a1 : decide (x.id < 1) = false := by simp; omega
    have a2 : decide (999 < x.id) = false := by simp; omega
    clear hn
    have h3 : x.k = 3 := by omega
    rw [Bool.and_self]
    go_enter Tryz.func75, Tryz.ntmps75
    go_wp2_with fail
    refine (HCON.out _).mono ?_; rintro e w2 ⟨rfl, rfl⟩
    go_wp2_with fail
    go_loopw [80] (fun i wr => ∃ k : Nat, k ≤ P.length ∧ i = .int .i64 k ∧ Below w.heap.size w wr ∧ Var3 wr w.heap.size 3 x.t x.id ∧ Hid (∀ j (hj : j < P.length), j < k → clash x (P[j]'hj) = false)) (fun i _ => P.length - (intOf i).toNat)
    case atStart => exact ⟨0, by omega, rfl, blw (Below.refl _ _) _, Var3.new _ _ _ _, Lib.hid (fun j _ hj => by omega)⟩
    case round =>
      obtain ⟨k, hk, rfl, hB, hVx, HK⟩ := hrel
      by_cases hlt : k < P.length
      · obtain ⟨ad, rfl, had, c0, c1, c2⟩ := (hR.call hB).row k hlt
        have hy := hO k hlt
        have hyes := tagBad_yes P x k hlt
        have hcl : clash x P[k] = (isT P[k].k && decide (P[k].id = x.id) && !(decide (x.k = 3) && decide (P[k].k = 2) && decide (nameB P[k].t = x.t))) := rfl
        have htg := fun w => ristag_any P[k].k P[k].t P[k].id w
        have hnm := fun w n => rname_q P[k].t w n (by have := hy.t; unfold maxLen; omega)
        have hnext : clash x P[k] = false → ∀ j (hj : j < P.length), j < k + 1 → clash x (P[j]'hj) = false := fun h j hj hj1 => by
          by_cases e : j = k
          · subst e; exact h
          · exact HK.out j hj (by omega)
        obtain ⟨x0, x1, x2, xl⟩ := id hVx
        generalize P[k] = y at *
        have HY := Lib.hid hyes; have HN := Lib.hid hnext
        clear hyes hnext hy
        cases hty : isT y.k
        · rw [hty] at htg hcl
          have HT := Lib.hid htg; have HC := Lib.hid (show clash x y = false by rw [hcl]; simp)
          clear htg hcl hty hnm
          go_wp2_with fail
          refine (HT.out _).mono ?_; rintro e w2 ⟨rfl, hb2⟩
          have hV2 := (hVx.alloc (.cells #[.int .i64 y.k, .string y.t, .int .i64 y.id] 62)).call hb2
          clear x0 x1 x2 xl
          go_wp2_with fail
          go_roundw
          case rel => exact ⟨k + 1, hlt, by go_num, BelowOn (blw hB _) hb2, hV2, Lib.hid (HN.out HC.out)⟩
          case measure => simp [intOf]; omega
        rw [hty] at htg hcl
        have HT := Lib.hid htg; clear htg hty
        by_cases hid : y.id = x.id
        · have qi : (y.id != x.id) = false := by simp [hid]
          have qi' : (y.id == x.id) = true := by simp [hid]
          rw [show decide (y.id = x.id) = true by simp [hid]] at hcl
          by_cases h2 : y.k = 2
          · have q2 : (y.k != 2) = false := by simp [h2]
            by_cases hnn : nameB y.t = x.t
            · have qn : ((nameB y.t).toList == x.t.toList) = true := strl_eq hnn
              have HC := Lib.hid (show clash x y = false by rw [hcl]; simp [h3, h2, hnn])
              have HNM := Lib.hid hnm
              clear hcl hid hnm hnn h2
              generalize nameB y.t = ny at *
              go_wp2_with fail
              refine (HT.out _).mono ?_; rintro e w2 ⟨rfl, hb2⟩
              have hV2 := (hVx.alloc (.cells #[.int .i64 y.k, .string y.t, .int .i64 y.id] 62)).call hb2
              have hVy := (Var3.new wr y.k y.t y.id).call hb2
              clear x0 x1 x2 xl
              obtain ⟨x0, x1, x2, xl⟩ := id hV2
              obtain ⟨y0, y1, y2, yl⟩ := id hVy
              go_wp2_with fail
              go_quiet ((go_at_call 31; exact Calls.quiet_of_same (HNM.out _ _)))
              go_wp2_with fail
              go_roundw
              case rel => exact ⟨k + 1, hlt, by go_num, bdrewN (BelowOn (blw hB _) hb2) _, hV2.drewN _, Lib.hid (HN.out HC.out)⟩
              case measure => simp [intOf]; omega
            · have qn : ((nameB y.t).toList == x.t.toList) = false := strl_ne hnn
              have HC := Lib.hid (HY.out (show clash x y = true by rw [hcl]; simp [hnn]))
              have HNM := Lib.hid hnm
              clear hcl hid hnm hnn h2
              generalize nameB y.t = ny at *
              go_wp2_with fail
              refine (HT.out _).mono ?_; rintro e w2 ⟨rfl, hb2⟩
              have hV2 := (hVx.alloc (.cells #[.int .i64 y.k, .string y.t, .int .i64 y.id] 62)).call hb2
              have hVy := (Var3.new wr y.k y.t y.id).call hb2
              clear x0 x1 x2 xl
              obtain ⟨x0, x1, x2, xl⟩ := id hV2
              obtain ⟨y0, y1, y2, yl⟩ := id hVy
              go_wp2_with fail
              go_quiet ((go_at_call 31; exact Calls.quiet_of_same (HNM.out _ _)))
              go_wp2_with fail
              go_ret
              exact ⟨by rw [chkE_7 HC.out]; rfl, bdrewN (BelowOn (blw hB _) hb2) _⟩
          · have q2 : (y.k != 2) = true := by simpa using h2
            have HC := Lib.hid (HY.out (show clash x y = true by rw [hcl]; simp [h2]))
            clear hcl hid hnm h2
            go_wp2_with fail
            refine (HT.out _).mono ?_; rintro e w2 ⟨rfl, hb2⟩
            have hV2 := (hVx.alloc (.cells #[.int .i64 y.k, .string y.t, .int .i64 y.id] 62)).call hb2
            have hVy := (Var3.new wr y.k y.t y.id).call hb2
            clear x0 x1 x2 xl
            obtain ⟨x0, x1, x2, xl⟩ := id hV2
            obtain ⟨y0, y1, y2, yl⟩ := id hVy
            go_wp2_with fail
            go_quiet (fail)
            go_wp2_with fail
            go_ret
            exact ⟨by rw [chkE_7 HC.out]; rfl, bdrewN (BelowOn (blw hB _) hb2) _⟩
        · have qi : (y.id != x.id) = true := by simpa using hid
          have HC := Lib.hid (show clash x y = false by rw [hcl]; simp [hid])
          clear hcl hid hnm
          go_wp2_with fail
          refine (HT.out _).mono ?_; rintro e w2 ⟨rfl, hb2⟩
          have hV2 := (hVx.alloc (.cells #[.int .i64 y.k, .string y.t, .int .i64 y.id] 62)).call hb2
          have hVy := (Var3.new wr y.k y.t y.id).call hb2
          clear x0 x1 x2 xl
          obtain ⟨x0, x1, x2, xl⟩ := id hV2
          obtain ⟨y0, y1, y2, yl⟩ := id hVy
          go_wp2_with fail
          go_roundw
          case rel => exact ⟨k + 1, hlt, by go_num, BelowOn (blw hB _) hb2, hV2, Lib.hid (HN.out HC.out)⟩
          case measure => simp [intOf]; omega
      · obtain rfl : k = P.length := by omega
        have hno := tagBad_no P x (fun j hj => HK.out j hj hj)
        have HNO := Lib.hid hno
        clear hno
        go_wp2_with fail
        go_ret
        exact ⟨by rw [chkE_0 HNO.out]; rfl, hB⟩

set_option maxHeartbeats 3200000 in
theorem check2 (p : Option Addr) (cap : Nat) (P : List It) (x : It) (w : World) (hk0 : x.k = 2) (hR : Its w p P) (hO : Oks P) (hc : P.length ≤ cap) (hm : cap ≤ maxLen) (hx : x.ok) :
    Calls Tryz.prog 75 #[.slice p P.length cap, .agg #[.int .i64 2, .string x.t, .int .i64 x.id]] w fun e w' => e = .returned (.int .i64 (chkE (isCon x.t && numB x.id) P x)) ∧ Below w.heap.size w w' := by
  have ht := fun w => riscontent_any x.t w (by have := hx.t; unfold maxLen; omega)
  unfold maxLen at hm
  cases hcon : isCon x.t
  · rw [hcon] at ht
    have HT := Lib.hid ht; clear ht hcon
    go_enter Tryz.func75, Tryz.ntmps75
    go_wp2_with fail
    refine (HT.out _).mono ?_; rintro e w2 ⟨rfl, rfl⟩
    go_wp2_with fail
    go_ret
    exact ⟨by rw [Bool.false_and, chkE_1]; rfl, blw (Below.refl _ _) _⟩
  rw [hcon] at ht
  have HCON := Lib.hid ht; clear ht hcon
  cases hn : numB x.id
  · have hn' : x.id < 1 ∨ 999 < x.id := by unfold numB at hn; simp at hn; omega
    rcases hn' with h1 | h1
    · have a1 : decide (x.id < 1) = true := by simpa using h1
      clear hn
      go_enter Tryz.func75, Tryz.ntmps75
      go_wp2_with fail
      refine (HCON.out _).mono ?_; rintro e w2 ⟨rfl, rfl⟩
      go_wp2_with fail
      go_ret
      exact ⟨by rw [Bool.and_false, chkE_1]; rfl, blw (Below.refl _ _) _⟩
    · have a1 : decide (x.id < 1) = false := by simp; omega
      have a2 : decide (999 < x.id) = true := by simpa using h1
      clear hn
      go_enter Tryz.func75, Tryz.ntmps75
      go_wp2_with fail
      refine (HCON.out _).mono ?_; rintro e w2 ⟨rfl, rfl⟩
      go_wp2_with fail
      go_ret
      exact ⟨by rw [Bool.and_false, chkE_1]; rfl, blw (Below.refl _ _) _⟩
  · have hn' : 1 ≤ x.id ∧ x.id ≤ 999 := by unfold numB at hn; simpa using hn
    have a1 : decide (x.id < 1) = false := by simp; omega
    have a2 : decide (999 < x.id) = false := by simp; omega
    clear hn
    have h3 : ¬ x.k = 3 := by omega
    rw [Bool.and_self]
    go_enter Tryz.func75, Tryz.ntmps75
    go_wp2_with fail
    refine (HCON.out _).mono ?_; rintro e w2 ⟨rfl, rfl⟩
    go_wp2_with fail
    go_loopw [80] (fun i wr => ∃ k : Nat, k ≤ P.length ∧ i = .int .i64 k ∧ Below w.heap.size w wr ∧ Var3 wr w.heap.size 2 x.t x.id ∧ Hid (∀ j (hj : j < P.length), j < k → clash x (P[j]'hj) = false)) (fun i _ => P.length - (intOf i).toNat)
    case atStart => exact ⟨0, by omega, rfl, blw (Below.refl _ _) _, Var3.new _ _ _ _, Lib.hid (fun j _ hj => by omega)⟩
    case round =>
      obtain ⟨k, hk, rfl, hB, hVx, HK⟩ := hrel
      by_cases hlt : k < P.length
      · obtain ⟨ad, rfl, had, c0, c1, c2⟩ := (hR.call hB).row k hlt
        have hy := hO k hlt
        have hyes := tagBad_yes P x k hlt
        have hcl : clash x P[k] = (isT P[k].k && decide (P[k].id = x.id) && !(decide (x.k = 3) && decide (P[k].k = 2) && decide (nameB P[k].t = x.t))) := rfl
        have htg := fun w => ristag_any P[k].k P[k].t P[k].id w
        have hnm := fun w n => rname_q P[k].t w n (by have := hy.t; unfold maxLen; omega)
        have hnext : clash x P[k] = false → ∀ j (hj : j < P.length), j < k + 1 → clash x (P[j]'hj) = false := fun h j hj hj1 => by
          by_cases e : j = k
          · subst e; exact h
          · exact HK.out j hj (by omega)
        obtain ⟨x0, x1, x2, xl⟩ := id hVx
        generalize P[k] = y at *
        have HY := Lib.hid hyes; have HN := Lib.hid hnext
        clear hyes hnext hy
        cases hty : isT y.k
        · rw [hty] at htg hcl
          have HT := Lib.hid htg; have HC := Lib.hid (show clash x y = false by rw [hcl]; simp)
          clear htg hcl hty hnm
          go_wp2_with fail
          refine (HT.out _).mono ?_; rintro e w2 ⟨rfl, hb2⟩
          have hV2 := (hVx.alloc (.cells #[.int .i64 y.k, .string y.t, .int .i64 y.id] 62)).call hb2
          clear x0 x1 x2 xl
          go_wp2_with fail
          go_roundw
          case rel => exact ⟨k + 1, hlt, by go_num, BelowOn (blw hB _) hb2, hV2, Lib.hid (HN.out HC.out)⟩
          case measure => simp [intOf]; omega
        rw [hty] at htg hcl
        have HT := Lib.hid htg; clear htg hty
        by_cases hid : y.id = x.id
        · have qi : (y.id != x.id) = false := by simp [hid]
          have qi' : (y.id == x.id) = true := by simp [hid]
          rw [show decide (y.id = x.id) = true by simp [hid]] at hcl
          have hcl' : clash x y = true := by rw [hcl]; simp [h3]
          have HC := Lib.hid (HY.out hcl')
          clear hcl hid hcl' hnm
          go_wp2_with fail
          refine (HT.out _).mono ?_; rintro e w2 ⟨rfl, hb2⟩
          have hV2 := (hVx.alloc (.cells #[.int .i64 y.k, .string y.t, .int .i64 y.id] 62)).call hb2
          have hVy := (Var3.new wr y.k y.t y.id).call hb2
          clear x0 x1 x2 xl
          obtain ⟨x0, x1, x2, xl⟩ := id hV2
          obtain ⟨y0, y1, y2, yl⟩ := id hVy
          go_wp2_with fail
          go_quiet (fail)
          go_wp2_with fail
          go_ret
          exact ⟨by rw [chkE_7 HC.out]; rfl, bdrewN (BelowOn (blw hB _) hb2) _⟩
        · have qi : (y.id != x.id) = true := by simpa using hid
          have HC := Lib.hid (show clash x y = false by rw [hcl]; simp [hid])
          clear hcl hid hnm
          go_wp2_with fail
          refine (HT.out _).mono ?_; rintro e w2 ⟨rfl, hb2⟩
          have hV2 := (hVx.alloc (.cells #[.int .i64 y.k, .string y.t, .int .i64 y.id] 62)).call hb2
          have hVy := (Var3.new wr y.k y.t y.id).call hb2
          clear x0 x1 x2 xl
          obtain ⟨x0, x1, x2, xl⟩ := id hV2
          obtain ⟨y0, y1, y2, yl⟩ := id hVy
          go_wp2_with fail
          go_roundw
          case rel => exact ⟨k + 1, hlt, by go_num, BelowOn (blw hB _) hb2, hV2, Lib.hid (HN.out HC.out)⟩
          case measure => simp [intOf]; omega
      · obtain rfl : k = P.length := by omega
        have hno := tagBad_no P x (fun j hj => HK.out j hj hj)
        have HNO := Lib.hid hno
        clear hno
        go_wp2_with fail
        go_ret
        exact ⟨by rw [chkE_0 HNO.out]; rfl, hB⟩

set_option maxHeartbeats 3200000 in
theorem check4 (p : Option Addr) (cap : Nat) (P : List It) (x : It) (w : World) (hk0 : x.k = 4) (hR : Its w p P) (hO : Oks P) (hc : P.length ≤ cap) (hm : cap ≤ maxLen) (hx : x.ok) :
    Calls Tryz.prog 75 #[.slice p P.length cap, .agg #[.int .i64 4, .string x.t, .int .i64 x.id]] w fun e w' => e = .returned (.int .i64 (chkE (isCon x.t && numB x.id) P x)) ∧ Below w.heap.size w w' := by
  have ht := fun w => riscontent_any x.t w (by have := hx.t; unfold maxLen; omega)
  unfold maxLen at hm
  cases hcon : isCon x.t
  · rw [hcon] at ht
    have HT := Lib.hid ht; clear ht hcon
    go_enter Tryz.func75, Tryz.ntmps75
    go_wp2_with fail
    refine (HT.out _).mono ?_; rintro e w2 ⟨rfl, rfl⟩
    go_wp2_with fail
    go_ret
    exact ⟨by rw [Bool.false_and, chkE_1]; rfl, blw (Below.refl _ _) _⟩
  rw [hcon] at ht
  have HCON := Lib.hid ht; clear ht hcon
  cases hn : numB x.id
  · have hn' : x.id < 1 ∨ 999 < x.id := by unfold numB at hn; simp at hn; omega
    rcases hn' with h1 | h1
    · have a1 : decide (x.id < 1) = true := by simpa using h1
      clear hn
      go_enter Tryz.func75, Tryz.ntmps75
      go_wp2_with fail
      refine (HCON.out _).mono ?_; rintro e w2 ⟨rfl, rfl⟩
      go_wp2_with fail
      go_ret
      exact ⟨by rw [Bool.and_false, chkE_1]; rfl, blw (Below.refl _ _) _⟩
    · have a1 : decide (x.id < 1) = false := by simp; omega
      have a2 : decide (999 < x.id) = true := by simpa using h1
      clear hn
      go_enter Tryz.func75, Tryz.ntmps75
      go_wp2_with fail
      refine (HCON.out _).mono ?_; rintro e w2 ⟨rfl, rfl⟩
      go_wp2_with fail
      go_ret
      exact ⟨by rw [Bool.and_false, chkE_1]; rfl, blw (Below.refl _ _) _⟩
  · have hn' : 1 ≤ x.id ∧ x.id ≤ 999 := by unfold numB at hn; simpa using hn
    have a1 : decide (x.id < 1) = false := by simp; omega
    have a2 : decide (999 < x.id) = false := by simp; omega
    clear hn
    have h3 : ¬ x.k = 3 := by omega
    rw [Bool.and_self]
    go_enter Tryz.func75, Tryz.ntmps75
    go_wp2_with fail
    refine (HCON.out _).mono ?_; rintro e w2 ⟨rfl, rfl⟩
    go_wp2_with fail
    go_loopw [80] (fun i wr => ∃ k : Nat, k ≤ P.length ∧ i = .int .i64 k ∧ Below w.heap.size w wr ∧ Var3 wr w.heap.size 4 x.t x.id ∧ Hid (∀ j (hj : j < P.length), j < k → clash x (P[j]'hj) = false)) (fun i _ => P.length - (intOf i).toNat)
    case atStart => exact ⟨0, by omega, rfl, blw (Below.refl _ _) _, Var3.new _ _ _ _, Lib.hid (fun j _ hj => by omega)⟩
    case round =>
      obtain ⟨k, hk, rfl, hB, hVx, HK⟩ := hrel
      by_cases hlt : k < P.length
      · obtain ⟨ad, rfl, had, c0, c1, c2⟩ := (hR.call hB).row k hlt
        have hy := hO k hlt
        have hyes := tagBad_yes P x k hlt
        have hcl : clash x P[k] = (isT P[k].k && decide (P[k].id = x.id) && !(decide (x.k = 3) && decide (P[k].k = 2) && decide (nameB P[k].t = x.t))) := rfl
        have htg := fun w => ristag_any P[k].k P[k].t P[k].id w
        have hnm := fun w n => rname_q P[k].t w n (by have := hy.t; unfold maxLen; omega)
        have hnext : clash x P[k] = false → ∀ j (hj : j < P.length), j < k + 1 → clash x (P[j]'hj) = false := fun h j hj hj1 => by
          by_cases e : j = k
          · subst e; exact h
          · exact HK.out j hj (by omega)
        obtain ⟨x0, x1, x2, xl⟩ := id hVx
        generalize P[k] = y at *
        have HY := Lib.hid hyes; have HN := Lib.hid hnext
        clear hyes hnext hy
        cases hty : isT y.k
        · rw [hty] at htg hcl
          have HT := Lib.hid htg; have HC := Lib.hid (show clash x y = false by rw [hcl]; simp)
          clear htg hcl hty hnm
          go_wp2_with fail
          refine (HT.out _).mono ?_; rintro e w2 ⟨rfl, hb2⟩
          have hV2 := (hVx.alloc (.cells #[.int .i64 y.k, .string y.t, .int .i64 y.id] 62)).call hb2
          clear x0 x1 x2 xl
          go_wp2_with fail
          go_roundw
          case rel => exact ⟨k + 1, hlt, by go_num, BelowOn (blw hB _) hb2, hV2, Lib.hid (HN.out HC.out)⟩
          case measure => simp [intOf]; omega
        rw [hty] at htg hcl
        have HT := Lib.hid htg; clear htg hty
        by_cases hid : y.id = x.id
        · have qi : (y.id != x.id) = false := by simp [hid]
          have qi' : (y.id == x.id) = true := by simp [hid]
          rw [show decide (y.id = x.id) = true by simp [hid]] at hcl
          have hcl' : clash x y = true := by rw [hcl]; simp [h3]
          have HC := Lib.hid (HY.out hcl')
          clear hcl hid hcl' hnm
          go_wp2_with fail
          refine (HT.out _).mono ?_; rintro e w2 ⟨rfl, hb2⟩
          have hV2 := (hVx.alloc (.cells #[.int .i64 y.k, .string y.t, .int .i64 y.id] 62)).call hb2
          have hVy := (Var3.new wr y.k y.t y.id).call hb2
          clear x0 x1 x2 xl
          obtain ⟨x0, x1, x2, xl⟩ := id hV2
          obtain ⟨y0, y1, y2, yl⟩ := id hVy
          go_wp2_with fail
          go_quiet (fail)
          go_wp2_with fail
          go_ret
          exact ⟨by rw [chkE_7 HC.out]; rfl, bdrewN (BelowOn (blw hB _) hb2) _⟩
        · have qi : (y.id != x.id) = true := by simpa using hid
          have HC := Lib.hid (show clash x y = false by rw [hcl]; simp [hid])
          clear hcl hid hnm
          go_wp2_with fail
          refine (HT.out _).mono ?_; rintro e w2 ⟨rfl, hb2⟩
          have hV2 := (hVx.alloc (.cells #[.int .i64 y.k, .string y.t, .int .i64 y.id] 62)).call hb2
          have hVy := (Var3.new wr y.k y.t y.id).call hb2
          clear x0 x1 x2 xl
          obtain ⟨x0, x1, x2, xl⟩ := id hV2
          obtain ⟨y0, y1, y2, yl⟩ := id hVy
          go_wp2_with fail
          go_roundw
          case rel => exact ⟨k + 1, hlt, by go_num, BelowOn (blw hB _) hb2, hV2, Lib.hid (HN.out HC.out)⟩
          case measure => simp [intOf]; omega
      · obtain rfl : k = P.length := by omega
        have hno := tagBad_no P x (fun j hj => HK.out j hj hj)
        have HNO := Lib.hid hno
        clear hno
        go_wp2_with fail
        go_ret
        exact ⟨by rw [chkE_0 HNO.out]; rfl, hB⟩
end Go.Proofs.YtphkpokoeaagfaaGreatDoor
