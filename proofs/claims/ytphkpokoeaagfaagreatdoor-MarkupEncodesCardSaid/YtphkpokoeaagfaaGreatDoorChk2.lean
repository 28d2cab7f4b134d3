/- The contract of the reference's Check at every kind, and of its Validate. -/
import Derived.Test.YtphkpokoeaagfaaGreatDoorChk
namespace Go.Proofs.YtphkpokoeaagfaaGreatDoor
open Go.ChangeShapes Go.WideShapes Go.ChangeAt Go.RowKit
set_option linter.unusedVariables false
set_option linter.unusedSimpArgs false
set_option maxRecDepth 100000

theorem lastText_at (P : List It) (h : 0 < P.length) : lastText P = decide ((P[P.length - 1]'(by omega)).k = 1) := by
  unfold lastText
  rw [List.getLast?_eq_getElem?, List.getElem?_eq_getElem (by omega)]
theorem errAt_1 (P : List It) (x : It) (h : x.k = 1) : errAt P x = if x.t.size = 0 ∨ x.id ≠ 0 ∨ lastText P = true then 1 else 0 := by
  have ht : isT x.k = false := by rw [h]; rfl
  have hp : properB x = (decide (x.t.size ≠ 0) && decide (x.id = 0)) := by unfold properB; rw [if_pos h]
  unfold errAt
  rw [hp]
  by_cases h1 : x.t.size = 0 <;> by_cases h2 : x.id = 0 <;> by_cases h3 : lastText P = true <;> simp [h, h1, h2, h3, ht]
  all_goals (rw [show isT 1 = false from rfl]; simp)
theorem errAt_5 (P : List It) (x : It) (h : x.k = 5) : errAt P x = if (isNm x.t && decide (x.id = 0)) = false then 1 else 0 := by
  have ht : isT x.k = false := by rw [h]; rfl
  have hp : properB x = (isNm x.t && decide (x.id = 0)) := by unfold properB; rw [if_neg (by omega), if_neg (by omega), if_neg (by omega), if_pos h]
  unfold errAt
  rw [hp, ht]
  cases hb : (isNm x.t && decide (x.id = 0))
  · rw [if_pos (.inl rfl)]; rfl
  · rw [if_neg (by rintro (h' | h'); cases h'; omega), if_neg (by simp)]; rfl
theorem errAt_T (P : List It) (x : It) (b : Bool) (h : isT x.k = true) (hp : properB x = b) : errAt P x = chkE b P x := by
  have h1 : x.k ≠ 1 := by intro e; rw [e] at h; cases h
  unfold errAt chkE
  rw [hp, h]
  cases b
  · rw [if_pos (.inl rfl), if_pos rfl]
  · by_cases hb : tagBad P x = true <;> simp [h1, hb]
theorem errAt_0 (P : List It) (x : It) (h1 : x.k ≠ 1) (h2 : x.k ≠ 2) (h3 : x.k ≠ 3) (h4 : x.k ≠ 4) (h5 : x.k ≠ 5) : errAt P x = 1 := by
  have hp : properB x = false := by unfold properB; rw [if_neg h1, if_neg (by omega), if_neg h3, if_neg h5]
  unfold errAt
  rw [if_pos (.inl hp)]

set_option maxHeartbeats 1600000 in
theorem check_other (p : Option Addr) (cap : Nat) (P : List It) (x : It) (w : World) (hR : Its w p P) (hc : P.length ≤ cap) (hm : cap ≤ maxLen) (hx : x.ok) (ht : isT x.k = false) :
    Calls Tryz.prog 75 #[.slice p P.length cap, .agg #[.int .i64 x.k, .string x.t, .int .i64 x.id]] w fun e w' => e = .returned (.int .i64 (errAt P x)) ∧ Below w.heap.size w w' := by
  unfold maxLen at hm
  by_cases h1 : x.k = 1
  · have q1 : (x.k == 1) = true := by simpa using h1
    have he := errAt_1 P x h1
    by_cases ha : x.t.size = 0
    · have qa := str_none ha
      rw [if_pos (.inl ha)] at he
      have HE := Lib.hid he; clear he h1 ht ha
      go_enter Tryz.func75, Tryz.ntmps75
      go_wp2_with fail
      go_ret
      exact ⟨by rw [HE.out]; rfl, blw (Below.refl _ _) _⟩
    have qa := str_some ha
    by_cases hb : x.id = 0
    · have qb : (x.id != 0) = false := by simp [hb]
      by_cases hn : 0 < P.length
      · have qn : decide (0 < (P.length : Int)) = true := by simp; omega
        obtain ⟨ad, rfl, had, c0, c1, c2⟩ := (hR.call (blw (Below.refl _ _) (.cells #[.int .i64 x.k, .string x.t, .int .i64 x.id] 62))).row (P.length - 1) (by omega)
        have hlt := lastText_at P hn
        generalize P[P.length - 1] = y at *
        have hix : 0 ≤ (P.length : Int) - 1 := by omega
        have hixn : ((P.length : Int) - 1).toNat = P.length - 1 := by omega
        by_cases hy : y.k = 1
        · have qy : (y.k == 1) = true := by simpa using hy
          rw [if_pos (.inr (.inr (by rw [hlt]; simpa using hy)))] at he
          have HE := Lib.hid he; clear he h1 ht ha hb hlt hy
          go_enter Tryz.func75, Tryz.ntmps75
          go_wp2_with fail
          go_ret
          exact ⟨by rw [HE.out]; rfl, blw (Below.refl _ _) _⟩
        · have qy : (y.k == 1) = false := by simpa using hy
          rw [if_neg (by rw [hlt]; simp [ha, hb, hy])] at he
          have HE := Lib.hid he; clear he h1 ht ha hb hlt hy
          go_enter Tryz.func75, Tryz.ntmps75
          go_wp2_with fail
          go_ret
          exact ⟨by rw [HE.out]; rfl, blw (Below.refl _ _) _⟩
      · have qn : decide (0 < (P.length : Int)) = false := decide_eq_false (by omega)
        have hP : P = [] := List.length_eq_zero_iff.1 (show P.length = 0 by omega)
        have hlt : lastText P = false := by rw [hP]; rfl
        rw [if_neg (by rw [hlt]; simp [ha, hb])] at he
        have HE := Lib.hid he; clear he h1 ht ha hb hlt hP
        go_enter Tryz.func75, Tryz.ntmps75
        go_wp2_with fail
        go_ret
        exact ⟨by rw [HE.out]; rfl, blw (Below.refl _ _) _⟩
    · have qb : (x.id != 0) = true := by simpa using hb
      rw [if_pos (.inr (.inl hb))] at he
      have HE := Lib.hid he; clear he h1 ht ha hb
      go_enter Tryz.func75, Tryz.ntmps75
      go_wp2_with fail
      go_ret
      exact ⟨by rw [HE.out]; rfl, blw (Below.refl _ _) _⟩
  have q1 : (x.k == 1) = false := by simpa using h1
  have h234 : x.k ≠ 2 ∧ x.k ≠ 3 ∧ x.k ≠ 4 := by unfold isT at ht; simp at ht; exact ht
  have q2 : (x.k == 2) = false := by simpa using h234.1
  have q3 : (x.k == 3) = false := by simpa using h234.2.1
  have q4 : (x.k == 4) = false := by simpa using h234.2.2
  by_cases h5 : x.k = 5
  · have q5 : (x.k == 5) = true := by simpa using h5
    have he := errAt_5 P x h5
    have hnm := fun w => risname_any x.t w (by have := hx.t; unfold maxLen; omega)
    cases hb : isNm x.t
    · rw [hb] at hnm he
      rw [Bool.false_and, if_pos rfl] at he
      have HE := Lib.hid he; have HN := Lib.hid hnm; clear he hnm h1 ht h234 h5 hb
      go_enter Tryz.func75, Tryz.ntmps75
      go_wp2_with fail
      refine (HN.out _).mono ?_; rintro e w2 ⟨rfl, rfl⟩
      go_wp2_with fail
      go_ret
      exact ⟨by rw [HE.out]; rfl, blw (Below.refl _ _) _⟩
    · rw [hb] at hnm he
      by_cases hi : x.id = 0
      · have qb : (x.id != 0) = false := by simp [hi]
        rw [if_neg (by simp [hi])] at he
        have HE := Lib.hid he; have HN := Lib.hid hnm; clear he hnm h1 ht h234 h5 hb hi
        go_enter Tryz.func75, Tryz.ntmps75
        go_wp2_with fail
        refine (HN.out _).mono ?_; rintro e w2 ⟨rfl, rfl⟩
        go_wp2_with fail
        go_ret
        exact ⟨by rw [HE.out]; rfl, blw (Below.refl _ _) _⟩
      · have qb : (x.id != 0) = true := by simpa using hi
        rw [if_pos (by simp [hi])] at he
        have HE := Lib.hid he; have HN := Lib.hid hnm; clear he hnm h1 ht h234 h5 hb hi
        go_enter Tryz.func75, Tryz.ntmps75
        go_wp2_with fail
        refine (HN.out _).mono ?_; rintro e w2 ⟨rfl, rfl⟩
        go_wp2_with fail
        go_ret
        exact ⟨by rw [HE.out]; rfl, blw (Below.refl _ _) _⟩
  · have q5 : (x.k == 5) = false := by simpa using h5
    have he := errAt_0 P x h1 h234.1 h234.2.1 h234.2.2 h5
    have HE := Lib.hid he; clear he h1 ht h234 h5
    go_enter Tryz.func75, Tryz.ntmps75
    go_wp2_with fail
    go_ret
    exact ⟨by rw [HE.out]; rfl, blw (Below.refl _ _) _⟩
theorem check_any (p : Option Addr) (cap : Nat) (P : List It) (x : It) (w : World) (hR : Its w p P) (hO : Oks P) (hc : P.length ≤ cap) (hm : cap ≤ maxLen) (hx : x.ok) :
    Calls Tryz.prog 75 #[.slice p P.length cap, .agg #[.int .i64 x.k, .string x.t, .int .i64 x.id]] w fun e w' => e = .returned (.int .i64 (errAt P x)) ∧ Below w.heap.size w w' := by
  cases ht : isT x.k
  · exact check_other p cap P x w hR hc hm hx ht
  · have h3 : x.k = 2 ∨ x.k = 3 ∨ x.k = 4 := by unfold isT at ht; simpa using ht
    rcases h3 with h | h | h
    · rw [errAt_T P x (isCon x.t && numB x.id) ht (by unfold properB; rw [if_neg (by omega), if_pos (by omega)])]
      rw [show x.k = 2 from h]
      exact check2 p cap P x w h hR hO hc hm hx
    · rw [errAt_T P x (isNm x.t && numB x.id) ht (by unfold properB; rw [if_neg (by omega), if_neg (by omega), if_pos (by omega)])]
      rw [show x.k = 3 from h]
      exact check3 p cap P x w h hR hO hc hm hx
    · rw [errAt_T P x (isCon x.t && numB x.id) ht (by unfold properB; rw [if_neg (by omega), if_pos (by omega)])]
      rw [show x.k = 4 from h]
      exact check4 p cap P x w h hR hO hc hm hx
end Go.Proofs.YtphkpokoeaagfaaGreatDoor
