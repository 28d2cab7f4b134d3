/- The law RatioOrder holds for every input. -/
import Derived.Test.YtfhppadcaoggeaaRows
import Derived.WalkKit
import Derived.ProofKit
import Derived.OpenShut
import Derived.ShutString
import Derived.ChangeOld
import Derived.Below
import Derived.Test.YtfhppadcaoggeaaOrd
namespace Go.Proofs.Ytfhppadcaoggeaa.ratioOrder
open Go.ChangeShapes Go.WideShapes Go.ChangeAt Go.RowKit
open Go.ChangeMaps (open_string shut_string)
set_option linter.unusedVariables false

theorem own : ownKnob Try.prog.godebug = none := by kernel_rfl
theorem laidOut : laidOutB Try.prog = true := by kernel_rfl

theorem order_eq (a0 a1 a2 a3 a4 a5 : Int) (x z t p : Rat) (w : World) (HX : Hid (∀ w, Calls Try.prog 27 #[.int .i64 a0, .int .i64 a1, .int .i64 900] w fun e w' => e = .returned (.agg #[.int .i64 x.num, .int .i64 (x.den : Int)]) ∧ Below w.heap.size w w')) (HY : Hid (∀ w, Calls Try.prog 27 #[.int .i64 a2, .int .i64 a3, .int .i64 900] w fun e w' => e = .returned (.agg #[.int .i64 x.num, .int .i64 (x.den : Int)]) ∧ Below w.heap.size w w')) (HZ : Hid (∀ w, Calls Try.prog 27 #[.int .i64 a4, .int .i64 a5, .int .i64 900] w fun e w' => e = .returned (.agg #[.int .i64 z.num, .int .i64 (z.den : Int)]) ∧ Below w.heap.size w w'))
    (H1 : Hid (∀ w, Calls Try.prog 19 #[.agg #[.int .i64 x.num, .int .i64 (x.den : Int)], .agg #[.int .i64 x.num, .int .i64 (x.den : Int)]] w fun e w' => e = .returned (.int .i64 0) ∧ Below w.heap.size w w'))
    (H5 : Hid (∀ w, Calls Try.prog 25 #[.agg #[.int .i64 x.num, .int .i64 (x.den : Int)], .agg #[.int .i64 x.num, .int .i64 (x.den : Int)]] w (GotQ t w))) (H6 : Hid (∀ w, Calls Try.prog 15 #[.agg #[.int .i64 x.num, .int .i64 (x.den : Int)], .agg #[.int .i64 z.num, .int .i64 (z.den : Int)]] w (GotQ p w)))
    (H8 : Hid (∀ w, Calls Try.prog 19 #[.agg #[.int .i64 t.num, .int .i64 (t.den : Int)], .agg #[.int .i64 0, .int .i64 1]] w fun e w' => e = .returned (.int .i64 0) ∧ Below w.heap.size w w')) (H9 : Hid (∀ w, Calls Try.prog 19 #[.agg #[.int .i64 p.num, .int .i64 (p.den : Int)], .agg #[.int .i64 p.num, .int .i64 (p.den : Int)]] w fun e w' => e = .returned (.int .i64 0) ∧ Below w.heap.size w w'))
     :
    Calls Try.prog 10 #[.int .i64 a0, .int .i64 a1, .int .i64 a2, .int .i64 a3, .int .i64 a4, .int .i64 a5] w fun e w' => e = .returned (.bool true) ∧ Below w.heap.size w w' := by
  go_enter Try.func10, Try.ntmps10
  go_wp2_with fail
  refine (HX.out _).mono ?_; rintro e w1 ⟨rfl, hb⟩
  have hB := BelowOn (Below.refl _ w) hb
  clear hb
  go_wp2_with fail
  refine (HY.out _).mono ?_; rintro e w2 ⟨rfl, hb⟩
  replace hB := BelowOn hB hb
  clear hb
  go_wp2_with fail
  refine (HZ.out _).mono ?_; rintro e w3 ⟨rfl, hb⟩
  replace hB := BelowOn hB hb
  clear hb
  go_wp2_with fail
  refine (H1.out _).mono ?_; rintro e w4 ⟨rfl, hb⟩
  have T0 := (((twoNew _ (w3.heap.size) (.int .i64 x.num) (.int .i64 (x.den : Int)) (by simp)).alloc _).alloc _).call hb
  have T1 := ((twoNew _ (w3.heap.size + 1) (.int .i64 x.num) (.int .i64 (x.den : Int)) (by simp)).alloc _).call hb
  have T2 := (twoNew _ (w3.heap.size + 2) (.int .i64 z.num) (.int .i64 (z.den : Int)) (by simp)).call hb
  replace hB := BelowOn (blw (blw (blw hB _) _) _) hb
  clear hb
  obtain ⟨c00, c01, l0⟩ := id T0
  obtain ⟨c10, c11, l1⟩ := id T1
  obtain ⟨c20, c21, l2⟩ := id T2
  go_wp2_with fail
  refine (H1.out _).mono ?_; rintro e w5 ⟨rfl, hb⟩
  clear c00 c01 l0 c10 c11 l1 c20 c21 l2
  replace T0 := T0.call hb
  replace T1 := T1.call hb
  replace T2 := T2.call hb
  replace hB := BelowOn hB hb
  clear hb
  obtain ⟨c00, c01, l0⟩ := id T0
  obtain ⟨c10, c11, l1⟩ := id T1
  obtain ⟨c20, c21, l2⟩ := id T2
  go_wp2_with fail
  refine (H5.out _).mono ?_; rintro e w6 ⟨rfl, hb⟩
  clear c00 c01 l0 c10 c11 l1 c20 c21 l2
  replace T0 := T0.call hb
  replace T1 := T1.call hb
  replace T2 := T2.call hb
  replace hB := BelowOn hB hb
  clear hb
  obtain ⟨c00, c01, l0⟩ := id T0
  obtain ⟨c10, c11, l1⟩ := id T1
  obtain ⟨c20, c21, l2⟩ := id T2
  go_wp2_with fail
  refine (H6.out _).mono ?_; rintro e w7 ⟨rfl, hb⟩
  clear c00 c01 l0 c10 c11 l1 c20 c21 l2
  replace T0 := (T0.alloc _).call hb
  replace T1 := (T1.alloc _).call hb
  replace T2 := (T2.alloc _).call hb
  have T3 := (twoNew _ (w6.heap.size) (.int .i64 t.num) (.int .i64 (t.den : Int)) (by simp)).call hb
  replace hB := BelowOn (blw hB _) hb
  clear hb
  obtain ⟨c00, c01, l0⟩ := id T0
  obtain ⟨c10, c11, l1⟩ := id T1
  obtain ⟨c20, c21, l2⟩ := id T2
  obtain ⟨c30, c31, l3⟩ := id T3
  go_wp2_with fail
  refine (H6.out _).mono ?_; rintro e w8 ⟨rfl, hb⟩
  clear c00 c01 l0 c10 c11 l1 c20 c21 l2 c30 c31 l3
  replace T0 := (T0.alloc _).call hb
  replace T1 := (T1.alloc _).call hb
  replace T2 := (T2.alloc _).call hb
  replace T3 := (T3.alloc _).call hb
  have T4 := (twoNew _ (w7.heap.size) (.int .i64 p.num) (.int .i64 (p.den : Int)) (by simp)).call hb
  replace hB := BelowOn (blw hB _) hb
  clear hb
  obtain ⟨c00, c01, l0⟩ := id T0
  obtain ⟨c10, c11, l1⟩ := id T1
  obtain ⟨c20, c21, l2⟩ := id T2
  obtain ⟨c30, c31, l3⟩ := id T3
  obtain ⟨c40, c41, l4⟩ := id T4
  go_wp2_with fail
  refine (H8.out _).mono ?_; rintro e w9 ⟨rfl, hb⟩
  clear c00 c01 l0 c10 c11 l1 c20 c21 l2 c30 c31 l3 c40 c41 l4
  replace T0 := (T0.alloc _).call hb
  replace T1 := (T1.alloc _).call hb
  replace T2 := (T2.alloc _).call hb
  replace T3 := (T3.alloc _).call hb
  replace T4 := (T4.alloc _).call hb
  have T5 := (twoNew _ (w8.heap.size) (.int .i64 p.num) (.int .i64 (p.den : Int)) (by simp)).call hb
  replace hB := BelowOn (blw hB _) hb
  clear hb
  obtain ⟨c00, c01, l0⟩ := id T0
  obtain ⟨c10, c11, l1⟩ := id T1
  obtain ⟨c20, c21, l2⟩ := id T2
  obtain ⟨c30, c31, l3⟩ := id T3
  obtain ⟨c40, c41, l4⟩ := id T4
  obtain ⟨c50, c51, l5⟩ := id T5
  go_wp2_with fail
  refine (H9.out _).mono ?_; rintro e w10 ⟨rfl, hb⟩
  clear c00 c01 l0 c10 c11 l1 c20 c21 l2 c30 c31 l3 c40 c41 l4 c50 c51 l5
  replace T0 := T0.call hb
  replace T1 := T1.call hb
  replace T2 := T2.call hb
  replace T3 := T3.call hb
  replace T4 := T4.call hb
  replace T5 := T5.call hb
  replace hB := BelowOn hB hb
  clear hb
  obtain ⟨c00, c01, l0⟩ := id T0
  obtain ⟨c10, c11, l1⟩ := id T1
  obtain ⟨c20, c21, l2⟩ := id T2
  obtain ⟨c30, c31, l3⟩ := id T3
  obtain ⟨c40, c41, l4⟩ := id T4
  obtain ⟨c50, c51, l5⟩ := id T5
  go_wp2_with fail
  refine (known_any _).mono ?_; rintro e w11 ⟨rfl, hb⟩
  clear c00 c01 l0 c10 c11 l1 c20 c21 l2 c30 c31 l3 c40 c41 l4 c50 c51 l5
  replace T0 := T0.call hb
  replace T1 := T1.call hb
  replace T2 := T2.call hb
  replace T3 := T3.call hb
  replace T4 := T4.call hb
  replace T5 := T5.call hb
  replace hB := BelowOn hB hb
  clear hb
  obtain ⟨c00, c01, l0⟩ := id T0
  obtain ⟨c10, c11, l1⟩ := id T1
  obtain ⟨c20, c21, l2⟩ := id T2
  obtain ⟨c30, c31, l3⟩ := id T3
  obtain ⟨c40, c41, l4⟩ := id T4
  obtain ⟨c50, c51, l5⟩ := id T5
  go_wp2_with fail
  go_ret
  exact ⟨rfl, hB⟩

theorem order_gt_n (a0 a1 a2 a3 a4 a5 : Int) (x y z t p q : Rat) (w : World) (HX : Hid (∀ w, Calls Try.prog 27 #[.int .i64 a0, .int .i64 a1, .int .i64 900] w fun e w' => e = .returned (.agg #[.int .i64 x.num, .int .i64 (x.den : Int)]) ∧ Below w.heap.size w w')) (HY : Hid (∀ w, Calls Try.prog 27 #[.int .i64 a2, .int .i64 a3, .int .i64 900] w fun e w' => e = .returned (.agg #[.int .i64 y.num, .int .i64 (y.den : Int)]) ∧ Below w.heap.size w w')) (HZ : Hid (∀ w, Calls Try.prog 27 #[.int .i64 a4, .int .i64 a5, .int .i64 900] w fun e w' => e = .returned (.agg #[.int .i64 z.num, .int .i64 (z.den : Int)]) ∧ Below w.heap.size w w'))
    (H1 : Hid (∀ w, Calls Try.prog 19 #[.agg #[.int .i64 x.num, .int .i64 (x.den : Int)], .agg #[.int .i64 y.num, .int .i64 (y.den : Int)]] w fun e w' => e = .returned (.int .i64 1) ∧ Below w.heap.size w w'))
    (H2 : Hid (∀ w, Calls Try.prog 19 #[.agg #[.int .i64 y.num, .int .i64 (y.den : Int)], .agg #[.int .i64 x.num, .int .i64 (x.den : Int)]] w fun e w' => e = .returned (.int .i64 (-1)) ∧ Below w.heap.size w w'))
    (H5 : Hid (∀ w, Calls Try.prog 25 #[.agg #[.int .i64 x.num, .int .i64 (x.den : Int)], .agg #[.int .i64 y.num, .int .i64 (y.den : Int)]] w (GotQ t w))) (H6 : Hid (∀ w, Calls Try.prog 15 #[.agg #[.int .i64 x.num, .int .i64 (x.den : Int)], .agg #[.int .i64 z.num, .int .i64 (z.den : Int)]] w (GotQ p w))) (H7 : Hid (∀ w, Calls Try.prog 15 #[.agg #[.int .i64 y.num, .int .i64 (y.den : Int)], .agg #[.int .i64 z.num, .int .i64 (z.den : Int)]] w (GotQ q w)))
    (H8 : Hid (∀ w, Calls Try.prog 19 #[.agg #[.int .i64 t.num, .int .i64 (t.den : Int)], .agg #[.int .i64 0, .int .i64 1]] w fun e w' => e = .returned (.int .i64 1) ∧ Below w.heap.size w w')) (H9 : Hid (∀ w, Calls Try.prog 19 #[.agg #[.int .i64 p.num, .int .i64 (p.den : Int)], .agg #[.int .i64 q.num, .int .i64 (q.den : Int)]] w fun e w' => e = .returned (.int .i64 1) ∧ Below w.heap.size w w'))
    (hne : ¬ x.num = y.num) :
    Calls Try.prog 10 #[.int .i64 a0, .int .i64 a1, .int .i64 a2, .int .i64 a3, .int .i64 a4, .int .i64 a5] w fun e w' => e = .returned (.bool true) ∧ Below w.heap.size w w' := by
  go_enter Try.func10, Try.ntmps10
  go_wp2_with fail
  refine (HX.out _).mono ?_; rintro e w1 ⟨rfl, hb⟩
  have hB := BelowOn (Below.refl _ w) hb
  clear hb
  go_wp2_with fail
  refine (HY.out _).mono ?_; rintro e w2 ⟨rfl, hb⟩
  replace hB := BelowOn hB hb
  clear hb
  go_wp2_with fail
  refine (HZ.out _).mono ?_; rintro e w3 ⟨rfl, hb⟩
  replace hB := BelowOn hB hb
  clear hb
  go_wp2_with fail
  refine (H1.out _).mono ?_; rintro e w4 ⟨rfl, hb⟩
  have T0 := (((twoNew _ (w3.heap.size) (.int .i64 x.num) (.int .i64 (x.den : Int)) (by simp)).alloc _).alloc _).call hb
  have T1 := ((twoNew _ (w3.heap.size + 1) (.int .i64 y.num) (.int .i64 (y.den : Int)) (by simp)).alloc _).call hb
  have T2 := (twoNew _ (w3.heap.size + 2) (.int .i64 z.num) (.int .i64 (z.den : Int)) (by simp)).call hb
  replace hB := BelowOn (blw (blw (blw hB _) _) _) hb
  clear hb
  obtain ⟨c00, c01, l0⟩ := id T0
  obtain ⟨c10, c11, l1⟩ := id T1
  obtain ⟨c20, c21, l2⟩ := id T2
  go_wp2_with fail
  refine (H2.out _).mono ?_; rintro e w5 ⟨rfl, hb⟩
  clear c00 c01 l0 c10 c11 l1 c20 c21 l2
  replace T0 := T0.call hb
  replace T1 := T1.call hb
  replace T2 := T2.call hb
  replace hB := BelowOn hB hb
  clear hb
  obtain ⟨c00, c01, l0⟩ := id T0
  obtain ⟨c10, c11, l1⟩ := id T1
  obtain ⟨c20, c21, l2⟩ := id T2
  go_wp2_with fail
  refine (H5.out _).mono ?_; rintro e w6 ⟨rfl, hb⟩
  clear c00 c01 l0 c10 c11 l1 c20 c21 l2
  replace T0 := T0.call hb
  replace T1 := T1.call hb
  replace T2 := T2.call hb
  replace hB := BelowOn hB hb
  clear hb
  obtain ⟨c00, c01, l0⟩ := id T0
  obtain ⟨c10, c11, l1⟩ := id T1
  obtain ⟨c20, c21, l2⟩ := id T2
  go_wp2_with fail
  refine (H6.out _).mono ?_; rintro e w7 ⟨rfl, hb⟩
  clear c00 c01 l0 c10 c11 l1 c20 c21 l2
  replace T0 := (T0.alloc _).call hb
  replace T1 := (T1.alloc _).call hb
  replace T2 := (T2.alloc _).call hb
  have T3 := (twoNew _ (w6.heap.size) (.int .i64 t.num) (.int .i64 (t.den : Int)) (by simp)).call hb
  replace hB := BelowOn (blw hB _) hb
  clear hb
  obtain ⟨c00, c01, l0⟩ := id T0
  obtain ⟨c10, c11, l1⟩ := id T1
  obtain ⟨c20, c21, l2⟩ := id T2
  obtain ⟨c30, c31, l3⟩ := id T3
  go_wp2_with fail
  refine (H7.out _).mono ?_; rintro e w8 ⟨rfl, hb⟩
  clear c00 c01 l0 c10 c11 l1 c20 c21 l2 c30 c31 l3
  replace T0 := (T0.alloc _).call hb
  replace T1 := (T1.alloc _).call hb
  replace T2 := (T2.alloc _).call hb
  replace T3 := (T3.alloc _).call hb
  have T4 := (twoNew _ (w7.heap.size) (.int .i64 p.num) (.int .i64 (p.den : Int)) (by simp)).call hb
  replace hB := BelowOn (blw hB _) hb
  clear hb
  obtain ⟨c00, c01, l0⟩ := id T0
  obtain ⟨c10, c11, l1⟩ := id T1
  obtain ⟨c20, c21, l2⟩ := id T2
  obtain ⟨c30, c31, l3⟩ := id T3
  obtain ⟨c40, c41, l4⟩ := id T4
  go_wp2_with fail
  refine (H8.out _).mono ?_; rintro e w9 ⟨rfl, hb⟩
  clear c00 c01 l0 c10 c11 l1 c20 c21 l2 c30 c31 l3 c40 c41 l4
  replace T0 := (T0.alloc _).call hb
  replace T1 := (T1.alloc _).call hb
  replace T2 := (T2.alloc _).call hb
  replace T3 := (T3.alloc _).call hb
  replace T4 := (T4.alloc _).call hb
  have T5 := (twoNew _ (w8.heap.size) (.int .i64 q.num) (.int .i64 (q.den : Int)) (by simp)).call hb
  replace hB := BelowOn (blw hB _) hb
  clear hb
  obtain ⟨c00, c01, l0⟩ := id T0
  obtain ⟨c10, c11, l1⟩ := id T1
  obtain ⟨c20, c21, l2⟩ := id T2
  obtain ⟨c30, c31, l3⟩ := id T3
  obtain ⟨c40, c41, l4⟩ := id T4
  obtain ⟨c50, c51, l5⟩ := id T5
  go_wp2_with fail
  refine (H9.out _).mono ?_; rintro e w10 ⟨rfl, hb⟩
  clear c00 c01 l0 c10 c11 l1 c20 c21 l2 c30 c31 l3 c40 c41 l4 c50 c51 l5
  replace T0 := T0.call hb
  replace T1 := T1.call hb
  replace T2 := T2.call hb
  replace T3 := T3.call hb
  replace T4 := T4.call hb
  replace T5 := T5.call hb
  replace hB := BelowOn hB hb
  clear hb
  obtain ⟨c00, c01, l0⟩ := id T0
  obtain ⟨c10, c11, l1⟩ := id T1
  obtain ⟨c20, c21, l2⟩ := id T2
  obtain ⟨c30, c31, l3⟩ := id T3
  obtain ⟨c40, c41, l4⟩ := id T4
  obtain ⟨c50, c51, l5⟩ := id T5
  go_wp2_with fail
  refine (known_any _).mono ?_; rintro e w11 ⟨rfl, hb⟩
  clear c00 c01 l0 c10 c11 l1 c20 c21 l2 c30 c31 l3 c40 c41 l4 c50 c51 l5
  replace T0 := T0.call hb
  replace T1 := T1.call hb
  replace T2 := T2.call hb
  replace T3 := T3.call hb
  replace T4 := T4.call hb
  replace T5 := T5.call hb
  replace hB := BelowOn hB hb
  clear hb
  obtain ⟨c00, c01, l0⟩ := id T0
  obtain ⟨c10, c11, l1⟩ := id T1
  obtain ⟨c20, c21, l2⟩ := id T2
  obtain ⟨c30, c31, l3⟩ := id T3
  obtain ⟨c40, c41, l4⟩ := id T4
  obtain ⟨c50, c51, l5⟩ := id T5
  go_wp2_with fail
  go_ret
  exact ⟨rfl, hB⟩

theorem order_lt_lt_n (a0 a1 a2 a3 a4 a5 : Int) (x y z t p q : Rat) (w : World) (HX : Hid (∀ w, Calls Try.prog 27 #[.int .i64 a0, .int .i64 a1, .int .i64 900] w fun e w' => e = .returned (.agg #[.int .i64 x.num, .int .i64 (x.den : Int)]) ∧ Below w.heap.size w w')) (HY : Hid (∀ w, Calls Try.prog 27 #[.int .i64 a2, .int .i64 a3, .int .i64 900] w fun e w' => e = .returned (.agg #[.int .i64 y.num, .int .i64 (y.den : Int)]) ∧ Below w.heap.size w w')) (HZ : Hid (∀ w, Calls Try.prog 27 #[.int .i64 a4, .int .i64 a5, .int .i64 900] w fun e w' => e = .returned (.agg #[.int .i64 z.num, .int .i64 (z.den : Int)]) ∧ Below w.heap.size w w'))
    (H1 : Hid (∀ w, Calls Try.prog 19 #[.agg #[.int .i64 x.num, .int .i64 (x.den : Int)], .agg #[.int .i64 y.num, .int .i64 (y.den : Int)]] w fun e w' => e = .returned (.int .i64 (-1)) ∧ Below w.heap.size w w'))
    (H2 : Hid (∀ w, Calls Try.prog 19 #[.agg #[.int .i64 y.num, .int .i64 (y.den : Int)], .agg #[.int .i64 x.num, .int .i64 (x.den : Int)]] w fun e w' => e = .returned (.int .i64 1) ∧ Below w.heap.size w w'))
    (H3 : Hid (∀ w, Calls Try.prog 19 #[.agg #[.int .i64 y.num, .int .i64 (y.den : Int)], .agg #[.int .i64 z.num, .int .i64 (z.den : Int)]] w fun e w' => e = .returned (.int .i64 (-1)) ∧ Below w.heap.size w w'))
    (H4 : Hid (∀ w, Calls Try.prog 19 #[.agg #[.int .i64 x.num, .int .i64 (x.den : Int)], .agg #[.int .i64 z.num, .int .i64 (z.den : Int)]] w fun e w' => e = .returned (.int .i64 (-1)) ∧ Below w.heap.size w w'))
    (H5 : Hid (∀ w, Calls Try.prog 25 #[.agg #[.int .i64 x.num, .int .i64 (x.den : Int)], .agg #[.int .i64 y.num, .int .i64 (y.den : Int)]] w (GotQ t w))) (H6 : Hid (∀ w, Calls Try.prog 15 #[.agg #[.int .i64 x.num, .int .i64 (x.den : Int)], .agg #[.int .i64 z.num, .int .i64 (z.den : Int)]] w (GotQ p w))) (H7 : Hid (∀ w, Calls Try.prog 15 #[.agg #[.int .i64 y.num, .int .i64 (y.den : Int)], .agg #[.int .i64 z.num, .int .i64 (z.den : Int)]] w (GotQ q w)))
    (H8 : Hid (∀ w, Calls Try.prog 19 #[.agg #[.int .i64 t.num, .int .i64 (t.den : Int)], .agg #[.int .i64 0, .int .i64 1]] w fun e w' => e = .returned (.int .i64 (-1)) ∧ Below w.heap.size w w')) (H9 : Hid (∀ w, Calls Try.prog 19 #[.agg #[.int .i64 p.num, .int .i64 (p.den : Int)], .agg #[.int .i64 q.num, .int .i64 (q.den : Int)]] w fun e w' => e = .returned (.int .i64 (-1)) ∧ Below w.heap.size w w'))
    (hne : ¬ x.num = y.num) :
    Calls Try.prog 10 #[.int .i64 a0, .int .i64 a1, .int .i64 a2, .int .i64 a3, .int .i64 a4, .int .i64 a5] w fun e w' => e = .returned (.bool true) ∧ Below w.heap.size w w' := by
  go_enter Try.func10, Try.ntmps10
  go_wp2_with fail
  refine (HX.out _).mono ?_; rintro e w1 ⟨rfl, hb⟩
  have hB := BelowOn (Below.refl _ w) hb
  clear hb
  go_wp2_with fail
  refine (HY.out _).mono ?_; rintro e w2 ⟨rfl, hb⟩
  replace hB := BelowOn hB hb
  clear hb
  go_wp2_with fail
  refine (HZ.out _).mono ?_; rintro e w3 ⟨rfl, hb⟩
  replace hB := BelowOn hB hb
  clear hb
  go_wp2_with fail
  refine (H1.out _).mono ?_; rintro e w4 ⟨rfl, hb⟩
  have T0 := (((twoNew _ (w3.heap.size) (.int .i64 x.num) (.int .i64 (x.den : Int)) (by simp)).alloc _).alloc _).call hb
  have T1 := ((twoNew _ (w3.heap.size + 1) (.int .i64 y.num) (.int .i64 (y.den : Int)) (by simp)).alloc _).call hb
  have T2 := (twoNew _ (w3.heap.size + 2) (.int .i64 z.num) (.int .i64 (z.den : Int)) (by simp)).call hb
  replace hB := BelowOn (blw (blw (blw hB _) _) _) hb
  clear hb
  obtain ⟨c00, c01, l0⟩ := id T0
  obtain ⟨c10, c11, l1⟩ := id T1
  obtain ⟨c20, c21, l2⟩ := id T2
  go_wp2_with fail
  refine (H2.out _).mono ?_; rintro e w5 ⟨rfl, hb⟩
  clear c00 c01 l0 c10 c11 l1 c20 c21 l2
  replace T0 := T0.call hb
  replace T1 := T1.call hb
  replace T2 := T2.call hb
  replace hB := BelowOn hB hb
  clear hb
  obtain ⟨c00, c01, l0⟩ := id T0
  obtain ⟨c10, c11, l1⟩ := id T1
  obtain ⟨c20, c21, l2⟩ := id T2
  go_wp2_with fail
  refine (H3.out _).mono ?_; rintro e w6 ⟨rfl, hb⟩
  clear c00 c01 l0 c10 c11 l1 c20 c21 l2
  replace T0 := T0.call hb
  replace T1 := T1.call hb
  replace T2 := T2.call hb
  replace hB := BelowOn hB hb
  clear hb
  obtain ⟨c00, c01, l0⟩ := id T0
  obtain ⟨c10, c11, l1⟩ := id T1
  obtain ⟨c20, c21, l2⟩ := id T2
  go_wp2_with fail
  refine (H4.out _).mono ?_; rintro e w7 ⟨rfl, hb⟩
  clear c00 c01 l0 c10 c11 l1 c20 c21 l2
  replace T0 := T0.call hb
  replace T1 := T1.call hb
  replace T2 := T2.call hb
  replace hB := BelowOn hB hb
  clear hb
  obtain ⟨c00, c01, l0⟩ := id T0
  obtain ⟨c10, c11, l1⟩ := id T1
  obtain ⟨c20, c21, l2⟩ := id T2
  go_wp2_with fail
  refine (H5.out _).mono ?_; rintro e w8 ⟨rfl, hb⟩
  clear c00 c01 l0 c10 c11 l1 c20 c21 l2
  replace T0 := T0.call hb
  replace T1 := T1.call hb
  replace T2 := T2.call hb
  replace hB := BelowOn hB hb
  clear hb
  obtain ⟨c00, c01, l0⟩ := id T0
  obtain ⟨c10, c11, l1⟩ := id T1
  obtain ⟨c20, c21, l2⟩ := id T2
  go_wp2_with fail
  refine (H6.out _).mono ?_; rintro e w9 ⟨rfl, hb⟩
  clear c00 c01 l0 c10 c11 l1 c20 c21 l2
  replace T0 := (T0.alloc _).call hb
  replace T1 := (T1.alloc _).call hb
  replace T2 := (T2.alloc _).call hb
  have T3 := (twoNew _ (w8.heap.size) (.int .i64 t.num) (.int .i64 (t.den : Int)) (by simp)).call hb
  replace hB := BelowOn (blw hB _) hb
  clear hb
  obtain ⟨c00, c01, l0⟩ := id T0
  obtain ⟨c10, c11, l1⟩ := id T1
  obtain ⟨c20, c21, l2⟩ := id T2
  obtain ⟨c30, c31, l3⟩ := id T3
  go_wp2_with fail
  refine (H7.out _).mono ?_; rintro e w10 ⟨rfl, hb⟩
  clear c00 c01 l0 c10 c11 l1 c20 c21 l2 c30 c31 l3
  replace T0 := (T0.alloc _).call hb
  replace T1 := (T1.alloc _).call hb
  replace T2 := (T2.alloc _).call hb
  replace T3 := (T3.alloc _).call hb
  have T4 := (twoNew _ (w9.heap.size) (.int .i64 p.num) (.int .i64 (p.den : Int)) (by simp)).call hb
  replace hB := BelowOn (blw hB _) hb
  clear hb
  obtain ⟨c00, c01, l0⟩ := id T0
  obtain ⟨c10, c11, l1⟩ := id T1
  obtain ⟨c20, c21, l2⟩ := id T2
  obtain ⟨c30, c31, l3⟩ := id T3
  obtain ⟨c40, c41, l4⟩ := id T4
  go_wp2_with fail
  refine (H8.out _).mono ?_; rintro e w11 ⟨rfl, hb⟩
  clear c00 c01 l0 c10 c11 l1 c20 c21 l2 c30 c31 l3 c40 c41 l4
  replace T0 := (T0.alloc _).call hb
  replace T1 := (T1.alloc _).call hb
  replace T2 := (T2.alloc _).call hb
  replace T3 := (T3.alloc _).call hb
  replace T4 := (T4.alloc _).call hb
  have T5 := (twoNew _ (w10.heap.size) (.int .i64 q.num) (.int .i64 (q.den : Int)) (by simp)).call hb
  replace hB := BelowOn (blw hB _) hb
  clear hb
  obtain ⟨c00, c01, l0⟩ := id T0
  obtain ⟨c10, c11, l1⟩ := id T1
  obtain ⟨c20, c21, l2⟩ := id T2
  obtain ⟨c30, c31, l3⟩ := id T3
  obtain ⟨c40, c41, l4⟩ := id T4
  obtain ⟨c50, c51, l5⟩ := id T5
  go_wp2_with fail
  refine (H9.out _).mono ?_; rintro e w12 ⟨rfl, hb⟩
  clear c00 c01 l0 c10 c11 l1 c20 c21 l2 c30 c31 l3 c40 c41 l4 c50 c51 l5
  replace T0 := T0.call hb
  replace T1 := T1.call hb
  replace T2 := T2.call hb
  replace T3 := T3.call hb
  replace T4 := T4.call hb
  replace T5 := T5.call hb
  replace hB := BelowOn hB hb
  clear hb
  obtain ⟨c00, c01, l0⟩ := id T0
  obtain ⟨c10, c11, l1⟩ := id T1
  obtain ⟨c20, c21, l2⟩ := id T2
  obtain ⟨c30, c31, l3⟩ := id T3
  obtain ⟨c40, c41, l4⟩ := id T4
  obtain ⟨c50, c51, l5⟩ := id T5
  go_wp2_with fail
  refine (known_any _).mono ?_; rintro e w13 ⟨rfl, hb⟩
  clear c00 c01 l0 c10 c11 l1 c20 c21 l2 c30 c31 l3 c40 c41 l4 c50 c51 l5
  replace T0 := T0.call hb
  replace T1 := T1.call hb
  replace T2 := T2.call hb
  replace T3 := T3.call hb
  replace T4 := T4.call hb
  replace T5 := T5.call hb
  replace hB := BelowOn hB hb
  clear hb
  obtain ⟨c00, c01, l0⟩ := id T0
  obtain ⟨c10, c11, l1⟩ := id T1
  obtain ⟨c20, c21, l2⟩ := id T2
  obtain ⟨c30, c31, l3⟩ := id T3
  obtain ⟨c40, c41, l4⟩ := id T4
  obtain ⟨c50, c51, l5⟩ := id T5
  go_wp2_with fail
  go_ret
  exact ⟨rfl, hB⟩

theorem order_lt_eq_n (a0 a1 a2 a3 a4 a5 : Int) (x y z t p q : Rat) (w : World) (HX : Hid (∀ w, Calls Try.prog 27 #[.int .i64 a0, .int .i64 a1, .int .i64 900] w fun e w' => e = .returned (.agg #[.int .i64 x.num, .int .i64 (x.den : Int)]) ∧ Below w.heap.size w w')) (HY : Hid (∀ w, Calls Try.prog 27 #[.int .i64 a2, .int .i64 a3, .int .i64 900] w fun e w' => e = .returned (.agg #[.int .i64 y.num, .int .i64 (y.den : Int)]) ∧ Below w.heap.size w w')) (HZ : Hid (∀ w, Calls Try.prog 27 #[.int .i64 a4, .int .i64 a5, .int .i64 900] w fun e w' => e = .returned (.agg #[.int .i64 z.num, .int .i64 (z.den : Int)]) ∧ Below w.heap.size w w'))
    (H1 : Hid (∀ w, Calls Try.prog 19 #[.agg #[.int .i64 x.num, .int .i64 (x.den : Int)], .agg #[.int .i64 y.num, .int .i64 (y.den : Int)]] w fun e w' => e = .returned (.int .i64 (-1)) ∧ Below w.heap.size w w'))
    (H2 : Hid (∀ w, Calls Try.prog 19 #[.agg #[.int .i64 y.num, .int .i64 (y.den : Int)], .agg #[.int .i64 x.num, .int .i64 (x.den : Int)]] w fun e w' => e = .returned (.int .i64 1) ∧ Below w.heap.size w w'))
    (H3 : Hid (∀ w, Calls Try.prog 19 #[.agg #[.int .i64 y.num, .int .i64 (y.den : Int)], .agg #[.int .i64 z.num, .int .i64 (z.den : Int)]] w fun e w' => e = .returned (.int .i64 0) ∧ Below w.heap.size w w'))
    (H5 : Hid (∀ w, Calls Try.prog 25 #[.agg #[.int .i64 x.num, .int .i64 (x.den : Int)], .agg #[.int .i64 y.num, .int .i64 (y.den : Int)]] w (GotQ t w))) (H6 : Hid (∀ w, Calls Try.prog 15 #[.agg #[.int .i64 x.num, .int .i64 (x.den : Int)], .agg #[.int .i64 z.num, .int .i64 (z.den : Int)]] w (GotQ p w))) (H7 : Hid (∀ w, Calls Try.prog 15 #[.agg #[.int .i64 y.num, .int .i64 (y.den : Int)], .agg #[.int .i64 z.num, .int .i64 (z.den : Int)]] w (GotQ q w)))
    (H8 : Hid (∀ w, Calls Try.prog 19 #[.agg #[.int .i64 t.num, .int .i64 (t.den : Int)], .agg #[.int .i64 0, .int .i64 1]] w fun e w' => e = .returned (.int .i64 (-1)) ∧ Below w.heap.size w w')) (H9 : Hid (∀ w, Calls Try.prog 19 #[.agg #[.int .i64 p.num, .int .i64 (p.den : Int)], .agg #[.int .i64 q.num, .int .i64 (q.den : Int)]] w fun e w' => e = .returned (.int .i64 (-1)) ∧ Below w.heap.size w w'))
    (hne : ¬ x.num = y.num) :
    Calls Try.prog 10 #[.int .i64 a0, .int .i64 a1, .int .i64 a2, .int .i64 a3, .int .i64 a4, .int .i64 a5] w fun e w' => e = .returned (.bool true) ∧ Below w.heap.size w w' := by
  go_enter Try.func10, Try.ntmps10
  go_wp2_with fail
  refine (HX.out _).mono ?_; rintro e w1 ⟨rfl, hb⟩
  have hB := BelowOn (Below.refl _ w) hb
  clear hb
  go_wp2_with fail
  refine (HY.out _).mono ?_; rintro e w2 ⟨rfl, hb⟩
  replace hB := BelowOn hB hb
  clear hb
  go_wp2_with fail
  refine (HZ.out _).mono ?_; rintro e w3 ⟨rfl, hb⟩
  replace hB := BelowOn hB hb
  clear hb
  go_wp2_with fail
  refine (H1.out _).mono ?_; rintro e w4 ⟨rfl, hb⟩
  have T0 := (((twoNew _ (w3.heap.size) (.int .i64 x.num) (.int .i64 (x.den : Int)) (by simp)).alloc _).alloc _).call hb
  have T1 := ((twoNew _ (w3.heap.size + 1) (.int .i64 y.num) (.int .i64 (y.den : Int)) (by simp)).alloc _).call hb
  have T2 := (twoNew _ (w3.heap.size + 2) (.int .i64 z.num) (.int .i64 (z.den : Int)) (by simp)).call hb
  replace hB := BelowOn (blw (blw (blw hB _) _) _) hb
  clear hb
  obtain ⟨c00, c01, l0⟩ := id T0
  obtain ⟨c10, c11, l1⟩ := id T1
  obtain ⟨c20, c21, l2⟩ := id T2
  go_wp2_with fail
  refine (H2.out _).mono ?_; rintro e w5 ⟨rfl, hb⟩
  clear c00 c01 l0 c10 c11 l1 c20 c21 l2
  replace T0 := T0.call hb
  replace T1 := T1.call hb
  replace T2 := T2.call hb
  replace hB := BelowOn hB hb
  clear hb
  obtain ⟨c00, c01, l0⟩ := id T0
  obtain ⟨c10, c11, l1⟩ := id T1
  obtain ⟨c20, c21, l2⟩ := id T2
  go_wp2_with fail
  refine (H3.out _).mono ?_; rintro e w6 ⟨rfl, hb⟩
  clear c00 c01 l0 c10 c11 l1 c20 c21 l2
  replace T0 := T0.call hb
  replace T1 := T1.call hb
  replace T2 := T2.call hb
  replace hB := BelowOn hB hb
  clear hb
  obtain ⟨c00, c01, l0⟩ := id T0
  obtain ⟨c10, c11, l1⟩ := id T1
  obtain ⟨c20, c21, l2⟩ := id T2
  go_wp2_with fail
  refine (H5.out _).mono ?_; rintro e w7 ⟨rfl, hb⟩
  clear c00 c01 l0 c10 c11 l1 c20 c21 l2
  replace T0 := T0.call hb
  replace T1 := T1.call hb
  replace T2 := T2.call hb
  replace hB := BelowOn hB hb
  clear hb
  obtain ⟨c00, c01, l0⟩ := id T0
  obtain ⟨c10, c11, l1⟩ := id T1
  obtain ⟨c20, c21, l2⟩ := id T2
  go_wp2_with fail
  refine (H6.out _).mono ?_; rintro e w8 ⟨rfl, hb⟩
  clear c00 c01 l0 c10 c11 l1 c20 c21 l2
  replace T0 := (T0.alloc _).call hb
  replace T1 := (T1.alloc _).call hb
  replace T2 := (T2.alloc _).call hb
  have T3 := (twoNew _ (w7.heap.size) (.int .i64 t.num) (.int .i64 (t.den : Int)) (by simp)).call hb
  replace hB := BelowOn (blw hB _) hb
  clear hb
  obtain ⟨c00, c01, l0⟩ := id T0
  obtain ⟨c10, c11, l1⟩ := id T1
  obtain ⟨c20, c21, l2⟩ := id T2
  obtain ⟨c30, c31, l3⟩ := id T3
  go_wp2_with fail
  refine (H7.out _).mono ?_; rintro e w9 ⟨rfl, hb⟩
  clear c00 c01 l0 c10 c11 l1 c20 c21 l2 c30 c31 l3
  replace T0 := (T0.alloc _).call hb
  replace T1 := (T1.alloc _).call hb
  replace T2 := (T2.alloc _).call hb
  replace T3 := (T3.alloc _).call hb
  have T4 := (twoNew _ (w8.heap.size) (.int .i64 p.num) (.int .i64 (p.den : Int)) (by simp)).call hb
  replace hB := BelowOn (blw hB _) hb
  clear hb
  obtain ⟨c00, c01, l0⟩ := id T0
  obtain ⟨c10, c11, l1⟩ := id T1
  obtain ⟨c20, c21, l2⟩ := id T2
  obtain ⟨c30, c31, l3⟩ := id T3
  obtain ⟨c40, c41, l4⟩ := id T4
  go_wp2_with fail
  refine (H8.out _).mono ?_; rintro e w10 ⟨rfl, hb⟩
  clear c00 c01 l0 c10 c11 l1 c20 c21 l2 c30 c31 l3 c40 c41 l4
  replace T0 := (T0.alloc _).call hb
  replace T1 := (T1.alloc _).call hb
  replace T2 := (T2.alloc _).call hb
  replace T3 := (T3.alloc _).call hb
  replace T4 := (T4.alloc _).call hb
  have T5 := (twoNew _ (w9.heap.size) (.int .i64 q.num) (.int .i64 (q.den : Int)) (by simp)).call hb
  replace hB := BelowOn (blw hB _) hb
  clear hb
  obtain ⟨c00, c01, l0⟩ := id T0
  obtain ⟨c10, c11, l1⟩ := id T1
  obtain ⟨c20, c21, l2⟩ := id T2
  obtain ⟨c30, c31, l3⟩ := id T3
  obtain ⟨c40, c41, l4⟩ := id T4
  obtain ⟨c50, c51, l5⟩ := id T5
  go_wp2_with fail
  refine (H9.out _).mono ?_; rintro e w11 ⟨rfl, hb⟩
  clear c00 c01 l0 c10 c11 l1 c20 c21 l2 c30 c31 l3 c40 c41 l4 c50 c51 l5
  replace T0 := T0.call hb
  replace T1 := T1.call hb
  replace T2 := T2.call hb
  replace T3 := T3.call hb
  replace T4 := T4.call hb
  replace T5 := T5.call hb
  replace hB := BelowOn hB hb
  clear hb
  obtain ⟨c00, c01, l0⟩ := id T0
  obtain ⟨c10, c11, l1⟩ := id T1
  obtain ⟨c20, c21, l2⟩ := id T2
  obtain ⟨c30, c31, l3⟩ := id T3
  obtain ⟨c40, c41, l4⟩ := id T4
  obtain ⟨c50, c51, l5⟩ := id T5
  go_wp2_with fail
  refine (known_any _).mono ?_; rintro e w12 ⟨rfl, hb⟩
  clear c00 c01 l0 c10 c11 l1 c20 c21 l2 c30 c31 l3 c40 c41 l4 c50 c51 l5
  replace T0 := T0.call hb
  replace T1 := T1.call hb
  replace T2 := T2.call hb
  replace T3 := T3.call hb
  replace T4 := T4.call hb
  replace T5 := T5.call hb
  replace hB := BelowOn hB hb
  clear hb
  obtain ⟨c00, c01, l0⟩ := id T0
  obtain ⟨c10, c11, l1⟩ := id T1
  obtain ⟨c20, c21, l2⟩ := id T2
  obtain ⟨c30, c31, l3⟩ := id T3
  obtain ⟨c40, c41, l4⟩ := id T4
  obtain ⟨c50, c51, l5⟩ := id T5
  go_wp2_with fail
  go_ret
  exact ⟨rfl, hB⟩

theorem order_lt_gt_n (a0 a1 a2 a3 a4 a5 : Int) (x y z t p q : Rat) (w : World) (HX : Hid (∀ w, Calls Try.prog 27 #[.int .i64 a0, .int .i64 a1, .int .i64 900] w fun e w' => e = .returned (.agg #[.int .i64 x.num, .int .i64 (x.den : Int)]) ∧ Below w.heap.size w w')) (HY : Hid (∀ w, Calls Try.prog 27 #[.int .i64 a2, .int .i64 a3, .int .i64 900] w fun e w' => e = .returned (.agg #[.int .i64 y.num, .int .i64 (y.den : Int)]) ∧ Below w.heap.size w w')) (HZ : Hid (∀ w, Calls Try.prog 27 #[.int .i64 a4, .int .i64 a5, .int .i64 900] w fun e w' => e = .returned (.agg #[.int .i64 z.num, .int .i64 (z.den : Int)]) ∧ Below w.heap.size w w'))
    (H1 : Hid (∀ w, Calls Try.prog 19 #[.agg #[.int .i64 x.num, .int .i64 (x.den : Int)], .agg #[.int .i64 y.num, .int .i64 (y.den : Int)]] w fun e w' => e = .returned (.int .i64 (-1)) ∧ Below w.heap.size w w'))
    (H2 : Hid (∀ w, Calls Try.prog 19 #[.agg #[.int .i64 y.num, .int .i64 (y.den : Int)], .agg #[.int .i64 x.num, .int .i64 (x.den : Int)]] w fun e w' => e = .returned (.int .i64 1) ∧ Below w.heap.size w w'))
    (H3 : Hid (∀ w, Calls Try.prog 19 #[.agg #[.int .i64 y.num, .int .i64 (y.den : Int)], .agg #[.int .i64 z.num, .int .i64 (z.den : Int)]] w fun e w' => e = .returned (.int .i64 1) ∧ Below w.heap.size w w'))
    (H5 : Hid (∀ w, Calls Try.prog 25 #[.agg #[.int .i64 x.num, .int .i64 (x.den : Int)], .agg #[.int .i64 y.num, .int .i64 (y.den : Int)]] w (GotQ t w))) (H6 : Hid (∀ w, Calls Try.prog 15 #[.agg #[.int .i64 x.num, .int .i64 (x.den : Int)], .agg #[.int .i64 z.num, .int .i64 (z.den : Int)]] w (GotQ p w))) (H7 : Hid (∀ w, Calls Try.prog 15 #[.agg #[.int .i64 y.num, .int .i64 (y.den : Int)], .agg #[.int .i64 z.num, .int .i64 (z.den : Int)]] w (GotQ q w)))
    (H8 : Hid (∀ w, Calls Try.prog 19 #[.agg #[.int .i64 t.num, .int .i64 (t.den : Int)], .agg #[.int .i64 0, .int .i64 1]] w fun e w' => e = .returned (.int .i64 (-1)) ∧ Below w.heap.size w w')) (H9 : Hid (∀ w, Calls Try.prog 19 #[.agg #[.int .i64 p.num, .int .i64 (p.den : Int)], .agg #[.int .i64 q.num, .int .i64 (q.den : Int)]] w fun e w' => e = .returned (.int .i64 (-1)) ∧ Below w.heap.size w w'))
    (hne : ¬ x.num = y.num) :
    Calls Try.prog 10 #[.int .i64 a0, .int .i64 a1, .int .i64 a2, .int .i64 a3, .int .i64 a4, .int .i64 a5] w fun e w' => e = .returned (.bool true) ∧ Below w.heap.size w w' := by
  go_enter Try.func10, Try.ntmps10
  go_wp2_with fail
  refine (HX.out _).mono ?_; rintro e w1 ⟨rfl, hb⟩
  have hB := BelowOn (Below.refl _ w) hb
  clear hb
  go_wp2_with fail
  refine (HY.out _).mono ?_; rintro e w2 ⟨rfl, hb⟩
  replace hB := BelowOn hB hb
  clear hb
  go_wp2_with fail
  refine (HZ.out _).mono ?_; rintro e w3 ⟨rfl, hb⟩
  replace hB := BelowOn hB hb
  clear hb
  go_wp2_with fail
  refine (H1.out _).mono ?_; rintro e w4 ⟨rfl, hb⟩
  have T0 := (((twoNew _ (w3.heap.size) (.int .i64 x.num) (.int .i64 (x.den : Int)) (by simp)).alloc _).alloc _).call hb
  have T1 := ((twoNew _ (w3.heap.size + 1) (.int .i64 y.num) (.int .i64 (y.den : Int)) (by simp)).alloc _).call hb
  have T2 := (twoNew _ (w3.heap.size + 2) (.int .i64 z.num) (.int .i64 (z.den : Int)) (by simp)).call hb
  replace hB := BelowOn (blw (blw (blw hB _) _) _) hb
  clear hb
  obtain ⟨c00, c01, l0⟩ := id T0
  obtain ⟨c10, c11, l1⟩ := id T1
  obtain ⟨c20, c21, l2⟩ := id T2
  go_wp2_with fail
  refine (H2.out _).mono ?_; rintro e w5 ⟨rfl, hb⟩
  clear c00 c01 l0 c10 c11 l1 c20 c21 l2
  replace T0 := T0.call hb
  replace T1 := T1.call hb
  replace T2 := T2.call hb
  replace hB := BelowOn hB hb
  clear hb
  obtain ⟨c00, c01, l0⟩ := id T0
  obtain ⟨c10, c11, l1⟩ := id T1
  obtain ⟨c20, c21, l2⟩ := id T2
  go_wp2_with fail
  refine (H3.out _).mono ?_; rintro e w6 ⟨rfl, hb⟩
  clear c00 c01 l0 c10 c11 l1 c20 c21 l2
  replace T0 := T0.call hb
  replace T1 := T1.call hb
  replace T2 := T2.call hb
  replace hB := BelowOn hB hb
  clear hb
  obtain ⟨c00, c01, l0⟩ := id T0
  obtain ⟨c10, c11, l1⟩ := id T1
  obtain ⟨c20, c21, l2⟩ := id T2
  go_wp2_with fail
  refine (H5.out _).mono ?_; rintro e w7 ⟨rfl, hb⟩
  clear c00 c01 l0 c10 c11 l1 c20 c21 l2
  replace T0 := T0.call hb
  replace T1 := T1.call hb
  replace T2 := T2.call hb
  replace hB := BelowOn hB hb
  clear hb
  obtain ⟨c00, c01, l0⟩ := id T0
  obtain ⟨c10, c11, l1⟩ := id T1
  obtain ⟨c20, c21, l2⟩ := id T2
  go_wp2_with fail
  refine (H6.out _).mono ?_; rintro e w8 ⟨rfl, hb⟩
  clear c00 c01 l0 c10 c11 l1 c20 c21 l2
  replace T0 := (T0.alloc _).call hb
  replace T1 := (T1.alloc _).call hb
  replace T2 := (T2.alloc _).call hb
  have T3 := (twoNew _ (w7.heap.size) (.int .i64 t.num) (.int .i64 (t.den : Int)) (by simp)).call hb
  replace hB := BelowOn (blw hB _) hb
  clear hb
  obtain ⟨c00, c01, l0⟩ := id T0
  obtain ⟨c10, c11, l1⟩ := id T1
  obtain ⟨c20, c21, l2⟩ := id T2
  obtain ⟨c30, c31, l3⟩ := id T3
  go_wp2_with fail
  refine (H7.out _).mono ?_; rintro e w9 ⟨rfl, hb⟩
  clear c00 c01 l0 c10 c11 l1 c20 c21 l2 c30 c31 l3
  replace T0 := (T0.alloc _).call hb
  replace T1 := (T1.alloc _).call hb
  replace T2 := (T2.alloc _).call hb
  replace T3 := (T3.alloc _).call hb
  have T4 := (twoNew _ (w8.heap.size) (.int .i64 p.num) (.int .i64 (p.den : Int)) (by simp)).call hb
  replace hB := BelowOn (blw hB _) hb
  clear hb
  obtain ⟨c00, c01, l0⟩ := id T0
  obtain ⟨c10, c11, l1⟩ := id T1
  obtain ⟨c20, c21, l2⟩ := id T2
  obtain ⟨c30, c31, l3⟩ := id T3
  obtain ⟨c40, c41, l4⟩ := id T4
  go_wp2_with fail
  refine (H8.out _).mono ?_; rintro e w10 ⟨rfl, hb⟩
  clear c00 c01 l0 c10 c11 l1 c20 c21 l2 c30 c31 l3 c40 c41 l4
  replace T0 := (T0.alloc _).call hb
  replace T1 := (T1.alloc _).call hb
  replace T2 := (T2.alloc _).call hb
  replace T3 := (T3.alloc _).call hb
  replace T4 := (T4.alloc _).call hb
  have T5 := (twoNew _ (w9.heap.size) (.int .i64 q.num) (.int .i64 (q.den : Int)) (by simp)).call hb
  replace hB := BelowOn (blw hB _) hb
  clear hb
  obtain ⟨c00, c01, l0⟩ := id T0
  obtain ⟨c10, c11, l1⟩ := id T1
  obtain ⟨c20, c21, l2⟩ := id T2
  obtain ⟨c30, c31, l3⟩ := id T3
  obtain ⟨c40, c41, l4⟩ := id T4
  obtain ⟨c50, c51, l5⟩ := id T5
  go_wp2_with fail
  refine (H9.out _).mono ?_; rintro e w11 ⟨rfl, hb⟩
  clear c00 c01 l0 c10 c11 l1 c20 c21 l2 c30 c31 l3 c40 c41 l4 c50 c51 l5
  replace T0 := T0.call hb
  replace T1 := T1.call hb
  replace T2 := T2.call hb
  replace T3 := T3.call hb
  replace T4 := T4.call hb
  replace T5 := T5.call hb
  replace hB := BelowOn hB hb
  clear hb
  obtain ⟨c00, c01, l0⟩ := id T0
  obtain ⟨c10, c11, l1⟩ := id T1
  obtain ⟨c20, c21, l2⟩ := id T2
  obtain ⟨c30, c31, l3⟩ := id T3
  obtain ⟨c40, c41, l4⟩ := id T4
  obtain ⟨c50, c51, l5⟩ := id T5
  go_wp2_with fail
  refine (known_any _).mono ?_; rintro e w12 ⟨rfl, hb⟩
  clear c00 c01 l0 c10 c11 l1 c20 c21 l2 c30 c31 l3 c40 c41 l4 c50 c51 l5
  replace T0 := T0.call hb
  replace T1 := T1.call hb
  replace T2 := T2.call hb
  replace T3 := T3.call hb
  replace T4 := T4.call hb
  replace T5 := T5.call hb
  replace hB := BelowOn hB hb
  clear hb
  obtain ⟨c00, c01, l0⟩ := id T0
  obtain ⟨c10, c11, l1⟩ := id T1
  obtain ⟨c20, c21, l2⟩ := id T2
  obtain ⟨c30, c31, l3⟩ := id T3
  obtain ⟨c40, c41, l4⟩ := id T4
  obtain ⟨c50, c51, l5⟩ := id T5
  go_wp2_with fail
  go_ret
  exact ⟨rfl, hB⟩

theorem order_gt_d (a0 a1 a2 a3 a4 a5 : Int) (x y z t p q : Rat) (w : World) (HX : Hid (∀ w, Calls Try.prog 27 #[.int .i64 a0, .int .i64 a1, .int .i64 900] w fun e w' => e = .returned (.agg #[.int .i64 x.num, .int .i64 (x.den : Int)]) ∧ Below w.heap.size w w')) (HY : Hid (∀ w, Calls Try.prog 27 #[.int .i64 a2, .int .i64 a3, .int .i64 900] w fun e w' => e = .returned (.agg #[.int .i64 x.num, .int .i64 (y.den : Int)]) ∧ Below w.heap.size w w')) (HZ : Hid (∀ w, Calls Try.prog 27 #[.int .i64 a4, .int .i64 a5, .int .i64 900] w fun e w' => e = .returned (.agg #[.int .i64 z.num, .int .i64 (z.den : Int)]) ∧ Below w.heap.size w w'))
    (H1 : Hid (∀ w, Calls Try.prog 19 #[.agg #[.int .i64 x.num, .int .i64 (x.den : Int)], .agg #[.int .i64 x.num, .int .i64 (y.den : Int)]] w fun e w' => e = .returned (.int .i64 1) ∧ Below w.heap.size w w'))
    (H2 : Hid (∀ w, Calls Try.prog 19 #[.agg #[.int .i64 x.num, .int .i64 (y.den : Int)], .agg #[.int .i64 x.num, .int .i64 (x.den : Int)]] w fun e w' => e = .returned (.int .i64 (-1)) ∧ Below w.heap.size w w'))
    (H5 : Hid (∀ w, Calls Try.prog 25 #[.agg #[.int .i64 x.num, .int .i64 (x.den : Int)], .agg #[.int .i64 x.num, .int .i64 (y.den : Int)]] w (GotQ t w))) (H6 : Hid (∀ w, Calls Try.prog 15 #[.agg #[.int .i64 x.num, .int .i64 (x.den : Int)], .agg #[.int .i64 z.num, .int .i64 (z.den : Int)]] w (GotQ p w))) (H7 : Hid (∀ w, Calls Try.prog 15 #[.agg #[.int .i64 x.num, .int .i64 (y.den : Int)], .agg #[.int .i64 z.num, .int .i64 (z.den : Int)]] w (GotQ q w)))
    (H8 : Hid (∀ w, Calls Try.prog 19 #[.agg #[.int .i64 t.num, .int .i64 (t.den : Int)], .agg #[.int .i64 0, .int .i64 1]] w fun e w' => e = .returned (.int .i64 1) ∧ Below w.heap.size w w')) (H9 : Hid (∀ w, Calls Try.prog 19 #[.agg #[.int .i64 p.num, .int .i64 (p.den : Int)], .agg #[.int .i64 q.num, .int .i64 (q.den : Int)]] w fun e w' => e = .returned (.int .i64 1) ∧ Below w.heap.size w w'))
    (hne : ¬ (x.den : Int) = (y.den : Int)) :
    Calls Try.prog 10 #[.int .i64 a0, .int .i64 a1, .int .i64 a2, .int .i64 a3, .int .i64 a4, .int .i64 a5] w fun e w' => e = .returned (.bool true) ∧ Below w.heap.size w w' := by
  go_enter Try.func10, Try.ntmps10
  go_wp2_with fail
  refine (HX.out _).mono ?_; rintro e w1 ⟨rfl, hb⟩
  have hB := BelowOn (Below.refl _ w) hb
  clear hb
  go_wp2_with fail
  refine (HY.out _).mono ?_; rintro e w2 ⟨rfl, hb⟩
  replace hB := BelowOn hB hb
  clear hb
  go_wp2_with fail
  refine (HZ.out _).mono ?_; rintro e w3 ⟨rfl, hb⟩
  replace hB := BelowOn hB hb
  clear hb
  go_wp2_with fail
  refine (H1.out _).mono ?_; rintro e w4 ⟨rfl, hb⟩
  have T0 := (((twoNew _ (w3.heap.size) (.int .i64 x.num) (.int .i64 (x.den : Int)) (by simp)).alloc _).alloc _).call hb
  have T1 := ((twoNew _ (w3.heap.size + 1) (.int .i64 x.num) (.int .i64 (y.den : Int)) (by simp)).alloc _).call hb
  have T2 := (twoNew _ (w3.heap.size + 2) (.int .i64 z.num) (.int .i64 (z.den : Int)) (by simp)).call hb
  replace hB := BelowOn (blw (blw (blw hB _) _) _) hb
  clear hb
  obtain ⟨c00, c01, l0⟩ := id T0
  obtain ⟨c10, c11, l1⟩ := id T1
  obtain ⟨c20, c21, l2⟩ := id T2
  go_wp2_with fail
  refine (H2.out _).mono ?_; rintro e w5 ⟨rfl, hb⟩
  clear c00 c01 l0 c10 c11 l1 c20 c21 l2
  replace T0 := T0.call hb
  replace T1 := T1.call hb
  replace T2 := T2.call hb
  replace hB := BelowOn hB hb
  clear hb
  obtain ⟨c00, c01, l0⟩ := id T0
  obtain ⟨c10, c11, l1⟩ := id T1
  obtain ⟨c20, c21, l2⟩ := id T2
  go_wp2_with fail
  refine (H5.out _).mono ?_; rintro e w6 ⟨rfl, hb⟩
  clear c00 c01 l0 c10 c11 l1 c20 c21 l2
  replace T0 := T0.call hb
  replace T1 := T1.call hb
  replace T2 := T2.call hb
  replace hB := BelowOn hB hb
  clear hb
  obtain ⟨c00, c01, l0⟩ := id T0
  obtain ⟨c10, c11, l1⟩ := id T1
  obtain ⟨c20, c21, l2⟩ := id T2
  go_wp2_with fail
  refine (H6.out _).mono ?_; rintro e w7 ⟨rfl, hb⟩
  clear c00 c01 l0 c10 c11 l1 c20 c21 l2
  replace T0 := (T0.alloc _).call hb
  replace T1 := (T1.alloc _).call hb
  replace T2 := (T2.alloc _).call hb
  have T3 := (twoNew _ (w6.heap.size) (.int .i64 t.num) (.int .i64 (t.den : Int)) (by simp)).call hb
  replace hB := BelowOn (blw hB _) hb
  clear hb
  obtain ⟨c00, c01, l0⟩ := id T0
  obtain ⟨c10, c11, l1⟩ := id T1
  obtain ⟨c20, c21, l2⟩ := id T2
  obtain ⟨c30, c31, l3⟩ := id T3
  go_wp2_with fail
  refine (H7.out _).mono ?_; rintro e w8 ⟨rfl, hb⟩
  clear c00 c01 l0 c10 c11 l1 c20 c21 l2 c30 c31 l3
  replace T0 := (T0.alloc _).call hb
  replace T1 := (T1.alloc _).call hb
  replace T2 := (T2.alloc _).call hb
  replace T3 := (T3.alloc _).call hb
  have T4 := (twoNew _ (w7.heap.size) (.int .i64 p.num) (.int .i64 (p.den : Int)) (by simp)).call hb
  replace hB := BelowOn (blw hB _) hb
  clear hb
  obtain ⟨c00, c01, l0⟩ := id T0
  obtain ⟨c10, c11, l1⟩ := id T1
  obtain ⟨c20, c21, l2⟩ := id T2
  obtain ⟨c30, c31, l3⟩ := id T3
  obtain ⟨c40, c41, l4⟩ := id T4
  go_wp2_with fail
  refine (H8.out _).mono ?_; rintro e w9 ⟨rfl, hb⟩
  clear c00 c01 l0 c10 c11 l1 c20 c21 l2 c30 c31 l3 c40 c41 l4
  replace T0 := (T0.alloc _).call hb
  replace T1 := (T1.alloc _).call hb
  replace T2 := (T2.alloc _).call hb
  replace T3 := (T3.alloc _).call hb
  replace T4 := (T4.alloc _).call hb
  have T5 := (twoNew _ (w8.heap.size) (.int .i64 q.num) (.int .i64 (q.den : Int)) (by simp)).call hb
  replace hB := BelowOn (blw hB _) hb
  clear hb
  obtain ⟨c00, c01, l0⟩ := id T0
  obtain ⟨c10, c11, l1⟩ := id T1
  obtain ⟨c20, c21, l2⟩ := id T2
  obtain ⟨c30, c31, l3⟩ := id T3
  obtain ⟨c40, c41, l4⟩ := id T4
  obtain ⟨c50, c51, l5⟩ := id T5
  go_wp2_with fail
  refine (H9.out _).mono ?_; rintro e w10 ⟨rfl, hb⟩
  clear c00 c01 l0 c10 c11 l1 c20 c21 l2 c30 c31 l3 c40 c41 l4 c50 c51 l5
  replace T0 := T0.call hb
  replace T1 := T1.call hb
  replace T2 := T2.call hb
  replace T3 := T3.call hb
  replace T4 := T4.call hb
  replace T5 := T5.call hb
  replace hB := BelowOn hB hb
  clear hb
  obtain ⟨c00, c01, l0⟩ := id T0
  obtain ⟨c10, c11, l1⟩ := id T1
  obtain ⟨c20, c21, l2⟩ := id T2
  obtain ⟨c30, c31, l3⟩ := id T3
  obtain ⟨c40, c41, l4⟩ := id T4
  obtain ⟨c50, c51, l5⟩ := id T5
  go_wp2_with fail
  refine (known_any _).mono ?_; rintro e w11 ⟨rfl, hb⟩
  clear c00 c01 l0 c10 c11 l1 c20 c21 l2 c30 c31 l3 c40 c41 l4 c50 c51 l5
  replace T0 := T0.call hb
  replace T1 := T1.call hb
  replace T2 := T2.call hb
  replace T3 := T3.call hb
  replace T4 := T4.call hb
  replace T5 := T5.call hb
  replace hB := BelowOn hB hb
  clear hb
  obtain ⟨c00, c01, l0⟩ := id T0
  obtain ⟨c10, c11, l1⟩ := id T1
  obtain ⟨c20, c21, l2⟩ := id T2
  obtain ⟨c30, c31, l3⟩ := id T3
  obtain ⟨c40, c41, l4⟩ := id T4
  obtain ⟨c50, c51, l5⟩ := id T5
  go_wp2_with fail
  go_ret
  exact ⟨rfl, hB⟩

theorem order_lt_lt_d (a0 a1 a2 a3 a4 a5 : Int) (x y z t p q : Rat) (w : World) (HX : Hid (∀ w, Calls Try.prog 27 #[.int .i64 a0, .int .i64 a1, .int .i64 900] w fun e w' => e = .returned (.agg #[.int .i64 x.num, .int .i64 (x.den : Int)]) ∧ Below w.heap.size w w')) (HY : Hid (∀ w, Calls Try.prog 27 #[.int .i64 a2, .int .i64 a3, .int .i64 900] w fun e w' => e = .returned (.agg #[.int .i64 x.num, .int .i64 (y.den : Int)]) ∧ Below w.heap.size w w')) (HZ : Hid (∀ w, Calls Try.prog 27 #[.int .i64 a4, .int .i64 a5, .int .i64 900] w fun e w' => e = .returned (.agg #[.int .i64 z.num, .int .i64 (z.den : Int)]) ∧ Below w.heap.size w w'))
    (H1 : Hid (∀ w, Calls Try.prog 19 #[.agg #[.int .i64 x.num, .int .i64 (x.den : Int)], .agg #[.int .i64 x.num, .int .i64 (y.den : Int)]] w fun e w' => e = .returned (.int .i64 (-1)) ∧ Below w.heap.size w w'))
    (H2 : Hid (∀ w, Calls Try.prog 19 #[.agg #[.int .i64 x.num, .int .i64 (y.den : Int)], .agg #[.int .i64 x.num, .int .i64 (x.den : Int)]] w fun e w' => e = .returned (.int .i64 1) ∧ Below w.heap.size w w'))
    (H3 : Hid (∀ w, Calls Try.prog 19 #[.agg #[.int .i64 x.num, .int .i64 (y.den : Int)], .agg #[.int .i64 z.num, .int .i64 (z.den : Int)]] w fun e w' => e = .returned (.int .i64 (-1)) ∧ Below w.heap.size w w'))
    (H4 : Hid (∀ w, Calls Try.prog 19 #[.agg #[.int .i64 x.num, .int .i64 (x.den : Int)], .agg #[.int .i64 z.num, .int .i64 (z.den : Int)]] w fun e w' => e = .returned (.int .i64 (-1)) ∧ Below w.heap.size w w'))
    (H5 : Hid (∀ w, Calls Try.prog 25 #[.agg #[.int .i64 x.num, .int .i64 (x.den : Int)], .agg #[.int .i64 x.num, .int .i64 (y.den : Int)]] w (GotQ t w))) (H6 : Hid (∀ w, Calls Try.prog 15 #[.agg #[.int .i64 x.num, .int .i64 (x.den : Int)], .agg #[.int .i64 z.num, .int .i64 (z.den : Int)]] w (GotQ p w))) (H7 : Hid (∀ w, Calls Try.prog 15 #[.agg #[.int .i64 x.num, .int .i64 (y.den : Int)], .agg #[.int .i64 z.num, .int .i64 (z.den : Int)]] w (GotQ q w)))
    (H8 : Hid (∀ w, Calls Try.prog 19 #[.agg #[.int .i64 t.num, .int .i64 (t.den : Int)], .agg #[.int .i64 0, .int .i64 1]] w fun e w' => e = .returned (.int .i64 (-1)) ∧ Below w.heap.size w w')) (H9 : Hid (∀ w, Calls Try.prog 19 #[.agg #[.int .i64 p.num, .int .i64 (p.den : Int)], .agg #[.int .i64 q.num, .int .i64 (q.den : Int)]] w fun e w' => e = .returned (.int .i64 (-1)) ∧ Below w.heap.size w w'))
    (hne : ¬ (x.den : Int) = (y.den : Int)) :
    Calls Try.prog 10 #[.int .i64 a0, .int .i64 a1, .int .i64 a2, .int .i64 a3, .int .i64 a4, .int .i64 a5] w fun e w' => e = .returned (.bool true) ∧ Below w.heap.size w w' := by
  go_enter Try.func10, Try.ntmps10
  go_wp2_with fail
  refine (HX.out _).mono ?_; rintro e w1 ⟨rfl, hb⟩
  have hB := BelowOn (Below.refl _ w) hb
  clear hb
  go_wp2_with fail
  refine (HY.out _).mono ?_; rintro e w2 ⟨rfl, hb⟩
  replace hB := BelowOn hB hb
  clear hb
  go_wp2_with fail
  refine (HZ.out _).mono ?_; rintro e w3 ⟨rfl, hb⟩
  replace hB := BelowOn hB hb
  clear hb
  go_wp2_with fail
  refine (H1.out _).mono ?_; rintro e w4 ⟨rfl, hb⟩
  have T0 := (((twoNew _ (w3.heap.size) (.int .i64 x.num) (.int .i64 (x.den : Int)) (by simp)).alloc _).alloc _).call hb
  have T1 := ((twoNew _ (w3.heap.size + 1) (.int .i64 x.num) (.int .i64 (y.den : Int)) (by simp)).alloc _).call hb
  have T2 := (twoNew _ (w3.heap.size + 2) (.int .i64 z.num) (.int .i64 (z.den : Int)) (by simp)).call hb
  replace hB := BelowOn (blw (blw (blw hB _) _) _) hb
  clear hb
  obtain ⟨c00, c01, l0⟩ := id T0
  obtain ⟨c10, c11, l1⟩ := id T1
  obtain ⟨c20, c21, l2⟩ := id T2
  go_wp2_with fail
  refine (H2.out _).mono ?_; rintro e w5 ⟨rfl, hb⟩
  clear c00 c01 l0 c10 c11 l1 c20 c21 l2
  replace T0 := T0.call hb
  replace T1 := T1.call hb
  replace T2 := T2.call hb
  replace hB := BelowOn hB hb
  clear hb
  obtain ⟨c00, c01, l0⟩ := id T0
  obtain ⟨c10, c11, l1⟩ := id T1
  obtain ⟨c20, c21, l2⟩ := id T2
  go_wp2_with fail
  refine (H3.out _).mono ?_; rintro e w6 ⟨rfl, hb⟩
  clear c00 c01 l0 c10 c11 l1 c20 c21 l2
  replace T0 := T0.call hb
  replace T1 := T1.call hb
  replace T2 := T2.call hb
  replace hB := BelowOn hB hb
  clear hb
  obtain ⟨c00, c01, l0⟩ := id T0
  obtain ⟨c10, c11, l1⟩ := id T1
  obtain ⟨c20, c21, l2⟩ := id T2
  go_wp2_with fail
  refine (H4.out _).mono ?_; rintro e w7 ⟨rfl, hb⟩
  clear c00 c01 l0 c10 c11 l1 c20 c21 l2
  replace T0 := T0.call hb
  replace T1 := T1.call hb
  replace T2 := T2.call hb
  replace hB := BelowOn hB hb
  clear hb
  obtain ⟨c00, c01, l0⟩ := id T0
  obtain ⟨c10, c11, l1⟩ := id T1
  obtain ⟨c20, c21, l2⟩ := id T2
  go_wp2_with fail
  refine (H5.out _).mono ?_; rintro e w8 ⟨rfl, hb⟩
  clear c00 c01 l0 c10 c11 l1 c20 c21 l2
  replace T0 := T0.call hb
  replace T1 := T1.call hb
  replace T2 := T2.call hb
  replace hB := BelowOn hB hb
  clear hb
  obtain ⟨c00, c01, l0⟩ := id T0
  obtain ⟨c10, c11, l1⟩ := id T1
  obtain ⟨c20, c21, l2⟩ := id T2
  go_wp2_with fail
  refine (H6.out _).mono ?_; rintro e w9 ⟨rfl, hb⟩
  clear c00 c01 l0 c10 c11 l1 c20 c21 l2
  replace T0 := (T0.alloc _).call hb
  replace T1 := (T1.alloc _).call hb
  replace T2 := (T2.alloc _).call hb
  have T3 := (twoNew _ (w8.heap.size) (.int .i64 t.num) (.int .i64 (t.den : Int)) (by simp)).call hb
  replace hB := BelowOn (blw hB _) hb
  clear hb
  obtain ⟨c00, c01, l0⟩ := id T0
  obtain ⟨c10, c11, l1⟩ := id T1
  obtain ⟨c20, c21, l2⟩ := id T2
  obtain ⟨c30, c31, l3⟩ := id T3
  go_wp2_with fail
  refine (H7.out _).mono ?_; rintro e w10 ⟨rfl, hb⟩
  clear c00 c01 l0 c10 c11 l1 c20 c21 l2 c30 c31 l3
  replace T0 := (T0.alloc _).call hb
  replace T1 := (T1.alloc _).call hb
  replace T2 := (T2.alloc _).call hb
  replace T3 := (T3.alloc _).call hb
  have T4 := (twoNew _ (w9.heap.size) (.int .i64 p.num) (.int .i64 (p.den : Int)) (by simp)).call hb
  replace hB := BelowOn (blw hB _) hb
  clear hb
  obtain ⟨c00, c01, l0⟩ := id T0
  obtain ⟨c10, c11, l1⟩ := id T1
  obtain ⟨c20, c21, l2⟩ := id T2
  obtain ⟨c30, c31, l3⟩ := id T3
  obtain ⟨c40, c41, l4⟩ := id T4
  go_wp2_with fail
  refine (H8.out _).mono ?_; rintro e w11 ⟨rfl, hb⟩
  clear c00 c01 l0 c10 c11 l1 c20 c21 l2 c30 c31 l3 c40 c41 l4
  replace T0 := (T0.alloc _).call hb
  replace T1 := (T1.alloc _).call hb
  replace T2 := (T2.alloc _).call hb
  replace T3 := (T3.alloc _).call hb
  replace T4 := (T4.alloc _).call hb
  have T5 := (twoNew _ (w10.heap.size) (.int .i64 q.num) (.int .i64 (q.den : Int)) (by simp)).call hb
  replace hB := BelowOn (blw hB _) hb
  clear hb
  obtain ⟨c00, c01, l0⟩ := id T0
  obtain ⟨c10, c11, l1⟩ := id T1
  obtain ⟨c20, c21, l2⟩ := id T2
  obtain ⟨c30, c31, l3⟩ := id T3
  obtain ⟨c40, c41, l4⟩ := id T4
  obtain ⟨c50, c51, l5⟩ := id T5
  go_wp2_with fail
  refine (H9.out _).mono ?_; rintro e w12 ⟨rfl, hb⟩
  clear c00 c01 l0 c10 c11 l1 c20 c21 l2 c30 c31 l3 c40 c41 l4 c50 c51 l5
  replace T0 := T0.call hb
  replace T1 := T1.call hb
  replace T2 := T2.call hb
  replace T3 := T3.call hb
  replace T4 := T4.call hb
  replace T5 := T5.call hb
  replace hB := BelowOn hB hb
  clear hb
  obtain ⟨c00, c01, l0⟩ := id T0
  obtain ⟨c10, c11, l1⟩ := id T1
  obtain ⟨c20, c21, l2⟩ := id T2
  obtain ⟨c30, c31, l3⟩ := id T3
  obtain ⟨c40, c41, l4⟩ := id T4
  obtain ⟨c50, c51, l5⟩ := id T5
  go_wp2_with fail
  refine (known_any _).mono ?_; rintro e w13 ⟨rfl, hb⟩
  clear c00 c01 l0 c10 c11 l1 c20 c21 l2 c30 c31 l3 c40 c41 l4 c50 c51 l5
  replace T0 := T0.call hb
  replace T1 := T1.call hb
  replace T2 := T2.call hb
  replace T3 := T3.call hb
  replace T4 := T4.call hb
  replace T5 := T5.call hb
  replace hB := BelowOn hB hb
  clear hb
  obtain ⟨c00, c01, l0⟩ := id T0
  obtain ⟨c10, c11, l1⟩ := id T1
  obtain ⟨c20, c21, l2⟩ := id T2
  obtain ⟨c30, c31, l3⟩ := id T3
  obtain ⟨c40, c41, l4⟩ := id T4
  obtain ⟨c50, c51, l5⟩ := id T5
  go_wp2_with fail
  go_ret
  exact ⟨rfl, hB⟩

theorem order_lt_eq_d (a0 a1 a2 a3 a4 a5 : Int) (x y z t p q : Rat) (w : World) (HX : Hid (∀ w, Calls Try.prog 27 #[.int .i64 a0, .int .i64 a1, .int .i64 900] w fun e w' => e = .returned (.agg #[.int .i64 x.num, .int .i64 (x.den : Int)]) ∧ Below w.heap.size w w')) (HY : Hid (∀ w, Calls Try.prog 27 #[.int .i64 a2, .int .i64 a3, .int .i64 900] w fun e w' => e = .returned (.agg #[.int .i64 x.num, .int .i64 (y.den : Int)]) ∧ Below w.heap.size w w')) (HZ : Hid (∀ w, Calls Try.prog 27 #[.int .i64 a4, .int .i64 a5, .int .i64 900] w fun e w' => e = .returned (.agg #[.int .i64 z.num, .int .i64 (z.den : Int)]) ∧ Below w.heap.size w w'))
    (H1 : Hid (∀ w, Calls Try.prog 19 #[.agg #[.int .i64 x.num, .int .i64 (x.den : Int)], .agg #[.int .i64 x.num, .int .i64 (y.den : Int)]] w fun e w' => e = .returned (.int .i64 (-1)) ∧ Below w.heap.size w w'))
    (H2 : Hid (∀ w, Calls Try.prog 19 #[.agg #[.int .i64 x.num, .int .i64 (y.den : Int)], .agg #[.int .i64 x.num, .int .i64 (x.den : Int)]] w fun e w' => e = .returned (.int .i64 1) ∧ Below w.heap.size w w'))
    (H3 : Hid (∀ w, Calls Try.prog 19 #[.agg #[.int .i64 x.num, .int .i64 (y.den : Int)], .agg #[.int .i64 z.num, .int .i64 (z.den : Int)]] w fun e w' => e = .returned (.int .i64 0) ∧ Below w.heap.size w w'))
    (H5 : Hid (∀ w, Calls Try.prog 25 #[.agg #[.int .i64 x.num, .int .i64 (x.den : Int)], .agg #[.int .i64 x.num, .int .i64 (y.den : Int)]] w (GotQ t w))) (H6 : Hid (∀ w, Calls Try.prog 15 #[.agg #[.int .i64 x.num, .int .i64 (x.den : Int)], .agg #[.int .i64 z.num, .int .i64 (z.den : Int)]] w (GotQ p w))) (H7 : Hid (∀ w, Calls Try.prog 15 #[.agg #[.int .i64 x.num, .int .i64 (y.den : Int)], .agg #[.int .i64 z.num, .int .i64 (z.den : Int)]] w (GotQ q w)))
    (H8 : Hid (∀ w, Calls Try.prog 19 #[.agg #[.int .i64 t.num, .int .i64 (t.den : Int)], .agg #[.int .i64 0, .int .i64 1]] w fun e w' => e = .returned (.int .i64 (-1)) ∧ Below w.heap.size w w')) (H9 : Hid (∀ w, Calls Try.prog 19 #[.agg #[.int .i64 p.num, .int .i64 (p.den : Int)], .agg #[.int .i64 q.num, .int .i64 (q.den : Int)]] w fun e w' => e = .returned (.int .i64 (-1)) ∧ Below w.heap.size w w'))
    (hne : ¬ (x.den : Int) = (y.den : Int)) :
    Calls Try.prog 10 #[.int .i64 a0, .int .i64 a1, .int .i64 a2, .int .i64 a3, .int .i64 a4, .int .i64 a5] w fun e w' => e = .returned (.bool true) ∧ Below w.heap.size w w' := by
  go_enter Try.func10, Try.ntmps10
  go_wp2_with fail
  refine (HX.out _).mono ?_; rintro e w1 ⟨rfl, hb⟩
  have hB := BelowOn (Below.refl _ w) hb
  clear hb
  go_wp2_with fail
  refine (HY.out _).mono ?_; rintro e w2 ⟨rfl, hb⟩
  replace hB := BelowOn hB hb
  clear hb
  go_wp2_with fail
  refine (HZ.out _).mono ?_; rintro e w3 ⟨rfl, hb⟩
  replace hB := BelowOn hB hb
  clear hb
  go_wp2_with fail
  refine (H1.out _).mono ?_; rintro e w4 ⟨rfl, hb⟩
  have T0 := (((twoNew _ (w3.heap.size) (.int .i64 x.num) (.int .i64 (x.den : Int)) (by simp)).alloc _).alloc _).call hb
  have T1 := ((twoNew _ (w3.heap.size + 1) (.int .i64 x.num) (.int .i64 (y.den : Int)) (by simp)).alloc _).call hb
  have T2 := (twoNew _ (w3.heap.size + 2) (.int .i64 z.num) (.int .i64 (z.den : Int)) (by simp)).call hb
  replace hB := BelowOn (blw (blw (blw hB _) _) _) hb
  clear hb
  obtain ⟨c00, c01, l0⟩ := id T0
  obtain ⟨c10, c11, l1⟩ := id T1
  obtain ⟨c20, c21, l2⟩ := id T2
  go_wp2_with fail
  refine (H2.out _).mono ?_; rintro e w5 ⟨rfl, hb⟩
  clear c00 c01 l0 c10 c11 l1 c20 c21 l2
  replace T0 := T0.call hb
  replace T1 := T1.call hb
  replace T2 := T2.call hb
  replace hB := BelowOn hB hb
  clear hb
  obtain ⟨c00, c01, l0⟩ := id T0
  obtain ⟨c10, c11, l1⟩ := id T1
  obtain ⟨c20, c21, l2⟩ := id T2
  go_wp2_with fail
  refine (H3.out _).mono ?_; rintro e w6 ⟨rfl, hb⟩
  clear c00 c01 l0 c10 c11 l1 c20 c21 l2
  replace T0 := T0.call hb
  replace T1 := T1.call hb
  replace T2 := T2.call hb
  replace hB := BelowOn hB hb
  clear hb
  obtain ⟨c00, c01, l0⟩ := id T0
  obtain ⟨c10, c11, l1⟩ := id T1
  obtain ⟨c20, c21, l2⟩ := id T2
  go_wp2_with fail
  refine (H5.out _).mono ?_; rintro e w7 ⟨rfl, hb⟩
  clear c00 c01 l0 c10 c11 l1 c20 c21 l2
  replace T0 := T0.call hb
  replace T1 := T1.call hb
  replace T2 := T2.call hb
  replace hB := BelowOn hB hb
  clear hb
  obtain ⟨c00, c01, l0⟩ := id T0
  obtain ⟨c10, c11, l1⟩ := id T1
  obtain ⟨c20, c21, l2⟩ := id T2
  go_wp2_with fail
  refine (H6.out _).mono ?_; rintro e w8 ⟨rfl, hb⟩
  clear c00 c01 l0 c10 c11 l1 c20 c21 l2
  replace T0 := (T0.alloc _).call hb
  replace T1 := (T1.alloc _).call hb
  replace T2 := (T2.alloc _).call hb
  have T3 := (twoNew _ (w7.heap.size) (.int .i64 t.num) (.int .i64 (t.den : Int)) (by simp)).call hb
  replace hB := BelowOn (blw hB _) hb
  clear hb
  obtain ⟨c00, c01, l0⟩ := id T0
  obtain ⟨c10, c11, l1⟩ := id T1
  obtain ⟨c20, c21, l2⟩ := id T2
  obtain ⟨c30, c31, l3⟩ := id T3
  go_wp2_with fail
  refine (H7.out _).mono ?_; rintro e w9 ⟨rfl, hb⟩
  clear c00 c01 l0 c10 c11 l1 c20 c21 l2 c30 c31 l3
  replace T0 := (T0.alloc _).call hb
  replace T1 := (T1.alloc _).call hb
  replace T2 := (T2.alloc _).call hb
  replace T3 := (T3.alloc _).call hb
  have T4 := (twoNew _ (w8.heap.size) (.int .i64 p.num) (.int .i64 (p.den : Int)) (by simp)).call hb
  replace hB := BelowOn (blw hB _) hb
  clear hb
  obtain ⟨c00, c01, l0⟩ := id T0
  obtain ⟨c10, c11, l1⟩ := id T1
  obtain ⟨c20, c21, l2⟩ := id T2
  obtain ⟨c30, c31, l3⟩ := id T3
  obtain ⟨c40, c41, l4⟩ := id T4
  go_wp2_with fail
  refine (H8.out _).mono ?_; rintro e w10 ⟨rfl, hb⟩
  clear c00 c01 l0 c10 c11 l1 c20 c21 l2 c30 c31 l3 c40 c41 l4
  replace T0 := (T0.alloc _).call hb
  replace T1 := (T1.alloc _).call hb
  replace T2 := (T2.alloc _).call hb
  replace T3 := (T3.alloc _).call hb
  replace T4 := (T4.alloc _).call hb
  have T5 := (twoNew _ (w9.heap.size) (.int .i64 q.num) (.int .i64 (q.den : Int)) (by simp)).call hb
  replace hB := BelowOn (blw hB _) hb
  clear hb
  obtain ⟨c00, c01, l0⟩ := id T0
  obtain ⟨c10, c11, l1⟩ := id T1
  obtain ⟨c20, c21, l2⟩ := id T2
  obtain ⟨c30, c31, l3⟩ := id T3
  obtain ⟨c40, c41, l4⟩ := id T4
  obtain ⟨c50, c51, l5⟩ := id T5
  go_wp2_with fail
  refine (H9.out _).mono ?_; rintro e w11 ⟨rfl, hb⟩
  clear c00 c01 l0 c10 c11 l1 c20 c21 l2 c30 c31 l3 c40 c41 l4 c50 c51 l5
  replace T0 := T0.call hb
  replace T1 := T1.call hb
  replace T2 := T2.call hb
  replace T3 := T3.call hb
  replace T4 := T4.call hb
  replace T5 := T5.call hb
  replace hB := BelowOn hB hb
  clear hb
  obtain ⟨c00, c01, l0⟩ := id T0
  obtain ⟨c10, c11, l1⟩ := id T1
  obtain ⟨c20, c21, l2⟩ := id T2
  obtain ⟨c30, c31, l3⟩ := id T3
  obtain ⟨c40, c41, l4⟩ := id T4
  obtain ⟨c50, c51, l5⟩ := id T5
  go_wp2_with fail
  refine (known_any _).mono ?_; rintro e w12 ⟨rfl, hb⟩
  clear c00 c01 l0 c10 c11 l1 c20 c21 l2 c30 c31 l3 c40 c41 l4 c50 c51 l5
  replace T0 := T0.call hb
  replace T1 := T1.call hb
  replace T2 := T2.call hb
  replace T3 := T3.call hb
  replace T4 := T4.call hb
  replace T5 := T5.call hb
  replace hB := BelowOn hB hb
  clear hb
  obtain ⟨c00, c01, l0⟩ := id T0
  obtain ⟨c10, c11, l1⟩ := id T1
  obtain ⟨c20, c21, l2⟩ := id T2
  obtain ⟨c30, c31, l3⟩ := id T3
  obtain ⟨c40, c41, l4⟩ := id T4
  obtain ⟨c50, c51, l5⟩ := id T5
  go_wp2_with fail
  go_ret
  exact ⟨rfl, hB⟩

theorem order_lt_gt_d (a0 a1 a2 a3 a4 a5 : Int) (x y z t p q : Rat) (w : World) (HX : Hid (∀ w, Calls Try.prog 27 #[.int .i64 a0, .int .i64 a1, .int .i64 900] w fun e w' => e = .returned (.agg #[.int .i64 x.num, .int .i64 (x.den : Int)]) ∧ Below w.heap.size w w')) (HY : Hid (∀ w, Calls Try.prog 27 #[.int .i64 a2, .int .i64 a3, .int .i64 900] w fun e w' => e = .returned (.agg #[.int .i64 x.num, .int .i64 (y.den : Int)]) ∧ Below w.heap.size w w')) (HZ : Hid (∀ w, Calls Try.prog 27 #[.int .i64 a4, .int .i64 a5, .int .i64 900] w fun e w' => e = .returned (.agg #[.int .i64 z.num, .int .i64 (z.den : Int)]) ∧ Below w.heap.size w w'))
    (H1 : Hid (∀ w, Calls Try.prog 19 #[.agg #[.int .i64 x.num, .int .i64 (x.den : Int)], .agg #[.int .i64 x.num, .int .i64 (y.den : Int)]] w fun e w' => e = .returned (.int .i64 (-1)) ∧ Below w.heap.size w w'))
    (H2 : Hid (∀ w, Calls Try.prog 19 #[.agg #[.int .i64 x.num, .int .i64 (y.den : Int)], .agg #[.int .i64 x.num, .int .i64 (x.den : Int)]] w fun e w' => e = .returned (.int .i64 1) ∧ Below w.heap.size w w'))
    (H3 : Hid (∀ w, Calls Try.prog 19 #[.agg #[.int .i64 x.num, .int .i64 (y.den : Int)], .agg #[.int .i64 z.num, .int .i64 (z.den : Int)]] w fun e w' => e = .returned (.int .i64 1) ∧ Below w.heap.size w w'))
    (H5 : Hid (∀ w, Calls Try.prog 25 #[.agg #[.int .i64 x.num, .int .i64 (x.den : Int)], .agg #[.int .i64 x.num, .int .i64 (y.den : Int)]] w (GotQ t w))) (H6 : Hid (∀ w, Calls Try.prog 15 #[.agg #[.int .i64 x.num, .int .i64 (x.den : Int)], .agg #[.int .i64 z.num, .int .i64 (z.den : Int)]] w (GotQ p w))) (H7 : Hid (∀ w, Calls Try.prog 15 #[.agg #[.int .i64 x.num, .int .i64 (y.den : Int)], .agg #[.int .i64 z.num, .int .i64 (z.den : Int)]] w (GotQ q w)))
    (H8 : Hid (∀ w, Calls Try.prog 19 #[.agg #[.int .i64 t.num, .int .i64 (t.den : Int)], .agg #[.int .i64 0, .int .i64 1]] w fun e w' => e = .returned (.int .i64 (-1)) ∧ Below w.heap.size w w')) (H9 : Hid (∀ w, Calls Try.prog 19 #[.agg #[.int .i64 p.num, .int .i64 (p.den : Int)], .agg #[.int .i64 q.num, .int .i64 (q.den : Int)]] w fun e w' => e = .returned (.int .i64 (-1)) ∧ Below w.heap.size w w'))
    (hne : ¬ (x.den : Int) = (y.den : Int)) :
    Calls Try.prog 10 #[.int .i64 a0, .int .i64 a1, .int .i64 a2, .int .i64 a3, .int .i64 a4, .int .i64 a5] w fun e w' => e = .returned (.bool true) ∧ Below w.heap.size w w' := by
  go_enter Try.func10, Try.ntmps10
  go_wp2_with fail
  refine (HX.out _).mono ?_; rintro e w1 ⟨rfl, hb⟩
  have hB := BelowOn (Below.refl _ w) hb
  clear hb
  go_wp2_with fail
  refine (HY.out _).mono ?_; rintro e w2 ⟨rfl, hb⟩
  replace hB := BelowOn hB hb
  clear hb
  go_wp2_with fail
  refine (HZ.out _).mono ?_; rintro e w3 ⟨rfl, hb⟩
  replace hB := BelowOn hB hb
  clear hb
  go_wp2_with fail
  refine (H1.out _).mono ?_; rintro e w4 ⟨rfl, hb⟩
  have T0 := (((twoNew _ (w3.heap.size) (.int .i64 x.num) (.int .i64 (x.den : Int)) (by simp)).alloc _).alloc _).call hb
  have T1 := ((twoNew _ (w3.heap.size + 1) (.int .i64 x.num) (.int .i64 (y.den : Int)) (by simp)).alloc _).call hb
  have T2 := (twoNew _ (w3.heap.size + 2) (.int .i64 z.num) (.int .i64 (z.den : Int)) (by simp)).call hb
  replace hB := BelowOn (blw (blw (blw hB _) _) _) hb
  clear hb
  obtain ⟨c00, c01, l0⟩ := id T0
  obtain ⟨c10, c11, l1⟩ := id T1
  obtain ⟨c20, c21, l2⟩ := id T2
  go_wp2_with fail
  refine (H2.out _).mono ?_; rintro e w5 ⟨rfl, hb⟩
  clear c00 c01 l0 c10 c11 l1 c20 c21 l2
  replace T0 := T0.call hb
  replace T1 := T1.call hb
  replace T2 := T2.call hb
  replace hB := BelowOn hB hb
  clear hb
  obtain ⟨c00, c01, l0⟩ := id T0
  obtain ⟨c10, c11, l1⟩ := id T1
  obtain ⟨c20, c21, l2⟩ := id T2
  go_wp2_with fail
  refine (H3.out _).mono ?_; rintro e w6 ⟨rfl, hb⟩
  clear c00 c01 l0 c10 c11 l1 c20 c21 l2
  replace T0 := T0.call hb
  replace T1 := T1.call hb
  replace T2 := T2.call hb
  replace hB := BelowOn hB hb
  clear hb
  obtain ⟨c00, c01, l0⟩ := id T0
  obtain ⟨c10, c11, l1⟩ := id T1
  obtain ⟨c20, c21, l2⟩ := id T2
  go_wp2_with fail
  refine (H5.out _).mono ?_; rintro e w7 ⟨rfl, hb⟩
  clear c00 c01 l0 c10 c11 l1 c20 c21 l2
  replace T0 := T0.call hb
  replace T1 := T1.call hb
  replace T2 := T2.call hb
  replace hB := BelowOn hB hb
  clear hb
  obtain ⟨c00, c01, l0⟩ := id T0
  obtain ⟨c10, c11, l1⟩ := id T1
  obtain ⟨c20, c21, l2⟩ := id T2
  go_wp2_with fail
  refine (H6.out _).mono ?_; rintro e w8 ⟨rfl, hb⟩
  clear c00 c01 l0 c10 c11 l1 c20 c21 l2
  replace T0 := (T0.alloc _).call hb
  replace T1 := (T1.alloc _).call hb
  replace T2 := (T2.alloc _).call hb
  have T3 := (twoNew _ (w7.heap.size) (.int .i64 t.num) (.int .i64 (t.den : Int)) (by simp)).call hb
  replace hB := BelowOn (blw hB _) hb
  clear hb
  obtain ⟨c00, c01, l0⟩ := id T0
  obtain ⟨c10, c11, l1⟩ := id T1
  obtain ⟨c20, c21, l2⟩ := id T2
  obtain ⟨c30, c31, l3⟩ := id T3
  go_wp2_with fail
  refine (H7.out _).mono ?_; rintro e w9 ⟨rfl, hb⟩
  clear c00 c01 l0 c10 c11 l1 c20 c21 l2 c30 c31 l3
  replace T0 := (T0.alloc _).call hb
  replace T1 := (T1.alloc _).call hb
  replace T2 := (T2.alloc _).call hb
  replace T3 := (T3.alloc _).call hb
  have T4 := (twoNew _ (w8.heap.size) (.int .i64 p.num) (.int .i64 (p.den : Int)) (by simp)).call hb
  replace hB := BelowOn (blw hB _) hb
  clear hb
  obtain ⟨c00, c01, l0⟩ := id T0
  obtain ⟨c10, c11, l1⟩ := id T1
  obtain ⟨c20, c21, l2⟩ := id T2
  obtain ⟨c30, c31, l3⟩ := id T3
  obtain ⟨c40, c41, l4⟩ := id T4
  go_wp2_with fail
  refine (H8.out _).mono ?_; rintro e w10 ⟨rfl, hb⟩
  clear c00 c01 l0 c10 c11 l1 c20 c21 l2 c30 c31 l3 c40 c41 l4
  replace T0 := (T0.alloc _).call hb
  replace T1 := (T1.alloc _).call hb
  replace T2 := (T2.alloc _).call hb
  replace T3 := (T3.alloc _).call hb
  replace T4 := (T4.alloc _).call hb
  have T5 := (twoNew _ (w9.heap.size) (.int .i64 q.num) (.int .i64 (q.den : Int)) (by simp)).call hb
  replace hB := BelowOn (blw hB _) hb
  clear hb
  obtain ⟨c00, c01, l0⟩ := id T0
  obtain ⟨c10, c11, l1⟩ := id T1
  obtain ⟨c20, c21, l2⟩ := id T2
  obtain ⟨c30, c31, l3⟩ := id T3
  obtain ⟨c40, c41, l4⟩ := id T4
  obtain ⟨c50, c51, l5⟩ := id T5
  go_wp2_with fail
  refine (H9.out _).mono ?_; rintro e w11 ⟨rfl, hb⟩
  clear c00 c01 l0 c10 c11 l1 c20 c21 l2 c30 c31 l3 c40 c41 l4 c50 c51 l5
  replace T0 := T0.call hb
  replace T1 := T1.call hb
  replace T2 := T2.call hb
  replace T3 := T3.call hb
  replace T4 := T4.call hb
  replace T5 := T5.call hb
  replace hB := BelowOn hB hb
  clear hb
  obtain ⟨c00, c01, l0⟩ := id T0
  obtain ⟨c10, c11, l1⟩ := id T1
  obtain ⟨c20, c21, l2⟩ := id T2
  obtain ⟨c30, c31, l3⟩ := id T3
  obtain ⟨c40, c41, l4⟩ := id T4
  obtain ⟨c50, c51, l5⟩ := id T5
  go_wp2_with fail
  refine (known_any _).mono ?_; rintro e w12 ⟨rfl, hb⟩
  clear c00 c01 l0 c10 c11 l1 c20 c21 l2 c30 c31 l3 c40 c41 l4 c50 c51 l5
  replace T0 := T0.call hb
  replace T1 := T1.call hb
  replace T2 := T2.call hb
  replace T3 := T3.call hb
  replace T4 := T4.call hb
  replace T5 := T5.call hb
  replace hB := BelowOn hB hb
  clear hb
  obtain ⟨c00, c01, l0⟩ := id T0
  obtain ⟨c10, c11, l1⟩ := id T1
  obtain ⟨c20, c21, l2⟩ := id T2
  obtain ⟨c30, c31, l3⟩ := id T3
  obtain ⟨c40, c41, l4⟩ := id T4
  obtain ⟨c50, c51, l5⟩ := id T5
  go_wp2_with fail
  go_ret
  exact ⟨rfl, hB⟩

theorem walk (a0 : Int) (a1 : Int) (a2 : Int) (a3 : Int) (a4 : Int) (a5 : Int) (w : World) (w0 : (Lit.int .i64 a0).wf = true) (w1 : (Lit.int .i64 a1).wf = true) (w2 : (Lit.int .i64 a2).wf = true) (w3 : (Lit.int .i64 a3).wf = true) (w4 : (Lit.int .i64 a4).wf = true) (w5 : (Lit.int .i64 a5).wf = true) :
    Calls Try.prog 10 #[.int .i64 a0, .int .i64 a1, .int .i64 a2, .int .i64 a3, .int .i64 a4, .int .i64 a5] w fun e w' => e = .returned (.bool true) ∧ Below w.heap.size w w' := by
  obtain ⟨x, x1, x2, x3, HX⟩ := some_hid a0 a1 900 (by omega) (by omega) w0 w1
  obtain ⟨y, y1, y2, y3, HY⟩ := some_hid a2 a3 900 (by omega) (by omega) w2 w3
  obtain ⟨z, z1, z2, z3, HZ⟩ := some_hid a4 a5 900 (by omega) (by omega) w4 w5
  have sx : small x 900 900 := ⟨by omega, by omega, x3⟩
  have sy : small y 900 900 := ⟨by omega, by omega, y3⟩
  have sz : small z 900 900 := ⟨by omega, by omega, z3⟩
  have fx := small_fits sx (by omega) (by omega)
  have fy := small_fits sy (by omega) (by omega)
  have fz := small_fits sz (by omega) (by omega)
  have ft := small_fits (small_sub sx sy (M := 1620000) (N := 810000) (by omega) (by omega)) (by omega) (by omega)
  have fp := small_fits (small_add sx sz (M := 1620000) (N := 810000) (by omega) (by omega)) (by omega) (by omega)
  have fq := small_fits (small_add sy sz (M := 1620000) (N := 810000) (by omega) (by omega)) (by omega) (by omega)
  have h5 := fun w => sub_got x y w fx fy ft
  have h6 := fun w => add_got x z w fx fz fp
  have h7 := fun w => add_got y z w fy fz fq
  have f0 : fits (0 : Rat) = true := by decide
  have HY : Hid (∀ w, Calls Try.prog 27 #[.int .i64 a2, .int .i64 a3, .int .i64 900] w fun e w' => e = .returned (.agg #[.int .i64 y.num, .int .i64 (y.den : Int)]) ∧ Below w.heap.size w w') := HY
  rcases rat_tri x y with h | h | h
  · have hne := ne_two (show x ≠ y from fun e => absurd h (by rw [e]; exact Rat.lt_irrefl))
    have h1 := cmp_lt x y fx fy h
    have h2 := cmp_gt y x fy fx h
    have h8 := cmp_lt (x - y) 0 ft f0 (lt_sub h)
    have h9 := cmp_lt (x + z) (y + z) fp fq (lt_add h)
    rcases rat_tri y z with k | k | k
    · have h3 := cmp_lt y z fy fz k
      rcases hne with hn | ⟨hn, hd⟩
      · exact order_lt_lt_n a0 a1 a2 a3 a4 a5 x y z (x - y) (x + z) (y + z) w HX HY HZ h1 h2 h3 (cmp_lt x z fx fz (lt_trans' h k)) h5 h6 h7 h8 h9 hn
      · rw [hn] at HY h1 h2 h3 h5 h7
        exact order_lt_lt_d a0 a1 a2 a3 a4 a5 x y z (x - y) (x + z) (y + z) w HX HY HZ h1 h2 h3 (cmp_lt x z fx fz (lt_trans' h k)) h5 h6 h7 h8 h9 hd
    · have h3 : ∀ w, Calls Try.prog 19 #[.agg #[.int .i64 y.num, .int .i64 (y.den : Int)], .agg #[.int .i64 z.num, .int .i64 (z.den : Int)]] w fun e w' => e = .returned (.int .i64 0) ∧ Below w.heap.size w w' := by
        rw [k]; exact cmp_eq z fz
      clear k
      rcases hne with hn | ⟨hn, hd⟩
      · exact order_lt_eq_n a0 a1 a2 a3 a4 a5 x y z (x - y) (x + z) (y + z) w HX HY HZ h1 h2 h3 h5 h6 h7 h8 h9 hn
      · rw [hn] at HY h1 h2 h3 h5 h7
        exact order_lt_eq_d a0 a1 a2 a3 a4 a5 x y z (x - y) (x + z) (y + z) w HX HY HZ h1 h2 h3 h5 h6 h7 h8 h9 hd
    · have h3 := cmp_gt y z fy fz k
      rcases hne with hn | ⟨hn, hd⟩
      · exact order_lt_gt_n a0 a1 a2 a3 a4 a5 x y z (x - y) (x + z) (y + z) w HX HY HZ h1 h2 h3 h5 h6 h7 h8 h9 hn
      · rw [hn] at HY h1 h2 h3 h5 h7
        exact order_lt_gt_d a0 a1 a2 a3 a4 a5 x y z (x - y) (x + z) (y + z) w HX HY HZ h1 h2 h3 h5 h6 h7 h8 h9 hd
  · subst h
    exact order_eq a0 a1 a2 a3 a4 a5 x z (x - x) (x + z) w HX HY HZ (cmp_eq x fx) h5 h6 (by have := cmp_eq (0 : Rat) f0; rw [Rat.sub_self]; exact this) (cmp_eq (x + z) fp)
  · have hne := ne_two (show x ≠ y from fun e => absurd h (by rw [e]; exact Rat.lt_irrefl))
    have h1 := cmp_gt x y fx fy h
    have h2 := cmp_lt y x fy fx h
    rcases hne with hn | ⟨hn, hd⟩
    · exact order_gt_n a0 a1 a2 a3 a4 a5 x y z (x - y) (x + z) (y + z) w HX HY HZ h1 h2 h5 h6 h7 (cmp_gt (x - y) 0 ft f0 (gt_sub h)) (cmp_gt (x + z) (y + z) fp fq (lt_add h)) hn
    · rw [hn] at HY h1 h2 h5 h7
      exact order_gt_d a0 a1 a2 a3 a4 a5 x y z (x - y) (x + z) (y + z) w HX HY HZ h1 h2 h5 h6 h7 (cmp_gt (x - y) 0 ft f0 (gt_sub h)) (cmp_gt (x + z) (y + z) fp fq (lt_add h)) hd

set_option maxRecDepth 100000 in
theorem lifted (os : Os) (started : os.Started) (H : Type) (enc : TypeId × Value → H) :
    ReturnsInHanded {} Try.checked os 10 .any (Rows.ratioOrderSpec.pre6 enc Try.prog Try.f10 Rows.ratioOrderRow.domain false) (Rows.ratioOrderSpec.post enc Try.prog Try.f10 false true false false) := by
  refine returnsInHanded_of_change (C := Try.checked) own started (by kernel_rfl) Try.func10
    (ChangeSpec.witness6 (enc := enc) (C := Try.checked) false ⟨#[], #[.int .i64 0, .int .i64 0, .int .i64 0, .int .i64 0, .int .i64 0, .int .i64 0], []⟩ 8 (by kernel_rfl) (by kernel_rfl) (by kernel_rfl) (by kernel_rfl)) ?_
  intro W base args ds gs before hval0 hW hcnd _
  have hval : ∀ (j : Nat) t v, Try.f10.params[j]? = some t → args[j]? = some v → Value.okWide Try.prog W .any base t v := hval0
  have hW' := hW
  obtain ⟨p, q, hA0, hV, rfl, hfz, hnd⟩ := hW
  have hA : DataW.TrodAll enc Try.prog W 0 (fun _ => true) true Try.f10.params.toList args.toList ds p := hA0
  rw [Try.params10] at hA hval
  obtain ⟨v0, vs0, d0, ds0, p0, q0, hargs, rfl, rfl, h0, r0⟩ := trodAll_cons hA
  obtain ⟨v1, vs1, d1, ds1, p1, q1, rfl, rfl, rfl, h1, r1⟩ := trodAll_cons r0
  obtain ⟨v2, vs2, d2, ds2, p2, q2, rfl, rfl, rfl, h2, r2⟩ := trodAll_cons r1
  obtain ⟨v3, vs3, d3, ds3, p3, q3, rfl, rfl, rfl, h3, r3⟩ := trodAll_cons r2
  obtain ⟨v4, vs4, d4, ds4, p4, q4, rfl, rfl, rfl, h4, r4⟩ := trodAll_cons r3
  obtain ⟨v5, vs5, d5, ds5, p5, q5, rfl, rfl, rfl, h5, r5⟩ := trodAll_cons r4
  obtain ⟨rfl, rfl, rfl⟩ := trodAll_nil r5
  obtain rfl : args = #[v0, v1, v2, v3, v4, v5] := by cases args; simp_all
  obtain ⟨rfl, rfl⟩ := trodVars_none hV
  obtain ⟨a0, rfl, rfl, rfl, w0⟩ := open_int Try.underlying3 (hval 0 3 v0 rfl rfl) h0
  obtain ⟨a1, rfl, rfl, rfl, w1⟩ := open_int Try.underlying3 (hval 1 3 v1 rfl rfl) h1
  obtain ⟨a2, rfl, rfl, rfl, w2⟩ := open_int Try.underlying3 (hval 2 3 v2 rfl rfl) h2
  obtain ⟨a3, rfl, rfl, rfl, w3⟩ := open_int Try.underlying3 (hval 3 3 v3 rfl rfl) h3
  obtain ⟨a4, rfl, rfl, rfl, w4⟩ := open_int Try.underlying3 (hval 4 3 v4 rfl rfl) h4
  obtain ⟨a5, rfl, rfl, rfl, w5⟩ := open_int Try.underlying3 (hval 5 3 v5 rfl rfl) h5
  clear hA0 hval0
  refine (walk a0 a1 a2 a3 a4 a5 W w0 w1 w2 w3 w4 w5).mono fun e W' ⟨he, bel⟩ => ?_
  subst he
  exact ⟨_, rfl, _, _, _, [], _, [], hW', trodAll_mk1 (shut_bool Try.underlying4 _), (trodAll_cons_mk (shut_int Try.underlying3 w0) (trodAll_cons_mk (shut_int Try.underlying3 w1) (trodAll_cons_mk (shut_int Try.underlying3 w2) (trodAll_cons_mk (shut_int Try.underlying3 w3) (trodAll_cons_mk (shut_int Try.underlying3 w4) (trodAll_cons_mk (shut_int Try.underlying3 w5) trodAll_mk0)))))), rfl, bel.frame _, fun h => by cases h⟩

theorem over : Rows.ratioOrderRow.holds Try.pinned (OpenSpec.ofChange Rows.ratioOrderSpec) :=
  OpenClaim.holds_of_wide 10 Try.f10 rfl rfl rfl rfl rfl rfl rfl ⟨rfl, rfl, rfl, rfl, rfl⟩ rfl rfl rfl rfl rfl (by kernel_rfl) Try.func10 (by kernel_rfl)
    (of_decide_eq_true (by kernel_rfl)) (by unfold Func.isWrapper; first | (rw [if_pos (by decide +kernel)]; kernel_rfl) | (rw [if_neg (by decide +kernel)]; exact ⟨rfl, rfl⟩))
    (fun os started H enc _ => lifted os started H enc)

theorem proved : Rows.RatioOrderSaid := over
#print axioms proved
end Go.Proofs.Ytfhppadcaoggeaa.ratioOrder
