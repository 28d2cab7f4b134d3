/- The law RatioArithmetic holds for every input. -/
import Derived.Test.YtfhppadcaoggeaaRows
import Derived.WalkKit
import Derived.ProofKit
import Derived.OpenShut
import Derived.ChangeOld
import Derived.Below
import Derived.Test.YtfhppadcaoggeaaKeep
namespace Go.Proofs.Ytfhppadcaoggeaa.ratioArithmetic
open Go.ChangeShapes Go.WideShapes Go.ChangeAt Go.RowKit
set_option linter.unusedVariables false

theorem own : ownKnob Try.prog.godebug = none := by kernel_rfl
theorem laidOut : laidOutB Try.prog = true := by kernel_rfl

theorem keep8 {w W w1 : World} {e0 e1 e2 e3 e4 e5 e6 e7 : Nat} {x0 y0 x1 y1 x2 y2 x3 y3 x4 y4 x5 y5 x6 y6 x7 y7 : Value} (hb : Below W.heap.size W w1)
    (h : (W.cell? ⟨e0, 0, none⟩ = some (x0) ∧ W.cell? ⟨e0, 1, none⟩ = some (y0) ∧ e0 < W.heap.size) ∧ (W.cell? ⟨e1, 0, none⟩ = some (x1) ∧ W.cell? ⟨e1, 1, none⟩ = some (y1) ∧ e1 < W.heap.size) ∧ (W.cell? ⟨e2, 0, none⟩ = some (x2) ∧ W.cell? ⟨e2, 1, none⟩ = some (y2) ∧ e2 < W.heap.size) ∧ (W.cell? ⟨e3, 0, none⟩ = some (x3) ∧ W.cell? ⟨e3, 1, none⟩ = some (y3) ∧ e3 < W.heap.size) ∧ (W.cell? ⟨e4, 0, none⟩ = some (x4) ∧ W.cell? ⟨e4, 1, none⟩ = some (y4) ∧ e4 < W.heap.size) ∧ (W.cell? ⟨e5, 0, none⟩ = some (x5) ∧ W.cell? ⟨e5, 1, none⟩ = some (y5) ∧ e5 < W.heap.size) ∧ (W.cell? ⟨e6, 0, none⟩ = some (x6) ∧ W.cell? ⟨e6, 1, none⟩ = some (y6) ∧ e6 < W.heap.size) ∧ (W.cell? ⟨e7, 0, none⟩ = some (x7) ∧ W.cell? ⟨e7, 1, none⟩ = some (y7) ∧ e7 < W.heap.size) ∧ Below w.heap.size w W) : (w1.cell? ⟨e0, 0, none⟩ = some (x0) ∧ w1.cell? ⟨e0, 1, none⟩ = some (y0) ∧ e0 < w1.heap.size) ∧ (w1.cell? ⟨e1, 0, none⟩ = some (x1) ∧ w1.cell? ⟨e1, 1, none⟩ = some (y1) ∧ e1 < w1.heap.size) ∧ (w1.cell? ⟨e2, 0, none⟩ = some (x2) ∧ w1.cell? ⟨e2, 1, none⟩ = some (y2) ∧ e2 < w1.heap.size) ∧ (w1.cell? ⟨e3, 0, none⟩ = some (x3) ∧ w1.cell? ⟨e3, 1, none⟩ = some (y3) ∧ e3 < w1.heap.size) ∧ (w1.cell? ⟨e4, 0, none⟩ = some (x4) ∧ w1.cell? ⟨e4, 1, none⟩ = some (y4) ∧ e4 < w1.heap.size) ∧ (w1.cell? ⟨e5, 0, none⟩ = some (x5) ∧ w1.cell? ⟨e5, 1, none⟩ = some (y5) ∧ e5 < w1.heap.size) ∧ (w1.cell? ⟨e6, 0, none⟩ = some (x6) ∧ w1.cell? ⟨e6, 1, none⟩ = some (y6) ∧ e6 < w1.heap.size) ∧ (w1.cell? ⟨e7, 0, none⟩ = some (x7) ∧ w1.cell? ⟨e7, 1, none⟩ = some (y7) ∧ e7 < w1.heap.size) ∧ Below w.heap.size w w1 := by
  obtain ⟨⟨p0, q0, r0⟩, ⟨p1, q1, r1⟩, ⟨p2, q2, r2⟩, ⟨p3, q3, r3⟩, ⟨p4, q4, r4⟩, ⟨p5, q5, r5⟩, ⟨p6, q6, r6⟩, ⟨p7, q7, r7⟩, hB⟩ := h
  have f : ∀ (b : Nat) (x y : Value), W.cell? ⟨b, 0, none⟩ = some x → W.cell? ⟨b, 1, none⟩ = some y → b < W.heap.size → w1.cell? ⟨b, 0, none⟩ = some x ∧ w1.cell? ⟨b, 1, none⟩ = some y ∧ b < w1.heap.size := fun b x y p q r => by
    obtain ⟨s, t, u⟩ := (Two.mk p q r).call hb
    exact ⟨s, t, u⟩
  exact ⟨f _ _ _ p0 q0 r0, f _ _ _ p1 q1 r1, f _ _ _ p2 q2 r2, f _ _ _ p3 q3 r3, f _ _ _ p4 q4 r4, f _ _ _ p5 q5 r5, f _ _ _ p6 q6 r6, f _ _ _ p7 q7 r7, BelowOn hB hb⟩
theorem keep8Start {w W : World} {e0 e1 e2 e3 e4 e5 e6 e7 : Nat} {x0 y0 x1 y1 x2 y2 x3 y3 x4 y4 x5 y5 x6 y6 x7 y7 : Value} (p0 : Two W e0 x0 y0) (p1 : Two W e1 x1 y1) (p2 : Two W e2 x2 y2) (p3 : Two W e3 x3 y3) (p4 : Two W e4 x4 y4) (p5 : Two W e5 x5 y5) (p6 : Two W e6 x6 y6) (p7 : Two W e7 x7 y7) (hB : Below w.heap.size w W) :
    (W.drew.cell? ⟨e0, 0, none⟩ = some (x0) ∧ W.drew.cell? ⟨e0, 1, none⟩ = some (y0) ∧ e0 < W.drew.heap.size) ∧ (W.drew.cell? ⟨e1, 0, none⟩ = some (x1) ∧ W.drew.cell? ⟨e1, 1, none⟩ = some (y1) ∧ e1 < W.drew.heap.size) ∧ (W.drew.cell? ⟨e2, 0, none⟩ = some (x2) ∧ W.drew.cell? ⟨e2, 1, none⟩ = some (y2) ∧ e2 < W.drew.heap.size) ∧ (W.drew.cell? ⟨e3, 0, none⟩ = some (x3) ∧ W.drew.cell? ⟨e3, 1, none⟩ = some (y3) ∧ e3 < W.drew.heap.size) ∧ (W.drew.cell? ⟨e4, 0, none⟩ = some (x4) ∧ W.drew.cell? ⟨e4, 1, none⟩ = some (y4) ∧ e4 < W.drew.heap.size) ∧ (W.drew.cell? ⟨e5, 0, none⟩ = some (x5) ∧ W.drew.cell? ⟨e5, 1, none⟩ = some (y5) ∧ e5 < W.drew.heap.size) ∧ (W.drew.cell? ⟨e6, 0, none⟩ = some (x6) ∧ W.drew.cell? ⟨e6, 1, none⟩ = some (y6) ∧ e6 < W.drew.heap.size) ∧ (W.drew.cell? ⟨e7, 0, none⟩ = some (x7) ∧ W.drew.cell? ⟨e7, 1, none⟩ = some (y7) ∧ e7 < W.drew.heap.size) ∧ Below w.heap.size w W.drew :=
  ⟨⟨p0.c0, p0.c1, p0.lt⟩, ⟨p1.c0, p1.c1, p1.lt⟩, ⟨p2.c0, p2.c1, p2.lt⟩, ⟨p3.c0, p3.c1, p3.lt⟩, ⟨p4.c0, p4.c1, p4.lt⟩, ⟨p5.c0, p5.c1, p5.lt⟩, ⟨p6.c0, p6.c1, p6.lt⟩, ⟨p7.c0, p7.c1, p7.lt⟩, hB.drew⟩

set_option maxHeartbeats 4000000 in
set_option maxRecDepth 100000 in
theorem arith (a0 b0 a1 b1 n1 d1 n2 d2 n3 d3 r : Int) (t1 t2 t3 : Bool) (w : World)
    (H15 : Hid (∀ w, Calls Try.prog 15 #[.agg #[.int .i64 a0, .int .i64 b0], .agg #[.int .i64 a1, .int .i64 b1]] w fun e w' => e = .returned (.tuple #[.agg #[.int .i64 n1, .int .i64 d1], .bool t1]) ∧ Below w.heap.size w w')) (H16 : Hid (∀ w, Calls Try.prog 16 #[.agg #[.int .i64 a0, .int .i64 b0], .agg #[.int .i64 a1, .int .i64 b1]] w fun e w' => e = .returned (.tuple #[.agg #[.int .i64 n1, .int .i64 d1], .bool t1]) ∧ Below w.heap.size w w'))
    (H25 : Hid (∀ w, Calls Try.prog 25 #[.agg #[.int .i64 a0, .int .i64 b0], .agg #[.int .i64 a1, .int .i64 b1]] w fun e w' => e = .returned (.tuple #[.agg #[.int .i64 n2, .int .i64 d2], .bool t2]) ∧ Below w.heap.size w w')) (H26 : Hid (∀ w, Calls Try.prog 26 #[.agg #[.int .i64 a0, .int .i64 b0], .agg #[.int .i64 a1, .int .i64 b1]] w fun e w' => e = .returned (.tuple #[.agg #[.int .i64 n2, .int .i64 d2], .bool t2]) ∧ Below w.heap.size w w'))
    (H17 : Hid (∀ w, Calls Try.prog 17 #[.agg #[.int .i64 a0, .int .i64 b0], .agg #[.int .i64 a1, .int .i64 b1]] w fun e w' => e = .returned (.tuple #[.agg #[.int .i64 n3, .int .i64 d3], .bool t3]) ∧ Below w.heap.size w w')) (H18 : Hid (∀ w, Calls Try.prog 18 #[.agg #[.int .i64 a0, .int .i64 b0], .agg #[.int .i64 a1, .int .i64 b1]] w fun e w' => e = .returned (.tuple #[.agg #[.int .i64 n3, .int .i64 d3], .bool t3]) ∧ Below w.heap.size w w'))
    (H19 : Hid (∀ w, Calls Try.prog 19 #[.agg #[.int .i64 a0, .int .i64 b0], .agg #[.int .i64 a1, .int .i64 b1]] w fun e w' => e = .returned (.int .i64 r) ∧ Below w.heap.size w w')) (H20 : Hid (∀ w, Calls Try.prog 20 #[.agg #[.int .i64 a0, .int .i64 b0], .agg #[.int .i64 a1, .int .i64 b1]] w fun e w' => e = .returned (.int .i64 r) ∧ Below w.heap.size w w')) :
    Calls Try.prog 6 #[.agg #[.int .i64 a0, .int .i64 b0], .agg #[.int .i64 a1, .int .i64 b1]] w fun e w' => e = .returned (.bool true) ∧ Below w.heap.size w w' := by
  go_enter Try.func6, Try.ntmps6
  go_wp2_with fail
  refine (H15.out _).mono ?_; rintro e w1 ⟨rfl, hb⟩
  have T0 := ((twoNew _ (w.heap.size) (.int .i64 a0) (.int .i64 b0) (by simp)).alloc _).call hb
  have T1 := (twoNew _ (w.heap.size + 1) (.int .i64 a1) (.int .i64 b1) (by simp)).call hb
  have hB := BelowOn (blw (blw (Below.refl _ w) _) _) hb
  clear hb
  obtain ⟨c00, c01, l0⟩ := id T0
  obtain ⟨c10, c11, l1⟩ := id T1
  go_wp2_with fail
  refine (H16.out _).mono ?_; rintro e w2 ⟨rfl, hb⟩
  clear c00 c01 l0 c10 c11 l1
  replace T0 := (T0.alloc _).call hb
  replace T1 := (T1.alloc _).call hb
  have T2 := (twoNew _ (w1.heap.size) (.int .i64 n1) (.int .i64 d1) (by simp)).call hb
  replace hB := BelowOn (blw hB _) hb
  clear hb
  obtain ⟨c00, c01, l0⟩ := id T0
  obtain ⟨c10, c11, l1⟩ := id T1
  obtain ⟨c20, c21, l2⟩ := id T2
  go_wp2_with fail
  refine (H25.out _).mono ?_; rintro e w3 ⟨rfl, hb⟩
  clear c00 c01 l0 c10 c11 l1 c20 c21 l2
  replace T0 := (T0.alloc _).call hb
  replace T1 := (T1.alloc _).call hb
  replace T2 := (T2.alloc _).call hb
  have T3 := (twoNew _ (w2.heap.size) (.int .i64 n1) (.int .i64 d1) (by simp)).call hb
  replace hB := BelowOn (blw hB _) hb
  clear hb
  obtain ⟨c00, c01, l0⟩ := id T0
  obtain ⟨c10, c11, l1⟩ := id T1
  obtain ⟨c20, c21, l2⟩ := id T2
  obtain ⟨c30, c31, l3⟩ := id T3
  go_wp2_with fail
  refine (H26.out _).mono ?_; rintro e w4 ⟨rfl, hb⟩
  clear c00 c01 l0 c10 c11 l1 c20 c21 l2 c30 c31 l3
  replace T0 := (T0.alloc _).call hb
  replace T1 := (T1.alloc _).call hb
  replace T2 := (T2.alloc _).call hb
  replace T3 := (T3.alloc _).call hb
  have T4 := (twoNew _ (w3.heap.size) (.int .i64 n2) (.int .i64 d2) (by simp)).call hb
  replace hB := BelowOn (blw hB _) hb
  clear hb
  obtain ⟨c00, c01, l0⟩ := id T0
  obtain ⟨c10, c11, l1⟩ := id T1
  obtain ⟨c20, c21, l2⟩ := id T2
  obtain ⟨c30, c31, l3⟩ := id T3
  obtain ⟨c40, c41, l4⟩ := id T4
  go_wp2_with fail
  refine (H17.out _).mono ?_; rintro e w5 ⟨rfl, hb⟩
  clear c00 c01 l0 c10 c11 l1 c20 c21 l2 c30 c31 l3 c40 c41 l4
  replace T0 := (T0.alloc _).call hb
  replace T1 := (T1.alloc _).call hb
  replace T2 := (T2.alloc _).call hb
  replace T3 := (T3.alloc _).call hb
  replace T4 := (T4.alloc _).call hb
  have T5 := (twoNew _ (w4.heap.size) (.int .i64 n2) (.int .i64 d2) (by simp)).call hb
  replace hB := BelowOn (blw hB _) hb
  clear hb
  obtain ⟨c00, c01, l0⟩ := id T0
  obtain ⟨c10, c11, l1⟩ := id T1
  obtain ⟨c20, c21, l2⟩ := id T2
  obtain ⟨c30, c31, l3⟩ := id T3
  obtain ⟨c40, c41, l4⟩ := id T4
  obtain ⟨c50, c51, l5⟩ := id T5
  go_wp2_with fail
  refine (H18.out _).mono ?_; rintro e w6 ⟨rfl, hb⟩
  clear c00 c01 l0 c10 c11 l1 c20 c21 l2 c30 c31 l3 c40 c41 l4 c50 c51 l5
  replace T0 := (T0.alloc _).call hb
  replace T1 := (T1.alloc _).call hb
  replace T2 := (T2.alloc _).call hb
  replace T3 := (T3.alloc _).call hb
  replace T4 := (T4.alloc _).call hb
  replace T5 := (T5.alloc _).call hb
  have T6 := (twoNew _ (w5.heap.size) (.int .i64 n3) (.int .i64 d3) (by simp)).call hb
  replace hB := BelowOn (blw hB _) hb
  clear hb
  obtain ⟨c00, c01, l0⟩ := id T0
  obtain ⟨c10, c11, l1⟩ := id T1
  obtain ⟨c20, c21, l2⟩ := id T2
  obtain ⟨c30, c31, l3⟩ := id T3
  obtain ⟨c40, c41, l4⟩ := id T4
  obtain ⟨c50, c51, l5⟩ := id T5
  obtain ⟨c60, c61, l6⟩ := id T6
  go_wp2_with fail
  clear c00 c01 l0 c10 c11 l1 c20 c21 l2 c30 c31 l3 c40 c41 l4 c50 c51 l5 c60 c61 l6
  go_region_held3 (fun w' => (w'.cell? ⟨w.heap.size, 0, none⟩ = some (.int .i64 a0) ∧ w'.cell? ⟨w.heap.size, 1, none⟩ = some (.int .i64 b0) ∧ w.heap.size < w'.heap.size) ∧ (w'.cell? ⟨w.heap.size + 1, 0, none⟩ = some (.int .i64 a1) ∧ w'.cell? ⟨w.heap.size + 1, 1, none⟩ = some (.int .i64 b1) ∧ w.heap.size + 1 < w'.heap.size) ∧ (w'.cell? ⟨w1.heap.size, 0, none⟩ = some (.int .i64 n1) ∧ w'.cell? ⟨w1.heap.size, 1, none⟩ = some (.int .i64 d1) ∧ w1.heap.size < w'.heap.size) ∧ (w'.cell? ⟨w2.heap.size, 0, none⟩ = some (.int .i64 n1) ∧ w'.cell? ⟨w2.heap.size, 1, none⟩ = some (.int .i64 d1) ∧ w2.heap.size < w'.heap.size) ∧ (w'.cell? ⟨w3.heap.size, 0, none⟩ = some (.int .i64 n2) ∧ w'.cell? ⟨w3.heap.size, 1, none⟩ = some (.int .i64 d2) ∧ w3.heap.size < w'.heap.size) ∧ (w'.cell? ⟨w4.heap.size, 0, none⟩ = some (.int .i64 n2) ∧ w'.cell? ⟨w4.heap.size, 1, none⟩ = some (.int .i64 d2) ∧ w4.heap.size < w'.heap.size) ∧ (w'.cell? ⟨w5.heap.size, 0, none⟩ = some (.int .i64 n3) ∧ w'.cell? ⟨w5.heap.size, 1, none⟩ = some (.int .i64 d3) ∧ w5.heap.size < w'.heap.size) ∧ (w'.cell? ⟨w6.heap.size, 0, none⟩ = some (.int .i64 n3) ∧ w'.cell? ⟨w6.heap.size, 1, none⟩ = some (.int .i64 d3) ∧ w6.heap.size < w'.heap.size) ∧ Below w.heap.size w w')
    (first | exact keep8 hb (by assumption) | exact keep8Start (T0.alloc _) (T1.alloc _) (T2.alloc _) (T3.alloc _) (T4.alloc _) (T5.alloc _) (T6.alloc _) (twoNew _ _ _ _ rfl) (blw hB _))
    ((first | (go_at_call 19; refine (H19.out _).mono ?_; rintro e w9 ⟨rfl, hb⟩) | (go_at_call 20; refine (H20.out _).mono ?_; rintro e w9 ⟨rfl, hb⟩) | (go_at_call 24; refine (known_any _).mono ?_; rintro e w9 ⟨rfl, hb⟩)))
  all_goals go_wp2_with fail
  all_goals go_ret
  all_goals exact ⟨rfl, (by assumption : (_ ∧ _ ∧ _) ∧ (_ ∧ _ ∧ _) ∧ (_ ∧ _ ∧ _) ∧ (_ ∧ _ ∧ _) ∧ (_ ∧ _ ∧ _) ∧ (_ ∧ _ ∧ _) ∧ (_ ∧ _ ∧ _) ∧ (_ ∧ _ ∧ _) ∧ Below w.heap.size w _).2.2.2.2.2.2.2.2⟩


theorem walk (a0 b0 : Int) (a1 b1 : Int) (w : World) (w0 : (Lit.int .i64 a0).wf = true) (u0 : (Lit.int .i64 b0).wf = true) (w1 : (Lit.int .i64 a1).wf = true) (u1 : (Lit.int .i64 b1).wf = true) :
    Calls Try.prog 6 #[.agg #[.int .i64 a0, .int .i64 b0], .agg #[.int .i64 a1, .int .i64 b1]] w fun e w' => e = .returned (.bool true) ∧ Below w.heap.size w w' := by
  obtain ⟨v1, v2⟩ : -9223372036854775808 ≤ a1 ∧ a1 ≤ 9223372036854775807 := (Lit.wf_int_iff .i64 a1).1 w1
  have h15 := fun w => add_any a0 b0 a1 b1 w
  have h16 := fun w => radd_any a0 b0 a1 b1 w
  have h25 := fun w => sub_any a0 b0 a1 b1 w v1 v2
  have h26 := fun w => rsub_any a0 b0 a1 b1 w
  have h17 := fun w => mul_any a0 b0 a1 b1 w
  have h18 := fun w => rmul_any a0 b0 a1 b1 w
  exact arith a0 b0 a1 b1 _ _ _ _ _ _ _ _ _ _ w h15 h16 h25 h26 h17 h18 (fun w => compare_any a0 b0 a1 b1 w) (fun w => rcompare_any a0 b0 a1 b1 w)

set_option maxRecDepth 100000 in
theorem lifted (os : Os) (started : os.Started) (H : Type) (enc : TypeId × Value → H) :
    ReturnsInHanded {} Try.checked os 6 .any (Rows.ratioArithmeticSpec.pre6 enc Try.prog Try.f6 Rows.ratioArithmeticRow.domain false) (Rows.ratioArithmeticSpec.post enc Try.prog Try.f6 false true false false) := by
  refine returnsInHanded_of_change (C := Try.checked) own started (by kernel_rfl) Try.func6
    (ChangeSpec.witness6 (enc := enc) (C := Try.checked) false ⟨#[], #[.agg #[.int .i64 0, .int .i64 0], .agg #[.int .i64 0, .int .i64 0]], []⟩ 8 (by kernel_rfl) (by kernel_rfl) (by kernel_rfl) (by kernel_rfl)) ?_
  intro W base args ds gs before hval0 hW hcnd _
  have hval : ∀ (j : Nat) t v, Try.f6.params[j]? = some t → args[j]? = some v → Value.okWide Try.prog W .any base t v := hval0
  have hW' := hW
  obtain ⟨p, q, hA0, hV, rfl, hfz, hnd⟩ := hW
  have hA : DataW.TrodAll enc Try.prog W 0 (fun _ => true) true Try.f6.params.toList args.toList ds p := hA0
  rw [Try.params6] at hA hval
  obtain ⟨v0, vs0, d0, ds0, p0, q0, hargs, rfl, rfl, h0, r0⟩ := trodAll_cons hA
  obtain ⟨v1, vs1, d1, ds1, p1, q1, rfl, rfl, rfl, h1, r1⟩ := trodAll_cons r0
  obtain ⟨rfl, rfl, rfl⟩ := trodAll_nil r1
  obtain rfl : args = #[v0, v1] := by cases args; simp_all
  obtain ⟨rfl, rfl⟩ := trodVars_none hV
  obtain ⟨a0, b0, rfl, rfl, rfl, w0, u0⟩ := open_ratio (hval 0 24 v0 rfl rfl) h0
  obtain ⟨a1, b1, rfl, rfl, rfl, w1, u1⟩ := open_ratio (hval 1 24 v1 rfl rfl) h1
  clear hA0 hval0
  refine (walk a0 b0 a1 b1 W w0 u0 w1 u1).mono fun e W' ⟨he, bel⟩ => ?_
  subst he
  exact ⟨_, rfl, _, _, _, [], _, [], hW', trodAll_mk1 (shut_bool Try.underlying4 _), (trodAll_cons_mk (shut_ratio w0 u0) (trodAll_cons_mk (shut_ratio w1 u1) trodAll_mk0)), rfl, bel.frame _, fun h => by cases h⟩

theorem over : Rows.ratioArithmeticRow.holds Try.pinned (OpenSpec.ofChange Rows.ratioArithmeticSpec) :=
  OpenClaim.holds_of_wide 6 Try.f6 rfl rfl rfl rfl rfl rfl rfl ⟨rfl, rfl, rfl, rfl, rfl⟩ rfl rfl rfl rfl rfl (by kernel_rfl) Try.func6 (by kernel_rfl)
    (of_decide_eq_true (by kernel_rfl)) (by unfold Func.isWrapper; first | (rw [if_pos (by decide +kernel)]; kernel_rfl) | (rw [if_neg (by decide +kernel)]; exact ⟨rfl, rfl⟩))
    (fun os started H enc _ => lifted os started H enc)

theorem proved : Rows.RatioArithmeticSaid := over
#print axioms proved
end Go.Proofs.Ytfhppadcaoggeaa.ratioArithmetic
