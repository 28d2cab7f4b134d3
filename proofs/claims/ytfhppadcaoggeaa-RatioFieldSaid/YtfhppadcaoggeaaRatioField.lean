/- The law RatioField holds for every input. -/
import Derived.Test.YtfhppadcaoggeaaRows
import Derived.WalkKit
import Derived.ProofKit
import Derived.OpenShut
import Derived.ShutString
import Derived.ChangeOld
import Derived.Below
import Derived.Test.YtfhppadcaoggeaaKit
namespace Go.Proofs.Ytfhppadcaoggeaa.ratioField
open Go.ChangeShapes Go.WideShapes Go.ChangeAt Go.RowKit
open Go.ChangeMaps (open_string shut_string)
set_option linter.unusedVariables false

theorem own : ownKnob Try.prog.godebug = none := by kernel_rfl
theorem laidOut : laidOutB Try.prog = true := by kernel_rfl

theorem walk (a0 : Int) (a1 : Int) (a2 : Int) (a3 : Int) (a4 : Int) (a5 : Int) (w : World) (w0 : (Lit.int .i64 a0).wf = true) (w1 : (Lit.int .i64 a1).wf = true) (w2 : (Lit.int .i64 a2).wf = true) (w3 : (Lit.int .i64 a3).wf = true) (w4 : (Lit.int .i64 a4).wf = true) (w5 : (Lit.int .i64 a5).wf = true) :
    Calls Try.prog 7 #[.int .i64 a0, .int .i64 a1, .int .i64 a2, .int .i64 a3, .int .i64 a4, .int .i64 a5] w fun e w' => e = .returned (.bool true) ∧ Below w.heap.size w w' := by
  obtain ⟨x, x1, x2, x3, HX⟩ := some_hid a0 a1 300 (by omega) (by omega) w0 w1
  obtain ⟨y, y1, y2, y3, HY⟩ := some_hid a2 a3 300 (by omega) (by omega) w2 w3
  obtain ⟨z, z1, z2, z3, HZ⟩ := some_hid a4 a5 300 (by omega) (by omega) w4 w5
  clear w0 w1 w2 w3 w4 w5
  have sx : small x 300 300 := ⟨by omega, by omega, x3⟩
  have sy : small y 300 300 := ⟨by omega, by omega, y3⟩
  have sz : small z 300 300 := ⟨by omega, by omega, z3⟩
  have fx := small_fits sx (by omega) (by omega)
  have fy := small_fits sy (by omega) (by omega)
  have fz := small_fits sz (by omega) (by omega)
  have sxy := small_add sx sy (M := 180000) (N := 90000) (by omega) (by omega)
  have syz := small_add sy sz (M := 180000) (N := 90000) (by omega) (by omega)
  have fs := small_fits sxy (by omega) (by omega)
  have fu := small_fits syz (by omega) (by omega)
  have ft := small_fits (small_add sxy sz (M := 81000000) (N := 27000000) (by omega) (by omega)) (by omega) (by omega)
  have fp := small_fits (small_mul sx syz (M := 54000000) (N := 27000000) (by omega) (by omega)) (by omega) (by omega)
  have fm := small_fits (small_mul sx sy (M := 90000) (N := 90000) (by omega) (by omega)) (by omega) (by omega)
  have fk := small_fits (small_mul sx sz (M := 90000) (N := 90000) (by omega) (by omega)) (by omega) (by omega)
  have h1 := fun w => add_got x y w fx fy fs
  have h2 := fun w => add_got y x w fy fx (by rw [Rat.add_comm]; exact fs)
  have h3 := fun w => add_got (x + y) z w fs fz ft
  have h4 := fun w => add_got y z w fy fz fu
  have h5 := fun w => add_got x (y + z) w fx fu (by rw [← Rat.add_assoc]; exact ft)
  have h6 := fun w => mul_got x (y + z) w fx fu fp
  have h7 := fun w => mul_got x y w fx fy fm
  have h8 := fun w => mul_got x z w fx fz fk
  have h9 := fun w => mul_got y x w fy fx (by rw [Rat.mul_comm]; exact fm)
  have h10 := fun w => add_got (x * y) (x * z) w fm fk (by rw [← Rat.mul_add]; exact fp)
  rw [Rat.add_comm y x] at h2
  rw [← Rat.add_assoc] at h5
  rw [Rat.mul_comm y x] at h9
  rw [← Rat.mul_add] at h10
  generalize x * (y + z) = p at *
  generalize x + y + z = t at *
  generalize x + y = s at *
  generalize y + z = u at *
  generalize x * y = m at *
  generalize x * z = k at *
  have H1 := Lib.hid h1; have H2 := Lib.hid h2; have H3 := Lib.hid h3; have H4 := Lib.hid h4; have H5 := Lib.hid h5; have H6 := Lib.hid h6; have H7 := Lib.hid h7; have H8 := Lib.hid h8; have H9 := Lib.hid h9; have H10 := Lib.hid h10
  clear h1 h2 h3 h4 h5 h6 h7 h8 h9 h10 sx sy sz fx fy fz sxy syz fs fu ft fp fm fk x1 x2 x3 y1 y2 y3 z1 z2 z3
  go_enter Try.func7, Try.ntmps7
  go_wp2_with fail
  refine (HX.out _).mono ?_; rintro e w1 ⟨rfl, hb⟩
  have hB := BelowOn (Below.refl _ w) hb
  clear hb
  go_wp2_with fail
  refine (HY.out _).mono ?_; rintro e w2 ⟨rfl, hb⟩
  replace hB := BelowOn hB hb
  clear hb
  go_wp2_with fail
  refine (HZ.out _).mono ?_; rintro e w3 ⟨rfl, hb⟩
  replace hB := BelowOn hB hb
  clear hb
  go_wp2_with fail
  refine (H1.out _).mono ?_; rintro e w4 ⟨rfl, hb⟩
  have T0 := (((twoNew _ (w3.heap.size) (.int .i64 x.num) (.int .i64 (x.den : Int)) (by simp)).alloc _).alloc _).call hb
  have T1 := ((twoNew _ (w3.heap.size + 1) (.int .i64 y.num) (.int .i64 (y.den : Int)) (by simp)).alloc _).call hb
  have T2 := (twoNew _ (w3.heap.size + 2) (.int .i64 z.num) (.int .i64 (z.den : Int)) (by simp)).call hb
  replace hB := BelowOn (blw (blw (blw hB _) _) _) hb
  clear hb
  obtain ⟨c00, c01, l0⟩ := id T0
  obtain ⟨c10, c11, l1⟩ := id T1
  obtain ⟨c20, c21, l2⟩ := id T2
  go_wp2_with fail
  refine (H2.out _).mono ?_; rintro e w5 ⟨rfl, hb⟩
  clear c00 c01 l0 c10 c11 l1 c20 c21 l2
  replace T0 := (T0.alloc _).call hb
  replace T1 := (T1.alloc _).call hb
  replace T2 := (T2.alloc _).call hb
  have T3 := (twoNew _ (w4.heap.size) (.int .i64 s.num) (.int .i64 (s.den : Int)) (by simp)).call hb
  replace hB := BelowOn (blw hB _) hb
  clear hb
  obtain ⟨c00, c01, l0⟩ := id T0
  obtain ⟨c10, c11, l1⟩ := id T1
  obtain ⟨c20, c21, l2⟩ := id T2
  obtain ⟨c30, c31, l3⟩ := id T3
  go_wp2_with fail
  refine (H3.out _).mono ?_; rintro e w6 ⟨rfl, hb⟩
  clear c00 c01 l0 c10 c11 l1 c20 c21 l2 c30 c31 l3
  replace T0 := (T0.alloc _).call hb
  replace T1 := (T1.alloc _).call hb
  replace T2 := (T2.alloc _).call hb
  replace T3 := (T3.alloc _).call hb
  have T4 := (twoNew _ (w5.heap.size) (.int .i64 s.num) (.int .i64 (s.den : Int)) (by simp)).call hb
  replace hB := BelowOn (blw hB _) hb
  clear hb
  obtain ⟨c00, c01, l0⟩ := id T0
  obtain ⟨c10, c11, l1⟩ := id T1
  obtain ⟨c20, c21, l2⟩ := id T2
  obtain ⟨c30, c31, l3⟩ := id T3
  obtain ⟨c40, c41, l4⟩ := id T4
  go_wp2_with fail
  refine (H4.out _).mono ?_; rintro e w7 ⟨rfl, hb⟩
  clear c00 c01 l0 c10 c11 l1 c20 c21 l2 c30 c31 l3 c40 c41 l4
  replace T0 := (T0.alloc _).call hb
  replace T1 := (T1.alloc _).call hb
  replace T2 := (T2.alloc _).call hb
  replace T3 := (T3.alloc _).call hb
  replace T4 := (T4.alloc _).call hb
  have T5 := (twoNew _ (w6.heap.size) (.int .i64 t.num) (.int .i64 (t.den : Int)) (by simp)).call hb
  replace hB := BelowOn (blw hB _) hb
  clear hb
  obtain ⟨c00, c01, l0⟩ := id T0
  obtain ⟨c10, c11, l1⟩ := id T1
  obtain ⟨c20, c21, l2⟩ := id T2
  obtain ⟨c30, c31, l3⟩ := id T3
  obtain ⟨c40, c41, l4⟩ := id T4
  obtain ⟨c50, c51, l5⟩ := id T5
  go_wp2_with fail
  refine (H5.out _).mono ?_; rintro e w8 ⟨rfl, hb⟩
  clear c00 c01 l0 c10 c11 l1 c20 c21 l2 c30 c31 l3 c40 c41 l4 c50 c51 l5
  replace T0 := (T0.alloc _).call hb
  replace T1 := (T1.alloc _).call hb
  replace T2 := (T2.alloc _).call hb
  replace T3 := (T3.alloc _).call hb
  replace T4 := (T4.alloc _).call hb
  replace T5 := (T5.alloc _).call hb
  have T6 := (twoNew _ (w7.heap.size) (.int .i64 u.num) (.int .i64 (u.den : Int)) (by simp)).call hb
  replace hB := BelowOn (blw hB _) hb
  clear hb
  obtain ⟨c00, c01, l0⟩ := id T0
  obtain ⟨c10, c11, l1⟩ := id T1
  obtain ⟨c20, c21, l2⟩ := id T2
  obtain ⟨c30, c31, l3⟩ := id T3
  obtain ⟨c40, c41, l4⟩ := id T4
  obtain ⟨c50, c51, l5⟩ := id T5
  obtain ⟨c60, c61, l6⟩ := id T6
  go_wp2_with fail
  refine (H6.out _).mono ?_; rintro e w9 ⟨rfl, hb⟩
  clear c00 c01 l0 c10 c11 l1 c20 c21 l2 c30 c31 l3 c40 c41 l4 c50 c51 l5 c60 c61 l6
  replace T0 := (T0.alloc _).call hb
  replace T1 := (T1.alloc _).call hb
  replace T2 := (T2.alloc _).call hb
  replace T3 := (T3.alloc _).call hb
  replace T4 := (T4.alloc _).call hb
  replace T5 := (T5.alloc _).call hb
  replace T6 := (T6.alloc _).call hb
  have T7 := (twoNew _ (w8.heap.size) (.int .i64 t.num) (.int .i64 (t.den : Int)) (by simp)).call hb
  replace hB := BelowOn (blw hB _) hb
  clear hb
  obtain ⟨c00, c01, l0⟩ := id T0
  obtain ⟨c10, c11, l1⟩ := id T1
  obtain ⟨c20, c21, l2⟩ := id T2
  obtain ⟨c30, c31, l3⟩ := id T3
  obtain ⟨c40, c41, l4⟩ := id T4
  obtain ⟨c50, c51, l5⟩ := id T5
  obtain ⟨c60, c61, l6⟩ := id T6
  obtain ⟨c70, c71, l7⟩ := id T7
  go_wp2_with fail
  refine (H7.out _).mono ?_; rintro e w10 ⟨rfl, hb⟩
  clear c00 c01 l0 c10 c11 l1 c20 c21 l2 c30 c31 l3 c40 c41 l4 c50 c51 l5 c60 c61 l6 c70 c71 l7
  replace T0 := (T0.alloc _).call hb
  replace T1 := (T1.alloc _).call hb
  replace T2 := (T2.alloc _).call hb
  replace T3 := (T3.alloc _).call hb
  replace T4 := (T4.alloc _).call hb
  replace T5 := (T5.alloc _).call hb
  replace T6 := (T6.alloc _).call hb
  replace T7 := (T7.alloc _).call hb
  have T8 := (twoNew _ (w9.heap.size) (.int .i64 p.num) (.int .i64 (p.den : Int)) (by simp)).call hb
  replace hB := BelowOn (blw hB _) hb
  clear hb
  obtain ⟨c00, c01, l0⟩ := id T0
  obtain ⟨c10, c11, l1⟩ := id T1
  obtain ⟨c20, c21, l2⟩ := id T2
  obtain ⟨c30, c31, l3⟩ := id T3
  obtain ⟨c40, c41, l4⟩ := id T4
  obtain ⟨c50, c51, l5⟩ := id T5
  obtain ⟨c60, c61, l6⟩ := id T6
  obtain ⟨c70, c71, l7⟩ := id T7
  obtain ⟨c80, c81, l8⟩ := id T8
  go_wp2_with fail
  refine (H8.out _).mono ?_; rintro e w11 ⟨rfl, hb⟩
  clear c00 c01 l0 c10 c11 l1 c20 c21 l2 c30 c31 l3 c40 c41 l4 c50 c51 l5 c60 c61 l6 c70 c71 l7 c80 c81 l8
  replace T0 := (T0.alloc _).call hb
  replace T1 := (T1.alloc _).call hb
  replace T2 := (T2.alloc _).call hb
  replace T3 := (T3.alloc _).call hb
  replace T4 := (T4.alloc _).call hb
  replace T5 := (T5.alloc _).call hb
  replace T6 := (T6.alloc _).call hb
  replace T7 := (T7.alloc _).call hb
  replace T8 := (T8.alloc _).call hb
  have T9 := (twoNew _ (w10.heap.size) (.int .i64 m.num) (.int .i64 (m.den : Int)) (by simp)).call hb
  replace hB := BelowOn (blw hB _) hb
  clear hb
  obtain ⟨c00, c01, l0⟩ := id T0
  obtain ⟨c10, c11, l1⟩ := id T1
  obtain ⟨c20, c21, l2⟩ := id T2
  obtain ⟨c30, c31, l3⟩ := id T3
  obtain ⟨c40, c41, l4⟩ := id T4
  obtain ⟨c50, c51, l5⟩ := id T5
  obtain ⟨c60, c61, l6⟩ := id T6
  obtain ⟨c70, c71, l7⟩ := id T7
  obtain ⟨c80, c81, l8⟩ := id T8
  obtain ⟨c90, c91, l9⟩ := id T9
  go_wp2_with fail
  refine (H9.out _).mono ?_; rintro e w12 ⟨rfl, hb⟩
  clear c00 c01 l0 c10 c11 l1 c20 c21 l2 c30 c31 l3 c40 c41 l4 c50 c51 l5 c60 c61 l6 c70 c71 l7 c80 c81 l8 c90 c91 l9
  replace T0 := (T0.alloc _).call hb
  replace T1 := (T1.alloc _).call hb
  replace T2 := (T2.alloc _).call hb
  replace T3 := (T3.alloc _).call hb
  replace T4 := (T4.alloc _).call hb
  replace T5 := (T5.alloc _).call hb
  replace T6 := (T6.alloc _).call hb
  replace T7 := (T7.alloc _).call hb
  replace T8 := (T8.alloc _).call hb
  replace T9 := (T9.alloc _).call hb
  have T10 := (twoNew _ (w11.heap.size) (.int .i64 k.num) (.int .i64 (k.den : Int)) (by simp)).call hb
  replace hB := BelowOn (blw hB _) hb
  clear hb
  obtain ⟨c00, c01, l0⟩ := id T0
  obtain ⟨c10, c11, l1⟩ := id T1
  obtain ⟨c20, c21, l2⟩ := id T2
  obtain ⟨c30, c31, l3⟩ := id T3
  obtain ⟨c40, c41, l4⟩ := id T4
  obtain ⟨c50, c51, l5⟩ := id T5
  obtain ⟨c60, c61, l6⟩ := id T6
  obtain ⟨c70, c71, l7⟩ := id T7
  obtain ⟨c80, c81, l8⟩ := id T8
  obtain ⟨c90, c91, l9⟩ := id T9
  obtain ⟨c100, c101, l10⟩ := id T10
  go_wp2_with fail
  refine (H10.out _).mono ?_; rintro e w13 ⟨rfl, hb⟩
  clear c00 c01 l0 c10 c11 l1 c20 c21 l2 c30 c31 l3 c40 c41 l4 c50 c51 l5 c60 c61 l6 c70 c71 l7 c80 c81 l8 c90 c91 l9 c100 c101 l10
  replace T0 := (T0.alloc _).call hb
  replace T1 := (T1.alloc _).call hb
  replace T2 := (T2.alloc _).call hb
  replace T3 := (T3.alloc _).call hb
  replace T4 := (T4.alloc _).call hb
  replace T5 := (T5.alloc _).call hb
  replace T6 := (T6.alloc _).call hb
  replace T7 := (T7.alloc _).call hb
  replace T8 := (T8.alloc _).call hb
  replace T9 := (T9.alloc _).call hb
  replace T10 := (T10.alloc _).call hb
  have T11 := (twoNew _ (w12.heap.size) (.int .i64 m.num) (.int .i64 (m.den : Int)) (by simp)).call hb
  replace hB := BelowOn (blw hB _) hb
  clear hb
  obtain ⟨c00, c01, l0⟩ := id T0
  obtain ⟨c10, c11, l1⟩ := id T1
  obtain ⟨c20, c21, l2⟩ := id T2
  obtain ⟨c30, c31, l3⟩ := id T3
  obtain ⟨c40, c41, l4⟩ := id T4
  obtain ⟨c50, c51, l5⟩ := id T5
  obtain ⟨c60, c61, l6⟩ := id T6
  obtain ⟨c70, c71, l7⟩ := id T7
  obtain ⟨c80, c81, l8⟩ := id T8
  obtain ⟨c90, c91, l9⟩ := id T9
  obtain ⟨c100, c101, l10⟩ := id T10
  obtain ⟨c110, c111, l11⟩ := id T11
  go_wp2_with fail
  refine (known_any _).mono ?_; rintro e w14 ⟨rfl, hb⟩
  clear c00 c01 l0 c10 c11 l1 c20 c21 l2 c30 c31 l3 c40 c41 l4 c50 c51 l5 c60 c61 l6 c70 c71 l7 c80 c81 l8 c90 c91 l9 c100 c101 l10 c110 c111 l11
  replace T0 := (T0.alloc _).call hb
  replace T1 := (T1.alloc _).call hb
  replace T2 := (T2.alloc _).call hb
  replace T3 := (T3.alloc _).call hb
  replace T4 := (T4.alloc _).call hb
  replace T5 := (T5.alloc _).call hb
  replace T6 := (T6.alloc _).call hb
  replace T7 := (T7.alloc _).call hb
  replace T8 := (T8.alloc _).call hb
  replace T9 := (T9.alloc _).call hb
  replace T10 := (T10.alloc _).call hb
  replace T11 := (T11.alloc _).call hb
  have T12 := (twoNew _ (w13.heap.size) (.int .i64 p.num) (.int .i64 (p.den : Int)) (by simp)).call hb
  replace hB := BelowOn (blw hB _) hb
  clear hb
  obtain ⟨c00, c01, l0⟩ := id T0
  obtain ⟨c10, c11, l1⟩ := id T1
  obtain ⟨c20, c21, l2⟩ := id T2
  obtain ⟨c30, c31, l3⟩ := id T3
  obtain ⟨c40, c41, l4⟩ := id T4
  obtain ⟨c50, c51, l5⟩ := id T5
  obtain ⟨c60, c61, l6⟩ := id T6
  obtain ⟨c70, c71, l7⟩ := id T7
  obtain ⟨c80, c81, l8⟩ := id T8
  obtain ⟨c90, c91, l9⟩ := id T9
  obtain ⟨c100, c101, l10⟩ := id T10
  obtain ⟨c110, c111, l11⟩ := id T11
  obtain ⟨c120, c121, l12⟩ := id T12
  go_wp2_with fail
  go_ret
  exact ⟨rfl, hB⟩

set_option maxRecDepth 100000 in
theorem lifted (os : Os) (started : os.Started) (H : Type) (enc : TypeId × Value → H) :
    ReturnsInHanded {} Try.checked os 7 .any (Rows.ratioFieldSpec.pre6 enc Try.prog Try.f7 Rows.ratioFieldRow.domain false) (Rows.ratioFieldSpec.post enc Try.prog Try.f7 false true false false) := by
  refine returnsInHanded_of_change (C := Try.checked) own started (by kernel_rfl) Try.func7
    (ChangeSpec.witness6 (enc := enc) (C := Try.checked) false ⟨#[], #[.int .i64 0, .int .i64 0, .int .i64 0, .int .i64 0, .int .i64 0, .int .i64 0], []⟩ 8 (by kernel_rfl) (by kernel_rfl) (by kernel_rfl) (by kernel_rfl)) ?_
  intro W base args ds gs before hval0 hW hcnd _
  have hval : ∀ (j : Nat) t v, Try.f7.params[j]? = some t → args[j]? = some v → Value.okWide Try.prog W .any base t v := hval0
  have hW' := hW
  obtain ⟨p, q, hA0, hV, rfl, hfz, hnd⟩ := hW
  have hA : DataW.TrodAll enc Try.prog W 0 (fun _ => true) true Try.f7.params.toList args.toList ds p := hA0
  rw [Try.params7] at hA hval
  obtain ⟨v0, vs0, d0, ds0, p0, q0, hargs, rfl, rfl, h0, r0⟩ := trodAll_cons hA
  obtain ⟨v1, vs1, d1, ds1, p1, q1, rfl, rfl, rfl, h1, r1⟩ := trodAll_cons r0
  obtain ⟨v2, vs2, d2, ds2, p2, q2, rfl, rfl, rfl, h2, r2⟩ := trodAll_cons r1
  obtain ⟨v3, vs3, d3, ds3, p3, q3, rfl, rfl, rfl, h3, r3⟩ := trodAll_cons r2
  obtain ⟨v4, vs4, d4, ds4, p4, q4, rfl, rfl, rfl, h4, r4⟩ := trodAll_cons r3
  obtain ⟨v5, vs5, d5, ds5, p5, q5, rfl, rfl, rfl, h5, r5⟩ := trodAll_cons r4
  obtain ⟨rfl, rfl, rfl⟩ := trodAll_nil r5
  obtain rfl : args = #[v0, v1, v2, v3, v4, v5] := by cases args; simp_all
  obtain ⟨rfl, rfl⟩ := trodVars_none hV
  obtain ⟨a0, rfl, rfl, rfl, w0⟩ := open_int Try.underlying3 (hval 0 3 v0 rfl rfl) h0
  obtain ⟨a1, rfl, rfl, rfl, w1⟩ := open_int Try.underlying3 (hval 1 3 v1 rfl rfl) h1
  obtain ⟨a2, rfl, rfl, rfl, w2⟩ := open_int Try.underlying3 (hval 2 3 v2 rfl rfl) h2
  obtain ⟨a3, rfl, rfl, rfl, w3⟩ := open_int Try.underlying3 (hval 3 3 v3 rfl rfl) h3
  obtain ⟨a4, rfl, rfl, rfl, w4⟩ := open_int Try.underlying3 (hval 4 3 v4 rfl rfl) h4
  obtain ⟨a5, rfl, rfl, rfl, w5⟩ := open_int Try.underlying3 (hval 5 3 v5 rfl rfl) h5
  clear hA0 hval0
  refine (walk a0 a1 a2 a3 a4 a5 W w0 w1 w2 w3 w4 w5).mono fun e W' ⟨he, bel⟩ => ?_
  subst he
  exact ⟨_, rfl, _, _, _, [], _, [], hW', trodAll_mk1 (shut_bool Try.underlying4 _), (trodAll_cons_mk (shut_int Try.underlying3 w0) (trodAll_cons_mk (shut_int Try.underlying3 w1) (trodAll_cons_mk (shut_int Try.underlying3 w2) (trodAll_cons_mk (shut_int Try.underlying3 w3) (trodAll_cons_mk (shut_int Try.underlying3 w4) (trodAll_cons_mk (shut_int Try.underlying3 w5) trodAll_mk0)))))), rfl, bel.frame _, fun h => by cases h⟩

theorem over : Rows.ratioFieldRow.holds Try.pinned (OpenSpec.ofChange Rows.ratioFieldSpec) :=
  OpenClaim.holds_of_wide 7 Try.f7 rfl rfl rfl rfl rfl rfl rfl ⟨rfl, rfl, rfl, rfl, rfl⟩ rfl rfl rfl rfl rfl (by kernel_rfl) Try.func7 (by kernel_rfl)
    (of_decide_eq_true (by kernel_rfl)) (by unfold Func.isWrapper; first | (rw [if_pos (by decide +kernel)]; kernel_rfl) | (rw [if_neg (by decide +kernel)]; exact ⟨rfl, rfl⟩))
    (fun os started H enc _ => lifted os started H enc)

theorem proved : Rows.RatioFieldSaid := over
#print axioms proved
end Go.Proofs.Ytfhppadcaoggeaa.ratioField
