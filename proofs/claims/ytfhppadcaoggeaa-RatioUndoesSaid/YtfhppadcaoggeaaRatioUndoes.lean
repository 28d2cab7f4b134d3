/- The law RatioUndoes holds for every input. -/
import Derived.Test.YtfhppadcaoggeaaRows
import Derived.WalkKit
import Derived.ProofKit
import Derived.OpenShut
import Derived.ShutString
import Derived.ChangeOld
import Derived.Below
import Derived.Test.YtfhppadcaoggeaaKit
namespace Go.Proofs.Ytfhppadcaoggeaa.ratioUndoes
open Go.ChangeShapes Go.WideShapes Go.ChangeAt Go.RowKit
open Go.ChangeMaps (open_string shut_string)
set_option linter.unusedVariables false

theorem own : ownKnob Try.prog.godebug = none := by kernel_rfl
theorem laidOut : laidOutB Try.prog = true := by kernel_rfl

theorem walk (a0 : Int) (a1 : Int) (a2 : Int) (a3 : Int) (w : World) (w0 : (Lit.int .i64 a0).wf = true) (w1 : (Lit.int .i64 a1).wf = true) (w2 : (Lit.int .i64 a2).wf = true) (w3 : (Lit.int .i64 a3).wf = true) :
    Calls Try.prog 8 #[.int .i64 a0, .int .i64 a1, .int .i64 a2, .int .i64 a3] w fun e w' => e = .returned (.bool true) ∧ Below w.heap.size w w' := by
  obtain ⟨x, x1, x2, x3, HX⟩ := some_hid a0 a1 20000 (by omega) (by omega) w0 w1
  obtain ⟨y, y1, y2, y3, HY⟩ := some_hid a2 a3 20000 (by omega) (by omega) w2 w3
  clear w0 w1 w2 w3
  have sx : small x 20000 20000 := ⟨by omega, by omega, x3⟩
  have sy : small y 20000 20000 := ⟨by omega, by omega, y3⟩
  have fx := small_fits sx (by omega) (by omega)
  have fy := small_fits sy (by omega) (by omega)
  have fs := small_fits (small_add sx sy (M := 800000000) (N := 400000000) (by omega) (by omega)) (by omega) (by omega)
  have h1 := fun w => add_got x y w fx fy fs
  have h2 := fun w => sub_got (x + y) y w fs fy (by rw [Rat.add_sub_cancel]; exact fx)
  have h3 := fun w => sub_got x x w fx fx (by rw [Rat.sub_self]; decide)
  rw [Rat.add_sub_cancel] at h2
  rw [Rat.sub_self] at h3
  generalize x + y = s at *
  have H1 := Lib.hid h1; have H2 := Lib.hid h2; have H3 := Lib.hid h3
  have H3 : Hid (∀ w, Calls Try.prog 25 #[.agg #[.int .i64 x.num, .int .i64 (x.den : Int)], .agg #[.int .i64 x.num, .int .i64 (x.den : Int)]] w fun e w' => e = .returned (.tuple #[.agg #[.int .i64 0, .int .i64 1], .bool true]) ∧ Below w.heap.size w w') := fun w => h3 w
  clear h1 h2 h3 sx sy fx fy fs
  go_enter Try.func8, Try.ntmps8
  go_wp2_with fail
  refine (HX.out _).mono ?_; rintro e w1 ⟨rfl, hb⟩
  have hB := BelowOn (Below.refl _ w) hb
  clear hb
  go_wp2_with fail
  refine (HY.out _).mono ?_; rintro e w2 ⟨rfl, hb⟩
  replace hB := BelowOn hB hb
  clear hb
  go_wp2_with fail
  refine (H1.out _).mono ?_; rintro e w3 ⟨rfl, hb⟩
  have T0 := ((twoNew _ (w2.heap.size) (.int .i64 x.num) (.int .i64 (x.den : Int)) (by simp)).alloc _).call hb
  have T1 := (twoNew _ (w2.heap.size + 1) (.int .i64 y.num) (.int .i64 (y.den : Int)) (by simp)).call hb
  replace hB := BelowOn (blw (blw hB _) _) hb
  clear hb
  obtain ⟨c00, c01, l0⟩ := id T0
  obtain ⟨c10, c11, l1⟩ := id T1
  go_wp2_with fail
  refine (H2.out _).mono ?_; rintro e w4 ⟨rfl, hb⟩
  clear c00 c01 l0 c10 c11 l1
  replace T0 := (T0.alloc _).call hb
  replace T1 := (T1.alloc _).call hb
  have T2 := (twoNew _ (w3.heap.size) (.int .i64 s.num) (.int .i64 (s.den : Int)) (by simp)).call hb
  replace hB := BelowOn (blw hB _) hb
  clear hb
  obtain ⟨c00, c01, l0⟩ := id T0
  obtain ⟨c10, c11, l1⟩ := id T1
  obtain ⟨c20, c21, l2⟩ := id T2
  go_wp2_with fail
  refine (H3.out _).mono ?_; rintro e w5 ⟨rfl, hb⟩
  clear c00 c01 l0 c10 c11 l1 c20 c21 l2
  replace T0 := (T0.alloc _).call hb
  replace T1 := (T1.alloc _).call hb
  replace T2 := (T2.alloc _).call hb
  have T3 := (twoNew _ (w4.heap.size) (.int .i64 x.num) (.int .i64 (x.den : Int)) (by simp)).call hb
  replace hB := BelowOn (blw hB _) hb
  clear hb
  obtain ⟨c00, c01, l0⟩ := id T0
  obtain ⟨c10, c11, l1⟩ := id T1
  obtain ⟨c20, c21, l2⟩ := id T2
  obtain ⟨c30, c31, l3⟩ := id T3
  go_wp2_with fail
  refine (known_any _).mono ?_; rintro e w6 ⟨rfl, hb⟩
  clear c00 c01 l0 c10 c11 l1 c20 c21 l2 c30 c31 l3
  replace T0 := (T0.alloc _).call hb
  replace T1 := (T1.alloc _).call hb
  replace T2 := (T2.alloc _).call hb
  replace T3 := (T3.alloc _).call hb
  have T4 := (twoNew _ (w5.heap.size) (.int .i64 0) (.int .i64 1) (by simp)).call hb
  replace hB := BelowOn (blw hB _) hb
  clear hb
  obtain ⟨c00, c01, l0⟩ := id T0
  obtain ⟨c10, c11, l1⟩ := id T1
  obtain ⟨c20, c21, l2⟩ := id T2
  obtain ⟨c30, c31, l3⟩ := id T3
  obtain ⟨c40, c41, l4⟩ := id T4
  go_wp2_with fail
  go_ret
  exact ⟨rfl, hB⟩

set_option maxRecDepth 100000 in
theorem lifted (os : Os) (started : os.Started) (H : Type) (enc : TypeId × Value → H) :
    ReturnsInHanded {} Try.checked os 8 .any (Rows.ratioUndoesSpec.pre6 enc Try.prog Try.f8 Rows.ratioUndoesRow.domain false) (Rows.ratioUndoesSpec.post enc Try.prog Try.f8 false true false false) := by
  refine returnsInHanded_of_change (C := Try.checked) own started (by kernel_rfl) Try.func8
    (ChangeSpec.witness6 (enc := enc) (C := Try.checked) false ⟨#[], #[.int .i64 0, .int .i64 0, .int .i64 0, .int .i64 0], []⟩ 8 (by kernel_rfl) (by kernel_rfl) (by kernel_rfl) (by kernel_rfl)) ?_
  intro W base args ds gs before hval0 hW hcnd _
  have hval : ∀ (j : Nat) t v, Try.f8.params[j]? = some t → args[j]? = some v → Value.okWide Try.prog W .any base t v := hval0
  have hW' := hW
  obtain ⟨p, q, hA0, hV, rfl, hfz, hnd⟩ := hW
  have hA : DataW.TrodAll enc Try.prog W 0 (fun _ => true) true Try.f8.params.toList args.toList ds p := hA0
  rw [Try.params8] at hA hval
  obtain ⟨v0, vs0, d0, ds0, p0, q0, hargs, rfl, rfl, h0, r0⟩ := trodAll_cons hA
  obtain ⟨v1, vs1, d1, ds1, p1, q1, rfl, rfl, rfl, h1, r1⟩ := trodAll_cons r0
  obtain ⟨v2, vs2, d2, ds2, p2, q2, rfl, rfl, rfl, h2, r2⟩ := trodAll_cons r1
  obtain ⟨v3, vs3, d3, ds3, p3, q3, rfl, rfl, rfl, h3, r3⟩ := trodAll_cons r2
  obtain ⟨rfl, rfl, rfl⟩ := trodAll_nil r3
  obtain rfl : args = #[v0, v1, v2, v3] := by cases args; simp_all
  obtain ⟨rfl, rfl⟩ := trodVars_none hV
  obtain ⟨a0, rfl, rfl, rfl, w0⟩ := open_int Try.underlying3 (hval 0 3 v0 rfl rfl) h0
  obtain ⟨a1, rfl, rfl, rfl, w1⟩ := open_int Try.underlying3 (hval 1 3 v1 rfl rfl) h1
  obtain ⟨a2, rfl, rfl, rfl, w2⟩ := open_int Try.underlying3 (hval 2 3 v2 rfl rfl) h2
  obtain ⟨a3, rfl, rfl, rfl, w3⟩ := open_int Try.underlying3 (hval 3 3 v3 rfl rfl) h3
  clear hA0 hval0
  refine (walk a0 a1 a2 a3 W w0 w1 w2 w3).mono fun e W' ⟨he, bel⟩ => ?_
  subst he
  exact ⟨_, rfl, _, _, _, [], _, [], hW', trodAll_mk1 (shut_bool Try.underlying4 _), (trodAll_cons_mk (shut_int Try.underlying3 w0) (trodAll_cons_mk (shut_int Try.underlying3 w1) (trodAll_cons_mk (shut_int Try.underlying3 w2) (trodAll_cons_mk (shut_int Try.underlying3 w3) trodAll_mk0)))), rfl, bel.frame _, fun h => by cases h⟩

theorem over : Rows.ratioUndoesRow.holds Try.pinned (OpenSpec.ofChange Rows.ratioUndoesSpec) :=
  OpenClaim.holds_of_wide 8 Try.f8 rfl rfl rfl rfl rfl rfl rfl ⟨rfl, rfl, rfl, rfl, rfl⟩ rfl rfl rfl rfl rfl (by kernel_rfl) Try.func8 (by kernel_rfl)
    (of_decide_eq_true (by kernel_rfl)) (by unfold Func.isWrapper; first | (rw [if_pos (by decide +kernel)]; kernel_rfl) | (rw [if_neg (by decide +kernel)]; exact ⟨rfl, rfl⟩))
    (fun os started H enc _ => lifted os started H enc)

theorem proved : Rows.RatioUndoesSaid := over
#print axioms proved
end Go.Proofs.Ytfhppadcaoggeaa.ratioUndoes
