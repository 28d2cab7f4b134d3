/- The law RatioFloors holds for every input. -/
import Derived.Test.YtfhppadcaoggeaaRows
import Derived.WalkKit
import Derived.ProofKit
import Derived.OpenShut
import Derived.ChangeOld
import Derived.Below
import Derived.Test.YtfhppadcaoggeaaKeep
namespace Go.Proofs.Ytfhppadcaoggeaa.ratioFloors
open Go.ChangeShapes Go.WideShapes Go.ChangeAt Go.RowKit
set_option linter.unusedVariables false

theorem own : ownKnob Try.prog.godebug = none := by kernel_rfl
theorem laidOut : laidOutB Try.prog = true := by kernel_rfl


theorem walk (a0 b0 : Int) (a1 : Int) (a2 : Int) (a3 : Int) (w : World) (w0 : (Lit.int .i64 a0).wf = true) (u0 : (Lit.int .i64 b0).wf = true) (w1 : (Lit.int .i64 a1).wf = true) (w2 : (Lit.int .i64 a2).wf = true) (w3 : (Lit.int .i64 a3).wf = true) :
    Calls Try.prog 11 #[.agg #[.int .i64 a0, .int .i64 b0], .int .i64 a1, .int .i64 a2, .int .i64 a3] w fun e w' => e = .returned (.bool true) ∧ Below w.heap.size w w' := by
  obtain ⟨x, x1, x2, x3, HX⟩ := some_hid a1 a2 1048576 (by omega) (by omega) w1 w2
  obtain ⟨s, hs1, hs2, es⟩ : ∃ n, -1048576 < n ∧ n < 1048576 ∧ a3.tmod 1048576 = n := ⟨_, by have := Int.tmod_lt_of_pos (-a3) (show (0 : Int) < 1048576 by omega); rw [Int.neg_tmod] at this; omega, Int.tmod_lt_of_pos a3 (by omega), rfl⟩
  have h1 := fun w => floor_any a0 b0 a3 w
  have h2 := fun w => rfloor_any a0 b0 a3 w
  have h3 := fun w => floor_any x.num x.den s w
  unfold FlEnd at h1 h2 h3
  have hv : valB x.num x.den = true := fits_val x (small_fits (A := 1048576) (B := 1048576) ⟨by omega, by omega, x3⟩ (by omega) (by omega))
  have hf : flB x.num x.den s = true := by unfold flB; rw [hv]; simp; omega
  have hn : flN x.num x.den s = x.num * s / x.den := by unfold flN; rw [hf]; rfl
  rw [hf, hn] at h3
  have dp := x.den_pos
  have m1 := mul_bd x.num s 1048576 1048576 (by omega) (by omega) (by omega) (by omega)
  have q1 : x.num * s / (x.den : Int) * (x.den : Int) ≤ x.num * s := Int.ediv_mul_le _ (by omega)
  have q2 : x.num * s < (x.num * s / (x.den : Int) + 1) * (x.den : Int) := Int.lt_ediv_add_one_mul_self _ (by omega)
  have q3 : (x.num * s / (x.den : Int) + 1) * (x.den : Int) = x.num * s / (x.den : Int) * (x.den : Int) + (x.den : Int) := by rw [Int.add_mul, Int.one_mul]
  have b1 : -1099511627776 ≤ x.num * s / (x.den : Int) := by
    rw [Int.le_ediv_iff_mul_le (by omega)]
    have : (1 : Int) ≤ x.den := by omega
    have := Int.mul_le_mul_of_nonneg_left this (show (0 : Int) ≤ 1099511627776 by omega)
    omega
  have b2 : x.num * s / (x.den : Int) ≤ 1099511627776 := Int.le_trans (Int.ediv_le_ediv (by omega) m1.2) (Int.ediv_le_self _ (by omega))
  generalize x.num * s / (x.den : Int) = F at *
  generalize flN a0 b0 a3 = f at *
  generalize flB a0 b0 a3 = g at *
  have e1 : -10995116277760 ≤ F * (x.den : Int) := by omega
  have e2 : (F + 1) * (x.den : Int) ≤ 10995116277760 := by omega
  have e3 : -10995116277760 ≤ (F + 1) * (x.den : Int) := by omega
  have e4 : F * (x.den : Int) ≤ 10995116277760 := by omega
  have H1 := Lib.hid h1; have H2 := Lib.hid h2; have H3 := Lib.hid h3
  clear h1 h2 h3 hv hf hn q3 w0 u0 w1 w2 w3
  go_enter Try.func11, Try.ntmps11
  go_wp2_with fail
  refine (H1.out _).mono ?_; rintro e w1 ⟨rfl, hb⟩
  have T0 := (twoNew _ (w.heap.size) (.int .i64 a0) (.int .i64 b0) (by simp)).call hb
  have hB := BelowOn (blw (Below.refl _ w) _) hb
  clear hb
  obtain ⟨c00, c01, l0⟩ := id T0
  go_wp2_with fail
  refine (H2.out _).mono ?_; rintro e w2 ⟨rfl, hb⟩
  clear c00 c01 l0
  replace T0 := T0.call hb
  replace hB := BelowOn hB hb
  clear hb
  obtain ⟨c00, c01, l0⟩ := id T0
  go_wp2_with fail
  refine (HX.out _).mono ?_; rintro e w3 ⟨rfl, hb⟩
  clear c00 c01 l0
  replace T0 := T0.call hb
  replace hB := BelowOn hB hb
  clear hb
  obtain ⟨c00, c01, l0⟩ := id T0
  go_wp2_with fail
  refine (H3.out _).mono ?_; rintro e w4 ⟨rfl, hb⟩
  clear c00 c01 l0
  replace T0 := (T0.alloc _).call hb
  have T1 := (twoNew _ (w3.heap.size) (.int .i64 x.num) (.int .i64 (x.den : Int)) (by simp)).call hb
  replace hB := BelowOn (blw hB _) hb
  clear hb
  obtain ⟨c00, c01, l0⟩ := id T0
  obtain ⟨c10, c11, l1⟩ := id T1
  go_wp2_with fail
  refine (known_any _).mono ?_; rintro e w5 ⟨rfl, hb⟩
  clear c00 c01 l0 c10 c11 l1
  replace T0 := T0.call hb
  replace T1 := T1.call hb
  replace hB := BelowOn hB hb
  clear hb
  obtain ⟨c00, c01, l0⟩ := id T0
  obtain ⟨c10, c11, l1⟩ := id T1
  go_wp2_with fail
  go_ret
  exact ⟨rfl, hB⟩

set_option maxRecDepth 100000 in
theorem lifted (os : Os) (started : os.Started) (H : Type) (enc : TypeId × Value → H) :
    ReturnsInHanded {} Try.checked os 11 .any (Rows.ratioFloorsSpec.pre6 enc Try.prog Try.f11 Rows.ratioFloorsRow.domain false) (Rows.ratioFloorsSpec.post enc Try.prog Try.f11 false true false false) := by
  refine returnsInHanded_of_change (C := Try.checked) own started (by kernel_rfl) Try.func11
    (ChangeSpec.witness6 (enc := enc) (C := Try.checked) false ⟨#[], #[.agg #[.int .i64 0, .int .i64 0], .int .i64 0, .int .i64 0, .int .i64 0], []⟩ 8 (by kernel_rfl) (by kernel_rfl) (by kernel_rfl) (by kernel_rfl)) ?_
  intro W base args ds gs before hval0 hW hcnd _
  have hval : ∀ (j : Nat) t v, Try.f11.params[j]? = some t → args[j]? = some v → Value.okWide Try.prog W .any base t v := hval0
  have hW' := hW
  obtain ⟨p, q, hA0, hV, rfl, hfz, hnd⟩ := hW
  have hA : DataW.TrodAll enc Try.prog W 0 (fun _ => true) true Try.f11.params.toList args.toList ds p := hA0
  rw [Try.params11] at hA hval
  obtain ⟨v0, vs0, d0, ds0, p0, q0, hargs, rfl, rfl, h0, r0⟩ := trodAll_cons hA
  obtain ⟨v1, vs1, d1, ds1, p1, q1, rfl, rfl, rfl, h1, r1⟩ := trodAll_cons r0
  obtain ⟨v2, vs2, d2, ds2, p2, q2, rfl, rfl, rfl, h2, r2⟩ := trodAll_cons r1
  obtain ⟨v3, vs3, d3, ds3, p3, q3, rfl, rfl, rfl, h3, r3⟩ := trodAll_cons r2
  obtain ⟨rfl, rfl, rfl⟩ := trodAll_nil r3
  obtain rfl : args = #[v0, v1, v2, v3] := by cases args; simp_all
  obtain ⟨rfl, rfl⟩ := trodVars_none hV
  obtain ⟨a0, b0, rfl, rfl, rfl, w0, u0⟩ := open_ratio (hval 0 24 v0 rfl rfl) h0
  obtain ⟨a1, rfl, rfl, rfl, w1⟩ := open_int Try.underlying3 (hval 1 3 v1 rfl rfl) h1
  obtain ⟨a2, rfl, rfl, rfl, w2⟩ := open_int Try.underlying3 (hval 2 3 v2 rfl rfl) h2
  obtain ⟨a3, rfl, rfl, rfl, w3⟩ := open_int Try.underlying3 (hval 3 3 v3 rfl rfl) h3
  clear hA0 hval0
  refine (walk a0 b0 a1 a2 a3 W w0 u0 w1 w2 w3).mono fun e W' ⟨he, bel⟩ => ?_
  subst he
  exact ⟨_, rfl, _, _, _, [], _, [], hW', trodAll_mk1 (shut_bool Try.underlying4 _), (trodAll_cons_mk (shut_ratio w0 u0) (trodAll_cons_mk (shut_int Try.underlying3 w1) (trodAll_cons_mk (shut_int Try.underlying3 w2) (trodAll_cons_mk (shut_int Try.underlying3 w3) trodAll_mk0)))), rfl, bel.frame _, fun h => by cases h⟩

theorem over : Rows.ratioFloorsRow.holds Try.pinned (OpenSpec.ofChange Rows.ratioFloorsSpec) :=
  OpenClaim.holds_of_wide 11 Try.f11 rfl rfl rfl rfl rfl rfl rfl ⟨rfl, rfl, rfl, rfl, rfl⟩ rfl rfl rfl rfl rfl (by kernel_rfl) Try.func11 (by kernel_rfl)
    (of_decide_eq_true (by kernel_rfl)) (by unfold Func.isWrapper; first | (rw [if_pos (by decide +kernel)]; kernel_rfl) | (rw [if_neg (by decide +kernel)]; exact ⟨rfl, rfl⟩))
    (fun os started H enc _ => lifted os started H enc)

theorem proved : Rows.RatioFloorsSaid := over
#print axioms proved
end Go.Proofs.Ytfhppadcaoggeaa.ratioFloors
