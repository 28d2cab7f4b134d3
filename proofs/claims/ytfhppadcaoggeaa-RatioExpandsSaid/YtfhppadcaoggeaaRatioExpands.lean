/- The law RatioExpands holds for every input. -/
import Derived.Test.YtfhppadcaoggeaaRows
import Derived.WalkKit
import Derived.ProofKit
import Derived.OpenShut
import Derived.ShutString
import Derived.ChangeOld
import Derived.Below
import Derived.Test.YtfhppadcaoggeaaKit
namespace Go.Proofs.Ytfhppadcaoggeaa.ratioExpands
open Go.ChangeShapes Go.WideShapes Go.ChangeAt Go.RowKit
open Go.ChangeMaps (open_string shut_string)
set_option linter.unusedVariables false

theorem own : ownKnob Try.prog.godebug = none := by kernel_rfl
theorem laidOut : laidOutB Try.prog = true := by kernel_rfl

theorem walk (a0 : Int) (a1 : Int) (a2 : Int) (w : World) (w0 : (Lit.int .i64 a0).wf = true) (w1 : (Lit.int .i64 a1).wf = true) (w2 : (Lit.int .i64 a2).wf = true) :
    Calls Try.prog 5 #[.int .i64 a0, .int .i64 a1, .int .i64 a2] w fun e w' => e = .returned (.bool true) ∧ Below w.heap.size w w' := by
  obtain ⟨n, hn1, hn2, en⟩ : ∃ n, -30000 < n ∧ n < 30000 ∧ a0.tmod 30000 = n := ⟨_, by have := Int.tmod_lt_of_pos (-a0) (show (0 : Int) < 30000 by omega); rw [Int.neg_tmod] at this; omega, Int.tmod_lt_of_pos a0 (by omega), rfl⟩
  obtain ⟨d, hd1, hd2, ed⟩ : ∃ n, -30000 < n ∧ n < 30000 ∧ a1.tmod 30000 = n := ⟨_, by have := Int.tmod_lt_of_pos (-a1) (show (0 : Int) < 30000 by omega); rw [Int.neg_tmod] at this; omega, Int.tmod_lt_of_pos a1 (by omega), rfl⟩
  obtain ⟨k, hk1, hk2, ek⟩ : ∃ n, -30000 < n ∧ n < 30000 ∧ a2.tmod 30000 = n := ⟨_, by have := Int.tmod_lt_of_pos (-a2) (show (0 : Int) < 30000 by omega); rw [Int.neg_tmod] at this; omega, Int.tmod_lt_of_pos a2 (by omega), rfl⟩
  by_cases hd : d = 0
  · subst hd
    have hm := fun w => make_not n 0 w (by unfold mkB; simp)
    have HM := Lib.hid hm; clear hm
    by_cases hk : k = 0
    all_goals (have qk : (k == 0) = decide (k = 0) := by simp [hk])
    all_goals simp only [hk, decide_true, decide_false] at qk
    all_goals go_enter Try.func5, Try.ntmps5
    all_goals go_wp2_with fail
    all_goals refine (HM.out _).mono ?_
    all_goals rintro e w1 ⟨rfl, hb1⟩
    all_goals go_wp2_with fail
    all_goals refine (known_any _).mono ?_
    all_goals rintro e w2 ⟨rfl, hb2⟩
    all_goals go_wp2_with fail
    all_goals go_ret
    all_goals exact ⟨rfl, BelowOn (hb1.alloc hb1.size _) hb2⟩
  have qd : (d == 0) = false := by simpa using hd
  have qd' : (d != 0) = true := by simpa using hd
  have f1 := small_fits (small_div n d 30000 30000 hd (by omega) (by omega) (by omega) (by omega)) (by omega) (by omega)
  have hm := fun w => make_got n d w (by unfold mkB; simp; omega) f1
  by_cases hk : k = 0
  · have HM := Lib.hid hm; clear hm
    have qk : (k == 0) = true := by simp [hk]
    clear hd hk
    generalize Rat.divInt n d = q at *
    go_enter Try.func5, Try.ntmps5
    go_wp2_with fail
    refine (HM.out _).mono ?_; rintro e w1 ⟨rfl, hb1⟩
    go_wp2_with fail
    refine (known_any _).mono ?_; rintro e w2 ⟨rfl, hb2⟩
    go_wp2_with fail
    go_ret
    exact ⟨rfl, BelowOn (hb1.alloc hb1.size _) hb2⟩
  have qk : (k == 0) = false := by simpa using hk
  have m1 := mul_bd n k 29999 29999 (by omega) (by omega) (by omega) (by omega)
  have m2 := mul_bd d k 29999 29999 (by omega) (by omega) (by omega) (by omega)
  have nz : d * k ≠ 0 := Int.mul_ne_zero hd hk
  have f2 : fits (Rat.divInt (n * k) (d * k)) = true := by rw [Rat.divInt_mul_right hk]; exact f1
  have hp := fun w => make_got (n * k) (d * k) w (by unfold mkB; simp only [ne_eq, decide_eq_true_eq]; omega) f2
  rw [Rat.divInt_mul_right hk] at hp
  have HM := Lib.hid hm; clear hm
  have HP := Lib.hid hp; clear hp
  clear hd hk nz f2
  generalize Rat.divInt n d = q at *
  go_enter Try.func5, Try.ntmps5
  go_wp2_with fail
  refine (HM.out _).mono ?_; rintro e w1 ⟨rfl, hb1⟩
  go_wp2_with fail
  refine (HP.out _).mono ?_; rintro e w2 ⟨rfl, hb2⟩
  obtain ⟨c0, c1, lt⟩ := (Two.new w1 (.int .i64 q.num) (.int .i64 (q.den : Int))).call hb2
  go_wp2_with fail
  refine (known_any _).mono ?_; rintro e w3 ⟨rfl, hb3⟩
  go_wp2_with fail
  go_ret
  exact ⟨rfl, BelowOn ((BelowOn (hb1.alloc hb1.size _) hb2).alloc (by have := hb1.size; omega) _) hb3⟩

set_option maxRecDepth 100000 in
theorem lifted (os : Os) (started : os.Started) (H : Type) (enc : TypeId × Value → H) :
    ReturnsInHanded {} Try.checked os 5 .any (Rows.ratioExpandsSpec.pre6 enc Try.prog Try.f5 Rows.ratioExpandsRow.domain false) (Rows.ratioExpandsSpec.post enc Try.prog Try.f5 false true false false) := by
  refine returnsInHanded_of_change (C := Try.checked) own started (by kernel_rfl) Try.func5
    (ChangeSpec.witness6 (enc := enc) (C := Try.checked) false ⟨#[], #[.int .i64 0, .int .i64 0, .int .i64 0], []⟩ 8 (by kernel_rfl) (by kernel_rfl) (by kernel_rfl) (by kernel_rfl)) ?_
  intro W base args ds gs before hval0 hW hcnd _
  have hval : ∀ (j : Nat) t v, Try.f5.params[j]? = some t → args[j]? = some v → Value.okWide Try.prog W .any base t v := hval0
  have hW' := hW
  obtain ⟨p, q, hA0, hV, rfl, hfz, hnd⟩ := hW
  have hA : DataW.TrodAll enc Try.prog W 0 (fun _ => true) true Try.f5.params.toList args.toList ds p := hA0
  rw [Try.params5] at hA hval
  obtain ⟨v0, vs0, d0, ds0, p0, q0, hargs, rfl, rfl, h0, r0⟩ := trodAll_cons hA
  obtain ⟨v1, vs1, d1, ds1, p1, q1, rfl, rfl, rfl, h1, r1⟩ := trodAll_cons r0
  obtain ⟨v2, vs2, d2, ds2, p2, q2, rfl, rfl, rfl, h2, r2⟩ := trodAll_cons r1
  obtain ⟨rfl, rfl, rfl⟩ := trodAll_nil r2
  obtain rfl : args = #[v0, v1, v2] := by cases args; simp_all
  obtain ⟨rfl, rfl⟩ := trodVars_none hV
  obtain ⟨a0, rfl, rfl, rfl, w0⟩ := open_int Try.underlying3 (hval 0 3 v0 rfl rfl) h0
  obtain ⟨a1, rfl, rfl, rfl, w1⟩ := open_int Try.underlying3 (hval 1 3 v1 rfl rfl) h1
  obtain ⟨a2, rfl, rfl, rfl, w2⟩ := open_int Try.underlying3 (hval 2 3 v2 rfl rfl) h2
  clear hA0 hval0
  refine (walk a0 a1 a2 W w0 w1 w2).mono fun e W' ⟨he, bel⟩ => ?_
  subst he
  exact ⟨_, rfl, _, _, _, [], _, [], hW', trodAll_mk1 (shut_bool Try.underlying4 _), (trodAll_cons_mk (shut_int Try.underlying3 w0) (trodAll_cons_mk (shut_int Try.underlying3 w1) (trodAll_cons_mk (shut_int Try.underlying3 w2) trodAll_mk0))), rfl, bel.frame _, fun h => by cases h⟩

theorem over : Rows.ratioExpandsRow.holds Try.pinned (OpenSpec.ofChange Rows.ratioExpandsSpec) :=
  OpenClaim.holds_of_wide 5 Try.f5 rfl rfl rfl rfl rfl rfl rfl ⟨rfl, rfl, rfl, rfl, rfl⟩ rfl rfl rfl rfl rfl (by kernel_rfl) Try.func5 (by kernel_rfl)
    (of_decide_eq_true (by kernel_rfl)) (by unfold Func.isWrapper; first | (rw [if_pos (by decide +kernel)]; kernel_rfl) | (rw [if_neg (by decide +kernel)]; exact ⟨rfl, rfl⟩))
    (fun os started H enc _ => lifted os started H enc)

theorem proved : Rows.RatioExpandsSaid := over
#print axioms proved
end Go.Proofs.Ytfhppadcaoggeaa.ratioExpands
