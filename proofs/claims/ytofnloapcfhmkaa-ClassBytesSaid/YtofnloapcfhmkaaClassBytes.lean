/- The law ClassBytes holds for every input. -/
import Derived.Test.YtofnloapcfhmkaaRows
import Derived.WalkKit
import Derived.ProofKit
import Derived.OpenShut
import Derived.ShutString
import Derived.ChangeOld
import Derived.Below
import Derived.Test.YtofnloapcfhmkaaKnown
namespace Go.Proofs.Ytofnloapcfhmkaa.classBytes
open Go.ChangeShapes Go.WideShapes Go.ChangeAt Go.RowKit
open Go.ChangeMaps (open_string shut_string)
set_option linter.unusedVariables false

theorem own : ownKnob Try.prog.godebug = none := by kernel_rfl
theorem laidOut : laidOutB Try.prog = true := by kernel_rfl

theorem walk (a0 : Int) (w : World) (w0 : (Lit.int .u8 a0).wf = true) :
    Calls Try.prog 3 #[.int .u8 a0] w fun e w' => e = .returned (.bool true) ∧ Below w.heap.size w w' := by
  have hb : 0 ≤ a0 ∧ a0 ≤ 255 := by simpa [Lit.wf, IntKind.min, IntKind.max, IntKind.signed, IntKind.bits] using w0
  obtain ⟨hb0, hb1⟩ := hb
  have hcv := conv_one w a0 hb0 hb1
  obtain ⟨t, hlo, hs, hp, ht⟩ := low_one a0 hb0 hb1
  have hlow := lower_any (one a0) (w.alloc (.cells #[.int .u8 a0] 5)) (by rw [one_size]; omega)
  rw [hlo] at hlow
  have HLOW := Lib.hid hlow; clear hlow hlo w0
  by_cases hup : 65 ≤ a0 ∧ a0 ≤ 90
  · rw [if_pos hup] at ht
    obtain ⟨hu1, hu2⟩ := hup
    have hcl := Lib.hid (cls_lower a0 hu1 hu2)
    have q1 : ((a0 + 32 : Int) == a0) = false := by simp; omega
    have q2 : ((a0 + 32 : Int) != a0) = true := by simp; omega
    go_enter Try.func3, Try.ntmps3
    go_wp2_with fail
    refine HLOW.out.mono ?_; rintro e w1 ⟨rfl, hb⟩
    go_wp2_with fail
    refine (of_any a0 _ hb0 hb1).mono ?_; rintro e w2 ⟨rfl, rfl⟩
    go_wp2_with fail
    refine (rof_any a0 _ hb0 hb1).mono ?_; rintro e w2 ⟨rfl, rfl⟩
    go_wp2_with fail
    refine (of_any (a0 + 32) _ (by omega) (by omega)).mono ?_; rintro e w2 ⟨rfl, rfl⟩
    rw [hcl.out]
    go_wp2_with fail
    refine (of_any a0 _ hb0 hb1).mono ?_; rintro e w2 ⟨rfl, rfl⟩
    go_wp2_with fail
    refine (known_any _).mono ?_; rintro e w2 ⟨rfl, hk⟩
    go_wp2_with fail
    go_ret
    exact ⟨rfl, BelowOn (((Below.refl _ w).alloc (Nat.le_refl _) _).trans (hb.mono (by simp))) hk⟩
  · rw [if_neg hup] at ht
    by_cases h65 : 65 ≤ a0
    · have q3 : decide (a0 ≤ 90) = false := by simp; omega
      go_enter Try.func3, Try.ntmps3
      go_wp2_with fail
      refine HLOW.out.mono ?_; rintro e w1 ⟨rfl, hb⟩
      go_wp2_with fail
      refine (of_any a0 _ hb0 hb1).mono ?_; rintro e w2 ⟨rfl, rfl⟩
      go_wp2_with fail
      refine (rof_any a0 _ hb0 hb1).mono ?_; rintro e w2 ⟨rfl, rfl⟩
      go_wp2_with fail
      refine (of_any a0 _ hb0 hb1).mono ?_; rintro e w2 ⟨rfl, rfl⟩
      go_wp2_with fail
      refine (of_any a0 _ hb0 hb1).mono ?_; rintro e w2 ⟨rfl, rfl⟩
      go_wp2_with fail
      all_goals
        refine (known_any _).mono ?_; rintro e w2 ⟨rfl, hk⟩
        go_wp2_with fail
        go_ret
        exact ⟨rfl, BelowOn (((Below.refl _ w).alloc (Nat.le_refl _) _).trans (hb.mono (by simp))) hk⟩
    · clear hup
      go_enter Try.func3, Try.ntmps3
      go_wp2_with fail
      refine HLOW.out.mono ?_; rintro e w1 ⟨rfl, hb⟩
      go_wp2_with fail
      refine (of_any a0 _ hb0 hb1).mono ?_; rintro e w2 ⟨rfl, rfl⟩
      go_wp2_with fail
      refine (rof_any a0 _ hb0 hb1).mono ?_; rintro e w2 ⟨rfl, rfl⟩
      go_wp2_with fail
      refine (of_any a0 _ hb0 hb1).mono ?_; rintro e w2 ⟨rfl, rfl⟩
      go_wp2_with fail
      refine (of_any a0 _ hb0 hb1).mono ?_; rintro e w2 ⟨rfl, rfl⟩
      go_wp2_with fail
      all_goals
        refine (known_any _).mono ?_; rintro e w2 ⟨rfl, hk⟩
        go_wp2_with fail
        go_ret
        exact ⟨rfl, BelowOn (((Below.refl _ w).alloc (Nat.le_refl _) _).trans (hb.mono (by simp))) hk⟩

set_option maxRecDepth 100000 in
theorem lifted (os : Os) (started : os.Started) (H : Type) (enc : TypeId × Value → H) :
    ReturnsInHanded {} Try.checked os 3 .any (Rows.classBytesSpec.pre6 enc Try.prog Try.f3 Rows.classBytesRow.domain false) (Rows.classBytesSpec.post enc Try.prog Try.f3 false true false false) := by
  refine returnsInHanded_of_change (C := Try.checked) own started (by kernel_rfl) Try.func3
    (ChangeSpec.witness6 (enc := enc) (C := Try.checked) false ⟨#[], #[.int .u8 0], []⟩ 8 (by kernel_rfl) (by kernel_rfl) (by kernel_rfl) (by kernel_rfl)) ?_
  intro W base args ds gs before hval0 hW hcnd _
  have hval : ∀ (j : Nat) t v, Try.f3.params[j]? = some t → args[j]? = some v → Value.okWide Try.prog W .any base t v := hval0
  have hW' := hW
  obtain ⟨p, q, hA0, hV, rfl, hfz, hnd⟩ := hW
  have hA : DataW.TrodAll enc Try.prog W 0 (fun _ => true) true Try.f3.params.toList args.toList ds p := hA0
  rw [Try.params3] at hA hval
  obtain ⟨v0, vs0, d0, ds0, p0, q0, hargs, rfl, rfl, h0, r0⟩ := trodAll_cons hA
  obtain ⟨rfl, rfl, rfl⟩ := trodAll_nil r0
  obtain rfl : args = #[v0] := by cases args; simp_all
  obtain ⟨rfl, rfl⟩ := trodVars_none hV
  obtain ⟨a0, rfl, rfl, rfl, w0⟩ := open_int Try.underlying5 (hval 0 5 v0 rfl rfl) h0
  clear hA0 hval0
  refine (walk a0 W w0).mono fun e W' ⟨he, bel⟩ => ?_
  subst he
  exact ⟨_, rfl, _, _, _, [], _, [], hW', trodAll_mk1 (shut_bool Try.underlying4 _), (trodAll_cons_mk (shut_int Try.underlying5 w0) trodAll_mk0), rfl, bel.frame _, fun h => by cases h⟩

theorem over : Rows.classBytesRow.holds Try.pinned (OpenSpec.ofChange Rows.classBytesSpec) :=
  OpenClaim.holds_of_wide 3 Try.f3 rfl rfl rfl rfl rfl rfl rfl ⟨rfl, rfl, rfl, rfl, rfl⟩ rfl rfl rfl rfl rfl (by kernel_rfl) Try.func3 (by kernel_rfl)
    (of_decide_eq_true (by kernel_rfl)) (by unfold Func.isWrapper; first | (rw [if_pos (by decide +kernel)]; kernel_rfl) | (rw [if_neg (by decide +kernel)]; exact ⟨rfl, rfl⟩))
    (fun os started H enc _ => lifted os started H enc)

theorem proved : Rows.ClassBytesSaid := over
#print axioms proved
end Go.Proofs.Ytofnloapcfhmkaa.classBytes
