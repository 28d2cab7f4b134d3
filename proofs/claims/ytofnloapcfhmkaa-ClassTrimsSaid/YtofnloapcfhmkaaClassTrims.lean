/- The law ClassTrims holds for every input. -/
import Derived.Test.YtofnloapcfhmkaaRows
import Derived.WalkKit
import Derived.ProofKit
import Derived.OpenShut
import Derived.ShutString
import Derived.ChangeOld
import Derived.Below
import Derived.Test.YtofnloapcfhmkaaKnown
import Derived.Test.YtofnloapcfhmkaaTrim
namespace Go.Proofs.Ytofnloapcfhmkaa.classTrims
open Go.ChangeShapes Go.WideShapes Go.ChangeAt Go.RowKit
open Go.ChangeMaps (open_string shut_string)
set_option linter.unusedVariables false

theorem own : ownKnob Try.prog.godebug = none := by kernel_rfl
theorem laidOut : laidOutB Try.prog = true := by kernel_rfl

theorem walk (a0 : ByteArray) (w : World) (w0 : a0.size ≤ maxLen) :
    Calls Try.prog 7 #[.string a0] w fun e w' => e = .returned (.bool true) ∧ Below w.heap.size w w' := by
  unfold maxLen at w0
  by_cases c0 : 400 < a0.size
  · go_enter Try.func7, Try.ntmps7
    go_wp2_with fail
    refine (known_any _).mono ?_; rintro e w' ⟨rfl, hb⟩
    go_wp2_with fail
    go_ret
    exact ⟨rfl, hb⟩
  have hle : tE a0 ≤ a0.size := tEnd_le _ _
  have q0 : decide (400 < (a0.size : Int)) = false := by simp; omega
  have ht := trim_any a0 w (by omega)
  have hr := rtrim_any a0 w (by omega)
  by_cases h0 : tE a0 = 0
  · rw [tF_zero a0 h0, h0] at ht hr
    have HT := Lib.hid ht; have HR := Lib.hid hr; clear ht hr h0 hle
    go_enter Try.func7, Try.ntmps7
    go_wp2_with fail
    refine HT.out.mono ?_; rintro e w' ⟨rfl, rfl⟩
    go_wp2_with fail
    refine HR.out.mono ?_; rintro e w' ⟨rfl, rfl⟩
    go_wp2_with fail
    refine (known_any _).mono ?_; rintro e w' ⟨rfl, hb⟩
    go_wp2_with fail
    go_ret
    exact ⟨rfl, hb⟩
  · obtain ⟨h1, h2, _⟩ := tF_lt a0 (by omega)
    have hl := tEnd_last (spB a0) a0.size (by rw [show tEnd (spB a0) a0.size = tE a0 from rfl]; omega)
    rw [show tEnd (spB a0) a0.size = tE a0 from rfl] at hl
    generalize tF a0 = F at *
    generalize tE a0 = E at *
    obtain ⟨j, rfl⟩ : ∃ j, E = j + 1 := ⟨E - 1, by omega⟩
    rw [show j + 1 - 1 = j from rfl] at hl
    have hj : j < a0.size := by omega
    have hF : F < a0.size := by omega
    rw [spB_at a0 F hF] at h2
    rw [spB_at a0 j hj] at hl
    have e2 : (cls (a0[F].toNat : Int) != 2) = true := by rw [bne, h2]; rfl
    have el : (cls (a0[j].toNat : Int) != 2) = true := by rw [bne, hl]; rfl
    have b2 := byte_le' a0[F]
    have bl := byte_le' a0[j]
    have q1 : ((F : Int) == (j : Int) + 1) = false := by simp; omega
    have q2 : ((F : Int) != (F : Int)) = false := by simp
    have q3 : ((j : Int) + 1 != (j : Int) + 1) = false := by simp
    have HT := Lib.hid ht; have HR := Lib.hid hr; clear ht hr h0 h2 hl
    go_enter Try.func7, Try.ntmps7
    go_wp2_with fail
    refine HT.out.mono ?_; rintro e w' ⟨rfl, rfl⟩
    go_wp2_with fail
    refine HR.out.mono ?_; rintro e w' ⟨rfl, rfl⟩
    go_wp2_with fail
    refine (of_any _ _ (by omega) b2).mono ?_; rintro e w' ⟨rfl, rfl⟩
    go_wp2_with fail
    refine (of_any _ _ (by omega) bl).mono ?_; rintro e w' ⟨rfl, rfl⟩
    go_wp2_with fail
    refine (known_any _).mono ?_; rintro e w' ⟨rfl, hb⟩
    go_wp2_with fail
    go_ret
    exact ⟨rfl, hb⟩

set_option maxRecDepth 100000 in
theorem lifted (os : Os) (started : os.Started) (H : Type) (enc : TypeId × Value → H) :
    ReturnsInHanded {} Try.checked os 7 .any (Rows.classTrimsSpec.pre6 enc Try.prog Try.f7 Rows.classTrimsRow.domain false) (Rows.classTrimsSpec.post enc Try.prog Try.f7 false true false false) := by
  refine returnsInHanded_of_change (C := Try.checked) own started (by kernel_rfl) Try.func7
    (ChangeSpec.witness6 (enc := enc) (C := Try.checked) false ⟨#[], #[.string ByteArray.empty], []⟩ 8 (by kernel_rfl) (by kernel_rfl) (by kernel_rfl) (by kernel_rfl)) ?_
  intro W base args ds gs before hval0 hW hcnd _
  have hval : ∀ (j : Nat) t v, Try.f7.params[j]? = some t → args[j]? = some v → Value.okWide Try.prog W .any base t v := hval0
  have hW' := hW
  obtain ⟨p, q, hA0, hV, rfl, hfz, hnd⟩ := hW
  have hA : DataW.TrodAll enc Try.prog W 0 (fun _ => true) true Try.f7.params.toList args.toList ds p := hA0
  rw [Try.params7] at hA hval
  obtain ⟨v0, vs0, d0, ds0, p0, q0, hargs, rfl, rfl, h0, r0⟩ := trodAll_cons hA
  obtain ⟨rfl, rfl, rfl⟩ := trodAll_nil r0
  obtain rfl : args = #[v0] := by cases args; simp_all
  obtain ⟨rfl, rfl⟩ := trodVars_none hV
  obtain ⟨a0, rfl, rfl, rfl, w0⟩ := open_string Try.underlying9 (hval 0 9 v0 rfl rfl) h0
  clear hA0 hval0
  refine (walk a0 W w0).mono fun e W' ⟨he, bel⟩ => ?_
  subst he
  exact ⟨_, rfl, _, _, _, [], _, [], hW', trodAll_mk1 (shut_bool Try.underlying4 _), (trodAll_cons_mk (shut_string Try.underlying9 w0) trodAll_mk0), rfl, bel.frame _, fun h => by cases h⟩

theorem over : Rows.classTrimsRow.holds Try.pinned (OpenSpec.ofChange Rows.classTrimsSpec) :=
  OpenClaim.holds_of_wide 7 Try.f7 rfl rfl rfl rfl rfl rfl rfl ⟨rfl, rfl, rfl, rfl, rfl⟩ rfl rfl rfl rfl rfl (by kernel_rfl) Try.func7 (by kernel_rfl)
    (of_decide_eq_true (by kernel_rfl)) (by unfold Func.isWrapper; first | (rw [if_pos (by decide +kernel)]; kernel_rfl) | (rw [if_neg (by decide +kernel)]; exact ⟨rfl, rfl⟩))
    (fun os started H enc _ => lifted os started H enc)

theorem proved : Rows.ClassTrimsSaid := over
#print axioms proved
end Go.Proofs.Ytofnloapcfhmkaa.classTrims
