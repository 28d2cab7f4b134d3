/- The law ClassRuns holds for every input. -/
import Derived.Test.YtofnloapcfhmkaaRows
import Derived.WalkKit
import Derived.ProofKit
import Derived.OpenShut
import Derived.ShutString
import Derived.ChangeOld
import Derived.Below
import Derived.Test.YtofnloapcfhmkaaKnown
import Derived.Test.YtofnloapcfhmkaaRuns
namespace Go.Proofs.Ytofnloapcfhmkaa.classRuns
open Go.ChangeShapes Go.WideShapes Go.ChangeAt Go.RowKit
open Go.ChangeMaps (open_string shut_string)
set_option linter.unusedVariables false

theorem own : ownKnob Try.prog.godebug = none := by kernel_rfl
theorem laidOut : laidOutB Try.prog = true := by kernel_rfl

theorem walk (a0 : ByteArray) (w : World) (w0 : a0.size ≤ maxLen) :
    Calls Try.prog 9 #[.string a0] w fun e w' => e = .returned (.bool true) ∧ Below w.heap.size w w' := by
  unfold maxLen at w0
  by_cases c0 : 300 < a0.size
  · go_enter Try.func9, Try.ntmps9
    go_wp2_with fail
    refine (known_any _).mono ?_; rintro e w' ⟨rfl, hb⟩
    go_wp2_with fail
    go_ret
    exact ⟨rfl, hb⟩
  have q0 : decide (300 < (a0.size : Int)) = false := by simp; omega
  go_enter Try.func9, Try.ntmps9
  go_wp2_with fail
  refine (runs_any a0 _ (by omega)).mono ?_; rintro e w1 ⟨v1, rfl, hR1⟩
  go_wp2_with fail
  refine (rruns_any a0 _ (by omega)).mono ?_; rintro e w2 ⟨v2, rfl, hR2⟩
  obtain ⟨x1, p1, rfl, g1⟩ := hR1.view
  obtain ⟨x2, p2, rfl, g2⟩ := hR2.view
  have hn := runs_len a0
  have HB := Lib.hid (BelowOn hR1.below hR2.below)
  have hb2 := hR2.below
  generalize runsOf a0 = R at *
  have q1 : ((R.length : Int) != (R.length : Int)) = false := by simp
  by_cases hz : R.length = 0
  · clear g1 g2 hR1 hR2 hb2
    rw [hz] at q1 ⊢
    go_wp2_with fail
    go_loop [21] (fun i => i = .int .i64 0) (fun i => (0 : Nat))
    case atStart => rfl
    case round =>
      obtain rfl := hrel
      go_wp2_with fail
      refine (known_any _).mono ?_; rintro e w3 ⟨rfl, hk⟩
      go_wp2_with fail
      go_ret
      exact ⟨rfl, BelowOn HB.out hk⟩
  · obtain ⟨b1, rfl, hl1, hu1, hc1⟩ := g1 (by omega)
    obtain ⟨b2, rfl, hl2, hu2, hc2⟩ := g2 (by omega)
    have hc1' : ∀ i (hi : i < R.length), w2.cell? ⟨b1, i * 2, none⟩ = some (.int .i64 ((R[i]).1 : Int)) ∧ w2.cell? ⟨b1, i * 2 + 1, none⟩ = some (.int .i64 ((R[i]).2 : Int)) := fun i hi => by
      rw [hb2.cell (p := ⟨b1, i * 2, none⟩) hu1, hb2.cell (p := ⟨b1, i * 2 + 1, none⟩) hu1]; exact hc1 i hi
    have H1 := Lib.hid hc1'; have H2 := Lib.hid hc2
    clear hc1 hc1' hc2 hR1 hR2 hb2
    go_wp2_with fail
    clear q1
    go_loopw [5, 21] (fun _ i wr => ∃ k m : Nat, k ≤ R.length ∧ i = .int .i64 k ∧ wr = w2.drewN m) (fun _ i _ => R.length - (intOf i).toNat)
    case atStart => exact ⟨0, 0, Nat.zero_le _, rfl, rfl⟩
    case round =>
      obtain ⟨k, m, hk, rfl, rfl⟩ := hrel
      by_cases hlt : k < R.length
      · obtain ⟨d1, d2⟩ := H1.out k hlt
        obtain ⟨d3, d4⟩ := H2.out k hlt
        go_wp2_with fail
        go_quiet (fail)
        clear d1 d2 d3 d4
        go_wp2_with fail
        go_roundw
        case rel => exact ⟨k + 1, m + nq, by omega, by go_num, rfl⟩
        case measure => simp [intOf]; omega
      · obtain rfl : k = R.length := by omega
        go_wp2_with fail
        refine (known_any _).mono ?_; rintro e w3 ⟨rfl, hk⟩
        go_wp2_with fail
        go_ret
        exact ⟨rfl, BelowOn (w := w) (a := w2.drewN m) (BelowDrewN HB.out m) hk⟩

set_option maxRecDepth 100000 in
theorem lifted (os : Os) (started : os.Started) (H : Type) (enc : TypeId × Value → H) :
    ReturnsInHanded {} Try.checked os 9 .any (Rows.classRunsSpec.pre6 enc Try.prog Try.f9 Rows.classRunsRow.domain false) (Rows.classRunsSpec.post enc Try.prog Try.f9 false true false false) := by
  refine returnsInHanded_of_change (C := Try.checked) own started (by kernel_rfl) Try.func9
    (ChangeSpec.witness6 (enc := enc) (C := Try.checked) false ⟨#[], #[.string ByteArray.empty], []⟩ 8 (by kernel_rfl) (by kernel_rfl) (by kernel_rfl) (by kernel_rfl)) ?_
  intro W base args ds gs before hval0 hW hcnd _
  have hval : ∀ (j : Nat) t v, Try.f9.params[j]? = some t → args[j]? = some v → Value.okWide Try.prog W .any base t v := hval0
  have hW' := hW
  obtain ⟨p, q, hA0, hV, rfl, hfz, hnd⟩ := hW
  have hA : DataW.TrodAll enc Try.prog W 0 (fun _ => true) true Try.f9.params.toList args.toList ds p := hA0
  rw [Try.params9] at hA hval
  obtain ⟨v0, vs0, d0, ds0, p0, q0, hargs, rfl, rfl, h0, r0⟩ := trodAll_cons hA
  obtain ⟨rfl, rfl, rfl⟩ := trodAll_nil r0
  obtain rfl : args = #[v0] := by cases args; simp_all
  obtain ⟨rfl, rfl⟩ := trodVars_none hV
  obtain ⟨a0, rfl, rfl, rfl, w0⟩ := open_string Try.underlying9 (hval 0 9 v0 rfl rfl) h0
  clear hA0 hval0
  refine (walk a0 W w0).mono fun e W' ⟨he, bel⟩ => ?_
  subst he
  exact ⟨_, rfl, _, _, _, [], _, [], hW', trodAll_mk1 (shut_bool Try.underlying4 _), (trodAll_cons_mk (shut_string Try.underlying9 w0) trodAll_mk0), rfl, bel.frame _, fun h => by cases h⟩

theorem over : Rows.classRunsRow.holds Try.pinned (OpenSpec.ofChange Rows.classRunsSpec) :=
  OpenClaim.holds_of_wide 9 Try.f9 rfl rfl rfl rfl rfl rfl rfl ⟨rfl, rfl, rfl, rfl, rfl⟩ rfl rfl rfl rfl rfl (by kernel_rfl) Try.func9 (by kernel_rfl)
    (of_decide_eq_true (by kernel_rfl)) (by unfold Func.isWrapper; first | (rw [if_pos (by decide +kernel)]; kernel_rfl) | (rw [if_neg (by decide +kernel)]; exact ⟨rfl, rfl⟩))
    (fun os started H enc _ => lifted os started H enc)

theorem proved : Rows.ClassRunsSaid := over
#print axioms proved
end Go.Proofs.Ytofnloapcfhmkaa.classRuns
