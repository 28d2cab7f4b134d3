/- The law ClassTiles holds for every input. -/
import Derived.Test.YtofnloapcfhmkaaRows
import Derived.WalkKit
import Derived.ProofKit
import Derived.OpenShut
import Derived.ShutString
import Derived.ChangeOld
import Derived.Below
import Derived.Test.YtofnloapcfhmkaaKnown
import Derived.Test.YtofnloapcfhmkaaRuns
import Derived.Test.YtofnloapcfhmkaaTile
namespace Go.Proofs.Ytofnloapcfhmkaa.classTiles
open Go.ChangeShapes Go.WideShapes Go.ChangeAt Go.RowKit
open Go.ChangeMaps (open_string shut_string)
set_option linter.unusedVariables false

theorem own : ownKnob Try.prog.godebug = none := by kernel_rfl
theorem laidOut : laidOutB Try.prog = true := by kernel_rfl

theorem walk (a0 : ByteArray) (w : World) (w0 : a0.size ≤ maxLen) :
    Calls Try.prog 10 #[.string a0] w fun e w' => e = .returned (.bool true) ∧ Below w.heap.size w w' := by
  unfold maxLen at w0
  by_cases c0 : 300 < a0.size
  · go_enter Try.func10, Try.ntmps10
    go_wp2_with fail
    refine (known_any _).mono ?_; rintro e w' ⟨rfl, hb⟩
    go_wp2_with fail
    go_ret
    exact ⟨rfl, hb⟩
  have q0 : decide (300 < (a0.size : Int)) = false := by simp; omega
  go_enter Try.func10, Try.ntmps10
  go_wp2_with fail
  refine (runs_any a0 _ (by omega)).mono ?_; rintro e w1 ⟨v1, rfl, hR1⟩
  obtain ⟨x1, p1, rfl, g1⟩ := hR1.view
  have hn := runs_len a0
  have HB := Lib.hid hR1.below
  have HT := Lib.hid (runs_tile a0)
  generalize runsOf a0 = R at *
  clear hR1
  by_cases hz : R.length = 0
  · clear g1
    have hs0 : a0.size = 0 := by have := HT.out.fin; rw [hz] at this; exact this.symm
    have q1 : ((0 : Int) == (a0.size : Int)) = true := by rw [hs0]; rfl
    rw [hz]
    clear hs0
    go_wp2_with fail
    go_loop [3, 15] (fun a i => a = .int .i64 0 ∧ i = .int .i64 0) (fun _ i => (0 : Nat))
    case atStart => exact ⟨rfl, rfl⟩
    case round =>
      obtain ⟨rfl, rfl⟩ := hrel
      go_wp2_with fail
      refine (known_any _).mono ?_; rintro e w3 ⟨rfl, hk⟩
      go_wp2_with fail
      go_ret
      exact ⟨rfl, BelowOn HB.out hk⟩
  · obtain ⟨b1, rfl, hl1, hu1, hc1⟩ := g1 (by omega)
    have H1 := Lib.hid hc1
    clear hc1 g1
    go_wp2_with fail
    go_loopw [3, 4, 15] (fun a l i wr => ∃ k : Nat, k ≤ R.length ∧ i = .int .i64 k ∧ a = .int .i64 (bg R k : Int) ∧ l = .int .i64 (lastC a0 R k) ∧ Below w1.heap.size w1 wr) (fun _ _ i _ => R.length - (intOf i).toNat)
    case atStart => exact ⟨0, Nat.zero_le _, rfl, rfl, rfl, Below.refl _ _⟩
    case round =>
      obtain ⟨k, hk, rfl, rfl, rfl, hb⟩ := hrel
      by_cases hlt : k < R.length
      · obtain ⟨d1, d2⟩ := H1.out k hlt
        rw [← hb.cell (p := ⟨b1, k * 2, none⟩) hu1] at d1
        rw [← hb.cell (p := ⟨b1, k * 2 + 1, none⟩) hu1] at d2
        obtain ⟨t1, t2, t3, t4, t5⟩ := HT.out.ok k hlt
        have HS1 := Lib.hid (bg_succ R k hlt)
        have HS2 := Lib.hid (lastC_succ a0 R k hlt)
        rw [← t1]
        generalize hF : (R[k]).1 = F at *
        generalize hE : (R[k]).2 = E at *
        have T4 := Lib.hid t4
        have hFs : F < a0.size := by omega
        have hbF := byteLe a0[F]
        have HcF := Lib.hid (clA_at a0 F hFs)
        rw [clA_at a0 F hFs] at t5
        have q1 : ((F : Int) != (F : Int)) = false := by simp
        have q2 : decide ((E : Int) ≤ (F : Int)) = false := by simp; omega
        have q3 : decide ((a0.size : Int) < (E : Int)) = false := by simp; omega
        have q4 : (cls (a0[F].toNat : Int) == lastC a0 R k) = false := by simpa using t5
        have HL := Lib.hid hb
        clear t1 t4 t5 hF hE hb
        go_wp2_with fail
        refine (of_any _ _ (by omega) hbF).mono ?_; rintro e w' ⟨rfl, rfl⟩
        go_wp2_with fail
        refine (of_any _ _ (by omega) hbF).mono ?_; rintro e w' ⟨rfl, rfl⟩
        clear q1 q2 q3 q4
        go_wp2_with fail
        go_loop [7] (fun i => ∃ j : Nat, F ≤ j ∧ j ≤ E ∧ i = .int .i64 j) (fun i => E - (intOf i).toNat)
        case atStart => exact ⟨F, by omega, by omega, rfl⟩
        case round =>
          obtain ⟨j, hj1, hj2, rfl⟩ := hrel
          by_cases hjE : j < E
          · have hjs : j < a0.size := by omega
            have hbj := byteLe (a0[j]'hjs)
            have q6 : (cls (a0[j].toNat : Int) != cls (a0[F].toNat : Int)) = false := by
              have := T4.out j hj1 hjE
              rw [HcF.out, clA_at a0 j hjs] at this
              simp [this]
            go_wp2_with fail
            refine (of_any _ _ (by omega) hbj).mono ?_; rintro e w' ⟨rfl, rfl⟩
            go_wp2_with fail
            go_round
            case rel => exact ⟨j + 1, by omega, by omega, by go_num⟩
            case measure => simp [intOf]; omega
          · obtain rfl : j = E := by omega
            go_wp2_with fail
            go_roundw
            case rel => exact ⟨k + 1, by omega, by go_num, by rw [HS1.out], by rw [HS2.out, HcF.out], HL.out.alloc HL.out.size _⟩
            case measure => simp [intOf]; omega
      · obtain rfl : k = R.length := by omega
        have hf := HT.out.fin
        rw [hf]
        have q5 : ((a0.size : Int) == (a0.size : Int)) = true := by simp
        clear hf
        go_wp2_with fail
        refine (known_any _).mono ?_; rintro e w3 ⟨rfl, hk⟩
        go_wp2_with fail
        go_ret
        exact ⟨rfl, BelowOn (HB.out.trans (hb.mono HB.out.size)) hk⟩

set_option maxRecDepth 100000 in
theorem lifted (os : Os) (started : os.Started) (H : Type) (enc : TypeId × Value → H) :
    ReturnsInHanded {} Try.checked os 10 .any (Rows.classTilesSpec.pre6 enc Try.prog Try.f10 Rows.classTilesRow.domain false) (Rows.classTilesSpec.post enc Try.prog Try.f10 false true false false) := by
  refine returnsInHanded_of_change (C := Try.checked) own started (by kernel_rfl) Try.func10
    (ChangeSpec.witness6 (enc := enc) (C := Try.checked) false ⟨#[], #[.string ByteArray.empty], []⟩ 8 (by kernel_rfl) (by kernel_rfl) (by kernel_rfl) (by kernel_rfl)) ?_
  intro W base args ds gs before hval0 hW hcnd _
  have hval : ∀ (j : Nat) t v, Try.f10.params[j]? = some t → args[j]? = some v → Value.okWide Try.prog W .any base t v := hval0
  have hW' := hW
  obtain ⟨p, q, hA0, hV, rfl, hfz, hnd⟩ := hW
  have hA : DataW.TrodAll enc Try.prog W 0 (fun _ => true) true Try.f10.params.toList args.toList ds p := hA0
  rw [Try.params10] at hA hval
  obtain ⟨v0, vs0, d0, ds0, p0, q0, hargs, rfl, rfl, h0, r0⟩ := trodAll_cons hA
  obtain ⟨rfl, rfl, rfl⟩ := trodAll_nil r0
  obtain rfl : args = #[v0] := by cases args; simp_all
  obtain ⟨rfl, rfl⟩ := trodVars_none hV
  obtain ⟨a0, rfl, rfl, rfl, w0⟩ := open_string Try.underlying9 (hval 0 9 v0 rfl rfl) h0
  clear hA0 hval0
  refine (walk a0 W w0).mono fun e W' ⟨he, bel⟩ => ?_
  subst he
  exact ⟨_, rfl, _, _, _, [], _, [], hW', trodAll_mk1 (shut_bool Try.underlying4 _), (trodAll_cons_mk (shut_string Try.underlying9 w0) trodAll_mk0), rfl, bel.frame _, fun h => by cases h⟩

theorem over : Rows.classTilesRow.holds Try.pinned (OpenSpec.ofChange Rows.classTilesSpec) :=
  OpenClaim.holds_of_wide 10 Try.f10 rfl rfl rfl rfl rfl rfl rfl ⟨rfl, rfl, rfl, rfl, rfl⟩ rfl rfl rfl rfl rfl (by kernel_rfl) Try.func10 (by kernel_rfl)
    (of_decide_eq_true (by kernel_rfl)) (by unfold Func.isWrapper; first | (rw [if_pos (by decide +kernel)]; kernel_rfl) | (rw [if_neg (by decide +kernel)]; exact ⟨rfl, rfl⟩))
    (fun os started H enc _ => lifted os started H enc)

theorem proved : Rows.ClassTilesSaid := over
#print axioms proved
end Go.Proofs.Ytofnloapcfhmkaa.classTiles
