/- The law ClassBounds holds for every input. -/
import Derived.Test.YtofnloapcfhmkaaRows
import Derived.WalkKit
import Derived.ProofKit
import Derived.OpenShut
import Derived.ShutString
import Derived.ChangeOld
import Derived.Below
import Derived.Test.YtofnloapcfhmkaaKnown
import Derived.Test.YtofnloapcfhmkaaStr
namespace Go.Proofs.Ytofnloapcfhmkaa.classBounds
open Go.ChangeShapes Go.WideShapes Go.ChangeAt Go.RowKit
open Go.ChangeMaps (open_string shut_string)
set_option linter.unusedVariables false

theorem own : ownKnob Try.prog.godebug = none := by kernel_rfl
theorem laidOut : laidOutB Try.prog = true := by kernel_rfl

theorem info5 : (Try.prog.info? 5).map (fun i => (i.zero, i.size, i.bytes)) = some (some (.int .u8 0), 1, 1) := by kernel_rfl

theorem BRel.fin {wr : World} {b : Nat} {m : Nat} {g : Nat → Value} (h : wr.rowIs b 5 m g) (f : Nat → UInt8) (hf : ∀ i, i < m → g i = .int .u8 ((f i).toNat : Int)) :
    (convert 23 9 (.slice (some ⟨b, 0, none⟩) m m)).run Try.prog wr = .ok (.string (str f m)) wr := by
  have h := Lib.run_convert_whole (P := Try.prog) wr 23 5 9 Try.underlying23 Try.underlying5 Try.underlying9 b 0 (str f m) (bytes_of_row h f hf) m
  rwa [str_size] at h


theorem walk (a0 : Int) (a1 : Int) (w : World) (w0 : (Lit.int .i64 a0).wf = true) (w1 : (Lit.int .u8 a1).wf = true) :
    Calls Try.prog 6 #[.int .i64 a0, .int .u8 a1] w fun e w' => e = .returned (.bool true) ∧ Below w.heap.size w w' := by
  have hb : 0 ≤ a1 ∧ a1 ≤ 255 := by simpa [Lit.wf, IntKind.min, IntKind.max, IntKind.signed, IntKind.bits] using w1
  obtain ⟨hb0, hb1⟩ := hb
  obtain ⟨m, hm, he⟩ := mod_small a0 40 (by omega) (by omega)
  have hmk := fun w => run_make_row' (P := Try.prog) 23 5 (.int .u8 0) 1 Try.underlying23 info5 rfl .i64 .i64 m (by omega) (by omega) w
  have hst := World.rowIs_made w (.int .u8 0) m 5
  have HST := Lib.hid hst; clear hst w0 w1
  go_enter Try.func6, Try.ntmps6
  go_wp2_with fail
  rw [he]
  clear he hmk
  go_loopw [6, 16] (fun _ i wr => ∃ k : Nat, k ≤ m ∧ i = .int .i64 k ∧ Below w.heap.size w wr ∧ wr.rowIs w.heap.size 5 m (fun j => .int .u8 (if j < k then 122 else 0))) (fun _ i _ => m - (intOf i).toNat)
  case atStart => exact ⟨0, Nat.zero_le _, rfl, (Below.refl _ w).alloc (Nat.le_refl _) _, by simpa using HST.out⟩
  case round =>
    obtain ⟨k, hk, rfl, hB, hR⟩ := hrel
    by_cases hlt : k < m
    · have hc := hR.cell hlt
      have hf := hR.frozen k
      have HR := Lib.hid (hR.set k (.int .u8 122))
      have HB := Lib.hid (hB.setCell (p := ⟨w.heap.size, k, none⟩) (Nat.le_refl _) (.int .u8 122))
      clear hR hB
      go_wp2_with fail
      go_roundw
      case rel =>
        refine ⟨k + 1, by omega, by go_num, HB.out, HR.out.congr fun i hi => ?_⟩
        by_cases e : i = k
        · rw [if_pos e, if_pos (by omega)]
        · rw [if_neg e]; by_cases e2 : i < k
          · rw [if_pos e2, if_pos (by omega)]
          · rw [if_neg e2, if_neg (by omega)]
      case measure => simp [intOf]; omega
    · obtain rfl : k = m := by omega
      have hR1 := hR.congr (g := fun _ => .int .u8 122) (fun i hi => by rw [if_pos hi])
      have hcv := BRel.fin hR1 (fun _ => 122) (fun i hi => rfl)
      have HB := Lib.hid hB; clear hR hB
      by_cases c0 : k < 1
      · have hin := isname_any (str (fun _ => 122) k) wr (by rw [str_size]; unfold maxLen; omega)
        rw [zname, show decide (1 ≤ k) = false from by simp; omega, Bool.false_and] at hin
        have HIN := Lib.hid hin; clear hin
        have q0 : decide ((1 : Int) ≤ (k : Int)) = false := by simp; omega
        have q1 : ((k : Int) == 0) = true := by simp; omega
        go_wp2_with fail
        refine HIN.out.mono ?_; rintro e w' ⟨rfl, rfl⟩
        go_wp2_with fail
        refine (known_any _).mono ?_; rintro e w2 ⟨rfl, hk⟩
        go_wp2_with fail
        go_ret
        exact ⟨rfl, BelowOn HB.out hk⟩
      have hc := hR1.cell (i := 0) (by omega)
      have hf := hR1.frozen 0
      have hst := hR1.set 0 (.int .u8 a1)
      have hcv2 := BRel.fin hst (fun i => if i = 0 then UInt8.ofNat a1.toNat else 122) (fun i hi => by
        by_cases e : i = 0
        · simp only [e, if_true]; congr 1; rw [UInt8.toNat_ofNat']; omega
        · simp only [e, if_false]; rfl)
      have hin2 := isname_any (str (fun i => if i = 0 then UInt8.ofNat a1.toNat else 122) k) (wr.setCell ⟨w.heap.size, 0, none⟩ (.int .u8 a1)) (by rw [str_size]; unfold maxLen; omega)
      have hin := isname_any (str (fun _ => 122) k) wr (by rw [str_size]; unfold maxLen; omega)
      have q0 : decide ((1 : Int) ≤ (k : Int)) = true := by simp; omega
      have q1 : ((k : Int) == 0) = false := by simp; omega
      have HB2 := Lib.hid (HB.out.setCell (p := ⟨w.heap.size, 0, none⟩) (Nat.le_refl _) (.int .u8 a1))
      have HH := Lib.hid hst
      clear hst
      by_cases c24 : 24 < k
      · rw [zname, show decide (k ≤ 24) = false from by simp; omega, Bool.and_false] at hin
        rw [isNm_long _ (by rw [str_size]; exact c24)] at hin2
        have HIN := Lib.hid hin; have HIN2 := Lib.hid hin2; clear hin hin2
        have q2 : decide ((k : Int) ≤ 24) = false := by simp; omega
        go_wp2_with fail
        refine HIN.out.mono ?_; rintro e w' ⟨rfl, rfl⟩
        go_wp2_with fail
        refine HIN2.out.mono ?_; rintro e w' ⟨rfl, rfl⟩
        go_wp2_with fail
        refine (known_any _).mono ?_; rintro e w2 ⟨rfl, hk⟩
        go_wp2_with fail
        go_ret
        exact ⟨rfl, BelowOn HB2.out hk⟩
      · rw [zname, show decide (k ≤ 24) = true from by simp; omega, show decide (1 ≤ k) = true from by simp; omega, Bool.and_true] at hin
        rw [fname k _ (by omega) (by omega), show ((UInt8.ofNat a1.toNat).toNat : Int) = a1 from by rw [UInt8.toNat_ofNat']; omega] at hin2
        have q2 : decide ((k : Int) ≤ 24) = true := by simp; omega
        have HIN := Lib.hid hin; have HIN2 := Lib.hid hin2; clear hin hin2
        by_cases h97 : 97 ≤ a1
        · cases q3 : decide (a1 ≤ 122)
          all_goals
            have hlo : loB a1 = decide (a1 ≤ 122) := by unfold loB; simp [h97]
            rw [q3] at hlo
            go_wp2_with fail
            refine HIN.out.mono ?_; rintro e w' ⟨rfl, rfl⟩
            go_wp2_with fail
            refine HIN2.out.mono ?_; rintro e w' ⟨rfl, rfl⟩
            rw [hlo]
            go_wp2_with fail
            refine (known_any _).mono ?_; rintro e w2 ⟨rfl, hk⟩
            go_wp2_with fail
            go_ret
            exact ⟨rfl, BelowOn HB2.out hk⟩
        · have hlo : loB a1 = false := by unfold loB; simp [h97]
          go_wp2_with fail
          refine HIN.out.mono ?_; rintro e w' ⟨rfl, rfl⟩
          go_wp2_with fail
          refine HIN2.out.mono ?_; rintro e w' ⟨rfl, rfl⟩
          rw [hlo]
          go_wp2_with fail
          refine (known_any _).mono ?_; rintro e w2 ⟨rfl, hk⟩
          go_wp2_with fail
          go_ret
          exact ⟨rfl, BelowOn HB2.out hk⟩

set_option maxRecDepth 100000 in
theorem lifted (os : Os) (started : os.Started) (H : Type) (enc : TypeId × Value → H) :
    ReturnsInHanded {} Try.checked os 6 .any (Rows.classBoundsSpec.pre6 enc Try.prog Try.f6 Rows.classBoundsRow.domain false) (Rows.classBoundsSpec.post enc Try.prog Try.f6 false true false false) := by
  refine returnsInHanded_of_change (C := Try.checked) own started (by kernel_rfl) Try.func6
    (ChangeSpec.witness6 (enc := enc) (C := Try.checked) false ⟨#[], #[.int .i64 0, .int .u8 0], []⟩ 8 (by kernel_rfl) (by kernel_rfl) (by kernel_rfl) (by kernel_rfl)) ?_
  intro W base args ds gs before hval0 hW hcnd _
  have hval : ∀ (j : Nat) t v, Try.f6.params[j]? = some t → args[j]? = some v → Value.okWide Try.prog W .any base t v := hval0
  have hW' := hW
  obtain ⟨p, q, hA0, hV, rfl, hfz, hnd⟩ := hW
  have hA : DataW.TrodAll enc Try.prog W 0 (fun _ => true) true Try.f6.params.toList args.toList ds p := hA0
  rw [Try.params6] at hA hval
  obtain ⟨v0, vs0, d0, ds0, p0, q0, hargs, rfl, rfl, h0, r0⟩ := trodAll_cons hA
  obtain ⟨v1, vs1, d1, ds1, p1, q1, rfl, rfl, rfl, h1, r1⟩ := trodAll_cons r0
  obtain ⟨rfl, rfl, rfl⟩ := trodAll_nil r1
  obtain rfl : args = #[v0, v1] := by cases args; simp_all
  obtain ⟨rfl, rfl⟩ := trodVars_none hV
  obtain ⟨a0, rfl, rfl, rfl, w0⟩ := open_int Try.underlying3 (hval 0 3 v0 rfl rfl) h0
  obtain ⟨a1, rfl, rfl, rfl, w1⟩ := open_int Try.underlying5 (hval 1 5 v1 rfl rfl) h1
  clear hA0 hval0
  refine (walk a0 a1 W w0 w1).mono fun e W' ⟨he, bel⟩ => ?_
  subst he
  exact ⟨_, rfl, _, _, _, [], _, [], hW', trodAll_mk1 (shut_bool Try.underlying4 _), (trodAll_cons_mk (shut_int Try.underlying3 w0) (trodAll_cons_mk (shut_int Try.underlying5 w1) trodAll_mk0)), rfl, bel.frame _, fun h => by cases h⟩

theorem over : Rows.classBoundsRow.holds Try.pinned (OpenSpec.ofChange Rows.classBoundsSpec) :=
  OpenClaim.holds_of_wide 6 Try.f6 rfl rfl rfl rfl rfl rfl rfl ⟨rfl, rfl, rfl, rfl, rfl⟩ rfl rfl rfl rfl rfl (by kernel_rfl) Try.func6 (by kernel_rfl)
    (of_decide_eq_true (by kernel_rfl)) (by unfold Func.isWrapper; first | (rw [if_pos (by decide +kernel)]; kernel_rfl) | (rw [if_neg (by decide +kernel)]; exact ⟨rfl, rfl⟩))
    (fun os started H enc _ => lifted os started H enc)

theorem proved : Rows.ClassBoundsSaid := over
#print axioms proved
end Go.Proofs.Ytofnloapcfhmkaa.classBounds
