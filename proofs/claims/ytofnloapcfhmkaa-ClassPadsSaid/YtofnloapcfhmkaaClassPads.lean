/- The law ClassPads holds for every input. -/
import Derived.Test.YtofnloapcfhmkaaRows
import Derived.WalkKit
import Derived.ProofKit
import Derived.OpenShut
import Derived.ShutString
import Derived.ChangeOld
import Derived.Below
import Derived.Test.YtofnloapcfhmkaaPad
namespace Go.Proofs.Ytofnloapcfhmkaa.classPads
open Go.ChangeShapes Go.WideShapes Go.ChangeAt Go.RowKit
open Go.ChangeMaps (open_string shut_string)
set_option linter.unusedVariables false

theorem own : ownKnob Try.prog.godebug = none := by kernel_rfl
theorem laidOut : laidOutB Try.prog = true := by kernel_rfl

theorem walk (a0 : ByteArray) (a1 : Int) (a2 : Int) (w : World) (w0 : a0.size ≤ maxLen) (w1 : (Lit.int .i64 a1).wf = true) (w2 : (Lit.int .i64 a2).wf = true) :
    Calls Try.prog 8 #[.string a0, .int .i64 a1, .int .i64 a2] w fun e w' => e = .returned (.bool true) ∧ Below w.heap.size w w' := by
  unfold maxLen at w0
  by_cases c0 : 200 < a0.size
  · go_enter Try.func8, Try.ntmps8
    go_wp2_with fail
    refine (known_any _).mono ?_; rintro e w' ⟨rfl, hb⟩
    go_wp2_with fail
    go_ret
    exact ⟨rfl, hb⟩
  have q0 : decide (200 < (a0.size : Int)) = false := by simp; omega
  obtain ⟨m, hm, he⟩ := mod_small a1 10 (by omega) (by omega)
  obtain ⟨n, hn, hf⟩ := mod_small a2 10 (by omega) (by omega)
  have s1 := spaces_of a1 m (by omega) he
  have s2 := spaces_of a2 n (by omega) hf
  have zb : (str (spc m) m).size = m := str_size _ _
  have za : (str (spc n) n).size = n := str_size _ _
  have pb : ∀ i, i < (str (spc m) m).size → spB (str (spc m) m) i = true := fun i hi => spc_sp m m i (by rw [zb] at hi; exact hi)
  have pa : ∀ i, i < (str (spc n) n).size → spB (str (spc n) n) i = true := fun i hi => spc_sp n n i (by rw [za] at hi; exact hi)
  have p0 := pad_none (str (spc m) m) a0 (str (spc n) n) pb pa
  have p1 := pad_some (str (spc m) m) a0 (str (spc n) n) pb pa
  have t0 := fun w => trim_any a0 w (by omega)
  have t1 := fun w => trim_any (str (spc m) m ++ a0 ++ str (spc n) n) w (by rw [ByteArray.size_append, ByteArray.size_append, zb, za]; omega)
  have lb : (str (spc m) m).size ≤ 9 := by omega
  have la : (str (spc n) n).size ≤ 9 := by omega
  have ZB := Lib.hid zb
  have S1 := Lib.hid s1; have S2 := Lib.hid s2
  clear he hf w1 w2 pb pa zb za s1 s2
  by_cases h0 : tE a0 = 0
  · have hp := p0 h0
    have hq := tF_zero _ hp
    simp only [hp, hq] at t1
    simp only [tF_zero a0 h0, h0] at t0
    have T0 := Lib.hid t0; have T1 := Lib.hid t1
    clear p0 p1 hp hq t0 t1 h0
    go_enter Try.func8, Try.ntmps8
    go_wp2_with fail
    refine (S1.out _).mono ?_; rintro e w1 ⟨rfl, hb1⟩
    go_wp2_with fail
    refine (S2.out _).mono ?_; rintro e w2 ⟨rfl, hb2⟩
    go_wp2_with fail
    refine (T0.out _).mono ?_; rintro e w' ⟨rfl, rfl⟩
    go_wp2_with fail
    refine (T1.out _).mono ?_; rintro e w' ⟨rfl, rfl⟩
    go_wp2_with fail
    refine (known_any _).mono ?_; rintro e w3 ⟨rfl, hb3⟩
    go_wp2_with fail
    go_ret
    exact ⟨rfl, BelowOn (BelowOn hb1 hb2) hb3⟩
  · obtain ⟨hp, hq⟩ := p1 (by omega)
    have hlt := (tF_lt a0 (by omega)).1
    have hle : tE a0 ≤ a0.size := tEnd_le _ _
    rw [ZB.out] at hp hq
    simp only [hp, hq] at t1
    have q1 : ((tF a0 : Int) == (tE a0 : Int)) = false := by simp; omega
    generalize tF a0 = F at *
    generalize tE a0 = E at *
    have T0 := Lib.hid t0; have T1 := Lib.hid t1
    clear p0 p1 hp hq t0 t1 h0
    go_enter Try.func8, Try.ntmps8
    go_wp2_with fail
    refine (S1.out _).mono ?_; rintro e w1 ⟨rfl, hb1⟩
    go_wp2_with fail
    refine (S2.out _).mono ?_; rintro e w2 ⟨rfl, hb2⟩
    go_wp2_with fail
    refine (T0.out _).mono ?_; rintro e w' ⟨rfl, rfl⟩
    go_wp2_with fail
    refine (T1.out _).mono ?_; rintro e w' ⟨rfl, rfl⟩
    have hz : ((str (spc m) m).size : Int) = (m : Int) := by rw [ZB.out]
    have g1 : ((F : Int) + (m : Int) == (F : Int) + (m : Int)) = true := by simp
    go_wp2_with fail
    refine (known_any _).mono ?_; rintro e w3 ⟨rfl, hb3⟩
    go_wp2_with fail
    go_ret
    exact ⟨rfl, BelowOn (BelowOn hb1 hb2) hb3⟩

set_option maxRecDepth 100000 in
theorem lifted (os : Os) (started : os.Started) (H : Type) (enc : TypeId × Value → H) :
    ReturnsInHanded {} Try.checked os 8 .any (Rows.classPadsSpec.pre6 enc Try.prog Try.f8 Rows.classPadsRow.domain false) (Rows.classPadsSpec.post enc Try.prog Try.f8 false true false false) := by
  refine returnsInHanded_of_change (C := Try.checked) own started (by kernel_rfl) Try.func8
    (ChangeSpec.witness6 (enc := enc) (C := Try.checked) false ⟨#[], #[.string ByteArray.empty, .int .i64 0, .int .i64 0], []⟩ 8 (by kernel_rfl) (by kernel_rfl) (by kernel_rfl) (by kernel_rfl)) ?_
  intro W base args ds gs before hval0 hW hcnd _
  have hval : ∀ (j : Nat) t v, Try.f8.params[j]? = some t → args[j]? = some v → Value.okWide Try.prog W .any base t v := hval0
  have hW' := hW
  obtain ⟨p, q, hA0, hV, rfl, hfz, hnd⟩ := hW
  have hA : DataW.TrodAll enc Try.prog W 0 (fun _ => true) true Try.f8.params.toList args.toList ds p := hA0
  rw [Try.params8] at hA hval
  obtain ⟨v0, vs0, d0, ds0, p0, q0, hargs, rfl, rfl, h0, r0⟩ := trodAll_cons hA
  obtain ⟨v1, vs1, d1, ds1, p1, q1, rfl, rfl, rfl, h1, r1⟩ := trodAll_cons r0
  obtain ⟨v2, vs2, d2, ds2, p2, q2, rfl, rfl, rfl, h2, r2⟩ := trodAll_cons r1
  obtain ⟨rfl, rfl, rfl⟩ := trodAll_nil r2
  obtain rfl : args = #[v0, v1, v2] := by cases args; simp_all
  obtain ⟨rfl, rfl⟩ := trodVars_none hV
  obtain ⟨a0, rfl, rfl, rfl, w0⟩ := open_string Try.underlying9 (hval 0 9 v0 rfl rfl) h0
  obtain ⟨a1, rfl, rfl, rfl, w1⟩ := open_int Try.underlying3 (hval 1 3 v1 rfl rfl) h1
  obtain ⟨a2, rfl, rfl, rfl, w2⟩ := open_int Try.underlying3 (hval 2 3 v2 rfl rfl) h2
  clear hA0 hval0
  refine (walk a0 a1 a2 W w0 w1 w2).mono fun e W' ⟨he, bel⟩ => ?_
  subst he
  exact ⟨_, rfl, _, _, _, [], _, [], hW', trodAll_mk1 (shut_bool Try.underlying4 _), (trodAll_cons_mk (shut_string Try.underlying9 w0) (trodAll_cons_mk (shut_int Try.underlying3 w1) (trodAll_cons_mk (shut_int Try.underlying3 w2) trodAll_mk0))), rfl, bel.frame _, fun h => by cases h⟩

theorem over : Rows.classPadsRow.holds Try.pinned (OpenSpec.ofChange Rows.classPadsSpec) :=
  OpenClaim.holds_of_wide 8 Try.f8 rfl rfl rfl rfl rfl rfl rfl ⟨rfl, rfl, rfl, rfl, rfl⟩ rfl rfl rfl rfl rfl (by kernel_rfl) Try.func8 (by kernel_rfl)
    (of_decide_eq_true (by kernel_rfl)) (by unfold Func.isWrapper; first | (rw [if_pos (by decide +kernel)]; kernel_rfl) | (rw [if_neg (by decide +kernel)]; exact ⟨rfl, rfl⟩))
    (fun os started H enc _ => lifted os started H enc)

theorem proved : Rows.ClassPadsSaid := over
#print axioms proved
end Go.Proofs.Ytofnloapcfhmkaa.classPads
