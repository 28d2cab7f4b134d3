/- Score: the walks of ScoreAllows and ScoreMonotone. The law ScoreAllows holds for every input. -/
import Derived.Test.YtpkipdiecnokhaaDtL
import Derived.Test.YtpkipdiecnokhaaRows
import Derived.WalkKit
import Derived.ProofKit
import Derived.OpenShut
import Derived.ChangeOld
import Derived.Below
import Derived.Carry
import Derived.SizedLaws
import Derived.Test.YtpkipdiecnokhaaTka
namespace Go.Proofs.Ytpkipdiecnokhaa
open Go.ChangeShapes Go.WideShapes Go.ChangeAt Go.RowKit Go.Sort
set_option linter.unusedVariables false
set_option linter.unusedSimpArgs false
set_option maxRecDepth 100000

theorem allows_law (a0 a1 : Int) (w : World) (w0 : (Lit.int .i64 a0).wf = true) (w1 : (Lit.int .i64 a1).wf = true) :
    Calls Try.prog 4 #[.int .i64 a0, .int .i64 a1] w fun e w' => e = .returned (.bool true) ∧ Below w.heap.size w w' := by
  have P1 := Lib.hid (fun W => place_any a1 104 W (by omega) (by omega) w1)
  have P2 := Lib.hid (fun W => place_any a0 200 W (by omega) (by omega) w0)
  have HA := Lib.hid (fun t p W => allowed_any t p W)
  have HR := Lib.hid (fun t p W => rallowed_any t p W)
  go_enter Try.func4, Try.ntmps4
  go_wp2_with fail
  refine (P1.out _).mono ?_; rintro e w1 ⟨rfl, rfl⟩
  go_wp2_with fail
  refine (P2.out _).mono ?_; rintro e w1 ⟨rfl, rfl⟩
  clear P1 P2
  generalize a1 % 104 = q
  generalize a0 % 200 = t
  go_wp2_with fail
  refine (HA.out _ _ _).mono ?_; rintro e w1 ⟨rfl, rfl⟩
  go_wp2_with fail
  refine (HR.out _ _ _).mono ?_; rintro e w1 ⟨rfl, rfl⟩
  generalize alw a0 a1 = X
  go_wp2_with fail
  refine (HA.out _ _ _).mono ?_; rintro e w1 ⟨rfl, rfl⟩
  go_wp2_with fail
  refine (HR.out _ _ _).mono ?_; rintro e w1 ⟨rfl, rfl⟩
  generalize alw a0 q = Y
  go_wp2_with fail
  refine (HA.out _ _ _).mono ?_; rintro e w1 ⟨rfl, rfl⟩
  go_wp2_with fail
  refine (HR.out _ _ _).mono ?_; rintro e w1 ⟨rfl, rfl⟩
  generalize alw t q = Z
  go_wp2_with fail
  refine (sknown_any _).mono ?_; rintro e w1 ⟨rfl, hb⟩
  go_wp2_with fail
  go_ret
  exact ⟨rfl, hb⟩
theorem alw_in (t p : Int) (h1 : 1 ≤ t) (h2 : t ≤ 1073741824) (h3 : 1 ≤ p) (h4 : p ≤ 100) : alw t p = t * (100 - p) / 100 := by
  unfold alw; rw [if_neg (by omega), if_neg (by omega), show min t 1073741824 = t by omega]
theorem alw_over (t p : Int) (h : 100 < p) : alw t p = -1 := if_pos h
theorem mono_facts (t p k : Int) (h1 : 1 ≤ t) (h2 : t ≤ 5000) (h3 : 1 ≤ p) (h4 : p ≤ 100) (h5 : 0 ≤ k) (h6 : k ≤ 99) : alw t (p + k) ≤ alw t p ∧ alw t p ≤ alw (t + k) p ∧ alw t 100 = 0 ∧ alw t p ≤ t ∧ 0 ≤ alw t p := by
  have e1 := alw_in t p h1 (by omega) h3 h4
  have b1 : 0 ≤ t * (100 - p) := Int.mul_nonneg (by omega) (by omega)
  refine ⟨?_, ?_, ?_, ?_, ?_⟩
  · by_cases h : 100 < p + k
    · rw [alw_over t _ h, e1]; omega
    · rw [alw_in t (p + k) h1 (by omega) (by omega) (by omega), e1]
      have : t * (100 - (p + k)) ≤ t * (100 - p) := Int.mul_le_mul_of_nonneg_left (by omega) (by omega)
      omega
  · rw [e1, alw_in (t + k) p (by omega) (by omega) h3 h4]
    have : t * (100 - p) ≤ (t + k) * (100 - p) := Int.mul_le_mul_of_nonneg_right (by omega) (by omega)
    omega
  · rw [alw_in t 100 h1 (by omega) (by omega) (by omega)]; simp
  · rw [e1]
    have : t * (100 - p) ≤ t * 100 := Int.mul_le_mul_of_nonneg_left (by omega) (by omega)
    omega
  · rw [e1]; omega
theorem monotone_law (a0 a1 a2 : Int) (w : World) (w0 : (Lit.int .i64 a0).wf = true) (w1 : (Lit.int .i64 a1).wf = true) (w2 : (Lit.int .i64 a2).wf = true) :
    Calls Try.prog 7 #[.int .i64 a0, .int .i64 a1, .int .i64 a2] w fun e w' => e = .returned (.bool true) ∧ Below w.heap.size w w' := by
  have P0 := Lib.hid (fun W => place_any a0 5000 W (by omega) (by omega) w0)
  have P1 := Lib.hid (fun W => place_any a1 100 W (by omega) (by omega) w1)
  have P2 := Lib.hid (fun W => place_any a2 100 W (by omega) (by omega) w2)
  have HA := Lib.hid (fun t p W => allowed_any t p W)
  have r0 : 0 ≤ a0 % 5000 ∧ a0 % 5000 < 5000 := by omega
  have r1 : 0 ≤ a1 % 100 ∧ a1 % 100 < 100 := by omega
  have r2 : 0 ≤ a2 % 100 ∧ a2 % 100 < 100 := by omega
  have hf := mono_facts (1 + a0 % 5000) (1 + a1 % 100) (a2 % 100) (by omega) (by omega) (by omega) (by omega) (by omega) (by omega)
  generalize a0 % 5000 = T at *
  generalize a1 % 100 = P at *
  generalize a2 % 100 = K at *
  have e1 : IntKind.i64.wrap (1 + T) = 1 + T := IntWalk.i64_in _ ⟨by omega, by omega⟩
  have e2 : IntKind.i64.wrap (1 + P) = 1 + P := IntWalk.i64_in _ ⟨by omega, by omega⟩
  have e3 : IntKind.i64.wrap (1 + P + K) = 1 + P + K := IntWalk.i64_in _ ⟨by omega, by omega⟩
  have e4 : IntKind.i64.wrap (1 + T + K) = 1 + T + K := IntWalk.i64_in _ ⟨by omega, by omega⟩
  obtain ⟨f1, f2, f3, f4, f5⟩ := hf
  have H3 := Lib.hid f3
  clear f3
  go_enter Try.func7, Try.ntmps7
  go_wp2_with fail
  refine (P0.out _).mono ?_; rintro e w1 ⟨rfl, rfl⟩
  go_wp2_with fail
  refine (P1.out _).mono ?_; rintro e w1 ⟨rfl, rfl⟩
  go_wp2_with fail
  refine (P2.out _).mono ?_; rintro e w1 ⟨rfl, rfl⟩
  clear P0 P1 P2
  go_wp2_with fail
  refine (HA.out _ _ _).mono ?_; rintro e w1 ⟨rfl, rfl⟩
  go_wp2_with fail
  refine (HA.out _ _ _).mono ?_; rintro e w1 ⟨rfl, rfl⟩
  have q1 : decide (alw (1 + T) (1 + P + K) ≤ alw (1 + T) (1 + P)) = true := decide_eq_true f1
  go_wp2_with fail
  refine (HA.out _ _ _).mono ?_; rintro e w1 ⟨rfl, rfl⟩
  go_wp2_with fail
  refine (HA.out _ _ _).mono ?_; rintro e w1 ⟨rfl, rfl⟩
  have q2 : decide (alw (1 + T) (1 + P) ≤ alw (1 + T + K) (1 + P)) = true := decide_eq_true f2
  go_wp2_with fail
  refine (HA.out _ _ _).mono ?_; rintro e w1 ⟨rfl, rfl⟩
  have q3 : ((alw (1 + T) 100) == 0) = true := by rw [H3.out]; rfl
  go_wp2_with fail
  refine (HA.out _ _ _).mono ?_; rintro e w1 ⟨rfl, rfl⟩
  have q4 : decide (alw (1 + T) (1 + P) ≤ 1 + T) = true := decide_eq_true f4
  go_wp2_with fail
  refine (sknown_any _).mono ?_; rintro e w1 ⟨rfl, hb⟩
  go_wp2_with fail
  go_ret
  exact ⟨rfl, hb⟩
end Go.Proofs.Ytpkipdiecnokhaa
namespace Go.Proofs.Ytpkipdiecnokhaa.scoreAllows
open Go.ChangeShapes Go.WideShapes Go.ChangeAt Go.RowKit
open Go.ChangeMaps (open_string shut_string)
set_option linter.unusedVariables false
set_option maxRecDepth 100000

theorem own : ownKnob Try.prog.godebug = none := by kernel_rfl
theorem laidOut : laidOutB Try.prog = true := by kernel_rfl


set_option maxHeartbeats 1600000 in
theorem walk (a0 : Int) (a1 : Int) (w : World) (w0 : (Lit.int .i64 a0).wf = true) (w1 : (Lit.int .i64 a1).wf = true) :
    Calls Try.prog 4 #[.int .i64 a0, .int .i64 a1] w fun e w' => e = .returned (.bool true) ∧ Below w.heap.size w w' := by
  exact allows_law a0 a1 w w0 w1

theorem lifted (os : Os) (started : os.Started) (H : Type) (enc : TypeId × Value → H) :
    ReturnsInHanded {} Try.checked os 4 .any (Rows.scoreAllowsSpec.pre6 enc Try.prog Try.f4 Rows.scoreAllowsRow.domain false) (Rows.scoreAllowsSpec.post enc Try.prog Try.f4 false true false false) := by
  refine returnsInHanded_of_change_sized (C := Try.checked) own started (by kernel_rfl) Try.func4
    (ChangeSpec.witness6 (enc := enc) (C := Try.checked) false ⟨#[], #[.int .i64 0, .int .i64 0], []⟩ 8 (by kernel_rfl) (by kernel_rfl) (by kernel_rfl) (by kernel_rfl)) ?_
  intro W base args ds gs before hval0 hW hcnd hsz0 _
  have hval : ∀ (j : Nat) t v, Try.f4.params[j]? = some t → args[j]? = some v → Value.okWide Try.prog W .any base t v := hval0
  have hW' := hW
  have hlt : ∀ x ∈ before, x.block < W.heap.size := fun x hx => hW'.lt x hx
  obtain ⟨p, q, hA0, hV, rfl, hfz, hnd⟩ := hW
  have hA : DataW.TrodAll enc Try.prog W 0 (fun _ => true) true Try.f4.params.toList args.toList ds p := hA0
  rw [Try.params4] at hA hval hsz0
  obtain ⟨v0, vs0, d0, ds0, p0, q0, hargs, rfl, rfl, h0, r0⟩ := trodAll_cons hA
  obtain ⟨v1, vs1, d1, ds1, p1, q1, rfl, rfl, rfl, h1, r1⟩ := trodAll_cons r0
  obtain ⟨rfl, rfl, rfl⟩ := trodAll_nil r1
  obtain rfl : args = #[v0, v1] := by cases args; simp_all
  obtain ⟨rfl, rfl⟩ := trodVars_none hV
  have hsz := hsz0; clear hsz0
  obtain ⟨a0, rfl, -, -, w0⟩ := open_int Try.underlying3 (hval 0 3 v0 rfl rfl) h0
  obtain ⟨a1, rfl, -, -, w1⟩ := open_int Try.underlying3 (hval 1 3 v1 rfl rfl) h1
  clear hA0 hval0
  refine (walk a0 a1 W w0 w1).mono fun e W' ⟨he, bel⟩ => ?_
  subst he
  exact ⟨_, rfl, _, _, _, [], _, [], hW', trodAll_mk1 (shut_bool Try.underlying4 _), (trodAll_cons_mk (Below.trod laidOut (by kernel_rfl) (of_decide_eq_true (by kernel_rfl)) h0 bel (fun x hx => hlt x (by simp [hx]))) (trodAll_cons_mk (Below.trod laidOut (by kernel_rfl) (of_decide_eq_true (by kernel_rfl)) h1 bel (fun x hx => hlt x (by simp [hx]))) trodAll_mk0)), rfl, bel.frame _, fun h => by cases h⟩

theorem over : Rows.scoreAllowsRow.holds Try.pinned (OpenSpec.ofChange Rows.scoreAllowsSpec) :=
  OpenClaim.holds_of_wide 4 Try.f4 rfl rfl rfl rfl rfl rfl rfl ⟨rfl, rfl, rfl, rfl, rfl⟩ rfl rfl rfl rfl rfl (by kernel_rfl) Try.func4 (by kernel_rfl)
    (of_decide_eq_true (by kernel_rfl)) (by unfold Func.isWrapper; first | (rw [if_pos (by decide +kernel)]; kernel_rfl) | (rw [if_neg (by decide +kernel)]; exact ⟨rfl, rfl⟩))
    (fun os started H enc _ => lifted os started H enc)

theorem proved : Rows.ScoreAllowsSaid := over
#print axioms proved
end Go.Proofs.Ytpkipdiecnokhaa.scoreAllows
