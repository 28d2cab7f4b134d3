/- The walk of RatioFormats. -/
import Derived.Test.YtfhppadcaoggeaaDoorRfmt
namespace Go.Proofs.YtfhppadcaoggeaaDoor
open Go.ChangeShapes Go.WideShapes Go.ChangeAt Go.RowKit
set_option linter.unusedVariables false

theorem seven (a : Int) : ∃ k : Nat, k ≤ 6 ∧ wrap64 ((IntKind.u64.wrap a).tmod 7) = (k : Int) := by
  have u0 : 0 ≤ IntKind.u64.wrap a := by show 0 ≤ a % 18446744073709551616; omega
  generalize IntKind.u64.wrap a = u at *
  rw [Int.tmod_eq_emod_of_nonneg u0]
  refine ⟨(u % 7).toNat, by omega, ?_⟩
  rw [IntWalk.wrap64_in (u % 7) (by omega)]; omega
theorem formats (a0 b0 a1 a2 a3 : Int) (w : World) (ht : Tab w) (w1 : (Lit.int .i64 a1).wf = true) (w2 : (Lit.int .i64 a2).wf = true) (w3 : (Lit.int .i64 a3).wf = true) :
    Calls Tryd.prog 3 #[.agg #[.int .i64 a0, .int .i64 b0], .int .i64 a1, .int .i64 a2, .int .i64 a3] w fun e w' => e = .returned (.bool true) ∧ Below w.heap.size w w' := by
  obtain ⟨x, x1, x2, x3, HX⟩ := some_hid a1 a2 1048576 (by omega) (by omega) w1 w2
  obtain ⟨k, hk, ek⟩ := seven a3
  obtain ⟨v1, v2⟩ : -9223372036854775808 ≤ a3 ∧ a3 ≤ 9223372036854775807 := (Lit.wf_int_iff .i64 a3).1 w3
  have hv : valB x.num x.den = true := fits_val x (small_fits (A := 1048576) (B := 1048576) ⟨by omega, by omega, x3⟩ (by omega) (by omega))
  have h1 := fun W (hW : Below w.heap.size w W) => format_any a0 b0 a3 W (ht.call hW) v1 v2
  have h2 := fun W => rformat_any a0 b0 a3 W v1 v2
  have h3 := fun W (hW : Below w.heap.size w W) => format_any x.num x.den k W (ht.call hW) (by omega) (by omega)
  have h4 := fun W => rformat_any x.num x.den k W (by omega) (by omega)
  have hb : fmtB x.num x.den k = true := by unfold fmtB; rw [hv]; simp; omega
  unfold FmtEnd at h1 h2 h3 h4
  rw [hb] at h3 h4
  generalize fmtS a0 b0 a3 = s1 at h1 h2
  generalize fmtB a0 b0 a3 = t1 at h1 h2
  generalize fmtS x.num x.den k = s2 at h3 h4
  have H1 := Lib.hid h1; have H2 := Lib.hid h2; have H3 := Lib.hid h3; have H4 := Lib.hid h4
  clear h1 h2 h3 h4 hv hb w1 w2 w3 x1 x2 x3
  have hB : Below w.heap.size w (w.alloc (.cells #[.int .i64 a0, .int .i64 b0] 23)) := (Below.refl _ _).alloc (Nat.le_refl _) _
  have T0 := twoNew w w.heap.size (.int .i64 a0) (.int .i64 b0) rfl
  go_enter Tryd.func3, Tryd.ntmps3
  go_wp2_with fail
  refine (H1.out _ hB).mono ?_; rintro e w1 ⟨rfl, hb⟩
  replace T0 := T0.call hb
  replace hB := BelowOn hB hb
  clear hb
  obtain ⟨c00, c01, l0⟩ := id T0
  go_wp2_with fail
  refine (H2.out _).mono ?_; rintro e w2 ⟨rfl, hb⟩
  clear c00 c01 l0
  replace hB := BelowOn hB hb
  clear hb T0
  go_wp2_with fail
  refine (HX.out _).mono ?_; rintro e w3 ⟨rfl, hb⟩
  replace hB := BelowOn hB hb
  clear hb
  have T1 := twoNew w3 w3.heap.size (.int .i64 x.num) (.int .i64 (x.den : Int)) rfl
  go_wp2_with fail
  refine (H3.out _ (blw hB _)).mono ?_; rintro e w4 ⟨rfl, hb⟩
  replace T1 := T1.call hb
  replace hB := BelowOn (blw hB _) hb
  clear hb
  obtain ⟨c10, c11, l1⟩ := id T1
  go_wp2_with fail
  refine (H4.out _).mono ?_; rintro e w5 ⟨rfl, hb⟩
  clear c10 c11 l1
  replace hB := BelowOn hB hb
  clear hb T1
  go_wp2_with fail
  refine (known_any _).mono ?_; rintro e w6 ⟨rfl, hb⟩
  replace hB := BelowOn hB hb
  go_wp2_with fail
  go_ret
  exact ⟨rfl, hB⟩
end Go.Proofs.YtfhppadcaoggeaaDoor
