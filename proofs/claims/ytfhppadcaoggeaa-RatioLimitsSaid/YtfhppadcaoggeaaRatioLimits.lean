/- The law RatioLimits holds for every input. -/
import Derived.Test.YtfhppadcaoggeaaRows
import Derived.WalkKit
import Derived.ProofKit
import Derived.OpenShut
import Derived.ChangeOld
import Derived.Below
import Derived.Test.YtfhppadcaoggeaaLim
namespace Go.Proofs.Ytfhppadcaoggeaa.ratioLimits
open Go.ChangeShapes Go.WideShapes Go.ChangeAt Go.RowKit
set_option linter.unusedVariables false

theorem own : ownKnob Try.prog.godebug = none := by kernel_rfl
theorem laidOut : laidOutB Try.prog = true := by kernel_rfl

theorem keepF {w W w1 : World} {e e0 e1 e2 e3 : Nat} {u0 u1 u2 u3 x0 y0 x1 y1 x2 y2 x3 y3 : Value} (hb : Below W.heap.size W w1)
    (h : (W.cell? ⟨e, 0, none⟩ = some (u0) ∧ W.cell? ⟨e, 1, none⟩ = some (u1) ∧ W.cell? ⟨e, 2, none⟩ = some (u2) ∧ W.cell? ⟨e, 3, none⟩ = some (u3) ∧ e < W.heap.size) ∧ (W.cell? ⟨e0, 0, none⟩ = some (x0) ∧ W.cell? ⟨e0, 1, none⟩ = some (y0) ∧ e0 < W.heap.size) ∧ (W.cell? ⟨e1, 0, none⟩ = some (x1) ∧ W.cell? ⟨e1, 1, none⟩ = some (y1) ∧ e1 < W.heap.size) ∧ (W.cell? ⟨e2, 0, none⟩ = some (x2) ∧ W.cell? ⟨e2, 1, none⟩ = some (y2) ∧ e2 < W.heap.size) ∧ (W.cell? ⟨e3, 0, none⟩ = some (x3) ∧ W.cell? ⟨e3, 1, none⟩ = some (y3) ∧ e3 < W.heap.size) ∧ Below w.heap.size w W) : (w1.cell? ⟨e, 0, none⟩ = some (u0) ∧ w1.cell? ⟨e, 1, none⟩ = some (u1) ∧ w1.cell? ⟨e, 2, none⟩ = some (u2) ∧ w1.cell? ⟨e, 3, none⟩ = some (u3) ∧ e < w1.heap.size) ∧ (w1.cell? ⟨e0, 0, none⟩ = some (x0) ∧ w1.cell? ⟨e0, 1, none⟩ = some (y0) ∧ e0 < w1.heap.size) ∧ (w1.cell? ⟨e1, 0, none⟩ = some (x1) ∧ w1.cell? ⟨e1, 1, none⟩ = some (y1) ∧ e1 < w1.heap.size) ∧ (w1.cell? ⟨e2, 0, none⟩ = some (x2) ∧ w1.cell? ⟨e2, 1, none⟩ = some (y2) ∧ e2 < w1.heap.size) ∧ (w1.cell? ⟨e3, 0, none⟩ = some (x3) ∧ w1.cell? ⟨e3, 1, none⟩ = some (y3) ∧ e3 < w1.heap.size) ∧ Below w.heap.size w w1 := by
  obtain ⟨⟨g0, g1, g2, g3, g4⟩, ⟨p0, q0, r0⟩, ⟨p1, q1, r1⟩, ⟨p2, q2, r2⟩, ⟨p3, q3, r3⟩, hB⟩ := h
  have f : ∀ (b : Nat) (x y : Value), W.cell? ⟨b, 0, none⟩ = some x → W.cell? ⟨b, 1, none⟩ = some y → b < W.heap.size → w1.cell? ⟨b, 0, none⟩ = some x ∧ w1.cell? ⟨b, 1, none⟩ = some y ∧ b < w1.heap.size := fun b x y p q r => by
    obtain ⟨s, t, u⟩ := (Two.mk p q r).call hb
    exact ⟨s, t, u⟩
  obtain ⟨k0, k1, k2, k3, k4⟩ := (Four.mk g0 g1 g2 g3 g4).call hb
  exact ⟨⟨k0, k1, k2, k3, k4⟩, f _ _ _ p0 q0 r0, f _ _ _ p1 q1 r1, f _ _ _ p2 q2 r2, f _ _ _ p3 q3 r3, BelowOn hB hb⟩
theorem keepFStart {w W : World} {e e0 e1 e2 e3 : Nat} {u0 u1 u2 u3 x0 y0 x1 y1 x2 y2 x3 y3 : Value} (p : Four W e u0 u1 u2 u3) (p0 : Two W e0 x0 y0) (p1 : Two W e1 x1 y1) (p2 : Two W e2 x2 y2) (p3 : Two W e3 x3 y3) (hB : Below w.heap.size w W) :
    (W.drew.cell? ⟨e, 0, none⟩ = some (u0) ∧ W.drew.cell? ⟨e, 1, none⟩ = some (u1) ∧ W.drew.cell? ⟨e, 2, none⟩ = some (u2) ∧ W.drew.cell? ⟨e, 3, none⟩ = some (u3) ∧ e < W.drew.heap.size) ∧ (W.drew.cell? ⟨e0, 0, none⟩ = some (x0) ∧ W.drew.cell? ⟨e0, 1, none⟩ = some (y0) ∧ e0 < W.drew.heap.size) ∧ (W.drew.cell? ⟨e1, 0, none⟩ = some (x1) ∧ W.drew.cell? ⟨e1, 1, none⟩ = some (y1) ∧ e1 < W.drew.heap.size) ∧ (W.drew.cell? ⟨e2, 0, none⟩ = some (x2) ∧ W.drew.cell? ⟨e2, 1, none⟩ = some (y2) ∧ e2 < W.drew.heap.size) ∧ (W.drew.cell? ⟨e3, 0, none⟩ = some (x3) ∧ W.drew.cell? ⟨e3, 1, none⟩ = some (y3) ∧ e3 < W.drew.heap.size) ∧ Below w.heap.size w W.drew :=
  ⟨⟨p.c0, p.c1, p.c2, p.c3, p.lt⟩, ⟨p0.c0, p0.c1, p0.lt⟩, ⟨p1.c0, p1.c1, p1.lt⟩, ⟨p2.c0, p2.c1, p2.lt⟩, ⟨p3.c0, p3.c1, p3.lt⟩, hB.drew⟩
set_option maxHeartbeats 4000000 in
set_option maxRecDepth 100000 in
theorem lim (a0 a1 a2 a3 : Int) (w : World) (w0 : (Lit.int .i64 a0).wf = true) (w1 : (Lit.int .i64 a1).wf = true) (w2 : (Lit.int .i64 a2).wf = true) (w3 : (Lit.int .i64 a3).wf = true) :
    Calls Try.prog 3 #[.int .i64 a0, .int .i64 a1, .int .i64 a2, .int .i64 a3] w fun e w' => e = .returned (.bool true) ∧ Below w.heap.size w w' := by
  obtain ⟨p1, p10, p11, P1⟩ := place_hid a0 5 (by omega) (by omega) w0
  obtain ⟨p2, p20, p21, P2⟩ := place_hid a1 3 (by omega) (by omega) w1
  obtain ⟨p3, p30, p31, P3⟩ := place_hid a2 3 (by omega) (by omega) w2
  obtain ⟨p4, p40, p41, P4⟩ := place_hid a3 5 (by omega) (by omega) w3
  have h1 := fun w => make_any (1073741821 + p1) (1 + p2) w
  have h2 := fun w => rmake_any (1073741821 + p1) (1 + p2) w
  unfold OptEnd at h1 h2
  generalize makeQ (1073741821 + p1) (1 + p2) = o at h1 h2
  generalize oN o = n1 at h1 h2
  generalize oD o = d1 at h1 h2
  generalize oB o = t1 at h1 h2
  have H1 := Lib.hid h1; have H2 := Lib.hid h2
  clear h1 h2 w0 w1 w2 w3
  go_enter Try.func3, Try.ntmps3
  go_wp2_with fail
  refine (P1.out _).mono ?_; rintro e w1 ⟨rfl, rfl⟩
  go_wp2_with fail
  refine (P2.out _).mono ?_; rintro e w1 ⟨rfl, rfl⟩
  go_wp2_with fail
  refine (P3.out _).mono ?_; rintro e w1 ⟨rfl, rfl⟩
  go_wp2_with fail
  refine (P4.out _).mono ?_; rintro e w1 ⟨rfl, rfl⟩
  go_wp2_with fail
  refine (H1.out _).mono ?_; rintro e w1 ⟨rfl, hb⟩
  have T0 := ((twoNew _ (w.heap.size) (.int .i64 (1073741821 + p1)) (.int .i64 (1 + p2)) (by simp)).alloc _).call hb
  have T1 := (twoNew _ (w.heap.size + 1) (.int .i64 (1 - p3)) (.int .i64 (1073741821 + p4)) (by simp)).call hb
  have hB := BelowOn (blw (blw (Below.refl _ w) _) _) hb
  clear hb
  obtain ⟨c00, c01, l0⟩ := id T0
  obtain ⟨c10, c11, l1⟩ := id T1
  go_wp2_with fail
  refine (H2.out _).mono ?_; rintro e w2 ⟨rfl, hb⟩
  clear c00 c01 l0 c10 c11 l1
  replace T0 := (T0.alloc _).call hb
  replace T1 := (T1.alloc _).call hb
  have T2 := (twoNew _ (w1.heap.size) (.int .i64 n1) (.int .i64 d1) (by simp)).call hb
  replace hB := BelowOn (blw hB _) hb
  clear hb
  obtain ⟨c00, c01, l0⟩ := id T0
  obtain ⟨c10, c11, l1⟩ := id T1
  obtain ⟨c20, c21, l2⟩ := id T2
  go_wp2_with fail
  go_loopw [80] (fun i wr => ∃ k : Nat, k ≤ 4 ∧ i = .int .i64 k ∧ Below w.heap.size w wr) (fun i _ => 4 - (intOf i).toNat)
  case atStart => exact ⟨0, by omega, rfl, blw hB _⟩
  case round =>
    clear hB T0 T1 T2 c00 c01 l0 c10 c11 l1 c20 c21 l2 H1 H2 P1 P2 P3 P4
    obtain ⟨k, hk, rfl, hB⟩ := hrel
    by_cases hlt : k < 4
    · obtain ⟨n, d, m, c, hidx⟩ : ∃ n d m c : Int, ∀ w, (Instr.index 28 (.agg #[.int .i64 (1073741821 + p1), .int .i64 (1 + p2), .int .i64 (1 - p3), .int .i64 (1073741821 + p4), .int .i64 (1 - p3), .int .i64 (1073741821 + p4), .int .i64 (1073741821 + p1), .int .i64 (1 + p2), .int .i64 (1073741821 + p1), .int .i64 (1 + p2), .int .i64 (1073741821 + p1), .int .i64 (1 + p2), .int .i64 (1 - p3), .int .i64 (1073741821 + p4), .int .i64 (1 - p3), .int .i64 (1073741821 + p4)]) (.int .i64 (k : Int))).run Try.prog w = .ok (.agg #[.int .i64 n, .int .i64 d, .int .i64 m, .int .i64 c]) w := by
        rcases (by omega : k = 0 ∨ k = 1 ∨ k = 2 ∨ k = 3) with rfl | rfl | rfl | rfl
        · exact ⟨1073741821 + p1, 1 + p2, 1 - p3, 1073741821 + p4, fun _ => by kernel_rfl⟩
        · exact ⟨1 - p3, 1073741821 + p4, 1073741821 + p1, 1 + p2, fun _ => by kernel_rfl⟩
        · exact ⟨1073741821 + p1, 1 + p2, 1073741821 + p1, 1 + p2, fun _ => by kernel_rfl⟩
        · exact ⟨1 - p3, 1073741821 + p4, 1 - p3, 1073741821 + p4, fun _ => by kernel_rfl⟩
      have h15 := fun w => add_any n d m c w
      have h16 := fun w => radd_any n d m c w
      have h17 := fun w => mul_any n d m c w
      have h18 := fun w => rmul_any n d m c w
      have h19 := fun w => compare_any n d m c w
      have h20 := fun w => rcompare_any n d m c w
      have h21 := fun w => valid_any n d w
      have h22 := fun w => rvalid_any n d w
      unfold OptEnd at h15 h16 h17 h18
      generalize addQ n d m c = o1 at h15 h16
      generalize mulQ n d m c = o2 at h17 h18
      generalize oN o1 = n1 at h15 h16
      generalize oD o1 = d1 at h15 h16
      generalize oB o1 = t1 at h15 h16
      generalize oN o2 = n2 at h17 h18
      generalize oD o2 = d2 at h17 h18
      generalize oB o2 = t2 at h17 h18
      generalize cmpQ n d m c = r at h19 h20
      generalize valB n d = v at h21 h22
      have H15 := Lib.hid h15; have H16 := Lib.hid h16; have H17 := Lib.hid h17; have H18 := Lib.hid h18
      have H19 := Lib.hid h19; have H20 := Lib.hid h20; have H21 := Lib.hid h21; have H22 := Lib.hid h22
      clear h15 h16 h17 h18 h19 h20 h21 h22
      go_wp2_with fail
      refine (H15.out _).mono ?_; rintro e w3 ⟨rfl, hb⟩
      have T0 := (Four.new wr (.int .i64 n) (.int .i64 d) (.int .i64 m) (.int .i64 c)).call hb
      replace hB := BelowOn (blw hB _) hb
      clear hb
      obtain ⟨c00, c01, c02, c03, l0⟩ := id T0
      go_wp2_with fail
      refine (H16.out _).mono ?_; rintro e w4 ⟨rfl, hb⟩
      clear c00 c01 c02 c03 l0
      replace T0 := (T0.alloc _).call hb
      have T1 := (twoNew _ (w3.heap.size) (.int .i64 n1) (.int .i64 d1) (by simp)).call hb
      replace hB := BelowOn (blw hB _) hb
      clear hb
      obtain ⟨c00, c01, c02, c03, l0⟩ := id T0
      obtain ⟨c10, c11, l1⟩ := id T1
      go_wp2_with fail
      refine (H17.out _).mono ?_; rintro e w5 ⟨rfl, hb⟩
      clear c00 c01 c02 c03 l0 c10 c11 l1
      replace T0 := (T0.alloc _).call hb
      replace T1 := (T1.alloc _).call hb
      have T2 := (twoNew _ (w4.heap.size) (.int .i64 n1) (.int .i64 d1) (by simp)).call hb
      replace hB := BelowOn (blw hB _) hb
      clear hb
      obtain ⟨c00, c01, c02, c03, l0⟩ := id T0
      obtain ⟨c10, c11, l1⟩ := id T1
      obtain ⟨c20, c21, l2⟩ := id T2
      go_wp2_with fail
      refine (H18.out _).mono ?_; rintro e w6 ⟨rfl, hb⟩
      clear c00 c01 c02 c03 l0 c10 c11 l1 c20 c21 l2
      replace T0 := (T0.alloc _).call hb
      replace T1 := (T1.alloc _).call hb
      replace T2 := (T2.alloc _).call hb
      have T3 := (twoNew _ (w5.heap.size) (.int .i64 n2) (.int .i64 d2) (by simp)).call hb
      replace hB := BelowOn (blw hB _) hb
      clear hb
      obtain ⟨c00, c01, c02, c03, l0⟩ := id T0
      obtain ⟨c10, c11, l1⟩ := id T1
      obtain ⟨c20, c21, l2⟩ := id T2
      obtain ⟨c30, c31, l3⟩ := id T3
      go_wp2_with fail
      clear c00 c01 c02 c03 l0 c10 c11 l1 c20 c21 l2 c30 c31 l3
      go_region_held3 (fun w' => (w'.cell? ⟨wr.heap.size, 0, none⟩ = some (.int .i64 n) ∧ w'.cell? ⟨wr.heap.size, 1, none⟩ = some (.int .i64 d) ∧ w'.cell? ⟨wr.heap.size, 2, none⟩ = some (.int .i64 m) ∧ w'.cell? ⟨wr.heap.size, 3, none⟩ = some (.int .i64 c) ∧ wr.heap.size < w'.heap.size) ∧ (w'.cell? ⟨w3.heap.size, 0, none⟩ = some (.int .i64 n1) ∧ w'.cell? ⟨w3.heap.size, 1, none⟩ = some (.int .i64 d1) ∧ w3.heap.size < w'.heap.size) ∧ (w'.cell? ⟨w4.heap.size, 0, none⟩ = some (.int .i64 n1) ∧ w'.cell? ⟨w4.heap.size, 1, none⟩ = some (.int .i64 d1) ∧ w4.heap.size < w'.heap.size) ∧ (w'.cell? ⟨w5.heap.size, 0, none⟩ = some (.int .i64 n2) ∧ w'.cell? ⟨w5.heap.size, 1, none⟩ = some (.int .i64 d2) ∧ w5.heap.size < w'.heap.size) ∧ (w'.cell? ⟨w6.heap.size, 0, none⟩ = some (.int .i64 n2) ∧ w'.cell? ⟨w6.heap.size, 1, none⟩ = some (.int .i64 d2) ∧ w6.heap.size < w'.heap.size) ∧ Below w.heap.size w w')
        (first | exact keepF hb (by assumption) | exact keepFStart (T0.alloc _) (T1.alloc _) (T2.alloc _) (T3.alloc _) (twoNew _ _ _ _ rfl) (blw hB _))
        ((first | (go_at_call 19; refine (H19.out _).mono ?_; rintro e w9 ⟨rfl, hb⟩) | (go_at_call 20; refine (H20.out _).mono ?_; rintro e w9 ⟨rfl, hb⟩) | (go_at_call 21; refine (H21.out _).mono ?_; rintro e w9 ⟨rfl, hb⟩) | (go_at_call 22; refine (H22.out _).mono ?_; rintro e w9 ⟨rfl, hb⟩)))
      all_goals go_wp2_with fail
      all_goals go_roundw
      all_goals first
        | exact ⟨k + 1, by omega, by go_num, (by assumption : (_ ∧ _ ∧ _ ∧ _ ∧ _) ∧ (_ ∧ _ ∧ _) ∧ (_ ∧ _ ∧ _) ∧ (_ ∧ _ ∧ _) ∧ (_ ∧ _ ∧ _) ∧ Below w.heap.size w _).2.2.2.2.2⟩
        | (simp [intOf]; omega)
    · obtain rfl : k = 4 := by omega
      go_wp2_with fail
      refine (lim_floor1 _).mono ?_; rintro e w1 ⟨rfl, hb⟩
      replace hB := BelowOn hB hb; clear hb
      go_wp2_with fail
      refine (lim_floor2 _).mono ?_; rintro e w2 ⟨rfl, hb⟩
      replace hB := BelowOn hB hb; clear hb
      go_wp2_with fail
      refine (known_any _).mono ?_; rintro e w3 ⟨rfl, hb⟩
      replace hB := BelowOn hB hb; clear hb
      go_wp2_with fail
      go_ret
      exact ⟨rfl, hB⟩


theorem walk (a0 : Int) (a1 : Int) (a2 : Int) (a3 : Int) (w : World) (w0 : (Lit.int .i64 a0).wf = true) (w1 : (Lit.int .i64 a1).wf = true) (w2 : (Lit.int .i64 a2).wf = true) (w3 : (Lit.int .i64 a3).wf = true) :
    Calls Try.prog 3 #[.int .i64 a0, .int .i64 a1, .int .i64 a2, .int .i64 a3] w fun e w' => e = .returned (.bool true) ∧ Below w.heap.size w w' := by
  exact lim a0 a1 a2 a3 w w0 w1 w2 w3

set_option maxRecDepth 100000 in
theorem lifted (os : Os) (started : os.Started) (H : Type) (enc : TypeId × Value → H) :
    ReturnsInHanded {} Try.checked os 3 .any (Rows.ratioLimitsSpec.pre6 enc Try.prog Try.f3 Rows.ratioLimitsRow.domain false) (Rows.ratioLimitsSpec.post enc Try.prog Try.f3 false true false false) := by
  refine returnsInHanded_of_change (C := Try.checked) own started (by kernel_rfl) Try.func3
    (ChangeSpec.witness6 (enc := enc) (C := Try.checked) false ⟨#[], #[.int .i64 0, .int .i64 0, .int .i64 0, .int .i64 0], []⟩ 8 (by kernel_rfl) (by kernel_rfl) (by kernel_rfl) (by kernel_rfl)) ?_
  intro W base args ds gs before hval0 hW hcnd _
  have hval : ∀ (j : Nat) t v, Try.f3.params[j]? = some t → args[j]? = some v → Value.okWide Try.prog W .any base t v := hval0
  have hW' := hW
  obtain ⟨p, q, hA0, hV, rfl, hfz, hnd⟩ := hW
  have hA : DataW.TrodAll enc Try.prog W 0 (fun _ => true) true Try.f3.params.toList args.toList ds p := hA0
  rw [Try.params3] at hA hval
  obtain ⟨v0, vs0, d0, ds0, p0, q0, hargs, rfl, rfl, h0, r0⟩ := trodAll_cons hA
  obtain ⟨v1, vs1, d1, ds1, p1, q1, rfl, rfl, rfl, h1, r1⟩ := trodAll_cons r0
  obtain ⟨v2, vs2, d2, ds2, p2, q2, rfl, rfl, rfl, h2, r2⟩ := trodAll_cons r1
  obtain ⟨v3, vs3, d3, ds3, p3, q3, rfl, rfl, rfl, h3, r3⟩ := trodAll_cons r2
  obtain ⟨rfl, rfl, rfl⟩ := trodAll_nil r3
  obtain rfl : args = #[v0, v1, v2, v3] := by cases args; simp_all
  obtain ⟨rfl, rfl⟩ := trodVars_none hV
  obtain ⟨a0, rfl, rfl, rfl, w0⟩ := open_int Try.underlying3 (hval 0 3 v0 rfl rfl) h0
  obtain ⟨a1, rfl, rfl, rfl, w1⟩ := open_int Try.underlying3 (hval 1 3 v1 rfl rfl) h1
  obtain ⟨a2, rfl, rfl, rfl, w2⟩ := open_int Try.underlying3 (hval 2 3 v2 rfl rfl) h2
  obtain ⟨a3, rfl, rfl, rfl, w3⟩ := open_int Try.underlying3 (hval 3 3 v3 rfl rfl) h3
  clear hA0 hval0
  refine (walk a0 a1 a2 a3 W w0 w1 w2 w3).mono fun e W' ⟨he, bel⟩ => ?_
  subst he
  exact ⟨_, rfl, _, _, _, [], _, [], hW', trodAll_mk1 (shut_bool Try.underlying4 _), (trodAll_cons_mk (shut_int Try.underlying3 w0) (trodAll_cons_mk (shut_int Try.underlying3 w1) (trodAll_cons_mk (shut_int Try.underlying3 w2) (trodAll_cons_mk (shut_int Try.underlying3 w3) trodAll_mk0)))), rfl, bel.frame _, fun h => by cases h⟩

theorem over : Rows.ratioLimitsRow.holds Try.pinned (OpenSpec.ofChange Rows.ratioLimitsSpec) :=
  OpenClaim.holds_of_wide 3 Try.f3 rfl rfl rfl rfl rfl rfl rfl ⟨rfl, rfl, rfl, rfl, rfl⟩ rfl rfl rfl rfl rfl (by kernel_rfl) Try.func3 (by kernel_rfl)
    (of_decide_eq_true (by kernel_rfl)) (by unfold Func.isWrapper; first | (rw [if_pos (by decide +kernel)]; kernel_rfl) | (rw [if_neg (by decide +kernel)]; exact ⟨rfl, rfl⟩))
    (fun os started H enc _ => lifted os started H enc)

theorem proved : Rows.RatioLimitsSaid := over
#print axioms proved
end Go.Proofs.Ytfhppadcaoggeaa.ratioLimits
