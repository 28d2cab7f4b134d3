/- Contracts of Subtract, Compare and Floor, and of the reference's Compare and Floor. -/
import Derived.Test.YtfhppadcaoggeaaAdd
import Derived.Test.YtfhppadcaoggeaaMath2
namespace Go.Proofs.Ytfhppadcaoggeaa
open Go.ChangeShapes Go.WideShapes Go.ChangeAt Go.RowKit
set_option linter.unusedVariables false

theorem sub_least (n d c : Int) (w : World) : Calls Try.prog 25 #[.agg #[.int .i64 n, .int .i64 d], .agg #[.int .i64 (-9223372036854775808), .int .i64 c]] w (OptEnd none w) := by
  have hs0 := St2.start w n d (-9223372036854775808) c
  have ha := fun w => add_any n d (wrap64 9223372036854775808) c w
  rw [show addQ n d (wrap64 9223372036854775808) c = none from by rw [show wrap64 9223372036854775808 = -9223372036854775808 from by decide +kernel]; exact addQ_least n d c] at ha
  have HA := Lib.hid ha; clear ha
  go_enter Try.func25, Try.ntmps25
  go_wp2_with fail
  refine (HA.out _).mono ?_; rintro e w1 ⟨rfl, hb⟩
  have hs := hs0.call hb
  clear hb hs0
  obtain ⟨hbl, a0, a1, b0, b1, r0, r1, f0, f1, hz⟩ := id hs
  go_wp2_with fail
  refine bodyPost_ret (v := .tuple #[.agg #[.int .i64 0, .int .i64 0], .bool false]) (by simp [results, Try.results25, go_sem, r0, r1, oN, oD, oB]) rfl ⟨rfl, ?_⟩
  exact (hs.below.setCell (by simp; omega) _).setCell (by simp; omega) _
theorem sub_more (n d m c : Int) (w : World) (hm : -9223372036854775807 ≤ m) (hm' : m ≤ 9223372036854775807) : Calls Try.prog 25 #[.agg #[.int .i64 n, .int .i64 d], .agg #[.int .i64 m, .int .i64 c]] w (OptEnd (subQ n d m c) w) := by
  have hs0 := St2.start w n d m c
  have ha := fun w => add_any n d (-m) c w
  rw [addQ_neg] at ha
  have HA := Lib.hid ha; clear ha
  go_enter Try.func25, Try.ntmps25
  go_wp2_with fail
  refine (HA.out _).mono ?_; rintro e w1 ⟨rfl, hb⟩
  have hs := hs0.call hb
  clear hb hs0
  obtain ⟨hbl, a0, a1, b0, b1, r0, r1, f0, f1, hz⟩ := id hs
  go_wp2_with fail
  generalize subQ n d m c = q
  refine bodyPost_ret (v := .tuple #[.agg #[.int .i64 (oN q), .int .i64 (oD q)], .bool (oB q)]) (by simp [results, Try.results25, go_sem, r0, r1]) rfl ⟨rfl, ?_⟩
  exact (hs.below.setCell (by simp; omega) _).setCell (by simp; omega) _
theorem sub_any (n d m c : Int) (w : World) (hm : -9223372036854775808 ≤ m) (hm' : m ≤ 9223372036854775807) : Calls Try.prog 25 #[.agg #[.int .i64 n, .int .i64 d], .agg #[.int .i64 m, .int .i64 c]] w (OptEnd (subQ n d m c) w) := by
  by_cases hl : m = -9223372036854775808
  · subst hl
    rw [subQ_least]
    exact sub_least n d c w
  · exact sub_more n d m c w (by omega) hm'

theorem nan_any (x : Int) (w : World) : Calls Try.prog 40 #[.int .i64 x] w fun e w' => e = .returned (.bool false) ∧ w = w' := by
  go_enter Try.func40, Try.ntmps40
  go_wp2_with fail
  go_ret
  exact ⟨ret_bool (by simp), rfl⟩
theorem ccmp_any (x y : Int) (w : World) : Calls Try.prog 34 #[.int .i64 x, .int .i64 y] w fun e w' => e = .returned (.int .i64 (cmpI x y)) ∧ w = w' := by
  rcases cmpI_cases x y with ⟨h, hc⟩ | ⟨h, hc⟩ | ⟨h, hc⟩
  all_goals rw [hc]
  all_goals clear hc
  · go_enter Try.func34, Try.ntmps34
    go_wp2_with (go_at_call 40; refine (nan_any _ _).mono ?_; rintro e w' ⟨rfl, rfl⟩)
    go_ret
    exact ⟨rfl, rfl⟩
  · go_enter Try.func34, Try.ntmps34
    go_wp2_with (go_at_call 40; refine (nan_any _ _).mono ?_; rintro e w' ⟨rfl, rfl⟩)
    go_ret
    exact ⟨rfl, rfl⟩
  · subst h
    go_enter Try.func34, Try.ntmps34
    go_wp2_with (go_at_call 40; refine (nan_any _ _).mono ?_; rintro e w' ⟨rfl, rfl⟩)
    go_ret
    exact ⟨rfl, rfl⟩

/-- Two ratios in variables of the call's own. -/
structure Bx2 (w : World) (n d m c : Int) (W : World) : Prop where
  below : Below w.heap.size w W
  a0 : W.cell? ⟨w.heap.size, 0, none⟩ = some (.int .i64 n)
  a1 : W.cell? ⟨w.heap.size, 1, none⟩ = some (.int .i64 d)
  b0 : W.cell? ⟨w.heap.size + 1, 0, none⟩ = some (.int .i64 m)
  b1 : W.cell? ⟨w.heap.size + 1, 1, none⟩ = some (.int .i64 c)
  size : w.heap.size + 1 < W.heap.size
theorem Bx2.start (w : World) (n d m c : Int) : Bx2 w n d m c ((w.alloc (.cells #[.int .i64 n, .int .i64 d] 24)).alloc (.cells #[.int .i64 m, .int .i64 c] 24)) where
  below := ((Below.refl _ _).alloc (Nat.le_refl _) _).alloc (by simp) _
  a0 := by simp [go_sem]
  a1 := by simp [go_sem]
  b0 := by simp [go_sem]
  b1 := by simp [go_sem]
  size := by simp
theorem Bx2.call {w W w1 : World} {n d m c : Int} (h : Bx2 w n d m c W) (hb : Below W.heap.size W w1) : Bx2 w n d m c w1 where
  below := BelowOn h.below hb
  a0 := by rw [hb.cell (p := ⟨w.heap.size, 0, none⟩) (by have := h.size; show w.heap.size < _; omega)]; exact h.a0
  a1 := by rw [hb.cell (p := ⟨w.heap.size, 1, none⟩) (by have := h.size; show w.heap.size < _; omega)]; exact h.a1
  b0 := by rw [hb.cell (p := ⟨w.heap.size + 1, 0, none⟩) h.size]; exact h.b0
  b1 := by rw [hb.cell (p := ⟨w.heap.size + 1, 1, none⟩) h.size]; exact h.b1
  size := Nat.lt_of_lt_of_le h.size hb.size

theorem compare_any (n d m c : Int) (w : World) : Calls Try.prog 19 #[.agg #[.int .i64 n, .int .i64 d], .agg #[.int .i64 m, .int .i64 c]] w fun e w' => e = .returned (.int .i64 (cmpQ n d m c)) ∧ Below w.heap.size w w' := by
  have hs0 := Bx2.start w n d m c
  have hv := fun w => valid_any n d w
  have hu := fun w => valid_any m c w
  cases h1 : valB n d
  · have ho : cmpQ n d m c = 0 := by unfold cmpQ; rw [if_neg (by rw [h1]; simp)]
    have HO := Lib.hid ho
    rw [h1] at hv
    have HV := Lib.hid hv
    clear ho hv hu h1
    go_enter Try.func19, Try.ntmps19
    go_wp2_with fail
    refine (HV.out _).mono ?_; rintro e w1 ⟨rfl, hb⟩
    have hs := hs0.call hb
    clear hb hs0
    go_wp2_with fail
    go_ret
    exact ⟨ret_int HO.out.symm, hs.below⟩
  cases h2 : valB m c
  · have ho : cmpQ n d m c = 0 := by unfold cmpQ; rw [if_neg (by rw [h2]; simp)]
    have HO := Lib.hid ho
    rw [h1] at hv; rw [h2] at hu
    have HV := Lib.hid hv; have HU := Lib.hid hu
    clear ho hv hu h1 h2
    go_enter Try.func19, Try.ntmps19
    go_wp2_with fail
    refine (HV.out _).mono ?_; rintro e w1 ⟨rfl, hb⟩
    have hs := hs0.call hb
    clear hb hs0
    obtain ⟨hbl, a0, a1, b0, b1, hz⟩ := id hs
    go_wp2_with fail
    refine (HU.out _).mono ?_; rintro e w2 ⟨rfl, hb⟩
    have hs1 := hs.call hb
    clear hb hs hbl a0 a1 b0 b1 hz
    go_wp2_with fail
    go_ret
    exact ⟨ret_int HO.out.symm, hs1.below⟩
  have ho : cmpQ n d m c = cmpI (n * c) (m * d) := by unfold cmpQ; rw [if_pos ⟨h1, h2⟩]
  have HO := Lib.hid ho; clear ho
  rw [h1] at hv; rw [h2] at hu
  obtain ⟨x0, x1, x2, x3, x4⟩ := valB_hold h1
  obtain ⟨y0, y1, y2, y3, y4⟩ := valB_hold h2
  have z1 := bd30 n c x0 x1 (by omega) y3
  have z2 := bd30 m d y0 y1 (by omega) x3
  have HV := Lib.hid hv; have HU := Lib.hid hu
  clear hv hu h1 h2 x4 y4
  go_enter Try.func19, Try.ntmps19
  go_wp2_with fail
  refine (HV.out _).mono ?_; rintro e w1 ⟨rfl, hb⟩
  have hs := hs0.call hb
  clear hb hs0
  obtain ⟨hbl, a0, a1, b0, b1, hz⟩ := id hs
  go_wp2_with fail
  refine (HU.out _).mono ?_; rintro e w2 ⟨rfl, hb⟩
  have hs1 := hs.call hb
  clear hb hs hbl a0 a1 b0 b1 hz
  obtain ⟨hbl, a0, a1, b0, b1, hz⟩ := id hs1
  go_wp2_with fail
  refine (ccmp_any _ _ _).mono ?_; rintro e w3 ⟨rfl, rfl⟩
  go_wp2_with fail
  go_ret
  exact ⟨ret_int HO.out.symm, hbl⟩

theorem rcompare_any (n d m c : Int) (w : World) : Calls Try.prog 20 #[.agg #[.int .i64 n, .int .i64 d], .agg #[.int .i64 m, .int .i64 c]] w fun e w' => e = .returned (.int .i64 (cmpQ n d m c)) ∧ Below w.heap.size w w' := by
  have hs0 := Bx2.start w n d m c
  have hv := fun w => rvalid_any n d w
  have hu := fun w => rvalid_any m c w
  cases h1 : valB n d
  · have ho : cmpQ n d m c = 0 := by unfold cmpQ; rw [if_neg (by rw [h1]; simp)]
    have HO := Lib.hid ho
    rw [h1] at hv
    have HV := Lib.hid hv
    clear ho hv hu h1
    go_enter Try.func20, Try.ntmps20
    go_wp2_with fail
    refine (HV.out _).mono ?_; rintro e w1 ⟨rfl, hb⟩
    have hs := hs0.call hb
    clear hb hs0
    go_wp2_with fail
    go_ret
    exact ⟨ret_int HO.out.symm, hs.below⟩
  cases h2 : valB m c
  · have ho : cmpQ n d m c = 0 := by unfold cmpQ; rw [if_neg (by rw [h2]; simp)]
    have HO := Lib.hid ho
    rw [h1] at hv; rw [h2] at hu
    have HV := Lib.hid hv; have HU := Lib.hid hu
    clear ho hv hu h1 h2
    go_enter Try.func20, Try.ntmps20
    go_wp2_with fail
    refine (HV.out _).mono ?_; rintro e w1 ⟨rfl, hb⟩
    have hs := hs0.call hb
    clear hb hs0
    obtain ⟨hbl, a0, a1, b0, b1, hz⟩ := id hs
    go_wp2_with fail
    refine (HU.out _).mono ?_; rintro e w2 ⟨rfl, hb⟩
    have hs1 := hs.call hb
    clear hb hs hbl a0 a1 b0 b1 hz
    go_wp2_with fail
    go_ret
    exact ⟨ret_int HO.out.symm, hs1.below⟩
  have ho : cmpQ n d m c = cmpI (n * c) (m * d) := by unfold cmpQ; rw [if_pos ⟨h1, h2⟩]
  have HO := Lib.hid ho; clear ho
  rw [h1] at hv; rw [h2] at hu
  obtain ⟨x0, x1, x2, x3, x4⟩ := valB_hold h1
  obtain ⟨y0, y1, y2, y3, y4⟩ := valB_hold h2
  have z1 := bd30 n c x0 x1 (by omega) y3
  have z2 := bd30 m d y0 y1 (by omega) x3
  have HV := Lib.hid hv; have HU := Lib.hid hu
  clear hv hu h1 h2 x4 y4
  go_enter Try.func20, Try.ntmps20
  go_wp2_with fail
  refine (HV.out _).mono ?_; rintro e w1 ⟨rfl, hb⟩
  have hs := hs0.call hb
  clear hb hs0
  obtain ⟨hbl, a0, a1, b0, b1, hz⟩ := id hs
  go_wp2_with fail
  refine (HU.out _).mono ?_; rintro e w2 ⟨rfl, hb⟩
  have hs1 := hs.call hb
  clear hb hs hbl a0 a1 b0 b1 hz
  obtain ⟨hbl, a0, a1, b0, b1, hz⟩ := id hs1
  go_wp2_with fail
  go_quiet (fail)
  rcases cmpI_cases (n * c) (m * d) with ⟨h, hc⟩ | ⟨h, hc⟩ | ⟨h, hc⟩
  · have HC := Lib.hid hc; clear hc
    go_wp2_with fail
    go_ret
    exact ⟨ret_int (by rw [HO.out, HC.out]), below_drewN hbl _⟩
  · have HC := Lib.hid hc; clear hc
    go_wp2_with fail
    go_ret
    exact ⟨ret_int (by rw [HO.out, HC.out]), below_drewN hbl _⟩
  · have HC := Lib.hid hc; clear hc
    have h1 : ¬ (n * c < m * d) := by omega
    have h2 : ¬ (m * d < n * c) := by omega
    clear h
    go_wp2_with fail
    go_ret
    exact ⟨ret_int (by rw [HO.out, HC.out]), below_drewN hbl _⟩
end Go.Proofs.Ytfhppadcaoggeaa
