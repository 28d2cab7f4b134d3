/- Contracts of Add, Multiply, Subtract and of the reference's. -/
import Derived.Test.YtfhppadcaoggeaaDoorMake
namespace Go.Proofs.YtfhppadcaoggeaaDoor
open Go.ChangeShapes Go.WideShapes Go.ChangeAt Go.RowKit
set_option linter.unusedVariables false

/-- Two ratios in variables of the call's own, and a result variable. -/
structure St2 (w : World) (n d m c : Int) (W : World) : Prop where
  below : Below w.heap.size w W
  a0 : W.cell? ⟨w.heap.size, 0, none⟩ = some (.int .i64 n)
  a1 : W.cell? ⟨w.heap.size, 1, none⟩ = some (.int .i64 d)
  b0 : W.cell? ⟨w.heap.size + 1, 0, none⟩ = some (.int .i64 m)
  b1 : W.cell? ⟨w.heap.size + 1, 1, none⟩ = some (.int .i64 c)
  r0 : W.cell? ⟨w.heap.size + 2, 0, none⟩ = some (.int .i64 0)
  r1 : W.cell? ⟨w.heap.size + 2, 1, none⟩ = some (.int .i64 0)
  f0 : W.frozen? ⟨w.heap.size + 2, 0, none⟩ = false
  f1 : W.frozen? ⟨w.heap.size + 2, 1, none⟩ = false
  size : w.heap.size + 2 < W.heap.size
theorem St2.start (w : World) (n d m c : Int) : St2 w n d m c (((w.alloc (.cells #[.int .i64 n, .int .i64 d] 23)).alloc (.cells #[.int .i64 m, .int .i64 c] 23)).alloc (.cells #[.int .i64 0, .int .i64 0] 23)) where
  below := (((Below.refl _ _).alloc (Nat.le_refl _) _).alloc (by simp) _).alloc (by simp; omega) _
  a0 := by simp [go_sem]
  a1 := by simp [go_sem]
  b0 := by simp [go_sem]
  b1 := by simp [go_sem]
  r0 := by simp [go_sem]
  r1 := by simp [go_sem]
  f0 := by simp [go_sem]
  f1 := by simp [go_sem]
  size := by simp
theorem St2.call {w W w1 : World} {n d m c : Int} (h : St2 w n d m c W) (hb : Below W.heap.size W w1) : St2 w n d m c w1 where
  below := BelowOn h.below hb
  a0 := by rw [hb.cell (p := ⟨w.heap.size, 0, none⟩) (by have := h.size; show w.heap.size < _; omega)]; exact h.a0
  a1 := by rw [hb.cell (p := ⟨w.heap.size, 1, none⟩) (by have := h.size; show w.heap.size < _; omega)]; exact h.a1
  b0 := by rw [hb.cell (p := ⟨w.heap.size + 1, 0, none⟩) (by have := h.size; show w.heap.size + 1 < _; omega)]; exact h.b0
  b1 := by rw [hb.cell (p := ⟨w.heap.size + 1, 1, none⟩) (by have := h.size; show w.heap.size + 1 < _; omega)]; exact h.b1
  r0 := by rw [hb.cell (p := ⟨w.heap.size + 2, 0, none⟩) h.size]; exact h.r0
  r1 := by rw [hb.cell (p := ⟨w.heap.size + 2, 1, none⟩) h.size]; exact h.r1
  f0 := by rw [hb.frozen (p := ⟨w.heap.size + 2, 0, none⟩) h.size]; exact h.f0
  f1 := by rw [hb.frozen (p := ⟨w.heap.size + 2, 1, none⟩) h.size]; exact h.f1
  size := Nat.lt_of_lt_of_le h.size hb.size


theorem add_any (n d m c : Int) (w : World) : Calls Tryd.prog 17 #[.agg #[.int .i64 n, .int .i64 d], .agg #[.int .i64 m, .int .i64 c]] w (OptEnd (addQ n d m c) w) := by
  have hs0 := St2.start w n d m c
  have hv := fun w => valid_any n d w
  have hu := fun w => valid_any m c w
  cases h1 : valB n d
  · have ho : addQ n d m c = none := by unfold addQ; rw [if_neg (by rw [h1]; simp)]
    have HO := Lib.hid ho
    rw [h1] at hv
    have HV := Lib.hid hv
    clear ho hv hu h1
    go_enter Tryd.func17, Tryd.ntmps17
    go_wp2_with fail
    refine (HV.out _).mono ?_; rintro e w1 ⟨rfl, hb⟩
    have hs := hs0.call hb
    clear hb hs0
    obtain ⟨hbl, a0, a1, b0, b1, r0, r1, f0, f1, hz⟩ := id hs
    go_wp2_with fail
    refine bodyPost_ret (v := .tuple #[.agg #[.int .i64 0, .int .i64 0], .bool false]) (by simp [results, Tryd.results17, go_sem, r0, r1]) rfl ⟨by rw [HO.out]; rfl, ?_⟩
    exact (hs.below.setCell (by simp; omega) _).setCell (by simp; omega) _
  cases h2 : valB m c
  · have ho : addQ n d m c = none := by unfold addQ; rw [if_neg (by rw [h2]; simp)]
    have HO := Lib.hid ho
    rw [h1] at hv; rw [h2] at hu
    have HV := Lib.hid hv; have HU := Lib.hid hu
    clear ho hv hu h1 h2
    go_enter Tryd.func17, Tryd.ntmps17
    go_wp2_with fail
    refine (HV.out _).mono ?_; rintro e w1 ⟨rfl, hb⟩
    have hs := hs0.call hb
    clear hb hs0
    obtain ⟨hbl, a0, a1, b0, b1, r0, r1, f0, f1, hz⟩ := id hs
    go_wp2_with fail
    refine (HU.out _).mono ?_; rintro e w2 ⟨rfl, hb⟩
    have hs1 := hs.call hb
    clear hb hs hbl a0 a1 b0 b1 r0 r1 f0 f1 hz
    obtain ⟨hbl, a0, a1, b0, b1, r0, r1, f0, f1, hz⟩ := id hs1
    go_wp2_with fail
    refine bodyPost_ret (v := .tuple #[.agg #[.int .i64 0, .int .i64 0], .bool false]) (by simp [results, Tryd.results17, go_sem, r0, r1]) rfl ⟨by rw [HO.out]; rfl, ?_⟩
    exact (hs1.below.setCell (by simp; omega) _).setCell (by simp; omega) _
  have ho : addQ n d m c = some (Rat.divInt n d + Rat.divInt m c) := by unfold addQ; rw [if_pos ⟨h1, h2⟩]
  rw [ho]; clear ho
  rw [h1] at hv; rw [h2] at hu
  obtain ⟨x0, x1, x2, x3, x4⟩ := valB_hold h1
  obtain ⟨y0, y1, y2, y3, y4⟩ := valB_hold h2
  have z1 := bd30 n c x0 x1 (by omega) y3
  have z2 := bd30 m d y0 y1 (by omega) x3
  have z3 := pos30 d c x2 x3 y2 y3
  have hr := fun w => reduce_any (n * c + m * d) (d * c) w (by omega) (by omega) (by omega) (by omega)
  rw [add_div n d m c (by omega) (by omega)] at hr
  have HV := Lib.hid hv; have HU := Lib.hid hu; have HR := Lib.hid hr
  clear hv hu hr h1 h2 x4 y4
  go_enter Tryd.func17, Tryd.ntmps17
  go_wp2_with fail
  refine (HV.out _).mono ?_; rintro e w1 ⟨rfl, hb⟩
  have hs := hs0.call hb
  clear hb hs0
  obtain ⟨hbl, a0, a1, b0, b1, r0, r1, f0, f1, hz⟩ := id hs
  go_wp2_with fail
  refine (HU.out _).mono ?_; rintro e w2 ⟨rfl, hb⟩
  have hs1 := hs.call hb
  clear hb hs hbl a0 a1 b0 b1 r0 r1 f0 f1 hz
  obtain ⟨hbl, a0, a1, b0, b1, r0, r1, f0, f1, hz⟩ := id hs1
  go_wp2_with fail
  refine (HR.out _).mono ?_; rintro e w3 ⟨rfl, hb⟩
  have hs := hs1.call hb
  clear hb hs1 hbl a0 a1 b0 b1 r0 r1 f0 f1 hz
  obtain ⟨hbl, a0, a1, b0, b1, r0, r1, f0, f1, hz⟩ := id hs
  go_wp2_with fail
  generalize Rat.divInt n d + Rat.divInt m c = q
  refine bodyPost_ret (v := .tuple #[.agg #[.int .i64 (qN q), .int .i64 (qD q)], .bool (fits q)]) (by simp [results, Tryd.results17, go_sem, r0, r1]) rfl ⟨rfl, ?_⟩
  exact (hs.below.setCell (by simp; omega) _).setCell (by simp; omega) _
end Go.Proofs.YtfhppadcaoggeaaDoor
