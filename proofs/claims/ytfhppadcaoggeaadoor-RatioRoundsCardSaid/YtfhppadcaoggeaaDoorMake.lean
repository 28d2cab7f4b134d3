/- Contracts of Make and of the reference's Make. -/
import Derived.Test.YtfhppadcaoggeaaDoorRdc
namespace Go.Proofs.YtfhppadcaoggeaaDoor
open Go.ChangeShapes Go.WideShapes Go.ChangeAt Go.RowKit
set_option linter.unusedVariables false

/-- What a call hands back that may have no ratio to hand back. -/
def OptEnd (o : Option Rat) (w : World) (e : Ending) (w' : World) : Prop := e = .returned (.tuple #[.agg #[.int .i64 (oN o), .int .i64 (oD o)], .bool (oB o)]) ∧ Below w.heap.size w w'
/-- The cells of a result variable of a ratio, behind a call. -/
theorem res_cells {w W w1 : World} (hb : Below W.heap.size W w1) (hW : w.heap.size < W.heap.size) (h0 : W.cell? ⟨w.heap.size, 0, none⟩ = some (.int .i64 0)) (h1 : W.cell? ⟨w.heap.size, 1, none⟩ = some (.int .i64 0))
    (f0 : W.frozen? ⟨w.heap.size, 0, none⟩ = false) (f1 : W.frozen? ⟨w.heap.size, 1, none⟩ = false) :
    w1.cell? ⟨w.heap.size, 0, none⟩ = some (.int .i64 0) ∧ w1.cell? ⟨w.heap.size, 1, none⟩ = some (.int .i64 0) ∧ w1.frozen? ⟨w.heap.size, 0, none⟩ = false ∧ w1.frozen? ⟨w.heap.size, 1, none⟩ = false ∧ w.heap.size < w1.heap.size :=
  ⟨by rw [hb.cell (p := ⟨w.heap.size, 0, none⟩) hW]; exact h0, by rw [hb.cell (p := ⟨w.heap.size, 1, none⟩) hW]; exact h1, by rw [hb.frozen (p := ⟨w.heap.size, 0, none⟩) hW]; exact f0, by rw [hb.frozen (p := ⟨w.heap.size, 1, none⟩) hW]; exact f1, Nat.lt_of_lt_of_le hW hb.size⟩

theorem make_any (n d : Int) (w : World) : Calls Tryd.prog 16 #[.int .i64 n, .int .i64 d] w (OptEnd (makeQ n d) w) := by
  have hb0 : Below w.heap.size w (w.alloc (.cells #[.int .i64 0, .int .i64 0] 23)) := (Below.refl _ _).alloc (Nat.le_refl _) _
  cases hk : mkB n d
  · have hm : makeQ n d = none := by unfold makeQ; rw [hk]; rfl
    rw [hm]; clear hm
    unfold mkB at hk
    have hk := of_decide_eq_false hk
    by_cases c0 : d = 0
    · subst c0
      clear hk
      go_enter Tryd.func16, Tryd.ntmps16
      go_wp2_with fail
      exact bodyPost_ret (v := .tuple #[.agg #[.int .i64 0, .int .i64 0], .bool false]) (by simp [results, Tryd.results16, go_sem]) rfl ⟨rfl, hb0⟩
    · have q0 : (d == 0) = false := by simp; omega
      by_cases c1 : -2147483648 ≤ n ∧ n ≤ 2147483648
      · have hw := fun w => within_no d 2147483648 w (by omega) (by omega) (by omega)
        have HK := Lib.hid hw; clear hk hw
        obtain ⟨c1, c2⟩ := c1
        go_enter Tryd.func16, Tryd.ntmps16
        go_wp2_with fail
        refine (within_yes n 2147483648 _ (by omega) (by omega) c1 c2).mono ?_; rintro e w1 ⟨rfl, rfl⟩
        go_wp2_with fail
        refine (HK.out _).mono ?_; rintro e w1 ⟨rfl, rfl⟩
        go_wp2_with fail
        exact bodyPost_ret (v := .tuple #[.agg #[.int .i64 0, .int .i64 0], .bool false]) (by simp [results, Tryd.results16, go_sem]) rfl ⟨rfl, hb0⟩
      · have hw := fun w => within_no n 2147483648 w (by omega) (by omega) (by omega)
        have HK := Lib.hid hw; clear hk hw c1
        go_enter Tryd.func16, Tryd.ntmps16
        go_wp2_with fail
        refine (HK.out _).mono ?_; rintro e w1 ⟨rfl, rfl⟩
        go_wp2_with fail
        exact bodyPost_ret (v := .tuple #[.agg #[.int .i64 0, .int .i64 0], .bool false]) (by simp [results, Tryd.results16, go_sem]) rfl ⟨rfl, hb0⟩
  · have hm : makeQ n d = some (Rat.divInt n d) := by unfold makeQ; rw [hk]; rfl
    rw [hm]; clear hm
    obtain ⟨c0, c1, c2, c3, c4⟩ := mkB_hold hk
    clear hk
    have q0 : (d == 0) = false := by simp; omega
    by_cases hd : 0 < d
    · have hr := fun w => reduce_any n d w hd (by omega) (by omega) (by omega)
      have HR := Lib.hid hr; clear hr c0
      go_enter Tryd.func16, Tryd.ntmps16
      go_wp2_with fail
      refine (within_yes n 2147483648 _ (by omega) (by omega) c1 c2).mono ?_; rintro e w1 ⟨rfl, rfl⟩
      go_wp2_with fail
      refine (within_yes d 2147483648 _ (by omega) (by omega) c3 c4).mono ?_; rintro e w1 ⟨rfl, rfl⟩
      go_wp2_with fail
      refine (HR.out _).mono ?_; rintro e w1 ⟨rfl, hb⟩
      obtain ⟨d0, d1, f0, f1, hl⟩ := res_cells (w := w) hb (by simp) (by simp) (by simp) (by simp) (by simp)
      go_wp2_with fail
      refine bodyPost_ret (v := .tuple #[.agg #[.int .i64 (qN (Rat.divInt n d)), .int .i64 (qD (Rat.divInt n d))], .bool (fits (Rat.divInt n d))]) (by simp [results, Tryd.results16, go_sem, d0, d1]) rfl ⟨rfl, ?_⟩
      exact ((BelowOn hb0 hb).setCell (by simp) _).setCell (by simp) _
    · have hr := fun w => reduce_any (-n) (-d) w (by omega) (by omega) (by omega) (by omega)
      simp only [Rat.neg_divInt_neg] at hr
      have HR := Lib.hid hr
      have hdn : d < 0 := by omega
      clear hr c0 hd
      go_enter Tryd.func16, Tryd.ntmps16
      go_wp2_with fail
      refine (within_yes n 2147483648 _ (by omega) (by omega) c1 c2).mono ?_; rintro e w1 ⟨rfl, rfl⟩
      go_wp2_with fail
      refine (within_yes d 2147483648 _ (by omega) (by omega) c3 c4).mono ?_; rintro e w1 ⟨rfl, rfl⟩
      go_wp2_with fail
      refine (HR.out _).mono ?_; rintro e w1 ⟨rfl, hb⟩
      obtain ⟨d0, d1, f0, f1, hl⟩ := res_cells (w := w) hb (by simp) (by simp) (by simp) (by simp) (by simp)
      go_wp2_with fail
      refine bodyPost_ret (v := .tuple #[.agg #[.int .i64 (qN (Rat.divInt n d)), .int .i64 (qD (Rat.divInt n d))], .bool (fits (Rat.divInt n d))]) (by simp [results, Tryd.results16, go_sem, d0, d1]) rfl ⟨rfl, ?_⟩
      exact ((BelowOn hb0 hb).setCell (by simp) _).setCell (by simp) _

theorem rmake_any (n d : Int) (w : World) : Calls Tryd.prog 15 #[.int .i64 n, .int .i64 d] w (OptEnd (makeQ n d) w) := by
  have hb0 : Below w.heap.size w (w.alloc (.cells #[.int .i64 0, .int .i64 0] 23)) := (Below.refl _ _).alloc (Nat.le_refl _) _
  cases hk : mkB n d
  · have hm : makeQ n d = none := by unfold makeQ; rw [hk]; rfl
    rw [hm]; clear hm
    unfold mkB at hk
    have hk := of_decide_eq_false hk
    by_cases c0 : d = 0
    · subst c0
      clear hk
      go_enter Tryd.func15, Tryd.ntmps15
      go_wp2_with fail
      exact bodyPost_ret (v := .tuple #[.agg #[.int .i64 0, .int .i64 0], .bool false]) (by simp [results, Tryd.results15, go_sem]) rfl ⟨rfl, hb0⟩
    · have q0 : (d == 0) = false := by simp; omega
      by_cases c1 : n < -2147483648
      · clear hk
        go_enter Tryd.func15, Tryd.ntmps15
        go_wp2_with fail
        exact bodyPost_ret (v := .tuple #[.agg #[.int .i64 0, .int .i64 0], .bool false]) (by simp [results, Tryd.results15, go_sem]) rfl ⟨rfl, hb0⟩
      by_cases c2 : 2147483648 < n
      · clear hk
        go_enter Tryd.func15, Tryd.ntmps15
        go_wp2_with fail
        exact bodyPost_ret (v := .tuple #[.agg #[.int .i64 0, .int .i64 0], .bool false]) (by simp [results, Tryd.results15, go_sem]) rfl ⟨rfl, hb0⟩
      by_cases c3 : d < -2147483648
      · clear hk
        go_enter Tryd.func15, Tryd.ntmps15
        go_wp2_with fail
        exact bodyPost_ret (v := .tuple #[.agg #[.int .i64 0, .int .i64 0], .bool false]) (by simp [results, Tryd.results15, go_sem]) rfl ⟨rfl, hb0⟩
      have c4 : 2147483648 < d := by omega
      clear hk c3
      go_enter Tryd.func15, Tryd.ntmps15
      go_wp2_with fail
      exact bodyPost_ret (v := .tuple #[.agg #[.int .i64 0, .int .i64 0], .bool false]) (by simp [results, Tryd.results15, go_sem]) rfl ⟨rfl, hb0⟩
  · have hm : makeQ n d = some (Rat.divInt n d) := by unfold makeQ; rw [hk]; rfl
    rw [hm]; clear hm
    obtain ⟨c0, c1, c2, c3, c4⟩ := mkB_hold hk
    clear hk
    have q0 : (d == 0) = false := by simp; omega
    have hr := fun w => rred_any n d w c0 (by omega) (by omega) (by omega) (by omega)
    have HR := Lib.hid hr; clear hr c0
    go_enter Tryd.func15, Tryd.ntmps15
    go_wp2_with fail
    refine (HR.out _).mono ?_; rintro e w1 ⟨rfl, hb⟩
    obtain ⟨d0, d1, f0, f1, hl⟩ := res_cells (w := w) hb (by simp) (by simp) (by simp) (by simp) (by simp)
    go_wp2_with fail
    refine bodyPost_ret (v := .tuple #[.agg #[.int .i64 (qN (Rat.divInt n d)), .int .i64 (qD (Rat.divInt n d))], .bool (fits (Rat.divInt n d))]) (by simp [results, Tryd.results15, go_sem, d0, d1]) rfl ⟨rfl, ?_⟩
    exact ((BelowOn hb0 hb).setCell (by simp) _).setCell (by simp) _
end Go.Proofs.YtfhppadcaoggeaaDoor
