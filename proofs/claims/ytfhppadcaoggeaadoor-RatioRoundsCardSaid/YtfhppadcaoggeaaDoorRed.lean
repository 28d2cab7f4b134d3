/- Contracts of Valid and of the reference's Valid. -/
import Derived.Test.YtfhppadcaoggeaaDoorLeaf
import Derived.Deep.RegionHeld3
import Derived.Deep.DrawnRows
import Derived.WalkSmall
import Derived.ChangeAlike
import Derived.RegionTactic
namespace Go.Proofs.YtfhppadcaoggeaaDoor
open Go.ChangeShapes Go.WideShapes Go.ChangeAt Go.RowKit
set_option linter.unusedVariables false
attribute [local go_sem ↓] Go.wp_at_zero Go.wp_at_succ

theorem BelowOn {w a b : World} (h : Below w.heap.size w a) (k : Below a.heap.size a b) : Below w.heap.size w b := h.trans (k.mono h.size)
/-- A variable of two cells of the call's own, kept behind a call. -/
theorem box_keep {B : Nat} {w W w1 : World} {x y : Value} (hb : Below W.heap.size W w1) (h : W.cell? ⟨B, 0, none⟩ = some x ∧ W.cell? ⟨B, 1, none⟩ = some y ∧ Below w.heap.size w W ∧ B < W.heap.size) :
    w1.cell? ⟨B, 0, none⟩ = some x ∧ w1.cell? ⟨B, 1, none⟩ = some y ∧ Below w.heap.size w w1 ∧ B < w1.heap.size :=
  ⟨by rw [hb.cell (p := ⟨B, 0, none⟩) h.2.2.2]; exact h.1, by rw [hb.cell (p := ⟨B, 1, none⟩) h.2.2.2]; exact h.2.1, BelowOn h.2.2.1 hb, Nat.lt_of_lt_of_le h.2.2.2 hb.size⟩
theorem box_draw {B : Nat} {w W : World} {x y : Value} (n : Nat) (h : W.cell? ⟨B, 0, none⟩ = some x ∧ W.cell? ⟨B, 1, none⟩ = some y ∧ Below w.heap.size w W ∧ B < W.heap.size) :
    (W.drewN n).cell? ⟨B, 0, none⟩ = some x ∧ (W.drewN n).cell? ⟨B, 1, none⟩ = some y ∧ Below w.heap.size w (W.drewN n) ∧ B < (W.drewN n).heap.size :=
  ⟨h.1, h.2.1, below_drewN h.2.2.1 n, h.2.2.2⟩

theorem valid_any (n d : Int) (w : World) :
    Calls Tryd.prog 9 #[.agg #[.int .i64 n, .int .i64 d]] w fun e w' => e = .returned (.bool (valB n d)) ∧ Below w.heap.size w w' := by
  have hb0 : Below w.heap.size w (w.alloc (.cells #[.int .i64 n, .int .i64 d] 23)) := (Below.refl _ _).alloc (Nat.le_refl _) _
  cases hh : holdB n d
  · have HV : Hid (valB n d = false) := by
      show _ = _
      unfold holdB at hh; unfold valB; simp at hh ⊢; intro a b c e; omega
    have h := fun w => holds_any n d w
    rw [hh] at h
    have H := Lib.hid h; clear h hh
    go_enter Tryd.func9, Tryd.ntmps9
    go_wp2_with fail
    first | go_region_with ((go_at_call 18; refine (H.out _).mono ?_; rintro e w1 ⟨rfl, hb⟩)) | fail
    all_goals (go_wp2_with fail; go_ret; exact ⟨ret_bool HV.out.symm, BelowOn hb0.drew hb⟩)
  · have hh' := of_decide_eq_true hh
    obtain ⟨a1, a2, a3, a4⟩ := hh'
    have HV : Hid (valB n d = ((Int.gcd (n.natAbs : Int) d : Int) == 1)) := by
      show _ = _
      rw [gcd_abs]
      unfold valB; rw [Bool.eq_iff_iff]; simp; omega
    have h := fun w => holds_any n d w
    rw [hh] at h
    have H := Lib.hid h; clear h hh
    have hg := fun w => gcd_any (n.natAbs : Int) d w (by omega) (by omega) (by omega) (by omega)
    generalize (Int.gcd (n.natAbs : Int) d : Int) = g at hg HV
    have HG := Lib.hid hg; clear hg
    go_enter Tryd.func9, Tryd.ntmps9
    go_wp2_with fail
    go_region_held3 (fun w' => w'.cell? ⟨w.heap.size, 0, none⟩ = some (.int .i64 n) ∧ w'.cell? ⟨w.heap.size, 1, none⟩ = some (.int .i64 d) ∧ Below w.heap.size w w' ∧ w.heap.size < w'.heap.size)
      (first | exact ⟨by simp, by simp, hb0.drew, by simp⟩ | exact box_keep hb (by assumption) | exact box_draw _ (by assumption) | assumption | go_keep)
      ((first | (go_at_call 18; refine (H.out _).mono ?_; rintro e w1 ⟨rfl, hb⟩)
              | (go_at_call 10; refine (size_any n _ (by omega) (by omega)).mono ?_; rintro e w1 ⟨rfl, rfl⟩)
              | (go_at_call 19; refine (HG.out _).mono ?_; rintro e w1 ⟨rfl, k, rfl⟩)))
    go_wp2_with fail
    go_ret
    exact ⟨ret_bool HV.out.symm, below_drewN (BelowOn hb0.drew hb) _⟩

theorem rvalid_any (n d : Int) (w : World) :
    Calls Tryd.prog 13 #[.agg #[.int .i64 n, .int .i64 d]] w fun e w' => e = .returned (.bool (valB n d)) ∧ Below w.heap.size w w' := by
  have hb0 : Below w.heap.size w (w.alloc (.cells #[.int .i64 n, .int .i64 d] 23)) := (Below.refl _ _).alloc (Nat.le_refl _) _
  by_cases a1 : -1073741824 ≤ n
  · by_cases a2 : n ≤ 1073741824
    · by_cases a3 : 1 ≤ d
      · by_cases a4 : d ≤ 1073741824
        · have HV : Hid (valB n d = ((Int.gcd (n.natAbs : Int) d : Int) == 1)) := by
            show _ = _
            rw [gcd_abs]
            unfold valB; rw [Bool.eq_iff_iff]; simp; omega
          have hg := fun w => rgcd_any (n.natAbs : Int) d w (by omega) (by omega) (by omega) (by omega)
          generalize (Int.gcd (n.natAbs : Int) d : Int) = g at hg HV
          have HG := Lib.hid hg; clear hg
          by_cases hs : n < 0
          · have e : (n.natAbs : Int) = -n := by omega
            rw [e] at HG; clear e
            go_enter Tryd.func13, Tryd.ntmps13
            go_wp2_with fail
            refine (HG.out _).mono ?_; rintro e w1 ⟨rfl, k, rfl⟩
            go_wp2_with fail
            go_ret
            exact ⟨ret_bool HV.out.symm, below_drewN hb0 _⟩
          · have e : (n.natAbs : Int) = n := by omega
            rw [e] at HG; clear e
            go_enter Tryd.func13, Tryd.ntmps13
            go_wp2_with fail
            refine (HG.out _).mono ?_; rintro e w1 ⟨rfl, k, rfl⟩
            go_wp2_with fail
            go_ret
            exact ⟨ret_bool HV.out.symm, below_drewN hb0 _⟩
        · go_enter Tryd.func13, Tryd.ntmps13
          go_wp2_with fail
          go_ret
          exact ⟨ret_bool (by unfold valB; rw [Bool.eq_iff_iff]; simp; omega), hb0⟩
      · go_enter Tryd.func13, Tryd.ntmps13
        go_wp2_with fail
        go_ret
        exact ⟨ret_bool (by unfold valB; rw [Bool.eq_iff_iff]; simp; omega), hb0⟩
    · go_enter Tryd.func13, Tryd.ntmps13
      go_wp2_with fail
      go_ret
      exact ⟨ret_bool (by unfold valB; rw [Bool.eq_iff_iff]; simp; omega), hb0⟩
  · go_enter Tryd.func13, Tryd.ntmps13
    go_wp2_with fail
    go_ret
    exact ⟨ret_bool (by unfold valB; rw [Bool.eq_iff_iff]; simp; omega), hb0⟩

end Go.Proofs.YtfhppadcaoggeaaDoor
