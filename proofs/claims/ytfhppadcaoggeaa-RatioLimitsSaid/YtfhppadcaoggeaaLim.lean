/- What RatioLimits needs besides: Place, and a variable of four cells. -/
import Derived.Test.YtfhppadcaoggeaaKeep
namespace Go.Proofs.Ytfhppadcaoggeaa
open Go.ChangeShapes Go.WideShapes Go.ChangeAt Go.RowKit
set_option linter.unusedVariables false

theorem place_hid (a n : Int) (h1 : 1 ≤ n) (h2 : n ≤ 100) (wa : (Lit.int .i64 a).wf = true) :
    ∃ p : Int, 0 ≤ p ∧ p < n ∧ Hid (∀ w, Calls Try.prog 12 #[.int .i64 a, .int .i64 n] w fun e w' => e = .returned (.int .i64 p) ∧ w = w') := by
  obtain ⟨a1, a2⟩ : -9223372036854775808 ≤ a ∧ a ≤ 9223372036854775807 := (Lit.wf_int_iff .i64 a).1 wa
  have t1 := Int.tmod_lt_of_pos a (show 0 < n by omega)
  have t2 := Int.tmod_lt_of_pos (-a) (show 0 < n by omega)
  rw [Int.neg_tmod] at t2
  by_cases hn : a.tmod n < 0
  · refine ⟨a.tmod n + n, by omega, by omega, fun w => ?_⟩
    by_cases h0 : 0 ≤ a
    · have := Int.tmod_nonneg n h0; omega
    go_enter Try.func12, Try.ntmps12
    go_wp2_with fail
    go_ret
    exact ⟨ret_int rfl, rfl⟩
  · refine ⟨a.tmod n, by omega, by omega, fun w => ?_⟩
    by_cases h0 : 0 ≤ a
    · have e := Int.tmod_eq_emod_of_nonneg (b := n) h0
      rw [e] at hn t1
      rw [e]
      clear e t2
      go_enter Try.func12, Try.ntmps12
      go_wp2_with fail
      go_ret
      exact ⟨ret_int rfl, rfl⟩
    · go_enter Try.func12, Try.ntmps12
      go_wp2_with fail
      go_ret
      exact ⟨ret_int rfl, rfl⟩
/-- A variable of four cells, where it lies. -/
structure Four (W : World) (b : Nat) (x y z v : Value) : Prop where
  c0 : W.cell? ⟨b, 0, none⟩ = some x
  c1 : W.cell? ⟨b, 1, none⟩ = some y
  c2 : W.cell? ⟨b, 2, none⟩ = some z
  c3 : W.cell? ⟨b, 3, none⟩ = some v
  lt : b < W.heap.size
theorem Four.call {W w1 : World} {b : Nat} {x y z v : Value} (h : Four W b x y z v) (hb : Below W.heap.size W w1) : Four w1 b x y z v :=
  ⟨by rw [hb.cell (p := ⟨b, 0, none⟩) h.lt]; exact h.c0, by rw [hb.cell (p := ⟨b, 1, none⟩) h.lt]; exact h.c1, by rw [hb.cell (p := ⟨b, 2, none⟩) h.lt]; exact h.c2, by rw [hb.cell (p := ⟨b, 3, none⟩) h.lt]; exact h.c3, Nat.lt_of_lt_of_le h.lt hb.size⟩
theorem Four.alloc {W : World} {b : Nat} {x y z v : Value} (h : Four W b x y z v) (o : Obj) : Four (W.alloc o) b x y z v :=
  ⟨by rw [World.cell?_alloc_lt _ _ _ h.lt]; exact h.c0, by rw [World.cell?_alloc_lt _ _ _ h.lt]; exact h.c1, by rw [World.cell?_alloc_lt _ _ _ h.lt]; exact h.c2, by rw [World.cell?_alloc_lt _ _ _ h.lt]; exact h.c3, by have := h.lt; simp; omega⟩
theorem Four.new (W : World) (x y z v : Value) : Four (W.alloc (.cells #[x, y, z, v] 27)) W.heap.size x y z v := ⟨by simp, by simp, by simp, by simp, by simp⟩
theorem lim_floor1 (w : World) : Calls Try.prog 23 #[.agg #[.int .i64 (-1073741824), .int .i64 1], .int .i64 1073741824] w fun e w' => e = .returned (.tuple #[.int .i64 (-1152921504606846976), .bool true]) ∧ Below w.heap.size w w' :=
  (floor_any (-1073741824) 1 1073741824 w).mono fun e w' ⟨he, hb⟩ => ⟨by rw [he, show flN (-1073741824) 1 1073741824 = -1152921504606846976 from by decide +kernel, show flB (-1073741824) 1 1073741824 = true from by decide +kernel], hb⟩
theorem lim_floor2 (w : World) : Calls Try.prog 23 #[.agg #[.int .i64 1, .int .i64 1], .int .i64 1073741825] w fun e w' => e = .returned (.tuple #[.int .i64 0, .bool false]) ∧ Below w.heap.size w w' :=
  (floor_any 1 1 1073741825 w).mono fun e w' ⟨he, hb⟩ => ⟨by rw [he, show flN 1 1 1073741825 = 0 from by decide +kernel, show flB 1 1 1073741825 = false from by decide +kernel], hb⟩
end Go.Proofs.Ytfhppadcaoggeaa
