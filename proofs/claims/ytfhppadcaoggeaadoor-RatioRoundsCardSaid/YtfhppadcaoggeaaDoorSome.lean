/- Contracts of the fixed example and of some. -/
import Derived.Test.YtfhppadcaoggeaaDoorAdd
import Derived.Deep.RegionWith
import Derived.DataShut
namespace Go.Proofs.YtfhppadcaoggeaaDoor
open Go.ChangeShapes Go.WideShapes Go.ChangeAt Go.RowKit
set_option linter.unusedVariables false
attribute [local go_sem ↓] Go.wp_at_zero Go.wp_at_succ

theorem known_make (w : World) : Calls Tryd.prog 16 #[.int .i64 4, .int .i64 (-6)] w fun e w' => e = .returned (.tuple #[.agg #[.int .i64 (-2), .int .i64 3], .bool true]) ∧ Below w.heap.size w w' :=
  (make_any 4 (-6) w).mono fun e w' ⟨he, hw⟩ => ⟨by rw [he, show oN (makeQ 4 (-6)) = -2 from by decide +kernel, show oD (makeQ 4 (-6)) = 3 from by decide +kernel, show oB (makeQ 4 (-6)) = true from by decide +kernel], hw⟩
theorem known_add (w : World) : Calls Tryd.prog 17 #[.agg #[.int .i64 1, .int .i64 2], .agg #[.int .i64 1, .int .i64 3]] w fun e w' => e = .returned (.tuple #[.agg #[.int .i64 5, .int .i64 6], .bool true]) ∧ Below w.heap.size w w' :=
  (add_any 1 2 1 3 w).mono fun e w' ⟨he, hw⟩ => ⟨by rw [he, show oN (addQ 1 2 1 3) = 5 from by decide +kernel, show oD (addQ 1 2 1 3) = 6 from by decide +kernel, show oB (addQ 1 2 1 3) = true from by decide +kernel], hw⟩
/-- A variable of two cells, where it lies. -/
structure Two (W : World) (b : Nat) (x y : Value) : Prop where
  c0 : W.cell? ⟨b, 0, none⟩ = some x
  c1 : W.cell? ⟨b, 1, none⟩ = some y
  lt : b < W.heap.size
theorem Two.call {W w1 : World} {b : Nat} {x y : Value} (h : Two W b x y) (hb : Below W.heap.size W w1) : Two w1 b x y :=
  ⟨by rw [hb.cell (p := ⟨b, 0, none⟩) h.lt]; exact h.c0, by rw [hb.cell (p := ⟨b, 1, none⟩) h.lt]; exact h.c1, Nat.lt_of_lt_of_le h.lt hb.size⟩
theorem Two.alloc {W : World} {b : Nat} {x y : Value} (h : Two W b x y) (o : Obj) : Two (W.alloc o) b x y :=
  ⟨by rw [World.cell?_alloc_lt _ _ _ h.lt]; exact h.c0, by rw [World.cell?_alloc_lt _ _ _ h.lt]; exact h.c1, by have := h.lt; simp; omega⟩
theorem Two.drew {W : World} {b : Nat} {x y : Value} (h : Two W b x y) : Two W.drew b x y := ⟨h.c0, h.c1, h.lt⟩
theorem Two.new (W : World) (x y : Value) : Two (W.alloc (.cells #[x, y] 23)) W.heap.size x y := ⟨by simp, by simp, by simp⟩

theorem known_any (w : World) : Calls Tryd.prog 8 #[] w fun e w' => e = .returned (.bool true) ∧ Below w.heap.size w w' := by
  go_enter Tryd.func8, Tryd.ntmps8
  go_wp2_with fail
  refine (known_make _).mono ?_; rintro e w1 ⟨rfl, hb1⟩
  go_wp2_with fail
  refine (known_add _).mono ?_; rintro e w2 ⟨rfl, hb2⟩
  obtain ⟨c0, c1, lt⟩ := (Two.new w1 (.int .i64 (-2)) (.int .i64 3)).call hb2
  go_wp2_with fail
  go_ret
  exact ⟨rfl, (BelowOn (hb1.alloc hb1.size _) hb2).alloc (by have := hb1.size; omega) _⟩

/-- What some gives back: the rational number q. -/
def SomeEnd (q : Rat) (w : World) (e : Ending) (w' : World) : Prop := e = .returned (.agg #[.int .i64 q.num, .int .i64 (q.den : Int)]) ∧ Below w.heap.size w w'
theorem some_num (a b sz : Int) (h1 : 1 ≤ sz) (h2 : sz ≤ 1048576) : -sz < a.tmod sz ∧ a.tmod sz < sz ∧ 1 ≤ IntKind.i64.wrap (IntKind.i64.wrap ((IntKind.u64.wrap b).tmod sz) + 1) ∧ IntKind.i64.wrap (IntKind.i64.wrap ((IntKind.u64.wrap b).tmod sz) + 1) ≤ sz := by
  have u0 : 0 ≤ IntKind.u64.wrap b := by show 0 ≤ b % 18446744073709551616; omega
  generalize IntKind.u64.wrap b = u at *
  have e := Int.tmod_eq_emod_of_nonneg (b := sz) u0
  have m0 := Int.emod_nonneg u (show sz ≠ 0 by omega)
  have m1 := Int.emod_lt_of_pos u (show 0 < sz by omega)
  rw [e]
  generalize u % sz = x at *
  rw [IntWalk.i64_in x (by omega), IntWalk.i64_in (x + 1) (by omega)]
  have t1 := Int.tmod_lt_of_pos a (show 0 < sz by omega)
  have t2 := Int.tmod_lt_of_pos (-a) (show 0 < sz by omega)
  rw [Int.neg_tmod] at t2
  omega
theorem some_make (a b sz : Int) (h1 : 1 ≤ sz) (h2 : sz ≤ 1048576) :
    ∃ q : Rat, -sz < q.num ∧ q.num < sz ∧ (q.den : Int) ≤ sz ∧ ∀ w, Calls Tryd.prog 15 #[.int .i64 (a.tmod sz), .int .i64 (IntKind.i64.wrap (IntKind.i64.wrap ((IntKind.u64.wrap b).tmod sz) + 1))] w
      fun e w' => e = .returned (.tuple #[.agg #[.int .i64 q.num, .int .i64 (q.den : Int)], .bool true]) ∧ Below w.heap.size w w' := by
  obtain ⟨n1, n2, d1, d2⟩ := some_num a b sz h1 h2
  generalize IntKind.i64.wrap (IntKind.i64.wrap ((IntKind.u64.wrap b).tmod sz) + 1) = d at *
  generalize a.tmod sz = n at *
  have hn := num_le n d (by omega)
  have hd := den_le n d (by omega)
  have hm : makeQ n d = some (Rat.divInt n d) := by unfold makeQ; rw [if_pos]; unfold mkB; simp; omega
  refine ⟨Rat.divInt n d, by omega, by omega, by omega, fun w => ?_⟩
  have hf : fits (Rat.divInt n d) = true := by unfold fits; exact decide_eq_true ⟨by omega, by omega, by omega⟩
  have hr := rmake_any n d w
  rw [hm] at hr
  refine hr.mono fun e w' ⟨he, hb⟩ => ⟨?_, hb⟩
  rw [he]; unfold oN oD oB qN qD; simp only [hf]; rfl
set_option maxHeartbeats 2000000 in
theorem some_q (a b sz : Int) (q : Rat) (w : World) (h1 : 1 ≤ sz) (h2 : sz ≤ 1048576) (ha : -9223372036854775808 ≤ a) (ha' : a ≤ 9223372036854775807) (hb : -9223372036854775808 ≤ b) (hb' : b ≤ 9223372036854775807)
    (HM : Hid (∀ w, Calls Tryd.prog 15 #[.int .i64 (a.tmod sz), .int .i64 (IntKind.i64.wrap (IntKind.i64.wrap ((IntKind.u64.wrap b).tmod sz) + 1))] w
      fun e w' => e = .returned (.tuple #[.agg #[.int .i64 q.num, .int .i64 (q.den : Int)], .bool true]) ∧ Below w.heap.size w w')) :
    Calls Tryd.prog 7 #[.int .i64 a, .int .i64 b, .int .i64 sz] w (SomeEnd q w) := by
  have hb0 : Below w.heap.size w (w.alloc (.cells #[.int .i64 0, .int .i64 0] 23)) := (Below.refl _ _).alloc (Nat.le_refl _) _
  have e0 : IntKind.u64.wrap sz = sz := by show sz % 18446744073709551616 = sz; omega
  have e1 : (sz == 0) = false := by simp; omega
  go_enter Tryd.func7, Tryd.ntmps7
  go_wp2_with fail
  first | go_region_with ((go_at_call 15; refine (HM.out _).mono ?_; rintro e w1 ⟨rfl, hbl⟩; obtain ⟨hc, hz⟩ := bcell hbl; obtain ⟨d0, d1, f0, f1, hl⟩ := res_cells (w := w) hbl (by first | (simp; done) | (simp; omega)) (by simp [go_sem]) (by simp [go_sem]) (by simp [go_sem]) (by simp [go_sem])))
  all_goals go_wp2_with fail
  all_goals refine bodyPost_ret (v := .agg #[.int .i64 q.num, .int .i64 (q.den : Int)]) (by first | (simp [results, Tryd.results7, go_sem, d0, d1]; done) | simp [results, Tryd.results7, go_sem, d0, d1, hl]) rfl ⟨rfl, ?_⟩
  all_goals (have hg := hbl.size; simp at hg)
  all_goals first
    | exact (((BelowOn hb0.drew hbl).setCell (by simp) _).setCell (by simp) _).alloc (by simp; omega) _
    | exact ((((BelowOn (hb0.alloc (by simp) _).drew hbl).setCell (by simp) _).setCell (by simp) _).setCell (by simp) _).setCell (by simp) _
    | exact ((((BelowOn (hb0.drew.alloc (by simp) _) hbl).setCell (by simp) _).setCell (by simp) _).setCell (by simp) _).setCell (by simp) _
/-- A fixed ratio that some gives, with small numbers. -/
theorem some_hid (a b sz : Int) (h1 : 1 ≤ sz) (h2 : sz ≤ 1048576) (wa : (Lit.int .i64 a).wf = true) (wb : (Lit.int .i64 b).wf = true) :
    ∃ q : Rat, -sz < q.num ∧ q.num < sz ∧ (q.den : Int) ≤ sz ∧ Hid (∀ w, Calls Tryd.prog 7 #[.int .i64 a, .int .i64 b, .int .i64 sz] w (SomeEnd q w)) := by
  obtain ⟨q, q1, q2, q3, hm⟩ := some_make a b sz h1 h2
  obtain ⟨a1, a2⟩ : -9223372036854775808 ≤ a ∧ a ≤ 9223372036854775807 := (Lit.wf_int_iff .i64 a).1 wa
  obtain ⟨b1, b2⟩ : -9223372036854775808 ≤ b ∧ b ≤ 9223372036854775807 := (Lit.wf_int_iff .i64 b).1 wb
  exact ⟨q, q1, q2, q3, fun w => some_q a b sz q w h1 h2 a1 a2 b1 b2 hm⟩
end Go.Proofs.YtfhppadcaoggeaaDoor
