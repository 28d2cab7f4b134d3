/- The walk of TokenWeighs. -/
import Derived.Test.YtinkejbdlfjjbaaTkz
import Derived.Lib.QuietBelow
import Derived.BigQuiet
import Derived.Deep.QuietTactic
import Derived.Test.YtinkejbdlfjjbaaNxt
import Derived.Test.YtinkejbdlfjjbaaFrg
import Derived.Test.YtinkejbdlfjjbaaRnr
namespace Go.Proofs.Ytinkejbdlfjjbaa
open Go.ChangeShapes Go.WideShapes Go.ChangeAt Go.RowKit Go.Sort
set_option linter.unusedVariables false
set_option linter.unusedSimpArgs false
set_option maxRecDepth 100000


theorem ix0 (x y : Int) (w : World) : (Instr.index 43 (.agg #[.int .i64 x, .int .i64 y]) (.int .i64 0)).run Try.prog w = .ok (.int .i64 x) w := by kernel_rfl
theorem ix1 (x y : Int) (w : World) : (Instr.index 43 (.agg #[.int .i64 x, .int .i64 y]) (.int .i64 1)).run Try.prog w = .ok (.int .i64 y) w := by kernel_rfl
theorem cells_tok {W : World} {B : Nat} {k id : Int} {t : ByteArray} (h : W.heap[B]? = some (.cells #[.int .i64 k, .string t, .int .i64 id] 33 (0, 0))) : W.cell? ⟨B, 0, none⟩ = some (.int .i64 k) ∧ W.cell? ⟨B, 1, none⟩ = some (.string t) ∧ W.cell? ⟨B, 2, none⟩ = some (.int .i64 id) ∧ W.frozen? ⟨B, 0, none⟩ = false ∧ W.frozen? ⟨B, 2, none⟩ = false :=
  ⟨by rw [Lib.cell_of_heap h]; rfl, by rw [Lib.cell_of_heap h]; rfl, by rw [Lib.cell_of_heap h]; rfl, Lib.frozen_of_heap h 0, Lib.frozen_of_heap h 2⟩
theorem keep_heap {W W' : World} {B : Nat} {o : Obj} (h : W.heap[B]? = some o) (hb : Below W.heap.size W W') : W'.heap[B]? = some o := by
  rw [hb.block B (Array.getElem?_eq_some_iff.1 h).1]; exact h
/-- What holds of the law's two variables. -/
structure Tw (w wr : World) (k : Int) (ta : ByteArray) (ia kb : Int) (tb : ByteArray) (ib : Int) : Prop where
  x : wr.heap[w.heap.size]? = some (.cells #[.int .i64 k, .string ta, .int .i64 ia] 33 (0, 0))
  y : wr.heap[w.heap.size + 1]? = some (.cells #[.int .i64 kb, .string tb, .int .i64 ib] 33 (0, 0))
  below : Below w.heap.size w wr
theorem Tw.call {w wr w1 : World} {k ia kb ib : Int} {ta tb : ByteArray} (h : Tw w wr k ta ia kb tb ib) (hb : Below wr.heap.size wr w1) : Tw w w1 k ta ia kb tb ib := ⟨keep_heap h.x hb, keep_heap h.y hb, BelowOn h.below hb⟩
theorem Tw.set {w wr : World} {k ia kb ib : Int} {ta tb : ByteArray} (h : Tw w wr k ta ia kb tb ib) (k' : Int) : Tw w (wr.setCell ⟨w.heap.size, 0, none⟩ (.int .i64 k')) k' ta ia kb tb ib :=
  ⟨by rw [setCell_heap wr w.heap.size 0 _ 33 _ h.x]; rfl, by have := h.y; simp [World.setCell, Array.getElem?_modify, this], h.below.setCell (Nat.le_refl _) _⟩
set_option maxHeartbeats 12800000 in
theorem weighs_law (a b : It) (kd : Int) (w : World) (wa : a.ok) (wb : b.ok) (wk : (Lit.int .i64 kd).wf = true) :
    Calls Try.prog 8 #[.agg #[.int .i64 a.k, .string a.t, .int .i64 a.id], .agg #[.int .i64 b.k, .string b.t, .int .i64 b.id], .int .i64 kd] w fun e w' => e = .returned (.bool true) ∧ Below w.heap.size w w' := by
  obtain ⟨ka, ta, ia⟩ := a
  obtain ⟨kb, tb, ib⟩ := b
  dsimp only
  have wta : ta.size ≤ 140737488355328 := wa.t
  have wtb : tb.size ≤ 140737488355328 := wb.t
  by_cases hs : ta.size ≤ 100
  case neg =>
    have z1 : 100 < ta.size := by omega
    go_enter Try.func8, Try.ntmps8
    go_wp2_with fail
    refine (known_any _).mono ?_; rintro e w17 ⟨rfl, hb⟩
    go_wp2_with fail
    go_ret
    exact ⟨rfl, BelowOn (blw (blw (Below.refl _ _) _) _) hb⟩
  have z1 : ¬ 100 < ta.size := by omega
  by_cases ht : tb.size ≤ 100
  case neg =>
    have z2 : 100 < tb.size := by omega
    go_enter Try.func8, Try.ntmps8
    go_wp2_with fail
    refine (known_any _).mono ?_; rintro e w17 ⟨rfl, hb⟩
    go_wp2_with fail
    go_ret
    exact ⟨rfl, BelowOn (blw (blw (Below.refl _ _) _) _) hb⟩
  have z2 : ¬ 100 < tb.size := by omega
  have hp := fun W => place_any kd 11 W (by decide) (by decide) wk
  generalize kd % 11 = kd2 at *
  have hw1 := fun k W => weight_any k ta ia W
  have hw2 := fun k W => rweight_any k ta ia W
  have hk1 := fun k i W => key_any k ta i W (by omega)
  have hk2 := fun k W => rkey_any k ta ia W (by omega)
  have hs1 := fun k W => tsame_any k ta ia kb tb ib W
  have hs2 := fun k W => rtsame_any k ta ia kb tb ib W
  have hs3 : ∀ k W, Calls Try.prog 26 #[.agg #[.int .i64 k, .string ta, .int .i64 ia], .agg #[.int .i64 k, .string ta, .int .i64 ib]] W fun e w' => e = .returned (.bool true) ∧ Below W.heap.size W w' := fun k W => by
    have := tsame_any k ta ia k ta ib W
    rwa [decide_eq_true ⟨rfl, rfl⟩] at this
  have HP := Lib.hid hp; have W1 := Lib.hid hw1; have W2 := Lib.hid hw2; have K1 := Lib.hid hk1; have K2 := Lib.hid hk2
  have S1 := Lib.hid hs1; have S2 := Lib.hid hs2; have S3 := Lib.hid hs3
  clear hp hw1 hw2 hk1 hk2 hs1 hs2 hs3 wa wb wk
  go_enter Try.func8, Try.ntmps8
  go_wp2_with fail
  have hB0 : Below w.heap.size w ((w.alloc (.cells #[.int .i64 ka, .string ta, .int .i64 ia] 33)).alloc (.cells #[.int .i64 kb, .string tb, .int .i64 ib] 33)) := blw (blw (Below.refl _ _) _) _
  have hx : ((w.alloc (.cells #[.int .i64 ka, .string ta, .int .i64 ia] 33)).alloc (.cells #[.int .i64 kb, .string tb, .int .i64 ib] 33)).heap[w.heap.size]? = some (.cells #[.int .i64 ka, .string ta, .int .i64 ia] 33 (0, 0)) := keep_heap (heap_alloc_new w _) (blw (Below.refl _ _) _)
  have hy : ((w.alloc (.cells #[.int .i64 ka, .string ta, .int .i64 ia] 33)).alloc (.cells #[.int .i64 kb, .string tb, .int .i64 ib] 33)).heap[w.heap.size + 1]? = some (.cells #[.int .i64 kb, .string tb, .int .i64 ib] 33 (0, 0)) := heap_newT _ _ _
  have hT : Tw w ((w.alloc (.cells #[.int .i64 ka, .string ta, .int .i64 ia] 33)).alloc (.cells #[.int .i64 kb, .string tb, .int .i64 ib] 33)) ka ta ia kb tb ib := ⟨hx, hy, hB0⟩
  clear hx hy hB0
  refine (HP.out _).mono ?_; rintro e w1 ⟨rfl, rfl⟩
  generalize ((w.alloc (.cells #[.int .i64 ka, .string ta, .int .i64 ia] 33)).alloc (.cells #[.int .i64 kb, .string tb, .int .i64 ib] 33)) = w1 at *
  go_wp2_with fail
  go_loopw [25] (fun i wr => ∃ (n : Nat) (k0 : Int), n ≤ 2 ∧ i = .int .i64 n ∧ Tw w wr k0 ta ia kb tb ib) (fun i _ => 2 - (intOf i).toNat)
  case atStart => exact ⟨0, ka, by omega, rfl, hT⟩
  case round =>
    obtain ⟨n, k0, hn, rfl, hT⟩ := hrel
    by_cases hlt : n < 2
    · obtain ⟨kk, hI⟩ : ∃ kk : Int, ∀ W, (Instr.index 43 (.agg #[.int .i64 kd, .int .i64 kd2]) (.int .i64 (n : Int))).run Try.prog W = .ok (.int .i64 kk) W := by
        rcases (show n = 0 ∨ n = 1 by omega) with rfl | rfl
        · exact ⟨kd, fun W => ix0 _ _ W⟩
        · exact ⟨kd2, fun W => ix1 _ _ W⟩
      have hT2 := hT.set kk
      obtain ⟨x0, x1, x2, f0, f2⟩ := cells_tok hT.x
      go_wp2_with fail
      clear x0 x1 x2 f0 f2 hI
      generalize (wr.setCell ⟨w.heap.size, 0, none⟩ (.int .i64 kk)) = v1 at *
      obtain ⟨x0, x1, x2, f0, f2⟩ := cells_tok hT2.x
      obtain ⟨y0, y1, y2, g0, g2⟩ := cells_tok hT2.y
      have r0 := cell_regrown x0; have r1 := cell_regrown x1; have r2 := cell_regrown x2
      have s0 := cell_regrown y0; have s1 := cell_regrown y1; have s2 := cell_regrown y2
      have c1 := fun d os => Calls.regrown_of (W1.out kk (grow (redrawn v1 d) os))
      have c2 := fun d os => Calls.regrown_of (W2.out kk (grow (redrawn v1 d) os))
      have c3 := fun d os => Calls.regrown_of (K1.out kk ia (grow (redrawn v1 d) os))
      have c4 := fun d os => Calls.regrown_of (K2.out kk (grow (redrawn v1 d) os))
      have c5 := fun d os => Calls.regrown_of (S1.out kk (grow (redrawn v1 d) os))
      have c6 := fun d os => Calls.regrown_of (S2.out kk (grow (redrawn v1 d) os))
      refine wp_region_quiet_below (by kernel_rfl) (by kernel_rfl) ?_
      iterate 2 (go_big_quiet_step (exact c1 _ _))
      iterate 2 (go_big_quiet_step (exact c2 _ _))
      iterate 4 (go_big_quiet_step (exact c3 _ _))
      iterate 2 (go_big_quiet_step (exact c4 _ _))
      iterate 6 (go_big_quiet_step (exact c5 _ _))
      iterate 3 (go_big_quiet_step (exact c6 _ _))
      repeat (go_big_quiet_step (fail))
      refine wpQuiet_nil ?_
      intro _ hw'
      obtain ⟨⟨dq, osq⟩, hw''⟩ := hw'
      subst hw''
      have hb2 := below_regrown v1 dq osq
      generalize grow (redrawn v1 dq) osq = v2 at *
      have hT3 := hT2.call hb2
      clear x0 x1 x2 f0 f2 y0 y1 y2 g0 g2 r0 r1 r2 s0 s1 s2 c1 c2 c3 c4 c5 c6 hb2 hT2
      obtain ⟨x0, x1, x2, f0, f2⟩ := cells_tok hT3.x
      obtain ⟨y0, y1, y2, g0, g2⟩ := cells_tok hT3.y
      obtain ⟨e0, e1, e2, e3, e4⟩ := cells_tok (hT3.call (blw (Below.refl v2.heap.size v2) (.cells #[.int .i64 kk, .string ta, .int .i64 ia] 33))).y
      go_wp2_with fail
      clear x0 x1 x2 f0 f2 y0 y1 y2 g0 g2 e0 e1 e2 e3 e4
      have hz := heap_alloc_new v2 (.cells #[.int .i64 kk, .string ta, .int .i64 ib] 33)
      have hT4 := hT3.call (blw (Below.refl v2.heap.size v2) (.cells #[.int .i64 kk, .string ta, .int .i64 ib] 33))
      generalize (v2.alloc (.cells #[.int .i64 kk, .string ta, .int .i64 ib] 33)) = v3 at *
      obtain ⟨x0, x1, x2, f0, f2⟩ := cells_tok hT4.x
      obtain ⟨y0, y1, y2, g0, g2⟩ := cells_tok hz
      have r0 := cell_regrown x0; have r1 := cell_regrown x1; have r2 := cell_regrown x2
      have s0 := cell_regrown y0; have s1 := cell_regrown y1; have s2 := cell_regrown y2
      have c1 := fun d os => Calls.regrown_of (S3.out kk (grow (redrawn v3 d) os))
      have c2 := fun d os => Calls.regrown_of (K1.out kk ia (grow (redrawn v3 d) os))
      have c3 := fun d os => Calls.regrown_of (K1.out kk ib (grow (redrawn v3 d) os))
      refine wp_region_quiet_below (by kernel_rfl) (by kernel_rfl) ?_
      iterate 3 (go_big_quiet_step (exact c1 _ _))
      iterate 4 (go_big_quiet_step (exact c2 _ _))
      iterate 2 (go_big_quiet_step (exact c3 _ _))
      repeat (go_big_quiet_step (fail))
      refine wpQuiet_nil ?_
      intro _ hw'
      obtain ⟨⟨dq, osq⟩, hw''⟩ := hw'
      subst hw''
      have hb2 := below_regrown v3 dq osq
      generalize grow (redrawn v3 dq) osq = v4 at *
      have hT5 := hT4.call hb2
      clear x0 x1 x2 f0 f2 y0 y1 y2 g0 g2 r0 r1 r2 s0 s1 s2 c1 c2 c3 hb2 hz hT4 hT3
      go_wp2_with fail
      go_roundw
      case rel => exact ⟨n + 1, kk, by omega, by go_num, hT5⟩
      case measure => simp [intOf]; omega
    · obtain rfl : n = 2 := by omega
      have hB := hT.below
      clear hT
      go_wp2_with fail
      refine (known_any _).mono ?_; rintro e w17 ⟨rfl, hb⟩
      have hB3 := BelowOn hB hb
      go_wp2_with fail
      go_ret
      exact ⟨rfl, hB3⟩
end Go.Proofs.Ytinkejbdlfjjbaa
