/- Contract of the reference's Cost. The walk of DistanceCosts. The law DistanceCosts holds for every input. -/
import Derived.Test.YtjabbiigaioljaaDtB
import Derived.Test.YtjabbiigaioljaaDtK
import Derived.Test.YtjabbiigaioljaaRows
import Derived.WalkKit
import Derived.ProofKit
import Derived.OpenShut
import Derived.ChangeOld
import Derived.Below
import Derived.Carry
import Derived.SizedLaws
import Derived.Test.YtjabbiigaioljaaTka
namespace Go.Proofs.Ytjabbiigaioljaa
open Go.ChangeShapes Go.WideShapes Go.ChangeAt Go.RowKit Go.Sort
set_option linter.unusedVariables false
set_option linter.unusedSimpArgs false
set_option maxRecDepth 100000

set_option maxHeartbeats 6400000 in
theorem rcost_any (x y : It) (w : World) (hx : x.t.size ≤ 1000) (hy : y.t.size ≤ 1000) :
    Calls Try.prog 16 #[.agg #[.int .i64 x.k, .string x.t, .int .i64 x.id], .agg #[.int .i64 y.k, .string y.t, .int .i64 y.id]] w fun e w' => e = .returned (.tuple #[.int .i64 (cO x y), .bool (okP x y)]) ∧ Below w.heap.size w w' := by
  obtain ⟨k1, t1, i1⟩ := x
  obtain ⟨k2, t2, i2⟩ := y
  dsimp only at hx hy ⊢
  have hs := fun W => rtsame_any k1 t1 i1 k2 t2 i2 W
  have hk1 := fun W => rkey_any k1 t1 i1 W hx
  have hk2 := fun W => rkey_any k2 t2 i2 W hy
  have hw := fun W => rweight_any k1 t1 i1 W
  have HK1 := Lib.hid hk1; have HK2 := Lib.hid hk2; have HW := Lib.hid hw
  clear hk1 hk2 hw
  have hv1 := (Var3.newT w k1 t1 i1).alloc (.cells #[.int .i64 k2, .string t2, .int .i64 i2] 23)
  have hv2 := Var3.newT (w.alloc (.cells #[.int .i64 k1, .string t1, .int .i64 i1] 23)) k2 t2 i2
  rw [show (w.alloc (.cells #[.int .i64 k1, .string t1, .int .i64 i1] 23)).heap.size = w.heap.size + 1 by simp] at hv2
  have hb0 : Below w.heap.size w ((w.alloc (.cells #[.int .i64 k1, .string t1, .int .i64 i1] 23)).alloc (.cells #[.int .i64 k2, .string t2, .int .i64 i2] 23)) := blw (blw (Below.refl _ _) _) _
  have HX := Lib.hid hv1; have HY := Lib.hid hv2
  clear hv1 hv2 hx hy
  by_cases q : k1 = k2 ∧ t1 = t2
  · have HQ := Lib.hid (show cO ⟨k1, t1, i1⟩ ⟨k2, t2, i2⟩ = 0 by unfold cO cst; rw [if_pos ((sm_iff _ _).2 q)]; split <;> rfl)
    have HP := Lib.hid (show okP ⟨k1, t1, i1⟩ ⟨k2, t2, i2⟩ = true by unfold okP; rw [(sm_iff _ _).2 q]; rfl)
    rw [decide_eq_true q] at hs
    have HS := Lib.hid hs
    clear hs q
    go_enter Try.func16, Try.ntmps16
    go_wp2_with fail
    refine (HS.out _).mono ?_; rintro e w1 ⟨rfl, hb⟩
    have hb1 := BelowOn hb0 hb
    have HX := Lib.hid (HX.out.call hb); have HY := Lib.hid (HY.out.call hb)
    clear hb
    obtain ⟨x0, x1, x2, _⟩ := HX.out
    obtain ⟨y0, y1, y2, _⟩ := HY.out
    go_wp2_with fail
    go_ret2
    exact ⟨by rw [HQ.out, HP.out]; rfl, hb1⟩
  rw [decide_eq_false q] at hs
  have HS := Lib.hid hs
  have hsm : sm ⟨k1, t1, i1⟩ ⟨k2, t2, i2⟩ = false := by cases h : sm ⟨k1, t1, i1⟩ ⟨k2, t2, i2⟩; rfl; exact absurd ((sm_iff _ _).1 h) q
  clear hs
  by_cases e : k1 = k2
  case neg =>
    have HQ := Lib.hid (show cO ⟨k1, t1, i1⟩ ⟨k2, t2, i2⟩ = 0 by unfold cO; rw [if_neg]; intro h; exact e (okP_kind h))
    have HP := Lib.hid (show okP ⟨k1, t1, i1⟩ ⟨k2, t2, i2⟩ = false by cases h : okP ⟨k1, t1, i1⟩ ⟨k2, t2, i2⟩; rfl; exact absurd (okP_kind h) e)
    have e1 : (k1 == k2) = false := by simpa using e
    have e2 : (k1 != k2) = true := by simpa using e
    clear q hsm
    go_enter Try.func16, Try.ntmps16
    go_wp2_with fail
    refine (HS.out _).mono ?_; rintro e w1 ⟨rfl, hb⟩
    have hb1 := BelowOn hb0 hb
    have HX := Lib.hid (HX.out.call hb); have HY := Lib.hid (HY.out.call hb)
    clear hb
    obtain ⟨x0, x1, x2, _⟩ := HX.out
    obtain ⟨y0, y1, y2, _⟩ := HY.out
    go_wp2_with fail
    go_ret2
    exact ⟨by rw [HQ.out, HP.out]; rfl, hb1⟩
  subst e
  by_cases lo : k1 < 5
  · have HP := Lib.hid (show okP ⟨k1, t1, i1⟩ ⟨k1, t2, i2⟩ = false by unfold okP; rw [hsm]; simp; omega)
    have HQ := Lib.hid (show cO ⟨k1, t1, i1⟩ ⟨k1, t2, i2⟩ = 0 by unfold cO; rw [HP.out]; rfl)
    clear q hsm
    go_enter Try.func16, Try.ntmps16
    go_wp2_with fail
    refine (HS.out _).mono ?_; rintro e w1 ⟨rfl, hb⟩
    have hb1 := BelowOn hb0 hb
    have HX := Lib.hid (HX.out.call hb); have HY := Lib.hid (HY.out.call hb)
    clear hb
    obtain ⟨x0, x1, x2, _⟩ := HX.out
    obtain ⟨y0, y1, y2, _⟩ := HY.out
    go_wp2_with fail
    go_ret2
    exact ⟨by rw [HQ.out, HP.out]; rfl, hb1⟩
  by_cases hi : 9 < k1
  · have HP := Lib.hid (show okP ⟨k1, t1, i1⟩ ⟨k1, t2, i2⟩ = false by unfold okP; rw [hsm]; simp; omega)
    have HQ := Lib.hid (show cO ⟨k1, t1, i1⟩ ⟨k1, t2, i2⟩ = 0 by unfold cO; rw [HP.out]; rfl)
    clear q hsm
    go_enter Try.func16, Try.ntmps16
    go_wp2_with fail
    refine (HS.out _).mono ?_; rintro e w1 ⟨rfl, hb⟩
    have hb1 := BelowOn hb0 hb
    have HX := Lib.hid (HX.out.call hb); have HY := Lib.hid (HY.out.call hb)
    clear hb
    obtain ⟨x0, x1, x2, _⟩ := HX.out
    obtain ⟨y0, y1, y2, _⟩ := HY.out
    go_wp2_with fail
    go_ret2
    exact ⟨by rw [HQ.out, HP.out]; rfl, hb1⟩
  have HP := Lib.hid (show okP ⟨k1, t1, i1⟩ ⟨k1, t2, i2⟩ = true by unfold okP; simp; exact .inr ⟨by omega, by omega⟩)
  by_cases k6 : k1 = 6
  · have e6 : (k1 == 6) = true := by simpa using k6
    by_cases kk : keyT k1 t1 = keyT k1 t2
    · have HQ := Lib.hid (show cO ⟨k1, t1, i1⟩ ⟨k1, t2, i2⟩ = 1 by unfold cO cst; rw [HP.out, hsm]; simp [k6, k6 ▸ kk])
      have hk1 := HK1.out; rw [kk] at hk1; have HK3 := Lib.hid hk1; clear hk1
      clear q hsm kk k6
      go_enter Try.func16, Try.ntmps16
      go_wp2_with fail
      refine (HS.out _).mono ?_; rintro e w1 ⟨rfl, hb⟩
      have hb1 := BelowOn hb0 hb
      have HX := Lib.hid (HX.out.call hb); have HY := Lib.hid (HY.out.call hb)
      clear hb
      obtain ⟨x0, x1, x2, _⟩ := HX.out
      obtain ⟨y0, y1, y2, _⟩ := HY.out
      go_wp2_with fail
      have rx0 := cell_regrown x0
      have rx1 := cell_regrown x1
      have rx2 := cell_regrown x2
      have ry0 := cell_regrown y0
      have ry1 := cell_regrown y1
      have ry2 := cell_regrown y2
      have c1 := fun d os => Calls.regrown_of (HK3.out (grow (redrawn w1 d) os))
      have c2 := fun d os => Calls.regrown_of (HK2.out (grow (redrawn w1 d) os))
      refine wp_region_quiet_below (by kernel_rfl) (by kernel_rfl) ?_
      iterate 6 (go_big_quiet_step (exact c1 _ _))
      iterate 2 (go_big_quiet_step (exact c2 _ _))
      repeat (go_big_quiet_step (fail))
      refine wpQuiet_nil ?_
      intro _ hw'
      obtain ⟨⟨dq, osq⟩, hw''⟩ := hw'
      subst hw''
      have hb := below_regrown w1 dq osq
      generalize grow (redrawn w1 dq) osq = w2 at *
      clear rx0 rx1 rx2 ry0 ry1 ry2 c1 c2
      clear x0 x1 x2 y0 y1 y2
      have hb2 := BelowOn hb1 hb
      have HX := Lib.hid (HX.out.call hb); have HY := Lib.hid (HY.out.call hb)
      clear hb
      obtain ⟨x0, x1, x2, _⟩ := HX.out
      obtain ⟨y0, y1, y2, _⟩ := HY.out
      go_wp2_with fail
      go_ret2
      exact ⟨by rw [HQ.out, HP.out]; rfl, hb2⟩
    · have HQ := Lib.hid (show cO ⟨k1, t1, i1⟩ ⟨k1, t2, i2⟩ = wtT k1 by unfold cO cst; rw [HP.out, hsm]; simp [k6, k6 ▸ kk])
      have kr := strl_ne kk
      have kr2 := str_ne kk
      clear q hsm kk k6
      go_enter Try.func16, Try.ntmps16
      go_wp2_with fail
      refine (HS.out _).mono ?_; rintro e w1 ⟨rfl, hb⟩
      have hb1 := BelowOn hb0 hb
      have HX := Lib.hid (HX.out.call hb); have HY := Lib.hid (HY.out.call hb)
      clear hb
      obtain ⟨x0, x1, x2, _⟩ := HX.out
      obtain ⟨y0, y1, y2, _⟩ := HY.out
      go_wp2_with fail
      have rx0 := cell_regrown x0
      have rx1 := cell_regrown x1
      have rx2 := cell_regrown x2
      have ry0 := cell_regrown y0
      have ry1 := cell_regrown y1
      have ry2 := cell_regrown y2
      have c1 := fun d os => Calls.regrown_of (HK1.out (grow (redrawn w1 d) os))
      have c2 := fun d os => Calls.regrown_of (HK2.out (grow (redrawn w1 d) os))
      refine wp_region_quiet_below (by kernel_rfl) (by kernel_rfl) ?_
      iterate 6 (go_big_quiet_step (exact c1 _ _))
      iterate 2 (go_big_quiet_step (exact c2 _ _))
      repeat (go_big_quiet_step (fail))
      refine wpQuiet_nil ?_
      intro _ hw'
      obtain ⟨⟨dq, osq⟩, hw''⟩ := hw'
      subst hw''
      have hb := below_regrown w1 dq osq
      generalize grow (redrawn w1 dq) osq = w2 at *
      clear rx0 rx1 rx2 ry0 ry1 ry2 c1 c2
      clear x0 x1 x2 y0 y1 y2
      have hb2 := BelowOn hb1 hb
      have HX := Lib.hid (HX.out.call hb); have HY := Lib.hid (HY.out.call hb)
      clear hb
      obtain ⟨x0, x1, x2, _⟩ := HX.out
      obtain ⟨y0, y1, y2, _⟩ := HY.out
      go_wp2_with fail
      refine (HW.out _).mono ?_; rintro e w3 ⟨rfl, hb⟩
      clear x0 x1 x2 y0 y1 y2
      have hb3 := BelowOn hb2 hb
      have HX := Lib.hid (HX.out.call hb); have HY := Lib.hid (HY.out.call hb)
      clear hb
      obtain ⟨x0, x1, x2, _⟩ := HX.out
      obtain ⟨y0, y1, y2, _⟩ := HY.out
      go_wp2_with fail
      go_ret2
      exact ⟨by rw [HQ.out, HP.out]; rfl, hb3⟩
  · have e6 : (k1 == 6) = false := by simpa using k6
    have HQ := Lib.hid (show cO ⟨k1, t1, i1⟩ ⟨k1, t2, i2⟩ = wtT k1 by unfold cO cst; rw [HP.out, hsm]; simp [k6])
    clear q hsm k6
    go_enter Try.func16, Try.ntmps16
    go_wp2_with fail
    refine (HS.out _).mono ?_; rintro e w1 ⟨rfl, hb⟩
    have hb1 := BelowOn hb0 hb
    have HX := Lib.hid (HX.out.call hb); have HY := Lib.hid (HY.out.call hb)
    clear hb
    obtain ⟨x0, x1, x2, _⟩ := HX.out
    obtain ⟨y0, y1, y2, _⟩ := HY.out
    go_wp2_with fail
    have rx0 := cell_regrown x0
    have rx1 := cell_regrown x1
    have rx2 := cell_regrown x2
    have ry0 := cell_regrown y0
    have ry1 := cell_regrown y1
    have ry2 := cell_regrown y2
    refine wp_region_quiet_below (by kernel_rfl) (by kernel_rfl) ?_
    repeat (go_big_quiet_step (fail))
    refine wpQuiet_nil ?_
    intro _ hw'
    obtain ⟨⟨dq, osq⟩, hw''⟩ := hw'
    subst hw''
    have hb := below_regrown w1 dq osq
    generalize grow (redrawn w1 dq) osq = w2 at *
    clear rx0 rx1 rx2 ry0 ry1 ry2 
    clear x0 x1 x2 y0 y1 y2
    have hb2 := BelowOn hb1 hb
    have HX := Lib.hid (HX.out.call hb); have HY := Lib.hid (HY.out.call hb)
    clear hb
    obtain ⟨x0, x1, x2, _⟩ := HX.out
    obtain ⟨y0, y1, y2, _⟩ := HY.out
    go_wp2_with fail
    refine (HW.out _).mono ?_; rintro e w3 ⟨rfl, hb⟩
    clear x0 x1 x2 y0 y1 y2
    have hb3 := BelowOn hb2 hb
    have HX := Lib.hid (HX.out.call hb); have HY := Lib.hid (HY.out.call hb)
    clear hb
    obtain ⟨x0, x1, x2, _⟩ := HX.out
    obtain ⟨y0, y1, y2, _⟩ := HY.out
    go_wp2_with fail
    go_ret2
    exact ⟨by rw [HQ.out, HP.out]; rfl, hb3⟩
end Go.Proofs.Ytjabbiigaioljaa
namespace Go.Proofs.Ytjabbiigaioljaa
open Go.ChangeShapes Go.WideShapes Go.ChangeAt Go.RowKit Go.Sort
set_option linter.unusedVariables false
set_option linter.unusedSimpArgs false
set_option maxRecDepth 100000

theorem tok_cells {W : World} {B : Nat} {a b c : Value} (h : W.heap[B]? = some (.cells #[a, b, c] 23 (0, 0))) : W.cell? ⟨B, 0, none⟩ = some a ∧ W.cell? ⟨B, 1, none⟩ = some b ∧ W.cell? ⟨B, 2, none⟩ = some c :=
  ⟨by rw [Lib.cell_of_heap h]; rfl, by rw [Lib.cell_of_heap h]; rfl, by rw [Lib.cell_of_heap h]; rfl⟩
theorem other3 {W : World} {A B : Nat} {o : Obj} (h : W.heap[A]? = some o) (hne : A ≠ B) (a' b' c' : Value) : (((W.setCell ⟨B, 0, none⟩ a').setCell ⟨B, 1, none⟩ b').setCell ⟨B, 2, none⟩ c').heap[A]? = some o := by
  rw [Below.heap_setCell _ _ _ _ hne, Below.heap_setCell _ _ _ _ hne, Below.heap_setCell _ _ _ _ hne]; exact h
theorem ixa (a b c d e f g h i j k l : Value) (w : World) : (Instr.index 30 (.agg #[a, b, c, d, e, f, g, h, i, j, k, l]) (.int .i64 0)).run Try.prog w = .ok (.agg #[a, b, c, d, e, f]) w := by kernel_rfl
theorem ixb (a b c d e f g h i j k l : Value) (w : World) : (Instr.index 30 (.agg #[a, b, c, d, e, f, g, h, i, j, k, l]) (.int .i64 1)).run Try.prog w = .ok (.agg #[g, h, i, j, k, l]) w := by kernel_rfl
theorem six_cells {W : World} {B : Nat} {a b c d e f : Value} {t : TypeId} (h : W.heap[B]? = some (.cells #[a, b, c, d, e, f] t (0, 0))) : W.cell? ⟨B, 0, none⟩ = some a ∧ W.cell? ⟨B, 1, none⟩ = some b ∧ W.cell? ⟨B, 2, none⟩ = some c ∧ W.cell? ⟨B, 3, none⟩ = some d ∧ W.cell? ⟨B, 4, none⟩ = some e ∧ W.cell? ⟨B, 5, none⟩ = some f :=
  ⟨by rw [Lib.cell_of_heap h]; rfl, by rw [Lib.cell_of_heap h]; rfl, by rw [Lib.cell_of_heap h]; rfl, by rw [Lib.cell_of_heap h]; rfl, by rw [Lib.cell_of_heap h]; rfl, by rw [Lib.cell_of_heap h]; rfl⟩
def redT : It := ⟨6, ⟨#[82, 69, 68]⟩, 0⟩
set_option maxHeartbeats 12800000 in
theorem costs_law (x y : It) (p : Option Addr) (c : Nat) (l : List Int) (i k : Int) (w : World) (wx : x.ok) (wy : y.ok)
    (r0 : Ones w (Value.int .i64) p l) (o0 : ∀ i (h : i < l.length), (Lit.int .i64 (l[i]'h)).wf = true) (n0 : l.length ≤ c) (m0 : c ≤ maxLen) (wi : (Lit.int .i64 i).wf = true) (wk : (Lit.int .i64 k).wf = true) :
    Calls Try.prog 3 #[.agg #[.int .i64 x.k, .string x.t, .int .i64 x.id], .agg #[.int .i64 y.k, .string y.t, .int .i64 y.id], .slice p l.length c, .int .i64 i, .int .i64 k] w fun e w' => e = .returned (.bool true) ∧ Below w.heap.size w w' := by
  have wxt := wx.t; have wyt := wy.t
  have hv1 := (Var3.newT w x.k x.t x.id).alloc (.cells #[.int .i64 y.k, .string y.t, .int .i64 y.id] 23)
  have hv2 := Var3.newT (w.alloc (.cells #[.int .i64 x.k, .string x.t, .int .i64 x.id] 23)) y.k y.t y.id
  rw [show (w.alloc (.cells #[.int .i64 x.k, .string x.t, .int .i64 x.id] 23)).heap.size = w.heap.size + 1 by simp] at hv2
  have hb0 : Below w.heap.size w ((w.alloc (.cells #[.int .i64 x.k, .string x.t, .int .i64 x.id] 23)).alloc (.cells #[.int .i64 y.k, .string y.t, .int .i64 y.id] 23)) := blw (blw (Below.refl _ _) _) _
  have hM := fun W h => dmade_any p c l 20 W h o0 n0 m0 (by omega)
  have M := Lib.hid hM; have R0 := Lib.hid (r0.call hb0)
  clear hM o0 wx wy r0
  unfold maxLen at m0
  by_cases zx : 60 < x.t.size
  · go_enter Try.func3, Try.ntmps3
    go_wp2_with fail
    refine (known_any _).mono ?_; rintro e w1 ⟨rfl, hb⟩
    go_wp2_with fail
    go_ret
    exact ⟨rfl, BelowOn hb0 hb⟩
  by_cases zy : 60 < y.t.size
  · go_enter Try.func3, Try.ntmps3
    go_wp2_with fail
    refine (known_any _).mono ?_; rintro e w1 ⟨rfl, hb⟩
    go_wp2_with fail
    go_ret
    exact ⟨rfl, BelowOn hb0 hb⟩
  by_cases zl : 60 < l.length
  · go_enter Try.func3, Try.ntmps3
    go_wp2_with fail
    refine (known_any _).mono ?_; rintro e w1 ⟨rfl, hb⟩
    go_wp2_with fail
    go_ret
    exact ⟨rfl, BelowOn hb0 hb⟩
  go_enter Try.func3, Try.ntmps3
  go_wp2_with fail
  generalize ((w.alloc (.cells #[.int .i64 x.k, .string x.t, .int .i64 x.id] 23)).alloc (.cells #[.int .i64 y.k, .string y.t, .int .i64 y.id] 23)) = W1 at *
  refine (M.out _ R0.out).mono ?_; rintro e w2 ⟨v, rfl, hA⟩
  have lA := mkD_len l 20; have tA := mkD_txt l 20
  generalize mkD l 20 = A at *
  clear M R0
  have hAl := hA.alloc (.cells (icells [redT]).toArray 23)
  have hnew := heap_alloc_new w2 (.cells (icells [redT]).toArray 23)
  have HV := Lib.hid (And.intro hv1 (And.intro hv2 hb0))
  clear hA hv1 hv2 hb0
  go_upto_region 4 with (at_builtin; refine wpl_append eT _ rfl _ _ rfl W1 A v rfl hAl redT w2.heap.size _ rfl hnew rfl (by omega) (by unfold maxLen; omega) ?_; intro v' w5 hA5 hb5)
  obtain ⟨hv1, hv2, hb0⟩ := HV.out
  replace hv1 := hv1.call hb5; replace hv2 := hv2.call hb5
  have hW := BelowOn hb0 hb5
  obtain ⟨pt, ct, rfl, ht1, ht2, hT⟩ := OwnT.its hA5.own
  have tT : txtsB (A ++ [redT]) := txtsB_app tA (txtsB_of _ (by decide +kernel))
  have lT : (A ++ [redT]).length = A.length + 1 := by simp
  generalize A ++ [redT] = T at *
  clear hA5 hAl hnew hb5 HV hb0 tA
  have hn1 : 1 ≤ T.length := by omega
  have hn2 : T.length ≤ 21 := by omega
  have hei : i % (T.length : Int) = ((i % (T.length : Int)).toNat : Int) := by have := Int.emod_nonneg i (show (T.length : Int) ≠ 0 by omega); omega
  have hek : k % (T.length : Int) = ((k % (T.length : Int)).toNat : Int) := by have := Int.emod_nonneg k (show (T.length : Int) ≠ 0 by omega); omega
  have hli := Int.emod_lt_of_pos i (show (0 : Int) < (T.length : Int) by omega)
  have hlk := Int.emod_lt_of_pos k (show (0 : Int) < (T.length : Int) by omega)
  have hPI := fun W => place_any i (T.length : Int) W (by omega) (by omega) wi
  have hPJ := fun W => place_any k (T.length : Int) W (by omega) (by omega) wk
  rw [hei] at hPI hli; rw [hek] at hPJ hlk
  generalize (i % (T.length : Int)).toNat = I at *
  generalize (k % (T.length : Int)).toNat = J at *
  have hI : I < T.length := by omega
  have hJ : J < T.length := by omega
  obtain ⟨ad, rfl, had, a0, a1, a2⟩ := hT.row I hI
  obtain ⟨ad', e', _, b0, b1, b2⟩ := hT.row J hJ
  injection e' with e'; subst e'
  have tX := tT _ (List.getElem_mem hI); have tY := tT _ (List.getElem_mem hJ)
  have hSA : ∀ W, Below w5.heap.size w5 W → (W.cell? (ad.add (I * 3)) = some (.int .i64 T[I].k) ∧ W.cell? ⟨(ad.add (I * 3)).block, (ad.add (I * 3)).off + 1, none⟩ = some (.string T[I].t) ∧ W.cell? ⟨(ad.add (I * 3)).block, (ad.add (I * 3)).off + 2, none⟩ = some (.int .i64 T[I].id)) ∧ (W.cell? (ad.add (J * 3)) = some (.int .i64 T[J].k) ∧ W.cell? ⟨(ad.add (J * 3)).block, (ad.add (J * 3)).off + 1, none⟩ = some (.string T[J].t) ∧ W.cell? ⟨(ad.add (J * 3)).block, (ad.add (J * 3)).off + 2, none⟩ = some (.int .i64 T[J].id)) := fun W hb => by
    have h1 := hT.call hb
    obtain ⟨x1, e1, _, c0, c1, c2⟩ := h1.row I hI
    obtain ⟨x2, e2, _, d0, d1, d2⟩ := h1.row J hJ
    injection e1 with e1; subst e1; injection e2 with e2; subst e2
    exact ⟨⟨c0, c1, c2⟩, ⟨d0, d1, d2⟩⟩
  have HSA := Lib.hid hSA; have HPI := Lib.hid hPI; have HPJ := Lib.hid hPJ
  have HV := Lib.hid (And.intro hv1 (And.intro hv2 hW))
  generalize T[I] = X at *
  generalize T[J] = Y at *
  have iI : (I : Int) < (T.length : Int) := by omega
  have iJ : (J : Int) < (T.length : Int) := by omega
  have i0I : (0 : Int) ≤ (I : Int) := by omega
  have i0J : (0 : Int) ≤ (J : Int) := by omega
  clear hSA hPI hPJ hT hei hek a0 a1 a2 b0 b1 b2 tT hv1 hv2 hW lT lA
  generalize hnT : T.length = n at *
  clear hnT
  refine wp_share2 (fun gP gQ W' => Below w5.heap.size w5 W' ∧ W'.heap[gP]? = some (.cells #[.int .i64 X.k, .string X.t, .int .i64 X.id] 23 (0, 0)) ∧ W'.heap[gQ]? = some (.cells #[.int .i64 Y.k, .string Y.t, .int .i64 Y.id] 23 (0, 0))) ⟨_, ⟨(by
    refine wp_region_held_drew (S := fun W => (W.cell? (ad.add (I * 3)) = some (.int .i64 X.k) ∧ W.cell? ⟨(ad.add (I * 3)).block, (ad.add (I * 3)).off + 1, none⟩ = some (.string X.t) ∧ W.cell? ⟨(ad.add (I * 3)).block, (ad.add (I * 3)).off + 2, none⟩ = some (.int .i64 X.id)) ∧ (W.cell? (ad.add (J * 3)) = some (.int .i64 Y.k) ∧ W.cell? ⟨(ad.add (J * 3)).block, (ad.add (J * 3)).off + 1, none⟩ = some (.string Y.t) ∧ W.cell? ⟨(ad.add (J * 3)).block, (ad.add (J * 3)).off + 2, none⟩ = some (.int .i64 Y.id))) (by kernel_rfl) (HSA.out _ (drew_below w5)) (fun hHeld => ?_)
    have hB := drew_below w5
    generalize w5.drew = v0 at *
    refine wpAnyH_take (i := 0) (v := ?_) rfl (by kernel_rfl) (by kernel_rfl) (by kernel_rfl) (fun _ _ _ h => h) (Or.inl ⟨by rfl, ?_⟩) hHeld ?_
    rotate_left
    · (intro w hSw; skip; go_simp; try with_reducible rfl)
    try simp only [Act.put, List.getElem_toArray, List.getElem_cons_zero, List.getElem_cons_succ, List.setIfInBounds_toArray, List.set_cons_zero, List.set_cons_succ]
    refine wpAnyH_take (i := 1) (v := ?_) rfl (by kernel_rfl) (by kernel_rfl) (by kernel_rfl) (fun _ _ _ h => h) (Or.inl ⟨by rfl, ?_⟩) hHeld ?_
    rotate_left
    · (intro w hSw; skip; go_simp; try with_reducible rfl)
    try simp only [Act.put, List.getElem_toArray, List.getElem_cons_zero, List.getElem_cons_succ, List.setIfInBounds_toArray, List.set_cons_zero, List.set_cons_succ]
    refine wpAnyH_take (i := 2) (v := ?_) rfl (by kernel_rfl) (by kernel_rfl) (by kernel_rfl) (fun _ _ _ h => h) (Or.inl ⟨by rfl, ?_⟩) hHeld ?_
    rotate_left
    · (intro w hSw; skip; go_simp; try with_reducible rfl)
    try simp only [Act.put, List.getElem_toArray, List.getElem_cons_zero, List.getElem_cons_succ, List.setIfInBounds_toArray, List.set_cons_zero, List.set_cons_succ]
    refine wpAnyH_take (i := 3) (v := ?_) rfl (by kernel_rfl) (by kernel_rfl) (by kernel_rfl) (fun _ _ _ h => h) (Or.inl ⟨by rfl, ?_⟩) hHeld ?_
    rotate_left
    · (intro w hSw; skip; go_simp; try with_reducible rfl)
    try simp only [Act.put, List.getElem_toArray, List.getElem_cons_zero, List.getElem_cons_succ, List.setIfInBounds_toArray, List.set_cons_zero, List.set_cons_succ]
    refine wpAnyH_quiet (i := 4) (v := .int .i64 (I : Nat)) rfl (by kernel_rfl) (by kernel_rfl) (by kernel_rfl) (fun _ _ _ h => h) ⟨by rfl, fun w hSw => ⟨14, #[.int .i64 i, .int .i64 (n : Nat)], by go_simp, (HPI.out w).mono (fun e w' h => ⟨h.1, h.2.symm⟩)⟩⟩ hHeld ?_
    try simp only [Act.put, List.getElem_toArray, List.getElem_cons_zero, List.getElem_cons_succ, List.setIfInBounds_toArray, List.set_cons_zero, List.set_cons_succ]
    refine wpAnyH_take (i := 5) (v := ?_) rfl (by kernel_rfl) (by kernel_rfl) (by kernel_rfl) (fun _ _ _ h => h) (Or.inl ⟨by rfl, ?_⟩) hHeld ?_
    rotate_left
    · (intro w hSw; skip; go_simp; try with_reducible rfl)
    try simp only [Act.put, List.getElem_toArray, List.getElem_cons_zero, List.getElem_cons_succ, List.setIfInBounds_toArray, List.set_cons_zero, List.set_cons_succ]
    refine wpAnyH_take (i := 6) (v := ?_) rfl (by kernel_rfl) (by kernel_rfl) (by kernel_rfl) (fun _ _ _ h => h) (Or.inl ⟨by rfl, ?_⟩) hHeld ?_
    rotate_left
    · (intro w hSw; obtain ⟨⟨q0, q1, q2⟩, _⟩ := hSw; go_simp; try with_reducible rfl)
    try simp only [Act.put, List.getElem_toArray, List.getElem_cons_zero, List.getElem_cons_succ, List.setIfInBounds_toArray, List.set_cons_zero, List.set_cons_succ]
    refine wpAnyH_take (i := 7) (v := ?_) rfl (by kernel_rfl) (by kernel_rfl) (by kernel_rfl) (fun _ _ _ h => h) (Or.inl ⟨by rfl, ?_⟩) hHeld ?_
    rotate_left
    · (intro w hSw; skip; go_simp; try with_reducible rfl)
    try simp only [Act.put, List.getElem_toArray, List.getElem_cons_zero, List.getElem_cons_succ, List.setIfInBounds_toArray, List.set_cons_zero, List.set_cons_succ]
    refine wpAnyH_take (i := 8) (v := ?_) rfl (by kernel_rfl) (by kernel_rfl) (by kernel_rfl) (fun _ _ _ h => h) (Or.inl ⟨by rfl, ?_⟩) hHeld ?_
    rotate_left
    · (intro w hSw; skip; go_simp; try with_reducible rfl)
    try simp only [Act.put, List.getElem_toArray, List.getElem_cons_zero, List.getElem_cons_succ, List.setIfInBounds_toArray, List.set_cons_zero, List.set_cons_succ]
    refine wpAnyH_take (i := 9) (v := ?_) rfl (by kernel_rfl) (by kernel_rfl) (by kernel_rfl) (fun _ _ _ h => h) (Or.inl ⟨by rfl, ?_⟩) hHeld ?_
    rotate_left
    · (intro w hSw; skip; go_simp; try with_reducible rfl)
    try simp only [Act.put, List.getElem_toArray, List.getElem_cons_zero, List.getElem_cons_succ, List.setIfInBounds_toArray, List.set_cons_zero, List.set_cons_succ]
    refine wpAnyH_take (i := 10) (v := ?_) rfl (by kernel_rfl) (by kernel_rfl) (by kernel_rfl) (fun _ _ _ h => h) (Or.inl ⟨by rfl, ?_⟩) hHeld ?_
    rotate_left
    · (intro w hSw; skip; go_simp; try with_reducible rfl)
    try simp only [Act.put, List.getElem_toArray, List.getElem_cons_zero, List.getElem_cons_succ, List.setIfInBounds_toArray, List.set_cons_zero, List.set_cons_succ]
    refine wpAnyH_quiet (i := 11) (v := .int .i64 (J : Nat)) rfl (by kernel_rfl) (by kernel_rfl) (by kernel_rfl) (fun _ _ _ h => h) ⟨by rfl, fun w hSw => ⟨14, #[.int .i64 k, .int .i64 (n : Nat)], by go_simp, (HPJ.out w).mono (fun e w' h => ⟨h.1, h.2.symm⟩)⟩⟩ hHeld ?_
    try simp only [Act.put, List.getElem_toArray, List.getElem_cons_zero, List.getElem_cons_succ, List.setIfInBounds_toArray, List.set_cons_zero, List.set_cons_succ]
    refine wpAnyH_take (i := 12) (v := ?_) rfl (by kernel_rfl) (by kernel_rfl) (by kernel_rfl) (fun _ _ _ h => h) (Or.inl ⟨by rfl, ?_⟩) hHeld ?_
    rotate_left
    · (intro w hSw; skip; go_simp; try with_reducible rfl)
    try simp only [Act.put, List.getElem_toArray, List.getElem_cons_zero, List.getElem_cons_succ, List.setIfInBounds_toArray, List.set_cons_zero, List.set_cons_succ]
    refine wpAnyH_take (i := 13) (v := ?_) rfl (by kernel_rfl) (by kernel_rfl) (by kernel_rfl) (fun _ _ _ h => h) (Or.inl ⟨by rfl, ?_⟩) hHeld ?_
    rotate_left
    · (intro w hSw; obtain ⟨_, ⟨q0, q1, q2⟩⟩ := hSw; go_simp; try with_reducible rfl)
    try simp only [Act.put, List.getElem_toArray, List.getElem_cons_zero, List.getElem_cons_succ, List.setIfInBounds_toArray, List.set_cons_zero, List.set_cons_succ]
    refine wpAnyH_ready (rs := [14, 15]) (by kernel_rfl) (by simp) ?_
    refine AllReadyH.cons rfl (fun K hK => ?_) (AllReadyH.cons rfl (fun K hK => ?_) AllReadyH.nil)
    · skip
      have hP := heap_alloc_new v0 (.cells #[.int .i64 0, .string ⟨#[]⟩, .int .i64 0] 23)
      have hb := (Below.refl v0.heap.size v0).alloc (Nat.le_refl _) (.cells #[.int .i64 0, .string ⟨#[]⟩, .int .i64 0] 23)
      have geP : w5.heap.size ≤ v0.heap.size := hB.size
      replace hB := BelowOn hB hb
      go_simp
      refine hK.out _ _ (HSA.out _ hB) (fun hHeld => ?_)
      clear hK K hb
      try simp only [Act.put, List.getElem_toArray, List.getElem_cons_zero, List.getElem_cons_succ, List.setIfInBounds_toArray, List.set_cons_zero, List.set_cons_succ]
      generalize v0.alloc (.cells #[.int .i64 0, .string ⟨#[]⟩, .int .i64 0] 23) = u1 at *
      generalize v0.heap.size = gP at *
      refine wpAnyH_ready (rs := [15]) (by kernel_rfl) (by simp) ?_
      refine AllReadyH.cons rfl (fun K hK => ?_) AllReadyH.nil
      have hQ := heap_alloc_new u1 (.cells #[.int .i64 0, .string ⟨#[]⟩, .int .i64 0] 23)
      have hb := (Below.refl u1.heap.size u1).alloc (Nat.le_refl _) (.cells #[.int .i64 0, .string ⟨#[]⟩, .int .i64 0] 23)
      have geQ : w5.heap.size ≤ u1.heap.size := hB.size
      have ne : gP ≠ u1.heap.size := Nat.ne_of_lt (heap_lt hP)
      replace hP := keep_heap hP hb
      replace hB := BelowOn hB hb
      go_simp
      refine hK.out _ _ (HSA.out _ hB) (fun hHeld => ?_)
      clear hK K hb
      try simp only [Act.put, List.getElem_toArray, List.getElem_cons_zero, List.getElem_cons_succ, List.setIfInBounds_toArray, List.set_cons_zero, List.set_cons_succ]
      generalize u1.alloc (.cells #[.int .i64 0, .string ⟨#[]⟩, .int .i64 0] 23) = u2 at *
      generalize u1.heap.size = gQ at *
      refine wpAnyH_ready (rs := [16]) (by kernel_rfl) (by simp) ?_
      refine AllReadyH.cons rfl (fun K hK => ?_) AllReadyH.nil
      have f0 := Lib.frozen_of_heap hP 0; have f1 := Lib.frozen_of_heap hP 1; have f2 := Lib.frozen_of_heap hP 2
      obtain ⟨z0, z1, z2⟩ := tok_cells hP
      have s1 := setCell_at _ gP 2 _ 23 (.int .i64 X.id) (setCell_at _ gP 1 _ 23 (.string X.t) (setCell_at u2 gP 0 _ 23 (.int .i64 X.k) hP))
      have hs1 : (((u2.setCell ⟨gP, 0, none⟩ (.int .i64 X.k)).setCell ⟨gP, 1, none⟩ (.string X.t)).setCell ⟨gP, 2, none⟩ (.int .i64 X.id)).heap[gP]? = some (.cells #[.int .i64 X.k, .string X.t, .int .i64 X.id] 23 (0, 0)) := s1
      have hB2 := ((hB.setCell (p := ⟨gP, 0, none⟩) geP (.int .i64 X.k)).setCell (p := ⟨gP, 1, none⟩) geP (.string X.t)).setCell (p := ⟨gP, 2, none⟩) geP (.int .i64 X.id)
      have ho : (((u2.setCell ⟨gP, 0, none⟩ (.int .i64 X.k)).setCell ⟨gP, 1, none⟩ (.string X.t)).setCell ⟨gP, 2, none⟩ (.int .i64 X.id)).heap[gQ]? = _ := other3 hQ (by first | exact ne | exact ne.symm) _ _ _
      clear s1
      go_simp
      refine hK.out _ _ (HSA.out _ hB2) (fun hHeld => ?_)
      clear hK K z0 z1 z2 f0 f1 f2
      try simp only [Act.put, List.getElem_toArray, List.getElem_cons_zero, List.getElem_cons_succ, List.setIfInBounds_toArray, List.set_cons_zero, List.set_cons_succ]
      generalize (((u2.setCell ⟨gP, 0, none⟩ (.int .i64 X.k)).setCell ⟨gP, 1, none⟩ (.string X.t)).setCell ⟨gP, 2, none⟩ (.int .i64 X.id)) = u3 at *
      clear hP hQ hB
      have hP := hs1; have hQ := ho; have hB := hB2; clear hs1 ho hB2
      refine wpAnyH_ready (rs := [17]) (by kernel_rfl) (by simp) ?_
      refine AllReadyH.cons rfl (fun K hK => ?_) AllReadyH.nil
      have f0 := Lib.frozen_of_heap hQ 0; have f1 := Lib.frozen_of_heap hQ 1; have f2 := Lib.frozen_of_heap hQ 2
      obtain ⟨z0, z1, z2⟩ := tok_cells hQ
      have s1 := setCell_at _ gQ 2 _ 23 (.int .i64 Y.id) (setCell_at _ gQ 1 _ 23 (.string Y.t) (setCell_at u3 gQ 0 _ 23 (.int .i64 Y.k) hQ))
      have hs1 : (((u3.setCell ⟨gQ, 0, none⟩ (.int .i64 Y.k)).setCell ⟨gQ, 1, none⟩ (.string Y.t)).setCell ⟨gQ, 2, none⟩ (.int .i64 Y.id)).heap[gQ]? = some (.cells #[.int .i64 Y.k, .string Y.t, .int .i64 Y.id] 23 (0, 0)) := s1
      have hB2 := ((hB.setCell (p := ⟨gQ, 0, none⟩) geQ (.int .i64 Y.k)).setCell (p := ⟨gQ, 1, none⟩) geQ (.string Y.t)).setCell (p := ⟨gQ, 2, none⟩) geQ (.int .i64 Y.id)
      have ho : (((u3.setCell ⟨gQ, 0, none⟩ (.int .i64 Y.k)).setCell ⟨gQ, 1, none⟩ (.string Y.t)).setCell ⟨gQ, 2, none⟩ (.int .i64 Y.id)).heap[gP]? = _ := other3 hP (by first | exact ne | exact ne.symm) _ _ _
      clear s1
      go_simp
      refine hK.out _ _ (HSA.out _ hB2) (fun hHeld => ?_)
      clear hK K z0 z1 z2 f0 f1 f2
      try simp only [Act.put, List.getElem_toArray, List.getElem_cons_zero, List.getElem_cons_succ, List.setIfInBounds_toArray, List.set_cons_zero, List.set_cons_succ]
      generalize (((u3.setCell ⟨gQ, 0, none⟩ (.int .i64 Y.k)).setCell ⟨gQ, 1, none⟩ (.string Y.t)).setCell ⟨gQ, 2, none⟩ (.int .i64 Y.id)) = u4 at *
      clear hQ hP hB
      have hQ := hs1; have hP := ho; have hB := hB2; clear hs1 ho hB2
      refine wpAnyH_done (by kernel_rfl) ?_ _
      exact ⟨gP, gQ, rfl, hB, hP, hQ⟩
    · skip
      have hQ := heap_alloc_new v0 (.cells #[.int .i64 0, .string ⟨#[]⟩, .int .i64 0] 23)
      have hb := (Below.refl v0.heap.size v0).alloc (Nat.le_refl _) (.cells #[.int .i64 0, .string ⟨#[]⟩, .int .i64 0] 23)
      have geQ : w5.heap.size ≤ v0.heap.size := hB.size
      replace hB := BelowOn hB hb
      go_simp
      refine hK.out _ _ (HSA.out _ hB) (fun hHeld => ?_)
      clear hK K hb
      try simp only [Act.put, List.getElem_toArray, List.getElem_cons_zero, List.getElem_cons_succ, List.setIfInBounds_toArray, List.set_cons_zero, List.set_cons_succ]
      generalize v0.alloc (.cells #[.int .i64 0, .string ⟨#[]⟩, .int .i64 0] 23) = u1 at *
      generalize v0.heap.size = gQ at *
      refine wpAnyH_ready (rs := [14]) (by kernel_rfl) (by simp) ?_
      refine AllReadyH.cons rfl (fun K hK => ?_) AllReadyH.nil
      have hP := heap_alloc_new u1 (.cells #[.int .i64 0, .string ⟨#[]⟩, .int .i64 0] 23)
      have hb := (Below.refl u1.heap.size u1).alloc (Nat.le_refl _) (.cells #[.int .i64 0, .string ⟨#[]⟩, .int .i64 0] 23)
      have geP : w5.heap.size ≤ u1.heap.size := hB.size
      have ne : gQ ≠ u1.heap.size := Nat.ne_of_lt (heap_lt hQ)
      replace hQ := keep_heap hQ hb
      replace hB := BelowOn hB hb
      go_simp
      refine hK.out _ _ (HSA.out _ hB) (fun hHeld => ?_)
      clear hK K hb
      try simp only [Act.put, List.getElem_toArray, List.getElem_cons_zero, List.getElem_cons_succ, List.setIfInBounds_toArray, List.set_cons_zero, List.set_cons_succ]
      generalize u1.alloc (.cells #[.int .i64 0, .string ⟨#[]⟩, .int .i64 0] 23) = u2 at *
      generalize u1.heap.size = gP at *
      refine wpAnyH_ready (rs := [16]) (by kernel_rfl) (by simp) ?_
      refine AllReadyH.cons rfl (fun K hK => ?_) AllReadyH.nil
      have f0 := Lib.frozen_of_heap hP 0; have f1 := Lib.frozen_of_heap hP 1; have f2 := Lib.frozen_of_heap hP 2
      obtain ⟨z0, z1, z2⟩ := tok_cells hP
      have s1 := setCell_at _ gP 2 _ 23 (.int .i64 X.id) (setCell_at _ gP 1 _ 23 (.string X.t) (setCell_at u2 gP 0 _ 23 (.int .i64 X.k) hP))
      have hs1 : (((u2.setCell ⟨gP, 0, none⟩ (.int .i64 X.k)).setCell ⟨gP, 1, none⟩ (.string X.t)).setCell ⟨gP, 2, none⟩ (.int .i64 X.id)).heap[gP]? = some (.cells #[.int .i64 X.k, .string X.t, .int .i64 X.id] 23 (0, 0)) := s1
      have hB2 := ((hB.setCell (p := ⟨gP, 0, none⟩) geP (.int .i64 X.k)).setCell (p := ⟨gP, 1, none⟩) geP (.string X.t)).setCell (p := ⟨gP, 2, none⟩) geP (.int .i64 X.id)
      have ho : (((u2.setCell ⟨gP, 0, none⟩ (.int .i64 X.k)).setCell ⟨gP, 1, none⟩ (.string X.t)).setCell ⟨gP, 2, none⟩ (.int .i64 X.id)).heap[gQ]? = _ := other3 hQ (by first | exact ne | exact ne.symm) _ _ _
      clear s1
      go_simp
      refine hK.out _ _ (HSA.out _ hB2) (fun hHeld => ?_)
      clear hK K z0 z1 z2 f0 f1 f2
      try simp only [Act.put, List.getElem_toArray, List.getElem_cons_zero, List.getElem_cons_succ, List.setIfInBounds_toArray, List.set_cons_zero, List.set_cons_succ]
      generalize (((u2.setCell ⟨gP, 0, none⟩ (.int .i64 X.k)).setCell ⟨gP, 1, none⟩ (.string X.t)).setCell ⟨gP, 2, none⟩ (.int .i64 X.id)) = u3 at *
      clear hP hQ hB
      have hP := hs1; have hQ := ho; have hB := hB2; clear hs1 ho hB2
      refine wpAnyH_ready (rs := [17]) (by kernel_rfl) (by simp) ?_
      refine AllReadyH.cons rfl (fun K hK => ?_) AllReadyH.nil
      have f0 := Lib.frozen_of_heap hQ 0; have f1 := Lib.frozen_of_heap hQ 1; have f2 := Lib.frozen_of_heap hQ 2
      obtain ⟨z0, z1, z2⟩ := tok_cells hQ
      have s1 := setCell_at _ gQ 2 _ 23 (.int .i64 Y.id) (setCell_at _ gQ 1 _ 23 (.string Y.t) (setCell_at u3 gQ 0 _ 23 (.int .i64 Y.k) hQ))
      have hs1 : (((u3.setCell ⟨gQ, 0, none⟩ (.int .i64 Y.k)).setCell ⟨gQ, 1, none⟩ (.string Y.t)).setCell ⟨gQ, 2, none⟩ (.int .i64 Y.id)).heap[gQ]? = some (.cells #[.int .i64 Y.k, .string Y.t, .int .i64 Y.id] 23 (0, 0)) := s1
      have hB2 := ((hB.setCell (p := ⟨gQ, 0, none⟩) geQ (.int .i64 Y.k)).setCell (p := ⟨gQ, 1, none⟩) geQ (.string Y.t)).setCell (p := ⟨gQ, 2, none⟩) geQ (.int .i64 Y.id)
      have ho : (((u3.setCell ⟨gQ, 0, none⟩ (.int .i64 Y.k)).setCell ⟨gQ, 1, none⟩ (.string Y.t)).setCell ⟨gQ, 2, none⟩ (.int .i64 Y.id)).heap[gP]? = _ := other3 hP (by first | exact ne | exact ne.symm) _ _ _
      clear s1
      go_simp
      refine hK.out _ _ (HSA.out _ hB2) (fun hHeld => ?_)
      clear hK K z0 z1 z2 f0 f1 f2
      try simp only [Act.put, List.getElem_toArray, List.getElem_cons_zero, List.getElem_cons_succ, List.setIfInBounds_toArray, List.set_cons_zero, List.set_cons_succ]
      generalize (((u3.setCell ⟨gQ, 0, none⟩ (.int .i64 Y.k)).setCell ⟨gQ, 1, none⟩ (.string Y.t)).setCell ⟨gQ, 2, none⟩ (.int .i64 Y.id)) = u4 at *
      clear hQ hP hB
      have hQ := hs1; have hP := ho; have hB := hB2; clear hs1 ho hB2
      refine wpAnyH_done (by kernel_rfl) ?_ _
      exact ⟨gP, gQ, rfl, hB, hP, hQ⟩), ?_⟩⟩
  rintro gP gQ w6 ⟨hB, hP, hQ⟩
  obtain ⟨hv1, hv2, hW⟩ := HV.out
  replace hv1 := hv1.call hB; replace hv2 := hv2.call hB; replace hW := BelowOn hW hB
  obtain ⟨p0, p1, p2⟩ := tok_cells hP
  obtain ⟨q0, q1, q2⟩ := tok_cells hQ
  obtain ⟨x0, x1, x2, _⟩ := hv1
  obtain ⟨y0, y1, y2, _⟩ := hv2
  have HW := Lib.hid hW
  clear hB hP hQ HV hW HSA HPI HPJ
  go_wp2_with fail
  clear p0 p1 p2 q0 q1 q2 x0 x1 x2 y0 y1 y2
  go_loopw [64] (fun i wr => ∃ n : Nat, n ≤ 2 ∧ i = .int .i64 n ∧ Below w.heap.size w wr) (fun i _ => 2 - (intOf i).toNat)
  case atStart => exact ⟨0, by omega, rfl, HW.out⟩
  case round =>
    obtain ⟨nn, hnn, rfl, hBr⟩ := hrel
    by_cases hlt : nn < 2
    · obtain ⟨u, v, hIx, tu, tv⟩ : ∃ u v : It, (∀ W, (Instr.index 30 (.agg #[.int .i64 x.k, .string x.t, .int .i64 x.id, .int .i64 y.k, .string y.t, .int .i64 y.id, .int .i64 X.k, .string X.t, .int .i64 X.id, .int .i64 Y.k, .string Y.t, .int .i64 Y.id]) (.int .i64 (nn : Int))).run Try.prog W = .ok (.agg #[.int .i64 u.k, .string u.t, .int .i64 u.id, .int .i64 v.k, .string v.t, .int .i64 v.id]) W) ∧ u.t.size ≤ 1000 ∧ v.t.size ≤ 1000 := by
        rcases (show nn = 0 ∨ nn = 1 by omega) with rfl | rfl
        · exact ⟨x, y, fun W => ixa _ _ _ _ _ _ _ _ _ _ _ _ _, by omega, by omega⟩
        · exact ⟨X, Y, fun W => ixb _ _ _ _ _ _ _ _ _ _ _ _ _, tX, tY⟩
      have d1 := fun W => dcost_any u v W tu tv
      have d2 := fun W => rcost_any u v W tu tv
      have d3 := fun W => dcost_any v u W tv tu
      have hok := ok_comm u v
      have hc : cO v u = cO u v := by
        unfold cO; rw [← hok]
        by_cases h : okP u v = true
        · rw [if_pos h, if_pos h, cst_comm u v h]
        · rw [if_neg h, if_neg h]
      rw [hc, ← hok] at d3
      have D1 := Lib.hid d1; have D2 := Lib.hid d2; have D3 := Lib.hid d3
      have hnew := heap_alloc_new wr (.cells #[.int .i64 u.k, .string u.t, .int .i64 u.id, .int .i64 v.k, .string v.t, .int .i64 v.id] 29)
      have hB1 : Below w.heap.size w (wr.alloc (.cells #[.int .i64 u.k, .string u.t, .int .i64 u.id, .int .i64 v.k, .string v.t, .int .i64 v.id] 29)) := blw hBr _
      have HN := Lib.hid (And.intro hnew hB1)
      generalize cO u v = co at *
      generalize okP u v = ok at *
      clear d1 d2 d3 hok hc hnew hB1 hBr HW
      go_wp2_with fail
      obtain ⟨hnew, hB1⟩ := HN.out
      refine (D1.out _).mono ?_; rintro e w7 ⟨rfl, hb⟩
      replace hnew := keep_heap hnew hb; replace hB1 := BelowOn hB1 hb
      have HN2 := Lib.hid (And.intro hnew hB1)
      obtain ⟨c0, c1, c2, c3, c4, c5⟩ := six_cells hnew
      clear hnew hB1 hb HN
      go_wp2_with fail
      obtain ⟨hnew, hB1⟩ := HN2.out
      refine (D2.out _).mono ?_; rintro e w8 ⟨rfl, hb⟩
      replace hnew := keep_heap hnew hb; replace hB1 := BelowOn hB1 hb
      clear c0 c1 c2 c3 c4 c5
      have HN3 := Lib.hid (And.intro hnew hB1)
      obtain ⟨c0, c1, c2, c3, c4, c5⟩ := six_cells hnew
      clear hnew hB1 hb HN2
      go_wp2_with fail
      obtain ⟨hnew, hB1⟩ := HN3.out
      refine (D3.out _).mono ?_; rintro e w9 ⟨rfl, hb⟩
      replace hB1 := BelowOn hB1 hb
      clear c0 c1 c2 c3 c4 c5 hnew hb HN3
      go_wp2_with fail
      go_roundw
      case rel => exact ⟨nn + 1, by omega, by go_num, hB1⟩
      case measure => simp [intOf] <;> omega
    · obtain rfl : nn = 2 := by omega
      go_wp2_with fail
      refine (known_any _).mono ?_; rintro e w7 ⟨rfl, hb⟩
      have hB3 := BelowOn hBr hb
      go_wp2_with fail
      go_ret
      exact ⟨rfl, hB3⟩
end Go.Proofs.Ytjabbiigaioljaa
namespace Go.Proofs.Ytjabbiigaioljaa.distanceCosts
open Go.ChangeShapes Go.WideShapes Go.ChangeAt Go.RowKit
open Go.ChangeMaps (open_string shut_string)
set_option linter.unusedVariables false
set_option maxRecDepth 100000

theorem own : ownKnob Try.prog.godebug = none := by kernel_rfl
theorem laidOut : laidOutB Try.prog = true := by kernel_rfl


set_option maxHeartbeats 1600000 in
theorem walk (a0 : It) (a1 : It) (p2 : Option Addr) (c2 : Nat) (a2 : List Int) (a3 : Int) (a4 : Int) (w : World) (w0 : a0.ok) (w1 : a1.ok) (r2 : Ones w (Value.int .i64) p2 a2) (o2 : ∀ i (h : i < a2.length), (Lit.int .i64 (a2[i]'h)).wf = true) (n2 : a2.length ≤ c2) (m2 : c2 ≤ maxLen) (w3 : (Lit.int .i64 a3).wf = true) (w4 : (Lit.int .i64 a4).wf = true) :
    Calls Try.prog 3 #[.agg #[.int .i64 a0.k, .string a0.t, .int .i64 a0.id], .agg #[.int .i64 a1.k, .string a1.t, .int .i64 a1.id], .slice p2 a2.length c2, .int .i64 a3, .int .i64 a4] w fun e w' => e = .returned (.bool true) ∧ Below w.heap.size w w' := by
  exact costs_law a0 a1 p2 c2 a2 a3 a4 w w0 w1 r2 o2 n2 m2 w3 w4

theorem lifted (os : Os) (started : os.Started) (H : Type) (enc : TypeId × Value → H) :
    ReturnsInHanded {} Try.checked os 3 .any (Rows.distanceCostsSpec.pre6 enc Try.prog Try.f3 Rows.distanceCostsRow.domain false) (Rows.distanceCostsSpec.post enc Try.prog Try.f3 false true false false) := by
  refine returnsInHanded_of_change_sized (C := Try.checked) own started (by kernel_rfl) Try.func3
    (ChangeSpec.witness6 (enc := enc) (C := Try.checked) false ⟨#[], #[.agg #[.int .i64 0, .string ByteArray.empty, .int .i64 0], .agg #[.int .i64 0, .string ByteArray.empty, .int .i64 0], .slice none 0 0, .int .i64 0, .int .i64 0], []⟩ 8 (by kernel_rfl) (by kernel_rfl) (by kernel_rfl) (by kernel_rfl)) ?_
  intro W base args ds gs before hval0 hW hcnd hsz0 _
  have hval : ∀ (j : Nat) t v, Try.f3.params[j]? = some t → args[j]? = some v → Value.okWide Try.prog W .any base t v := hval0
  have hW' := hW
  have hlt : ∀ x ∈ before, x.block < W.heap.size := fun x hx => hW'.lt x hx
  obtain ⟨p, q, hA0, hV, rfl, hfz, hnd⟩ := hW
  have hA : DataW.TrodAll enc Try.prog W 0 (fun _ => true) true Try.f3.params.toList args.toList ds p := hA0
  rw [Try.params3] at hA hval hsz0
  obtain ⟨v0, vs0, d0, ds0, p0, q0, hargs, rfl, rfl, h0, r0⟩ := trodAll_cons hA
  obtain ⟨v1, vs1, d1, ds1, p1, q1, rfl, rfl, rfl, h1, r1⟩ := trodAll_cons r0
  obtain ⟨v2, vs2, d2, ds2, p2, q2, rfl, rfl, rfl, h2, r2⟩ := trodAll_cons r1
  obtain ⟨v3, vs3, d3, ds3, p3, q3, rfl, rfl, rfl, h3, r3⟩ := trodAll_cons r2
  obtain ⟨v4, vs4, d4, ds4, p4, q4, rfl, rfl, rfl, h4, r4⟩ := trodAll_cons r3
  obtain ⟨rfl, rfl, rfl⟩ := trodAll_nil r4
  obtain rfl : args = #[v0, v1, v2, v3, v4] := by cases args; simp_all
  obtain ⟨rfl, rfl⟩ := trodVars_none hV
  have hsz := hsz0; clear hsz0
  obtain ⟨a0, w0, rfl⟩ := opened_tx (hval 0 23 v0 rfl rfl) h0 (fun n hn => by simpa using List.all_eq_true.1 hsz n (DataW.weights_mem_each (j := 0) rfl rfl n hn))
  obtain ⟨a1, w1, rfl⟩ := opened_tx (hval 1 23 v1 rfl rfl) h1 (fun n hn => by simpa using List.all_eq_true.1 hsz n (DataW.weights_mem_each (j := 1) rfl rfl n hn))
  obtain ⟨pp2, c2, a2, rfl, n2, m2, y2, o2⟩ := opened_ints (okBase (hval 2 24 v2 rfl rfl)) h2
  obtain ⟨a3, rfl, -, -, w3⟩ := open_int Try.underlying3 (hval 3 3 v3 rfl rfl) h3
  obtain ⟨a4, rfl, -, -, w4⟩ := open_int Try.underlying3 (hval 4 3 v4 rfl rfl) h4
  clear hA0 hval0
  refine (walk a0 a1 pp2 c2 a2 a3 a4 W w0 w1 y2 o2 n2 m2 w3 w4).mono fun e W' ⟨he, bel⟩ => ?_
  subst he
  exact ⟨_, rfl, _, _, _, [], _, [], hW', trodAll_mk1 (shut_bool Try.underlying4 _), (trodAll_cons_mk (Below.trod laidOut (by kernel_rfl) (of_decide_eq_true (by kernel_rfl)) h0 bel (fun x hx => hlt x (by simp [hx]))) (trodAll_cons_mk (Below.trod laidOut (by kernel_rfl) (of_decide_eq_true (by kernel_rfl)) h1 bel (fun x hx => hlt x (by simp [hx]))) (trodAll_cons_mk (Below.trod laidOut (by kernel_rfl) (of_decide_eq_true (by kernel_rfl)) h2 bel (fun x hx => hlt x (by simp [hx]))) (trodAll_cons_mk (Below.trod laidOut (by kernel_rfl) (of_decide_eq_true (by kernel_rfl)) h3 bel (fun x hx => hlt x (by simp [hx]))) (trodAll_cons_mk (Below.trod laidOut (by kernel_rfl) (of_decide_eq_true (by kernel_rfl)) h4 bel (fun x hx => hlt x (by simp [hx]))) trodAll_mk0))))), rfl, bel.frame _, fun h => by cases h⟩

theorem over : Rows.distanceCostsRow.holds Try.pinned (OpenSpec.ofChange Rows.distanceCostsSpec) :=
  OpenClaim.holds_of_wide 3 Try.f3 rfl rfl rfl rfl rfl rfl rfl ⟨rfl, rfl, rfl, rfl, rfl⟩ rfl rfl rfl rfl rfl (by kernel_rfl) Try.func3 (by kernel_rfl)
    (of_decide_eq_true (by kernel_rfl)) (by unfold Func.isWrapper; first | (rw [if_pos (by decide +kernel)]; kernel_rfl) | (rw [if_neg (by decide +kernel)]; exact ⟨rfl, rfl⟩))
    (fun os started H enc _ => lifted os started H enc)

theorem proved : Rows.DistanceCostsSaid := over
#print axioms proved
end Go.Proofs.Ytjabbiigaioljaa.distanceCosts
