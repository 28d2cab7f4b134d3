/- Contract of the reference's Cost. Contract of with. The canonical script of two halves. Scripts as lists of edits; contract of appendInsertions. Contract of appendOne. Contract of appendScript. Contract of Align. What Price answers, as a function. Contract of Price. What the law of Align and Price carries: paths, the numbers, the lists, the script. The walk of DistanceAligns. The law DistanceAligns holds for every input. -/
import Derived.Test.YtjabbiigaioljaaDtB
import Derived.Test.YtjabbiigaioljaaDtK
import Derived.Deep.Upon
import Derived.Test.YtjabbiigaioljaaDtC
import Derived.Test.YtjabbiigaioljaaDtA
import Derived.Test.YtjabbiigaioljaaDtD
import Derived.Test.YtjabbiigaioljaaRows
import Derived.WalkKit
import Derived.ProofKit
import Derived.OpenShut
import Derived.ChangeOld
import Derived.Below
import Derived.Carry
import Derived.SizedLaws
import Derived.Test.YtjabbiigaioljaaTka
namespace Go.Proofs.Ytjabbiigaioljaa
open Go.ChangeShapes Go.WideShapes Go.ChangeAt Go.RowKit Go.Sort
set_option linter.unusedVariables false
set_option linter.unusedSimpArgs false
set_option maxRecDepth 100000

set_option maxHeartbeats 6400000 in
theorem rcost_any (x y : It) (w : World) (hx : x.t.size ≤ 1000) (hy : y.t.size ≤ 1000) :
    Calls Try.prog 16 #[.agg #[.int .i64 x.k, .string x.t, .int .i64 x.id], .agg #[.int .i64 y.k, .string y.t, .int .i64 y.id]] w fun e w' => e = .returned (.tuple #[.int .i64 (cO x y), .bool (okP x y)]) ∧ Below w.heap.size w w' := by
  obtain ⟨k1, t1, i1⟩ := x
  obtain ⟨k2, t2, i2⟩ := y
  dsimp only at hx hy ⊢
  have hs := fun W => rtsame_any k1 t1 i1 k2 t2 i2 W
  have hk1 := fun W => rkey_any k1 t1 i1 W hx
  have hk2 := fun W => rkey_any k2 t2 i2 W hy
  have hw := fun W => rweight_any k1 t1 i1 W
  have HK1 := Lib.hid hk1; have HK2 := Lib.hid hk2; have HW := Lib.hid hw
  clear hk1 hk2 hw
  have hv1 := (Var3.newT w k1 t1 i1).alloc (.cells #[.int .i64 k2, .string t2, .int .i64 i2] 23)
  have hv2 := Var3.newT (w.alloc (.cells #[.int .i64 k1, .string t1, .int .i64 i1] 23)) k2 t2 i2
  rw [show (w.alloc (.cells #[.int .i64 k1, .string t1, .int .i64 i1] 23)).heap.size = w.heap.size + 1 by simp] at hv2
  have hb0 : Below w.heap.size w ((w.alloc (.cells #[.int .i64 k1, .string t1, .int .i64 i1] 23)).alloc (.cells #[.int .i64 k2, .string t2, .int .i64 i2] 23)) := blw (blw (Below.refl _ _) _) _
  have HX := Lib.hid hv1; have HY := Lib.hid hv2
  clear hv1 hv2 hx hy
  by_cases q : k1 = k2 ∧ t1 = t2
  · have HQ := Lib.hid (show cO ⟨k1, t1, i1⟩ ⟨k2, t2, i2⟩ = 0 by unfold cO cst; rw [if_pos ((sm_iff _ _).2 q)]; split <;> rfl)
    have HP := Lib.hid (show okP ⟨k1, t1, i1⟩ ⟨k2, t2, i2⟩ = true by unfold okP; rw [(sm_iff _ _).2 q]; rfl)
    rw [decide_eq_true q] at hs
    have HS := Lib.hid hs
    clear hs q
    go_enter Try.func16, Try.ntmps16
    go_wp2_with fail
    refine (HS.out _).mono ?_; rintro e w1 ⟨rfl, hb⟩
    have hb1 := BelowOn hb0 hb
    have HX := Lib.hid (HX.out.call hb); have HY := Lib.hid (HY.out.call hb)
    clear hb
    obtain ⟨x0, x1, x2, _⟩ := HX.out
    obtain ⟨y0, y1, y2, _⟩ := HY.out
    go_wp2_with fail
    go_ret2
    exact ⟨by rw [HQ.out, HP.out]; rfl, hb1⟩
  rw [decide_eq_false q] at hs
  have HS := Lib.hid hs
  have hsm : sm ⟨k1, t1, i1⟩ ⟨k2, t2, i2⟩ = false := by cases h : sm ⟨k1, t1, i1⟩ ⟨k2, t2, i2⟩; rfl; exact absurd ((sm_iff _ _).1 h) q
  clear hs
  by_cases e : k1 = k2
  case neg =>
    have HQ := Lib.hid (show cO ⟨k1, t1, i1⟩ ⟨k2, t2, i2⟩ = 0 by unfold cO; rw [if_neg]; intro h; exact e (okP_kind h))
    have HP := Lib.hid (show okP ⟨k1, t1, i1⟩ ⟨k2, t2, i2⟩ = false by cases h : okP ⟨k1, t1, i1⟩ ⟨k2, t2, i2⟩; rfl; exact absurd (okP_kind h) e)
    have e1 : (k1 == k2) = false := by simpa using e
    have e2 : (k1 != k2) = true := by simpa using e
    clear q hsm
    go_enter Try.func16, Try.ntmps16
    go_wp2_with fail
    refine (HS.out _).mono ?_; rintro e w1 ⟨rfl, hb⟩
    have hb1 := BelowOn hb0 hb
    have HX := Lib.hid (HX.out.call hb); have HY := Lib.hid (HY.out.call hb)
    clear hb
    obtain ⟨x0, x1, x2, _⟩ := HX.out
    obtain ⟨y0, y1, y2, _⟩ := HY.out
    go_wp2_with fail
    go_ret2
    exact ⟨by rw [HQ.out, HP.out]; rfl, hb1⟩
  subst e
  by_cases lo : k1 < 5
  · have HP := Lib.hid (show okP ⟨k1, t1, i1⟩ ⟨k1, t2, i2⟩ = false by unfold okP; rw [hsm]; simp; omega)
    have HQ := Lib.hid (show cO ⟨k1, t1, i1⟩ ⟨k1, t2, i2⟩ = 0 by unfold cO; rw [HP.out]; rfl)
    clear q hsm
    go_enter Try.func16, Try.ntmps16
    go_wp2_with fail
    refine (HS.out _).mono ?_; rintro e w1 ⟨rfl, hb⟩
    have hb1 := BelowOn hb0 hb
    have HX := Lib.hid (HX.out.call hb); have HY := Lib.hid (HY.out.call hb)
    clear hb
    obtain ⟨x0, x1, x2, _⟩ := HX.out
    obtain ⟨y0, y1, y2, _⟩ := HY.out
    go_wp2_with fail
    go_ret2
    exact ⟨by rw [HQ.out, HP.out]; rfl, hb1⟩
  by_cases hi : 9 < k1
  · have HP := Lib.hid (show okP ⟨k1, t1, i1⟩ ⟨k1, t2, i2⟩ = false by unfold okP; rw [hsm]; simp; omega)
    have HQ := Lib.hid (show cO ⟨k1, t1, i1⟩ ⟨k1, t2, i2⟩ = 0 by unfold cO; rw [HP.out]; rfl)
    clear q hsm
    go_enter Try.func16, Try.ntmps16
    go_wp2_with fail
    refine (HS.out _).mono ?_; rintro e w1 ⟨rfl, hb⟩
    have hb1 := BelowOn hb0 hb
    have HX := Lib.hid (HX.out.call hb); have HY := Lib.hid (HY.out.call hb)
    clear hb
    obtain ⟨x0, x1, x2, _⟩ := HX.out
    obtain ⟨y0, y1, y2, _⟩ := HY.out
    go_wp2_with fail
    go_ret2
    exact ⟨by rw [HQ.out, HP.out]; rfl, hb1⟩
  have HP := Lib.hid (show okP ⟨k1, t1, i1⟩ ⟨k1, t2, i2⟩ = true by unfold okP; simp; exact .inr ⟨by omega, by omega⟩)
  by_cases k6 : k1 = 6
  · have e6 : (k1 == 6) = true := by simpa using k6
    by_cases kk : keyT k1 t1 = keyT k1 t2
    · have HQ := Lib.hid (show cO ⟨k1, t1, i1⟩ ⟨k1, t2, i2⟩ = 1 by unfold cO cst; rw [HP.out, hsm]; simp [k6, k6 ▸ kk])
      have hk1 := HK1.out; rw [kk] at hk1; have HK3 := Lib.hid hk1; clear hk1
      clear q hsm kk k6
      go_enter Try.func16, Try.ntmps16
      go_wp2_with fail
      refine (HS.out _).mono ?_; rintro e w1 ⟨rfl, hb⟩
      have hb1 := BelowOn hb0 hb
      have HX := Lib.hid (HX.out.call hb); have HY := Lib.hid (HY.out.call hb)
      clear hb
      obtain ⟨x0, x1, x2, _⟩ := HX.out
      obtain ⟨y0, y1, y2, _⟩ := HY.out
      go_wp2_with fail
      have rx0 := cell_regrown x0
      have rx1 := cell_regrown x1
      have rx2 := cell_regrown x2
      have ry0 := cell_regrown y0
      have ry1 := cell_regrown y1
      have ry2 := cell_regrown y2
      have c1 := fun d os => Calls.regrown_of (HK3.out (grow (redrawn w1 d) os))
      have c2 := fun d os => Calls.regrown_of (HK2.out (grow (redrawn w1 d) os))
      refine wp_region_quiet_below (by kernel_rfl) (by kernel_rfl) ?_
      iterate 6 (go_big_quiet_step (exact c1 _ _))
      iterate 2 (go_big_quiet_step (exact c2 _ _))
      repeat (go_big_quiet_step (fail))
      refine wpQuiet_nil ?_
      intro _ hw'
      obtain ⟨⟨dq, osq⟩, hw''⟩ := hw'
      subst hw''
      have hb := below_regrown w1 dq osq
      generalize grow (redrawn w1 dq) osq = w2 at *
      clear rx0 rx1 rx2 ry0 ry1 ry2 c1 c2
      clear x0 x1 x2 y0 y1 y2
      have hb2 := BelowOn hb1 hb
      have HX := Lib.hid (HX.out.call hb); have HY := Lib.hid (HY.out.call hb)
      clear hb
      obtain ⟨x0, x1, x2, _⟩ := HX.out
      obtain ⟨y0, y1, y2, _⟩ := HY.out
      go_wp2_with fail
      go_ret2
      exact ⟨by rw [HQ.out, HP.out]; rfl, hb2⟩
    · have HQ := Lib.hid (show cO ⟨k1, t1, i1⟩ ⟨k1, t2, i2⟩ = wtT k1 by unfold cO cst; rw [HP.out, hsm]; simp [k6, k6 ▸ kk])
      have kr := strl_ne kk
      have kr2 := str_ne kk
      clear q hsm kk k6
      go_enter Try.func16, Try.ntmps16
      go_wp2_with fail
      refine (HS.out _).mono ?_; rintro e w1 ⟨rfl, hb⟩
      have hb1 := BelowOn hb0 hb
      have HX := Lib.hid (HX.out.call hb); have HY := Lib.hid (HY.out.call hb)
      clear hb
      obtain ⟨x0, x1, x2, _⟩ := HX.out
      obtain ⟨y0, y1, y2, _⟩ := HY.out
      go_wp2_with fail
      have rx0 := cell_regrown x0
      have rx1 := cell_regrown x1
      have rx2 := cell_regrown x2
      have ry0 := cell_regrown y0
      have ry1 := cell_regrown y1
      have ry2 := cell_regrown y2
      have c1 := fun d os => Calls.regrown_of (HK1.out (grow (redrawn w1 d) os))
      have c2 := fun d os => Calls.regrown_of (HK2.out (grow (redrawn w1 d) os))
      refine wp_region_quiet_below (by kernel_rfl) (by kernel_rfl) ?_
      iterate 6 (go_big_quiet_step (exact c1 _ _))
      iterate 2 (go_big_quiet_step (exact c2 _ _))
      repeat (go_big_quiet_step (fail))
      refine wpQuiet_nil ?_
      intro _ hw'
      obtain ⟨⟨dq, osq⟩, hw''⟩ := hw'
      subst hw''
      have hb := below_regrown w1 dq osq
      generalize grow (redrawn w1 dq) osq = w2 at *
      clear rx0 rx1 rx2 ry0 ry1 ry2 c1 c2
      clear x0 x1 x2 y0 y1 y2
      have hb2 := BelowOn hb1 hb
      have HX := Lib.hid (HX.out.call hb); have HY := Lib.hid (HY.out.call hb)
      clear hb
      obtain ⟨x0, x1, x2, _⟩ := HX.out
      obtain ⟨y0, y1, y2, _⟩ := HY.out
      go_wp2_with fail
      refine (HW.out _).mono ?_; rintro e w3 ⟨rfl, hb⟩
      clear x0 x1 x2 y0 y1 y2
      have hb3 := BelowOn hb2 hb
      have HX := Lib.hid (HX.out.call hb); have HY := Lib.hid (HY.out.call hb)
      clear hb
      obtain ⟨x0, x1, x2, _⟩ := HX.out
      obtain ⟨y0, y1, y2, _⟩ := HY.out
      go_wp2_with fail
      go_ret2
      exact ⟨by rw [HQ.out, HP.out]; rfl, hb3⟩
  · have e6 : (k1 == 6) = false := by simpa using k6
    have HQ := Lib.hid (show cO ⟨k1, t1, i1⟩ ⟨k1, t2, i2⟩ = wtT k1 by unfold cO cst; rw [HP.out, hsm]; simp [k6])
    clear q hsm k6
    go_enter Try.func16, Try.ntmps16
    go_wp2_with fail
    refine (HS.out _).mono ?_; rintro e w1 ⟨rfl, hb⟩
    have hb1 := BelowOn hb0 hb
    have HX := Lib.hid (HX.out.call hb); have HY := Lib.hid (HY.out.call hb)
    clear hb
    obtain ⟨x0, x1, x2, _⟩ := HX.out
    obtain ⟨y0, y1, y2, _⟩ := HY.out
    go_wp2_with fail
    have rx0 := cell_regrown x0
    have rx1 := cell_regrown x1
    have rx2 := cell_regrown x2
    have ry0 := cell_regrown y0
    have ry1 := cell_regrown y1
    have ry2 := cell_regrown y2
    refine wp_region_quiet_below (by kernel_rfl) (by kernel_rfl) ?_
    repeat (go_big_quiet_step (fail))
    refine wpQuiet_nil ?_
    intro _ hw'
    obtain ⟨⟨dq, osq⟩, hw''⟩ := hw'
    subst hw''
    have hb := below_regrown w1 dq osq
    generalize grow (redrawn w1 dq) osq = w2 at *
    clear rx0 rx1 rx2 ry0 ry1 ry2 
    clear x0 x1 x2 y0 y1 y2
    have hb2 := BelowOn hb1 hb
    have HX := Lib.hid (HX.out.call hb); have HY := Lib.hid (HY.out.call hb)
    clear hb
    obtain ⟨x0, x1, x2, _⟩ := HX.out
    obtain ⟨y0, y1, y2, _⟩ := HY.out
    go_wp2_with fail
    refine (HW.out _).mono ?_; rintro e w3 ⟨rfl, hb⟩
    clear x0 x1 x2 y0 y1 y2
    have hb3 := BelowOn hb2 hb
    have HX := Lib.hid (HX.out.call hb); have HY := Lib.hid (HY.out.call hb)
    clear hb
    obtain ⟨x0, x1, x2, _⟩ := HX.out
    obtain ⟨y0, y1, y2, _⟩ := HY.out
    go_wp2_with fail
    go_ret2
    exact ⟨by rw [HQ.out, HP.out]; rfl, hb3⟩
end Go.Proofs.Ytjabbiigaioljaa
namespace Go.Proofs.Ytjabbiigaioljaa
open Go.ChangeShapes Go.WideShapes Go.ChangeAt Go.RowKit Go.Sort
set_option linter.unusedVariables false
set_option linter.unusedSimpArgs false
set_option maxRecDepth 100000

theorem its_row (W : World) (p : Option Addr) (l : List It) (h : Its W p l) (k : Nat) (hk : k ≤ l.length) (q : Option Addr) (hq : ∀ a, p = some a → k < l.length → q = some (a.add (k * 3))) : Its W q (l.drop k) := fun h0 => by
  have hk2 : k < l.length := by simp at h0; omega
  obtain ⟨a, ha, hlt, hc⟩ := h (by omega)
  refine ⟨a.add (k * 3), hq a ha hk2, by rw [add_block]; exact hlt, fun i hi => ?_⟩
  have hi2 : k + i < l.length := by simp at hi; omega
  obtain ⟨c0, c1, c2⟩ := hc (k + i) hi2
  have add_add : ∀ n m : Nat, (a.add n).add m = a.add (n + m) := fun n m => by
    unfold Addr.add
    by_cases h1 : n = 0
    · rw [if_pos h1, h1]; simp
    · rw [if_neg h1]
      by_cases h2 : m = 0
      · rw [if_pos h2, h2, if_neg (by omega)]; rfl
      · rw [if_neg h2, if_neg (by omega)]; simp; omega
  rw [List.getElem_drop]
  rw [add_add, add_add, add_add, show k * 3 + i * 3 = (k + i) * 3 by omega, show k * 3 + (i * 3 + 1) = (k + i) * 3 + 1 by omega, show k * 3 + (i * 3 + 2) = (k + i) * 3 + 2 by omega]
  exact ⟨c0, c1, c2⟩
theorem step_of_wp {P : Program} {ops : Array Oper} {o : Oper} {a : Act} {w : World} {K : Act → World → Prop} {Q : Exit → Act → World → Prop} {E : Prop} (hgd : o.guard = none) (h : Oper.wp P o a w K Q) : if Region.wanted o (yielded ops a.tmps) = true then Oper.wp P o a w K Q else E := by
  have hw : Region.wanted o (yielded ops a.tmps) = true := by simp [Region.wanted, hgd]
  rw [if_pos hw]; exact h
def Held (b : Nat) (t : It) (W : World) : Prop := W.cell? ⟨b, 0, none⟩ = some (.int .i64 t.k) ∧ W.cell? ⟨b, 1, none⟩ = some (.string t.t) ∧ W.cell? ⟨b, 2, none⟩ = some (.int .i64 t.id)
theorem held_call {b : Nat} {t : It} {W W' : World} (h : W.cell? ⟨b, 0, none⟩ = some (.int .i64 t.k) ∧ W.cell? ⟨b, 1, none⟩ = some (.string t.t) ∧ W.cell? ⟨b, 2, none⟩ = some (.int .i64 t.id)) (hb : Below W.heap.size W W') : W'.cell? ⟨b, 0, none⟩ = some (.int .i64 t.k) ∧ W'.cell? ⟨b, 1, none⟩ = some (.string t.t) ∧ W'.cell? ⟨b, 2, none⟩ = some (.int .i64 t.id) := by
  have hl := block_lt_of_cell h.1
  exact ⟨by rw [hb.cell (p := ⟨b, 0, none⟩) hl]; exact h.1, by rw [hb.cell (p := ⟨b, 1, none⟩) hl]; exact h.2.1, by rw [hb.cell (p := ⟨b, 2, none⟩) hl]; exact h.2.2⟩
theorem held_grow {b g : Nat} {t : It} {W W' : World} (h : W.cell? ⟨b, 0, none⟩ = some (.int .i64 t.k) ∧ W.cell? ⟨b, 1, none⟩ = some (.string t.t) ∧ W.cell? ⟨b, 2, none⟩ = some (.int .i64 t.id)) (hg : W.grownBy W' (some g)) (hne : b ≠ g) : W'.cell? ⟨b, 0, none⟩ = some (.int .i64 t.k) ∧ W'.cell? ⟨b, 1, none⟩ = some (.string t.t) ∧ W'.cell? ⟨b, 2, none⟩ = some (.int .i64 t.id) := by
  have hb : W'.heap[b]? = W.heap[b]? := hg.block b (block_lt_of_cell h.1) (fun e => hne (by injection e))
  exact ⟨by rw [World.cell?_of_block (w := W) (a := ⟨b, 0, none⟩) hb]; exact h.1, by rw [World.cell?_of_block (w := W) (a := ⟨b, 1, none⟩) hb]; exact h.2.1, by rw [World.cell?_of_block (w := W) (a := ⟨b, 2, none⟩) hb]; exact h.2.2⟩
theorem own_lit {W : World} {g base : Nat} {cur : Array Value} {L : List It} (h : W.heap[g]? = some (.cells cur 23 (0, 0))) (hb : base ≤ g) (hc : cur.toList = icells L) (hl : L.length ≤ maxLen) : OwnT base L (.slice (some ⟨g, 0, none⟩) L.length L.length) W := by
  have e : cellsOf ienc L = icells L := rfl
  have hs : cur.size = L.length * 3 := by have := congrArg List.length hc; rw [icells_length] at this; simpa using this
  refine ⟨by rw [cellsOf_len eT], .inr ⟨g, L.length, cur, rfl, hb, h, Nat.le_refl _, hl, hs, ?_⟩⟩
  rw [hc, e, List.take_of_length_le (by rw [icells_length]; omega)]
theorem its_takeD {W : World} {p : Option Addr} {l : List It} (h : Its W p l) (k : Nat) : Its W p (l.take k) := fun h0 => by
  have h1 : 0 < l.length := by simp at h0; omega
  obtain ⟨a, ha, hlt, hc⟩ := h h1
  refine ⟨a, ha, hlt, fun i hi => ?_⟩
  rw [List.getElem_take]; exact hc i (by simp at hi; omega)
set_option maxHeartbeats 6400000 in
theorem with_any (p : Option Addr) (c : Nat) (l : List It) (k : Nat) (t : It) (w : World) (hR : Its w p l) (hc : l.length ≤ c) (hm : c ≤ maxLen) (hl : l.length ≤ 1000) (hk : k ≤ l.length) :
    Calls Try.prog 30 #[.slice p l.length c, .int .i64 k, .agg #[.int .i64 t.k, .string t.t, .int .i64 t.id]] w (EndT (l.take k ++ t :: l.drop k) w) := by
  unfold maxLen at hm
  have hv := Var3.newT w t.k t.t t.id
  have hb0 : Below w.heap.size w (w.alloc (.cells #[.int .i64 t.k, .string t.t, .int .i64 t.id] 23)) := blw (Below.refl _ _) _
  have hI := hR.call hb0
  have q0 : (0 : Int) ≤ (k : Int) := by omega
  have q1 : (k : Int) ≤ (l.length : Int) := by omega
  have q2 : (k : Int) ≤ (c : Int) := by omega
  go_enter Try.func30, Try.ntmps30
  go_wp2_with fail
  generalize (w.alloc (.cells #[.int .i64 t.k, .string t.t, .int .i64 t.id] 23)) = w1 at *
  obtain ⟨v0, v1, v2, vl⟩ := hv
  refine wp_region_held_drew (S := fun W => W.cell? ⟨w.heap.size, 0, none⟩ = some (.int .i64 t.k) ∧ W.cell? ⟨w.heap.size, 1, none⟩ = some (.string t.t) ∧ W.cell? ⟨w.heap.size, 2, none⟩ = some (.int .i64 t.id)) (by kernel_rfl) ⟨v0, v1, v2⟩ (fun hHeld => ?_)
  refine wpAnyH_take (i := 0) (v := ?_) rfl (by kernel_rfl) (by kernel_rfl) (by kernel_rfl) (fun _ _ _ h => h) (Or.inl ⟨by rfl, ?_⟩) hHeld ?_
  rotate_left
  · (intro w hSw; obtain ⟨c0, c1, c2⟩ := hSw; go_simp; try with_reducible rfl)
  try simp only [Act.put, List.getElem_toArray, List.getElem_cons_zero, List.getElem_cons_succ, List.setIfInBounds_toArray, List.set_cons_zero, List.set_cons_succ]
  refine wpAnyH_take (i := 2) (v := ?_) rfl (by kernel_rfl) (by kernel_rfl) (by kernel_rfl) (fun _ _ _ h => h) (Or.inl ⟨by rfl, ?_⟩) hHeld ?_
  rotate_left
  · (intro w hSw; go_simp; try with_reducible rfl)
  try simp only [Act.put, List.getElem_toArray, List.getElem_cons_zero, List.getElem_cons_succ, List.setIfInBounds_toArray, List.set_cons_zero, List.set_cons_succ]
  refine wpAnyH_take (i := 3) (v := ?_) rfl (by kernel_rfl) (by kernel_rfl) (by kernel_rfl) (fun _ _ _ h => h) (Or.inl ⟨by rfl, ?_⟩) hHeld ?_
  rotate_left
  · (intro w hSw; go_simp; try with_reducible rfl)
  try simp only [Act.put, List.getElem_toArray, List.getElem_cons_zero, List.getElem_cons_succ, List.setIfInBounds_toArray, List.set_cons_zero, List.set_cons_succ]
  refine wpAnyH_take (i := 4) (v := ?_) rfl (by kernel_rfl) (by kernel_rfl) (by kernel_rfl) (fun _ _ _ h => h) (Or.inl ⟨by rfl, ?_⟩) hHeld ?_
  rotate_left
  · (intro w hSw; go_simp; try with_reducible rfl)
  try simp only [Act.put, List.getElem_toArray, List.getElem_cons_zero, List.getElem_cons_succ, List.setIfInBounds_toArray, List.set_cons_zero, List.set_cons_succ]
  have hBd : Below w.heap.size w w1.drew := hb0.drew
  have hId : Its w1.drew p l := hI
  clear hI hb0 hR v0 v1 v2
  have vl2 : w.heap.size < w1.drew.heap.size := vl
  generalize w1.drew = w2 at *
  refine wpAnyH_ready (rs := [1]) (by kernel_rfl) (by simp) ?_
  refine AllReadyH.cons rfl (fun K hK => ?_) AllReadyH.nil
  have hone := heap_alloc_new w2 (.cells (icells [t]).toArray 23)
  have hb3 := (Below.refl w2.heap.size w2).alloc (Nat.le_refl _) (.cells (icells [t]).toArray 23)
  have hs3 : (w2.alloc (.cells (icells [t]).toArray 23)).heap.size = w2.heap.size + 1 := by simp
  have hHeld2 := held_call hHeld hb3
  have hHX := Lib.hid (And.intro hone (And.intro hb3 hs3))
  clear hone hb3 hs3
  go_simp
  refine hK.out _ _ hHeld2 (fun hHeld => ?_)
  clear hK K hHeld2
  try simp only [Act.put, List.getElem_toArray, List.getElem_cons_zero, List.getElem_cons_succ, List.setIfInBounds_toArray, List.set_cons_zero, List.set_cons_succ]
  obtain ⟨hone, hb3, hs3⟩ := hHX.out
  have hB3 := BelowOn hBd hb3
  have hI3 := hId.call hb3
  have hcells : (w2.alloc (.cells #[.int .i64 t.k, .string t.t, .int .i64 t.id] 23)) = (w2.alloc (.cells (icells [t]).toArray 23)) := rfl
  rw [hcells]
  rw [hcells] at hHeld
  clear hcells hHX
  have hown : OwnT w.heap.size [t] (.slice (some ⟨w2.heap.size, 0, none⟩) 1 1) _ := own_lit (L := [t]) hone hBd.size (by simp) (by unfold maxLen; simp)
  generalize (w2.alloc (.cells (icells [t]).toArray 23)) = w3 at *
  have hdr := its_row w3 p l hI3 k hk (if c = k then p else Option.map (fun x => x.add (k * 3)) p) (fun a ha hlt => by rw [if_neg (by omega), ha]; rfl)
  obtain ⟨v', w4, hrun, hown4, hg4⟩ := append_toks w3 26 w.heap.size [t] (l.drop k) _ _ (c - k) hown hdr hB3.size (by simp; omega)
  rw [List.length_drop] at hrun
  replace hg4 : w3.grownBy w4 (some w2.heap.size) := hg4
  refine wpAnyH_ready (rs := [5]) (by kernel_rfl) (by simp) ?_
  refine AllReadyH.cons rfl (fun K hK => ?_) AllReadyH.nil
  have hB4 : Below w.heap.size w w4 := hB3.grown hg4 hB3.size (fun j hj => by injection hj with hj; have := hBd.size; omega)
  have hI4 : Its w4 p l := fun h0 => (Its.other (M := w2.heap.size) hI3 hg4 (fun a ha => by
    obtain ⟨b, e, hlt, _⟩ := hId h0
    have : a = b := by rw [ha] at e; injection e
    rw [this]; omega)) h0
  have hHeld4 := held_grow hHeld hg4 (by omega)
  have HX := Lib.hid (And.intro hown4 (And.intro hB4 hI4))
  clear hown hdr hown4 hB3 hI3 hB4 hI4 hg4 hone hb3 hs3 hId hBd
  refine step_of_wp rfl ?_
  refine Lib.wp_append_run w3 _ _ 26 26 rfl _ _ rfl rfl v' w4 hrun ?_
  refine hK.out _ _ hHeld4 (fun hHeld => ?_)
  clear hK K hHeld4
  try simp only [Act.put, List.getElem_toArray, List.getElem_cons_zero, List.getElem_cons_succ, List.setIfInBounds_toArray, List.set_cons_zero, List.set_cons_succ]
  refine wpAnyH_take (i := 6) (v := ?_) rfl (by kernel_rfl) (by kernel_rfl) (by kernel_rfl) (fun _ _ _ h => h) (Or.inl ⟨by rfl, ?_⟩) hHeld ?_
  rotate_left
  · (intro w hSw; go_simp; try with_reducible rfl)
  try simp only [Act.put, List.getElem_toArray, List.getElem_cons_zero, List.getElem_cons_succ, List.setIfInBounds_toArray, List.set_cons_zero, List.set_cons_succ]
  refine wpAnyH_done (by kernel_rfl) ?_ _
  obtain ⟨hown4, hB4, hI4⟩ := HX.out
  obtain ⟨p3, c3, rfl, h31, h32, h3⟩ := OwnT.its hown4
  have hlen : ([t] ++ l.drop k).length = 1 + (l.length - k) := by simp; omega
  generalize hTT : [t] ++ l.drop k = T at *
  have HTT := Lib.hid hTT; have HL := Lib.hid hlen; have HB4 := Lib.hid hB4
  clear hTT hlen hown4 HX hHeld hrun hB4
  have hl1 : T.length ≤ 1001 := by have := HL.out; omega
  have tok : True := trivial
  have ht := its_takeD hI4 k
  have hkl := Lib.hid (show k = (l.take k).length by simp; omega)
  have hS := Acc.start (e := 23) (size := 3) (enc := ienc) w4
  generalize l.take k = T0 at *
  have hl0 : T0.length ≤ 1000 := by have := hkl.out; omega
  generalize (if c = k then p else Option.map (fun x => x.add (k * 3)) p) = pz at *
  go_upto_region 3 with (first
    | (at_builtin; have _t := tok; refine wpl_catT rfl _ _ rfl w4 [] T0 _ rfl hS p _ c rfl hkl.out ht (by simp; omega) ?_; intro v1 u1 hA1; rw [List.nil_append] at hA1; clear tok)
    | (at_builtin; refine wpl_catT rfl _ _ rfl w4 T0 T v1 rfl hA1 p3 _ c3 rfl rfl (h3.call hA1.below) (by omega) ?_; intro v2 u2 hA2; clear hA1))
  go_ret
  refine ⟨_, rfl, BelowOn HB4.out hA2.below, ?_⟩
  have e : T0 ++ t :: l.drop k = T0 ++ T := by rw [← HTT.out]; rfl
  rw [e]
  exact ownsRow_base hA2.own HB4.out.size
end Go.Proofs.Ytjabbiigaioljaa
namespace Go.Proofs.Ytjabbiigaioljaa
open Go.ChangeShapes Go.WideShapes Go.ChangeAt Go.RowKit
set_option linter.unusedVariables false
set_option linter.unusedSimpArgs false
set_option maxRecDepth 100000

inductive Pth : List Mv → List It → List It → Nat → Prop
  | nil : Pth [] [] [] 0
  | X (x : It) {p : List Mv} {a b : List It} {n : Nat} : Pth p a b n → Pth (.X :: p) (x :: a) b (stp x + n)
  | I (y : It) {p : List Mv} {a b : List It} {n : Nat} : Pth p a b n → Pth (.I :: p) a (y :: b) (stp y + n)
  | P {x y : It} {p : List Mv} {a b : List It} {n : Nat} : okP x y = true → Pth p a b n → Pth (.P :: p) (x :: a) (y :: b) (cst x y + n)
theorem Pth.al {p : List Mv} {a b : List It} {n : Nat} (h : Pth p a b n) : Al a b n := by
  induction h with
  | nil => exact .nil
  | X x _ ih => exact .del x ih
  | I y _ ih => exact .ins y ih
  | P hok _ ih => exact .pair hok ih
theorem Al.app {a1 b1 a2 b2 : List It} {n m : Nat} (h : Al a1 b1 n) (k : Al a2 b2 m) : Al (a1 ++ a2) (b1 ++ b2) (n + m) := by
  induction h with
  | nil => rw [Nat.zero_add]; exact k
  | del x _ ih => rw [Nat.add_assoc]; exact .del x ih
  | ins y _ ih => rw [Nat.add_assoc]; exact .ins y ih
  | pair hok _ ih => rw [Nat.add_assoc]; exact .pair hok ih
theorem dst_app (a1 b1 a2 b2 : List It) : dst (a1 ++ a2) (b1 ++ b2) ≤ dst a1 b1 + dst a2 b2 := dst_al ((al_dst a1 b1).app (al_dst a2 b2))
theorem mv_ok {x y : It} {a b : List It} (h : mv x a y b = .P) : okP x y = true ∧ cst x y + dst a b = dst (x :: a) (y :: b) := by
  unfold mv at h
  split at h
  · assumption
  · split at h <;> cases h
theorem mv_x {x y : It} {a b : List It} (h : mv x a y b = .X) : ¬ (okP x y = true ∧ cst x y + dst a b = dst (x :: a) (y :: b)) ∧ stp x + dst a (y :: b) = dst (x :: a) (y :: b) := by
  unfold mv at h
  split at h
  · cases h
  · rename_i h1
    split at h
    · rename_i h2; exact ⟨h1, h2⟩
    · cases h
theorem mv_i {x y : It} {a b : List It} (h : mv x a y b = .I) : (¬ (okP x y = true ∧ cst x y + dst a b = dst (x :: a) (y :: b)) ∧ ¬ stp x + dst a (y :: b) = dst (x :: a) (y :: b)) ∧ stp y + dst (x :: a) b = dst (x :: a) (y :: b) := by
  unfold mv at h
  split at h
  · cases h
  · rename_i h1
    split at h
    · cases h
    · rename_i h2
      refine ⟨⟨h1, h2⟩, ?_⟩
      cases hq : okP x y with
      | false => have := dst_no a b hq; omega
      | true =>
        have := dst_ok a b hq
        have h3 : ¬ cst x y + dst a b = dst (x :: a) (y :: b) := fun c => h1 ⟨hq, c⟩
        omega
theorem can_nil (b : List It) : can [] b = b.map fun _ => .I := rfl
theorem can_end (x : It) (a : List It) : can (x :: a) [] = .X :: can a [] := rfl
theorem can_cons (x y : It) (a b : List It) : can (x :: a) (y :: b) = match mv x a y b with | .P => .P :: can a b | .X => .X :: can a (y :: b) | .I => .I :: can (x :: a) b := rfl
theorem pth_ins (b : List It) : Pth (can [] b) [] b (stL b) := by
  induction b with
  | nil => exact .nil
  | cons y b ih => exact .I y ih
theorem can_pth (a : List It) : ∀ b, Pth (can a b) a b (dst a b) := by
  induction a with
  | nil => exact pth_ins
  | cons x a ih =>
    intro b
    induction b with
    | nil => exact .X x (ih [])
    | cons y b ihb =>
      rw [can_cons]
      cases h : mv x a y b with
      | P => have e := mv_ok h; rw [← e.2]; exact .P e.1 (ih b)
      | X => have e := mv_x h; rw [← e.2]; exact .X x (ih (y :: b))
      | I => have e := mv_i h; rw [← e.2]; exact .I y ihb
theorem pth_split {p1 : List Mv} {a1 b1 : List It} {n1 : Nat} (h : Pth p1 a1 b1 n1) : ∀ {p2 : List Mv} {a2 b2 : List It} {N : Nat}, Pth (p1 ++ p2) (a1 ++ a2) (b1 ++ b2) N → ∃ n2, Pth p2 a2 b2 n2 ∧ N = n1 + n2 := by
  induction h with
  | nil => intro p2 a2 b2 N k; exact ⟨N, k, by omega⟩
  | @X x p a b n h ih =>
    intro p2 a2 b2 N k
    generalize hp : Mv.X :: p ++ p2 = pp at k
    generalize ha : x :: a ++ a2 = aa at k
    generalize hbb : b ++ b2 = bb at k
    cases k with
    | X z k => injection hp with _ hp; injection ha with e1 e2; subst e1; subst hp; subst e2; subst hbb; obtain ⟨n2, k2, e⟩ := ih k; exact ⟨n2, k2, by omega⟩
    | nil => cases hp
    | I => cases hp
    | P => cases hp
  | @I y p a b n h ih =>
    intro p2 a2 b2 N k
    generalize hp : Mv.I :: p ++ p2 = pp at k
    generalize hb : y :: b ++ b2 = bb at k
    generalize haa : a ++ a2 = aa at k
    cases k with
    | I z k => injection hp with _ hp; injection hb with e1 e2; subst e1; subst hp; subst e2; subst haa; obtain ⟨n2, k2, e⟩ := ih k; exact ⟨n2, k2, by omega⟩
    | nil => cases hp
    | X => cases hp
    | P => cases hp
  | @P x y p a b n hok h ih =>
    intro p2 a2 b2 N k
    generalize hp : Mv.P :: p ++ p2 = pp at k
    generalize ha : x :: a ++ a2 = aa at k
    generalize hb : y :: b ++ b2 = bb at k
    cases k with
    | P hok2 k => injection hp with _ hp; injection ha with e1 e2; subst e1; subst e2; injection hb with e1 e2; subst e1; subst hp; subst e2; obtain ⟨n2, k2, e⟩ := ih k; exact ⟨n2, k2, by omega⟩
    | nil => cases hp
    | X => cases hp
    | I => cases hp
theorem pth_unique {p : List Mv} {a b : List It} {n m : Nat} (h : Pth p a b n) (k : Pth p a b m) : n = m := by
  have k2 : Pth (p ++ []) (a ++ []) (b ++ []) m := by simpa using k
  obtain ⟨n2, k3, e⟩ := pth_split h k2
  cases k3; omega
/-- A beginning of a canonical script is canonical for what it treats, and so is the rest. -/
theorem can_pre {p1 : List Mv} {a1 b1 : List It} {n1 : Nat} (h : Pth p1 a1 b1 n1) : ∀ (p2 : List Mv) (a2 b2 : List It), can (a1 ++ a2) (b1 ++ b2) = p1 ++ p2 → can a1 b1 = p1 ∧ p2 = can a2 b2 ∧ n1 = dst a1 b1 ∧ dst (a1 ++ a2) (b1 ++ b2) = dst a1 b1 + dst a2 b2 := by
  induction h with
  | nil => intro p2 a2 b2 e; exact ⟨rfl, e.symm, rfl, by show dst a2 b2 = 0 + dst a2 b2; omega⟩
  | @X x p a b n h ih =>
    intro p2 a2 b2 e
    have hT := can_pth (x :: a ++ a2) (b ++ b2)
    rw [e] at hT
    have key : can (a ++ a2) (b ++ b2) = p ++ p2 ∧ ∀ y b', b = y :: b' → mv x (a ++ a2) y (b' ++ b2) = .X := by
      cases hb : b ++ b2 with
      | nil =>
        rw [hb] at e
        rw [List.cons_append, can_end] at e
        injection e with _ e
        exact ⟨e, fun y b' hh => by rw [hh] at hb; cases hb⟩
      | cons y B =>
        rw [hb] at e
        rw [List.cons_append, can_cons] at e
        cases hm : mv x (a ++ a2) y B with
        | P => rw [hm] at e; cases e
        | I => rw [hm] at e; cases e
        | X =>
          rw [hm] at e
          injection e with _ e
          refine ⟨e, fun y' b' hh => ?_⟩
          rw [hh] at hb; injection hb with e1 e2; subst e1; subst e2; exact hm
    obtain ⟨i1, i2, i3, i4⟩ := ih p2 a2 b2 key.1
    obtain ⟨n2, k2, eN⟩ := pth_split (Pth.X x h) hT
    rw [i2] at k2
    have e2 := pth_unique k2 (can_pth a2 b2)
    have s1 := dst_app (x :: a) b a2 b2
    have s2 := dst_al (Pth.X x h).al
    have hn : stp x + n = dst (x :: a) b := by omega
    refine ⟨?_, i2, hn, by omega⟩
    cases b with
    | nil => rw [can_end, i1]
    | cons y b' =>
      have hx := mv_x (key.2 y b' rfl)
      rw [can_cons]
      have : mv x a y b' = .X := by
        unfold mv
        rw [if_neg, if_pos]
        · omega
        · rintro ⟨c1, c2⟩
          have s3 := dst_app a b' a2 b2
          have s4 := dst_pair c1 (a ++ a2) (b' ++ b2)
          refine hx.1 ⟨c1, ?_⟩
          have hTT : dst (x :: (a ++ a2)) (y :: (b' ++ b2)) = dst (x :: a ++ a2) (y :: b' ++ b2) := rfl
          omega
      rw [this, i1]
  | @I y p a b n h ih =>
    intro p2 a2 b2 e
    have hT := can_pth (a ++ a2) (y :: b ++ b2)
    rw [e] at hT
    have key : can (a ++ a2) (b ++ b2) = p ++ p2 ∧ ∀ x a', a = x :: a' → mv x (a' ++ a2) y (b ++ b2) = .I := by
      cases hb : a ++ a2 with
      | nil =>
        rw [hb] at e
        rw [List.cons_append, can_nil, List.map_cons] at e
        injection e with _ e
        exact ⟨e, fun y b' hh => by rw [hh] at hb; cases hb⟩
      | cons x A =>
        rw [hb] at e
        rw [List.cons_append, can_cons] at e
        cases hm : mv x A y (b ++ b2) with
        | P => rw [hm] at e; cases e
        | X => rw [hm] at e; cases e
        | I =>
          rw [hm] at e
          injection e with _ e
          refine ⟨e, fun x' a' hh => ?_⟩
          rw [hh] at hb; injection hb with e1 e2; subst e1; subst e2; exact hm
    obtain ⟨i1, i2, i3, i4⟩ := ih p2 a2 b2 key.1
    obtain ⟨n2, k2, eN⟩ := pth_split (Pth.I y h) hT
    rw [i2] at k2
    have e2 := pth_unique k2 (can_pth a2 b2)
    have s1 := dst_app a (y :: b) a2 b2
    have s2 := dst_al (Pth.I y h).al
    have hn : stp y + n = dst a (y :: b) := by omega
    refine ⟨?_, i2, hn, by omega⟩
    cases a with
    | nil => rw [can_nil, List.map_cons]; rw [can_nil] at i1; rw [i1]
    | cons x a' =>
      have hx := mv_i (key.2 x a' rfl)
      rw [can_cons]
      have hTT : dst (x :: (a' ++ a2)) (y :: (b ++ b2)) = dst (x :: a' ++ a2) (y :: b ++ b2) := rfl
      have : mv x a' y b = .I := by
        unfold mv
        rw [if_neg, if_neg]
        · intro c
          have s3 := dst_app a' (y :: b) a2 b2
          have s4 := dst_del x (a' ++ a2) (y :: (b ++ b2))
          have s5 : dst (a' ++ a2) (y :: b ++ b2) = dst (a' ++ a2) (y :: (b ++ b2)) := rfl
          refine hx.1.2 ?_
          omega
        · rintro ⟨c1, c2⟩
          have s3 := dst_app a' b a2 b2
          have s4 := dst_pair c1 (a' ++ a2) (b ++ b2)
          refine hx.1.1 ⟨c1, ?_⟩
          omega
      rw [this, i1]
  | @P x y p a b n hok h ih =>
    intro p2 a2 b2 e
    have hT := can_pth (x :: a ++ a2) (y :: b ++ b2)
    rw [e] at hT
    have key : can (a ++ a2) (b ++ b2) = p ++ p2 := by
      rw [List.cons_append, List.cons_append, can_cons] at e
      cases hm : mv x (a ++ a2) y (b ++ b2) with
      | X => rw [hm] at e; cases e
      | I => rw [hm] at e; cases e
      | P => rw [hm] at e; injection e with _ e
    obtain ⟨i1, i2, i3, i4⟩ := ih p2 a2 b2 key
    obtain ⟨n2, k2, eN⟩ := pth_split (Pth.P hok h) hT
    rw [i2] at k2
    have e2 := pth_unique k2 (can_pth a2 b2)
    have s1 := dst_app (x :: a) (y :: b) a2 b2
    have s2 := dst_al (Pth.P hok h).al
    have hn : cst x y + n = dst (x :: a) (y :: b) := by omega
    refine ⟨?_, i2, hn, by omega⟩
    rw [can_cons]
    have : mv x a y b = .P := by
      unfold mv; rw [if_pos ⟨hok, by omega⟩]
    rw [this, i1]
theorem crs_pth (m : Nat) : ∀ (a b : List It), m ≤ a.length → crs m a b ≤ b.length ∧ ∃ p1 p2 n1, can a b = p1 ++ p2 ∧ Pth p1 (a.take m) (b.take (crs m a b)) n1 := by
  induction m with
  | zero => intro a b _; exact ⟨Nat.zero_le _, [], can a b, 0, rfl, .nil⟩
  | succ m ih =>
    intro a b hm
    cases a with
    | nil => cases hm
    | cons x a =>
      have hm2 : m ≤ a.length := by simpa using hm
      induction b with
      | nil =>
        obtain ⟨h1, p1, p2, n1, e, h2⟩ := ih a [] hm2
        refine ⟨h1, .X :: p1, p2, stp x + n1, by rw [can_end, e]; rfl, ?_⟩
        show Pth _ (x :: a.take m) (([] : List It).take (crs m a [])) _
        exact .X x h2
      | cons y b ihb =>
        show rowX x a (crs m a) (y :: b) ≤ _ ∧ ∃ p1 p2 n1, _ ∧ Pth p1 (x :: a.take m) ((y :: b).take (rowX x a (crs m a) (y :: b))) n1
        rw [rowX, can_cons]
        cases hq : mv x a y b with
        | P =>
          obtain ⟨h1, p1, p2, n1, e, h2⟩ := ih a b hm2
          refine ⟨by simp only [List.length_cons]; omega, .P :: p1, p2, cst x y + n1, by simp only []; rw [e]; rfl, ?_⟩
          show Pth _ _ ((y :: b).take (1 + crs m a b)) _
          rw [Nat.add_comm 1, List.take_succ_cons]
          exact .P (mv_ok hq).1 h2
        | X =>
          obtain ⟨h1, p1, p2, n1, e, h2⟩ := ih a (y :: b) hm2
          exact ⟨h1, .X :: p1, p2, stp x + n1, by simp only []; rw [e]; rfl, .X x h2⟩
        | I =>
          obtain ⟨h1, p1, p2, n1, e, h2⟩ := ihb
          have h1' : rowX x a (crs m a) b ≤ b.length := h1
          refine ⟨by simp only [List.length_cons]; omega, .I :: p1, p2, stp y + n1, by simp only []; rw [e]; rfl, ?_⟩
          show Pth _ _ ((y :: b).take (1 + rowX x a (crs m a) b)) _
          rw [Nat.add_comm 1, List.take_succ_cons]
          exact .I y h2
theorem can_split (m : Nat) (a b : List It) (hm : m ≤ a.length) : crs m a b ≤ b.length ∧ can a b = can (a.take m) (b.take (crs m a b)) ++ can (a.drop m) (b.drop (crs m a b)) := by
  obtain ⟨h1, p1, p2, n1, e, h2⟩ := crs_pth m a b hm
  refine ⟨h1, ?_⟩
  have e2 : can (a.take m ++ a.drop m) (b.take (crs m a b) ++ b.drop (crs m a b)) = p1 ++ p2 := by rw [List.take_append_drop, List.take_append_drop]; exact e
  obtain ⟨i1, i2, _, _⟩ := can_pre h2 p2 _ _ e2
  rw [e, i1, i2]
theorem can_one (x : It) (b : List It) : (crs 1 [x] b = 0 → can [x] b = .X :: can [] b) ∧ ∀ k, crs 1 [x] b = k + 1 → k < b.length ∧ can [x] b = (can [] (b.take k)) ++ .P :: can [] (b.drop (k + 1)) := by
  induction b with
  | nil => exact ⟨fun _ => rfl, fun k h => by cases h⟩
  | cons y b ih =>
    have ec : crs 1 [x] (y :: b) = match mv x [] y b with | .P => 1 + crs 0 [] b | .X => crs 0 [] (y :: b) | .I => 1 + crs 1 [x] b := rfl
    rw [ec, can_cons]
    cases hq : mv x [] y b with
    | P =>
      refine ⟨fun h => by simp only [] at h; omega, fun k h => ?_⟩
      obtain rfl : k = 0 := by simp only [crs] at h; omega
      exact ⟨by simp, rfl⟩
    | X => exact ⟨fun _ => rfl, fun k h => by cases h⟩
    | I =>
      refine ⟨fun h => by simp only [] at h; omega, fun k h => ?_⟩
      have h' : crs 1 [x] b = k := by simp only [] at h; omega
      cases k with
      | zero =>
        exfalso
        have e1 := ih.1 h'
        have c1 := can_pth [x] b
        rw [e1] at c1
        have c2 := pth_unique c1 (Pth.X x (pth_ins b))
        have hi := mv_i hq
        refine hi.1.2 ?_
        rw [← hi.2, c2, dst_nil, stL]; omega
      | succ k =>
        obtain ⟨h1, h2⟩ := ih.2 k h'
        refine ⟨by simp; omega, ?_⟩
        simp only []
        rw [h2, List.take_succ_cons, List.drop_succ_cons]; rfl
end Go.Proofs.Ytjabbiigaioljaa
namespace Go.Proofs.Ytjabbiigaioljaa
open Go.ChangeShapes Go.WideShapes Go.ChangeAt Go.RowKit Go.Sort
set_option linter.unusedVariables false
set_option linter.unusedSimpArgs false
set_option maxRecDepth 100000

structure Ed where
  a : Int
  b : Int
  deriving DecidableEq
def eenc (x : Ed) : List Value := [.int .i64 x.a, .int .i64 x.b]
theorem infoE : (Try.prog.info? 36).map (fun i => (i.zero, i.size, i.bytes)) = some (some (.agg #[.int .i64 0, .int .i64 0]), 2, 16) := by kernel_rfl
theorem eE : El 34 36 2 16 (.agg #[.int .i64 0, .int .i64 0]) eenc :=
  ⟨Try.underlying34, info_parts infoE, rfl, by omega, fun _ => rfl, fun x u hu => by simp [eenc] at hu; rcases hu with rfl | rfl <;> rfl⟩
abbrev OwnE := OwnL 36 2 eenc
def edM : List Mv → Nat → Nat → List Ed
  | [], _, _ => []
  | .P :: p, i, k => ⟨i, k⟩ :: edM p (i + 1) (k + 1)
  | .X :: p, i, k => ⟨i, -1⟩ :: edM p (i + 1) k
  | .I :: p, i, k => ⟨-1, k⟩ :: edM p i (k + 1)
theorem edM_app {p : List Mv} {a b : List It} {n : Nat} (h : Pth p a b n) (q : List Mv) : ∀ i k, edM (p ++ q) i k = edM p i k ++ edM q (i + a.length) (k + b.length) := by
  induction h with
  | nil => intro i k; rfl
  | X x _ ih => intro i k; rw [List.cons_append, edM, edM, ih, List.cons_append, List.length_cons, Nat.add_right_comm, Nat.add_assoc]
  | I y _ ih => intro i k; rw [List.cons_append, edM, edM, ih, List.cons_append, List.length_cons, Nat.add_right_comm k, Nat.add_assoc k]
  | P _ _ ih => intro i k; rw [List.cons_append, edM, edM, ih, List.cons_append, List.length_cons, List.length_cons, Nat.add_right_comm i, Nat.add_assoc i, Nat.add_right_comm k, Nat.add_assoc k]
/-- The script of Align from a to b, whose first tokens have the indexes i and k. -/
def scr (i k : Nat) (a b : List It) : List Ed := edM (can a b) i k
theorem scr_split (i k m : Nat) (a b : List It) (hm : m ≤ a.length) : scr i k a b = scr i k (a.take m) (b.take (crs m a b)) ++ scr (i + m) (k + crs m a b) (a.drop m) (b.drop (crs m a b)) := by
  obtain ⟨h1, h2⟩ := can_split m a b hm
  unfold scr
  conv => lhs; rw [h2]
  rw [edM_app (can_pth (a.take m) (b.take (crs m a b)))]
  simp [Nat.min_eq_left hm, Nat.min_eq_left h1]
theorem scr_ins_next (i k : Nat) (b : List It) (j : Nat) (hj : j < b.length) : scr i k [] (b.take (j + 1)) = scr i k [] (b.take j) ++ [⟨-1, ((k + j : Nat) : Int)⟩] := by
  unfold scr
  have e : can [] (b.take (j + 1)) = can [] (b.take j) ++ [.I] := by rw [can_nil, can_nil, List.take_succ_eq_append_getElem hj, List.map_append]; rfl
  rw [e, edM_app (pth_ins (b.take j))]
  simp [edM, Nat.min_eq_left (Nat.le_of_lt hj)]
theorem scr_len (i k : Nat) (a b : List It) : (scr i k a b).length ≤ a.length + b.length := by
  unfold scr
  have : ∀ {p : List Mv} {a b : List It} {n : Nat}, Pth p a b n → ∀ i k, (edM p i k).length ≤ a.length + b.length := by
    intro p a b n h
    induction h with
    | nil => intro i k; exact Nat.zero_le _
    | X x _ ih => intro i k; have := ih (i + 1) k; rw [edM, List.length_cons, List.length_cons]; omega
    | I y _ ih => intro i k; have := ih i (k + 1); rw [edM, List.length_cons, List.length_cons]; omega
    | P _ _ ih => intro i k; have := ih (i + 1) (k + 1); rw [edM, List.length_cons, List.length_cons, List.length_cons]; omega
  exact this (can_pth a b) i k
theorem scr_one0 (i k : Nat) (x : It) (b : List It) (h : crs 1 [x] b = 0) : scr i k [x] b = ⟨i, -1⟩ :: scr (i + 1) k [] b := by unfold scr; rw [(can_one x b).1 h]; rfl
theorem scr_ins_any (i j k : Nat) (b : List It) : scr i k [] b = scr j k [] b := by
  unfold scr
  rw [can_nil]
  induction b generalizing k with
  | nil => rfl
  | cons y b ih => rw [List.map_cons, edM, edM, ih]
theorem scr_one1 (i k : Nat) (x : It) (b : List It) (c : Nat) (h : crs 1 [x] b = c + 1) : c < b.length ∧ scr i k [x] b = scr i k [] (b.take c) ++ ⟨i, ((k + c : Nat) : Int)⟩ :: scr (i + 1) (k + c + 1) [] (b.drop (c + 1)) := by
  obtain ⟨h1, h2⟩ := (can_one x b).2 c h
  refine ⟨h1, ?_⟩
  unfold scr
  rw [h2, edM_app (pth_ins (b.take c))]
  simp [edM, Nat.min_eq_left (Nat.le_of_lt h1)]
theorem parts_take (l : List It) : ∀ i m, parts i (l.take m) = (parts i l).take m := by
  induction l with
  | nil => intro i m; simp [parts]
  | cons x l ih =>
    intro i m
    cases m with
    | zero => rfl
    | succ m => rw [List.take_succ_cons, parts, parts, List.take_succ_cons, ih]
theorem parts_drop (l : List It) : ∀ i m, m ≤ l.length → parts (i + m) (l.drop m) = (parts i l).drop m := by
  induction l with
  | nil => intro i m h; simp [parts]
  | cons x l ih =>
    intro i m h
    cases m with
    | zero => rfl
    | succ m => rw [List.drop_succ_cons, parts, List.drop_succ_cons, ← ih (i + 1) m (by simpa using h), show i + 1 + m = i + (m + 1) by omega]
theorem Rw.take {W : World} {p : Option Addr} {l : List Pa} (h : Pas W p l) (m : Nat) : Pas W p (l.take m) := fun h0 => by
  obtain ⟨b, o, e, hl, hc⟩ := h (by simp at h0; omega)
  exact ⟨b, o, e, hl, fun i hi => by rw [List.getElem_take]; exact hc i (by simp at hi; omega)⟩
theorem Rw.drop {W : World} {p q : Option Addr} {l : List Pa} (h : Pas W p l) (m : Nat) (hq : ∀ b o, p = some ⟨b, o, none⟩ → m < l.length → q = some ⟨b, o + m * 7, none⟩) : Pas W q (l.drop m) := fun h0 => by
  have hm : m < l.length := by simp at h0; omega
  obtain ⟨b, o, e, hl, hc⟩ := h (by omega)
  refine ⟨b, o + m * 7, hq b o e hm, hl, fun i hi => ?_⟩
  rw [List.getElem_drop]
  have := hc (m + i) (by simp at hi; omega)
  rwa [show o + (m + i) * 7 = o + m * 7 + i * 7 by omega] at this
/-- Parts that lie below the script's base. -/
structure PB (base : Nat) (W : World) (p : Option Addr) (c : Nat) (i : Nat) (l : List It) : Prop where
  ps : Pas W p (parts i l)
  lo : 0 < l.length → ∀ x, p = some x → x.block < base
  le : l.length ≤ c
  cm : c ≤ maxLen
theorem PB.call {base : Nat} {W W' : World} {p : Option Addr} {c i : Nat} {l : List It} (h : PB base W p c i l) (hb : Below base W W') : PB base W' p c i l :=
  ⟨fun h0 => (h.ps.keep hb.size (fun a ha hlt => hb.block _ (h.lo (by rw [parts_len] at h0; exact h0) a ha))) h0, h.lo, h.le, h.cm⟩
theorem PB.take {base : Nat} {W : World} {p : Option Addr} {c i : Nat} {l : List It} (h : PB base W p c i l) (m : Nat) : PB base W p c i (l.take m) :=
  ⟨by rw [parts_take]; exact h.ps.take m, fun h0 => h.lo (by simp at h0; omega), by have := h.le; simp; omega, h.cm⟩
theorem PB.drop {base : Nat} {W : World} {p : Option Addr} {c i : Nat} {l : List It} (h : PB base W p c i l) (m : Nat) (hm : m ≤ l.length) : PB base W (if c = m then p else Option.map (fun x => x.add (m * 7)) p) (c - m) (i + m) (l.drop m) := by
  have hq : ∀ b o, p = some ⟨b, o, none⟩ → m < l.length → (if c = m then p else Option.map (fun x => x.add (m * 7)) p) = some ⟨b, o + m * 7, none⟩ := fun b o e hlt => by
    have := h.le
    rw [if_neg (by omega), e]
    simp [Addr.add]
  refine ⟨by rw [parts_drop l i m hm]; exact h.ps.drop m (fun b o e hlt => hq b o e (by rw [parts_len] at hlt; exact hlt)), fun h0 x hx => ?_, by have := h.le; simp; omega, by have := h.cm; omega⟩
  have h0' : 0 < l.length := by simp at h0; omega
  obtain ⟨b, o, e, hl, _⟩ := h.ps (by rw [parts_len]; exact h0')
  rw [hq b o e (by simp at h0; omega)] at hx
  injection hx with hx; subst hx
  have := h.lo h0' ⟨b, o, none⟩ e
  exact this
set_option maxHeartbeats 3200000 in
theorem appins_any (base : Nat) (S : List Ed) (v : Value) (pb : Option Addr) (cb ib : Nat) (b : List It) (w : World) (hO : OwnE base S v w) (hbase : base ≤ w.heap.size) (hB : PB base w pb cb ib b) (hn : S.length + b.length ≤ 1000000) :
    Calls Try.prog 59 #[v, .slice pb b.length cb] w fun e w' => ∃ v', e = .returned v' ∧ OwnE base (S ++ scr 0 ib [] b) v' w' ∧ Below base w w' := by
  have cm := hB.cm; have cl := hB.le
  unfold maxLen at cm
  go_enter Try.func59, Try.ntmps59
  go_wp2_with fail
  go_loopw [0, 8] (fun v i wr => ∃ k : Nat, k ≤ b.length ∧ i = .int .i64 k ∧ OwnE base (S ++ scr 0 ib [] (b.take k)) v wr ∧ Below base w wr) (fun _ i _ => b.length - (intOf i).toNat)
  case atStart => exact ⟨0, Nat.zero_le _, rfl, by simpa [scr, can_nil, edM] using hO, Below.refl _ _⟩
  case round =>
    obtain ⟨k, hk, rfl, hOr, hBr⟩ := hrel
    by_cases hlt : k < b.length
    · have hP := hB.call hBr
      obtain ⟨bp, op, rfl, hbp, hps⟩ := hP.ps (by rw [parts_len]; omega)
      have q3 := (hps k (by rw [parts_len]; omega)) 3
      rw [parts_at b ib k hlt] at q3
      have c3 := q3 _ rfl
      have hnx := scr_ins_next 0 ib b k hlt
      have hln := scr_len 0 ib [] (b.take k)
      have hls : (S ++ scr 0 ib [] (b.take k)).length ≤ 1000000 := by
        rw [List.length_append]; simp at hln; omega
      have hls2 : (S ++ scr 0 ib [] (b.take k)).length + 1 ≤ 1000001 := by omega
      have c3' : wr.cell? ⟨bp, op + k * 7 + 3, none⟩ = some (.int .i64 ((ib + k : Nat) : Int)) := c3
      have hO2 : OwnE base (S ++ scr 0 ib [] (b.take k)) u0 (wr.alloc (.cells #[.int .i64 (-1), .int .i64 ((ib + k : Nat) : Int)] 36)) := World.ownsRow.alloc hOr _
      have hnew := heap_alloc_new wr (.cells #[.int .i64 (-1), .int .i64 ((ib + k : Nat) : Int)] 36)
      have hB2 : Below base w (wr.alloc (.cells #[.int .i64 (-1), .int .i64 ((ib + k : Nat) : Int)] 36)) := hBr.alloc (Nat.le_trans hbase hBr.size) _
      have hsz2 : base ≤ (wr.alloc (.cells #[.int .i64 (-1), .int .i64 ((ib + k : Nat) : Int)] 36)).heap.size := Nat.le_trans hbase hB2.size
      have hnx2 : (S ++ scr 0 ib [] (b.take k)) ++ [⟨-1, ((ib + k : Nat) : Int)⟩] = S ++ scr 0 ib [] (b.take (k + 1)) := by rw [hnx, List.append_assoc]
      have HNX := Lib.hid hnx2; have HB2 := Lib.hid hB2
      generalize S ++ scr 0 ib [] (b.take k) = T at *
      clear hnx hln q3 c3 hps hbp hP hOr hBr hnx2 hB2
      have i3 : (k : Int) < (b.length : Int) := by omega
      go_wp2_with (at_builtin; refine wpl_append2 eE _ rfl _ _ rfl base hsz2 T u0 rfl hO2 ⟨-1, ((ib + k : Nat) : Int)⟩ wr.heap.size _ rfl hnew rfl (by omega) (by unfold maxLen; omega) ?_; intro v' w5 hO5 hb5)
      rw [HNX.out] at hO5
      go_roundw
      case rel => exact ⟨k + 1, hlt, by go_num, hO5, HB2.out.trans hb5⟩
      case measure => simp [intOf] <;> omega
    · obtain rfl : k = b.length := by omega
      rw [List.take_length] at hOr
      go_wp2_with fail
      go_ret
      exact ⟨_, rfl, hOr, hBr⟩
end Go.Proofs.Ytjabbiigaioljaa
namespace Go.Proofs.Ytjabbiigaioljaa
open Go.ChangeShapes Go.WideShapes Go.ChangeAt Go.RowKit Go.Sort
set_option linter.unusedVariables false
set_option linter.unusedSimpArgs false
set_option maxRecDepth 100000

theorem append_one {α : Type} {t e size bytes : Nat} {z : Value} {enc : α → List Value} (E : El t e size bytes z enc) (base : Nat) (w : World) (L : List α) (v : Value) (h : OwnL e size enc base L v w) (hbase : base ≤ w.heap.size) (y : α) (B : Nat) (cs : Array Value)
    (hB : w.heap[B]? = some (.cells cs e (0, 0))) (hcs : cs.toList = enc y) (hb1 : 1 ≤ bytes) (hl : (L.length + 1) * bytes ≤ 140737488355328) :
    ∃ v' w', (Builtin.append_ #[t, t] t #[v, .slice (some ⟨B, 0, none⟩) 1 1]).run Try.prog w = .ok v' w' ∧ OwnL e size enc base (L ++ [y]) v' w' ∧ Below base w w' := by
  obtain ⟨i, hi, hz0, hz1, hz2⟩ := E.hi
  obtain ⟨g, cap, w', hr, h2, h3, h4, h5⟩ := run_append_lies (P := Try.prog) w t t base e i z size bytes E.ht hi hz0 hz1 hz2 E.hzs E.hsz v L.length (cellsOf enc L) h ⟨B, 0, none⟩ 1 1 (enc y) (by rw [E.len]; omega) (by rw [← hcs]; exact World.news_of_block hB) (E.one y) (by omega) (by have := Nat.le_mul_of_pos_right (L.length + 1) hb1; unfold maxLen; omega) hl hbase _ rfl
  refine ⟨_, w', hr, ?_, (Below.refl base w).grown h3 hbase (fun k hk => (h.lt k hk).1)⟩
  unfold OwnL; rw [List.length_append, show cellsOf enc (L ++ [y]) = cellsOf enc L ++ enc y from by unfold cellsOf; rw [List.flatMap_append]; simp]; exact h2
theorem PB.own {base : Nat} {W W' : World} {p : Option Addr} {c i : Nat} {l : List It} (h : PB base W p c i l) (hb : Below W.heap.size W W') : PB base W' p c i l :=
  ⟨h.ps.call hb, h.lo, h.le, h.cm⟩
set_option maxHeartbeats 3200000 in
theorem appone_any (base : Nat) (S : List Ed) (v : Value) (pa pb : Option Addr) (ca cb ia ib : Nat) (x : It) (b : List It) (w : World) (hO : OwnE base S v w) (hbase : base ≤ w.heap.size) (hA : PB base w pa ca ia [x]) (hB : PB base w pb cb ib b) (lb : b.length ≤ 100000) (hn : S.length + b.length + 1 ≤ 1000000) :
    Calls Try.prog 60 #[v, .slice pa 1 ca, .slice pb b.length cb] w fun e w' => ∃ v', e = .returned v' ∧ OwnE base (S ++ scr ia ib [x] b) v' w' ∧ Below base w w' := by
  have h1 : Calls Try.prog 42 #[.slice pa 1 ca, .slice pb b.length cb, .int .i64 1] w fun e w' => e = .returned (.agg #[.int .i64 (dst [x] b), .int .i64 (crs 1 [x] b)]) ∧ Below w.heap.size w w' :=
    firstcell_any [x] b ia ib pa pb ca cb 1 w hA.ps hB.ps hA.le hB.le hA.cm hB.cm (by simp) lb (by simp)
  have hac := hA.cm; have hbc := hB.cm; have hbl := hB.le
  have ha1 : 1 ≤ ca := hA.le
  unfold maxLen at hac hbc
  have hdl := dst_le [x] b
  rw [List.length_singleton] at hdl
  have hdl2 : dst [x] b ≤ 800000 := by omega
  generalize dst [x] b = D at *
  clear hdl
  rcases hC : crs 1 [x] b with _ | c
  · have hs := scr_one0 ia ib x b hC
    rw [hC] at h1
    go_enter Try.func60, Try.ntmps60
    go_wp2_with fail
    refine h1.mono ?_; rintro e w1 ⟨rfl, hb1⟩
    have hf := fld1 D 0 w1
    have hb1' := hb1.mono hbase
    have hO1 := OwnL.call hO hb1
    have hA1 := hA.own hb1
    have hB1 := hB.own hb1
    clear hA hB hO h1
    obtain ⟨ba, oa, rfl, hba, hpa⟩ := hA1.ps (by rw [parts_len]; simp)
    have q3 := (hpa 0 (by rw [parts_len]; simp)) 3
    have c3 : w1.cell? ⟨ba, oa + 3, none⟩ = some (.int .i64 (ia : Nat)) := by have := q3 _ rfl; simpa [parts] using this
    clear hpa q3 hA1
    have hsz1 : base ≤ w1.heap.size := Nat.le_trans hbase hb1'.size
    have E0 := heap_alloc_new w1 (.cells #[.int .i64 (ia : Nat), .int .i64 (-1)] 36)
    have hO2 : OwnE base S v (w1.alloc (.cells #[.int .i64 (ia : Nat), .int .i64 (-1)] 36)) := World.ownsRow.alloc hO1 _
    have hb2 := (Below.refl w1.heap.size w1).alloc (Nat.le_refl _) (.cells #[.int .i64 (ia : Nat), .int .i64 (-1)] 36)
    have hB2 := hB1.own hb2
    have hsz2 : base ≤ (w1.alloc (.cells #[.int .i64 (ia : Nat), .int .i64 (-1)] 36)).heap.size := Nat.le_trans hsz1 hb2.size
    have hBb := hb1'.trans (hb2.mono hsz1)
    have HX := Lib.hid (And.intro hB2 (And.intro hBb (And.intro hs hsz2)))
    clear hB2 hB1 hBb hs hb2 hb1' hb1 hO1 hC
    go_wp2_with (at_builtin; refine wpl_append2 eE _ rfl _ _ rfl base hsz2 S v rfl hO2 ⟨(ia : Nat), -1⟩ w1.heap.size _ rfl E0 rfl (by omega) (by unfold maxLen; omega) ?_; intro v' w5 hO5 hb5)
    obtain ⟨hB2, hBb, hs, _⟩ := HX.out
    refine (appins_any base _ _ pb cb ib b w5 hO5 (Nat.le_trans hsz2 hb5.size) (hB2.call hb5) (by simp; omega)).mono ?_; rintro e w6 ⟨v6, rfl, hO6, hb6⟩
    go_wp2_with fail
    go_ret
    exact ⟨_, rfl, by rw [hs, scr_ins_any (ia + 1) 0 ib b, ← List.singleton_append, ← List.append_assoc]; exact hO6, (hBb.trans hb5).trans hb6⟩
  · obtain ⟨hcl, hs⟩ := scr_one1 ia ib x b c hC
    have i0 : ¬ (((c + 1 : Nat) : Int) = 0) := by omega
    have i1 : ((c + 1 : Nat) : Int) - 1 = (c : Int) := by omega
    have hcc : ib + c + 1 = ib + (c + 1) := by omega
    rw [hC] at h1
    rw [hcc] at hs
    have hC1 : 0 < c + 1 ∧ c < c + 1 ∧ c + 1 ≤ b.length := by omega
    generalize c + 1 = C at *
    obtain ⟨hC0, hCc, hCl⟩ := hC1
    have cw : IntKind.i64.wrap (c : Int) = (c : Int) := IntWalk.i64_in _ ⟨by omega, by omega⟩
    have j0 : (C : Int) ≤ (b.length : Int) := by omega
    have j1 : (C : Int) ≤ (cb : Int) := by omega
    have j2 : (c : Int) ≤ (cb : Int) := by omega
    have j3 : (c : Int) < (b.length : Int) := by omega
    have hln := scr_len 0 ib [] (b.take c)
    have hln2 : (scr 0 ib [] (b.take c)).length ≤ c := by simp at hln; omega
    have htl : (b.take c).length = c := by simp; omega
    have hdr : (b.drop C).length = b.length - C := by simp
    have hs' : S ++ scr ia ib [x] b = (S ++ scr 0 ib [] (b.take c)) ++ [⟨ia, ((ib + c : Nat) : Int)⟩] ++ scr 0 (ib + C) [] (b.drop C) := by
      rw [hs, scr_ins_any ia 0, scr_ins_any (ia + 1) 0]; simp
    have HS := Lib.hid hs'; have HDR := Lib.hid hdr; have HN2 := Lib.hid hln2
    clear hs hs' hdr hln hln2 hC hcc
    go_enter Try.func60, Try.ntmps60
    go_wp2_with fail
    refine h1.mono ?_; rintro e w1 ⟨rfl, hb1⟩
    have hf := fld1 D C w1
    have hb1' := hb1.mono hbase
    have hO1 := OwnL.call hO hb1
    have hA1 := hA.own hb1
    have hB1 := hB.own hb1
    have h2 := appins_any base S v pb cb ib (b.take c) w1 hO1 (Nat.le_trans hbase hb1'.size) (hB1.take c) (by rw [htl]; omega)
    rw [htl] at h2
    have H2 := Lib.hid h2
    have HB := Lib.hid hb1'
    have HP := Lib.hid hB
    clear hA hB hO h1 h2 hb1 hb1' hO1 htl
    go_wp2_with fail
    refine H2.out.mono ?_; rintro e w5 ⟨v5, rfl, hO5, hb5⟩
    have hB5 := HB.out.trans hb5
    have hA5 := hA1.call hb5
    have hP5 := hB1.call hb5
    clear H2 HB hA1 hB1 hb5
    obtain ⟨ba, oa, rfl, _, hpa⟩ := hA5.ps (by rw [parts_len]; simp)
    have hba : ba < base := hA5.lo (by simp) _ rfl
    obtain ⟨bb, ob, rfl, _, hpb⟩ := hP5.ps (by rw [parts_len]; omega)
    have hbb : bb < base := hP5.lo (by omega) _ rfl
    have c3 : w5.cell? ⟨ba, oa + 3, none⟩ = some (.int .i64 (ia : Nat)) := by have := (hpa 0 (by rw [parts_len]; simp)) 3 _ rfl; simpa [parts] using this
    have d3 : w5.cell? ⟨bb, ob + c * 7 + 3, none⟩ = some (.int .i64 ((ib + c : Nat) : Int)) := by
      have q3 := (hpb c (by rw [parts_len]; omega)) 3
      rw [parts_at b ib c (by omega)] at q3
      exact q3 _ rfl
    have hS6 := And.intro c3 d3
    clear hpa hpb hA5 hP5 c3 d3
    go_wp2_with fail
    refine wp_region_held_drew (S := fun W => W.cell? ⟨ba, oa + 3, none⟩ = some (.int .i64 (ia : Nat)) ∧ W.cell? ⟨bb, ob + c * 7 + 3, none⟩ = some (.int .i64 ((ib + c : Nat) : Int))) (by kernel_rfl) hS6 (fun hHeld => ?_)
    have hB6 := hB5.drew; have hO6 : OwnE base _ v5 w5.drew := hO5
    have hsz6 : base ≤ w5.drew.heap.size := Nat.le_trans hbase hB5.size
    generalize w5.drew = v0 at *
    refine wpAnyH_take (i := 0) (v := ?_) rfl (by kernel_rfl) (by kernel_rfl) (by kernel_rfl) (fun _ _ _ h => h) (Or.inl ⟨by rfl, ?_⟩) hHeld ?_
    rotate_left
    · (intro w hSw; skip; go_simp; try with_reducible rfl)
    try simp only [Act.put, List.getElem_toArray, List.getElem_cons_zero, List.getElem_cons_succ, List.setIfInBounds_toArray, List.set_cons_zero, List.set_cons_succ]
    refine wpAnyH_take (i := 1) (v := ?_) rfl (by kernel_rfl) (by kernel_rfl) (by kernel_rfl) (fun _ _ _ h => h) (Or.inl ⟨by rfl, ?_⟩) hHeld ?_
    rotate_left
    · (intro w hSw; skip; go_simp; try with_reducible rfl)
    try simp only [Act.put, List.getElem_toArray, List.getElem_cons_zero, List.getElem_cons_succ, List.setIfInBounds_toArray, List.set_cons_zero, List.set_cons_succ]
    refine wpAnyH_take (i := 2) (v := ?_) rfl (by kernel_rfl) (by kernel_rfl) (by kernel_rfl) (fun _ _ _ h => h) (Or.inl ⟨by rfl, ?_⟩) hHeld ?_
    rotate_left
    · (intro w hSw; skip; go_simp; try with_reducible rfl)
    try simp only [Act.put, List.getElem_toArray, List.getElem_cons_zero, List.getElem_cons_succ, List.setIfInBounds_toArray, List.set_cons_zero, List.set_cons_succ]
    refine wpAnyH_take (i := 3) (v := ?_) rfl (by kernel_rfl) (by kernel_rfl) (by kernel_rfl) (fun _ _ _ h => h) (Or.inl ⟨by rfl, ?_⟩) hHeld ?_
    rotate_left
    · (intro w hSw; skip; go_simp; try with_reducible rfl)
    try simp only [Act.put, List.getElem_toArray, List.getElem_cons_zero, List.getElem_cons_succ, List.setIfInBounds_toArray, List.set_cons_zero, List.set_cons_succ]
    refine wpAnyH_take (i := 4) (v := ?_) rfl (by kernel_rfl) (by kernel_rfl) (by kernel_rfl) (fun _ _ _ h => h) (Or.inl ⟨by rfl, ?_⟩) hHeld ?_
    rotate_left
    · (intro w hSw; obtain ⟨c0, c1⟩ := hSw; go_simp; try with_reducible rfl)
    try simp only [Act.put, List.getElem_toArray, List.getElem_cons_zero, List.getElem_cons_succ, List.setIfInBounds_toArray, List.set_cons_zero, List.set_cons_succ]
    refine wpAnyH_take (i := 5) (v := ?_) rfl (by kernel_rfl) (by kernel_rfl) (by kernel_rfl) (fun _ _ _ h => h) (Or.inl ⟨by rfl, ?_⟩) hHeld ?_
    rotate_left
    · (intro w hSw; skip; go_simp; try with_reducible rfl)
    try simp only [Act.put, List.getElem_toArray, List.getElem_cons_zero, List.getElem_cons_succ, List.setIfInBounds_toArray, List.set_cons_zero, List.set_cons_succ]
    refine wpAnyH_take (i := 6) (v := ?_) rfl (by kernel_rfl) (by kernel_rfl) (by kernel_rfl) (fun _ _ _ h => h) (Or.inl ⟨by rfl, ?_⟩) hHeld ?_
    rotate_left
    · (intro w hSw; skip; go_simp; try with_reducible rfl)
    try simp only [Act.put, List.getElem_toArray, List.getElem_cons_zero, List.getElem_cons_succ, List.setIfInBounds_toArray, List.set_cons_zero, List.set_cons_succ]
    refine wpAnyH_take (i := 7) (v := ?_) rfl (by kernel_rfl) (by kernel_rfl) (by kernel_rfl) (fun _ _ _ h => h) (Or.inl ⟨by rfl, ?_⟩) hHeld ?_
    rotate_left
    · (intro w hSw; skip; go_simp; try with_reducible rfl)
    try simp only [Act.put, List.getElem_toArray, List.getElem_cons_zero, List.getElem_cons_succ, List.setIfInBounds_toArray, List.set_cons_zero, List.set_cons_succ]
    refine wpAnyH_take (i := 8) (v := ?_) rfl (by kernel_rfl) (by kernel_rfl) (by kernel_rfl) (fun _ _ _ h => h) (Or.inl ⟨by rfl, ?_⟩) hHeld ?_
    rotate_left
    · (intro w hSw; skip; go_simp; try with_reducible rfl)
    try simp only [Act.put, List.getElem_toArray, List.getElem_cons_zero, List.getElem_cons_succ, List.setIfInBounds_toArray, List.set_cons_zero, List.set_cons_succ]
    refine wpAnyH_take (i := 9) (v := ?_) rfl (by kernel_rfl) (by kernel_rfl) (by kernel_rfl) (fun _ _ _ h => h) (Or.inl ⟨by rfl, ?_⟩) hHeld ?_
    rotate_left
    · (intro w hSw; skip; go_simp; try with_reducible rfl)
    try simp only [Act.put, List.getElem_toArray, List.getElem_cons_zero, List.getElem_cons_succ, List.setIfInBounds_toArray, List.set_cons_zero, List.set_cons_succ]
    refine wpAnyH_take (i := 10) (v := ?_) rfl (by kernel_rfl) (by kernel_rfl) (by kernel_rfl) (fun _ _ _ h => h) (Or.inl ⟨by rfl, ?_⟩) hHeld ?_
    rotate_left
    · (intro w hSw; obtain ⟨c0, c1⟩ := hSw; go_simp; try with_reducible rfl)
    try simp only [Act.put, List.getElem_toArray, List.getElem_cons_zero, List.getElem_cons_succ, List.setIfInBounds_toArray, List.set_cons_zero, List.set_cons_succ]
    refine wpAnyH_take (i := 11) (v := ?_) rfl (by kernel_rfl) (by kernel_rfl) (by kernel_rfl) (fun _ _ _ h => h) (Or.inl ⟨by rfl, ?_⟩) hHeld ?_
    rotate_left
    · (intro w hSw; skip; go_simp; try with_reducible rfl)
    try simp only [Act.put, List.getElem_toArray, List.getElem_cons_zero, List.getElem_cons_succ, List.setIfInBounds_toArray, List.set_cons_zero, List.set_cons_succ]
    refine wpAnyH_ready (rs := [12]) (by kernel_rfl) (by simp) ?_
    refine AllReadyH.cons rfl (fun K hK => ?_) AllReadyH.nil
    have hO7 : OwnE base _ v5 (v0.alloc (.cells #[.int .i64 (ia : Nat), .int .i64 ((ib : Int) + (c : Int))] 36)) := World.ownsRow.alloc hO6 _
    have hnew := heap_alloc_new v0 (.cells #[.int .i64 (ia : Nat), .int .i64 ((ib : Int) + (c : Int))] 36)
    have hb7 := (Below.refl v0.heap.size v0).alloc (Nat.le_refl _) (.cells #[.int .i64 (ia : Nat), .int .i64 ((ib : Int) + (c : Int))] 36)
    have hB7 := hB6.alloc hsz6 (.cells #[.int .i64 (ia : Nat), .int .i64 ((ib : Int) + (c : Int))] 36)
    have hH7 : _ ∧ _ := ⟨(hb7.cell (p := ⟨ba, oa + 3, none⟩) (block_lt_of_cell hHeld.1)).trans hHeld.1, (hb7.cell (p := ⟨bb, ob + c * 7 + 3, none⟩) (block_lt_of_cell hHeld.2)).trans hHeld.2⟩
    have hsz7 := Nat.le_trans hsz6 hb7.size
    have HX := Lib.hid (And.intro hO7 (And.intro hnew (And.intro hB7 hsz7)))
    clear hO6 hO7 hnew hb7 hB6 hB7 hsz6 hsz7
    go_simp
    refine hK.out _ _ hH7 (fun hHeld => ?_)
    clear hK K hH7
    try simp only [Act.put, List.getElem_toArray, List.getElem_cons_zero, List.getElem_cons_succ, List.setIfInBounds_toArray, List.set_cons_zero, List.set_cons_succ]
    obtain ⟨hO7, hnew, hB7, hsz7⟩ := HX.out
    clear HX
    generalize v0.alloc (.cells #[.int .i64 (ia : Nat), .int .i64 ((ib : Int) + (c : Int))] 36) = v1 at *
    generalize v0.heap.size = g0 at *
    refine wpAnyH_ready (rs := [13]) (by kernel_rfl) (by simp) ?_
    refine AllReadyH.cons rfl (fun K hK => ?_) AllReadyH.nil
    obtain ⟨v8, w8, hrun, hO8, hg8⟩ := append_one eE base v1 _ v5 hO7 hsz7 ⟨(ia : Nat), (ib : Int) + (c : Int)⟩ g0 _ hnew rfl (by omega) (by rw [List.length_append]; have := HN2.out; omega)
    have hH8 : _ ∧ _ := ⟨(World.cell?_of_block (w := v1) (a := ⟨ba, oa + 3, none⟩) (hg8.block _ (by omega))).trans hHeld.1, (World.cell?_of_block (w := v1) (a := ⟨bb, ob + c * 7 + 3, none⟩) (hg8.block _ (by omega))).trans hHeld.2⟩
    have hB8 := hB7.trans hg8
    refine step_of_wp rfl ?_
    refine Lib.wp_append_run v1 _ _ 34 34 rfl _ _ rfl rfl v8 w8 hrun ?_
    refine hK.out _ _ hH8 (fun hHeld => ?_)
    clear hK K hH8 hO7 hnew hB7 hsz7 hg8 hrun
    try simp only [Act.put, List.getElem_toArray, List.getElem_cons_zero, List.getElem_cons_succ, List.setIfInBounds_toArray, List.set_cons_zero, List.set_cons_succ]
    refine wpAnyH_take (i := 14) (v := ?_) rfl (by kernel_rfl) (by kernel_rfl) (by kernel_rfl) (fun _ _ _ h => h) (Or.inl ⟨by rfl, ?_⟩) hHeld ?_
    rotate_left
    · (intro w hSw; skip; go_simp; try with_reducible rfl)
    try simp only [Act.put, List.getElem_toArray, List.getElem_cons_zero, List.getElem_cons_succ, List.setIfInBounds_toArray, List.set_cons_zero, List.set_cons_succ]
    refine wpAnyH_done (by kernel_rfl) ?_ _
    have hsz8 := Nat.le_trans hbase hB8.size
    have H9 : ∀ q d, PB base w q d (ib + C) (b.drop C) → Calls Try.prog 59 #[v8, .slice q (b.length - C) d] w8 fun e w' => ∃ v', e = .returned v' ∧ OwnE base (S ++ scr ia ib [x] b) v' w' ∧ Below base w w' := fun q d hq => by
      have h := appins_any base _ v8 q d (ib + C) (b.drop C) w8 hO8 hsz8 (hq.call hB8) (by rw [List.length_append, List.length_append, HDR.out]; have := HN2.out; simp; omega)
      rw [HDR.out] at h
      refine h.mono ?_; rintro e w9 ⟨v9, rfl, hO9, hb9⟩
      refine ⟨_, rfl, ?_, hB8.trans hb9⟩
      rw [HS.out, scr_ins_any 0 0, Int.natCast_add]; exact hO9
    have HH := Lib.hid H9
    clear H9 hO8 hB8 hHeld hsz8
    go_wp2_with fail
    · have hq : PB base w (some ⟨bb, ob, none⟩) 0 (ib + C) (b.drop C) := by have := HP.out.drop C hCl; rw [if_pos (by assumption), show cb - C = 0 by omega] at this; exact this
      refine (HH.out _ _ hq).mono ?_; rintro e w9 ⟨v9, rfl, hO9, hB9⟩
      go_wp2_with fail
      go_ret
      exact ⟨_, rfl, hO9, hB9⟩
    · have hq : PB base w (some ⟨bb, ob + C * 7, none⟩) (cb - C) (ib + C) (b.drop C) := by
        have := HP.out.drop C hCl; rw [if_neg (by assumption)] at this
        have hz : ¬ (C * 7 = 0) := by omega
        simpa only [Addr.add, Option.map_some, if_neg hz] using this
      refine (HH.out _ _ hq).mono ?_; rintro e w9 ⟨v9, rfl, hO9, hB9⟩
      go_wp2_with fail
      go_ret
      exact ⟨_, rfl, hO9, hB9⟩
end Go.Proofs.Ytjabbiigaioljaa
namespace Go.Proofs.Ytjabbiigaioljaa
open Go.ChangeShapes Go.WideShapes Go.ChangeAt Go.RowKit Go.Sort
set_option linter.unusedVariables false
set_option linter.unusedSimpArgs false
set_option maxRecDepth 100000

set_option maxHeartbeats 3200000 in
theorem appscript_any (n : Nat) : ∀ (base : Nat) (S : List Ed) (v : Value) (pa pb : Option Addr) (ca cb ia ib : Nat) (a b : List It) (w : World), a.length = n → OwnE base S v w → base ≤ w.heap.size → PB base w pa ca ia a → PB base w pb cb ib b → n ≤ 100000 → b.length ≤ 100000 → S.length + n + b.length ≤ 900000 →
    Calls Try.prog 45 #[v, .slice pa n ca, .slice pb b.length cb] w fun e w' => ∃ v', e = .returned v' ∧ OwnE base (S ++ scr ia ib a b) v' w' ∧ Below base w w' := by
  induction n using Nat.strongRecOn with
  | _ n ih =>
  intro base S v pa pb ca cb ia ib a b w hlen hO hbase hA hB la lb hn
  have hac := hA.cm; have hbc := hB.cm; have hal := hA.le; have hbl := hB.le
  rw [hlen] at hal
  unfold maxLen at hac hbc
  rcases Nat.lt_or_ge n 2 with hn2 | hn2
  · rcases Nat.lt_or_ge n 1 with hn1 | hn1
    · obtain rfl : n = 0 := by omega
      obtain rfl : a = [] := List.length_eq_zero_iff.1 hlen
      have h1 := appins_any base S v pb cb ib b w hO hbase hB (by omega)
      rw [scr_ins_any ia 0]
      go_enter Try.func45, Try.ntmps45
      go_wp2_with fail
      refine h1.mono ?_; rintro e w1 ⟨v1, rfl, hO1, hb1⟩
      go_wp2_with fail
      go_ret
      exact ⟨_, rfl, hO1, hb1⟩
    · obtain rfl : n = 1 := by omega
      obtain ⟨x, rfl⟩ := List.length_eq_one_iff.1 hlen
      have h1 := appone_any base S v pa pb ca cb ia ib x b w hO hbase hA hB lb (by omega)
      go_enter Try.func45, Try.ntmps45
      go_wp2_with fail
      refine h1.mono ?_; rintro e w1 ⟨v1, rfl, hO1, hb1⟩
      go_wp2_with fail
      go_ret
      exact ⟨_, rfl, hO1, hb1⟩
  · have i0 : ¬ ((n : Int) = 0) := by omega
    have i1 : ¬ ((n : Int) = 1) := by omega
    obtain ⟨m, hm⟩ : ∃ m, m = n / 2 := ⟨_, rfl⟩
    have im : (n : Int) / 2 = (m : Int) := by omega
    have hm1 : 1 ≤ m := by omega
    have hmn : m < n := by omega
    clear hm
    have h1 := firstcell_any a b ia ib pa pb ca cb m w hA.ps hB.ps hA.le hB.le hA.cm hB.cm (by rw [hlen]; exact la) lb (by rw [hlen]; omega)
    have hsp := scr_split ia ib m a b (by rw [hlen]; omega)
    have hcb := (can_split m a b (by rw [hlen]; omega)).1
    have hln := scr_len ia ib (a.take m) (b.take (crs m a b))
    have hta : (a.take m).length = m := by simp; omega
    have htb : (b.take (crs m a b)).length = crs m a b := by simp; omega
    have hda : (a.drop m).length = n - m := by simp; omega
    have hdb : (b.drop (crs m a b)).length = b.length - crs m a b := by simp
    rw [hta, htb] at hln
    rw [hlen] at h1
    generalize dst a b = D at *
    generalize crs m a b = C at *
    have hne : ¬ (ca = m) := by omega
    have j0 : (m : Int) ≤ (n : Int) := by omega
    have j1 : (m : Int) ≤ (ca : Int) := by omega
    have j2 : (C : Int) ≤ (b.length : Int) := by omega
    have j3 : (C : Int) ≤ (cb : Int) := by omega
    have H1 := Lib.hid h1; have HSP := Lib.hid hsp; have HL := Lib.hid (And.intro hta (And.intro htb (And.intro hda hdb)))
    have HIH := Lib.hid ih
    clear h1 hsp hta htb hda hdb ih
    go_enter Try.func45, Try.ntmps45
    go_wp2_with fail
    refine H1.out.mono ?_; rintro e w1 ⟨rfl, hb1⟩
    have hf := fld1 D C w1
    have hO1 := OwnL.call hO hb1
    have hA1 := hA.own hb1
    have hB1 := hB.own hb1
    have hBw := Lib.hid (hb1.mono hbase)
    have hsz1 := Nat.le_trans hbase hb1.size
    clear hO hA hB hb1 H1 im i0 i1
    go_wp2_with fail
    refine wp_region_quiet_tail 7 (by kernel_rfl) (by kernel_rfl) ?_
    simp only [List.take_succ_cons, List.take_zero, List.drop_succ_cons, List.drop_zero]
    repeat (go_big_quiet_step (fail))
    refine wpQuiet_nil ?_
    intro _ hw'
    obtain ⟨⟨dq, osq⟩, hw''⟩ := hw'
    subst hw''
    have hb2 := below_regrown w1 dq osq
    generalize grow (redrawn w1 dq) osq = w2 at *
    have hO2 := OwnL.call hO1 hb2
    have hA2 := hA1.own hb2
    have hB2 := hB1.own hb2
    have hBw2 := Lib.hid (hBw.out.trans (hb2.mono hsz1))
    have hsz2 := Nat.le_trans hsz1 hb2.size
    have h2 := HIH.out m hmn base S v pa pb ca cb ia ib (a.take m) (b.take C) w2 HL.out.1 hO2 hsz2 (hA2.take m) (hB2.take C) (by omega) (by rw [HL.out.2.1]; omega) (by rw [HL.out.2.1]; omega)
    rw [HL.out.2.1] at h2
    have H2 := Lib.hid h2
    clear h2 hO1 hA1 hB1 hb2 hBw hsz1 hf
    go_wp2_with fail
    refine H2.out.mono ?_; rintro e w3 ⟨v3, rfl, hO3, hb3⟩
    have hA3 := hA2.call hb3
    have hB3 := hB2.call hb3
    have hBw3 := Lib.hid (hBw2.out.trans hb3)
    have hsz3 := Nat.le_trans hsz2 hb3.size
    clear H2 hO2 hA2 hB2 hb3 hBw2 hsz2
    go_wp2_with fail
    refine wp_region_quiet_tail 7 (by kernel_rfl) (by kernel_rfl) ?_
    simp only [List.take_succ_cons, List.take_zero, List.drop_succ_cons, List.drop_zero]
    repeat (go_big_quiet_step (fail))
    have hA4 := hA3.drop m (by rw [hlen]; omega)
    have hB4 := hB3.drop C hcb
    rw [if_neg hne] at hA4
    generalize Option.map (fun x => x.add (m * 7)) pa = qa at *
    generalize (if cb = C then pb else Option.map (fun x => x.add (C * 7)) pb) = qb at *
    refine wpQuiet_nil ?_
    intro _ hw'
    obtain ⟨⟨dq, osq⟩, hw''⟩ := hw'
    subst hw''
    have hb4 := below_regrown w3 dq osq
    generalize grow (redrawn w3 dq) osq = w4 at *
    have h4 := HIH.out (n - m) (by omega) base (S ++ scr ia ib (a.take m) (b.take C)) v3 qa qb (ca - m) (cb - C) (ia + m) (ib + C) (a.drop m) (b.drop C) w4 HL.out.2.2.1 (OwnL.call hO3 hb4) (Nat.le_trans hsz3 hb4.size) (hA4.own hb4) (hB4.own hb4) (by omega) (by rw [HL.out.2.2.2]; omega) (by rw [HL.out.2.2.2, List.length_append]; omega)
    rw [HL.out.2.2.2, List.append_assoc, ← HSP.out] at h4
    have hBw4 := Lib.hid (hBw3.out.trans (hb4.mono hsz3))
    have H4 := Lib.hid h4
    clear h4 hA3 hB3 hA4 hB4 hO3 hb4 hBw3 hsz3
    go_wp2_with fail
    refine H4.out.mono ?_; rintro e w5 ⟨v5, rfl, hO5, hb5⟩
    go_wp2_with fail
    go_ret
    exact ⟨_, rfl, hO5, hBw4.out.trans hb5⟩
end Go.Proofs.Ytjabbiigaioljaa
namespace Go.Proofs.Ytjabbiigaioljaa
open Go.ChangeShapes Go.WideShapes Go.ChangeAt Go.RowKit Go.Sort
set_option linter.unusedVariables false
set_option linter.unusedSimpArgs false
set_option maxRecDepth 100000

set_option maxHeartbeats 3200000 in
theorem align_any (p q : Option Addr) (c d : Nat) (a b : List It) (w : World) (hA : Its w p a) (hB : Its w q b) (hc : a.length ≤ c) (hd : b.length ≤ d) (hcm : c ≤ maxLen) (hdm : d ≤ maxLen) (ha : a.length ≤ 100000) (hb : b.length ≤ 100000) (ta : txtsB a) (tb : txtsB b) :
    Calls Try.prog 24 #[.slice p a.length c, .slice q b.length d] w fun e w' => ∃ v, e = .returned v ∧ OwnE w.heap.size (scr 0 0 a b) v w' ∧ Below w.heap.size w w' := by
  have h1 := fun W h => newparts_any p c a W h hc hcm ha ta
  have h2 := fun W h => newparts_any q d b W h hd hdm hb tb
  have h3 := fun base W g1 g2 hb' hO h h' => appscript_any a.length base [] (.slice none 0 0) (some ⟨g1, 0, none⟩) (some ⟨g2, 0, none⟩) a.length b.length 0 0 a b W rfl hO hb' h h' ha hb (by simp; omega)
  have H1 := Lib.hid h1; have H2 := Lib.hid h2; have H3 := Lib.hid h3
  clear h1 h2 h3
  go_enter Try.func24, Try.ntmps24
  go_wp2_with fail
  refine (H1.out _ hA).mono ?_; rintro e w1 ⟨g1, rfl, hb1, hg1, hP1⟩
  go_wp2_with fail
  refine (H2.out _ (hB.call hb1)).mono ?_; rintro e w2 ⟨g2, rfl, hb2, hg2, hP2⟩
  have hb3 := BelowOn hb1 hb2
  have q1 : PB w2.heap.size w2 (some ⟨g1, 0, none⟩) a.length 0 a := ⟨(hP1.call hb2).rw, fun h0 x hx => by injection hx with hx; subst hx; exact Rw.blk ((hP1.call hb2).rw) (by rw [parts_len]; exact h0) _ rfl, Nat.le_refl _, by unfold maxLen; omega⟩
  have q2 : PB w2.heap.size w2 (some ⟨g2, 0, none⟩) b.length 0 b := ⟨hP2.rw, fun h0 x hx => by injection hx with hx; subst hx; exact Rw.blk hP2.rw (by rw [parts_len]; exact h0) _ rfl, Nat.le_refl _, by unfold maxLen; omega⟩
  have h3 := H3.out w2.heap.size w2 g1 g2 (Nat.le_refl _) (OwnL.nil _ _) q1 q2
  clear q1 q2 hP1 hP2
  go_wp2_with fail
  refine h3.mono ?_; rintro e w3 ⟨v3, rfl, hO3, hb4⟩
  clear h3 H1 H2 H3
  go_wp2_with fail
  go_ret
  exact ⟨_, rfl, ownsRow_base hO3 hb3.size, BelowOn hb3 hb4⟩
end Go.Proofs.Ytjabbiigaioljaa
namespace Go.Proofs.Ytjabbiigaioljaa
open Go.ChangeShapes Go.WideShapes Go.ChangeAt Go.RowKit Go.Sort
set_option linter.unusedVariables false
set_option linter.unusedSimpArgs false
set_option maxRecDepth 100000

abbrev Eds (W : World) (p : Option Addr) (S : List Ed) : Prop := Rw eenc 2 W p S
def prStep (a b : List It) (e : Ed) (i j u : Nat) : Option (Nat × Nat × Nat) :=
  if hA : i < a.length ∧ e.a = (i : Int) then
    if hB : j < b.length ∧ e.b = (j : Int) then
      if okP (a[i]'hA.1) (b[j]'hB.1) = true then some (i + 1, j + 1, u + cst (a[i]'hA.1) (b[j]'hB.1)) else none
    else if e.b = -1 then some (i + 1, j, u + stp (a[i]'hA.1)) else none
  else if hB : j < b.length ∧ e.b = (j : Int) then
    if e.a = -1 then some (i, j + 1, u + stp (b[j]'hB.1)) else none
  else none
def prRun (a b : List It) : List Ed → Nat → Nat → Nat → Option (Nat × Nat × Nat)
  | [], i, j, u => some (i, j, u)
  | e :: S, i, j, u => match prStep a b e i j u with
    | some (i', j', u') => prRun a b S i' j' u'
    | none => none
def prc (a b : List It) (S : List Ed) : Option Nat := match prRun a b S 0 0 0 with
  | some (i, j, u) => if i < a.length ∨ j < b.length then none else some (2 * sur a b + u)
  | none => none
def prO (a b : List It) (S : List Ed) : Nat := (prc a b S).getD 0
def prB (a b : List It) (S : List Ed) : Bool := (prc a b S).isSome
theorem prRun_drop (a b : List It) (S : List Ed) (k i j u : Nat) (h : k < S.length) : prRun a b (S.drop k) i j u = match prStep a b (S[k]'h) i j u with
    | some (i', j', u') => prRun a b (S.drop (k + 1)) i' j' u'
    | none => none := by rw [List.drop_eq_getElem_cons h]; rfl
theorem prc_none {a b : List It} {S : List Ed} (h : prRun a b S 0 0 0 = none) : prO a b S = 0 ∧ prB a b S = false := by unfold prO prB prc; rw [h]; exact ⟨rfl, rfl⟩
theorem prc_short {a b : List It} {S : List Ed} {i j u : Nat} (h : prRun a b S 0 0 0 = some (i, j, u)) (hs : i < a.length ∨ j < b.length) : prO a b S = 0 ∧ prB a b S = false := by
  unfold prO prB prc; rw [h]; simp only; rw [if_pos hs]; exact ⟨rfl, rfl⟩
theorem prc_some {a b : List It} {S : List Ed} {i j u : Nat} (h : prRun a b S 0 0 0 = some (i, j, u)) (hs : ¬ (i < a.length ∨ j < b.length)) : prO a b S = 2 * sur a b + u ∧ prB a b S = true := by
  unfold prO prB prc; rw [h]; simp only; rw [if_neg hs]; exact ⟨rfl, rfl⟩
theorem pr_pair {a b : List It} {e : Ed} {i j u : Nat} (ha : i < a.length) (ea : e.a = (i : Int)) (hb : j < b.length) (eb : e.b = (j : Int)) : prStep a b e i j u = if okP a[i] b[j] = true then some (i + 1, j + 1, u + cst a[i] b[j]) else none := by
  unfold prStep; rw [dif_pos ⟨ha, ea⟩, dif_pos ⟨hb, eb⟩]
theorem pr_del {a b : List It} {e : Ed} {i j u : Nat} (ha : i < a.length) (ea : e.a = (i : Int)) (hb : ¬ (j < b.length ∧ e.b = (j : Int))) : prStep a b e i j u = if e.b = -1 then some (i + 1, j, u + stp a[i]) else none := by
  unfold prStep; rw [dif_pos ⟨ha, ea⟩, dif_neg hb]
theorem pr_ins {a b : List It} {e : Ed} {i j u : Nat} (ha : ¬ (i < a.length ∧ e.a = (i : Int))) (hb : j < b.length) (eb : e.b = (j : Int)) : prStep a b e i j u = if e.a = -1 then some (i, j + 1, u + stp b[j]) else none := by
  unfold prStep; rw [dif_neg ha, dif_pos ⟨hb, eb⟩]
theorem pr_no {a b : List It} {e : Ed} {i j u : Nat} (ha : ¬ (i < a.length ∧ e.a = (i : Int))) (hb : ¬ (j < b.length ∧ e.b = (j : Int))) : prStep a b e i j u = none := by
  unfold prStep; rw [dif_neg ha, dif_neg hb]
theorem drop_at {α : Type} {l r : List α} {i : Nat} {x : α} (h : l.drop i = x :: r) : ∃ hi : i < l.length, l[i]'hi = x ∧ l.drop (i + 1) = r := by
  have hi : i < l.length := by
    rcases Nat.lt_or_ge i l.length with h1 | h1
    · exact h1
    · rw [List.drop_eq_nil_of_le h1] at h; cases h
  rw [List.drop_eq_getElem_cons hi] at h
  injection h with h1 h2
  exact ⟨hi, h1, h2⟩
/-- A path's script is a script, and costs what the path costs. -/
theorem prRun_path {p : List Mv} {a2 b2 : List It} {n : Nat} (h : Pth p a2 b2 n) : ∀ (a b : List It) (i j u : Nat), a.drop i = a2 → b.drop j = b2 → prRun a b (edM p i j) i j u = some (i + a2.length, j + b2.length, u + n) := by
  induction h with
  | nil => intro a b i j u _ _; rfl
  | X x _ ih =>
    intro a b i j u ha hb
    obtain ⟨hi, hx, hr⟩ := drop_at ha
    rw [edM, prRun, pr_del hi rfl (fun h => by have := h.2; simp at this), if_pos rfl]
    simp only
    rw [ih a b (i + 1) j _ hr hb, hx, List.length_cons, Nat.add_assoc u, Nat.add_assoc i, Nat.add_comm 1]
  | I y _ ih =>
    intro a b i j u ha hb
    obtain ⟨hj, hy, hr⟩ := drop_at hb
    rw [edM, prRun, pr_ins (fun h => by have := h.2; simp at this) hj rfl, if_pos rfl]
    simp only
    rw [ih a b i (j + 1) _ ha hr, hy, List.length_cons, Nat.add_assoc u, Nat.add_assoc j, Nat.add_comm 1]
  | P hok _ ih =>
    intro a b i j u ha hb
    obtain ⟨hi, hx, hr⟩ := drop_at ha
    obtain ⟨hj, hy, hs⟩ := drop_at hb
    rw [edM, prRun, pr_pair hi rfl hj rfl, hx, hy, if_pos hok]
    simp only
    rw [ih a b (i + 1) (j + 1) _ hr hs, List.length_cons, List.length_cons, Nat.add_assoc u, Nat.add_assoc i, Nat.add_assoc j, Nat.add_comm 1, Nat.add_comm 1]
theorem prc_path {p : List Mv} {a b : List It} {n : Nat} (h : Pth p a b n) : prO a b (edM p 0 0) = 2 * sur a b + n ∧ prB a b (edM p 0 0) = true := by
  have h1 := prRun_path h a b 0 0 0 rfl rfl
  have h2 := prc_some h1 (by omega)
  rw [Nat.zero_add] at h2
  exact h2
end Go.Proofs.Ytjabbiigaioljaa
namespace Go.Proofs.Ytjabbiigaioljaa
open Go.ChangeShapes Go.WideShapes Go.ChangeAt Go.RowKit Go.Sort
set_option linter.unusedVariables false
set_option linter.unusedSimpArgs false
set_option maxRecDepth 100000

set_option maxHeartbeats 6400000 in
theorem price_any (p q r : Option Addr) (c d f : Nat) (a b : List It) (S : List Ed) (w : World) (hA : Its w p a) (hB : Its w q b) (hS : Eds w r S) (hc : a.length ≤ c) (hd : b.length ≤ d) (hf : S.length ≤ f) (hcm : c ≤ maxLen) (hdm : d ≤ maxLen) (hfm : f ≤ maxLen) (ha : a.length ≤ 100000) (hb : b.length ≤ 100000) (hs : S.length ≤ 1000000) (ta : txtsB a) (tb : txtsB b) :
    Calls Try.prog 18 #[.slice p a.length c, .slice q b.length d, .slice r S.length f] w fun e w' => e = .returned (.tuple #[.int .i64 (prO a b S : Nat), .bool (prB a b S)]) ∧ Below w.heap.size w w' := by
  have h1 := fun W hA hB => surplus_any p q c d a b W hA hB hc hd hcm hdm ha hb ta tb
  have hsl := sur_le a b
  have hsl2 : 2 * sur a b ≤ 80000000000 := by
    have : (a.length + b.length) * (a.length + b.length) ≤ 200000 * 200000 := Nat.mul_le_mul (by omega) (by omega)
    omega
  have hcost := fun x y W hx hy => dcost_any x y W hx hy
  have hstp := fun k t id W => step_any k t id W
  have HNONE := Lib.hid (fun h => prc_none (a := a) (b := b) (S := S) h)
  have HSHORT := Lib.hid (fun i j u h hs => prc_short (a := a) (b := b) (S := S) (i := i) (j := j) (u := u) h hs)
  have HSOME := Lib.hid (fun i j u h hs => prc_some (a := a) (b := b) (S := S) (i := i) (j := j) (u := u) h hs)
  unfold maxLen at hcm hdm hfm
  generalize 2 * sur a b = U at *
  have H1 := Lib.hid h1; have HC := Lib.hid hcost; have HT := Lib.hid hstp
  clear h1 hsl hcost hstp
  have HTA := Lib.hid ta; have HTB := Lib.hid tb
  clear ta tb
  go_enter Try.func18, Try.ntmps18
  go_wp2_with fail
  refine (H1.out _ hA hB).mono ?_; rintro e w1 ⟨rfl, hb1⟩
  clear H1
  go_wp2_with fail
  go_loopw [8, 9, 10, 22] (fun u i j n wr => ∃ k i' j' u' : Nat, k ≤ S.length ∧ n = .int .i64 k ∧ u = .int .i64 ((U : Int) + (u' : Int)) ∧ i = .int .i64 i' ∧ j = .int .i64 j' ∧ i' ≤ a.length ∧ j' ≤ b.length ∧ u' ≤ 4 * k ∧ prRun a b S 0 0 0 = prRun a b (S.drop k) i' j' u' ∧ Below w.heap.size w wr) (fun _ _ _ n _ => S.length - (intOf n).toNat)
  case atStart => exact ⟨0, 0, 0, 0, Nat.zero_le _, rfl, by simp, rfl, rfl, Nat.zero_le _, Nat.zero_le _, Nat.zero_le _, rfl, hb1⟩
  case round =>
    obtain ⟨k, i, j, u, hk, rfl, rfl, rfl, rfl, hi, hj, hu, hR, hB1⟩ := hrel
    by_cases hlt : k < S.length
    · obtain ⟨br, or, rfl, hbr, hps⟩ := (hS.call hB1) (by omega)
      have c0 : wr.cell? ⟨br, or + k * 2, none⟩ = some (.int .i64 (S[k]).a) := (hps k hlt) 0 _ rfl
      have c1 := (hps k hlt) 1 _ rfl
      have hdr := prRun_drop a b S k i j u hlt
      rw [hdr] at hR
      have HR := Lib.hid hR
      have hAr := Lib.hid (hA.call hB1)
      have hBr := Lib.hid (hB.call hB1)
      have HB1 := Lib.hid hB1
      generalize S[k] = E at *
      clear hdr hR hps hB1
      have hv0 := heap_alloc_new wr (.cells #[.int .i64 E.a, .int .i64 E.b] 36)
      have hbv : Below wr.heap.size wr (wr.alloc (.cells #[.int .i64 E.a, .int .i64 E.b] 36)) := blw (Below.refl _ _) _
      have ik : (k : Int) < (S.length : Int) := by omega
      go_wp2_with fail
      have hw1 := BelowOn HB1.out hbv
      have hA1 := hAr.out.call hbv
      have hB1 := hBr.out.call hbv
      generalize (wr.alloc (.cells #[.int .i64 E.a, .int .i64 E.b] 36)) = v1 at *
      have d0 : v1.cell? ⟨wr.heap.size, 0, none⟩ = some (.int .i64 E.a) := by rw [Lib.cell_of_heap hv0]; rfl
      have d1 : v1.cell? ⟨wr.heap.size, 1, none⟩ = some (.int .i64 E.b) := by rw [Lib.cell_of_heap hv0]; rfl
      generalize wr.heap.size = g at *
      clear c0 c1 hv0 hbv hAr hBr HB1 hbr
      have HX := Lib.hid (And.intro hw1 (And.intro hA1 hB1))
      clear hw1 hA1 hB1
      by_cases A1 : (i : Int) < (a.length : Int)
      · by_cases A2 : E.a = (i : Int)
        · skip
          by_cases B1 : (j : Int) < (b.length : Int)
          · by_cases B2 : E.b = (j : Int)
            · have A1n : i < a.length := by omega
              rw [A2] at d0
              have B1n : j < b.length := by omega
              rw [B2] at d1
              have r0 := cell_regrown d0; have r1 := cell_regrown d1
              refine wp_region_quiet_below (by kernel_rfl) (by kernel_rfl) ?_
              repeat (go_big_quiet_step (fail))
              refine wpQuiet_nil ?_
              intro _ hw'
              obtain ⟨⟨dq, osq⟩, hw''⟩ := hw'
              subst hw''
              have hb2 := below_regrown v1 dq osq
              have k0 := r0 dq osq; have k1 := r1 dq osq
              generalize grow (redrawn v1 dq) osq = v2 at *
              clear r0 r1 d0 d1
              have hw2 := BelowOn HX.out.1 hb2
              have hA2 := HX.out.2.1.call hb2
              have hB2 := HX.out.2.2.call hb2
              clear hb2 HX
              have hst := pr_pair (a := a) (b := b) (u := u) A1n A2 B1n B2
              obtain ⟨ad, rfl, had, x0, x1, x2⟩ := hA2.row i A1n
              obtain ⟨bd, rfl, hbd, y0, y1, y2⟩ := hB2.row j B1n
              have hcc := fun W => HC.out a[i] b[j] W (HTA.out _ (List.getElem_mem A1n)) (HTB.out _ (List.getElem_mem B1n))
              have hR := HR.out
              rw [hst] at hR
              have s4 := cst_le4 a[i] b[j]
              have hcO : okP a[i] b[j] = true → cO a[i] b[j] = cst a[i] b[j] := fun h => by unfold cO; rw [if_pos h]
              generalize a[i] = X at *
              generalize b[j] = Y at *
              have HCC := Lib.hid hcc
              have HW0 := Lib.hid hw2
              clear hcc hst HR hw2 hA2 hB2 k0 k1
              cases hok : okP X Y with
              | false =>
                rw [if_neg (by rw [hok]; simp)] at hR
                simp only at hR
                obtain ⟨ee1, ee2⟩ := HNONE.out hR
                have HE := Lib.hid (And.intro ee1 ee2)
                clear ee1 ee2 hcO
                rw [hok] at HCC; clear hR
                go_wp2_with fail
                have q0 := cell_regrown x0; have q1 := cell_regrown x1; have q2 := cell_regrown x2; have q3 := cell_regrown y0; have q4 := cell_regrown y1; have q5 := cell_regrown y2
                have e1 := fun d os => Calls.regrown_of (HCC.out (grow (redrawn v2 d) os))
                refine wp_region_quiet_below (by kernel_rfl) (by kernel_rfl) ?_
                repeat (go_big_quiet_step (exact e1 _ _))
                refine wpQuiet_nil ?_
                intro _ hw'
                obtain ⟨⟨dq, osq⟩, hw''⟩ := hw'
                subst hw''
                have hb3 := below_regrown v2 dq osq
                generalize grow (redrawn v2 dq) osq = v3 at *
                clear q0 q1 q2 q3 q4 q5 e1 x0 x1 x2 y0 y1 y2
                have HW := Lib.hid (BelowOn HW0.out hb3)
                clear hb3 HCC HW0
                go_wp2_with fail
                go_ret2
                exact ⟨by rw [HE.out.1, HE.out.2]; rfl, HW.out⟩
              | true =>
                rw [if_pos hok] at hR
                simp only at hR
                have hcO2 := hcO hok
                rw [hcO2] at HCC
                have HR2 := Lib.hid hR
                generalize cst X Y = T at *
                clear hR hcO hcO2
                rw [hok] at HCC
                go_wp2_with fail
                have q0 := cell_regrown x0; have q1 := cell_regrown x1; have q2 := cell_regrown x2; have q3 := cell_regrown y0; have q4 := cell_regrown y1; have q5 := cell_regrown y2
                have e1 := fun d os => Calls.regrown_of (HCC.out (grow (redrawn v2 d) os))
                refine wp_region_quiet_below (by kernel_rfl) (by kernel_rfl) ?_
                repeat (go_big_quiet_step (exact e1 _ _))
                refine wpQuiet_nil ?_
                intro _ hw'
                obtain ⟨⟨dq, osq⟩, hw''⟩ := hw'
                subst hw''
                have hb3 := below_regrown v2 dq osq
                generalize grow (redrawn v2 dq) osq = v3 at *
                clear q0 q1 q2 q3 q4 q5 e1 x0 x1 x2 y0 y1 y2
                have HW := Lib.hid (BelowOn HW0.out hb3)
                clear hb3 HCC HW0
                go_wp2_with fail
                go_roundw
                case rel => exact ⟨k + 1, i + 1, j + 1, u + T, hlt, by go_num, by simp [Int.add_assoc], by go_num, by go_num, by omega, by omega, by omega, HR2.out, HW.out⟩
                case measure => simp [intOf]; omega
            · have A1n : i < a.length := by omega
              rw [A2] at d0
              have r0 := cell_regrown d0; have r1 := cell_regrown d1
              refine wp_region_quiet_below (by kernel_rfl) (by kernel_rfl) ?_
              repeat (go_big_quiet_step (fail))
              refine wpQuiet_nil ?_
              intro _ hw'
              obtain ⟨⟨dq, osq⟩, hw''⟩ := hw'
              subst hw''
              have hb2 := below_regrown v1 dq osq
              have k0 := r0 dq osq; have k1 := r1 dq osq
              generalize grow (redrawn v1 dq) osq = v2 at *
              clear r0 r1 d0 d1
              have hw2 := BelowOn HX.out.1 hb2
              have hA2 := HX.out.2.1.call hb2
              have hB2 := HX.out.2.2.call hb2
              clear hb2 HX
              have hst := pr_del (a := a) (b := b) (u := u) A1n A2 (fun h => B2 h.2)
              by_cases hC : E.b = -1
              · rw [hC] at k1
                have hR := HR.out
                rw [hst, if_pos hC] at hR
                simp only at hR
                obtain ⟨ad, rfl, had, x0, x1, x2⟩ := hA2.row i A1n
                have hs := HT.out (a[i]).k (a[i]).t (a[i]).id v2
                have s4 := stp_le4 a[i]
                have hee : stp ⟨(a[i]).k, (a[i]).t, (a[i]).id⟩ = stp a[i] := rfl
                rw [hee] at hs
                have HS1 := Lib.hid hs
                have HR2 := Lib.hid hR
                have HW0 := Lib.hid hw2
                generalize stp a[i] = T at *
                clear hs hR HR hst hee hw2 hA2 hB2
                go_wp2_with fail
                refine HS1.out.mono ?_; rintro e v3 ⟨rfl, hb3⟩
                have HW := Lib.hid (BelowOn HW0.out hb3)
                clear hb3 HS1 HW0 x0 x1 x2 had k0 k1
                go_wp2_with fail
                go_roundw
                case rel => exact ⟨k + 1, i + 1, j, u + T, hlt, by go_num, by simp [Int.add_assoc], by go_num, by go_num, by omega, by omega, by omega, HR2.out, HW.out⟩
                case measure => simp [intOf]; omega
              · have hst2 : prStep a b E i j u = none := by rw [hst, if_neg hC]
                have hR := HR.out
                rw [hst2] at hR
                simp only at hR
                obtain ⟨e1, e2⟩ := HNONE.out hR
                have HE := Lib.hid (And.intro e1 e2)
                have HW := Lib.hid hw2
                clear e1 e2 hR HR hw2 hA2 hB2
                go_wp2_with fail
                go_ret2
                exact ⟨by rw [HE.out.1, HE.out.2]; rfl, HW.out⟩
          · have A1n : i < a.length := by omega
            rw [A2] at d0
            have r0 := cell_regrown d0; have r1 := cell_regrown d1
            refine wp_region_quiet_below (by kernel_rfl) (by kernel_rfl) ?_
            repeat (go_big_quiet_step (fail))
            refine wpQuiet_nil ?_
            intro _ hw'
            obtain ⟨⟨dq, osq⟩, hw''⟩ := hw'
            subst hw''
            have hb2 := below_regrown v1 dq osq
            have k0 := r0 dq osq; have k1 := r1 dq osq
            generalize grow (redrawn v1 dq) osq = v2 at *
            clear r0 r1 d0 d1
            have hw2 := BelowOn HX.out.1 hb2
            have hA2 := HX.out.2.1.call hb2
            have hB2 := HX.out.2.2.call hb2
            clear hb2 HX
            have hst := pr_del (a := a) (b := b) (u := u) A1n A2 (fun h => B1 (Int.ofNat_lt.2 h.1))
            by_cases hC : E.b = -1
            · rw [hC] at k1
              have hR := HR.out
              rw [hst, if_pos hC] at hR
              simp only at hR
              obtain ⟨ad, rfl, had, x0, x1, x2⟩ := hA2.row i A1n
              have hs := HT.out (a[i]).k (a[i]).t (a[i]).id v2
              have s4 := stp_le4 a[i]
              have hee : stp ⟨(a[i]).k, (a[i]).t, (a[i]).id⟩ = stp a[i] := rfl
              rw [hee] at hs
              have HS1 := Lib.hid hs
              have HR2 := Lib.hid hR
              have HW0 := Lib.hid hw2
              generalize stp a[i] = T at *
              clear hs hR HR hst hee hw2 hA2 hB2
              go_wp2_with fail
              refine HS1.out.mono ?_; rintro e v3 ⟨rfl, hb3⟩
              have HW := Lib.hid (BelowOn HW0.out hb3)
              clear hb3 HS1 HW0 x0 x1 x2 had k0 k1
              go_wp2_with fail
              go_roundw
              case rel => exact ⟨k + 1, i + 1, j, u + T, hlt, by go_num, by simp [Int.add_assoc], by go_num, by go_num, by omega, by omega, by omega, HR2.out, HW.out⟩
              case measure => simp [intOf]; omega
            · have hst2 : prStep a b E i j u = none := by rw [hst, if_neg hC]
              have hR := HR.out
              rw [hst2] at hR
              simp only at hR
              obtain ⟨e1, e2⟩ := HNONE.out hR
              have HE := Lib.hid (And.intro e1 e2)
              have HW := Lib.hid hw2
              clear e1 e2 hR HR hw2 hA2 hB2
              go_wp2_with fail
              go_ret2
              exact ⟨by rw [HE.out.1, HE.out.2]; rfl, HW.out⟩
        · skip
          by_cases B1 : (j : Int) < (b.length : Int)
          · by_cases B2 : E.b = (j : Int)
            · have B1n : j < b.length := by omega
              rw [B2] at d1
              have r0 := cell_regrown d0; have r1 := cell_regrown d1
              refine wp_region_quiet_below (by kernel_rfl) (by kernel_rfl) ?_
              repeat (go_big_quiet_step (fail))
              refine wpQuiet_nil ?_
              intro _ hw'
              obtain ⟨⟨dq, osq⟩, hw''⟩ := hw'
              subst hw''
              have hb2 := below_regrown v1 dq osq
              have k0 := r0 dq osq; have k1 := r1 dq osq
              generalize grow (redrawn v1 dq) osq = v2 at *
              clear r0 r1 d0 d1
              have hw2 := BelowOn HX.out.1 hb2
              have hA2 := HX.out.2.1.call hb2
              have hB2 := HX.out.2.2.call hb2
              clear hb2 HX
              have hst := pr_ins (a := a) (b := b) (u := u) (fun h => A2 h.2) B1n B2
              by_cases hC : E.a = -1
              · rw [hC] at k0
                have hR := HR.out
                rw [hst, if_pos hC] at hR
                simp only at hR
                obtain ⟨ad, rfl, had, x0, x1, x2⟩ := hB2.row j B1n
                have hs := HT.out (b[j]).k (b[j]).t (b[j]).id v2
                have s4 := stp_le4 b[j]
                have hee : stp ⟨(b[j]).k, (b[j]).t, (b[j]).id⟩ = stp b[j] := rfl
                rw [hee] at hs
                have HS1 := Lib.hid hs
                have HR2 := Lib.hid hR
                have HW0 := Lib.hid hw2
                generalize stp b[j] = T at *
                clear hs hR HR hst hee hw2 hA2 hB2
                go_wp2_with fail
                refine HS1.out.mono ?_; rintro e v3 ⟨rfl, hb3⟩
                have HW := Lib.hid (BelowOn HW0.out hb3)
                clear hb3 HS1 HW0 x0 x1 x2 had k0 k1
                go_wp2_with fail
                go_roundw
                case rel => exact ⟨k + 1, i, j + 1, u + T, hlt, by go_num, by simp [Int.add_assoc], by go_num, by go_num, by omega, by omega, by omega, HR2.out, HW.out⟩
                case measure => simp [intOf]; omega
              · have hst2 : prStep a b E i j u = none := by rw [hst, if_neg hC]
                have hR := HR.out
                rw [hst2] at hR
                simp only at hR
                obtain ⟨e1, e2⟩ := HNONE.out hR
                have HE := Lib.hid (And.intro e1 e2)
                have HW := Lib.hid hw2
                clear e1 e2 hR HR hw2 hA2 hB2
                go_wp2_with fail
                go_ret2
                exact ⟨by rw [HE.out.1, HE.out.2]; rfl, HW.out⟩
            · have r0 := cell_regrown d0; have r1 := cell_regrown d1
              refine wp_region_quiet_below (by kernel_rfl) (by kernel_rfl) ?_
              repeat (go_big_quiet_step (fail))
              refine wpQuiet_nil ?_
              intro _ hw'
              obtain ⟨⟨dq, osq⟩, hw''⟩ := hw'
              subst hw''
              have hb2 := below_regrown v1 dq osq
              have k0 := r0 dq osq; have k1 := r1 dq osq
              generalize grow (redrawn v1 dq) osq = v2 at *
              clear r0 r1 d0 d1
              have hw2 := BelowOn HX.out.1 hb2
              have hA2 := HX.out.2.1.call hb2
              have hB2 := HX.out.2.2.call hb2
              clear hb2 HX
              have hst2 := pr_no (a := a) (b := b) (e := E) (i := i) (j := j) (u := u) (fun h => A2 h.2) (fun h => B2 h.2)
              have hR := HR.out
              rw [hst2] at hR
              simp only at hR
              obtain ⟨e1, e2⟩ := HNONE.out hR
              have HE := Lib.hid (And.intro e1 e2)
              have HW := Lib.hid hw2
              clear e1 e2 hR HR hw2 hA2 hB2
              go_wp2_with fail
              go_ret2
              exact ⟨by rw [HE.out.1, HE.out.2]; rfl, HW.out⟩
          · have r0 := cell_regrown d0; have r1 := cell_regrown d1
            refine wp_region_quiet_below (by kernel_rfl) (by kernel_rfl) ?_
            repeat (go_big_quiet_step (fail))
            refine wpQuiet_nil ?_
            intro _ hw'
            obtain ⟨⟨dq, osq⟩, hw''⟩ := hw'
            subst hw''
            have hb2 := below_regrown v1 dq osq
            have k0 := r0 dq osq; have k1 := r1 dq osq
            generalize grow (redrawn v1 dq) osq = v2 at *
            clear r0 r1 d0 d1
            have hw2 := BelowOn HX.out.1 hb2
            have hA2 := HX.out.2.1.call hb2
            have hB2 := HX.out.2.2.call hb2
            clear hb2 HX
            have hst2 := pr_no (a := a) (b := b) (e := E) (i := i) (j := j) (u := u) (fun h => A2 h.2) (fun h => B1 (Int.ofNat_lt.2 h.1))
            have hR := HR.out
            rw [hst2] at hR
            simp only at hR
            obtain ⟨e1, e2⟩ := HNONE.out hR
            have HE := Lib.hid (And.intro e1 e2)
            have HW := Lib.hid hw2
            clear e1 e2 hR HR hw2 hA2 hB2
            go_wp2_with fail
            go_ret2
            exact ⟨by rw [HE.out.1, HE.out.2]; rfl, HW.out⟩
      · skip
        by_cases B1 : (j : Int) < (b.length : Int)
        · by_cases B2 : E.b = (j : Int)
          · have B1n : j < b.length := by omega
            rw [B2] at d1
            have r0 := cell_regrown d0; have r1 := cell_regrown d1
            refine wp_region_quiet_below (by kernel_rfl) (by kernel_rfl) ?_
            repeat (go_big_quiet_step (fail))
            refine wpQuiet_nil ?_
            intro _ hw'
            obtain ⟨⟨dq, osq⟩, hw''⟩ := hw'
            subst hw''
            have hb2 := below_regrown v1 dq osq
            have k0 := r0 dq osq; have k1 := r1 dq osq
            generalize grow (redrawn v1 dq) osq = v2 at *
            clear r0 r1 d0 d1
            have hw2 := BelowOn HX.out.1 hb2
            have hA2 := HX.out.2.1.call hb2
            have hB2 := HX.out.2.2.call hb2
            clear hb2 HX
            have hst := pr_ins (a := a) (b := b) (u := u) (fun h => A1 (Int.ofNat_lt.2 h.1)) B1n B2
            by_cases hC : E.a = -1
            · rw [hC] at k0
              have hR := HR.out
              rw [hst, if_pos hC] at hR
              simp only at hR
              obtain ⟨ad, rfl, had, x0, x1, x2⟩ := hB2.row j B1n
              have hs := HT.out (b[j]).k (b[j]).t (b[j]).id v2
              have s4 := stp_le4 b[j]
              have hee : stp ⟨(b[j]).k, (b[j]).t, (b[j]).id⟩ = stp b[j] := rfl
              rw [hee] at hs
              have HS1 := Lib.hid hs
              have HR2 := Lib.hid hR
              have HW0 := Lib.hid hw2
              generalize stp b[j] = T at *
              clear hs hR HR hst hee hw2 hA2 hB2
              go_wp2_with fail
              refine HS1.out.mono ?_; rintro e v3 ⟨rfl, hb3⟩
              have HW := Lib.hid (BelowOn HW0.out hb3)
              clear hb3 HS1 HW0 x0 x1 x2 had k0 k1
              go_wp2_with fail
              go_roundw
              case rel => exact ⟨k + 1, i, j + 1, u + T, hlt, by go_num, by simp [Int.add_assoc], by go_num, by go_num, by omega, by omega, by omega, HR2.out, HW.out⟩
              case measure => simp [intOf]; omega
            · have hst2 : prStep a b E i j u = none := by rw [hst, if_neg hC]
              have hR := HR.out
              rw [hst2] at hR
              simp only at hR
              obtain ⟨e1, e2⟩ := HNONE.out hR
              have HE := Lib.hid (And.intro e1 e2)
              have HW := Lib.hid hw2
              clear e1 e2 hR HR hw2 hA2 hB2
              go_wp2_with fail
              go_ret2
              exact ⟨by rw [HE.out.1, HE.out.2]; rfl, HW.out⟩
          · have r0 := cell_regrown d0; have r1 := cell_regrown d1
            refine wp_region_quiet_below (by kernel_rfl) (by kernel_rfl) ?_
            repeat (go_big_quiet_step (fail))
            refine wpQuiet_nil ?_
            intro _ hw'
            obtain ⟨⟨dq, osq⟩, hw''⟩ := hw'
            subst hw''
            have hb2 := below_regrown v1 dq osq
            have k0 := r0 dq osq; have k1 := r1 dq osq
            generalize grow (redrawn v1 dq) osq = v2 at *
            clear r0 r1 d0 d1
            have hw2 := BelowOn HX.out.1 hb2
            have hA2 := HX.out.2.1.call hb2
            have hB2 := HX.out.2.2.call hb2
            clear hb2 HX
            have hst2 := pr_no (a := a) (b := b) (e := E) (i := i) (j := j) (u := u) (fun h => A1 (Int.ofNat_lt.2 h.1)) (fun h => B2 h.2)
            have hR := HR.out
            rw [hst2] at hR
            simp only at hR
            obtain ⟨e1, e2⟩ := HNONE.out hR
            have HE := Lib.hid (And.intro e1 e2)
            have HW := Lib.hid hw2
            clear e1 e2 hR HR hw2 hA2 hB2
            go_wp2_with fail
            go_ret2
            exact ⟨by rw [HE.out.1, HE.out.2]; rfl, HW.out⟩
        · have r0 := cell_regrown d0; have r1 := cell_regrown d1
          refine wp_region_quiet_below (by kernel_rfl) (by kernel_rfl) ?_
          repeat (go_big_quiet_step (fail))
          refine wpQuiet_nil ?_
          intro _ hw'
          obtain ⟨⟨dq, osq⟩, hw''⟩ := hw'
          subst hw''
          have hb2 := below_regrown v1 dq osq
          have k0 := r0 dq osq; have k1 := r1 dq osq
          generalize grow (redrawn v1 dq) osq = v2 at *
          clear r0 r1 d0 d1
          have hw2 := BelowOn HX.out.1 hb2
          have hA2 := HX.out.2.1.call hb2
          have hB2 := HX.out.2.2.call hb2
          clear hb2 HX
          have hst2 := pr_no (a := a) (b := b) (e := E) (i := i) (j := j) (u := u) (fun h => A1 (Int.ofNat_lt.2 h.1)) (fun h => B1 (Int.ofNat_lt.2 h.1))
          have hR := HR.out
          rw [hst2] at hR
          simp only at hR
          obtain ⟨e1, e2⟩ := HNONE.out hR
          have HE := Lib.hid (And.intro e1 e2)
          have HW := Lib.hid hw2
          clear e1 e2 hR HR hw2 hA2 hB2
          go_wp2_with fail
          go_ret2
          exact ⟨by rw [HE.out.1, HE.out.2]; rfl, HW.out⟩
    · obtain rfl : k = S.length := by omega
      rw [List.drop_length, prRun] at hR
      have HB1 := Lib.hid hB1
      clear hB1
      by_cases F1 : (i : Int) < (a.length : Int)
      · obtain ⟨e1, e2⟩ := HSHORT.out _ _ _ hR (.inl (by omega))
        have HE := Lib.hid (And.intro e1 e2)
        clear e1 e2 hR
        go_wp2_with fail
        go_ret2
        exact ⟨by rw [HE.out.1, HE.out.2]; rfl, HB1.out⟩
      · by_cases F2 : (j : Int) < (b.length : Int)
        · obtain ⟨e1, e2⟩ := HSHORT.out _ _ _ hR (.inr (by omega))
          have HE := Lib.hid (And.intro e1 e2)
          clear e1 e2 hR
          go_wp2_with fail
          go_ret2
          exact ⟨by rw [HE.out.1, HE.out.2]; rfl, HB1.out⟩
        · obtain ⟨e1, e2⟩ := HSOME.out _ _ _ hR (by omega)
          have HE := Lib.hid (And.intro e1 e2)
          clear e1 e2 hR
          go_wp2_with fail
          go_ret2
          exact ⟨by rw [HE.out.1, HE.out.2]; simp, HB1.out⟩
end Go.Proofs.Ytjabbiigaioljaa
namespace Go.Proofs.Ytjabbiigaioljaa
open Go.ChangeShapes Go.WideShapes Go.ChangeAt Go.RowKit Go.Sort
set_option linter.unusedVariables false
set_option linter.unusedSimpArgs false
set_option maxRecDepth 100000

theorem Pth.app {p1 : List Mv} {a1 b1 : List It} {n1 : Nat} (h : Pth p1 a1 b1 n1) {p2 : List Mv} {a2 b2 : List It} {n2 : Nat} (k : Pth p2 a2 b2 n2) : Pth (p1 ++ p2) (a1 ++ a2) (b1 ++ b2) (n1 + n2) := by
  induction h with
  | nil => rw [Nat.zero_add]; exact k
  | X x _ ih => rw [Nat.add_assoc]; exact .X x ih
  | I y _ ih => rw [Nat.add_assoc]; exact .I y ih
  | P ho _ ih => rw [Nat.add_assoc]; exact .P ho ih
/-- A path up to the i-th and the j-th token, and its script. -/
structure PS (A B : List It) (i j : Nat) (S : List Ed) : Prop where
  path : ∃ P n, Pth P (A.take i) (B.take j) n ∧ S = edM P 0 0
  li : i ≤ A.length
  lj : j ≤ B.length
  sl : S.length ≤ i + j
theorem PS.zero (A B : List It) : PS A B 0 0 [] := ⟨⟨[], 0, .nil, rfl⟩, Nat.zero_le _, Nat.zero_le _, Nat.zero_le _⟩
theorem PS.pair {A B : List It} {i j : Nat} {S : List Ed} (h : PS A B i j S) (hi : i < A.length) (hj : j < B.length) (ho : okP A[i] B[j] = true) : PS A B (i + 1) (j + 1) (S ++ [⟨i, j⟩]) := by
  obtain ⟨P, n, hp, rfl⟩ := h.path
  refine ⟨⟨P ++ [.P], n + (cst A[i] B[j] + 0), ?_, ?_⟩, hi, hj, by have := h.sl; rw [List.length_append]; simp; omega⟩
  · rw [List.take_succ_eq_append_getElem hi, List.take_succ_eq_append_getElem hj]; exact hp.app (.P ho .nil)
  · rw [edM_app hp]; simp [edM, Nat.min_eq_left h.li, Nat.min_eq_left h.lj]
theorem PS.del {A B : List It} {i j : Nat} {S : List Ed} (h : PS A B i j S) (hi : i < A.length) : PS A B (i + 1) j (S ++ [⟨i, -1⟩]) := by
  obtain ⟨P, n, hp, rfl⟩ := h.path
  refine ⟨⟨P ++ [.X], n + (stp A[i] + 0), ?_, ?_⟩, hi, h.lj, by have := h.sl; rw [List.length_append]; simp; omega⟩
  · rw [List.take_succ_eq_append_getElem hi]; have := hp.app (Pth.X A[i] .nil); rwa [List.append_nil] at this
  · rw [edM_app hp]; simp [edM, Nat.min_eq_left h.li]
theorem PS.ins {A B : List It} {i j : Nat} {S : List Ed} (h : PS A B i j S) (hj : j < B.length) : PS A B i (j + 1) (S ++ [⟨-1, j⟩]) := by
  obtain ⟨P, n, hp, rfl⟩ := h.path
  refine ⟨⟨P ++ [.I], n + (stp B[j] + 0), ?_, ?_⟩, h.li, hj, by have := h.sl; rw [List.length_append]; simp; omega⟩
  · rw [List.take_succ_eq_append_getElem hj]; have := hp.app (Pth.I B[j] .nil); rwa [List.append_nil] at this
  · rw [edM_app hp]; simp [edM, Nat.min_eq_left h.lj]
theorem PS.price {A B : List It} {S : List Ed} (h : PS A B A.length B.length S) : prB A B S = true ∧ dis A B ≤ prO A B S := by
  obtain ⟨P, n, hp, rfl⟩ := h.path
  rw [List.take_length, List.take_length] at hp
  obtain ⟨h1, h2⟩ := prc_path hp
  refine ⟨h2, ?_⟩
  rw [h1]
  have := dst_al hp.al
  unfold dis; omega
theorem align_price (A B : List It) : prO A B (scr 0 0 A B) = dis A B ∧ prB A B (scr 0 0 A B) = true := by
  obtain ⟨h1, h2⟩ := prc_path (can_pth A B)
  refine ⟨?_, h2⟩
  unfold scr
  rw [h1]
  unfold dis; omega
theorem own_eds {base : Nat} {S : List Ed} {v : Value} {W : World} (h : OwnE base S v W) : ∃ p c, v = .slice p S.length c ∧ S.length ≤ c ∧ c ≤ maxLen ∧ Eds W p S := by
  rcases h.2 with ⟨hv, h0⟩ | ⟨g, cap, cur, hv, hg, hh, hn, hm, hs, ht⟩
  · have : S = [] := List.length_eq_zero_iff.1 h0
    subst this
    exact ⟨none, 0, hv, Nat.le_refl _, Nat.zero_le _, Rw.nil _ _⟩
  · refine ⟨some ⟨g, 0, none⟩, cap, hv, hn, hm, fun _ => ⟨g, 0, rfl, ?_, fun i hi => ?_⟩⟩
    · rcases Nat.lt_or_ge g W.heap.size with hlt | hge
      · exact hlt
      · rw [Array.getElem?_eq_none hge] at hh; cases hh
    · have hc := World.ownsRow.cells h (g := g) (by rw [hv]; rfl)
      intro j u hu
      rw [Nat.zero_add]
      have ad : (⟨g, 0, none⟩ : Addr).add (i * 2 + j) = ⟨g, i * 2 + j, none⟩ := by unfold Addr.add; split <;> simp_all
      rw [← ad]
      refine hc _ _ ?_
      have key : ∀ (L : List Ed) (i : Nat) (hi : i < L.length), (eenc (L[i]'hi))[j]? = some u → (cellsOf eenc L)[i * 2 + j]? = some u := by
        intro L
        induction L with
        | nil => intro i hi; cases hi
        | cons x L ih =>
          intro i hi hv
          unfold cellsOf at ih ⊢
          rw [List.flatMap_cons]
          have hj : j < 2 := (List.getElem?_eq_some_iff.1 hu).1
          have e2 : ∀ x : Ed, (eenc x).length = 2 := fun _ => rfl
          cases i with
          | zero => rw [List.getElem?_append_left (by rw [e2]; omega), Nat.zero_mul, Nat.zero_add]; exact hv
          | succ i => rw [List.getElem?_append_right (by rw [e2]; omega), e2, show (i + 1) * 2 + j - 2 = i * 2 + j by omega]; exact ih i (by simpa using hi) hv
      exact key S i hi hu
/-- All that the law's loop carries. -/
structure AF (w : World) (base bN : Nat) (pa pb : Option Addr) (ca cb : Nat) (A B : List It) (pn : Option Addr) (cn : Nat) (L : List Int) (S : List Ed) (v : Value) (m : Nat) (W : World) : Prop where
  nm : NumsAt W bN pn cn L m
  da : Dr W pa ca A
  db : Dr W pb cb B
  la : 0 < A.length → ∀ x, pa = some x → x.block < bN
  lb : 0 < B.length → ∀ x, pb = some x → x.block < bN
  ln : 0 < L.length → ∀ x, pn = some x → x.block < bN
  hb : bN < base
  sz : base ≤ W.heap.size
  bw : Below w.heap.size w W
  own : OwnE base S v W
  w0 : w.heap.size ≤ bN
variable {w : World} {base bN : Nat} {pa pb : Option Addr} {ca cb : Nat} {A B : List It} {pn : Option Addr} {cn : Nat} {L : List Int} {S : List Ed} {v : Value} {m : Nat} {W W' : World}
theorem AF.call (h : AF w base bN pa pb ca cb A B pn cn L S v m W) (hb : Below W.heap.size W W') : AF w base bN pa pb ca cb A B pn cn L S v m W' :=
  ⟨h.nm.call hb, h.da.call hb, h.db.call hb, h.la, h.lb, h.ln, h.hb, Nat.le_trans h.sz hb.size, BelowOn h.bw hb, OwnL.call h.own hb, h.w0⟩
theorem AF.next (h : AF w base bN pa pb ca cb A B pn cn L S v m W) (hg : W.grownBy W' (some bN)) (hn : NumsAt W' bN pn cn L (m + 1)) : AF w base bN pa pb ca cb A B pn cn L S v (m + 1) W' :=
  ⟨hn, ⟨fun h0 => (Its.other h.da.its hg (fun a ha => by have := h.la h0 a ha; omega)) h0, h.da.le, h.da.cm, h.da.len, h.da.txt⟩, ⟨fun h0 => (Its.other h.db.its hg (fun a ha => by have := h.lb h0 a ha; omega)) h0, h.db.le, h.db.cm, h.db.len, h.db.txt⟩,
    h.la, h.lb, h.ln, h.hb, Nat.le_trans h.sz hg.size, below_of_grow h.bw hg h.bw.size h.w0,
    ownsRow_same h.own (fun i hi => hg.block i (World.ownsRow.lt h.own i hi).2 (fun e => by injection e with e; have := (World.ownsRow.lt h.own i hi).1; have := h.hb; omega)), h.w0⟩
theorem AF.push (h : AF w base bN pa pb ca cb A B pn cn L S v m W) {S' : List Ed} {v' : Value} (hb : Below base W W') (ho : OwnE base S' v' W') : AF w base bN pa pb ca cb A B pn cn L S' v' m W' :=
  ⟨⟨(hb.block bN h.hb).trans h.nm.hh, ones_keep h.nm.ones hb.size (fun h0 a ha => hb.block _ (Nat.lt_trans (h.ln h0 a ha) h.hb)), h.nm.ap, h.nm.wf, h.nm.le, h.nm.cm⟩,
    ⟨fun h0 => (Its.under h.da.its hb (fun a ha => Nat.lt_trans (h.la h0 a ha) h.hb)) h0, h.da.le, h.da.cm, h.da.len, h.da.txt⟩, ⟨fun h0 => (Its.under h.db.its hb (fun a ha => Nat.lt_trans (h.lb h0 a ha) h.hb)) h0, h.db.le, h.db.cm, h.db.len, h.db.txt⟩,
    h.la, h.lb, h.ln, h.hb, Nat.le_trans h.sz hb.size, h.bw.trans (hb.mono (Nat.le_of_lt (Nat.lt_of_le_of_lt h.w0 h.hb))), ho, h.w0⟩
end Go.Proofs.Ytjabbiigaioljaa
namespace Go.Proofs.Ytjabbiigaioljaa
open Go.ChangeShapes Go.WideShapes Go.ChangeAt Go.RowKit Go.Sort
set_option linter.unusedVariables false
set_option linter.unusedSimpArgs false
set_option maxRecDepth 100000

theorem Dr.align {W : World} {p q : Option Addr} {c d : Nat} {A B : List It} (h : Dr W p c A) (k : Dr W q d B) : Calls Try.prog 24 #[.slice p A.length c, .slice q B.length d] W fun e w' => ∃ v, e = .returned v ∧ OwnE W.heap.size (scr 0 0 A B) v w' ∧ Below W.heap.size W w' :=
  align_any p q c d A B W h.its k.its h.le k.le h.cm k.cm (Nat.le_trans h.len (by omega)) (Nat.le_trans k.len (by omega)) h.txt k.txt
theorem Dr.price {W : World} {p q r : Option Addr} {c d f : Nat} {A B : List It} {S : List Ed} (h : Dr W p c A) (k : Dr W q d B) (hS : Eds W r S) (hf : S.length ≤ f) (hfm : f ≤ maxLen) (hl : S.length ≤ 1000) : Calls Try.prog 18 #[.slice p A.length c, .slice q B.length d, .slice r S.length f] W fun e w' => e = .returned (.tuple #[.int .i64 (prO A B S : Nat), .bool (prB A B S)]) ∧ Below W.heap.size W w' :=
  price_any p q r c d f A B S W h.its k.its hS h.le k.le hf h.cm k.cm hfm (Nat.le_trans h.len (by omega)) (Nat.le_trans k.len (by omega)) (by omega) h.txt k.txt
set_option maxHeartbeats 12800000 in
theorem aligns_law (p0 : Option Addr) (c0 : Nat) (l : List Int) (p1 : Option Addr) (c1 : Nat) (m : List Int) (p2 : Option Addr) (c2 : Nat) (ch : List Int) (w : World)
    (r0 : Ones w (Value.int .i64) p0 l) (o0 : ∀ i (h : i < l.length), (Lit.int .i64 (l[i]'h)).wf = true) (n0 : l.length ≤ c0) (m0 : c0 ≤ maxLen)
    (r1 : Ones w (Value.int .i64) p1 m) (o1 : ∀ i (h : i < m.length), (Lit.int .i64 (m[i]'h)).wf = true) (n1 : m.length ≤ c1) (m1 : c1 ≤ maxLen)
    (r2 : Ones w (Value.int .i64) p2 ch) (o2 : ∀ i (h : i < ch.length), (Lit.int .i64 (ch[i]'h)).wf = true) (n2 : ch.length ≤ c2) (m2 : c2 ≤ maxLen) :
    Calls Try.prog 8 #[.slice p0 l.length c0, .slice p1 m.length c1, .slice p2 ch.length c2] w fun e w' => e = .returned (.bool true) ∧ Below w.heap.size w w' := by
  have hM0 := dmade_any p0 c0 l 14 w r0 o0 n0 m0 (by omega)
  have hM1 := fun W h => dmade_any p1 c1 m 14 W h o1 n1 m1 (by omega)
  have hNM := fun W h => @NumsAt.made p2 c2 ch W h o2 n2 m2
  have M0 := Lib.hid hM0; have M1 := Lib.hid hM1; have NM := Lib.hid hNM
  have R1 := Lib.hid r1; have R2 := Lib.hid r2
  clear hM0 hM1 hNM r0 r1 r2 o0 o1 o2
  unfold maxLen at m0 m1 m2
  by_cases z0 : 60 < l.length
  · go_enter Try.func8, Try.ntmps8
    go_wp2_with fail
    refine (known_any _).mono ?_; rintro e w1 ⟨rfl, hb⟩
    go_wp2_with fail
    go_ret
    exact ⟨rfl, hb⟩
  by_cases z1 : 60 < m.length
  · go_enter Try.func8, Try.ntmps8
    go_wp2_with fail
    refine (known_any _).mono ?_; rintro e w1 ⟨rfl, hb⟩
    go_wp2_with fail
    go_ret
    exact ⟨rfl, hb⟩
  go_enter Try.func8, Try.ntmps8
  go_wp2_with fail
  refine M0.out.mono ?_; rintro e w1 hE
  obtain ⟨pa, ca, rfl, hA, hb1⟩ := dr_made (by omega) hE
  clear hE
  go_wp2_with fail
  refine (M1.out _ (R1.out.call hb1)).mono ?_; rintro e w2 hE
  obtain ⟨pb, cb, rfl, hB, hb2⟩ := dr_made (by omega) hE
  clear hE
  replace hA := hA.call hb2
  have hW := BelowOn hb1 hb2
  have lA := mkD_len l 14; have lB := mkD_len m 14
  clear hb1 hb2 M0 M1 R1
  generalize mkD l 14 = A at *
  generalize mkD m 14 = B at *
  go_wp2_with fail
  refine (hA.dist hB).mono ?_; rintro e w3 ⟨rfl, hb⟩
  replace hA := hA.call hb; replace hB := hB.call hb; replace hW := BelowOn hW hb
  clear hb
  have hPP := fun S (h : PS A B A.length B.length S) => h.price
  have HPP := Lib.hid hPP
  have hap := align_price A B
  have hsl := scr_len 0 0 A B
  clear hPP
  generalize dis A B = D at *
  go_wp2_with fail
  refine (hA.align hB).mono ?_; rintro e w4 ⟨v4, rfl, hO, hb⟩
  obtain ⟨ps, cs, rfl, hs1, hs2, hE⟩ := own_eds hO
  replace hA := hA.call hb; replace hB := hB.call hb; replace hW := BelowOn hW hb
  have hP := hA.price hB hE hs1 hs2 (by omega)
  rw [hap.1, hap.2] at hP
  have HP := Lib.hid hP
  clear hb hO hE hP hap
  generalize (scr 0 0 A B).length = sl at *
  go_wp2_with fail
  refine HP.out.mono ?_; rintro e w5 ⟨rfl, hb⟩
  replace hA := hA.call hb; replace hB := hB.call hb; replace hW := BelowOn hW hb
  clear hb HP hs1 hs2 hsl
  have h2 := R2.out.call hW
  have hN := NM.out w5 h2
  have hF : AF w (w5.heap.size + 1) w5.heap.size pa pb ca cb A B p2 c2 ch [] (.slice none 0 0) 0 (w5.alloc (.cells #[.slice p2 ch.length c2, .int .i64 0] 50)) :=
    ⟨hN, hA.call (blw (Below.refl _ _) _), hB.call (blw (Below.refl _ _) _), fun h0 x hx => by obtain ⟨y, e, hl, _⟩ := hA.its h0; rw [hx] at e; injection e with e; rw [e]; exact hl,
      fun h0 x hx => by obtain ⟨y, e, hl, _⟩ := hB.its h0; rw [hx] at e; injection e with e; rw [e]; exact hl, fun h0 x hx => ones_any h2 h0 x hx, Nat.lt_succ_self _, by simp, blw hW _, OwnL.nil _ _, hW.size⟩
  have HF := Lib.hid hF
  have am := hA.cm; have bm := hB.cm; have al := hA.le; have bl := hB.le
  unfold maxLen at am bm
  clear h2 hN hF hA hB hW R2 NM
  go_wp2_with fail
  generalize w5.alloc (.cells #[.slice p2 ch.length c2, .int .i64 0] 50) = w6 at *
  have hgt : w5.heap.size < w5.heap.size + 1 := Nat.lt_succ_self _
  generalize hbs : w5.heap.size + 1 = base at *
  generalize w5.heap.size = bN at *
  clear hbs
  go_loopw [12, 14, 15] (fun s i j wr => ∃ (S : List Ed) (q i' j' : Nat), i = .int .i64 i' ∧ j = .int .i64 j' ∧ q ≤ i' + j' ∧ PS A B i' j' S ∧ AF w base bN pa pb ca cb A B p2 c2 ch S s q wr) (fun _ i j _ => (A.length - (intOf i).toNat) + (B.length - (intOf j).toNat))
  case atStart => exact ⟨[], 0, 0, 0, rfl, rfl, Nat.le_refl _, PS.zero A B, HF.out⟩
  case round =>
    obtain ⟨S, q, i, j, rfl, rfl, hq, hS, hF⟩ := hrel
    have hi := hS.li; have hj := hS.lj; have hsl := hS.sl
    have HS := Lib.hid hS
    have HR := Lib.hid hF
    clear hS hF HF
    by_cases A1 : (i : Int) < (A.length : Int)
    · by_cases B1 : (j : Int) < (B.length : Int)
      · have hin : i < A.length := by omega
        have hjn : j < B.length := by omega
        go_wp2_with fail
        refine (next_any bN p2 c2 ch q 3 3 rfl wr HR.out.nm (by omega) (by omega) (by omega)).mono ?_; rintro e v1 ⟨rfl, hg, hN⟩
        have HF1 := Lib.hid (HR.out.next hg hN)
        clear hg hN HR
        generalize nx ch q 3 = N at *
        obtain ⟨ad, rfl, had, x0, x1, x2⟩ := HF1.out.da.its.row i hin
        obtain ⟨bd, rfl, hbd, y0, y1, y2⟩ := HF1.out.db.its.row j hjn
        have hcc := fun W => rcost_any A[i] B[j] W (HF1.out.da.txt _ (List.getElem_mem hin)) (HF1.out.db.txt _ (List.getElem_mem hjn))
        have hpp := HS.out.pair hin hjn
        have hpd := HS.out.del hin
        have hpi := HS.out.ins hjn
        have HPP3 := Lib.hid (And.intro hpp (And.intro hpd hpi))
        have HCC := Lib.hid hcc
        clear hcc hpp hpd hpi HS
        generalize A[i] = X at *
        generalize B[j] = Y at *
        go_wp2_with fail
        have q0 := cell_regrown x0; have q1 := cell_regrown x1; have q2 := cell_regrown x2; have q3 := cell_regrown y0; have q4 := cell_regrown y1; have q5 := cell_regrown y2
        have e1 := fun d os => Calls.regrown_of (HCC.out (grow (redrawn v1 d) os))
        refine wp_region_quiet_below (by kernel_rfl) (by kernel_rfl) ?_
        repeat (go_big_quiet_step (exact e1 _ _))
        refine wpQuiet_nil ?_
        intro _ hw'
        obtain ⟨⟨dq, osq⟩, hw''⟩ := hw'
        subst hw''
        have hb3 := below_regrown v1 dq osq
        generalize grow (redrawn v1 dq) osq = v2 at *
        clear q0 q1 q2 q3 q4 q5 e1 x0 x1 x2 y0 y1 y2
        have HF2 := Lib.hid (HF1.out.call hb3)
        clear hb3 HCC HF1
        generalize cO X Y = cc at *
        obtain ⟨hpp, hpd, hpi⟩ := HPP3.out
        clear HPP3
        cases hok : okP X Y with
        | false =>
          rw [hok] at hpp
          by_cases N0 : N = 0
          · subst N0
            have hps := hpi
            clear hpp hpd hpi
            have hnew := heap_alloc_new v2 (.cells #[.int .i64 (-1), .int .i64 (j : Int)] 36)
            have hO2 : OwnE base S u12 (v2.alloc (.cells #[.int .i64 (-1), .int .i64 (j : Int)] 36)) := World.ownsRow.alloc HF2.out.own _
            have hbn := (Below.refl base v2).alloc HF2.out.sz (.cells #[.int .i64 (-1), .int .i64 (j : Int)] 36)
            have hsz2 : base ≤ (v2.alloc (.cells #[.int .i64 (-1), .int .i64 (j : Int)] 36)).heap.size := Nat.le_trans HF2.out.sz hbn.size
            have HBN := Lib.hid hbn
            have HPS := Lib.hid hps
            clear hbn hps
            go_wp2_with (at_builtin; refine wpl_append2 eE _ rfl _ _ rfl base hsz2 S u12 rfl hO2 ⟨(-1), (j : Int)⟩ v2.heap.size _ rfl hnew rfl (by omega) (by unfold maxLen; omega) ?_; intro v' w5 hO5 hb5)
            go_roundw
            case rel => exact ⟨_, q + 1, i, j + 1, by go_num, by go_num, by omega, HPS.out, HF2.out.push (HBN.out.trans hb5) hO5⟩
            case measure => simp [intOf]; omega
          · by_cases N1 : N = 1
            · subst N1
              have hps := hpd
              clear hpp hpd hpi
              have hnew := heap_alloc_new v2 (.cells #[.int .i64 (i : Int), .int .i64 (-1)] 36)
              have hO2 : OwnE base S u12 (v2.alloc (.cells #[.int .i64 (i : Int), .int .i64 (-1)] 36)) := World.ownsRow.alloc HF2.out.own _
              have hbn := (Below.refl base v2).alloc HF2.out.sz (.cells #[.int .i64 (i : Int), .int .i64 (-1)] 36)
              have hsz2 : base ≤ (v2.alloc (.cells #[.int .i64 (i : Int), .int .i64 (-1)] 36)).heap.size := Nat.le_trans HF2.out.sz hbn.size
              have HBN := Lib.hid hbn
              have HPS := Lib.hid hps
              clear hbn hps
              go_wp2_with (at_builtin; refine wpl_append2 eE _ rfl _ _ rfl base hsz2 S u12 rfl hO2 ⟨(i : Int), (-1)⟩ v2.heap.size _ rfl hnew rfl (by omega) (by unfold maxLen; omega) ?_; intro v' w5 hO5 hb5)
              go_roundw
              case rel => exact ⟨_, q + 1, i + 1, j, by go_num, by go_num, by omega, HPS.out, HF2.out.push (HBN.out.trans hb5) hO5⟩
              case measure => simp [intOf]; omega
            · have N0i : ¬ ((N : Int) = 0) := by omega
              have jnn : ¬ ((j : Int) = (B.length : Int)) := by omega
              have jne : ((j : Int) == (B.length : Int)) = false := beq_eq_false_iff_ne.2 jnn
              have n1e : ((N : Int) == 1) = false := beq_eq_false_iff_ne.2 (by omega)
              have N1i : ¬ ((N : Int) = 1) := by omega
              have hps := hpi
              clear hpp hpd hpi
              have hnew := heap_alloc_new v2 (.cells #[.int .i64 (-1), .int .i64 (j : Int)] 36)
              have hO2 : OwnE base S u12 (v2.alloc (.cells #[.int .i64 (-1), .int .i64 (j : Int)] 36)) := World.ownsRow.alloc HF2.out.own _
              have hbn := (Below.refl base v2).alloc HF2.out.sz (.cells #[.int .i64 (-1), .int .i64 (j : Int)] 36)
              have hsz2 : base ≤ (v2.alloc (.cells #[.int .i64 (-1), .int .i64 (j : Int)] 36)).heap.size := Nat.le_trans HF2.out.sz hbn.size
              have HBN := Lib.hid hbn
              have HPS := Lib.hid hps
              clear hbn hps
              go_wp2_with (at_builtin; refine wpl_append2 eE _ rfl _ _ rfl base hsz2 S u12 rfl hO2 ⟨(-1), (j : Int)⟩ v2.heap.size _ rfl hnew rfl (by omega) (by unfold maxLen; omega) ?_; intro v' w5 hO5 hb5)
              go_roundw
              case rel => exact ⟨_, q + 1, i, j + 1, by go_num, by go_num, by omega, HPS.out, HF2.out.push (HBN.out.trans hb5) hO5⟩
              case measure => simp [intOf]; omega
        | true =>
          rw [hok] at hpp
          by_cases N0 : N = 0
          · subst N0
            have hps := hpp rfl
            clear hpp hpd hpi
            have hnew := heap_alloc_new v2 (.cells #[.int .i64 (i : Int), .int .i64 (j : Int)] 36)
            have hO2 : OwnE base S u12 (v2.alloc (.cells #[.int .i64 (i : Int), .int .i64 (j : Int)] 36)) := World.ownsRow.alloc HF2.out.own _
            have hbn := (Below.refl base v2).alloc HF2.out.sz (.cells #[.int .i64 (i : Int), .int .i64 (j : Int)] 36)
            have hsz2 : base ≤ (v2.alloc (.cells #[.int .i64 (i : Int), .int .i64 (j : Int)] 36)).heap.size := Nat.le_trans HF2.out.sz hbn.size
            have HBN := Lib.hid hbn
            have HPS := Lib.hid hps
            clear hbn hps
            go_wp2_with (at_builtin; refine wpl_append2 eE _ rfl _ _ rfl base hsz2 S u12 rfl hO2 ⟨(i : Int), (j : Int)⟩ v2.heap.size _ rfl hnew rfl (by omega) (by unfold maxLen; omega) ?_; intro v' w5 hO5 hb5)
            go_roundw
            case rel => exact ⟨_, q + 1, i + 1, j + 1, by go_num, by go_num, by omega, HPS.out, HF2.out.push (HBN.out.trans hb5) hO5⟩
            case measure => simp [intOf]; omega
          · by_cases N1 : N = 1
            · subst N1
              have hps := hpd
              clear hpp hpd hpi
              have hnew := heap_alloc_new v2 (.cells #[.int .i64 (i : Int), .int .i64 (-1)] 36)
              have hO2 : OwnE base S u12 (v2.alloc (.cells #[.int .i64 (i : Int), .int .i64 (-1)] 36)) := World.ownsRow.alloc HF2.out.own _
              have hbn := (Below.refl base v2).alloc HF2.out.sz (.cells #[.int .i64 (i : Int), .int .i64 (-1)] 36)
              have hsz2 : base ≤ (v2.alloc (.cells #[.int .i64 (i : Int), .int .i64 (-1)] 36)).heap.size := Nat.le_trans HF2.out.sz hbn.size
              have HBN := Lib.hid hbn
              have HPS := Lib.hid hps
              clear hbn hps
              go_wp2_with (at_builtin; refine wpl_append2 eE _ rfl _ _ rfl base hsz2 S u12 rfl hO2 ⟨(i : Int), (-1)⟩ v2.heap.size _ rfl hnew rfl (by omega) (by unfold maxLen; omega) ?_; intro v' w5 hO5 hb5)
              go_roundw
              case rel => exact ⟨_, q + 1, i + 1, j, by go_num, by go_num, by omega, HPS.out, HF2.out.push (HBN.out.trans hb5) hO5⟩
              case measure => simp [intOf]; omega
            · have N0i : ¬ ((N : Int) = 0) := by omega
              have jnn : ¬ ((j : Int) = (B.length : Int)) := by omega
              have jne : ((j : Int) == (B.length : Int)) = false := beq_eq_false_iff_ne.2 jnn
              have n1e : ((N : Int) == 1) = false := beq_eq_false_iff_ne.2 (by omega)
              have N1i : ¬ ((N : Int) = 1) := by omega
              have hps := hpi
              clear hpp hpd hpi
              have hnew := heap_alloc_new v2 (.cells #[.int .i64 (-1), .int .i64 (j : Int)] 36)
              have hO2 : OwnE base S u12 (v2.alloc (.cells #[.int .i64 (-1), .int .i64 (j : Int)] 36)) := World.ownsRow.alloc HF2.out.own _
              have hbn := (Below.refl base v2).alloc HF2.out.sz (.cells #[.int .i64 (-1), .int .i64 (j : Int)] 36)
              have hsz2 : base ≤ (v2.alloc (.cells #[.int .i64 (-1), .int .i64 (j : Int)] 36)).heap.size := Nat.le_trans HF2.out.sz hbn.size
              have HBN := Lib.hid hbn
              have HPS := Lib.hid hps
              clear hbn hps
              go_wp2_with (at_builtin; refine wpl_append2 eE _ rfl _ _ rfl base hsz2 S u12 rfl hO2 ⟨(-1), (j : Int)⟩ v2.heap.size _ rfl hnew rfl (by omega) (by unfold maxLen; omega) ?_; intro v' w5 hO5 hb5)
              go_roundw
              case rel => exact ⟨_, q + 1, i, j + 1, by go_num, by go_num, by omega, HPS.out, HF2.out.push (HBN.out.trans hb5) hO5⟩
              case measure => simp [intOf]; omega
      · have hin : i < A.length := by omega
        have hje : j = B.length := by omega
        go_wp2_with fail
        refine (next_any bN p2 c2 ch q 3 3 rfl wr HR.out.nm (by omega) (by omega) (by omega)).mono ?_; rintro e v1 ⟨rfl, hg, hN⟩
        have HF1 := Lib.hid (HR.out.next hg hN)
        clear hg hN HR
        generalize nx ch q 3 = N at *
        have hpd := HS.out.del hin
        clear HS
        have HF2 := HF1
        clear HF1
        generalize v1 = v2 at *
        by_cases N0 : N = 0
        · subst N0
          have hps := hpd
          clear hpd
          have hnew := heap_alloc_new v2 (.cells #[.int .i64 (i : Int), .int .i64 (-1)] 36)
          have hO2 : OwnE base S u12 (v2.alloc (.cells #[.int .i64 (i : Int), .int .i64 (-1)] 36)) := World.ownsRow.alloc HF2.out.own _
          have hbn := (Below.refl base v2).alloc HF2.out.sz (.cells #[.int .i64 (i : Int), .int .i64 (-1)] 36)
          have hsz2 : base ≤ (v2.alloc (.cells #[.int .i64 (i : Int), .int .i64 (-1)] 36)).heap.size := Nat.le_trans HF2.out.sz hbn.size
          have HBN := Lib.hid hbn
          have HPS := Lib.hid hps
          clear hbn hps
          go_wp2_with (at_builtin; refine wpl_append2 eE _ rfl _ _ rfl base hsz2 S u12 rfl hO2 ⟨(i : Int), (-1)⟩ v2.heap.size _ rfl hnew rfl (by omega) (by unfold maxLen; omega) ?_; intro v' w5 hO5 hb5)
          go_roundw
          case rel => exact ⟨_, q + 1, i + 1, j, by go_num, by go_num, by omega, HPS.out, HF2.out.push (HBN.out.trans hb5) hO5⟩
          case measure => simp [intOf]; omega
        · have N0i : ¬ ((N : Int) = 0) := by omega
          by_cases N1 : N = 1
          · subst N1
            have hps := hpd
            clear hpd
            have hnew := heap_alloc_new v2 (.cells #[.int .i64 (i : Int), .int .i64 (-1)] 36)
            have hO2 : OwnE base S u12 (v2.alloc (.cells #[.int .i64 (i : Int), .int .i64 (-1)] 36)) := World.ownsRow.alloc HF2.out.own _
            have hbn := (Below.refl base v2).alloc HF2.out.sz (.cells #[.int .i64 (i : Int), .int .i64 (-1)] 36)
            have hsz2 : base ≤ (v2.alloc (.cells #[.int .i64 (i : Int), .int .i64 (-1)] 36)).heap.size := Nat.le_trans HF2.out.sz hbn.size
            have HBN := Lib.hid hbn
            have HPS := Lib.hid hps
            clear hbn hps
            go_wp2_with (at_builtin; refine wpl_append2 eE _ rfl _ _ rfl base hsz2 S u12 rfl hO2 ⟨(i : Int), (-1)⟩ v2.heap.size _ rfl hnew rfl (by omega) (by unfold maxLen; omega) ?_; intro v' w5 hO5 hb5)
            go_roundw
            case rel => exact ⟨_, q + 1, i + 1, j, by go_num, by go_num, by omega, HPS.out, HF2.out.push (HBN.out.trans hb5) hO5⟩
            case measure => simp [intOf]; omega
          · have N1i : ¬ ((N : Int) = 1) := by omega
            have hps := hpd
            clear hpd
            have hnew := heap_alloc_new v2 (.cells #[.int .i64 (i : Int), .int .i64 (-1)] 36)
            have hO2 : OwnE base S u12 (v2.alloc (.cells #[.int .i64 (i : Int), .int .i64 (-1)] 36)) := World.ownsRow.alloc HF2.out.own _
            have hbn := (Below.refl base v2).alloc HF2.out.sz (.cells #[.int .i64 (i : Int), .int .i64 (-1)] 36)
            have hsz2 : base ≤ (v2.alloc (.cells #[.int .i64 (i : Int), .int .i64 (-1)] 36)).heap.size := Nat.le_trans HF2.out.sz hbn.size
            have HBN := Lib.hid hbn
            have HPS := Lib.hid hps
            clear hbn hps
            go_wp2_with (at_builtin; refine wpl_append2 eE _ rfl _ _ rfl base hsz2 S u12 rfl hO2 ⟨(i : Int), (-1)⟩ v2.heap.size _ rfl hnew rfl (by omega) (by unfold maxLen; omega) ?_; intro v' w5 hO5 hb5)
            go_roundw
            case rel => exact ⟨_, q + 1, i + 1, j, by go_num, by go_num, by omega, HPS.out, HF2.out.push (HBN.out.trans hb5) hO5⟩
            case measure => simp [intOf]; omega
    · by_cases B1 : (j : Int) < (B.length : Int)
      · have hjn : j < B.length := by omega
        go_wp2_with fail
        refine (next_any bN p2 c2 ch q 3 3 rfl wr HR.out.nm (by omega) (by omega) (by omega)).mono ?_; rintro e v1 ⟨rfl, hg, hN⟩
        have HF1 := Lib.hid (HR.out.next hg hN)
        clear hg hN HR
        generalize nx ch q 3 = N at *
        have hpi := HS.out.ins hjn
        clear HS
        have HF2 := HF1
        clear HF1
        generalize v1 = v2 at *
        by_cases N0 : N = 0
        · subst N0
          have hps := hpi
          clear hpi
          have hnew := heap_alloc_new v2 (.cells #[.int .i64 (-1), .int .i64 (j : Int)] 36)
          have hO2 : OwnE base S u12 (v2.alloc (.cells #[.int .i64 (-1), .int .i64 (j : Int)] 36)) := World.ownsRow.alloc HF2.out.own _
          have hbn := (Below.refl base v2).alloc HF2.out.sz (.cells #[.int .i64 (-1), .int .i64 (j : Int)] 36)
          have hsz2 : base ≤ (v2.alloc (.cells #[.int .i64 (-1), .int .i64 (j : Int)] 36)).heap.size := Nat.le_trans HF2.out.sz hbn.size
          have HBN := Lib.hid hbn
          have HPS := Lib.hid hps
          clear hbn hps
          go_wp2_with (at_builtin; refine wpl_append2 eE _ rfl _ _ rfl base hsz2 S u12 rfl hO2 ⟨(-1), (j : Int)⟩ v2.heap.size _ rfl hnew rfl (by omega) (by unfold maxLen; omega) ?_; intro v' w5 hO5 hb5)
          go_roundw
          case rel => exact ⟨_, q + 1, i, j + 1, by go_num, by go_num, by omega, HPS.out, HF2.out.push (HBN.out.trans hb5) hO5⟩
          case measure => simp [intOf]; omega
        · have N0i : ¬ ((N : Int) = 0) := by omega
          have hps := hpi
          clear hpi
          have hnew := heap_alloc_new v2 (.cells #[.int .i64 (-1), .int .i64 (j : Int)] 36)
          have hO2 : OwnE base S u12 (v2.alloc (.cells #[.int .i64 (-1), .int .i64 (j : Int)] 36)) := World.ownsRow.alloc HF2.out.own _
          have hbn := (Below.refl base v2).alloc HF2.out.sz (.cells #[.int .i64 (-1), .int .i64 (j : Int)] 36)
          have hsz2 : base ≤ (v2.alloc (.cells #[.int .i64 (-1), .int .i64 (j : Int)] 36)).heap.size := Nat.le_trans HF2.out.sz hbn.size
          have HBN := Lib.hid hbn
          have HPS := Lib.hid hps
          clear hbn hps
          go_wp2_with (at_builtin; refine wpl_append2 eE _ rfl _ _ rfl base hsz2 S u12 rfl hO2 ⟨(-1), (j : Int)⟩ v2.heap.size _ rfl hnew rfl (by omega) (by unfold maxLen; omega) ?_; intro v' w5 hO5 hb5)
          go_roundw
          case rel => exact ⟨_, q + 1, i, j + 1, by go_num, by go_num, by omega, HPS.out, HF2.out.push (HBN.out.trans hb5) hO5⟩
          case measure => simp [intOf]; omega
      · obtain rfl : i = A.length := by omega
        obtain rfl : j = B.length := by omega
        obtain ⟨pS, cS, rfl, hs1, hs2, hE⟩ := own_eds HR.out.own
        obtain ⟨e1, e2⟩ := HPP.out S HS.out
        have hP := HR.out.da.price HR.out.db hE hs1 hs2 (by omega)
        rw [e1] at hP
        have HP := Lib.hid hP
        have HW := Lib.hid HR.out.bw
        clear HPP HS HR hP e1 hE
        generalize prO A B S = Z at *
        generalize S.length = sl at *
        have zz : (D : Int) ≤ (Z : Int) := by omega
        go_wp2_with fail
        refine HP.out.mono ?_; rintro e w7 ⟨rfl, hb⟩
        have HW2 := Lib.hid (BelowOn HW.out hb)
        clear hb HP HW
        go_wp2_with fail
        refine (known_any _).mono ?_; rintro e w8 ⟨rfl, hb⟩
        have hW := BelowOn HW2.out hb
        clear hb
        go_wp2_with fail
        go_ret
        exact ⟨rfl, hW⟩
end Go.Proofs.Ytjabbiigaioljaa
namespace Go.Proofs.Ytjabbiigaioljaa.distanceAligns
open Go.ChangeShapes Go.WideShapes Go.ChangeAt Go.RowKit
open Go.ChangeMaps (open_string shut_string)
set_option linter.unusedVariables false
set_option maxRecDepth 100000

theorem own : ownKnob Try.prog.godebug = none := by kernel_rfl
theorem laidOut : laidOutB Try.prog = true := by kernel_rfl


set_option maxHeartbeats 1600000 in
theorem walk (p0 : Option Addr) (c0 : Nat) (a0 : List Int) (p1 : Option Addr) (c1 : Nat) (a1 : List Int) (p2 : Option Addr) (c2 : Nat) (a2 : List Int) (w : World) (r0 : Ones w (Value.int .i64) p0 a0) (o0 : ∀ i (h : i < a0.length), (Lit.int .i64 (a0[i]'h)).wf = true) (n0 : a0.length ≤ c0) (m0 : c0 ≤ maxLen) (r1 : Ones w (Value.int .i64) p1 a1) (o1 : ∀ i (h : i < a1.length), (Lit.int .i64 (a1[i]'h)).wf = true) (n1 : a1.length ≤ c1) (m1 : c1 ≤ maxLen) (r2 : Ones w (Value.int .i64) p2 a2) (o2 : ∀ i (h : i < a2.length), (Lit.int .i64 (a2[i]'h)).wf = true) (n2 : a2.length ≤ c2) (m2 : c2 ≤ maxLen) :
    Calls Try.prog 8 #[.slice p0 a0.length c0, .slice p1 a1.length c1, .slice p2 a2.length c2] w fun e w' => e = .returned (.bool true) ∧ Below w.heap.size w w' := by
  exact aligns_law p0 c0 a0 p1 c1 a1 p2 c2 a2 w r0 o0 n0 m0 r1 o1 n1 m1 r2 o2 n2 m2

theorem lifted (os : Os) (started : os.Started) (H : Type) (enc : TypeId × Value → H) :
    ReturnsInHanded {} Try.checked os 8 .any (Rows.distanceAlignsSpec.pre6 enc Try.prog Try.f8 Rows.distanceAlignsRow.domain false) (Rows.distanceAlignsSpec.post enc Try.prog Try.f8 false true false false) := by
  refine returnsInHanded_of_change_sized (C := Try.checked) own started (by kernel_rfl) Try.func8
    (ChangeSpec.witness6 (enc := enc) (C := Try.checked) false ⟨#[], #[.slice none 0 0, .slice none 0 0, .slice none 0 0], []⟩ 8 (by kernel_rfl) (by kernel_rfl) (by kernel_rfl) (by kernel_rfl)) ?_
  intro W base args ds gs before hval0 hW hcnd hsz0 _
  have hval : ∀ (j : Nat) t v, Try.f8.params[j]? = some t → args[j]? = some v → Value.okWide Try.prog W .any base t v := hval0
  have hW' := hW
  have hlt : ∀ x ∈ before, x.block < W.heap.size := fun x hx => hW'.lt x hx
  obtain ⟨p, q, hA0, hV, rfl, hfz, hnd⟩ := hW
  have hA : DataW.TrodAll enc Try.prog W 0 (fun _ => true) true Try.f8.params.toList args.toList ds p := hA0
  rw [Try.params8] at hA hval hsz0
  obtain ⟨v0, vs0, d0, ds0, p0, q0, hargs, rfl, rfl, h0, r0⟩ := trodAll_cons hA
  obtain ⟨v1, vs1, d1, ds1, p1, q1, rfl, rfl, rfl, h1, r1⟩ := trodAll_cons r0
  obtain ⟨v2, vs2, d2, ds2, p2, q2, rfl, rfl, rfl, h2, r2⟩ := trodAll_cons r1
  obtain ⟨rfl, rfl, rfl⟩ := trodAll_nil r2
  obtain rfl : args = #[v0, v1, v2] := by cases args; simp_all
  obtain ⟨rfl, rfl⟩ := trodVars_none hV
  have hsz := hsz0; clear hsz0
  obtain ⟨pp0, c0, a0, rfl, n0, m0, y0, o0⟩ := opened_ints (okBase (hval 0 24 v0 rfl rfl)) h0
  obtain ⟨pp1, c1, a1, rfl, n1, m1, y1, o1⟩ := opened_ints (okBase (hval 1 24 v1 rfl rfl)) h1
  obtain ⟨pp2, c2, a2, rfl, n2, m2, y2, o2⟩ := opened_ints (okBase (hval 2 24 v2 rfl rfl)) h2
  clear hA0 hval0
  refine (walk pp0 c0 a0 pp1 c1 a1 pp2 c2 a2 W y0 o0 n0 m0 y1 o1 n1 m1 y2 o2 n2 m2).mono fun e W' ⟨he, bel⟩ => ?_
  subst he
  exact ⟨_, rfl, _, _, _, [], _, [], hW', trodAll_mk1 (shut_bool Try.underlying4 _), (trodAll_cons_mk (Below.trod laidOut (by kernel_rfl) (of_decide_eq_true (by kernel_rfl)) h0 bel (fun x hx => hlt x (by simp [hx]))) (trodAll_cons_mk (Below.trod laidOut (by kernel_rfl) (of_decide_eq_true (by kernel_rfl)) h1 bel (fun x hx => hlt x (by simp [hx]))) (trodAll_cons_mk (Below.trod laidOut (by kernel_rfl) (of_decide_eq_true (by kernel_rfl)) h2 bel (fun x hx => hlt x (by simp [hx]))) trodAll_mk0))), rfl, bel.frame _, fun h => by cases h⟩

theorem over : Rows.distanceAlignsRow.holds Try.pinned (OpenSpec.ofChange Rows.distanceAlignsSpec) :=
  OpenClaim.holds_of_wide 8 Try.f8 rfl rfl rfl rfl rfl rfl rfl ⟨rfl, rfl, rfl, rfl, rfl⟩ rfl rfl rfl rfl rfl (by kernel_rfl) Try.func8 (by kernel_rfl)
    (of_decide_eq_true (by kernel_rfl)) (by unfold Func.isWrapper; first | (rw [if_pos (by decide +kernel)]; kernel_rfl) | (rw [if_neg (by decide +kernel)]; exact ⟨rfl, rfl⟩))
    (fun os started H enc _ => lifted os started H enc)

theorem proved : Rows.DistanceAlignsSaid := over
#print axioms proved
end Go.Proofs.Ytjabbiigaioljaa.distanceAligns
