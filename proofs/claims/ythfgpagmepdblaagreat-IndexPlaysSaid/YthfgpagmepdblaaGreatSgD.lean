/- Shingle: contracts of classOf, isTag and of the reference's like. Shingle: contracts of the reference's extra and Bag. Shingle: contracts of the reference's Bag. Shingle: contract of excess. Shingle: contract of Bag. -/
import Derived.Test.YthfgpagmepdblaaGreatSgC
import Derived.Test.YthfgpagmepdblaaGreatDtB
import Derived.BigQuiet
import Derived.Test.YthfgpagmepdblaaGreatSgR
import Derived.WalkKit
import Derived.Maps.RangeWalk
import Derived.Laws.IdiomRangeMap
import Derived.Deep.LoopGhost
namespace Go.Proofs.YthfgpagmepdblaaGreat
open Go.ChangeShapes Go.WideShapes Go.ChangeAt Go.RowKit Go.Maps Go.Sort
set_option linter.unusedVariables false
set_option linter.unusedSimpArgs false
set_option maxRecDepth 100000

set_option maxHeartbeats 1600000 in
theorem sistag_any (k : Int) (t : ByteArray) (id : Int) (w : World) : Calls Tryz.prog 56 #[.agg #[.int .i64 k, .string t, .int .i64 id]] w fun e w' => e = .returned (.bool (isT k)) ∧ Below w.heap.size w w' := by
  have hb := fun o => blw (Below.refl w.heap.size w) o
  by_cases h2 : k = 2
  · have q2 : (k == 2) = true := by simp [h2]
    have HR := Lib.hid (show isT k = true by rw [h2]; decide)
    clear h2
    go_enter Tryz.func56, Tryz.ntmps56
    go_wp2_with fail
    go_ret
    exact ⟨by rw [HR.out]; rfl, hb _⟩
  · have q2 : (k == 2) = false := by simp [h2]
    by_cases h3 : k = 3
    · have q3 : (k == 3) = true := by simp [h3]
      have HR := Lib.hid (show isT k = true by rw [h3]; decide)
      clear h2 h3
      go_enter Tryz.func56, Tryz.ntmps56
      go_wp2_with fail
      go_ret
      exact ⟨by rw [HR.out]; rfl, hb _⟩
    · have q3 : (k == 3) = false := by simp [h3]
      by_cases h4 : k = 4
      · have q4 : (k == 4) = true := by simp [h4]
        have HR := Lib.hid (show isT k = true by rw [h4]; decide)
        clear h2 h3 h4
        go_enter Tryz.func56, Tryz.ntmps56
        go_wp2_with fail
        go_ret
        exact ⟨by rw [HR.out]; rfl, hb _⟩
      · have q4 : (k == 4) = false := by simp [h4]
        have HR := Lib.hid (show isT k = false by unfold isT; simp; omega)
        clear h2 h3 h4
        go_enter Tryz.func56, Tryz.ntmps56
        go_wp2_with fail
        go_ret
        exact ⟨by rw [HR.out]; rfl, hb _⟩

theorem size44 : (Tryz.prog.info? 43).map (·.size) = some 3 := by kernel_rfl
theorem und44 : ∃ d, Tryz.prog.underlying 43 = some d ∧ d.isRow = true := ⟨_, Tryz.underlying43, rfl⟩
set_option maxHeartbeats 3200000 in
theorem classof_any (x : It) (w : World) (ht : x.t.size ≤ 1000) : Calls Tryz.prog 79 #[.agg #[.int .i64 x.k, .string x.t, .int .i64 x.id]] w fun e w' => e = .returned (cv (clT x)) ∧ Below w.heap.size w w' := by
  have hk := fun W => key_any x.k x.t x.id W ht
  have HR := Lib.hid (show cv (clT x) = .agg #[.int .i64 x.k, .string (keyT x.k x.t), .int .i64 0] from rfl)
  rw [HR.out]
  generalize keyT x.k x.t = K at *
  have hb0 : Below w.heap.size w ((w.alloc (.cells #[.int .i64 x.k, .string x.t, .int .i64 x.id] 43)).alloc (.cells #[.int .i64 0, .string ⟨#[]⟩, .int .i64 0] 43)) := blw (blw (Below.refl _ _) _) _
  have hV := Var3.newT w x.k x.t x.id
  have hV2 := hV.call (blw (Below.refl _ _) (.cells #[.int .i64 0, .string ⟨#[]⟩, .int .i64 0] 43))
  have hn := heap_new2 w (.cells #[.int .i64 x.k, .string x.t, .int .i64 x.id] 43) (.cells #[.int .i64 0, .string ⟨#[]⟩, .int .i64 0] 43)
  obtain ⟨c0, c1, c2, vl⟩ := hV2
  clear hV
  go_enter Tryz.func79, Tryz.ntmps79
  go_wp2_with fail
  generalize ((w.alloc (.cells #[.int .i64 x.k, .string x.t, .int .i64 x.id] 43)).alloc (.cells #[.int .i64 0, .string ⟨#[]⟩, .int .i64 0] 43)) = v1 at *
  have r0 := cell_regrown c0; have r1 := cell_regrown c1; have r2 := cell_regrown c2
  have e1 := fun d os => Calls.regrown_of (hk (grow (redrawn v1 d) os))
  refine wp_region_quiet_tail 5 (by kernel_rfl) (by kernel_rfl) ?_
  simp only [List.take_succ_cons, List.take_zero, List.drop_succ_cons, List.drop_zero]
  repeat (go_big_quiet_step (exact e1 _ _))
  refine wpQuiet_nil ?_
  intro _ hw'
  obtain ⟨⟨dq, osq⟩, hw''⟩ := hw'
  subst hw''
  have hb2 := below_regrown v1 dq osq
  generalize grow (redrawn v1 dq) osq = v2 at *
  clear r0 r1 r2 e1
  have hn2 := keep_heap hn hb2
  have hth : v2.there (w.heap.size + 1) 0 3 := fun j hj => ⟨by rw [Lib.cell_of_heap hn2]; match j, hj with | 0, _ => rfl | 1, _ => rfl | 2, _ => rfl, Lib.frozen_of_heap hn2 _⟩
  have hb3 : RowKit.Below w.heap.size w v2 := BelowOn hb0 hb2
  have hsame := World.rangeAt_setCells_same v2 (w.heap.size + 1) 0 [.int .i64 x.k, .string K, .int .i64 0] hth
  have hg := setCells_grown [.int .i64 x.k, .string K, .int .i64 0] v2 (w.heap.size + 1) 0
  have hb4 := below_of_grow hb3 hg hb3.size (by omega)
  obtain ⟨d, hu, hd⟩ := und44
  have hld := run_loadVar_mid (P := Tryz.prog) _ (w.heap.size + 1) 0 43 [.int .i64 x.k, .string K, .int .i64 0] d hsame hu hd size44
  have n0 : v2.cell? ⟨w.heap.size + 1, 0, none⟩ = some (.int .i64 0) := by rw [Lib.cell_of_heap hn2]; rfl
  have n1 : v2.cell? ⟨w.heap.size + 1, 1, none⟩ = some (.string ⟨#[]⟩) := by rw [Lib.cell_of_heap hn2]; rfl
  have n2 : v2.cell? ⟨w.heap.size + 1, 2, none⟩ = some (.int .i64 0) := by rw [Lib.cell_of_heap hn2]; rfl
  have f0 : v2.frozen? ⟨w.heap.size + 1, 0, none⟩ = false := Lib.frozen_of_heap hn2 _
  have f1 : v2.frozen? ⟨w.heap.size + 1, 1, none⟩ = false := Lib.frozen_of_heap hn2 _
  have f2 : v2.frozen? ⟨w.heap.size + 1, 2, none⟩ = false := Lib.frozen_of_heap hn2 _
  have HB4 := Lib.hid hb4
  have hld' : (loadVar 43 ⟨w.heap.size + 1, 0, none⟩).run Tryz.prog (((v2.setCell ⟨w.heap.size + 1, 0, none⟩ (.int .i64 x.k)).setCell ⟨w.heap.size + 1, 1, none⟩ (.string K)).setCell ⟨w.heap.size + 1, 2, none⟩ (.int .i64 0)) = _ := hld
  have HLD := Lib.hid hld'
  clear c0 c1 c2 hn hn2 hb0 hb2 hsame hg hb3 hu hd hld hld' hb4 hth
  go_wp2_with fail
  have hld := HLD.out
  refine bodyPost_ret (v := .agg #[.int .i64 x.k, .string K, .int .i64 0]) (by simp [results, Tryz.results79, asAddr, Result.andThen, hld, Act.put]; rfl) rfl ⟨rfl, HB4.out⟩

def lk (a b : It) : Bool := decide (a.k = b.k) && decide (5 ≤ a.k) && decide (a.k ≤ 9) && decide (keyT a.k a.t = keyT b.k b.t)
set_option maxHeartbeats 6400000 in
theorem like_any (a b : It) (w : World) (ha : a.t.size ≤ 1000) (hb : b.t.size ≤ 1000) : Calls Tryz.prog 87 #[.agg #[.int .i64 a.k, .string a.t, .int .i64 a.id], .agg #[.int .i64 b.k, .string b.t, .int .i64 b.id]] w fun e w' => e = .returned (.bool (lk a b)) ∧ Below w.heap.size w w' := by
  have h1 := fun W => rkey_any a.k a.t a.id W ha
  have h2 := fun W => rkey_any b.k b.t b.id W hb
  have HLK := Lib.hid (show lk a b = (decide (a.k = b.k) && decide (5 ≤ a.k) && decide (a.k ≤ 9) && decide (keyT a.k a.t = keyT b.k b.t)) from rfl)
  have HEQ := Lib.hid (eqS_eq (keyT a.k a.t) (keyT b.k b.t))
  rw [HLK.out]
  generalize keyT a.k a.t = KA at *
  generalize keyT b.k b.t = KB at *
  have hb0 : RowKit.Below w.heap.size w ((w.alloc (.cells #[.int .i64 a.k, .string a.t, .int .i64 a.id] 43)).alloc (.cells #[.int .i64 b.k, .string b.t, .int .i64 b.id] 43)) := blw (blw (Below.refl _ _) _) _
  obtain ⟨x0, x1, x2, _⟩ := (Var3.newT w a.k a.t a.id).call (blw (Below.refl _ _) (.cells #[.int .i64 b.k, .string b.t, .int .i64 b.id] 43))
  have hn := heap_new2 w (.cells #[.int .i64 a.k, .string a.t, .int .i64 a.id] 43) (.cells #[.int .i64 b.k, .string b.t, .int .i64 b.id] 43)
  go_enter Tryz.func87, Tryz.ntmps87
  go_wp2_with fail
  generalize ((w.alloc (.cells #[.int .i64 a.k, .string a.t, .int .i64 a.id] 43)).alloc (.cells #[.int .i64 b.k, .string b.t, .int .i64 b.id] 43)) = v1 at *
  have y0 : v1.cell? ⟨w.heap.size + 1, 0, none⟩ = some (.int .i64 b.k) := by rw [Lib.cell_of_heap hn]; rfl
  have y1 : v1.cell? ⟨w.heap.size + 1, 1, none⟩ = some (.string b.t) := by rw [Lib.cell_of_heap hn]; rfl
  have y2 : v1.cell? ⟨w.heap.size + 1, 2, none⟩ = some (.int .i64 b.id) := by rw [Lib.cell_of_heap hn]; rfl
  have r0 := cell_regrown x0; have r1 := cell_regrown x1; have r2 := cell_regrown x2
  have s0 := cell_regrown y0; have s1 := cell_regrown y1; have s2 := cell_regrown y2
  have e1 := fun d os => Calls.regrown_of (h1 (grow (redrawn v1 d) os))
  have e2 := fun d os => Calls.regrown_of (h2 (grow (redrawn v1 d) os))
  clear x0 x1 x2 y0 y1 y2 hn h1 h2
  by_cases hk : a.k = b.k
  · have q1 : (a.k == b.k) = true := by simp [hk]
    have HK := Lib.hid (decide_eq_true hk)
    clear hk
    by_cases h5 : 5 ≤ a.k
    · have H5 := Lib.hid (decide_eq_true h5)
      by_cases h9 : a.k ≤ 9
      · have H9 := Lib.hid (decide_eq_true h9)
        refine wp_region_quiet_below (by kernel_rfl) (by kernel_rfl) ?_
        iterate 18 (go_big_quiet_step (exact e1 _ _))
        repeat (go_big_quiet_step (exact e2 _ _))
        refine wpQuiet_nil ?_
        intro _ hw'
        obtain ⟨⟨dq, osq⟩, hw''⟩ := hw'
        subst hw''
        have HW := Lib.hid (BelowOn hb0 (below_regrown v1 dq osq))
        generalize grow (redrawn v1 dq) osq = v2 at *
        clear r0 r1 r2 s0 s1 s2 e1 e2 hb0
        go_wp2_with fail
        go_ret
        exact ⟨ret_bool (by rw [HK.out, H5.out, H9.out, ← HEQ.out]; rfl), HW.out⟩
      · have H9 := Lib.hid (decide_eq_false h9)
        refine wp_region_quiet_below (by kernel_rfl) (by kernel_rfl) ?_
        repeat (go_big_quiet_step (fail))
        refine wpQuiet_nil ?_
        intro _ hw'
        obtain ⟨⟨dq, osq⟩, hw''⟩ := hw'
        subst hw''
        have HW := Lib.hid (BelowOn hb0 (below_regrown v1 dq osq))
        generalize grow (redrawn v1 dq) osq = v2 at *
        clear r0 r1 r2 s0 s1 s2 e1 e2 hb0
        go_wp2_with fail
        go_ret
        exact ⟨ret_bool (by rw [H9.out]; simp), HW.out⟩
    · have H5 := Lib.hid (decide_eq_false h5)
      refine wp_region_quiet_below (by kernel_rfl) (by kernel_rfl) ?_
      repeat (go_big_quiet_step (fail))
      refine wpQuiet_nil ?_
      intro _ hw'
      obtain ⟨⟨dq, osq⟩, hw''⟩ := hw'
      subst hw''
      have HW := Lib.hid (BelowOn hb0 (below_regrown v1 dq osq))
      generalize grow (redrawn v1 dq) osq = v2 at *
      clear r0 r1 r2 s0 s1 s2 e1 e2 hb0
      go_wp2_with fail
      go_ret
      exact ⟨ret_bool (by first | (rw [HK.out, H5.out]; rfl) | (rw [H5.out]; simp)), HW.out⟩
  · have q1 : (a.k == b.k) = false := by simp [hk]
    have HK := Lib.hid (decide_eq_false hk)
    clear hk
    refine wp_region_quiet_below (by kernel_rfl) (by kernel_rfl) ?_
    repeat (go_big_quiet_step (fail))
    refine wpQuiet_nil ?_
    intro _ hw'
    obtain ⟨⟨dq, osq⟩, hw''⟩ := hw'
    subst hw''
    have HW := Lib.hid (BelowOn hb0 (below_regrown v1 dq osq))
    generalize grow (redrawn v1 dq) osq = v2 at *
    clear r0 r1 r2 s0 s1 s2 e1 e2 hb0
    go_wp2_with fail
    go_ret
    exact ⟨ret_bool (by rw [HK.out]; rfl), HW.out⟩
end Go.Proofs.YthfgpagmepdblaaGreat
namespace Go.Proofs.YthfgpagmepdblaaGreat
open Go.ChangeShapes Go.WideShapes Go.ChangeAt Go.RowKit Go.Maps Go.Sort
set_option linter.unusedVariables false
set_option linter.unusedSimpArgs false
set_option maxRecDepth 100000

/-- How many tokens of a list are like t. -/
def lkN (l : List It) (t : It) : Nat := if 5 ≤ t.k ∧ t.k ≤ 9 then cC l (clT t) else 0
theorem lkN_next (l : List It) (t : It) (k : Nat) (h : k < l.length) : lkN (l.take (k + 1)) t = lkN (l.take k) t + if lk (l[k]'h) t = true then 1 else 0 := by
  rw [List.take_succ_eq_append_getElem h]
  unfold lkN
  by_cases hk : 5 ≤ t.k ∧ t.k ≤ 9
  · rw [if_pos hk, if_pos hk, cC_snoc]
    congr 1
    have : (clT l[k] = clT t) ↔ lk l[k] t = true := by
      unfold lk clT
      simp only [Bool.and_eq_true, decide_eq_true_eq, Tg.mk.injEq]
      constructor
      · rintro ⟨h1, h2⟩; exact ⟨⟨⟨h1, by omega⟩, by omega⟩, h2⟩
      · rintro ⟨⟨⟨h1, _⟩, _⟩, h2⟩; exact ⟨h1, h2⟩
    by_cases hc : clT l[k] = clT t
    · rw [if_pos hc, if_pos (this.1 hc)]
    · rw [if_neg hc, if_neg (fun c => hc (this.2 c))]
  · rw [if_neg hk, if_neg hk, if_neg]
    unfold lk
    simp only [Bool.and_eq_true, decide_eq_true_eq]
    rintro ⟨⟨⟨h1, h2⟩, h3⟩, _⟩
    exact hk ⟨by omega, by omega⟩
theorem lkN_le (l : List It) (t : It) : lkN l t ≤ l.length := by unfold lkN; split; exact cC_le _ _; exact Nat.zero_le _
theorem surC_step (a b : List It) (k : Nat) (h : k < a.length) : surC (a.take (k + 1)) b = surC (a.take k) b + if lkN b (a[k]'h) < lkN (a.take (k + 1)) (a[k]'h) then wtT (a[k]'h).k else 0 := by
  rw [surC_next a b k h]
  congr 1
  by_cases hk : 5 ≤ (a[k]'h).k ∧ (a[k]'h).k ≤ 9
  · have e1 : lkN b (a[k]'h) = cC b (clT (a[k]'h)) := if_pos hk
    have e2 : lkN (a.take (k + 1)) (a[k]'h) = cC (a.take (k + 1)) (clT (a[k]'h)) := if_pos hk
    rw [e1, e2]
    have ht : isT (a[k]'h).k = false := by unfold isT; simp; omega
    simp only [ht, true_and]
  · have e1 : lkN b (a[k]'h) = 0 := if_neg hk
    have e2 : lkN (a.take (k + 1)) (a[k]'h) = 0 := if_neg hk
    rw [e1, e2, if_neg (by omega : ¬ (0 < 0))]
    split
    · rename_i hc
      have := hc.1
      unfold isT at this; simp at this
      unfold wtT
      repeat' split
      all_goals omega
    · rfl
theorem surC_le (a b : List It) : surC a b ≤ 4 * (a.length + b.length) := by have := al_bag (al_dst a b); have := dst_le a b; omega
set_option maxHeartbeats 12800000 in
theorem rextra_any (p q : Option Addr) (c d : Nat) (a b : List It) (w : World) (gA : Its w p a) (gB : Its w q b) (hc : a.length ≤ c) (hd : b.length ≤ d) (hcm : c ≤ maxLen) (hdm : d ≤ maxLen) (la : a.length ≤ 1000) (lb : b.length ≤ 1000) (ta : txtsB a) (tb : txtsB b) :
    Calls Tryz.prog 71 #[.slice p a.length c, .slice q b.length d] w fun e w' => e = .returned (.int .i64 (surC a b : Nat)) ∧ Below w.heap.size w w' := by
  have HSN := Lib.hid (fun k h => surC_step a b k h); have HSL := Lib.hid (fun k => surC_le (a.take k) b)
  have HLA := Lib.hid (fun t k h => lkN_next a t k h); have HLB := Lib.hid (fun t k h => lkN_next b t k h)
  have HLL := Lib.hid (fun l t => lkN_le l t)
  have HTA := Lib.hid ta; have HTB := Lib.hid tb
  have HA := Lib.hid gA; have HB := Lib.hid gB
  have HWT := Lib.hid (fun k t id W => rweight_any k t id W)
  have hz : surC (a.take 0) b = 0 := by rw [List.take_zero]; rfl
  have HZ := Lib.hid hz
  have hcm' := hcm; have hdm' := hdm
  unfold maxLen at hcm' hdm'
  clear ta tb gA gB hcm hdm hz
  go_enter Tryz.func71, Tryz.ntmps71
  go_wp2_with fail
  go_loopw [5, 14] (fun n i wr => ∃ k : Nat, k ≤ a.length ∧ i = .int .i64 k ∧ n = .int .i64 (surC (a.take k) b : Nat) ∧ RowKit.Below w.heap.size w wr) (fun _ i _ => a.length - (intOf i).toNat)
  case atStart => exact ⟨0, Nat.zero_le _, rfl, by rw [HZ.out]; rfl, Below.refl _ _⟩
  case round =>
    obtain ⟨k, hk, rfl, rfl, hB1⟩ := hrel
    by_cases hlt : k < a.length
    · obtain ⟨ad, rfl, had, x0, x1, x2⟩ := (HA.out.call hB1).row k hlt
      have hsn := HSN.out k hlt
      have hsl := HSL.out k
      have hla := fun m h => HLA.out a[k] m h
      have hlb := fun m h => HLB.out a[k] m h
      have hl0 : lkN (a.take 0) a[k] = 0 := by rw [List.take_zero]; unfold lkN; split <;> rfl
      have hl0b : lkN (b.take 0) a[k] = 0 := by rw [List.take_zero]; unfold lkN; split <;> rfl
      have hlel := fun l => HLL.out l a[k]
      have htx := HTA.out _ (List.getElem_mem hlt)
      rw [List.length_take] at hsl
      have hs2 : surC (a.take k) b ≤ 8000 := by omega
      have hwt : wtT a[k].k ≤ 4 := wtT_le _
      have hV := Var3.newT wr a[k].k a[k].t a[k].id
      have hbv : RowKit.Below wr.heap.size wr (wr.alloc (.cells #[.int .i64 a[k].k, .string a[k].t, .int .i64 a[k].id] 43)) := blw (Below.refl _ _) _
      have ik : (k : Int) < (a.length : Int) := by omega
      have HSN2 := Lib.hid hsn; have HLA2 := Lib.hid (And.intro hla hl0); have HLB2 := Lib.hid (And.intro hlb hl0b); have HLE := Lib.hid hlel
      clear hsn hla hlb hl0 hl0b hlel hsl
      have HBk := Lib.hid (BelowOn hB1 hbv)
      generalize surC (a.take k) b = S at *
      generalize hX : a[k] = X at *
      have HXX := Lib.hid hX
      clear hX hB1 hbv
      go_wp2_with fail
      generalize (wr.alloc (.cells #[.int .i64 X.k, .string X.t, .int .i64 X.id] 43)) = v1 at *
      obtain ⟨d0, d1, d2, hgl⟩ := hV
      generalize wr.heap.size = g at *
      have HD := Lib.hid (And.intro d0 (And.intro d1 d2))
      clear x0 x1 x2 had d0 d1 d2
      go_loopw [8, 10] (fun n j vr => ∃ m : Nat, m ≤ k + 1 ∧ j = .int .i64 m ∧ n = .int .i64 (lkN (a.take m) X : Nat) ∧ RowKit.Below v1.heap.size v1 vr) (fun _ j _ => k + 1 - (intOf j).toNat)
      case atStart => exact ⟨0, Nat.zero_le _, rfl, by rw [HLA2.out.2]; rfl, Below.refl _ _⟩
      case round =>
        obtain ⟨m, hm, rfl, rfl, hb1⟩ := hrel
        have hb1 : RowKit.Below v1.heap.size v1 wr := hb1
        by_cases hmk : m ≤ k
        · have y0 := (hb1.cell (p := ⟨g, 0, none⟩) hgl).trans HD.out.1
          have y1 := (hb1.cell (p := ⟨g, 1, none⟩) hgl).trans HD.out.2.1
          have y2 := (hb1.cell (p := ⟨g, 2, none⟩) hgl).trans HD.out.2.2
          obtain ⟨ad', ead, had, z0, z1, z2⟩ := (HA.out.call (BelowOn HBk.out hb1)).row m (by omega)
          injection ead with ead; subst ead
          have HNM := Lib.hid (HLA2.out.1 m (by omega))
          have hle := HLE.out (a.take m)
          rw [List.length_take] at hle
          have hle2 : lkN (a.take m) X ≤ 1000 := by omega
          have hcc := fun W => like_any (a[m]'(by omega)) X W (HTA.out _ (List.getElem_mem _)) htx
          have im : (m : Int) ≤ (k : Int) := by omega
          have im2 : (m : Int) < (a.length : Int) := by omega
          generalize lkN (a.take m) X = T at *
          generalize a[m]'_ = Y at *
          generalize lk Y X = sb at *
          clear hle
          go_wp2_with fail
          have q0 := cell_regrown y0; have q1 := cell_regrown y1; have q2 := cell_regrown y2; have q3 := cell_regrown z0; have q4 := cell_regrown z1; have q5 := cell_regrown z2
          have e1 := fun d os => Calls.regrown_of (hcc (grow (redrawn wr d) os))
          refine wp_region_quiet_below (by kernel_rfl) (by kernel_rfl) ?_
          repeat (go_big_quiet_step (exact e1 _ _))
          refine wpQuiet_nil ?_
          intro _ hw'
          obtain ⟨⟨dq, osq⟩, hw''⟩ := hw'
          subst hw''
          have hb2 := below_regrown wr dq osq
          generalize grow (redrawn wr dq) osq = vr2 at *
          clear q0 q1 q2 q3 q4 q5 y0 y1 y2 z0 z1 z2 e1 hcc
          have HW := Lib.hid (BelowOn hb1 hb2)
          clear hb2 hb1
          cases sb
          · go_wp2_with fail
            go_roundw
            case rel => exact ⟨m + 1, by omega, by go_num, by rw [HNM.out]; simp, HW.out⟩
            case measure => simp [intOf] <;> omega
          · go_wp2_with fail
            go_roundw
            case rel => exact ⟨m + 1, by omega, by go_num, by rw [HNM.out]; simp, HW.out⟩
            case measure => simp [intOf] <;> omega
        · obtain rfl : m = k + 1 := by omega
          have nle : ¬ (((k + 1 : Nat) : Int) ≤ (k : Int)) := by omega
          have HBm := Lib.hid (BelowOn HBk.out hb1)
          have hd0 := (hb1.cell (p := ⟨g, 0, none⟩) hgl).trans HD.out.1
          have hd1 := (hb1.cell (p := ⟨g, 1, none⟩) hgl).trans HD.out.2.1
          have hd2 := (hb1.cell (p := ⟨g, 2, none⟩) hgl).trans HD.out.2.2
          have hgl2 : g < wr.heap.size := Nat.lt_of_lt_of_le hgl hb1.size
          have HD2 := Lib.hid (And.intro hd0 (And.intro hd1 hd2))
          have hx2 := HLE.out (a.take (k + 1))
          rw [List.length_take] at hx2
          have hx3 : lkN (a.take (k + 1)) X ≤ 1000 := by omega
          clear hb1 hd0 hd1 hd2 hx2
          generalize lkN (a.take (k + 1)) X = TX at *
          go_wp2_with fail
          generalize wr = v2 at *
          go_loopw [9, 34] (fun n j vr => ∃ m : Nat, m ≤ b.length ∧ j = .int .i64 m ∧ n = .int .i64 (lkN (b.take m) X : Nat) ∧ RowKit.Below v2.heap.size v2 vr) (fun _ j _ => b.length - (intOf j).toNat)
          case atStart => exact ⟨0, Nat.zero_le _, rfl, by rw [HLB2.out.2]; rfl, Below.refl _ _⟩
          case round =>
            obtain ⟨m, hm, rfl, rfl, hb1⟩ := hrel
            have hb1 : RowKit.Below v2.heap.size v2 wr := hb1
            have y0 := (hb1.cell (p := ⟨g, 0, none⟩) hgl2).trans HD2.out.1
            have y1 := (hb1.cell (p := ⟨g, 1, none⟩) hgl2).trans HD2.out.2.1
            have y2 := (hb1.cell (p := ⟨g, 2, none⟩) hgl2).trans HD2.out.2.2
            by_cases hmk : m < b.length
            · obtain ⟨ad', rfl, had, z0, z1, z2⟩ := (HB.out.call (BelowOn HBm.out hb1)).row m hmk
              have HNM := Lib.hid (HLB2.out.1 m hmk)
              have hle := HLE.out (b.take m)
              rw [List.length_take] at hle
              have hle2 : lkN (b.take m) X ≤ 1000 := by omega
              have hcc := fun W => like_any b[m] X W (HTB.out _ (List.getElem_mem _)) htx
              have im2 : (m : Int) < (b.length : Int) := by omega
              generalize lkN (b.take m) X = T at *
              generalize b[m] = Y at *
              generalize lk Y X = sb at *
              clear hle
              go_wp2_with fail
              have q0 := cell_regrown y0; have q1 := cell_regrown y1; have q2 := cell_regrown y2; have q3 := cell_regrown z0; have q4 := cell_regrown z1; have q5 := cell_regrown z2
              have e1 := fun d os => Calls.regrown_of (hcc (grow (redrawn wr d) os))
              refine wp_region_quiet_below (by kernel_rfl) (by kernel_rfl) ?_
              repeat (go_big_quiet_step (exact e1 _ _))
              refine wpQuiet_nil ?_
              intro _ hw'
              obtain ⟨⟨dq, osq⟩, hw''⟩ := hw'
              subst hw''
              have hb2 := below_regrown wr dq osq
              generalize grow (redrawn wr dq) osq = vr2 at *
              clear q0 q1 q2 q3 q4 q5 y0 y1 y2 z0 z1 z2 e1 hcc
              have HW := Lib.hid (BelowOn hb1 hb2)
              clear hb2 hb1
              cases sb
              · go_wp2_with fail
                go_roundw
                case rel => exact ⟨m + 1, by omega, by go_num, by rw [HNM.out]; simp, HW.out⟩
                case measure => simp [intOf] <;> omega
              · go_wp2_with fail
                go_roundw
                case rel => exact ⟨m + 1, by omega, by go_num, by rw [HNM.out]; simp, HW.out⟩
                case measure => simp [intOf] <;> omega
            · obtain rfl : m = b.length := by omega
              rw [List.take_length]
              have HW := Lib.hid (BelowOn HBm.out hb1)
              have hle := HLE.out b
              have hwt2 := fun W => HWT.out X.k X.t X.id W
              generalize lkN b X = TB at *
              by_cases hgt : TB < TX
              · have HS4 := Lib.hid (HSN2.out.trans (show _ = S + wtT X.k by rw [if_pos hgt]))
                have hq : (TB : Int) < (TX : Int) := by omega
                have HC := Lib.hid hwt2
                obtain ⟨y0, y1, y2⟩ := (⟨(hb1.cell (p := ⟨g, 0, none⟩) hgl2).trans HD2.out.1, (hb1.cell (p := ⟨g, 1, none⟩) hgl2).trans HD2.out.2.1, (hb1.cell (p := ⟨g, 2, none⟩) hgl2).trans HD2.out.2.2⟩ : _ ∧ _ ∧ _)
                clear hwt2 hb1 hgt
                generalize wtT X.k = WT at *
                go_wp2_with fail
                refine (HC.out _).mono ?_; rintro e w5 ⟨rfl, hb5⟩
                have HW5 := Lib.hid (BelowOn HW.out hb5)
                clear hb5 y0 y1 y2
                go_wp2_with fail
                go_roundw
                case rel => exact ⟨k + 1, hlt, by go_num, by rw [HS4.out]; simp, HW5.out⟩
                case measure => simp [intOf] <;> omega
              · have HS4 := Lib.hid (HSN2.out.trans (show _ = S by rw [if_neg hgt]; rfl))
                have hq : ¬ (TB : Int) < (TX : Int) := by omega
                clear hwt2 hb1 hgt
                go_wp2_with fail
                go_roundw
                case rel => exact ⟨k + 1, hlt, by go_num, by rw [HS4.out], HW.out⟩
                case measure => simp [intOf] <;> omega
    · obtain rfl : k = a.length := by omega
      rw [List.take_length]
      go_wp2_with fail
      go_ret
      exact ⟨rfl, hB1⟩
end Go.Proofs.YthfgpagmepdblaaGreat
namespace Go.Proofs.YthfgpagmepdblaaGreat
open Go.ChangeShapes Go.WideShapes Go.ChangeAt Go.RowKit Go.Maps Go.Sort
set_option linter.unusedVariables false
set_option linter.unusedSimpArgs false
set_option maxRecDepth 100000

theorem sur_le12 (a b : List It) (la : a.length ≤ 1000) (lb : b.length ≤ 1000) : sur a b ≤ 8000 := by have := al_bag (al_dst a b); have := dst_le a b; omega
set_option maxHeartbeats 3200000 in
theorem rbag_any (p q : Option Addr) (c d : Nat) (a b : List It) (w : World) (gA : Its w p a) (gB : Its w q b) (hc : a.length ≤ c) (hd : b.length ≤ d) (hcm : c ≤ maxLen) (hdm : d ≤ maxLen) (la : a.length ≤ 1000) (lb : b.length ≤ 1000) (ta : txtsB a) (tb : txtsB b) :
    Calls Tryz.prog 44 #[.slice p a.length c, .slice q b.length d] w fun e w' => e = .returned (.int .i64 (bagN a b : Nat)) ∧ Below w.heap.size w w' := by
  have h1 := rextra_any p q c d a b w gA gB hc hd hcm hdm la lb ta tb
  have h2 := fun W (h : RowKit.Below w.heap.size w W) => rextra_any q p d c b a W (gB.call h) (gA.call h) hd hc hdm hcm lb la tb ta
  have h3 := fun W (h : RowKit.Below w.heap.size w W) => rsurplus_any p q c d a b W (gA.call h) (gB.call h) hc hd hcm hdm la lb
  have b1 : surC a b ≤ 8000 := Nat.le_trans (surC_le a b) (by omega)
  have b2 : surC b a ≤ 8000 := Nat.le_trans (surC_le b a) (by omega)
  have b3 := sur_le12 a b la lb
  have HR := Lib.hid (show ((bagN a b : Nat) : Int) = max (surC a b : Int) (surC b a : Int) + 3 * (sur a b : Int) by unfold bagN; omega)
  have H1 := Lib.hid h1; have H2 := Lib.hid h2; have H3 := Lib.hid h3
  clear h1 h2 h3 gA gB
  rw [HR.out]
  generalize surC a b = A at *
  generalize surC b a = B at *
  generalize sur a b = S at *
  go_enter Tryz.func44, Tryz.ntmps44
  go_wp2_with fail
  refine H1.out.mono ?_; rintro e w1 ⟨rfl, hb1⟩
  have HB1 := Lib.hid hb1; clear hb1
  go_wp2_with fail
  refine (H2.out _ HB1.out).mono ?_; rintro e w2 ⟨rfl, hb2⟩
  have HB2 := Lib.hid (BelowOn HB1.out hb2); clear hb2
  go_wp2_with fail
  refine (H3.out _ HB2.out).mono ?_; rintro e w3 ⟨rfl, hb3⟩
  have HB3 := Lib.hid (BelowOn HB2.out hb3); clear hb3
  have m1 : (0 : Int) ≤ max (A : Int) (B : Int) := by omega
  have m2 : max (A : Int) (B : Int) ≤ 8000 := by omega
  go_wp2_with fail
  go_ret
  exact ⟨rfl, HB3.out⟩
end Go.Proofs.YthfgpagmepdblaaGreat
namespace Go.Proofs.YthfgpagmepdblaaGreat
open Go.ChangeShapes Go.WideShapes Go.ChangeAt Go.RowKit Go.Maps
set_option linter.unusedVariables false
set_option linter.unusedSimpArgs false
set_option maxRecDepth 100000

def cT (A B : List It) (y : Tg) : Option Int := if y ∈ clsL A ∨ y ∈ clsL B then some ((cC A y : Int) - (cC B y : Int)) else none
theorem cT_num (A B : List It) (y : Tg) : numT (cT A B y) = (cC A y : Int) - (cC B y : Int) := by
  unfold cT
  split
  · rfl
  · rename_i h
    rw [cC_out A y (fun c => h (.inl c)), cC_out B y (fun c => h (.inr c))]; rfl
theorem cT_A (A B : List It) (x : It) : ∀ y, (if y = clT x then some (numT (cT A B (clT x)) + 1) else cT A B y) = cT (A ++ [x]) B y := fun y => by
  have ht : clsL (A ++ [x]) = clsL A ++ [clT x] := by unfold clsL; simp
  by_cases e : y = clT x
  · subst e
    rw [if_pos rfl, cT_num]
    unfold cT; rw [ht, if_pos (.inl (by simp)), cC_snoc, if_pos rfl]
    congr 1; push_cast; omega
  · rw [if_neg e]
    unfold cT; rw [ht, cC_snoc, show (if clT x = y then 1 else 0) = 0 from if_neg (fun c => e c.symm), Nat.add_zero]
    have : (y ∈ clsL A ++ [clT x] ∨ y ∈ clsL B) ↔ (y ∈ clsL A ∨ y ∈ clsL B) := by simp [e]
    simp only [this]
theorem cT_B (A B : List It) (x : It) : ∀ y, (if y = clT x then some (numT (cT A B (clT x)) - 1) else cT A B y) = cT A (B ++ [x]) y := fun y => by
  have ht : clsL (B ++ [x]) = clsL B ++ [clT x] := by unfold clsL; simp
  by_cases e : y = clT x
  · subst e
    rw [if_pos rfl, cT_num]
    unfold cT; rw [ht, if_pos (.inr (by simp)), cC_snoc, if_pos rfl]
    congr 1; push_cast; omega
  · rw [if_neg e]
    unfold cT; rw [ht, cC_snoc, show (if clT x = y then 1 else 0) = 0 from if_neg (fun c => e c.symm), Nat.add_zero]
    have : (y ∈ clsL A ∨ y ∈ clsL B ++ [clT x]) ↔ (y ∈ clsL A ∨ y ∈ clsL B) := by simp [e]
    simp only [this]
theorem keyT_sz (k : Int) (t : ByteArray) : (keyT k t).size = t.size := by
  unfold keyT; split
  · exact low_size t
  · rfl
set_option maxHeartbeats 25600000 in
theorem excess_any (p q : Option Addr) (c d : Nat) (a b : List It) (w : World) (gA : Its w p a) (gB : Its w q b) (hc : a.length ≤ c) (hd : b.length ≤ d) (hcm : c ≤ maxLen) (hdm : d ≤ maxLen) (la : a.length ≤ 1000) (lb : b.length ≤ 1000)
    (ta : ∀ x ∈ a, (Lit.int .i64 x.k).wf = true ∧ x.t.size ≤ 1000) (tb : ∀ x ∈ b, (Lit.int .i64 x.k).wf = true ∧ x.t.size ≤ 1000) :
    Calls Tryz.prog 55 #[.slice p a.length c, .slice q b.length d] w fun e w' => e = .returned (.map (some w.heap.size)) ∧ MapAt 43 cv vInt w' w.heap.size (a.length + b.length) (cT a b) ∧ Below w.heap.size w w' := by
  have mixed : Tryz.prog.follows .mixedOrders = true := by kernel_rfl
  have hmm := @run_makeMap Tryz.prog
  have hM0 : MapAt 43 cv vInt (w.alloc (.map #[] 0)) w.heap.size 0 (cT (a.take 0) []) := (MapAt.made w).ext fun y => by unfold cT; rw [if_neg (by simp [clsL])]
  have HB0 : Below w.heap.size w (w.alloc (.map #[] 0)) := blw (Below.refl _ _) _
  have has := Lib.hid ta; have hbs := Lib.hid tb
  have ha := Lib.hid gA; have hb := Lib.hid gB
  have hcm' := hcm; have hdm' := hdm
  unfold maxLen at hcm' hdm'
  clear ta tb hcm hdm gA gB
  go_enter Tryz.func55, Tryz.ntmps55
  go_wp2_with fail
  go_loopw [13] (fun i wr => ∃ k : Nat, k ≤ a.length ∧ i = .int .i64 k ∧ MapAt 43 cv vInt wr w.heap.size (k) (cT (a.take k) []) ∧ Below w.heap.size w wr) (fun i _ => a.length - (intOf i).toNat)
  case atStart => exact ⟨0, Nat.zero_le _, rfl, hM0, HB0⟩
  case round =>
    clear hM0 HB0
    obtain ⟨k, hk, rfl, hM, hB⟩ := hrel
    by_cases hlt : k < a.length
    · obtain ⟨ad, rfl, had, c0, c1, c2⟩ := (ha.out.call hB).row k hlt
      have hnx : a.take (k + 1) = a.take k ++ [a[k]] := List.take_succ_eq_append_getElem hlt
      have hgn := cT_A (a.take k) [] a[k]
      have hnum := cT_num (a.take k) [] (clT a[k])
      have ob1 := cC_le (a.take k) (clT a[k])
      have ob2 := cC_le (([] : List It)) (clT a[k])
      have ob3 : (([] : List It)).length ≤ 1000 := by simp
      rw [List.length_take] at ob1
      have hok := has.out _ (List.getElem_mem hlt)
      rw [← hnx] at hgn
      have hbd : -1000 ≤ numT (cT (a.take k) [] (clT a[k])) ∧ numT (cT (a.take k) [] (clT a[k])) ≤ 1000 := by omega
      have hv0 := heap_alloc_new wr (.cells #[.int .i64 a[k].k, .string a[k].t, .int .i64 a[k].id] 43)
      have hbv : Below wr.heap.size wr (wr.alloc (.cells #[.int .i64 a[k].k, .string a[k].t, .int .i64 a[k].id] 43)) := blw (Below.refl _ _) _
      have hMv := hM.call hbv
      have hgb : w.heap.size < wr.heap.size := hM.lt
      have hBv := BelowOn hB hbv
      have hcl := fun W => classof_any a[k] W hok.2
      have hkk : ∃ kl, keyOf Tryz.prog 43 (cv (clT a[k])) = some kl := key_tk (clT a[k]) hok.1 (by
        show (keyT _ _).size ≤ maxLen
        have := keyT_sz a[k].k a[k].t; rw [this]; exact Nat.le_trans hok.2 (by unfold maxLen; omega))
      have ik : (k : Int) < (a.length : Int) := by omega
      have hcv : cv (clT a[k]) = .agg #[.int .i64 a[k].k, .string (keyT a[k].k a[k].t), .int .i64 0] := rfl
      clear hnx hnum ob1 ob2 ob3 hbv hM hB
      generalize clT a[k] = cl at *
      generalize a[k] = x at *
      generalize keyT x.k x.t = K at *
      rw [hcv] at hcl
      have HC := Lib.hid hcl
      have HCV := Lib.hid hcv
      clear hcl hcv
      go_wp2_with fail
      generalize (wr.alloc (.cells #[.int .i64 x.k, .string x.t, .int .i64 x.id] 43)) = w2 at *
      have hH : w2.cell? ⟨wr.heap.size, 0, none⟩ = some (.int .i64 x.k) ∧ w2.cell? ⟨wr.heap.size, 1, none⟩ = some (.string x.t) ∧ w2.cell? ⟨wr.heap.size, 2, none⟩ = some (.int .i64 x.id) := ⟨by rw [Lib.cell_of_heap hv0]; rfl, by rw [Lib.cell_of_heap hv0]; rfl, by rw [Lib.cell_of_heap hv0]; rfl⟩
      generalize wr.heap.size = g at *
      clear c0 c1 c2 hv0 had
      obtain ⟨kl, hkey⟩ := hkk
      have hMd := hMv.drew
      have hHd : w2.drew.cell? ⟨g, 0, none⟩ = some (.int .i64 x.k) ∧ w2.drew.cell? ⟨g, 1, none⟩ = some (.string x.t) ∧ w2.drew.cell? ⟨g, 2, none⟩ = some (.int .i64 x.id) := hH
      have HE := Lib.hid (fun W (h : MapAt 43 cv vInt W w.heap.size (k) (cT (a.take k) [])) => h.entryG lawTk cv_inj (T := 97) Tryz.underlying97 (by unfold maxLen; omega) 0 zeroT hkey)
      have HL := Lib.hid (fun W n (f : Tg → Option Int) (h : MapAt 43 cv vInt W w.heap.size n f) => h.look (T := 97) kTk Tryz.underlying97 (z := vInt 0) (zeroT _) hkey)
      have hBd := hBv.drew
      obtain ⟨y0, y1, y2⟩ := id hHd
      have HGN := Lib.hid hgn
      have wr1 : IntKind.i64.wrap (numT (cT (a.take k) [] cl) + 1) = numT (cT (a.take k) [] cl) + 1 := IntWalk.i64_in _ ⟨by omega, by omega⟩
      clear hgn hkey hbd hH hMv hBv
      go_region_held3 (fun w' => w'.cell? ⟨g, 0, none⟩ = some (.int .i64 x.k) ∧ w'.cell? ⟨g, 1, none⟩ = some (.string x.t) ∧ w'.cell? ⟨g, 2, none⟩ = some (.int .i64 x.id))
        (first | exact ⟨y0, y1, y2⟩ | exact held_call hHd hb3 | exact held_grow (held_call hHd hb3) hg4 (by omega) | exact held_grow (held_grow (held_call hHd hb3) hg4 (by omega)) hg5 (by omega))
        ((first | (go_at_call 79; refine (HC.out _).mono ?_; rintro e w3 ⟨rfl, hb3⟩; have hM3 := hMd.call hb3; have hl3 := HL.out _ _ _ hM3; rw [pick_num, HCV.out] at hl3; obtain ⟨st, w4, f1, hE, hg4, hsz4, hM4, hf1, hSt⟩ := HE.out _ hM3; have hl4 := HL.out _ _ _ hM4; rw [hf1, pick_num, HCV.out] at hl4; obtain ⟨w5, hS, hM5, hg5, hsz5⟩ := hSt w4 (numT (cT (a.take k) [] cl) + 1) rfl; rw [pick_num, HCV.out] at hE; replace hM5 := hM5.ext HGN.out; have hS' : (Instr.entryStore 97 (.map (some w.heap.size)) (.int .i64 st) (.int .i64 (numT (cT (a.take k) [] cl) + 1))).run Tryz.prog w4 = .ok () w5 := hS; have hE' : (Instr.mapEntry 97 (.map (some w.heap.size)) (.agg #[.int .i64 x.k, .string K, .int .i64 0])).run Tryz.prog w3 = .ok (.tuple #[.int .i64 (numT (cT (a.take k) [] cl)), .int .i64 st]) w4 := hE; have hl3' : (Instr.lookup 97 (.map (some w.heap.size)) (.agg #[.int .i64 x.k, .string K, .int .i64 0]) false).run Tryz.prog w3 = .ok (.int .i64 (numT (cT (a.take k) [] cl))) w3 := hl3; have hl4' : (Instr.lookup 97 (.map (some w.heap.size)) (.agg #[.int .i64 x.k, .string K, .int .i64 0]) false).run Tryz.prog w4 = .ok (.int .i64 (numT (cT (a.take k) [] cl))) w4 := hl4; have hB3 := BelowOn hBd hb3; have hB4 := below_of_grow hB3 hg4 hB3.size (Nat.le_refl _); have hB5 := below_of_grow hB4 hg5 hB4.size (Nat.le_refl _); have HX := Lib.hid (And.intro hM5 hB5); clear hS hE hl3 hl4 hSt hM4 hM3 hf1 hM5 hB3 hB4 hB5)))
      all_goals (try clear hS' hE' hl3' hl4' hg4 hg5 hb3 y0 y1 y2 hHd hMd hBd)
      all_goals go_wp2_with fail
      all_goals go_roundw
      all_goals first
        | (obtain ⟨hM5, hB5⟩ := HX.out; exact ⟨k + 1, hlt, by go_num, hM5, hB5⟩)
        | (simp [intOf] <;> omega)
    · obtain rfl : k = a.length := by omega
      rw [List.take_length] at hM
      have hM1 : MapAt 43 cv vInt wr w.heap.size (a.length + 0) (cT a (b.take 0)) := hM
      have HB1 := hB
      clear hM hB
      go_wp2_with fail
      go_loopw [27] (fun i wr => ∃ k : Nat, k ≤ b.length ∧ i = .int .i64 k ∧ MapAt 43 cv vInt wr w.heap.size (a.length + k) (cT a (b.take k)) ∧ Below w.heap.size w wr) (fun i _ => b.length - (intOf i).toNat)
      case atStart => exact ⟨0, Nat.zero_le _, rfl, hM1, HB1⟩
      case round =>
        clear hM1 HB1
        obtain ⟨k, hk, rfl, hM, hB⟩ := hrel
        by_cases hlt : k < b.length
        · obtain ⟨ad, rfl, had, c0, c1, c2⟩ := (hb.out.call hB).row k hlt
          have hnx : b.take (k + 1) = b.take k ++ [b[k]] := List.take_succ_eq_append_getElem hlt
          have hgn := cT_B a (b.take k) b[k]
          have hnum := cT_num a (b.take k) (clT b[k])
          have ob1 := cC_le a (clT b[k])
          have ob2 := cC_le (b.take k) (clT b[k])
          have ob3 : (b.take k).length ≤ 1000 := by simp; omega
          have hok := hbs.out _ (List.getElem_mem hlt)
          rw [← hnx] at hgn
          have hbd : -1000 ≤ numT (cT a (b.take k) (clT b[k])) ∧ numT (cT a (b.take k) (clT b[k])) ≤ 1000 := by omega
          have hv0 := heap_alloc_new wr (.cells #[.int .i64 b[k].k, .string b[k].t, .int .i64 b[k].id] 43)
          have hbv : Below wr.heap.size wr (wr.alloc (.cells #[.int .i64 b[k].k, .string b[k].t, .int .i64 b[k].id] 43)) := blw (Below.refl _ _) _
          have hMv := hM.call hbv
          have hgb : w.heap.size < wr.heap.size := hM.lt
          have hBv := BelowOn hB hbv
          have hcl := fun W => classof_any b[k] W hok.2
          have hkk : ∃ kl, keyOf Tryz.prog 43 (cv (clT b[k])) = some kl := key_tk (clT b[k]) hok.1 (by
            show (keyT _ _).size ≤ maxLen
            have := keyT_sz b[k].k b[k].t; rw [this]; exact Nat.le_trans hok.2 (by unfold maxLen; omega))
          have ik : (k : Int) < (b.length : Int) := by omega
          have hcv : cv (clT b[k]) = .agg #[.int .i64 b[k].k, .string (keyT b[k].k b[k].t), .int .i64 0] := rfl
          clear hnx hnum ob1 ob2 ob3 hbv hM hB
          generalize clT b[k] = cl at *
          generalize b[k] = x at *
          generalize keyT x.k x.t = K at *
          rw [hcv] at hcl
          have HC := Lib.hid hcl
          have HCV := Lib.hid hcv
          clear hcl hcv
          go_wp2_with fail
          generalize (wr.alloc (.cells #[.int .i64 x.k, .string x.t, .int .i64 x.id] 43)) = w2 at *
          have hH : w2.cell? ⟨wr.heap.size, 0, none⟩ = some (.int .i64 x.k) ∧ w2.cell? ⟨wr.heap.size, 1, none⟩ = some (.string x.t) ∧ w2.cell? ⟨wr.heap.size, 2, none⟩ = some (.int .i64 x.id) := ⟨by rw [Lib.cell_of_heap hv0]; rfl, by rw [Lib.cell_of_heap hv0]; rfl, by rw [Lib.cell_of_heap hv0]; rfl⟩
          generalize wr.heap.size = g at *
          clear c0 c1 c2 hv0 had
          obtain ⟨kl, hkey⟩ := hkk
          have hMd := hMv.drew
          have hHd : w2.drew.cell? ⟨g, 0, none⟩ = some (.int .i64 x.k) ∧ w2.drew.cell? ⟨g, 1, none⟩ = some (.string x.t) ∧ w2.drew.cell? ⟨g, 2, none⟩ = some (.int .i64 x.id) := hH
          have HE := Lib.hid (fun W (h : MapAt 43 cv vInt W w.heap.size (a.length + k) (cT a (b.take k))) => h.entryG lawTk cv_inj (T := 97) Tryz.underlying97 (by unfold maxLen; omega) 0 zeroT hkey)
          have HL := Lib.hid (fun W n (f : Tg → Option Int) (h : MapAt 43 cv vInt W w.heap.size n f) => h.look (T := 97) kTk Tryz.underlying97 (z := vInt 0) (zeroT _) hkey)
          have hBd := hBv.drew
          obtain ⟨y0, y1, y2⟩ := id hHd
          have HGN := Lib.hid hgn
          have wr1 : IntKind.i64.wrap (numT (cT a (b.take k) cl) - 1) = numT (cT a (b.take k) cl) - 1 := IntWalk.i64_in _ ⟨by omega, by omega⟩
          clear hgn hkey hbd hH hMv hBv
          go_region_held3 (fun w' => w'.cell? ⟨g, 0, none⟩ = some (.int .i64 x.k) ∧ w'.cell? ⟨g, 1, none⟩ = some (.string x.t) ∧ w'.cell? ⟨g, 2, none⟩ = some (.int .i64 x.id))
            (first | exact ⟨y0, y1, y2⟩ | exact held_call hHd hb3 | exact held_grow (held_call hHd hb3) hg4 (by omega) | exact held_grow (held_grow (held_call hHd hb3) hg4 (by omega)) hg5 (by omega))
            ((first | (go_at_call 79; refine (HC.out _).mono ?_; rintro e w3 ⟨rfl, hb3⟩; have hM3 := hMd.call hb3; have hl3 := HL.out _ _ _ hM3; rw [pick_num, HCV.out] at hl3; obtain ⟨st, w4, f1, hE, hg4, hsz4, hM4, hf1, hSt⟩ := HE.out _ hM3; have hl4 := HL.out _ _ _ hM4; rw [hf1, pick_num, HCV.out] at hl4; obtain ⟨w5, hS, hM5, hg5, hsz5⟩ := hSt w4 (numT (cT a (b.take k) cl) - 1) rfl; rw [pick_num, HCV.out] at hE; replace hM5 := hM5.ext HGN.out; have hS' : (Instr.entryStore 97 (.map (some w.heap.size)) (.int .i64 st) (.int .i64 (numT (cT a (b.take k) cl) - 1))).run Tryz.prog w4 = .ok () w5 := hS; have hE' : (Instr.mapEntry 97 (.map (some w.heap.size)) (.agg #[.int .i64 x.k, .string K, .int .i64 0])).run Tryz.prog w3 = .ok (.tuple #[.int .i64 (numT (cT a (b.take k) cl)), .int .i64 st]) w4 := hE; have hl3' : (Instr.lookup 97 (.map (some w.heap.size)) (.agg #[.int .i64 x.k, .string K, .int .i64 0]) false).run Tryz.prog w3 = .ok (.int .i64 (numT (cT a (b.take k) cl))) w3 := hl3; have hl4' : (Instr.lookup 97 (.map (some w.heap.size)) (.agg #[.int .i64 x.k, .string K, .int .i64 0]) false).run Tryz.prog w4 = .ok (.int .i64 (numT (cT a (b.take k) cl))) w4 := hl4; have hB3 := BelowOn hBd hb3; have hB4 := below_of_grow hB3 hg4 hB3.size (Nat.le_refl _); have hB5 := below_of_grow hB4 hg5 hB4.size (Nat.le_refl _); have HX := Lib.hid (And.intro hM5 hB5); clear hS hE hl3 hl4 hSt hM4 hM3 hf1 hM5 hB3 hB4 hB5)))
          all_goals (try clear hS' hE' hl3' hl4' hg4 hg5 hb3 y0 y1 y2 hHd hMd hBd)
          all_goals go_wp2_with fail
          all_goals go_roundw
          all_goals first
            | (obtain ⟨hM5, hB5⟩ := HX.out; exact ⟨k + 1, hlt, by go_num, hM5, hB5⟩)
            | (simp [intOf] <;> omega)
        · obtain rfl : k = b.length := by omega
          rw [List.take_length] at hM
          go_wp2_with fail
          go_ret
          exact ⟨rfl, hM, hB⟩
end Go.Proofs.YthfgpagmepdblaaGreat
namespace Go.Proofs.YthfgpagmepdblaaGreat
open Go.ChangeShapes Go.WideShapes Go.ChangeAt Go.RowKit Go.Maps
set_option linter.unusedVariables false
set_option linter.unusedSimpArgs false
set_option maxRecDepth 100000

def bA (f : Tg → Option Int) (y : Tg) : Nat := if isT y.k = true then 0 else (numT (f y)).toNat * wtT y.k
def bB (f : Tg → Option Int) (y : Tg) : Nat := if isT y.k = true then 0 else (-(numT (f y))).toNat * wtT y.k
def bT (f : Tg → Option Int) (y : Tg) : Nat := if isT y.k = true then (numT (f y)).natAbs else 0
structure BRem (left : Lit → Bool) (SA SB ST A B T : Nat) (f : Tg → Option Int) (rem : List Tg) : Prop where
  nodup : rem.Nodup
  left : ∀ y kl, keyOf Tryz.prog 43 (cv y) = some kl → (left kl = true ↔ y ∈ rem)
  sa : A + gsum rem (bA f) = SA
  sb : B + gsum rem (bB f) = SB
  st : T + gsum rem (bT f) = ST
theorem BRem.next {left : Lit → Bool} {SA SB ST A B T : Nat} {f : Tg → Option Int} {rem : List Tg} (h : BRem left SA SB ST A B T f rem) {y : Tg} {kl : Lit} (hk : keyOf Tryz.prog 43 (cv y) = some kl) (hl : left kl = true) :
    BRem (fun z => left z && !z.sameKey kl) SA SB ST (A + bA f y) (B + bB f y) (T + bT f y) f (rem.erase y) := by
  have hy : y ∈ rem := (h.left y kl hk).1 hl
  refine ⟨h.nodup.erase y, fun y' kl' hk' => ?_, ?_, ?_, ?_⟩
  · rw [Bool.and_eq_true, h.left y' kl' hk', h.nodup.mem_erase_iff]
    constructor
    · rintro ⟨h1, h2⟩
      refine ⟨fun e => ?_, h1⟩
      subst e
      rw [hk] at hk'; injection hk' with hk'; subst hk'
      rw [WideAt.sameKey_self (kTk.key hk)] at h2; cases h2
    · rintro ⟨h1, h2⟩
      refine ⟨h2, ?_⟩
      cases hs : kl'.sameKey kl with
      | false => rfl
      | true =>
        have e := WideAt.sameKey_eq hs
        subst e
        exact absurd (cv_inj _ _ (kTk.inj hk' hk)) h1
  · have := gsum_erase rem y hy (bA f); have := h.sa; omega
  · have := gsum_erase rem y hy (bB f); have := h.sb; omega
  · have := gsum_erase rem y hy (bT f); have := h.st; omega
theorem bag_sums (a b : List It) : gsum (ukL (clsL a ++ clsL b)) (bA (cT a b)) = surC a b ∧ gsum (ukL (clsL a ++ clsL b)) (bB (cT a b)) = surC b a ∧ gsum (ukL (clsL a ++ clsL b)) (bT (cT a b)) = sur a b := by
  refine ⟨?_, ?_, ?_⟩
  · rw [← surC_any _ a b (ukL_nodup (clsL a ++ clsL b)) fun c hc => (ukL_mem _ _).2 (List.mem_append_left _ hc)]
    refine gsum_congr _ _ _ fun y _ => ?_
    unfold bA exS; rw [cT_num]
    split
    · rfl
    · congr 1; omega
  · rw [← surC_any _ b a (ukL_nodup (clsL a ++ clsL b)) fun c hc => (ukL_mem _ _).2 (List.mem_append_right _ hc)]
    refine gsum_congr _ _ _ fun y _ => ?_
    unfold bB exS; rw [cT_num]
    split
    · rfl
    · congr 1; omega
  · rw [← surT_any _ a b (ukL_nodup (clsL a ++ clsL b)) fun c hc => (ukL_mem _ _).2 (List.mem_append.2 hc)]
    refine gsum_congr _ _ _ fun y _ => ?_
    unfold bT exT; rw [cT_num]
    split
    · rename_i h; unfold dif; rw [cntN_cls a y h, cntN_cls b y h]
    · rfl
set_option maxHeartbeats 25600000 in
theorem bag_any (p q : Option Addr) (c d : Nat) (a b : List It) (w : World) (gA : Its w p a) (gB : Its w q b) (hc : a.length ≤ c) (hd : b.length ≤ d) (hcm : c ≤ maxLen) (hdm : d ≤ maxLen) (la : a.length ≤ 1000) (lb : b.length ≤ 1000)
    (ta : ∀ x ∈ a, (Lit.int .i64 x.k).wf = true ∧ x.t.size ≤ 1000) (tb : ∀ x ∈ b, (Lit.int .i64 x.k).wf = true ∧ x.t.size ≤ 1000) :
    Calls Tryz.prog 38 #[.slice p a.length c, .slice q b.length d] w fun e w' => e = .returned (.int .i64 (bagN a b : Nat)) ∧ Below w.heap.size w w' := by
  have mixed : Tryz.prog.follows .mixedOrders = true := by kernel_rfl
  have hex := excess_any p q c d a b w gA gB hc hd hcm hdm la lb ta tb
  have HEX := Lib.hid hex
  have hkeys : ∀ y ∈ ukL (clsL a ++ clsL b), ∃ kl, keyOf Tryz.prog 43 (cv y) = some kl := fun y hy => by
    have key : ∀ l : List It, (∀ x ∈ l, (Lit.int .i64 x.k).wf = true ∧ x.t.size ≤ 1000) → y ∈ clsL l → ∃ kl, keyOf Tryz.prog 43 (cv y) = some kl := fun l tl h => by
      unfold clsL at h; rw [List.mem_map] at h
      obtain ⟨x, hx, rfl⟩ := h
      exact key_tk (clT x) (tl x hx).1 (by show (keyT _ _).size ≤ maxLen; rw [keyT_sz]; exact Nat.le_trans (tl x hx).2 (by unfold maxLen; omega))
    rw [ukL_mem, List.mem_append] at hy
    exact hy.elim (key a ta) (key b tb)
  have HKEYS := Lib.hid hkeys
  obtain ⟨es1, es2, es3⟩ := bag_sums a b
  have b1 : surC a b ≤ 8000 := Nat.le_trans (surC_le a b) (by omega)
  have b2 : surC b a ≤ 8000 := Nat.le_trans (surC_le b a) (by omega)
  have b3 := sur_le12 a b la lb
  have hbd : ∀ y, -1000 ≤ numT (cT a b y) ∧ numT (cT a b y) ≤ 1000 := fun y => by rw [cT_num]; have := cC_le a y; have := cC_le b y; omega
  have HR := Lib.hid (show ((bagN a b : Nat) : Int) = max (surC a b : Int) (surC b a : Int) + 3 * (sur a b : Int) by unfold bagN; omega)
  rw [HR.out]
  have HES := Lib.hid (And.intro es1 (And.intro es2 es3))
  have HBD := Lib.hid hbd
  clear hex hkeys ta tb gA gB es1 es2 es3 hbd hcm hdm
  have HWT := Lib.hid (fun k t id W => weight_any k t id W); have HTG := Lib.hid (fun k t id W => sistag_any k t id W)
  generalize surC a b = SA at *
  generalize surC b a = SB at *
  generalize sur a b = ST at *
  go_enter Tryz.func38, Tryz.ntmps38
  go_wp2_with fail
  refine HEX.out.mono ?_; rintro e w1 ⟨rfl, hM, hB⟩
  obtain ⟨D, o1, s1, t1⟩ := hM
  have hlt := o1.lt
  have hR0 : BRem (Maps.has D) SA SB ST 0 0 0 (cT a b) (ukL (clsL a ++ clsL b)) := by
    refine ⟨ukL_nodup _, fun y kl hk => ?_, by rw [Nat.zero_add]; exact HES.out.1, by rw [Nat.zero_add]; exact HES.out.2.1, by rw [Nat.zero_add]; exact HES.out.2.2⟩
    rw [ukL_mem, List.mem_append]
    have := s1 y kl hk
    unfold cT at this
    by_cases hy : y ∈ clsL a ∨ y ∈ clsL b
    · rw [if_pos hy] at this; rw [show Maps.has D kl = true from this.1]; simp [hy]
    · rw [if_neg hy] at this; rw [show Maps.has D kl = false from this.1]; simp [hy]
  have HK := Lib.hid (And.intro HKEYS.out (And.intro s1 (And.intro t1 HBD.out)))
  clear HES HEX HKEYS HBD s1 t1
  generalize cT a b = f at *
  generalize ukL (clsL a ++ clsL b) = K0 at *
  go_wp2_with (first
    | (at_range; refine wpList_range_own _ rfl _ 97 rfl 43 3 kTk Tryz.underlying97 rawE w.heap.size (a.length + b.length) _ rfl o1 ?_; intro w0 hrg0 hg0 hs0)
    | go_in)
  go_frame
  have hB0 : Below w.heap.size w w0 := hB.grown hg0 hB.size (fun j hj => by cases hj)
  clear hg0 hs0 hB o1
  generalize w1.heap.size = r0 at *
  go_loopw [5, 6, 7] (fun va vb vt wr => ∃ (left : Lit → Bool) (cnt A B T : Nat) (rem : List Tg), va = .int .i64 A ∧ vb = .int .i64 B ∧ vt = .int .i64 (3 * (T : Int)) ∧ wr.ranges Tryz.prog 43 rawE w.heap.size r0 (a.length + b.length) D left cnt ∧ Below w.heap.size w wr ∧ Aside (BRem left SA SB ST A B T f rem ∧ ∀ y ∈ rem, y ∈ K0))
    (fun _ _ _ wr => wr.rangeLeft w.heap.size r0)
  case atStart => exact ⟨_, _, 0, 0, 0, K0, rfl, rfl, rfl, hrg0, hB0, hR0, fun y h => h⟩
  case round =>
    clear hrg0 hB0 hR0
    obtain ⟨left, cnt, A, B, T, rem, rfl, rfl, rfl, hrg, hB, G⟩ := hrel
    have hleft := hrg.left_eq
    have hra : A ≤ SA := by have := G.out.1.sa; omega
    have hrb : B ≤ SB := by have := G.out.1.sb; omega
    have hrt : T ≤ ST := by have := G.out.1.st; omega
    go_wp2_with (first
      | (at_next; refine wpList_next_ranges _ rfl _ rfl 43 kTk rawE id id (fun key _ _ => ⟨key, rfl⟩) (fun v _ _ => ⟨v, rfl⟩) w.heap.size r0 (a.length + b.length) _ _ _ rfl hrg ?_ ?_)
      | go_in)
    · intro _ hl0
      have e0 : rem = [] := by
        cases rem with
        | nil => rfl
        | cons y r =>
          obtain ⟨kl, hkl⟩ := HK.out.1 y (G.out.2 y (List.mem_cons_self ..))
          have := (G.out.1.left y kl hkl).2 (List.mem_cons_self ..)
          rw [hl0] at this; cases this
      have hG := G.out.1
      rw [e0] at hG
      have h1 := hG.sa; have h2 := hG.sb; have h3 := hG.st
      rw [gsum_nil] at h1 h2 h3
      have HE := Lib.hid (show A = SA ∧ B = SB ∧ T = ST from ⟨by omega, by omega, by omega⟩)
      have m1 : (0 : Int) ≤ max (A : Int) (B : Int) := by omega
      have m2 : max (A : Int) (B : Int) ≤ 8000 := by omega
      clear h1 h2 h3 hG e0 G
      go_wp2_with fail
      go_ret
      exact ⟨by rw [← HE.out.1, ← HE.out.2.1, ← HE.out.2.2]; rfl, hB⟩
    · intro x cc kl yd yp w2 cnt1 hkey hlx hv hat hrg1 hlt1 hg1 hs1 hen
      obtain ⟨hkeys, s1, t1, hbnd⟩ := HK.out
      have hh := has_true_of_atKey hat
      obtain ⟨y, hy⟩ := t1 kl hh
      have hxy : x = cv y := kTk.inj hkey hy
      have hsy := s1 y kl hy
      have hrb0 : w.heap.size < r0 := hlt
      have hB1 : Below w.heap.size w w2 := hB.grown hg1 hB.size (fun j hj => by cases hj; exact Nat.le_of_lt hrb0)
      have hby := hbnd y
      cases hf : f y with
      | none => rw [hf] at hsy; rw [show Maps.has _ _ = false from hsy.1] at hh; cases hh
      | some u =>
        rw [hf] at hsy
        have hcc : cc = vInt u := by
          have h1 := hat .nil
          rw [hsy.2 .nil] at h1
          have h2 : some (DataW.held cc, ([] : List MemPlace)) = some (yd, yp) := hv
          injection h2 with h2
          injection h2 with h2 _
          rw [← h2] at h1
          injection h1 with h1
          exact h1.symm
        subst hcc; subst hxy
        have hnx := G.out.1.next hy hlx
        rw [hf] at hby
        have hby2 : -1000 ≤ u ∧ u ≤ 1000 := hby
        have hA1 : bA f y = if isT y.k = true then 0 else u.toNat * wtT y.k := by unfold bA; rw [hf]; rfl
        have hB2 : bB f y = if isT y.k = true then 0 else (-u).toNat * wtT y.k := by unfold bB; rw [hf]; rfl
        have hT2 : bT f y = if isT y.k = true then u.natAbs else 0 := by unfold bT; rw [hf]; rfl
        rw [hA1, hB2, hT2] at hnx
        have hmem : ∀ z ∈ rem.erase y, z ∈ K0 := fun z hz => G.out.2 z (List.mem_of_mem_erase hz)
        have hen' : (Instr.entry (.pointer (some ⟨r0, 0, none⟩))).run Tryz.prog w2 = .ok (.tuple #[.agg #[.int .i64 y.k, .string y.t, .int .i64 0], .int .i64 u]) w2 := hen
        have hv3 := Var3.newT w2 y.k y.t 0
        have hbv : Below w2.heap.size w2 (w2.alloc (.cells #[.int .i64 y.k, .string y.t, .int .i64 0] 43)) := blw (Below.refl _ _) _
        have hrg2 := hrg1.alloc (.cells #[.int .i64 y.k, .string y.t, .int .i64 0] 43)
        have hB3 := BelowOn hB1 hbv
        have HN := Lib.hid (And.intro hnx hmem)
        have HY := Lib.hid (And.intro hrg2 hB3)
        have hwl : wtT y.k ≤ 4 := wtT_le _
        have htg := fun W => HTG.out y.k y.t 0 W
        have hwt := fun W => HWT.out y.k y.t 0 W
        have HTGy := Lib.hid htg; have HWTy := Lib.hid hwt
        have HRR := Lib.hid (fun (W1 W2 : World) (h : W1.ranges Tryz.prog 43 rawE w.heap.size r0 (a.length + b.length) D (fun z => left z && !z.sameKey kl) cnt1) (hb : Below W1.heap.size W1 W2) => h.kept (row := none) (grow_below hb none) (by simp) (by simp))
        clear htg hwt hv hen hat hsy hg1 hrg1 hrg hs1 hf hkeys s1 t1 hbnd hB1 hnx hmem hby G hh hkey hy hlx hA1 hB2 hT2 hbv hrg2 hB3
        generalize isT y.k = tg at *
        generalize wtT y.k = WT at *
        go_wp2_with fail
        generalize (w2.alloc (.cells #[.int .i64 y.k, .string y.t, .int .i64 0] 43)) = w3 at *
        obtain ⟨v0, v1, v2, vl⟩ := hv3
        refine (HTGy.out _).mono ?_; rintro e w4 ⟨rfl, hb4⟩
        have hrg4 := HRR.out _ _ HY.out.1 hb4
        have hB4 := BelowOn HY.out.2 hb4
        have x0 := (hb4.cell (p := ⟨w2.heap.size, 0, none⟩) vl).trans v0
        have x1 := (hb4.cell (p := ⟨w2.heap.size, 1, none⟩) vl).trans v1
        have x2 := (hb4.cell (p := ⟨w2.heap.size, 2, none⟩) vl).trans v2
        clear v0 v1 v2 HY hen' hb4
        have HZ := Lib.hid (And.intro hrg4 hB4)
        clear hrg4 hB4
        cases tg
        · have HN2 := Lib.hid (show BRem _ SA SB ST (A + u.toNat * WT) (B + (-u).toNat * WT) (T + 0) f (rem.erase y) ∧ _ from HN.out)
          by_cases hu : 0 < u
          · have e1 : (u * (WT : Int)) = ((u.toNat * WT : Nat) : Int) := by push_cast; rw [Int.toNat_of_nonneg (by omega)]
            have e2 : u.toNat * WT ≤ 4000 := Nat.le_trans (Nat.mul_le_mul (show u.toNat ≤ 1000 by omega) hwl) (by omega)
            have e3 : (-u).toNat = 0 := by omega
            have E1 := Lib.hid e1
            have m1 : (0 : Int) ≤ u * (WT : Int) := by rw [e1]; omega
            have m2 : u * (WT : Int) ≤ 4000 := by rw [e1]; omega
            have E3 := Lib.hid e3
            clear e1 e3 e2
            go_wp2_with fail
            refine (HWTy.out _).mono ?_; rintro e w5 ⟨rfl, hb5⟩
            have hrg5 := HRR.out _ _ HZ.out.1 hb5
            have hB5 := BelowOn HZ.out.2 hb5
            have HZ5 := Lib.hid (And.intro hrg5 hB5)
            clear hrg5 hB5 hb5 x0 x1 x2
            go_wp2_with fail
            obtain ⟨hrg5, hB5⟩ := HZ5.out
            obtain ⟨hnx, hmem⟩ := HN2.out
            rw [E3.out, Nat.zero_mul, Nat.add_zero, Nat.add_zero] at hnx
            refine ⟨⟨_, cnt1, A + u.toNat * WT, B, T, rem.erase y, ?_, rfl, rfl, hrg5, hB5, hnx, hmem⟩, ?_⟩
            · rw [E1.out]; push_cast; rfl
            · rw [hrg5.left_eq, hleft]; exact hlt1
          · have e1 : (u * (WT : Int)) = -(((-u).toNat * WT : Nat) : Int) := by push_cast; rw [Int.toNat_of_nonneg (by omega)]; rw [Int.neg_mul, Int.neg_neg]
            have e2 : (-u).toNat * WT ≤ 4000 := Nat.le_trans (Nat.mul_le_mul (show (-u).toNat ≤ 1000 by omega) hwl) (by omega)
            have e3 : u.toNat = 0 := by omega
            have E1 := Lib.hid e1
            have m1 : u * (WT : Int) ≤ 0 := by rw [e1]; omega
            have m2 : -4000 ≤ u * (WT : Int) := by rw [e1]; omega
            have E3 := Lib.hid e3
            clear e1 e3 e2
            go_wp2_with fail
            refine (HWTy.out _).mono ?_; rintro e w5 ⟨rfl, hb5⟩
            have hrg5 := HRR.out _ _ HZ.out.1 hb5
            have hB5 := BelowOn HZ.out.2 hb5
            have HZ5 := Lib.hid (And.intro hrg5 hB5)
            clear hrg5 hB5 hb5 x0 x1 x2
            go_wp2_with fail
            obtain ⟨hrg5, hB5⟩ := HZ5.out
            obtain ⟨hnx, hmem⟩ := HN2.out
            rw [E3.out, Nat.zero_mul, Nat.add_zero, Nat.add_zero] at hnx
            refine ⟨⟨_, cnt1, A, B + (-u).toNat * WT, T, rem.erase y, rfl, ?_, rfl, hrg5, hB5, hnx, hmem⟩, ?_⟩
            · rw [E1.out]; congr 1; push_cast; omega
            · rw [hrg5.left_eq, hleft]; exact hlt1
        · have HN2 := Lib.hid (show BRem _ SA SB ST (A + 0) (B + 0) (T + u.natAbs) f (rem.erase y) ∧ _ from HN.out)
          have hwn : IntKind.i64.wrap (-u) = -u := IntWalk.i64_in _ ⟨by omega, by omega⟩
          have em : max u (-u) = (u.natAbs : Int) := by omega
          have hN : u.natAbs ≤ 1000 := by omega
          generalize u.natAbs = N at *
          go_wp2_with fail
          obtain ⟨hrg5, hB5⟩ := HZ.out
          obtain ⟨hnx, hmem⟩ := HN2.out
          refine ⟨⟨_, cnt1, A, B, T + N, rem.erase y, rfl, rfl, ?_, hrg5, hB5, hnx, hmem⟩, ?_⟩
          · congr 1; push_cast; omega
          · rw [hrg5.left_eq, hleft]; exact hlt1
end Go.Proofs.YthfgpagmepdblaaGreat
