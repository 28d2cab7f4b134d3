/- Contract of with. Contract of the reference's SameEdits, where both scripts are the same. Contract of the reference's times. The reference's surplus: the sum over first occurrences. Contract of the reference's Cost. Tables of numbers: a slice of rows, each in a block of its own. Contract of the reference's surplus. Contract of the reference's table. Contract of the reference's Distance. -/
import Derived.Test.YthfgpagmepdblaaGreatDtK
import Derived.Deep.Upon
import Derived.Test.YthfgpagmepdblaaGreatDtC
import Derived.Test.YthfgpagmepdblaaGreatDtB
namespace Go.Proofs.YthfgpagmepdblaaGreat
open Go.ChangeShapes Go.WideShapes Go.ChangeAt Go.RowKit Go.Sort
set_option linter.unusedVariables false
set_option linter.unusedSimpArgs false
set_option maxRecDepth 100000

theorem its_row (W : World) (p : Option Addr) (l : List It) (h : Its W p l) (k : Nat) (hk : k ≤ l.length) (q : Option Addr) (hq : ∀ a, p = some a → k < l.length → q = some (a.add (k * 3))) : Its W q (l.drop k) := fun h0 => by
  have hk2 : k < l.length := by simp at h0; omega
  obtain ⟨a, ha, hlt, hc⟩ := h (by omega)
  refine ⟨a.add (k * 3), hq a ha hk2, by rw [add_block]; exact hlt, fun i hi => ?_⟩
  have hi2 : k + i < l.length := by simp at hi; omega
  obtain ⟨c0, c1, c2⟩ := hc (k + i) hi2
  have add_add : ∀ n m : Nat, (a.add n).add m = a.add (n + m) := fun n m => by
    unfold Addr.add
    by_cases h1 : n = 0
    · rw [if_pos h1, h1]; simp
    · rw [if_neg h1]
      by_cases h2 : m = 0
      · rw [if_pos h2, h2, if_neg (by omega)]; rfl
      · rw [if_neg h2, if_neg (by omega)]; simp; omega
  rw [List.getElem_drop]
  rw [add_add, add_add, add_add, show k * 3 + i * 3 = (k + i) * 3 by omega, show k * 3 + (i * 3 + 1) = (k + i) * 3 + 1 by omega, show k * 3 + (i * 3 + 2) = (k + i) * 3 + 2 by omega]
  exact ⟨c0, c1, c2⟩
theorem step_of_wp {P : Program} {ops : Array Oper} {o : Oper} {a : Act} {w : World} {K : Act → World → Prop} {Q : Exit → Act → World → Prop} {E : Prop} (hgd : o.guard = none) (h : Oper.wp P o a w K Q) : if Region.wanted o (yielded ops a.tmps) = true then Oper.wp P o a w K Q else E := by
  have hw : Region.wanted o (yielded ops a.tmps) = true := by simp [Region.wanted, hgd]
  rw [if_pos hw]; exact h
def Held (b : Nat) (t : It) (W : World) : Prop := W.cell? ⟨b, 0, none⟩ = some (.int .i64 t.k) ∧ W.cell? ⟨b, 1, none⟩ = some (.string t.t) ∧ W.cell? ⟨b, 2, none⟩ = some (.int .i64 t.id)
theorem held_call {b : Nat} {t : It} {W W' : World} (h : W.cell? ⟨b, 0, none⟩ = some (.int .i64 t.k) ∧ W.cell? ⟨b, 1, none⟩ = some (.string t.t) ∧ W.cell? ⟨b, 2, none⟩ = some (.int .i64 t.id)) (hb : Below W.heap.size W W') : W'.cell? ⟨b, 0, none⟩ = some (.int .i64 t.k) ∧ W'.cell? ⟨b, 1, none⟩ = some (.string t.t) ∧ W'.cell? ⟨b, 2, none⟩ = some (.int .i64 t.id) := by
  have hl := block_lt_of_cell h.1
  exact ⟨by rw [hb.cell (p := ⟨b, 0, none⟩) hl]; exact h.1, by rw [hb.cell (p := ⟨b, 1, none⟩) hl]; exact h.2.1, by rw [hb.cell (p := ⟨b, 2, none⟩) hl]; exact h.2.2⟩
theorem held_grow {b g : Nat} {t : It} {W W' : World} (h : W.cell? ⟨b, 0, none⟩ = some (.int .i64 t.k) ∧ W.cell? ⟨b, 1, none⟩ = some (.string t.t) ∧ W.cell? ⟨b, 2, none⟩ = some (.int .i64 t.id)) (hg : W.grownBy W' (some g)) (hne : b ≠ g) : W'.cell? ⟨b, 0, none⟩ = some (.int .i64 t.k) ∧ W'.cell? ⟨b, 1, none⟩ = some (.string t.t) ∧ W'.cell? ⟨b, 2, none⟩ = some (.int .i64 t.id) := by
  have hb : W'.heap[b]? = W.heap[b]? := hg.block b (block_lt_of_cell h.1) (fun e => hne (by injection e))
  exact ⟨by rw [World.cell?_of_block (w := W) (a := ⟨b, 0, none⟩) hb]; exact h.1, by rw [World.cell?_of_block (w := W) (a := ⟨b, 1, none⟩) hb]; exact h.2.1, by rw [World.cell?_of_block (w := W) (a := ⟨b, 2, none⟩) hb]; exact h.2.2⟩
theorem own_lit {W : World} {g base : Nat} {cur : Array Value} {L : List It} (h : W.heap[g]? = some (.cells cur 43 (0, 0))) (hb : base ≤ g) (hc : cur.toList = icells L) (hl : L.length ≤ maxLen) : OwnT base L (.slice (some ⟨g, 0, none⟩) L.length L.length) W := by
  have e : cellsOf ienc L = icells L := rfl
  have hs : cur.size = L.length * 3 := by have := congrArg List.length hc; rw [icells_length] at this; simpa using this
  refine ⟨by rw [cellsOf_len eT], .inr ⟨g, L.length, cur, rfl, hb, h, Nat.le_refl _, hl, hs, ?_⟩⟩
  rw [hc, e, List.take_of_length_le (by rw [icells_length]; omega)]
theorem its_takeD {W : World} {p : Option Addr} {l : List It} (h : Its W p l) (k : Nat) : Its W p (l.take k) := fun h0 => by
  have h1 : 0 < l.length := by simp at h0; omega
  obtain ⟨a, ha, hlt, hc⟩ := h h1
  refine ⟨a, ha, hlt, fun i hi => ?_⟩
  rw [List.getElem_take]; exact hc i (by simp at hi; omega)
end Go.Proofs.YthfgpagmepdblaaGreat
namespace Go.Proofs.YthfgpagmepdblaaGreat
open Go.ChangeShapes Go.WideShapes Go.ChangeAt Go.RowKit Go.Sort
set_option linter.unusedVariables false
set_option linter.unusedSimpArgs false
set_option maxRecDepth 100000

end Go.Proofs.YthfgpagmepdblaaGreat
namespace Go.Proofs.YthfgpagmepdblaaGreat
open Go.ChangeShapes Go.WideShapes Go.ChangeAt Go.RowKit Go.Sort
set_option linter.unusedVariables false
set_option linter.unusedSimpArgs false
set_option maxRecDepth 100000

/-- How often a list has a token that is the same. -/
def tmsR (l : List It) (t : It) : Nat := l.countP (fun x => sm x t)
theorem tmsR_next (l : List It) (t : It) (k : Nat) (h : k < l.length) : tmsR (l.take (k + 1)) t = tmsR (l.take k) t + (if sm (l[k]'h) t = true then 1 else 0) := by
  unfold tmsR; rw [List.take_succ_eq_append_getElem h, List.countP_append, List.countP_singleton]
theorem tmsR_le (l : List It) (t : It) : tmsR l t ≤ l.length := List.countP_le_length
set_option maxHeartbeats 3200000 in
theorem times_any (p : Option Addr) (c : Nat) (l : List It) (t : It) (w : World) (hA : Its w p l) (hc : l.length ≤ c) (hcm : c ≤ maxLen) :
    Calls Tryz.prog 89 #[.slice p l.length c, .agg #[.int .i64 t.k, .string t.t, .int .i64 t.id]] w fun e w' => e = .returned (.int .i64 (tmsR l t : Nat)) ∧ Below w.heap.size w w' := by
  unfold maxLen at hcm
  have hv := Var3.newT w t.k t.t t.id
  have hb0 : Below w.heap.size w (w.alloc (.cells #[.int .i64 t.k, .string t.t, .int .i64 t.id] 43)) := blw (Below.refl _ _) _
  have hA1 := hA.call hb0
  have HS := Lib.hid (fun k1 t1 i1 W => rtsame_any k1 t1 i1 t.k t.t t.id W)
  go_enter Tryz.func89, Tryz.ntmps89
  go_wp2_with fail
  generalize (w.alloc (.cells #[.int .i64 t.k, .string t.t, .int .i64 t.id] 43)) = w1 at *
  obtain ⟨v0, v1, v2, vl⟩ := hv
  have HV := Lib.hid (And.intro v0 (And.intro v1 v2))
  have HB0 := Lib.hid hb0
  generalize hgg : w.heap.size = g at *
  have HG := Lib.hid hgg
  clear hgg
  clear v0 v1 v2 hb0 hA
  go_loopw [5, 9] (fun n i wr => ∃ k : Nat, k ≤ l.length ∧ i = .int .i64 k ∧ n = .int .i64 (tmsR (l.take k) t : Nat) ∧ Below w1.heap.size w1 wr) (fun _ i _ => l.length - (intOf i).toNat)
  case atStart => exact ⟨0, Nat.zero_le _, rfl, rfl, Below.refl _ _⟩
  case round =>
    obtain ⟨k, hk, rfl, rfl, hB1⟩ := hrel
    by_cases hlt : k < l.length
    · obtain ⟨ad, rfl, had, x0, x1, x2⟩ := (hA1.call hB1).row k hlt
      obtain ⟨a0, a1, a2⟩ := HV.out
      have y0 := (hB1.cell (p := ⟨g, 0, none⟩) vl).trans a0
      have y1 := (hB1.cell (p := ⟨g, 1, none⟩) vl).trans a1
      have y2 := (hB1.cell (p := ⟨g, 2, none⟩) vl).trans a2
      have hnx := tmsR_next l t k hlt
      have hle := tmsR_le (l.take k) t
      simp only [List.length_take] at hle
      have hle2 : tmsR (l.take k) t ≤ k := by omega
      have hcc := fun W => HS.out (l[k]).k (l[k]).t (l[k]).id W
      have hsm : decide ((l[k]).k = t.k ∧ (l[k]).t = t.t) = sm l[k] t := rfl
      rw [hsm] at hcc
      have HC := Lib.hid hcc; have HB := Lib.hid hB1; have HNX := Lib.hid hnx
      generalize tmsR (l.take k) t = T at *
      generalize sm l[k] t = sb at *
      generalize l[k] = X at *
      have ik : (k : Int) < (l.length : Int) := by omega
      clear hcc hsm hnx hB1 a0 a1 a2 hle
      go_wp2_with fail
      have q0 := cell_regrown x0; have q1 := cell_regrown x1; have q2 := cell_regrown x2; have q3 := cell_regrown y0; have q4 := cell_regrown y1; have q5 := cell_regrown y2
      have e1 := fun d os => Calls.regrown_of (HC.out (grow (redrawn wr d) os))
      refine wp_region_quiet_below (by kernel_rfl) (by kernel_rfl) ?_
      repeat (go_big_quiet_step (exact e1 _ _))
      refine wpQuiet_nil ?_
      intro _ hw'
      obtain ⟨⟨dq, osq⟩, hw''⟩ := hw'
      subst hw''
      have hb2 := below_regrown wr dq osq
      generalize grow (redrawn wr dq) osq = v1 at *
      clear q0 q1 q2 q3 q4 q5 x0 x1 x2 y0 y1 y2 e1 HC
      have HW := Lib.hid (BelowOn HB.out hb2)
      clear hb2 HB
      cases sb with
      | false =>
        go_wp2_with fail
        go_roundw
        case rel => exact ⟨k + 1, hlt, by go_num, by rw [HNX.out]; simp, HW.out⟩
        case measure => simp [intOf]; omega
      | true =>
        go_wp2_with fail
        go_roundw
        case rel => exact ⟨k + 1, hlt, by go_num, by rw [HNX.out]; simp, HW.out⟩
        case measure => simp [intOf]; omega
    · obtain rfl : k = l.length := by omega
      rw [List.take_length]
      have HW := Lib.hid hB1
      clear hB1
      go_wp2_with fail
      go_ret
      exact ⟨rfl, by rw [HG.out]; exact HB0.out.trans (HW.out.mono (Nat.le_of_lt vl))⟩
end Go.Proofs.YthfgpagmepdblaaGreat
namespace Go.Proofs.YthfgpagmepdblaaGreat
open Go.ChangeShapes Go.WideShapes Go.ChangeAt Go.RowKit Go.Sort
set_option linter.unusedVariables false
set_option linter.unusedSimpArgs false
set_option maxRecDepth 100000

theorem tkey_sm (x t : It) : tkey x = tkey t ↔ sm x t = true := by
  rw [sm_iff]; unfold tkey
  constructor
  · intro h; injection h with h1 h2; exact ⟨h1, h2⟩
  · rintro ⟨h1, h2⟩; rw [h1, h2]
theorem tmsR_cnt (l : List It) (t : It) (ht : isT t.k = true) : tmsR l t = cntN l (tkey t) := by
  induction l with
  | nil => rfl
  | cons x l ih =>
    have e1 : tmsR (x :: l) t = tmsR l t + if sm x t = true then 1 else 0 := by unfold tmsR; rw [List.countP_cons]
    have e2 : cntN (x :: l) (tkey t) = cntN [x] (tkey t) + cntN l (tkey t) := cntN_append [x] l _
    rw [e1, e2, ih]
    cases q : isT x.k with
    | false =>
      have h0 : cntN [x] (tkey t) = 0 := by unfold cntN; rw [tkeys_none x q]; rfl
      have h1 : ¬ sm x t = true := fun h => by rw [((sm_iff _ _).1 h).1, ht] at q; cases q
      rw [h0, if_neg h1]; omega
    | true =>
      have h0 : cntN [x] (tkey t) = if sm x t = true then 1 else 0 := by
        unfold cntN; rw [tkeys_one x q]
        by_cases h : sm x t = true
        · rw [if_pos h, (tkey_sm x t).2 h, List.count_singleton_self]
        · rw [if_neg h, List.count_eq_zero_of_not_mem]
          intro c; exact h ((tkey_sm x t).1 (List.mem_singleton.1 c).symm)
      rw [h0]; omega
/-- The tags of a list, each at its first occurrence. -/
def uK (K : List Tg) (x : It) : List Tg := if isT x.k = true ∧ tkey x ∉ K then K ++ [tkey x] else K
def uL (l : List It) : List Tg := l.foldl uK []
theorem uL_next (l : List It) (k : Nat) (h : k < l.length) : uL (l.take (k + 1)) = uK (uL (l.take k)) (l[k]'h) := by
  unfold uL; rw [List.take_succ_eq_append_getElem h, List.foldl_append]; rfl
theorem uK_mem (K : List Tg) (x : It) (y : Tg) : y ∈ uK K x ↔ y ∈ K ∨ (isT x.k = true ∧ y = tkey x) := by
  unfold uK
  split
  · rename_i h; rw [List.mem_append, List.mem_singleton]
    exact ⟨fun c => c.elim .inl (fun e => .inr ⟨h.1, e⟩), fun c => c.elim .inl (fun e => .inr e.2)⟩
  · rename_i h
    refine ⟨.inl, fun c => c.elim id (fun e => ?_)⟩
    rcases Classical.em (y ∈ K) with g | g
    · exact g
    · exact absurd ⟨e.1, e.2 ▸ g⟩ h
theorem uL_memG (l : List It) : ∀ (K : List Tg) (y : Tg), y ∈ l.foldl uK K ↔ y ∈ K ∨ y ∈ tkeys l := by
  induction l with
  | nil => intro K y; simp [tkeys]
  | cons x l ih =>
    intro K y
    rw [List.foldl_cons, ih, uK_mem, show x :: l = [x] ++ l from rfl, tkeys_append, List.mem_append]
    cases q : isT x.k with
    | false => rw [tkeys_none x q]; simp
    | true => rw [tkeys_one x q]; simp [or_assoc]
theorem uL_mem (l : List It) (y : Tg) : y ∈ uL l ↔ y ∈ tkeys l := by unfold uL; rw [uL_memG]; simp
theorem uK_nodup {K : List Tg} (x : It) (h : K.Nodup) : (uK K x).Nodup := by
  unfold uK
  split
  · rename_i g
    rw [List.nodup_append]
    refine ⟨h, by simp, fun a ha b hb e => ?_⟩
    simp at hb; subst hb; subst e; exact g.2 ha
  · exact h
theorem uL_nodup (l : List It) : (uL l).Nodup := by
  unfold uL
  have : ∀ (l : List It) (K : List Tg), K.Nodup → (l.foldl uK K).Nodup := by
    intro l
    induction l with
    | nil => intro K h; exact h
    | cons x l ih => intro K h; exact ih _ (uK_nodup x h)
  exact this l [] List.nodup_nil
theorem uL_len (l : List It) : (uL l).length ≤ l.length := by
  unfold uL
  have : ∀ (l : List It) (K : List Tg), (l.foldl uK K).length ≤ K.length + l.length := by
    intro l
    induction l with
    | nil => intro K; exact Nat.le_refl _
    | cons x l ih =>
      intro K
      have h1 := ih (uK K x)
      have h2 : (uK K x).length ≤ K.length + 1 := by unfold uK; split <;> simp
      rw [List.foldl_cons, List.length_cons]; omega
  simpa using this l []
theorem tms_zero (l : List It) (t : It) (ht : isT t.k = true) : tmsR l t = 0 ↔ tkey t ∉ tkeys l := by
  rw [tmsR_cnt l t ht]; unfold cntN
  exact List.count_eq_zero
theorem sumT_app (K L : List Tg) (g : Tg → Nat) : sumT (K ++ L) g = sumT K g + sumT L g := by unfold sumT; rw [List.map_append, List.sum_append]
theorem sumT_bd (K : List Tg) (g : Tg → Nat) (M : Nat) (h : ∀ y, g y ≤ M) : sumT K g ≤ K.length * M := by
  induction K with
  | nil => exact Nat.zero_le _
  | cons x K ih => rw [sumT_cons, List.length_cons, Nat.add_mul]; have := h x; omega
theorem dif_le (a b : List It) (y : Tg) : dif a b y ≤ a.length + b.length := by
  have h1 := cntN_le a y; have h2 := cntN_le b y
  unfold dif; omega
def sOne (a b : List It) (i : Nat) : Nat := sumT (uL (a.take i)) (dif a b)
theorem sOne_next (a b : List It) (i : Nat) (h : i < a.length) : sOne a b (i + 1) = sOne a b i + (if isT (a[i]'h).k = true ∧ tmsR (a.take i) (a[i]'h) = 0 then ((tmsR a (a[i]'h) : Int) - (tmsR b (a[i]'h) : Int)).natAbs else 0) := by
  unfold sOne; rw [uL_next a i h]
  unfold uK
  by_cases ht : isT (a[i]'h).k = true
  · have e : tmsR (a.take i) a[i] = 0 ↔ tkey a[i] ∉ uL (a.take i) := by rw [tms_zero _ _ ht, uL_mem]
    by_cases hz : tmsR (a.take i) a[i] = 0
    · rw [if_pos ⟨ht, e.1 hz⟩, if_pos ⟨ht, hz⟩, sumT_app, sumT_cons, sumT_nil, tmsR_cnt _ _ ht, tmsR_cnt _ _ ht]; rfl
    · rw [if_neg (fun c => hz (e.2 c.2)), if_neg (fun c => hz c.2)]; rfl
  · rw [if_neg (fun c => ht c.1), if_neg (fun c => ht c.1)]; rfl
theorem sOne_le (a b : List It) (i : Nat) : sOne a b i ≤ i * (a.length + b.length) := by
  unfold sOne
  refine Nat.le_trans (sumT_bd _ _ _ (dif_le a b)) (Nat.mul_le_mul_right _ (Nat.le_trans (uL_len _) ?_))
  simp; omega
def vL (a l : List It) : List Tg := (uL l).filter fun y => decide (y ∉ tkeys a)
def sTwo (a b : List It) (j : Nat) : Nat := sumT (vL a (b.take j)) (dif a b)
theorem sTwo_next (a b : List It) (j : Nat) (h : j < b.length) : sTwo a b (j + 1) = sTwo a b j + (if isT (b[j]'h).k = true ∧ tmsR (b.take j) (b[j]'h) = 0 ∧ tmsR a (b[j]'h) = 0 then tmsR b (b[j]'h) else 0) := by
  unfold sTwo vL; rw [uL_next b j h]
  unfold uK
  by_cases ht : isT (b[j]'h).k = true
  · have e : tmsR (b.take j) b[j] = 0 ↔ tkey b[j] ∉ uL (b.take j) := by rw [tms_zero _ _ ht, uL_mem]
    by_cases hz : tmsR (b.take j) b[j] = 0
    · rw [if_pos ⟨ht, e.1 hz⟩, List.filter_append, sumT_app]
      have e2 := tms_zero a b[j] ht
      by_cases hy : tmsR a b[j] = 0
      · rw [if_pos ⟨ht, hz, hy⟩, List.filter_cons, if_pos (by simpa using e2.1 hy), List.filter_nil, sumT_cons, sumT_nil]
        have : dif a b (tkey b[j]) = tmsR b b[j] := by
          rw [tmsR_cnt _ _ ht] at hy
          rw [tmsR_cnt _ _ ht]; unfold dif; rw [hy]; omega
        rw [this]; rfl
      · rw [if_neg (fun c => hy c.2.2), List.filter_cons, if_neg (by simpa using fun c => hy (e2.2 c)), List.filter_nil, sumT_nil]
    · rw [if_neg (fun c => hz (e.2 c.2)), if_neg (fun c => hz c.2.1)]; rfl
  · rw [if_neg (fun c => ht c.1), if_neg (fun c => ht c.1)]; rfl
theorem sTwo_le (a b : List It) (j : Nat) : sTwo a b j ≤ j * (a.length + b.length) := by
  unfold sTwo vL
  refine Nat.le_trans (sumT_bd _ _ _ (dif_le a b)) (Nat.mul_le_mul_right _ (Nat.le_trans (List.length_filter_le _ _) (Nat.le_trans (uL_len _) ?_)))
  simp; omega
theorem sur_sums (a b : List It) : sOne a b a.length + sTwo a b b.length = sur a b := by
  unfold sOne sTwo; rw [List.take_length, List.take_length, ← sumT_app]
  refine sur_any _ a b ?_ ?_
  · rw [List.nodup_append]
    refine ⟨uL_nodup a, (uL_nodup b).filter _, fun x hx y hy e => ?_⟩
    subst e
    unfold vL at hy
    have := (List.mem_filter.1 hy).2
    have h2 : x ∉ tkeys a := by simpa using this
    exact h2 ((uL_mem a x).1 hx)
  · intro y hy
    have := dif_in a b y hy
    unfold surK at this
    rw [mem_uniq, List.mem_append] at this
    rw [List.mem_append]
    by_cases h : y ∈ tkeys a
    · exact .inl ((uL_mem a y).2 h)
    · refine .inr (List.mem_filter.2 ⟨(uL_mem b y).2 (this.resolve_left h), by simpa using h⟩)
end Go.Proofs.YthfgpagmepdblaaGreat
namespace Go.Proofs.YthfgpagmepdblaaGreat
open Go.ChangeShapes Go.WideShapes Go.ChangeAt Go.RowKit Go.Sort
set_option linter.unusedVariables false
set_option linter.unusedSimpArgs false
set_option maxRecDepth 100000

end Go.Proofs.YthfgpagmepdblaaGreat
namespace Go.Proofs.YthfgpagmepdblaaGreat
open Go.ChangeShapes Go.WideShapes Go.ChangeAt Go.RowKit Go.Sort
set_option linter.unusedVariables false
set_option linter.unusedSimpArgs false
set_option maxRecDepth 100000

/-- A row of m numbers that fills block B; known from lo on. -/
structure NumR (B m lo : Nat) (f : Nat → Nat) (W : World) : Prop where
  row : ∃ cur : Array Value, W.heap[B]? = some (.cells cur 3 (0, 0)) ∧ cur.size = m ∧ ∀ j, lo ≤ j → j < m → cur[j]? = some (.int .i64 (f j : Nat))
section
variable {B m lo : Nat} {f : Nat → Nat} {W W' : World}
theorem NumR.keep (h : NumR B m lo f W) (hb : W'.heap[B]? = W.heap[B]?) : NumR B m lo f W' := by
  obtain ⟨cur, h1, h2⟩ := h.row; exact ⟨cur, hb.trans h1, h2⟩
theorem NumR.lt (h : NumR B m lo f W) : B < W.heap.size := by
  obtain ⟨cur, h1, h2⟩ := h.row; exact heap_lt h1
theorem NumR.cell (h : NumR B m lo f W) (j : Nat) (h1 : lo ≤ j) (h2 : j < m) : W.cell? ⟨B, j, none⟩ = some (.int .i64 (f j : Nat)) := by
  obtain ⟨cur, h3, h4, h5⟩ := h.row; rw [Lib.cell_of_heap h3]; exact h5 j h1 h2
theorem NumR.any (h : NumR B m lo f W) (j : Nat) (h2 : j < m) : ∃ v, W.cell? ⟨B, j, none⟩ = some v := by
  obtain ⟨cur, h3, h4, h5⟩ := h.row; rw [Lib.cell_of_heap h3]; exact ⟨_, Array.getElem?_eq_getElem (by omega)⟩
theorem NumR.frozen (h : NumR B m lo f W) (j : Nat) : W.frozen? ⟨B, j, none⟩ = false := by
  obtain ⟨cur, h3, h4, h5⟩ := h.row; exact Lib.frozen_of_heap h3 _
theorem NumR.put {j : Nat} (h : NumR B m (j + 1) f W) (hj : j < m) : NumR B m j f (W.setCell ⟨B, j, none⟩ (.int .i64 (f j : Nat))) := by
  obtain ⟨cur, h3, h4, h5⟩ := h.row
  refine ⟨_, setCell_at W B j cur 3 _ h3, by simp [h4], fun i h1 h2 => ?_⟩
  by_cases e : j = i
  · subst e; rw [Array.getElem?_setIfInBounds]; simp [h4, hj]
  · rw [Array.getElem?_setIfInBounds, if_neg e]; exact h5 i (by omega) h2
end
/-- The rows from lo on; the row lo itself is known from k on. -/
structure Tab (base G n m lo k : Nat) (Bk : Nat → Nat) (f : Nat → Nat → Nat) (W : World) : Prop where
  gb : base ≤ G
  tab : ∃ cur : Array Value, W.heap[G]? = some (.cells cur 22 (0, 0)) ∧ cur.size = n ∧ ∀ i, lo ≤ i → i < n → cur[i]? = some (.slice (some ⟨Bk i, 0, none⟩) m m)
  bb : ∀ i, lo ≤ i → i < n → base ≤ Bk i ∧ Bk i ≠ G
  nn : ∀ i j, lo ≤ i → i < j → j < n → Bk i ≠ Bk j
  rows : ∀ i, lo ≤ i → i < n → NumR (Bk i) m (if i = lo then k else 0) (f i) W
section
variable {base G n m lo k : Nat} {Bk : Nat → Nat} {f : Nat → Nat → Nat} {W W' : World}
theorem Tab.call (h : Tab base G n m lo k Bk f W) (hb : Below W.heap.size W W') : Tab base G n m lo k Bk f W' := by
  obtain ⟨cur, h1, h2⟩ := h.tab
  exact ⟨h.gb, ⟨cur, (hb.block G (heap_lt h1)).trans h1, h2⟩, h.bb, h.nn, fun i a b => (h.rows i a b).keep (hb.block _ (h.rows i a b).lt)⟩
theorem Tab.cellG (h : Tab base G n m lo k Bk f W) (i : Nat) (h1 : lo ≤ i) (h2 : i < n) : W.cell? ⟨G, i, none⟩ = some (.slice (some ⟨Bk i, 0, none⟩) m m) := by
  obtain ⟨cur, h3, h4, h5⟩ := h.tab; rw [Lib.cell_of_heap h3]; exact h5 i h1 h2
theorem Tab.anyG (h : Tab base G n m lo k Bk f W) (i : Nat) (h2 : i < n) : ∃ v, W.cell? ⟨G, i, none⟩ = some v := by
  obtain ⟨cur, h3, h4, h5⟩ := h.tab; rw [Lib.cell_of_heap h3]; exact ⟨_, Array.getElem?_eq_getElem (by omega)⟩
theorem Tab.frozenG (h : Tab base G n m lo k Bk f W) (i : Nat) : W.frozen? ⟨G, i, none⟩ = false := by
  obtain ⟨cur, h3, h4, h5⟩ := h.tab; exact Lib.frozen_of_heap h3 _
theorem Tab.ltG (h : Tab base G n m lo k Bk f W) : G < W.heap.size := by
  obtain ⟨cur, h3, h4, h5⟩ := h.tab; exact heap_lt h3
theorem Tab.up (h : Tab base G n m lo k Bk f W) (i j : Nat) (h1 : lo < i) (h2 : i < n) (h3 : j < m) : W.cell? ⟨Bk i, j, none⟩ = some (.int .i64 (f i j : Nat)) := by
  have := h.rows i (by omega) h2; rw [if_neg (by omega)] at this; exact this.cell j (Nat.zero_le _) h3
theorem Tab.cur (h : Tab base G n m lo k Bk f W) (j : Nat) (h1 : lo < n) (h2 : k ≤ j) (h3 : j < m) : W.cell? ⟨Bk lo, j, none⟩ = some (.int .i64 (f lo j : Nat)) := by
  have := h.rows lo (Nat.le_refl _) h1; rw [if_pos rfl] at this; exact this.cell j h2 h3
theorem Tab.put {j : Nat} (h : Tab base G n m lo (j + 1) Bk f W) (h1 : lo < n) (hj : j < m) : Tab base G n m lo j Bk f (W.setCell ⟨Bk lo, j, none⟩ (.int .i64 (f lo j : Nat))) := by
  obtain ⟨cur, h2, h3⟩ := h.tab
  have hg := grow_cell W (Bk lo) j (.int .i64 (f lo j : Nat))
  refine ⟨h.gb, ⟨cur, (hg.block G (heap_lt h2) (fun e => (h.bb lo (Nat.le_refl _) h1).2 (Option.some.inj e).symm)).trans h2, h3⟩, h.bb, h.nn, fun i a b => ?_⟩
  by_cases e : i = lo
  · subst e
    have := h.rows i a b
    rw [if_pos rfl] at this ⊢
    exact this.put hj
  · have := h.rows i a b
    rw [if_neg e] at this ⊢
    exact this.keep (hg.block _ this.lt (fun c => h.nn lo i (Nat.le_refl _) (by omega) b (Option.some.inj c).symm))
theorem Tab.putB {j : Nat} (h : Tab base G n m lo (j + 1) Bk f W) (h1 : lo < n) {a : World} (hb : Below base a W) (v : Value) : Below base a (W.setCell ⟨Bk lo, j, none⟩ v) := by
  obtain ⟨cur, h2, h3⟩ := h.tab
  exact below_of_grow hb (grow_cell W (Bk lo) j v) (Nat.le_trans h.gb (Nat.le_of_lt (heap_lt h2))) (h.bb lo (Nat.le_refl _) h1).1
/-- The next row is laid. -/
theorem Tab.next {i : Nat} {B : Nat} {cs : Array Value} (h : Tab base G n m (i + 1) 0 Bk f W) (hi : i < n) (hB : W.heap.size = B) (hm : cs.size = m) : Tab base G n m i m (fun r => if r = i then B else Bk r) f ((W.setCell ⟨G, i, none⟩ (.slice (some ⟨B, 0, none⟩) m m)).alloc (.cells cs 3)) := by
  obtain ⟨cur, h2, h3, h4⟩ := h.tab
  have hlt := heap_lt h2
  have hs : (W.setCell ⟨G, i, none⟩ (.slice (some ⟨B, 0, none⟩) m m)).heap.size = B := by simp [hB]
  have hb : Below B (W.setCell ⟨G, i, none⟩ (.slice (some ⟨B, 0, none⟩) m m)) ((W.setCell ⟨G, i, none⟩ (.slice (some ⟨B, 0, none⟩) m m)).alloc (.cells cs 3)) := by
    have := blw (Below.refl (W.setCell ⟨G, i, none⟩ (.slice (some ⟨B, 0, none⟩) m m)).heap.size (W.setCell ⟨G, i, none⟩ (.slice (some ⟨B, 0, none⟩) m m))) (.cells cs 3)
    rw [hs] at this; exact this
  have hg := grow_cell W G i (.slice (some ⟨B, 0, none⟩) m m)
  refine ⟨h.gb, ⟨_, (hb.block G (by omega)).trans (setCell_at W G i cur _ _ h2), by simp [h3], fun r a b => ?_⟩, fun r a b => ?_, fun r s a b c => ?_, fun r a b => ?_⟩
  · rw [Array.getElem?_setIfInBounds]
    by_cases e : i = r
    · subst e; rw [if_pos rfl, if_pos rfl, if_pos (by omega)]
    · rw [if_neg e, if_neg (fun c => e c.symm)]; exact h4 r (by omega) b
  · have hgb := h.gb
    by_cases e : r = i
    · simp only [e, if_true]; exact ⟨by omega, by omega⟩
    · simp only [e, if_false]; exact h.bb r (by omega) b
  · by_cases e : r = i
    · have := (h.rows s (by omega) c).lt
      simp only [e, if_true, show ¬ s = i by omega, if_false]; omega
    · simp only [e, if_false, show ¬ s = i by omega]; exact h.nn r s (by omega) b c
  · by_cases e : r = i
    · subst e
      simp only [if_true]
      have hh := heap_alloc_new (W.setCell ⟨G, r, none⟩ (.slice (some ⟨B, 0, none⟩) m m)) (.cells cs 3)
      rw [hs] at hh
      exact ⟨cs, hh, hm, fun j a b => by omega⟩
    · simp only [e, if_false]
      have := h.rows r (by omega) b
      have h0 : (if r = i + 1 then 0 else 0) = 0 := by split <;> rfl
      rw [h0] at this
      have hlt2 := this.lt
      refine (this.keep (hg.block _ this.lt (fun c => (h.bb r (by omega) b).2 (Option.some.inj c)))).keep (hb.block _ (by omega))
theorem Tab.nextB {i : Nat} {cs : Array Value} (h : Tab base G n m (i + 1) 0 Bk f W) {a : World} (hb : Below base a W) (v : Value) : Below base a ((W.setCell ⟨G, i, none⟩ v).alloc (.cells cs 3)) := by
  obtain ⟨cur, h2, h3⟩ := h.tab
  have hlt := heap_lt h2
  have hgb := h.gb
  have := below_of_grow hb (grow_cell W G i v) (by omega) h.gb
  exact this.trans ((blw (Below.refl _ _) _).mono (by simp; omega))
/-- Row lo is whole. -/
theorem Tab.whole (h : Tab base G n m lo 0 Bk f W) (h1 : lo < n) (i j : Nat) (h2 : lo ≤ i) (h3 : i < n) (h4 : j < m) : W.cell? ⟨Bk i, j, none⟩ = some (.int .i64 (f i j : Nat)) := by
  rcases Nat.lt_or_ge lo i with e | e
  · exact h.up i j e h3 h4
  · have : i = lo := by omega
    subst this; exact h.cur j h1 (Nat.zero_le _) h4
end
theorem Tab.start {base n m : Nat} {Bk : Nat → Nat} {f : Nat → Nat → Nat} {W : World} {cs : Array Value} (hb : base ≤ W.heap.size) (hn : cs.size = n) : Tab base W.heap.size n m n 0 Bk f (W.alloc (.cells cs 22)) :=
  ⟨hb, ⟨cs, heap_alloc_new W _, hn, fun i a b => by omega⟩, fun i a b => by omega, fun i j a b c => by omega, fun i a b => by omega⟩
theorem made_size (zc : Array Value) (n : Nat) : (madeCells zc n).size = n := by unfold madeCells; simp
theorem infoN : (Tryz.prog.info? 3).map (fun i => (i.zero, i.size, i.bytes)) = some (some (.int .i64 0), 1, 8) := by kernel_rfl
theorem infoR : (Tryz.prog.info? 22).map (fun i => (i.zero, i.size, i.bytes)) = some (some (.slice none 0 0), 1, 24) := by kernel_rfl
theorem make_ints (w : World) (n : Nat) (hn : n ≤ 1000000) : ∃ cs, (Instr.makeSlice 22 (.int .i64 (n : Int)) (.int .i64 (n : Int))).run Tryz.prog w = .ok (.slice (some ⟨w.heap.size, 0, none⟩) n n) (w.alloc (.cells cs 3)) ∧ cs.size = n := by
  cases hi : Tryz.prog.info? 3 with
  | none => have := infoN; rw [hi] at this; cases this
  | some i =>
    have h4 := infoN
    rw [hi] at h4
    simp only [Option.map_some, Option.some.injEq, Prod.mk.injEq] at h4
    obtain ⟨hz, hs, hb⟩ := h4
    have := run_make (P := Tryz.prog) w 22 3 i _ Tryz.underlying22 hi hz .i64 .i64 (n : Int) (n : Int) (by omega) (by omega) (by rw [hb]; omega) (by omega)
    refine ⟨madeCells (Value.int .i64 0).cells n, ?_, made_size _ _⟩
    rw [this, hs, show ((n : Int)).toNat = n by omega, Nat.mul_one]
/-- The least sums for the last tokens of both lists. -/
def dT (a b : List It) (i k : Nat) : Nat := dst (a.drop i) (b.drop k)
theorem dT_end (a b : List It) : dT a b a.length b.length = 0 := by unfold dT; rw [List.drop_length, List.drop_length]; rfl
theorem dT_del (a b : List It) (i : Nat) (h : i < a.length) : dT a b i b.length = stp (a[i]'h) + dT a b (i + 1) b.length := by
  unfold dT; rw [List.drop_length, List.drop_eq_getElem_cons h]; rfl
theorem dT_ins (a b : List It) (k : Nat) (h : k < b.length) : dT a b a.length k = stp (b[k]'h) + dT a b a.length (k + 1) := by
  unfold dT; rw [List.drop_length, List.drop_eq_getElem_cons h]; rfl
theorem dT_ok (a b : List It) (i k : Nat) (h : i < a.length) (g : k < b.length) (ho : okP (a[i]'h) (b[k]'g) = true) : dT a b i k = min (cst (a[i]'h) (b[k]'g) + dT a b (i + 1) (k + 1)) (min (stp (a[i]'h) + dT a b (i + 1) k) (stp (b[k]'g) + dT a b i (k + 1))) := by
  unfold dT; rw [List.drop_eq_getElem_cons h, List.drop_eq_getElem_cons g]; exact dst_ok _ _ ho
theorem dT_no (a b : List It) (i k : Nat) (h : i < a.length) (g : k < b.length) (ho : okP (a[i]'h) (b[k]'g) = false) : dT a b i k = min (stp (a[i]'h) + dT a b (i + 1) k) (stp (b[k]'g) + dT a b i (k + 1)) := by
  unfold dT; rw [List.drop_eq_getElem_cons h, List.drop_eq_getElem_cons g]; exact dst_no _ _ ho
theorem dT_le (a b : List It) (i k : Nat) : dT a b i k ≤ 4 * (a.length + b.length) := by
  unfold dT
  have : ∀ (a b : List It), dst a b ≤ stL a + stL b := by
    intro a b
    induction a with
    | nil => rw [dst_nil]; exact Nat.le_add_left _ _
    | cons x a ih => have := dst_del x a b; rw [stL]; omega
  have h1 := this (a.drop i) (b.drop k)
  have h2 := stL_le (a.drop i); have h3 := stL_le (b.drop k)
  simp only [List.length_drop] at h2 h3
  omega
end Go.Proofs.YthfgpagmepdblaaGreat
namespace Go.Proofs.YthfgpagmepdblaaGreat
open Go.ChangeShapes Go.WideShapes Go.ChangeAt Go.RowKit Go.Sort
set_option linter.unusedVariables false
set_option linter.unusedSimpArgs false
set_option maxRecDepth 100000

theorem times_take (p : Option Addr) (c : Nat) (l : List It) (t : It) (k : Nat) (hk : k ≤ l.length) (w : World) (hA : Its w p l) (hc : l.length ≤ c) (hcm : c ≤ maxLen) :
    Calls Tryz.prog 89 #[.slice p k c, .agg #[.int .i64 t.k, .string t.t, .int .i64 t.id]] w fun e w' => e = .returned (.int .i64 (tmsR (l.take k) t : Nat)) ∧ Below w.heap.size w w' := by
  have h := times_any p c (l.take k) t w (its_takeD hA k) (by simp; omega) hcm
  have e : (l.take k).length = k := by simp; omega
  rw [e] at h; exact h
set_option maxHeartbeats 6400000 in
theorem rsurplus_any (p q : Option Addr) (c d : Nat) (a b : List It) (w : World) (hA : Its w p a) (hB : Its w q b) (hc : a.length ≤ c) (hd : b.length ≤ d) (hcm : c ≤ maxLen) (hdm : d ≤ maxLen) (ha : a.length ≤ 1000) (hb : b.length ≤ 1000) :
    Calls Tryz.prog 72 #[.slice p a.length c, .slice q b.length d] w fun e w' => e = .returned (.int .i64 (sur a b : Nat)) ∧ Below w.heap.size w w' := by
  have HSUM := Lib.hid (sur_sums a b)
  have HO := Lib.hid (fun i h => sOne_next a b i h); have HOL := Lib.hid (fun i => sOne_le a b i)
  have HT := Lib.hid (fun i h => sTwo_next a b i h); have HTL := Lib.hid (fun i => sTwo_le a b i)
  have HTA := Lib.hid (fun t W h => times_any p c a t W h hc hcm)
  have HTB := Lib.hid (fun t W h => times_any q d b t W h hd hdm)
  have HTAk := Lib.hid (fun t k hk W h => times_take p c a t k hk W h hc hcm)
  have HTBk := Lib.hid (fun t k hk W h => times_take q d b t k hk W h hd hdm)
  have hz1 : sOne a b 0 = 0 := rfl
  have hz2 : sTwo a b 0 = 0 := rfl
  have HTG := Lib.hid (fun k t id W => drtag_any k t id W)
  have hM : a.length + b.length ≤ 2000 := by omega
  generalize hMM : a.length + b.length = M at *
  have HMM := Lib.hid hMM
  clear hMM
  have HS1 := Lib.hid hz1; have HS2 := Lib.hid hz2
  clear hz1 hz2
  have hcm' := hcm; have hdm' := hdm
  unfold maxLen at hcm' hdm'
  go_enter Tryz.func72, Tryz.ntmps72
  go_wp2_with fail
  go_loopw [5, 13] (fun n i wr => ∃ k : Nat, k ≤ a.length ∧ i = .int .i64 k ∧ n = .int .i64 (sOne a b k : Nat) ∧ Below w.heap.size w wr) (fun _ i _ => a.length - (intOf i).toNat)
  case atStart => exact ⟨0, Nat.zero_le _, rfl, by rw [HS1.out]; rfl, Below.refl _ _⟩
  case round =>
    obtain ⟨k, hk, rfl, rfl, hB1⟩ := hrel
    by_cases hlt : k < a.length
    · obtain ⟨ad, rfl, had, x0, x1, x2⟩ := (hA.call hB1).row k hlt
      have hnx := HO.out k hlt
      have hol := HOL.out k
      have hol2 : sOne a b k ≤ 2000000 := Nat.le_trans hol (Nat.le_trans (Nat.mul_le_mul (show k ≤ 1000 by omega) hM) (by omega))
      have hv0 := heap_alloc_new wr (.cells #[.int .i64 a[k].k, .string a[k].t, .int .i64 a[k].id] 43)
      have hbv : Below wr.heap.size wr (wr.alloc (.cells #[.int .i64 a[k].k, .string a[k].t, .int .i64 a[k].id] 43)) := blw (Below.refl _ _) _
      have ik : (k : Int) < (a.length : Int) := by omega
      have tl1 : tmsR (a.take k) a[k] ≤ 1000 := Nat.le_trans (tmsR_le _ _) (by simp; omega)
      have tl2 : tmsR a a[k] ≤ 1000 := Nat.le_trans (tmsR_le _ _) ha
      have tl3 : tmsR b a[k] ≤ 1000 := Nat.le_trans (tmsR_le _ _) hb
      have ctk := HTAk.out a[k] k hk
      have ca := HTA.out a[k]
      have cb := HTB.out a[k]
      have cg := HTG.out a[k].k a[k].t a[k].id
      have HNX := Lib.hid hnx
      have HC := Lib.hid (And.intro ctk (And.intro ca (And.intro cb cg)))
      clear hnx hol ctk ca cb cg
      generalize tmsR (a.take k) a[k] = T0 at *
      generalize tmsR a a[k] = TA at *
      generalize tmsR b a[k] = TB at *
      generalize a[k] = X at *
      have HB := Lib.hid (BelowOn hB1 hbv)
      have hAr := Lib.hid ((hA.call hB1).call hbv); have hBr := Lib.hid ((hB.call hB1).call hbv)
      clear hB1 hbv
      go_wp2_with fail
      generalize (wr.alloc (.cells #[.int .i64 X.k, .string X.t, .int .i64 X.id] 43)) = v1 at *
      have d0 : v1.cell? ⟨wr.heap.size, 0, none⟩ = some (.int .i64 X.k) := by rw [Lib.cell_of_heap hv0]; rfl
      have d1 : v1.cell? ⟨wr.heap.size, 1, none⟩ = some (.string X.t) := by rw [Lib.cell_of_heap hv0]; rfl
      have d2 : v1.cell? ⟨wr.heap.size, 2, none⟩ = some (.int .i64 X.id) := by rw [Lib.cell_of_heap hv0]; rfl
      have hgl : wr.heap.size < v1.heap.size := heap_lt hv0
      generalize wr.heap.size = g at *
      clear x0 x1 x2 hv0 had
      obtain ⟨ctk, ca, cb, cg⟩ := HC.out
      have q0 := cell_regrown d0; have q1 := cell_regrown d1; have q2 := cell_regrown d2
      have e1 := fun d os => Calls.regrown_of (cg (grow (redrawn v1 d) os))
      have e2 := fun d os => Calls.regrown_of (ctk (grow (redrawn v1 d) os) (hAr.out.call (below_regrown v1 d os)))
      have kc : (k : Int) ≤ (c : Int) := by omega
      have k0 : (0 : Int) ≤ (k : Int) := by omega
      cases q : isT X.k with
      | false =>
        rw [q] at e1
        clear e2
        refine wp_region_quiet_below (by kernel_rfl) (by kernel_rfl) ?_
        repeat (go_big_quiet_step (exact e1 _ _))
        refine wpQuiet_nil ?_
        intro _ hw'
        obtain ⟨⟨dq, osq⟩, hw''⟩ := hw'
        subst hw''
        have hb2 := below_regrown v1 dq osq
        generalize grow (redrawn v1 dq) osq = v2 at *
        have HW := Lib.hid ((HB.out.trans (hb2.mono (Nat.le_trans (by have := HB.out.size; exact this) (Nat.le_refl _)))))
        clear q0 q1 q2 e1 d0 d1 d2 hb2
        go_wp2_with fail
        go_roundw
        case rel => exact ⟨k + 1, hlt, by go_num, by rw [HNX.out, if_neg (fun h => by rw [q] at h; cases h.1)]; rfl, HW.out⟩
        case measure => simp [intOf]; omega
      | true =>
        rw [q] at e1
        by_cases z : T0 = 0
        · have zq : ((T0 : Int) == 0) = true := by simp; omega
          refine wp_region_quiet_below (by kernel_rfl) (by kernel_rfl) ?_
          repeat (go_big_quiet_step (first | exact e1 _ _ | exact e2 _ _))
          refine wpQuiet_nil ?_
          intro _ hw'
          obtain ⟨⟨dq, osq⟩, hw''⟩ := hw'
          subst hw''
          have hb2 := below_regrown v1 dq osq
          have k0 := q0 dq osq; have k1 := q1 dq osq; have k2 := q2 dq osq
          generalize grow (redrawn v1 dq) osq = v2 at *
          have HW := Lib.hid (BelowOn HB.out hb2)
          have hA2 := Lib.hid (hAr.out.call hb2); have hB2 := Lib.hid (hBr.out.call hb2)
          clear q0 q1 q2 e1 e2 d0 d1 d2 hb2
          have hwr : IntKind.i64.wrap ((TA : Int) - (TB : Int)) = (TA : Int) - (TB : Int) := IntWalk.i64_in _ ⟨by omega, by omega⟩
          go_wp2_with fail
          have q0 := cell_regrown k0; have q1 := cell_regrown k1; have q2 := cell_regrown k2
          have e1 := fun d os => Calls.regrown_of (ca (grow (redrawn v2 d) os) (hA2.out.call (below_regrown v2 d os)))
          have e2 := fun d os => Calls.regrown_of (cb (grow (redrawn v2 d) os) (hB2.out.call (below_regrown v2 d os)))
          refine wp_region_quiet_below (by kernel_rfl) (by kernel_rfl) ?_
          iterate 3 (go_big_quiet_step (exact e1 _ _))
          repeat (go_big_quiet_step (exact e2 _ _))
          refine wpQuiet_nil ?_
          intro _ hw'
          obtain ⟨⟨dq2, osq2⟩, hw''⟩ := hw'
          subst hw''
          have hb2 := below_regrown v2 dq2 osq2
          generalize grow (redrawn v2 dq2) osq2 = v3 at *
          replace HW := Lib.hid (BelowOn HW.out hb2)
          clear q0 q1 q2 e1 e2 k0 k1 k2 hb2 hA2 hB2 hwr
          have hDb : (TA : Int) - (TB : Int) ≤ 1000 ∧ -1000 ≤ (TA : Int) - (TB : Int) := by omega
          have HNX2 := Lib.hid (HNX.out.trans (by rw [if_pos ⟨q, z⟩]))
          clear HNX
          generalize (TA : Int) - (TB : Int) = D at *
          have hwn : IntKind.i64.wrap (-D) = -D := IntWalk.i64_in _ ⟨by omega, by omega⟩
          have em : max D (-D) = (D.natAbs : Int) := by omega
          have hN : D.natAbs ≤ 1000 := by omega
          generalize D.natAbs = N at *
          go_wp2_with fail
          go_roundw
          case rel => exact ⟨k + 1, hlt, by go_num, by rw [HNX2.out]; simp, HW.out⟩
          case measure => simp [intOf]; omega
        · have zq : ((T0 : Int) == 0) = false := by simp; omega
          refine wp_region_quiet_below (by kernel_rfl) (by kernel_rfl) ?_
          repeat (go_big_quiet_step (first | exact e1 _ _ | exact e2 _ _))
          refine wpQuiet_nil ?_
          intro _ hw'
          obtain ⟨⟨dq, osq⟩, hw''⟩ := hw'
          subst hw''
          have hb2 := below_regrown v1 dq osq
          generalize grow (redrawn v1 dq) osq = v2 at *
          have HW := Lib.hid (BelowOn HB.out hb2)
          clear q0 q1 q2 e1 e2 d0 d1 d2 hb2
          go_wp2_with fail
          go_roundw
          case rel => exact ⟨k + 1, hlt, by go_num, by rw [HNX.out, if_neg (fun h => z h.2)]; rfl, HW.out⟩
          case measure => simp [intOf]; omega
    · obtain rfl : k = a.length := by omega
      have HB := Lib.hid hB1
      have hol := HOL.out a.length
      have hol2 : sOne a b a.length ≤ 2000000 := Nat.le_trans hol (Nat.le_trans (Nat.mul_le_mul (show a.length ≤ 1000 by omega) hM) (by omega))
      clear hB1 hol
      generalize hS : sOne a b a.length = S at *
      have HSS := Lib.hid hS
      clear hS
      go_wp2_with fail
      clear HO HOL HTAk HS1
      go_loopw [5, 44] (fun n i wr => ∃ k : Nat, k ≤ b.length ∧ i = .int .i64 k ∧ n = .int .i64 ((S : Int) + (sTwo a b k : Nat)) ∧ Below w.heap.size w wr) (fun _ i _ => b.length - (intOf i).toNat)
      case atStart => exact ⟨0, Nat.zero_le _, rfl, by rw [HS2.out]; simp, HB.out⟩
      case round =>
        obtain ⟨k, hk, rfl, rfl, hB1⟩ := hrel
        clear HB
        have hol := HTL.out k
        have hol2b : sTwo a b k ≤ 2000000 := Nat.le_trans hol (Nat.le_trans (Nat.mul_le_mul (show k ≤ 1000 by omega) hM) (by omega))
        clear hol
        by_cases hlt : k < b.length
        · obtain ⟨ad, rfl, had, x0, x1, x2⟩ := (hB.call hB1).row k hlt
          have hnx := HT.out k hlt
          have hv0 := heap_alloc_new wr (.cells #[.int .i64 b[k].k, .string b[k].t, .int .i64 b[k].id] 43)
          have hbv : Below wr.heap.size wr (wr.alloc (.cells #[.int .i64 b[k].k, .string b[k].t, .int .i64 b[k].id] 43)) := blw (Below.refl _ _) _
          have ik : (k : Int) < (b.length : Int) := by omega
          have tl1 : tmsR (b.take k) b[k] ≤ 1000 := Nat.le_trans (tmsR_le _ _) (by simp; omega)
          have tl2 : tmsR a b[k] ≤ 1000 := Nat.le_trans (tmsR_le _ _) ha
          have tl3 : tmsR b b[k] ≤ 1000 := Nat.le_trans (tmsR_le _ _) hb
          have ctk := HTBk.out b[k] k hk
          have ca := HTA.out b[k]
          have cb := HTB.out b[k]
          have cg := HTG.out b[k].k b[k].t b[k].id
          have HNX := Lib.hid hnx
          have HC := Lib.hid (And.intro ctk (And.intro ca (And.intro cb cg)))
          clear hnx ctk ca cb cg
          generalize tmsR (b.take k) b[k] = T0 at *
          generalize tmsR a b[k] = TA at *
          generalize tmsR b b[k] = TB at *
          generalize b[k] = X at *
          generalize sTwo a b k = U at *
          have HB := Lib.hid (BelowOn hB1 hbv)
          have hAr := Lib.hid ((hA.call hB1).call hbv); have hBr := Lib.hid ((hB.call hB1).call hbv)
          clear hB1 hbv
          go_wp2_with fail
          generalize (wr.alloc (.cells #[.int .i64 X.k, .string X.t, .int .i64 X.id] 43)) = v1 at *
          have d0 : v1.cell? ⟨wr.heap.size, 0, none⟩ = some (.int .i64 X.k) := by rw [Lib.cell_of_heap hv0]; rfl
          have d1 : v1.cell? ⟨wr.heap.size, 1, none⟩ = some (.string X.t) := by rw [Lib.cell_of_heap hv0]; rfl
          have d2 : v1.cell? ⟨wr.heap.size, 2, none⟩ = some (.int .i64 X.id) := by rw [Lib.cell_of_heap hv0]; rfl
          generalize wr.heap.size = g at *
          clear x0 x1 x2 hv0 had
          obtain ⟨ctk, ca, cb, cg⟩ := HC.out
          have q0 := cell_regrown d0; have q1 := cell_regrown d1; have q2 := cell_regrown d2
          have e1 := fun d os => Calls.regrown_of (cg (grow (redrawn v1 d) os))
          have e2 := fun d os => Calls.regrown_of (ctk (grow (redrawn v1 d) os) (hBr.out.call (below_regrown v1 d os)))
          have e3 := fun d os => Calls.regrown_of (ca (grow (redrawn v1 d) os) (hAr.out.call (below_regrown v1 d os)))
          have kc : (k : Int) ≤ (d : Int) := by omega
          have k0 : (0 : Int) ≤ (k : Int) := by omega
          cases q : isT X.k with
          | false =>
            rw [q] at e1
            refine wp_region_quiet_below (by kernel_rfl) (by kernel_rfl) ?_
            repeat (go_big_quiet_step (exact e1 _ _))
            refine wpQuiet_nil ?_
            intro _ hw'
            obtain ⟨⟨dq, osq⟩, hw''⟩ := hw'
            subst hw''
            have hb2 := below_regrown v1 dq osq
            generalize grow (redrawn v1 dq) osq = v2 at *
            have HW := Lib.hid (BelowOn HB.out hb2)
            clear q0 q1 q2 e1 e2 e3 d0 d1 d2 hb2
            go_wp2_with fail
            go_roundw
            case rel => exact ⟨k + 1, hlt, by go_num, by rw [HNX.out, if_neg (fun h => by rw [q] at h; cases h.1)]; rfl, HW.out⟩
            case measure => simp [intOf]; omega
          | true =>
            rw [q] at e1
            by_cases z : T0 = 0
            · have zq : ((T0 : Int) == 0) = true := by simp; omega
              by_cases y : TA = 0
              · have yq : ((TA : Int) == 0) = true := by simp; omega
                refine wp_region_quiet_below (by kernel_rfl) (by kernel_rfl) ?_
                iterate 8 (go_big_quiet_step (first | exact e1 _ _ | exact e2 _ _))
                repeat (go_big_quiet_step (exact e3 _ _))
                refine wpQuiet_nil ?_
                intro _ hw'
                obtain ⟨⟨dq, osq⟩, hw''⟩ := hw'
                subst hw''
                have hb2 := below_regrown v1 dq osq
                have k0 := q0 dq osq; have k1 := q1 dq osq; have k2 := q2 dq osq
                generalize grow (redrawn v1 dq) osq = v2 at *
                have HW := Lib.hid (BelowOn HB.out hb2)
                have hcb := cb v2 (hBr.out.call hb2)
                have HNX2 := Lib.hid (HNX.out.trans (by rw [if_pos ⟨q, z, y⟩]))
                clear q0 q1 q2 e1 e2 e3 d0 d1 d2 hb2 HNX
                go_wp2_with fail
                refine hcb.mono ?_; rintro e v3 ⟨rfl, hb3⟩
                replace HW := Lib.hid (BelowOn HW.out hb3)
                clear hb3 hcb
                go_wp2_with fail
                go_roundw
                case rel => exact ⟨k + 1, hlt, by go_num, by rw [HNX2.out]; simp; omega, HW.out⟩
                case measure => simp [intOf]; omega
              · have yq : ((TA : Int) == 0) = false := by simp; omega
                refine wp_region_quiet_below (by kernel_rfl) (by kernel_rfl) ?_
                iterate 8 (go_big_quiet_step (first | exact e1 _ _ | exact e2 _ _))
                repeat (go_big_quiet_step (exact e3 _ _))
                refine wpQuiet_nil ?_
                intro _ hw'
                obtain ⟨⟨dq, osq⟩, hw''⟩ := hw'
                subst hw''
                have hb2 := below_regrown v1 dq osq
                generalize grow (redrawn v1 dq) osq = v2 at *
                have HW := Lib.hid (BelowOn HB.out hb2)
                clear q0 q1 q2 e1 e2 e3 d0 d1 d2 hb2
                go_wp2_with fail
                go_roundw
                case rel => exact ⟨k + 1, hlt, by go_num, by rw [HNX.out, if_neg (fun h => y h.2.2)]; rfl, HW.out⟩
                case measure => simp [intOf]; omega
            · have zq : ((T0 : Int) == 0) = false := by simp; omega
              refine wp_region_quiet_below (by kernel_rfl) (by kernel_rfl) ?_
              repeat (go_big_quiet_step (first | exact e1 _ _ | exact e2 _ _))
              refine wpQuiet_nil ?_
              intro _ hw'
              obtain ⟨⟨dq, osq⟩, hw''⟩ := hw'
              subst hw''
              have hb2 := below_regrown v1 dq osq
              generalize grow (redrawn v1 dq) osq = v2 at *
              have HW := Lib.hid (BelowOn HB.out hb2)
              clear q0 q1 q2 e1 e2 e3 d0 d1 d2 hb2
              go_wp2_with fail
              go_roundw
              case rel => exact ⟨k + 1, hlt, by go_num, by rw [HNX.out, if_neg (fun h => z h.2.1)]; rfl, HW.out⟩
              case measure => simp [intOf]; omega
        · obtain rfl : k = b.length := by omega
          have HB := Lib.hid hB1
          clear hB1
          have hs := HSUM.out
          generalize sTwo a b b.length = U at *
          have HF := Lib.hid (show ((sur a b : Nat) : Int) = (S : Int) + (U : Int) by omega)
          clear hs
          go_wp2_with fail
          go_ret
          exact ⟨by rw [HF.out]; rfl, HB.out⟩
end Go.Proofs.YthfgpagmepdblaaGreat
namespace Go.Proofs.YthfgpagmepdblaaGreat
open Go.ChangeShapes Go.WideShapes Go.ChangeAt Go.RowKit Go.Sort
set_option linter.unusedVariables false
set_option linter.unusedSimpArgs false
set_option maxRecDepth 100000

end Go.Proofs.YthfgpagmepdblaaGreat
namespace Go.Proofs.YthfgpagmepdblaaGreat
open Go.ChangeShapes Go.WideShapes Go.ChangeAt Go.RowKit Go.Sort
set_option linter.unusedVariables false
set_option linter.unusedSimpArgs false
set_option maxRecDepth 100000

end Go.Proofs.YthfgpagmepdblaaGreat
