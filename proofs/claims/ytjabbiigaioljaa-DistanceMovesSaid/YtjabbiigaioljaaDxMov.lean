/- Contract of with. What one tag costs. The walk of DistanceMoves. The law DistanceMoves holds for every input. -/
import Derived.Test.YtjabbiigaioljaaDtK
import Derived.Deep.Upon
import Derived.Test.YtjabbiigaioljaaDtC
import Derived.Test.YtjabbiigaioljaaRows
import Derived.WalkKit
import Derived.ProofKit
import Derived.OpenShut
import Derived.ChangeOld
import Derived.Below
import Derived.Carry
import Derived.SizedLaws
import Derived.Test.YtjabbiigaioljaaTka
namespace Go.Proofs.Ytjabbiigaioljaa
open Go.ChangeShapes Go.WideShapes Go.ChangeAt Go.RowKit Go.Sort
set_option linter.unusedVariables false
set_option linter.unusedSimpArgs false
set_option maxRecDepth 100000

theorem its_row (W : World) (p : Option Addr) (l : List It) (h : Its W p l) (k : Nat) (hk : k ≤ l.length) (q : Option Addr) (hq : ∀ a, p = some a → k < l.length → q = some (a.add (k * 3))) : Its W q (l.drop k) := fun h0 => by
  have hk2 : k < l.length := by simp at h0; omega
  obtain ⟨a, ha, hlt, hc⟩ := h (by omega)
  refine ⟨a.add (k * 3), hq a ha hk2, by rw [add_block]; exact hlt, fun i hi => ?_⟩
  have hi2 : k + i < l.length := by simp at hi; omega
  obtain ⟨c0, c1, c2⟩ := hc (k + i) hi2
  have add_add : ∀ n m : Nat, (a.add n).add m = a.add (n + m) := fun n m => by
    unfold Addr.add
    by_cases h1 : n = 0
    · rw [if_pos h1, h1]; simp
    · rw [if_neg h1]
      by_cases h2 : m = 0
      · rw [if_pos h2, h2, if_neg (by omega)]; rfl
      · rw [if_neg h2, if_neg (by omega)]; simp; omega
  rw [List.getElem_drop]
  rw [add_add, add_add, add_add, show k * 3 + i * 3 = (k + i) * 3 by omega, show k * 3 + (i * 3 + 1) = (k + i) * 3 + 1 by omega, show k * 3 + (i * 3 + 2) = (k + i) * 3 + 2 by omega]
  exact ⟨c0, c1, c2⟩
theorem step_of_wp {P : Program} {ops : Array Oper} {o : Oper} {a : Act} {w : World} {K : Act → World → Prop} {Q : Exit → Act → World → Prop} {E : Prop} (hgd : o.guard = none) (h : Oper.wp P o a w K Q) : if Region.wanted o (yielded ops a.tmps) = true then Oper.wp P o a w K Q else E := by
  have hw : Region.wanted o (yielded ops a.tmps) = true := by simp [Region.wanted, hgd]
  rw [if_pos hw]; exact h
def Held (b : Nat) (t : It) (W : World) : Prop := W.cell? ⟨b, 0, none⟩ = some (.int .i64 t.k) ∧ W.cell? ⟨b, 1, none⟩ = some (.string t.t) ∧ W.cell? ⟨b, 2, none⟩ = some (.int .i64 t.id)
theorem held_call {b : Nat} {t : It} {W W' : World} (h : W.cell? ⟨b, 0, none⟩ = some (.int .i64 t.k) ∧ W.cell? ⟨b, 1, none⟩ = some (.string t.t) ∧ W.cell? ⟨b, 2, none⟩ = some (.int .i64 t.id)) (hb : Below W.heap.size W W') : W'.cell? ⟨b, 0, none⟩ = some (.int .i64 t.k) ∧ W'.cell? ⟨b, 1, none⟩ = some (.string t.t) ∧ W'.cell? ⟨b, 2, none⟩ = some (.int .i64 t.id) := by
  have hl := block_lt_of_cell h.1
  exact ⟨by rw [hb.cell (p := ⟨b, 0, none⟩) hl]; exact h.1, by rw [hb.cell (p := ⟨b, 1, none⟩) hl]; exact h.2.1, by rw [hb.cell (p := ⟨b, 2, none⟩) hl]; exact h.2.2⟩
theorem held_grow {b g : Nat} {t : It} {W W' : World} (h : W.cell? ⟨b, 0, none⟩ = some (.int .i64 t.k) ∧ W.cell? ⟨b, 1, none⟩ = some (.string t.t) ∧ W.cell? ⟨b, 2, none⟩ = some (.int .i64 t.id)) (hg : W.grownBy W' (some g)) (hne : b ≠ g) : W'.cell? ⟨b, 0, none⟩ = some (.int .i64 t.k) ∧ W'.cell? ⟨b, 1, none⟩ = some (.string t.t) ∧ W'.cell? ⟨b, 2, none⟩ = some (.int .i64 t.id) := by
  have hb : W'.heap[b]? = W.heap[b]? := hg.block b (block_lt_of_cell h.1) (fun e => hne (by injection e))
  exact ⟨by rw [World.cell?_of_block (w := W) (a := ⟨b, 0, none⟩) hb]; exact h.1, by rw [World.cell?_of_block (w := W) (a := ⟨b, 1, none⟩) hb]; exact h.2.1, by rw [World.cell?_of_block (w := W) (a := ⟨b, 2, none⟩) hb]; exact h.2.2⟩
theorem own_lit {W : World} {g base : Nat} {cur : Array Value} {L : List It} (h : W.heap[g]? = some (.cells cur 23 (0, 0))) (hb : base ≤ g) (hc : cur.toList = icells L) (hl : L.length ≤ maxLen) : OwnT base L (.slice (some ⟨g, 0, none⟩) L.length L.length) W := by
  have e : cellsOf ienc L = icells L := rfl
  have hs : cur.size = L.length * 3 := by have := congrArg List.length hc; rw [icells_length] at this; simpa using this
  refine ⟨by rw [cellsOf_len eT], .inr ⟨g, L.length, cur, rfl, hb, h, Nat.le_refl _, hl, hs, ?_⟩⟩
  rw [hc, e, List.take_of_length_le (by rw [icells_length]; omega)]
theorem its_takeD {W : World} {p : Option Addr} {l : List It} (h : Its W p l) (k : Nat) : Its W p (l.take k) := fun h0 => by
  have h1 : 0 < l.length := by simp at h0; omega
  obtain ⟨a, ha, hlt, hc⟩ := h h1
  refine ⟨a, ha, hlt, fun i hi => ?_⟩
  rw [List.getElem_take]; exact hc i (by simp at hi; omega)
set_option maxHeartbeats 6400000 in
theorem with_any (p : Option Addr) (c : Nat) (l : List It) (k : Nat) (t : It) (w : World) (hR : Its w p l) (hc : l.length ≤ c) (hm : c ≤ maxLen) (hl : l.length ≤ 1000) (hk : k ≤ l.length) :
    Calls Try.prog 30 #[.slice p l.length c, .int .i64 k, .agg #[.int .i64 t.k, .string t.t, .int .i64 t.id]] w (EndT (l.take k ++ t :: l.drop k) w) := by
  unfold maxLen at hm
  have hv := Var3.newT w t.k t.t t.id
  have hb0 : Below w.heap.size w (w.alloc (.cells #[.int .i64 t.k, .string t.t, .int .i64 t.id] 23)) := blw (Below.refl _ _) _
  have hI := hR.call hb0
  have q0 : (0 : Int) ≤ (k : Int) := by omega
  have q1 : (k : Int) ≤ (l.length : Int) := by omega
  have q2 : (k : Int) ≤ (c : Int) := by omega
  go_enter Try.func30, Try.ntmps30
  go_wp2_with fail
  generalize (w.alloc (.cells #[.int .i64 t.k, .string t.t, .int .i64 t.id] 23)) = w1 at *
  obtain ⟨v0, v1, v2, vl⟩ := hv
  refine wp_region_held_drew (S := fun W => W.cell? ⟨w.heap.size, 0, none⟩ = some (.int .i64 t.k) ∧ W.cell? ⟨w.heap.size, 1, none⟩ = some (.string t.t) ∧ W.cell? ⟨w.heap.size, 2, none⟩ = some (.int .i64 t.id)) (by kernel_rfl) ⟨v0, v1, v2⟩ (fun hHeld => ?_)
  refine wpAnyH_take (i := 0) (v := ?_) rfl (by kernel_rfl) (by kernel_rfl) (by kernel_rfl) (fun _ _ _ h => h) (Or.inl ⟨by rfl, ?_⟩) hHeld ?_
  rotate_left
  · (intro w hSw; obtain ⟨c0, c1, c2⟩ := hSw; go_simp; try with_reducible rfl)
  try simp only [Act.put, List.getElem_toArray, List.getElem_cons_zero, List.getElem_cons_succ, List.setIfInBounds_toArray, List.set_cons_zero, List.set_cons_succ]
  refine wpAnyH_take (i := 2) (v := ?_) rfl (by kernel_rfl) (by kernel_rfl) (by kernel_rfl) (fun _ _ _ h => h) (Or.inl ⟨by rfl, ?_⟩) hHeld ?_
  rotate_left
  · (intro w hSw; go_simp; try with_reducible rfl)
  try simp only [Act.put, List.getElem_toArray, List.getElem_cons_zero, List.getElem_cons_succ, List.setIfInBounds_toArray, List.set_cons_zero, List.set_cons_succ]
  refine wpAnyH_take (i := 3) (v := ?_) rfl (by kernel_rfl) (by kernel_rfl) (by kernel_rfl) (fun _ _ _ h => h) (Or.inl ⟨by rfl, ?_⟩) hHeld ?_
  rotate_left
  · (intro w hSw; go_simp; try with_reducible rfl)
  try simp only [Act.put, List.getElem_toArray, List.getElem_cons_zero, List.getElem_cons_succ, List.setIfInBounds_toArray, List.set_cons_zero, List.set_cons_succ]
  refine wpAnyH_take (i := 4) (v := ?_) rfl (by kernel_rfl) (by kernel_rfl) (by kernel_rfl) (fun _ _ _ h => h) (Or.inl ⟨by rfl, ?_⟩) hHeld ?_
  rotate_left
  · (intro w hSw; go_simp; try with_reducible rfl)
  try simp only [Act.put, List.getElem_toArray, List.getElem_cons_zero, List.getElem_cons_succ, List.setIfInBounds_toArray, List.set_cons_zero, List.set_cons_succ]
  have hBd : Below w.heap.size w w1.drew := hb0.drew
  have hId : Its w1.drew p l := hI
  clear hI hb0 hR v0 v1 v2
  have vl2 : w.heap.size < w1.drew.heap.size := vl
  generalize w1.drew = w2 at *
  refine wpAnyH_ready (rs := [1]) (by kernel_rfl) (by simp) ?_
  refine AllReadyH.cons rfl (fun K hK => ?_) AllReadyH.nil
  have hone := heap_alloc_new w2 (.cells (icells [t]).toArray 23)
  have hb3 := (Below.refl w2.heap.size w2).alloc (Nat.le_refl _) (.cells (icells [t]).toArray 23)
  have hs3 : (w2.alloc (.cells (icells [t]).toArray 23)).heap.size = w2.heap.size + 1 := by simp
  have hHeld2 := held_call hHeld hb3
  have hHX := Lib.hid (And.intro hone (And.intro hb3 hs3))
  clear hone hb3 hs3
  go_simp
  refine hK.out _ _ hHeld2 (fun hHeld => ?_)
  clear hK K hHeld2
  try simp only [Act.put, List.getElem_toArray, List.getElem_cons_zero, List.getElem_cons_succ, List.setIfInBounds_toArray, List.set_cons_zero, List.set_cons_succ]
  obtain ⟨hone, hb3, hs3⟩ := hHX.out
  have hB3 := BelowOn hBd hb3
  have hI3 := hId.call hb3
  have hcells : (w2.alloc (.cells #[.int .i64 t.k, .string t.t, .int .i64 t.id] 23)) = (w2.alloc (.cells (icells [t]).toArray 23)) := rfl
  rw [hcells]
  rw [hcells] at hHeld
  clear hcells hHX
  have hown : OwnT w.heap.size [t] (.slice (some ⟨w2.heap.size, 0, none⟩) 1 1) _ := own_lit (L := [t]) hone hBd.size (by simp) (by unfold maxLen; simp)
  generalize (w2.alloc (.cells (icells [t]).toArray 23)) = w3 at *
  have hdr := its_row w3 p l hI3 k hk (if c = k then p else Option.map (fun x => x.add (k * 3)) p) (fun a ha hlt => by rw [if_neg (by omega), ha]; rfl)
  obtain ⟨v', w4, hrun, hown4, hg4⟩ := append_toks w3 26 w.heap.size [t] (l.drop k) _ _ (c - k) hown hdr hB3.size (by simp; omega)
  rw [List.length_drop] at hrun
  replace hg4 : w3.grownBy w4 (some w2.heap.size) := hg4
  refine wpAnyH_ready (rs := [5]) (by kernel_rfl) (by simp) ?_
  refine AllReadyH.cons rfl (fun K hK => ?_) AllReadyH.nil
  have hB4 : Below w.heap.size w w4 := hB3.grown hg4 hB3.size (fun j hj => by injection hj with hj; have := hBd.size; omega)
  have hI4 : Its w4 p l := fun h0 => (Its.other (M := w2.heap.size) hI3 hg4 (fun a ha => by
    obtain ⟨b, e, hlt, _⟩ := hId h0
    have : a = b := by rw [ha] at e; injection e
    rw [this]; omega)) h0
  have hHeld4 := held_grow hHeld hg4 (by omega)
  have HX := Lib.hid (And.intro hown4 (And.intro hB4 hI4))
  clear hown hdr hown4 hB3 hI3 hB4 hI4 hg4 hone hb3 hs3 hId hBd
  refine step_of_wp rfl ?_
  refine Lib.wp_append_run w3 _ _ 26 26 rfl _ _ rfl rfl v' w4 hrun ?_
  refine hK.out _ _ hHeld4 (fun hHeld => ?_)
  clear hK K hHeld4
  try simp only [Act.put, List.getElem_toArray, List.getElem_cons_zero, List.getElem_cons_succ, List.setIfInBounds_toArray, List.set_cons_zero, List.set_cons_succ]
  refine wpAnyH_take (i := 6) (v := ?_) rfl (by kernel_rfl) (by kernel_rfl) (by kernel_rfl) (fun _ _ _ h => h) (Or.inl ⟨by rfl, ?_⟩) hHeld ?_
  rotate_left
  · (intro w hSw; go_simp; try with_reducible rfl)
  try simp only [Act.put, List.getElem_toArray, List.getElem_cons_zero, List.getElem_cons_succ, List.setIfInBounds_toArray, List.set_cons_zero, List.set_cons_succ]
  refine wpAnyH_done (by kernel_rfl) ?_ _
  obtain ⟨hown4, hB4, hI4⟩ := HX.out
  obtain ⟨p3, c3, rfl, h31, h32, h3⟩ := OwnT.its hown4
  have hlen : ([t] ++ l.drop k).length = 1 + (l.length - k) := by simp; omega
  generalize hTT : [t] ++ l.drop k = T at *
  have HTT := Lib.hid hTT; have HL := Lib.hid hlen; have HB4 := Lib.hid hB4
  clear hTT hlen hown4 HX hHeld hrun hB4
  have hl1 : T.length ≤ 1001 := by have := HL.out; omega
  have tok : True := trivial
  have ht := its_takeD hI4 k
  have hkl := Lib.hid (show k = (l.take k).length by simp; omega)
  have hS := Acc.start (e := 23) (size := 3) (enc := ienc) w4
  generalize l.take k = T0 at *
  have hl0 : T0.length ≤ 1000 := by have := hkl.out; omega
  generalize (if c = k then p else Option.map (fun x => x.add (k * 3)) p) = pz at *
  go_upto_region 3 with (first
    | (at_builtin; have _t := tok; refine wpl_catT rfl _ _ rfl w4 [] T0 _ rfl hS p _ c rfl hkl.out ht (by simp; omega) ?_; intro v1 u1 hA1; rw [List.nil_append] at hA1; clear tok)
    | (at_builtin; refine wpl_catT rfl _ _ rfl w4 T0 T v1 rfl hA1 p3 _ c3 rfl rfl (h3.call hA1.below) (by omega) ?_; intro v2 u2 hA2; clear hA1))
  go_ret
  refine ⟨_, rfl, BelowOn HB4.out hA2.below, ?_⟩
  have e : T0 ++ t :: l.drop k = T0 ++ T := by rw [← HTT.out]; rfl
  rw [e]
  exact ownsRow_base hA2.own HB4.out.size
end Go.Proofs.Ytjabbiigaioljaa
namespace Go.Proofs.Ytjabbiigaioljaa
open Go.ChangeShapes Go.WideShapes Go.ChangeAt Go.RowKit Go.Sort
set_option linter.unusedVariables false
set_option linter.unusedSimpArgs false
set_option maxRecDepth 100000

def wordsL (M : List It) : List It := M.filter fun x => !isT x.k
def tBr : It := ⟨4, ⟨#[98, 114]⟩, 7⟩
def insT (L : List It) (i : Nat) : List It := L.take i ++ tBr :: L.drop i
theorem words_next (M : List It) (k : Nat) (h : k < M.length) : wordsL (M.take (k + 1)) = wordsL (M.take k) ++ (if isT (M[k]'h).k = true then [] else [M[k]'h]) := by
  rw [List.take_succ_eq_append_getElem h]; unfold wordsL; rw [List.filter_append]
  congr 1
  cases q : isT (M[k]'h).k <;> simp [List.filter_cons, q]
theorem words_len (M : List It) : (wordsL M).length ≤ M.length := List.length_filter_le _ _
theorem words_none (M : List It) : ∀ x ∈ wordsL M, isT x.k = false := fun x hx => by
  unfold wordsL at hx; rw [List.mem_filter] at hx; simpa using hx.2
theorem tkeys_words (L : List It) (h : ∀ x ∈ L, isT x.k = false) : tkeys L = [] := by
  unfold tkeys
  rw [List.map_eq_nil_iff, List.filter_eq_nil_iff]
  intro x hx; rw [h x hx]; simp
theorem tkeys_ins (L : List It) (h : ∀ x ∈ L, isT x.k = false) (i : Nat) : tkeys (insT L i) = [tkey tBr] := by
  unfold insT
  rw [show tBr :: L.drop i = [tBr] ++ L.drop i from rfl, tkeys_append, tkeys_append, tkeys_words _ fun x hx => h x (List.mem_of_mem_take hx), tkeys_words _ fun x hx => h x (List.mem_of_mem_drop hx), tkeys_one _ rfl]; rfl
theorem sur_ins (L : List It) (h : ∀ x ∈ L, isT x.k = false) (i : Nat) : sur (insT L i) L = 1 := by
  have hd : ∀ y, dif (insT L i) L y = if y = tkey tBr then 1 else 0 := fun y => by
    unfold dif cntN
    rw [tkeys_ins L h, tkeys_words L h]
    by_cases e : y = tkey tBr
    · subst e; simp
    · rw [if_neg e, List.count_eq_zero_of_not_mem (by simp [e])]; simp
  rw [← sur_any [tkey tBr] _ _ (by simp) (fun y hy => by
    rw [hd] at hy
    by_cases e : y = tkey tBr
    · simp [e]
    · rw [if_neg e] at hy; exact absurd rfl hy)]
  rw [sumT_cons, sumT_nil, hd, if_pos rfl]
theorem dst_ins1 (L : List It) (hk : kindV L) (i : Nat) : dst (insT L i) L = 1 := by
  have h1 : dst (insT L i) L ≤ 1 := by
    have e : dst (insT L i) L = dst (L.take i ++ tBr :: L.drop i) (L.take i ++ L.drop i) := by rw [List.take_append_drop]; rfl
    rw [e, dst_front]
    exact dst_drop1 tBr (L.drop i)
  have h2 : dst (insT L i) L ≠ 0 := fun h => by
    have hkv : kindV (insT L i) := fun x hx => by
      unfold insT at hx
      rcases List.mem_append.1 hx with hx | hx
      · exact hk x (List.mem_of_mem_take hx)
      · rcases List.mem_cons.1 hx with rfl | hx
        · exact ⟨by decide, by decide⟩
        · exact hk x (List.mem_of_mem_drop hx)
    have := smL_len ((dst_zero hkv hk).1 h)
    unfold insT at this
    simp at this; omega
  omega
theorem dis_ins (L : List It) (hk : kindV L) (h : ∀ x ∈ L, isT x.k = false) (i : Nat) : dis (insT L i) L = 3 := by
  unfold dis; rw [dst_ins1 L hk, sur_ins L h]
theorem dis_ins2 (L : List It) (hk : kindV L) (h : ∀ x ∈ L, isT x.k = false) (i j : Nat) : dis (insT L i) (insT L j) ≤ 2 := by
  have hs : sur (insT L i) (insT L j) = 0 := sumT_zero _ _ fun y _ => by unfold dif cntN; rw [tkeys_ins L h, tkeys_ins L h]; omega
  have ht := dst_tri (insT L i) L (insT L j)
  rw [dst_comm L, dst_ins1 L hk, dst_ins1 L hk] at ht
  unfold dis; omega
theorem ins_len (L : List It) (i : Nat) : (insT L i).length = L.length + 1 := by unfold insT; simp; omega
theorem ins_txt (L : List It) (h : txtsB L) (i : Nat) : txtsB (insT L i) := fun x hx => by
  unfold insT at hx
  rcases List.mem_append.1 hx with hx | hx
  · exact h x (List.mem_of_mem_take hx)
  · rcases List.mem_cons.1 hx with rfl | hx
    · decide
    · exact h x (List.mem_of_mem_drop hx)
end Go.Proofs.Ytjabbiigaioljaa
namespace Go.Proofs.Ytjabbiigaioljaa
open Go.ChangeShapes Go.WideShapes Go.ChangeAt Go.RowKit Go.Sort
set_option linter.unusedVariables false
set_option linter.unusedSimpArgs false
set_option maxRecDepth 100000

set_option maxHeartbeats 12800000 in
theorem moves_law (p0 : Option Addr) (c0 : Nat) (l : List Int) (at0 to0 : Int) (w : World)
    (r0 : Ones w (Value.int .i64) p0 l) (o0 : ∀ i (h : i < l.length), (Lit.int .i64 (l[i]'h)).wf = true) (n0 : l.length ≤ c0) (m0 : c0 ≤ maxLen) (wi : (Lit.int .i64 at0).wf = true) (wk : (Lit.int .i64 to0).wf = true) :
    Calls Try.prog 10 #[.slice p0 l.length c0, .int .i64 at0, .int .i64 to0] w fun e w' => e = .returned (.bool true) ∧ Below w.heap.size w w' := by
  have hM0 := dmade_any p0 c0 l 14 w r0 o0 n0 m0 (by omega)
  have M0 := Lib.hid hM0
  clear hM0 r0 o0
  unfold maxLen at m0
  by_cases z0 : 60 < l.length
  · go_enter Try.func10, Try.ntmps10
    go_wp2_with fail
    refine (known_any _).mono ?_; rintro e w1 ⟨rfl, hb⟩
    go_wp2_with fail
    go_ret
    exact ⟨rfl, hb⟩
  go_enter Try.func10, Try.ntmps10
  go_wp2_with fail
  refine M0.out.mono ?_; rintro e w1 hE
  obtain ⟨pm, cm, rfl, hM, hb1⟩ := dr_made (by omega) hE
  have kM := mkD_kind l 14
  have lM := mkD_len l 14
  clear hE M0
  generalize mkD l 14 = M at *
  have HS := Lib.hid (And.intro hM hb1)
  have HM1 := Lib.hid hM
  clear hM
  go_wp2_with fail
  go_loopw [7, 23] (fun v i wr => ∃ k : Nat, k ≤ M.length ∧ i = .int .i64 k ∧ Dr wr pm cm M ∧ AccT w1 (wordsL (M.take k)) v wr) (fun _ i _ => M.length - (intOf i).toNat)
  case atStart => exact ⟨0, Nat.zero_le _, rfl, HS.out.1, Acc.start _⟩
  case round =>
    clear HS
    obtain ⟨k, hk, rfl, hM, hA⟩ := hrel
    by_cases hlt : k < M.length
    · obtain ⟨ad, rfl, had, x0, x1, x2⟩ := hM.its.row k hlt
      have hnx := words_next M k hlt
      have hwl := words_len (M.take k)
      rw [List.length_take] at hwl
      have hkM : (wordsL (M.take k)).length ≤ 14 := by omega
      have ht := fun W => drtag_any M[k].k M[k].t M[k].id W
      have hV := Var3.newT wr M[k].k M[k].t M[k].id
      have hb2 := (Below.refl wr.heap.size wr).alloc (Nat.le_refl _) (.cells #[.int .i64 M[k].k, .string M[k].t, .int .i64 M[k].id] 23)
      have hM2 := hM.call hb2
      have hA2 := hA.call hb2
      have lM2 := hM.le; have cM2 := hM.cm
      generalize M[k] = x at *
      have HT := Lib.hid ht; have HN := Lib.hid hnx
      have HX := Lib.hid (And.intro hV (And.intro hM2 hA2))
      clear ht hnx hV hb2 hM2 hA2 hM hA hwl
      unfold maxLen at cM2
      go_wp2_with fail
      refine (HT.out _).mono ?_; rintro e w2 ⟨rfl, hb⟩
      obtain ⟨hV, hM2, hA2⟩ := HX.out
      replace hV := hV.call hb; replace hM2 := hM2.call hb; replace hA2 := hA2.call hb
      clear hb HX
      obtain ⟨v0, v1, v2, vl⟩ := hV
      cases q : isT x.k
      · have hn2 := HN.out
        rw [q, if_neg (by simp)] at hn2
        have HN2 := Lib.hid hn2
        have hM3 := hM2.call ((Below.refl _ _).alloc (Nat.le_refl _) (.cells (icells [x]).toArray 23))
        have hA3 := hA2.alloc (.cells (icells [x]).toArray 23)
        have hnew := heap_alloc_new w2 (.cells (icells [x]).toArray 23)
        have HM := Lib.hid (hM2)
        clear hn2 hM3 hM2 hA2 HN
        go_wp2_with (at_builtin; refine wpl_append eT _ rfl _ _ rfl w1 (wordsL (M.take k)) u7 rfl hA3 x w2.heap.size _ rfl hnew rfl (by omega) (by unfold maxLen; omega) ?_; intro v' w5 hA5 hb5)
        have hM5 := HM1.out.call hb5
        rw [← HN2.out] at hA5
        go_roundw
        case rel => exact ⟨k + 1, hlt, by go_num, hM5, hA5⟩
        case measure => simp [intOf] <;> omega
      · have hn2 := HN.out
        rw [q, if_pos rfl, List.append_nil] at hn2
        have HN2 := Lib.hid hn2
        have HX := Lib.hid (And.intro hM2 hA2)
        clear hn2 hM2 hA2 HN v0 v1 v2 vl
        go_wp2_with fail
        obtain ⟨hM2, hA2⟩ := HX.out
        rw [← HN2.out] at hA2
        go_roundw
        case rel => exact ⟨k + 1, hlt, by go_num, hM2, hA2⟩
        case measure => simp [intOf] <;> omega
    · have hkM : k = M.length := by omega
      rw [hkM, List.take_length] at hA
      have hw1 := words_len M
      have hnone := words_none M
      have hkd : kindV (wordsL M) := fun x hx => kM x (by unfold wordsL at hx; exact (List.mem_filter.1 hx).1)
      have htx : txtsB (wordsL M) := fun x hx => hM.txt x (by unfold wordsL at hx; exact (List.mem_filter.1 hx).1)
      obtain ⟨pw, cw, rfl, hD⟩ := dr_own hA (by omega) htx
      have hB := BelowOn hb1 hA.below
      have hlt2 : ¬ k < M.length := hlt
      generalize wordsL M = L at *
      clear hA hkM hM HM1 kM htx
      have hlL : L.length ≤ 14 := by omega
      have cwm := hD.cm; have cwl := hD.le
      unfold maxLen at cwm
      have hei : at0 % ((L.length : Int) + 1) = ((at0 % ((L.length : Int) + 1)).toNat : Int) := by have := Int.emod_nonneg at0 (show (L.length : Int) + 1 ≠ 0 by omega); omega
      have hek : to0 % ((L.length : Int) + 1) = ((to0 % ((L.length : Int) + 1)).toNat : Int) := by have := Int.emod_nonneg to0 (show (L.length : Int) + 1 ≠ 0 by omega); omega
      have hli := Int.emod_lt_of_pos at0 (show (0 : Int) < (L.length : Int) + 1 by omega)
      have hlk := Int.emod_lt_of_pos to0 (show (0 : Int) < (L.length : Int) + 1 by omega)
      have hPI := fun W => place_any at0 ((L.length : Int) + 1) W (by omega) (by omega) wi
      have hPJ := fun W => place_any to0 ((L.length : Int) + 1) W (by omega) (by omega) wk
      rw [hei] at hPI hli; rw [hek] at hPJ hlk
      generalize (at0 % ((L.length : Int) + 1)).toNat = I at *
      generalize (to0 % ((L.length : Int) + 1)).toNat = J at *
      have hI : I ≤ L.length := by omega
      have hJ : J ≤ L.length := by omega
      have HPI := Lib.hid hPI; have HPJ := Lib.hid hPJ
      have hV := Var3.newT wr 4 ⟨#[98, 114]⟩ 7
      have hb2 := (Below.refl wr.heap.size wr).alloc (Nat.le_refl _) (.cells #[.int .i64 4, .string ⟨#[98, 114]⟩, .int .i64 7] 23)
      have HX := Lib.hid (And.intro hV (And.intro (hD.call hb2) (BelowOn hB hb2)))
      clear hei hek hPI hPJ hli hlk hV hb2 hD hB
      go_wp2_with fail
      refine (HPI.out _).mono ?_; rintro e w3 ⟨rfl, rfl⟩
      go_wp2_with fail
      refine (HPJ.out _).mono ?_; rintro e w3 ⟨rfl, rfl⟩
      obtain ⟨⟨t0, t1, t2, tl⟩, hD3, hW3⟩ := HX.out
      clear HPI HPJ HX
      generalize (wr.alloc (.cells #[.int .i64 4, .string ⟨#[98, 114]⟩, .int .i64 7] 23)) = w3 at *
      go_wp2_with fail
      generalize wr.heap.size = b10 at *
      have hT3 : w3.drew.cell? ⟨b10, 0, none⟩ = some (.int .i64 4) ∧ w3.drew.cell? ⟨b10, 1, none⟩ = some (.string ⟨#[98, 114]⟩) ∧ w3.drew.cell? ⟨b10, 2, none⟩ = some (.int .i64 7) := ⟨t0, t1, t2⟩
      clear t0 t1 t2
      have d1 := dis_ins L hkd hnone I
      have d2 : dis L (insT L J) = 3 := by rw [dis_comm]; exact dis_ins L hkd hnone J
      have d3 := dis_ins2 L hkd hnone I J
      have d4 : I = J → dis (insT L I) (insT L J) = 0 := fun h => by rw [h]; exact dis_self _
      have HDD := Lib.hid (And.intro d1 (And.intro d2 (And.intro d3 d4)))
      clear d1 d2 d3 d4
      refine wp_region_held_drew (S := fun W => W.cell? ⟨b10, 0, none⟩ = some (.int .i64 4) ∧ W.cell? ⟨b10, 1, none⟩ = some (.string ⟨#[98, 114]⟩) ∧ W.cell? ⟨b10, 2, none⟩ = some (.int .i64 7)) (by kernel_rfl) hT3 (fun hHeld => ?_)
      have hBW := hW3.drew; have hD := hD3.call (drew_below w3)
      generalize w3.drew = v0 at *
      refine wpAnyH_take (i := 0) (v := ?_) rfl (by kernel_rfl) (by kernel_rfl) (by kernel_rfl) (fun _ _ _ h => h) (Or.inl ⟨by rfl, ?_⟩) hHeld ?_
      rotate_left
      · (intro w hSw; skip; go_simp; try with_reducible rfl)
      try simp only [Act.put, List.getElem_toArray, List.getElem_cons_zero, List.getElem_cons_succ, List.setIfInBounds_toArray, List.set_cons_zero, List.set_cons_succ]
      refine wpAnyH_take (i := 1) (v := ?_) rfl (by kernel_rfl) (by kernel_rfl) (by kernel_rfl) (fun _ _ _ h => h) (Or.inl ⟨by rfl, ?_⟩) hHeld ?_
      rotate_left
      · (intro w hSw; skip; go_simp; try with_reducible rfl)
      try simp only [Act.put, List.getElem_toArray, List.getElem_cons_zero, List.getElem_cons_succ, List.setIfInBounds_toArray, List.set_cons_zero, List.set_cons_succ]
      refine wpAnyH_take (i := 2) (v := ?_) rfl (by kernel_rfl) (by kernel_rfl) (by kernel_rfl) (fun _ _ _ h => h) (Or.inl ⟨by rfl, ?_⟩) hHeld ?_
      rotate_left
      · (intro w hSw; obtain ⟨c0, c1, c2⟩ := hSw; go_simp; try with_reducible rfl)
      try simp only [Act.put, List.getElem_toArray, List.getElem_cons_zero, List.getElem_cons_succ, List.setIfInBounds_toArray, List.set_cons_zero, List.set_cons_succ]
      refine wpAnyH_take (i := 4) (v := ?_) rfl (by kernel_rfl) (by kernel_rfl) (by kernel_rfl) (fun _ _ _ h => h) (Or.inl ⟨by rfl, ?_⟩) hHeld ?_
      rotate_left
      · (intro w hSw; skip; go_simp; try with_reducible rfl)
      try simp only [Act.put, List.getElem_toArray, List.getElem_cons_zero, List.getElem_cons_succ, List.setIfInBounds_toArray, List.set_cons_zero, List.set_cons_succ]
      refine wpAnyH_take (i := 5) (v := ?_) rfl (by kernel_rfl) (by kernel_rfl) (by kernel_rfl) (fun _ _ _ h => h) (Or.inl ⟨by rfl, ?_⟩) hHeld ?_
      rotate_left
      · (intro w hSw; skip; go_simp; try with_reducible rfl)
      try simp only [Act.put, List.getElem_toArray, List.getElem_cons_zero, List.getElem_cons_succ, List.setIfInBounds_toArray, List.set_cons_zero, List.set_cons_succ]
      refine wpAnyH_take (i := 6) (v := ?_) rfl (by kernel_rfl) (by kernel_rfl) (by kernel_rfl) (fun _ _ _ h => h) (Or.inl ⟨by rfl, ?_⟩) hHeld ?_
      rotate_left
      · (intro w hSw; obtain ⟨c0, c1, c2⟩ := hSw; go_simp; try with_reducible rfl)
      try simp only [Act.put, List.getElem_toArray, List.getElem_cons_zero, List.getElem_cons_succ, List.setIfInBounds_toArray, List.set_cons_zero, List.set_cons_succ]
      refine wpAnyH_ready (rs := [3]) (by kernel_rfl) (by simp) ?_
      refine AllReadyH.cons rfl (fun K hK => ?_) AllReadyH.nil
      go_simp
      refine (with_any pw cw L I tBr v0 hD.its hD.le hD.cm (by have := hD.len; omega) (by omega)).mono ?_; rintro e u1 hE
      obtain ⟨pA, cA, rfl, iA1, iA2, hA, hb⟩ := EndT.f hE
      have hA : Dr u1 pA cA (insT L I) := ⟨hA, iA1, iA2, by rw [ins_len]; have := hD.len; omega, ins_txt L hD.txt I⟩
      replace hD := hD.call hb; replace hBW := BelowOn hBW hb
      have hHeld2 := held_call (t := tBr) hHeld hb
      have hlA : (L.take I ++ tBr :: L.drop I).length = (insT L I).length := rfl
      clear hE iA1 iA2
      rw [hlA]
      generalize hIA : insT L I = TA at *
      go_wp2_with fail
      refine hK.out _ _ hHeld2 (fun hHeld => ?_)
      clear hK K hHeld2 hb
      try simp only [Act.put, List.getElem_toArray, List.getElem_cons_zero, List.getElem_cons_succ, List.setIfInBounds_toArray, List.set_cons_zero, List.set_cons_succ]
      refine wpAnyH_ready (rs := [7]) (by kernel_rfl) (by simp) ?_
      refine AllReadyH.cons rfl (fun K hK => ?_) AllReadyH.nil
      go_simp
      refine (with_any pw cw L J tBr u1 hD.its hD.le hD.cm (by have := hD.len; omega) (by omega)).mono ?_; rintro e u2 hE
      obtain ⟨pB, cB, rfl, iB1, iB2, hB, hb⟩ := EndT.f hE
      have hB : Dr u2 pB cB (insT L J) := ⟨hB, iB1, iB2, by rw [ins_len]; have := hD.len; omega, ins_txt L hD.txt J⟩
      replace hD := hD.call hb; replace hBW := BelowOn hBW hb
      replace hA := hA.call hb
      have hHeld2 := held_call (t := tBr) hHeld hb
      have hlB : (L.take J ++ tBr :: L.drop J).length = (insT L J).length := rfl
      clear hE iB1 iB2
      rw [hlB]
      generalize hIB : insT L J = TB at *
      go_wp2_with fail
      refine hK.out _ _ hHeld2 (fun hHeld => ?_)
      clear hK K hHeld2 hb
      try simp only [Act.put, List.getElem_toArray, List.getElem_cons_zero, List.getElem_cons_succ, List.setIfInBounds_toArray, List.set_cons_zero, List.set_cons_succ]
      refine wpAnyH_take (i := 8) (v := ?_) rfl (by kernel_rfl) (by kernel_rfl) (by kernel_rfl) (fun _ _ _ h => h) (Or.inl ⟨by rfl, ?_⟩) hHeld ?_
      rotate_left
      · (intro w hSw; skip; go_simp; try with_reducible rfl)
      try simp only [Act.put, List.getElem_toArray, List.getElem_cons_zero, List.getElem_cons_succ, List.setIfInBounds_toArray, List.set_cons_zero, List.set_cons_succ]
      refine wpAnyH_take (i := 9) (v := ?_) rfl (by kernel_rfl) (by kernel_rfl) (by kernel_rfl) (fun _ _ _ h => h) (Or.inl ⟨by rfl, ?_⟩) hHeld ?_
      rotate_left
      · (intro w hSw; skip; go_simp; try with_reducible rfl)
      try simp only [Act.put, List.getElem_toArray, List.getElem_cons_zero, List.getElem_cons_succ, List.setIfInBounds_toArray, List.set_cons_zero, List.set_cons_succ]
      refine wpAnyH_done (by kernel_rfl) ?_ _
      clear hHeld hIA hIB
      obtain ⟨d1, d2, d3, d4⟩ := HDD.out
      have e1 := fun W (h : Dr W pA cA TA) (k : Dr W pw cw L) => h.dist k
      have e2 := fun W (h : Dr W pw cw L) (k : Dr W pB cB TB) => h.dist k
      rw [d1] at e1; rw [d2] at e2
      have HAB := Lib.hid (hA.dist hB); have E1 := Lib.hid e1; have E2 := Lib.hid e2
      have HR := Lib.hid (And.intro hA (And.intro hB (And.intro hD hBW)))
      clear HDD d1 d2 e1 e2 hA hB hD hBW
      generalize dis TA TB = D at *
      go_wp2_with fail
      refine HAB.out.mono ?_; rintro e u3 ⟨rfl, hb⟩
      obtain ⟨hA, hB, hD, hW⟩ := HR.out
      replace hA := hA.call hb; replace hB := hB.call hb; replace hD := hD.call hb; replace hW := BelowOn hW hb
      clear HR hb HAB
      have HR := Lib.hid (And.intro hA (And.intro hB (And.intro hD hW)))
      clear hA hB hD hW
      go_wp2_with fail
      obtain ⟨hA, hB, hD, hW⟩ := HR.out
      refine (E1.out _ hA hD).mono ?_; rintro e u4 ⟨rfl, hb⟩
      replace hB := hB.call hb; replace hD := hD.call hb; replace hW := BelowOn hW hb
      clear HR hb E1 hA
      have HR := Lib.hid (And.intro hB (And.intro hD hW))
      clear hB hD hW
      go_wp2_with fail
      obtain ⟨hB, hD, hW⟩ := HR.out
      refine (E2.out _ hD hB).mono ?_; rintro e u5 ⟨rfl, hb⟩
      replace hW := BelowOn hW hb
      clear HR hb E2 hB hD
      by_cases hij : I = J
      · have q1 : ((I : Int) == (J : Int)) = true := by simp; omega
        have hD0 := d4 hij
        have q2 : ((D : Int) == 0) = true := by simp; omega
        clear d3 d4 hij hD0
        go_wp2_with fail
        refine (known_any _).mono ?_; rintro e u6 ⟨rfl, hb⟩
        replace hW := BelowOn hW hb
        go_wp2_with fail
        go_ret
        exact ⟨rfl, hW⟩
      · have q1 : ((I : Int) == (J : Int)) = false := by simp; omega
        have q2 : decide ((D : Int) ≤ 2) = true := decide_eq_true (by omega)
        clear d3 d4 hij
        go_wp2_with fail
        refine (known_any _).mono ?_; rintro e u6 ⟨rfl, hb⟩
        replace hW := BelowOn hW hb
        go_wp2_with fail
        go_ret
        exact ⟨rfl, hW⟩
end Go.Proofs.Ytjabbiigaioljaa
namespace Go.Proofs.Ytjabbiigaioljaa.distanceMoves
open Go.ChangeShapes Go.WideShapes Go.ChangeAt Go.RowKit
open Go.ChangeMaps (open_string shut_string)
set_option linter.unusedVariables false
set_option maxRecDepth 100000

theorem own : ownKnob Try.prog.godebug = none := by kernel_rfl
theorem laidOut : laidOutB Try.prog = true := by kernel_rfl


set_option maxHeartbeats 1600000 in
theorem walk (p0 : Option Addr) (c0 : Nat) (a0 : List Int) (a1 : Int) (a2 : Int) (w : World) (r0 : Ones w (Value.int .i64) p0 a0) (o0 : ∀ i (h : i < a0.length), (Lit.int .i64 (a0[i]'h)).wf = true) (n0 : a0.length ≤ c0) (m0 : c0 ≤ maxLen) (w1 : (Lit.int .i64 a1).wf = true) (w2 : (Lit.int .i64 a2).wf = true) :
    Calls Try.prog 10 #[.slice p0 a0.length c0, .int .i64 a1, .int .i64 a2] w fun e w' => e = .returned (.bool true) ∧ Below w.heap.size w w' := by
  exact moves_law p0 c0 a0 a1 a2 w r0 o0 n0 m0 w1 w2

theorem lifted (os : Os) (started : os.Started) (H : Type) (enc : TypeId × Value → H) :
    ReturnsInHanded {} Try.checked os 10 .any (Rows.distanceMovesSpec.pre6 enc Try.prog Try.f10 Rows.distanceMovesRow.domain false) (Rows.distanceMovesSpec.post enc Try.prog Try.f10 false true false false) := by
  refine returnsInHanded_of_change_sized (C := Try.checked) own started (by kernel_rfl) Try.func10
    (ChangeSpec.witness6 (enc := enc) (C := Try.checked) false ⟨#[], #[.slice none 0 0, .int .i64 0, .int .i64 0], []⟩ 8 (by kernel_rfl) (by kernel_rfl) (by kernel_rfl) (by kernel_rfl)) ?_
  intro W base args ds gs before hval0 hW hcnd hsz0 _
  have hval : ∀ (j : Nat) t v, Try.f10.params[j]? = some t → args[j]? = some v → Value.okWide Try.prog W .any base t v := hval0
  have hW' := hW
  have hlt : ∀ x ∈ before, x.block < W.heap.size := fun x hx => hW'.lt x hx
  obtain ⟨p, q, hA0, hV, rfl, hfz, hnd⟩ := hW
  have hA : DataW.TrodAll enc Try.prog W 0 (fun _ => true) true Try.f10.params.toList args.toList ds p := hA0
  rw [Try.params10] at hA hval hsz0
  obtain ⟨v0, vs0, d0, ds0, p0, q0, hargs, rfl, rfl, h0, r0⟩ := trodAll_cons hA
  obtain ⟨v1, vs1, d1, ds1, p1, q1, rfl, rfl, rfl, h1, r1⟩ := trodAll_cons r0
  obtain ⟨v2, vs2, d2, ds2, p2, q2, rfl, rfl, rfl, h2, r2⟩ := trodAll_cons r1
  obtain ⟨rfl, rfl, rfl⟩ := trodAll_nil r2
  obtain rfl : args = #[v0, v1, v2] := by cases args; simp_all
  obtain ⟨rfl, rfl⟩ := trodVars_none hV
  have hsz := hsz0; clear hsz0
  obtain ⟨pp0, c0, a0, rfl, n0, m0, y0, o0⟩ := opened_ints (okBase (hval 0 24 v0 rfl rfl)) h0
  obtain ⟨a1, rfl, -, -, w1⟩ := open_int Try.underlying3 (hval 1 3 v1 rfl rfl) h1
  obtain ⟨a2, rfl, -, -, w2⟩ := open_int Try.underlying3 (hval 2 3 v2 rfl rfl) h2
  clear hA0 hval0
  refine (walk pp0 c0 a0 a1 a2 W y0 o0 n0 m0 w1 w2).mono fun e W' ⟨he, bel⟩ => ?_
  subst he
  exact ⟨_, rfl, _, _, _, [], _, [], hW', trodAll_mk1 (shut_bool Try.underlying4 _), (trodAll_cons_mk (Below.trod laidOut (by kernel_rfl) (of_decide_eq_true (by kernel_rfl)) h0 bel (fun x hx => hlt x (by simp [hx]))) (trodAll_cons_mk (Below.trod laidOut (by kernel_rfl) (of_decide_eq_true (by kernel_rfl)) h1 bel (fun x hx => hlt x (by simp [hx]))) (trodAll_cons_mk (Below.trod laidOut (by kernel_rfl) (of_decide_eq_true (by kernel_rfl)) h2 bel (fun x hx => hlt x (by simp [hx]))) trodAll_mk0))), rfl, bel.frame _, fun h => by cases h⟩

theorem over : Rows.distanceMovesRow.holds Try.pinned (OpenSpec.ofChange Rows.distanceMovesSpec) :=
  OpenClaim.holds_of_wide 10 Try.f10 rfl rfl rfl rfl rfl rfl rfl ⟨rfl, rfl, rfl, rfl, rfl⟩ rfl rfl rfl rfl rfl (by kernel_rfl) Try.func10 (by kernel_rfl)
    (of_decide_eq_true (by kernel_rfl)) (by unfold Func.isWrapper; first | (rw [if_pos (by decide +kernel)]; kernel_rfl) | (rw [if_neg (by decide +kernel)]; exact ⟨rfl, rfl⟩))
    (fun os started H enc _ => lifted os started H enc)

theorem proved : Rows.DistanceMovesSaid := over
#print axioms proved
end Go.Proofs.Ytjabbiigaioljaa.distanceMoves
