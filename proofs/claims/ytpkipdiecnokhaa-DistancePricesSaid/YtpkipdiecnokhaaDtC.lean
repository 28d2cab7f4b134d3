/- A call that leaves the world alone may be taken first in a region that draws its order. Contract of Cost. Contract of newParts. Contract of newParts. Cells of the table; contracts of after and begin. -/
import Derived.Test.YtpkipdiecnokhaaFrg
import Derived.Deep.RegionHeld3
import Derived.Test.YtpkipdiecnokhaaDtB
import Derived.Laws.MakeOwn
namespace Go.Proofs.Ytpkipdiecnokhaa
set_option linter.unusedVariables false

section
variable {P : Program} {ops : Array Oper} {Q : Exit → Act → World → Prop} {md : Region.Mode} {S : World → Prop}
/-- In this state the operation calls a function that answers v and leaves every world that meets S as it was. -/
def QuietAt (P : Program) (ops : Array Oper) (S : World → Prop) (o : Oper) (v : Value) (a : Act) : Prop :=
  Region.wanted o (yielded ops a.tmps) = true ∧ ∀ w, S w → ∃ f args, (execOp a.eval o).run P w = .ok (.enter f args) w ∧ Calls P f args w (fun e w' => e = .returned v ∧ w' = w)
theorem eval_of_tmps {a b : Act} (h : a.tmps = b.tmps) : a.eval = b.eval := by
  funext x
  cases x <;> simp [Act.eval, h]
/-- Behind an operation the state has turned in its own temporary alone. -/
theorem wpOp_shape {j : Nat} {oj : Oper} (hj : ops[j]? = some oj) {K : Act → World → Prop} {a : Act} {w : World} (h : wpOp P ops Q j K a w) : wpOp P ops Q j (fun a' w' => (∃ u, a'.tmps = (a.put oj.dst u).tmps) ∧ K a' w') a w := by
  unfold wpOp at h ⊢
  simp only [hj] at h ⊢
  by_cases hw : Region.wanted oj (yielded ops a.tmps) = true
  · rw [if_pos hw] at h ⊢
    refine h.imp (fun h => ?_) id
    unfold Oper.wp at h ⊢
    generalize (execOp a.eval oj).run P w = r at h ⊢
    cases r with
    | halt x w' => cases x <;> simp only [Oper.upon] at h ⊢ <;> exact h
    | ok n w' =>
      cases n <;> simp only [Oper.upon] at h ⊢
      case value u => exact ⟨⟨u, rfl⟩, h⟩
      case skip => exact ⟨⟨undef, rfl⟩, h⟩
      case defer d => exact ⟨⟨undef, by cases hd : oj.dst <;> simp [Act.put]⟩, h⟩
      case enter f args =>
        refine Calls.mono h fun e w'' he => ?_
        cases e with
        | returned u => exact ⟨⟨u, rfl⟩, he⟩
        | panicked c => exact he
        | outgrown => exact he
      case row r args => exact Rows.mono h fun u w'' he => ⟨⟨u, rfl⟩, he⟩
  · rw [if_neg hw] at h ⊢
    exact ⟨⟨undef, rfl⟩, h⟩
theorem QuietAt.run {i : Nat} {o : Oper} {v : Value} {a : Act} (hi : ops[i]? = some o) (hy : QuietAt P ops S o v a) {K : Act → World → Prop} {w : World} (hS : S w) (h : K (a.put o.dst v) w) : wpOp P ops Q i K a w := by
  obtain ⟨hw, hv⟩ := hy
  obtain ⟨f, args, hr, hc⟩ := hv w hS
  unfold wpOp
  simp only [hi]
  rw [if_pos hw]
  refine .inl ?_
  unfold Oper.wp
  rw [hr]
  exact Calls.mono hc fun e w' ⟨he, hw'⟩ => by subst he; subst hw'; exact h
theorem wpAnyH_quiet0 {i : Nat} {oi : Oper} {v : Value} (hi : ops[i]? = some oi) (hsel : ∀ (j : Nat) (o : Oper) cs b, ops[j]? = some o → o.op ≠ .select cs b) (hQ : ∀ c a w, Q (.panic c) (a.put oi.dst v) w → Q (.panic c) a w) :
    ∀ (fuel : Nat) (listed : Array Bool) (a : Act) (w : World), (∀ j oj, ops[j]? = some oj → j ≠ i → listed.getD j true = false → (∀ e ∈ oj.after, Region.binds md e = true → e.on ≠ i) → oi.apart ops oj = true) →
      i ∈ Region.ready md ops listed → QuietAt P ops S oi v a → S w → wpAnyH P md ops Q S fuel (listed.setIfInBounds i true) (a.put oi.dst v) w → wpAnyH P md ops Q S (fuel + 1) listed a w := by
  intro fuel
  induction fuel with
  | zero =>
    intro listed a w _ hr hy hS H
    refine ⟨fun h => by rw [h] at hr; (cases hr), fun j hj => ?_⟩
    by_cases e : j = i
    · subst e; exact hy.run hi hS ⟨hS, H⟩
    · have hj' := ready_mono hj e
      rw [H.1] at hj'; cases hj'
  | succ fuel ih =>
    intro listed a w hfree hr hy hS H
    refine ⟨fun h => by rw [h] at hr; (cases hr), fun j hj => ?_⟩
    by_cases e : j = i
    · subst e; exact hy.run hi hS ⟨hS, H⟩
    obtain ⟨hun, oj, hoj, hall⟩ := mem_ready.1 hj
    have hno : ∀ e ∈ oj.after, Region.binds md e = true → e.on ≠ i := fun x hx hb he => by
      have h1 := hall x hx hb
      have h0 := (mem_ready.1 hr).1
      rw [he] at h1
      rcases Nat.lt_or_ge i listed.size with hlt | hge
      · simp [hlt] at h0 h1; rw [h0] at h1; cases h1
      · simp [Array.getElem?_eq_none hge] at h1
    have hap := hfree j oj hoj e hun hno
    obtain ⟨_, _, h3⟩ := Oper.apart_spec hap
    have h1 := wpOp_putIf (S := fun _ => False) hoj hap (fun cs b => hsel i oi cs b hi) (fun cs b => hsel j oj cs b hoj) hQ (.inl ⟨hy.1, fun _ h => h.elim⟩) (H.2 j (ready_mono hj e))
    refine wpOp_mono (fun a' w' h => ?_) (wpOp_shape hoj h1)
    obtain ⟨⟨u, hu⟩, _, hS', hW⟩ := h
    have hq : QuietAt P ops S oi v a' := by
      unfold QuietAt at hy ⊢
      rw [hu, wanted_put oi a oj.dst u h3, eval_of_tmps hu, execOp_put oi (fun cs b => hsel i oi cs b hi) a oj.dst u h3]
      exact hy
    refine ⟨hS', ih (listed.setIfInBounds j true) a' w' (fun k ok hk hki hku hkn => hfree k ok hk hki ?_ hkn) (ready_mono hr (Ne.symm e)) hq hS' ?_⟩
    · by_cases hjk : j = k
      · subst hjk; exact hun
      · rw [getD_set_ne true hjk] at hku; exact hku
    · rw [Array.setIfInBounds_comm _ _ e]; exact hW
/-- Take a quiet call first. -/
theorem wpAnyH_quiet {i : Nat} {oi : Oper} {v : Value} {fuel : Nat} {listed : Array Bool} {a : Act} {w : World} (hi : ops[i]? = some oi) (hs : Region.noSelect ops = true) (hf : Region.free md ops listed i = true) (hr : (Region.ready md ops listed).contains i = true)
    (hQ : ∀ c a w, Q (.panic c) (a.put oi.dst v) w → Q (.panic c) a w) (hy : QuietAt P ops S oi v a) (hS : S w) (h : wpAnyH P md ops Q S fuel (listed.setIfInBounds i true) (a.put oi.dst v) w) : wpAnyH P md ops Q S (fuel + 1) listed a w :=
  wpAnyH_quiet0 hi (Region.noSelect_spec hs) hQ fuel listed a w (Region.free_spec hi hf) (by simpa using hr) hy hS h
end
open Go.ChangeShapes Go.WideShapes Go.ChangeAt Go.RowKit
theorem wpAnyH_mono {P : Program} {md : Region.Mode} {ops : Array Oper} {Q : Exit → Act → World → Prop} {S S' : World → Prop} (hS : ∀ w, S' w → S w) : ∀ (fuel : Nat) (listed : Array Bool) (a : Act) (w : World), wpAnyH P md ops Q S' fuel listed a w → wpAnyH P md ops Q S fuel listed a w
  | 0, _, _, _, h => h
  | fuel + 1, _, _, _, h => ⟨h.1, fun i hi => wpOp_mono (fun a' w' h' => ⟨hS _ h'.1, wpAnyH_mono hS fuel _ a' w' h'.2⟩) (h.2 i hi)⟩
theorem carry_next {W W' : World} {a b : Nat} {o : Obj} (h : W.heap[a]? = some o) (hg : W.grownBy W' (some b)) (hne : a ≠ b) : W'.heap[a]? = some o := (hg.block a (Array.getElem?_eq_some_iff.1 h).1 (fun e => hne (Option.some.inj e))).trans h
theorem carry_alloc {W : World} {a : Nat} {o : Obj} (h : W.heap[a]? = some o) (o' : Obj) : (W.alloc o').heap[a]? = some o := (Lib.alloc_old W o' a (Array.getElem?_eq_some_iff.1 h).1).trans h
theorem heap_at {W : World} {n : Nat} (h : W.heap.size = n) (o : Obj) : (W.alloc o).heap[n]? = some o := by rw [← h]; exact heap_alloc_new W o
end Go.Proofs.Ytpkipdiecnokhaa
namespace Go.Proofs.Ytpkipdiecnokhaa
open Go.ChangeShapes Go.WideShapes Go.ChangeAt Go.RowKit Go.Sort
set_option linter.unusedVariables false
set_option linter.unusedSimpArgs false
set_option maxRecDepth 100000

theorem block_of_range {W : World} {b o : Nat} {cs : List Value} (h : W.rangeAt b o cs) (j : Nat) {v : Value} (hj : cs[j]? = some v) : b < W.heap.size := block_lt_of_cell (h j v hj)
theorem PtA.of_range {W : World} {b o : Nat} {x : It} {i : Int} (h : W.rangeAt b o (penc x i)) (hb : b < W.heap.size) : PtA W ⟨b, o, none⟩ x i :=
  ⟨hb, h 0 _ rfl, h 1 _ rfl, h 2 _ rfl, h 3 _ rfl, h 4 _ rfl, h 5 _ rfl, h 6 _ rfl⟩
theorem Var3.keepG {W W' : World} {b g : Nat} {k id : Int} {t : ByteArray} (h : Var3 W b k t id) (hg : W.grownBy W' (some g)) (hne : b ≠ g) : Var3 W' b k t id := by
  have hb : W'.heap[b]? = W.heap[b]? := hg.block b h.lt (fun e => hne (by injection e))
  exact ⟨by rw [World.cell?_of_block (w := W) (a := ⟨b, 0, none⟩) hb]; exact h.c0, by rw [World.cell?_of_block (w := W) (a := ⟨b, 1, none⟩) hb]; exact h.c1, by rw [World.cell?_of_block (w := W) (a := ⟨b, 2, none⟩) hb]; exact h.c2, Nat.lt_of_lt_of_le h.lt hg.size⟩
set_option maxHeartbeats 12800000 in
theorem dcost_any (x y : It) (w : World) (hx : x.t.size ≤ 1000) (hy : y.t.size ≤ 1000) :
    Calls Try.prog 48 #[.agg #[.int .i64 x.k, .string x.t, .int .i64 x.id], .agg #[.int .i64 y.k, .string y.t, .int .i64 y.id]] w fun e w' => e = .returned (.tuple #[.int .i64 (cO x y), .bool (okP x y)]) ∧ Below w.heap.size w w' := by
  have hn1 := fun W => newpart_any x 0 W hx
  have hn2 := fun W => newpart_any y 0 W hy
  have hv1 := (Var3.newT w x.k x.t x.id).alloc (.cells #[.int .i64 y.k, .string y.t, .int .i64 y.id] 57)
  have hv2 := Var3.newT (w.alloc (.cells #[.int .i64 x.k, .string x.t, .int .i64 x.id] 57)) y.k y.t y.id
  rw [show (w.alloc (.cells #[.int .i64 x.k, .string x.t, .int .i64 x.id] 57)).heap.size = w.heap.size + 1 by simp] at hv2
  have hb0 : Below w.heap.size w ((w.alloc (.cells #[.int .i64 x.k, .string x.t, .int .i64 x.id] 57)).alloc (.cells #[.int .i64 y.k, .string y.t, .int .i64 y.id] 57)) := blw (blw (Below.refl _ _) _) _
  have sz0 : w.heap.size + 2 = ((w.alloc (.cells #[.int .i64 x.k, .string x.t, .int .i64 x.id] 57)).alloc (.cells #[.int .i64 y.k, .string y.t, .int .i64 y.id] 57)).heap.size := by simp
  have HN1 := Lib.hid hn1; have HN2 := Lib.hid hn2
  clear hn1 hn2
  go_enter Try.func48, Try.ntmps48
  go_wp2_with fail
  generalize ((w.alloc (.cells #[.int .i64 x.k, .string x.t, .int .i64 x.id] 57)).alloc (.cells #[.int .i64 y.k, .string y.t, .int .i64 y.id] 57)) = W at *
  refine wp_region_held_drew (S := fun W => Var3 W w.heap.size x.k x.t x.id ∧ Var3 W (w.heap.size + 1) y.k y.t y.id) (by kernel_rfl) (⟨hv1.drew, hv2.drew⟩) (fun hHeld => ?_)
  have hB := hb0.drew; replace hv1 := hv1.drew; replace hv2 := hv2.drew
  have hsz : w.heap.size + 2 ≤ W.drew.heap.size := Nat.le_of_eq sz0
  generalize W.drew = v0 at *
  refine wpAnyH_take (i := 0) (v := ?_) rfl (by kernel_rfl) (by kernel_rfl) (by kernel_rfl) (fun _ _ _ h => h) (Or.inl ⟨by rfl, ?_⟩) hHeld ?_
  rotate_left
  · (intro w hSw; obtain ⟨⟨c0, c1, c2, _⟩, _⟩ := hSw; go_simp; try with_reducible rfl)
  try simp only [Act.put, List.getElem_toArray, List.getElem_cons_zero, List.getElem_cons_succ, List.setIfInBounds_toArray, List.set_cons_zero, List.set_cons_succ]
  refine wpAnyH_take (i := 2) (v := ?_) rfl (by kernel_rfl) (by kernel_rfl) (by kernel_rfl) (fun _ _ _ h => h) (Or.inl ⟨by rfl, ?_⟩) hHeld ?_
  rotate_left
  · (intro w hSw; obtain ⟨_, ⟨c0, c1, c2, _⟩⟩ := hSw; go_simp; try with_reducible rfl)
  try simp only [Act.put, List.getElem_toArray, List.getElem_cons_zero, List.getElem_cons_succ, List.setIfInBounds_toArray, List.set_cons_zero, List.set_cons_succ]
  refine wpAnyH_ready (rs := [1, 4, 5]) (by kernel_rfl) (by simp) ?_
  refine AllReadyH.cons rfl (fun K hK => ?_) (AllReadyH.cons rfl (fun K hK => ?_) (AllReadyH.cons rfl (fun K hK => ?_) (AllReadyH.nil)))
  · skip
    go_simp
    refine (HN1.out v0).mono ?_; rintro e v1 ⟨rfl, hb⟩
    replace hv1 := hv1.call hb; replace hv2 := hv2.call hb; replace hB := BelowOn hB hb; replace hsz := Nat.le_trans hsz hb.size
    go_wp2_with fail
    refine hK.out _ _ ⟨hv1, hv2⟩ (fun hHeld => ?_)
    clear hK K hb
    try simp only [Act.put, List.getElem_toArray, List.getElem_cons_zero, List.getElem_cons_succ, List.setIfInBounds_toArray, List.set_cons_zero, List.set_cons_succ]
    refine wpAnyH_ready (rs := [3, 4, 5]) (by kernel_rfl) (by simp) ?_
    refine AllReadyH.cons rfl (fun K hK => ?_) (AllReadyH.cons rfl (fun K hK => ?_) (AllReadyH.cons rfl (fun K hK => ?_) (AllReadyH.nil)))
    · skip
      go_simp
      refine (HN2.out v1).mono ?_; rintro e v2 ⟨rfl, hb⟩
      replace hv1 := hv1.call hb; replace hv2 := hv2.call hb; replace hB := BelowOn hB hb; replace hsz := Nat.le_trans hsz hb.size
      go_wp2_with fail
      refine hK.out _ _ ⟨hv1, hv2⟩ (fun hHeld => ?_)
      clear hK K hb
      try simp only [Act.put, List.getElem_toArray, List.getElem_cons_zero, List.getElem_cons_succ, List.setIfInBounds_toArray, List.set_cons_zero, List.set_cons_succ]
      refine wpAnyH_ready (rs := [4, 5]) (by kernel_rfl) (by simp) ?_
      refine AllReadyH.cons rfl (fun K hK => ?_) (AllReadyH.cons rfl (fun K hK => ?_) (AllReadyH.nil))
      · skip
        have hA := heap_alloc_new v2 (.cells #[.int .i64 0, .string ⟨#[]⟩, .int .i64 0, .int .i64 0, .int .i64 0, .int .i64 0, .string ⟨#[]⟩] 92)
        have hb := (Below.refl v2.heap.size v2).alloc (Nat.le_refl _) (.cells #[.int .i64 0, .string ⟨#[]⟩, .int .i64 0, .int .i64 0, .int .i64 0, .int .i64 0, .string ⟨#[]⟩] 92)
        have g0hA : w.heap.size + 2 ≤ v2.heap.size := hsz
        replace hv1 := hv1.call hb; replace hv2 := hv2.call hb; replace hB := BelowOn hB hb; replace hsz := Nat.le_trans hsz hb.size
        go_simp
        refine hK.out _ _ ⟨hv1, hv2⟩ (fun hHeld => ?_)
        clear hK K hb
        try simp only [Act.put, List.getElem_toArray, List.getElem_cons_zero, List.getElem_cons_succ, List.setIfInBounds_toArray, List.set_cons_zero, List.set_cons_succ]
        generalize v2.alloc (.cells #[.int .i64 0, .string ⟨#[]⟩, .int .i64 0, .int .i64 0, .int .i64 0, .int .i64 0, .string ⟨#[]⟩] 92) = v3 at *
        generalize v2.heap.size = ghA at *
        refine wpAnyH_ready (rs := [5]) (by kernel_rfl) (by simp) ?_
        refine AllReadyH.cons rfl (fun K hK => ?_) (AllReadyH.nil)
        · skip
          have hC := heap_alloc_new v3 (.cells #[.int .i64 0, .string ⟨#[]⟩, .int .i64 0, .int .i64 0, .int .i64 0, .int .i64 0, .string ⟨#[]⟩] 92)
          have hb := (Below.refl v3.heap.size v3).alloc (Nat.le_refl _) (.cells #[.int .i64 0, .string ⟨#[]⟩, .int .i64 0, .int .i64 0, .int .i64 0, .int .i64 0, .string ⟨#[]⟩] 92)
          have g0hC : w.heap.size + 2 ≤ v3.heap.size := hsz
          have ne : ghA ≠ v3.heap.size := Nat.ne_of_lt (heap_lt hA)
          replace hA := keep_heap hA hb
          replace hv1 := hv1.call hb; replace hv2 := hv2.call hb; replace hB := BelowOn hB hb; replace hsz := Nat.le_trans hsz hb.size
          go_simp
          refine hK.out _ _ ⟨hv1, hv2⟩ (fun hHeld => ?_)
          clear hK K hb
          try simp only [Act.put, List.getElem_toArray, List.getElem_cons_zero, List.getElem_cons_succ, List.setIfInBounds_toArray, List.set_cons_zero, List.set_cons_succ]
          generalize v3.alloc (.cells #[.int .i64 0, .string ⟨#[]⟩, .int .i64 0, .int .i64 0, .int .i64 0, .int .i64 0, .string ⟨#[]⟩] 92) = v4 at *
          generalize v3.heap.size = ghC at *
          refine wpAnyH_ready (rs := [6]) (by kernel_rfl) (by simp) ?_
          refine AllReadyH.cons rfl (fun K hK => ?_) AllReadyH.nil
          clear hHeld
          have neAC : ghA ≠ ghC := by first | exact ne | exact Ne.symm ne
          have s1 := World.rangeAt_setCells_same v4 ghA 0 (penc x 0) (there_of hA (Nat.le_refl 7))
          have k1 := setCells_grown (penc x 0) v4 ghA 0
          have hC2 : (v4.setCells ghA 0 (penc x 0)).heap[ghC]? = _ := (k1.block ghC (heap_lt hC) (fun e => neAC (by injection e with e; exact e.symm))).trans hC
          have hB1 := below_of_grow hB k1 hB.size (by omega)
          replace hv1 := hv1.keepG k1 (by omega); replace hv2 := hv2.keepG k1 (by omega)
          refine step_store_mid rfl 92 _ _ rfl ghA 0 (penc x 0).toArray (by rfl) (by rfl) (there_of hA (Nat.le_refl 7)) size62 (penc_one _ _) ?_
          refine hK.out _ _ ⟨hv1, hv2⟩ (fun hHeld => ?_)
          clear hK K k1
          have e1 : (penc x 0).toArray.toList = penc x 0 := rfl
          rw [e1]
          generalize v4.setCells ghA 0 (penc x 0) = u1 at *
          try simp only [Act.put, List.getElem_toArray, List.getElem_cons_zero, List.getElem_cons_succ, List.setIfInBounds_toArray, List.set_cons_zero, List.set_cons_succ]
          refine wpAnyH_ready (rs := [7]) (by kernel_rfl) (by simp) ?_
          refine AllReadyH.cons rfl (fun K hK => ?_) AllReadyH.nil
          have s2 := World.rangeAt_setCells_same u1 ghC 0 (penc y 0) (there_of hC2 (Nat.le_refl 7))
          have k1 := setCells_grown (penc y 0) u1 ghC 0
          replace s1 := World.rangeAt_setCells_apart s1 ghC 0 (penc y 0) (.inl neAC)
          have hB2 := below_of_grow hB1 k1 hB1.size (by omega)
          replace hv1 := hv1.keepG k1 (by omega); replace hv2 := hv2.keepG k1 (by omega)
          refine step_store_mid rfl 92 _ _ rfl ghC 0 (penc y 0).toArray (by rfl) (by rfl) (there_of hC2 (Nat.le_refl 7)) size62 (penc_one _ _) ?_
          refine hK.out _ _ ⟨hv1, hv2⟩ (fun hHeld => ?_)
          clear hK K
          have e2 : (penc y 0).toArray.toList = penc y 0 := rfl
          rw [e2]
          have lA := block_of_range s1 0 rfl; have lC := block_of_range s2 0 rfl
          generalize u1.setCells ghC 0 (penc y 0) = u2 at *
          try simp only [Act.put, List.getElem_toArray, List.getElem_cons_zero, List.getElem_cons_succ, List.setIfInBounds_toArray, List.set_cons_zero, List.set_cons_succ]
          refine wpAnyH_done (by kernel_rfl) ?_ _
          have hP := fun H1 H2 => partcost_any x y ghA 0 ghC 0 0 0 u2 H1 H2
          have HP := Lib.hid (hP (PtA.of_range s1 lA) (PtA.of_range s2 lC)); clear hP s1 s2
          go_wp2_with fail
          refine HP.out.mono ?_; rintro e u3 ⟨rfl, hb⟩
          have hB3 := BelowOn hB2 hb
          clear hv1 hv2 hHeld HP hb hA hC hC2
          go_wp2_with fail
          go_ret2
          exact ⟨rfl, hB3⟩
      · skip
        have hC := heap_alloc_new v2 (.cells #[.int .i64 0, .string ⟨#[]⟩, .int .i64 0, .int .i64 0, .int .i64 0, .int .i64 0, .string ⟨#[]⟩] 92)
        have hb := (Below.refl v2.heap.size v2).alloc (Nat.le_refl _) (.cells #[.int .i64 0, .string ⟨#[]⟩, .int .i64 0, .int .i64 0, .int .i64 0, .int .i64 0, .string ⟨#[]⟩] 92)
        have g0hC : w.heap.size + 2 ≤ v2.heap.size := hsz
        replace hv1 := hv1.call hb; replace hv2 := hv2.call hb; replace hB := BelowOn hB hb; replace hsz := Nat.le_trans hsz hb.size
        go_simp
        refine hK.out _ _ ⟨hv1, hv2⟩ (fun hHeld => ?_)
        clear hK K hb
        try simp only [Act.put, List.getElem_toArray, List.getElem_cons_zero, List.getElem_cons_succ, List.setIfInBounds_toArray, List.set_cons_zero, List.set_cons_succ]
        generalize v2.alloc (.cells #[.int .i64 0, .string ⟨#[]⟩, .int .i64 0, .int .i64 0, .int .i64 0, .int .i64 0, .string ⟨#[]⟩] 92) = v5 at *
        generalize v2.heap.size = ghC at *
        refine wpAnyH_ready (rs := [4]) (by kernel_rfl) (by simp) ?_
        refine AllReadyH.cons rfl (fun K hK => ?_) (AllReadyH.nil)
        · skip
          have hA := heap_alloc_new v5 (.cells #[.int .i64 0, .string ⟨#[]⟩, .int .i64 0, .int .i64 0, .int .i64 0, .int .i64 0, .string ⟨#[]⟩] 92)
          have hb := (Below.refl v5.heap.size v5).alloc (Nat.le_refl _) (.cells #[.int .i64 0, .string ⟨#[]⟩, .int .i64 0, .int .i64 0, .int .i64 0, .int .i64 0, .string ⟨#[]⟩] 92)
          have g0hA : w.heap.size + 2 ≤ v5.heap.size := hsz
          have ne : ghC ≠ v5.heap.size := Nat.ne_of_lt (heap_lt hC)
          replace hC := keep_heap hC hb
          replace hv1 := hv1.call hb; replace hv2 := hv2.call hb; replace hB := BelowOn hB hb; replace hsz := Nat.le_trans hsz hb.size
          go_simp
          refine hK.out _ _ ⟨hv1, hv2⟩ (fun hHeld => ?_)
          clear hK K hb
          try simp only [Act.put, List.getElem_toArray, List.getElem_cons_zero, List.getElem_cons_succ, List.setIfInBounds_toArray, List.set_cons_zero, List.set_cons_succ]
          generalize v5.alloc (.cells #[.int .i64 0, .string ⟨#[]⟩, .int .i64 0, .int .i64 0, .int .i64 0, .int .i64 0, .string ⟨#[]⟩] 92) = v6 at *
          generalize v5.heap.size = ghA at *
          refine wpAnyH_ready (rs := [6]) (by kernel_rfl) (by simp) ?_
          refine AllReadyH.cons rfl (fun K hK => ?_) AllReadyH.nil
          clear hHeld
          have neAC : ghA ≠ ghC := by first | exact ne | exact Ne.symm ne
          have s1 := World.rangeAt_setCells_same v6 ghA 0 (penc x 0) (there_of hA (Nat.le_refl 7))
          have k1 := setCells_grown (penc x 0) v6 ghA 0
          have hC2 : (v6.setCells ghA 0 (penc x 0)).heap[ghC]? = _ := (k1.block ghC (heap_lt hC) (fun e => neAC (by injection e with e; exact e.symm))).trans hC
          have hB1 := below_of_grow hB k1 hB.size (by omega)
          replace hv1 := hv1.keepG k1 (by omega); replace hv2 := hv2.keepG k1 (by omega)
          refine step_store_mid rfl 92 _ _ rfl ghA 0 (penc x 0).toArray (by rfl) (by rfl) (there_of hA (Nat.le_refl 7)) size62 (penc_one _ _) ?_
          refine hK.out _ _ ⟨hv1, hv2⟩ (fun hHeld => ?_)
          clear hK K k1
          have e1 : (penc x 0).toArray.toList = penc x 0 := rfl
          rw [e1]
          generalize v6.setCells ghA 0 (penc x 0) = u1 at *
          try simp only [Act.put, List.getElem_toArray, List.getElem_cons_zero, List.getElem_cons_succ, List.setIfInBounds_toArray, List.set_cons_zero, List.set_cons_succ]
          refine wpAnyH_ready (rs := [7]) (by kernel_rfl) (by simp) ?_
          refine AllReadyH.cons rfl (fun K hK => ?_) AllReadyH.nil
          have s2 := World.rangeAt_setCells_same u1 ghC 0 (penc y 0) (there_of hC2 (Nat.le_refl 7))
          have k1 := setCells_grown (penc y 0) u1 ghC 0
          replace s1 := World.rangeAt_setCells_apart s1 ghC 0 (penc y 0) (.inl neAC)
          have hB2 := below_of_grow hB1 k1 hB1.size (by omega)
          replace hv1 := hv1.keepG k1 (by omega); replace hv2 := hv2.keepG k1 (by omega)
          refine step_store_mid rfl 92 _ _ rfl ghC 0 (penc y 0).toArray (by rfl) (by rfl) (there_of hC2 (Nat.le_refl 7)) size62 (penc_one _ _) ?_
          refine hK.out _ _ ⟨hv1, hv2⟩ (fun hHeld => ?_)
          clear hK K
          have e2 : (penc y 0).toArray.toList = penc y 0 := rfl
          rw [e2]
          have lA := block_of_range s1 0 rfl; have lC := block_of_range s2 0 rfl
          generalize u1.setCells ghC 0 (penc y 0) = u2 at *
          try simp only [Act.put, List.getElem_toArray, List.getElem_cons_zero, List.getElem_cons_succ, List.setIfInBounds_toArray, List.set_cons_zero, List.set_cons_succ]
          refine wpAnyH_done (by kernel_rfl) ?_ _
          have hP := fun H1 H2 => partcost_any x y ghA 0 ghC 0 0 0 u2 H1 H2
          have HP := Lib.hid (hP (PtA.of_range s1 lA) (PtA.of_range s2 lC)); clear hP s1 s2
          go_wp2_with fail
          refine HP.out.mono ?_; rintro e u3 ⟨rfl, hb⟩
          have hB3 := BelowOn hB2 hb
          clear hv1 hv2 hHeld HP hb hA hC hC2
          go_wp2_with fail
          go_ret2
          exact ⟨rfl, hB3⟩
    · skip
      have hA := heap_alloc_new v1 (.cells #[.int .i64 0, .string ⟨#[]⟩, .int .i64 0, .int .i64 0, .int .i64 0, .int .i64 0, .string ⟨#[]⟩] 92)
      have hb := (Below.refl v1.heap.size v1).alloc (Nat.le_refl _) (.cells #[.int .i64 0, .string ⟨#[]⟩, .int .i64 0, .int .i64 0, .int .i64 0, .int .i64 0, .string ⟨#[]⟩] 92)
      have g0hA : w.heap.size + 2 ≤ v1.heap.size := hsz
      replace hv1 := hv1.call hb; replace hv2 := hv2.call hb; replace hB := BelowOn hB hb; replace hsz := Nat.le_trans hsz hb.size
      go_simp
      refine hK.out _ _ ⟨hv1, hv2⟩ (fun hHeld => ?_)
      clear hK K hb
      try simp only [Act.put, List.getElem_toArray, List.getElem_cons_zero, List.getElem_cons_succ, List.setIfInBounds_toArray, List.set_cons_zero, List.set_cons_succ]
      generalize v1.alloc (.cells #[.int .i64 0, .string ⟨#[]⟩, .int .i64 0, .int .i64 0, .int .i64 0, .int .i64 0, .string ⟨#[]⟩] 92) = v7 at *
      generalize v1.heap.size = ghA at *
      refine wpAnyH_ready (rs := [3, 5]) (by kernel_rfl) (by simp) ?_
      refine AllReadyH.cons rfl (fun K hK => ?_) (AllReadyH.cons rfl (fun K hK => ?_) (AllReadyH.nil))
      · skip
        go_simp
        refine (HN2.out v7).mono ?_; rintro e v8 ⟨rfl, hb⟩
        replace hA := keep_heap hA hb
        replace hv1 := hv1.call hb; replace hv2 := hv2.call hb; replace hB := BelowOn hB hb; replace hsz := Nat.le_trans hsz hb.size
        go_wp2_with fail
        refine hK.out _ _ ⟨hv1, hv2⟩ (fun hHeld => ?_)
        clear hK K hb
        try simp only [Act.put, List.getElem_toArray, List.getElem_cons_zero, List.getElem_cons_succ, List.setIfInBounds_toArray, List.set_cons_zero, List.set_cons_succ]
        refine wpAnyH_ready (rs := [5]) (by kernel_rfl) (by simp) ?_
        refine AllReadyH.cons rfl (fun K hK => ?_) (AllReadyH.nil)
        · skip
          have hC := heap_alloc_new v8 (.cells #[.int .i64 0, .string ⟨#[]⟩, .int .i64 0, .int .i64 0, .int .i64 0, .int .i64 0, .string ⟨#[]⟩] 92)
          have hb := (Below.refl v8.heap.size v8).alloc (Nat.le_refl _) (.cells #[.int .i64 0, .string ⟨#[]⟩, .int .i64 0, .int .i64 0, .int .i64 0, .int .i64 0, .string ⟨#[]⟩] 92)
          have g0hC : w.heap.size + 2 ≤ v8.heap.size := hsz
          have ne : ghA ≠ v8.heap.size := Nat.ne_of_lt (heap_lt hA)
          replace hA := keep_heap hA hb
          replace hv1 := hv1.call hb; replace hv2 := hv2.call hb; replace hB := BelowOn hB hb; replace hsz := Nat.le_trans hsz hb.size
          go_simp
          refine hK.out _ _ ⟨hv1, hv2⟩ (fun hHeld => ?_)
          clear hK K hb
          try simp only [Act.put, List.getElem_toArray, List.getElem_cons_zero, List.getElem_cons_succ, List.setIfInBounds_toArray, List.set_cons_zero, List.set_cons_succ]
          generalize v8.alloc (.cells #[.int .i64 0, .string ⟨#[]⟩, .int .i64 0, .int .i64 0, .int .i64 0, .int .i64 0, .string ⟨#[]⟩] 92) = v9 at *
          generalize v8.heap.size = ghC at *
          refine wpAnyH_ready (rs := [6]) (by kernel_rfl) (by simp) ?_
          refine AllReadyH.cons rfl (fun K hK => ?_) AllReadyH.nil
          clear hHeld
          have neAC : ghA ≠ ghC := by first | exact ne | exact Ne.symm ne
          have s1 := World.rangeAt_setCells_same v9 ghA 0 (penc x 0) (there_of hA (Nat.le_refl 7))
          have k1 := setCells_grown (penc x 0) v9 ghA 0
          have hC2 : (v9.setCells ghA 0 (penc x 0)).heap[ghC]? = _ := (k1.block ghC (heap_lt hC) (fun e => neAC (by injection e with e; exact e.symm))).trans hC
          have hB1 := below_of_grow hB k1 hB.size (by omega)
          replace hv1 := hv1.keepG k1 (by omega); replace hv2 := hv2.keepG k1 (by omega)
          refine step_store_mid rfl 92 _ _ rfl ghA 0 (penc x 0).toArray (by rfl) (by rfl) (there_of hA (Nat.le_refl 7)) size62 (penc_one _ _) ?_
          refine hK.out _ _ ⟨hv1, hv2⟩ (fun hHeld => ?_)
          clear hK K k1
          have e1 : (penc x 0).toArray.toList = penc x 0 := rfl
          rw [e1]
          generalize v9.setCells ghA 0 (penc x 0) = u1 at *
          try simp only [Act.put, List.getElem_toArray, List.getElem_cons_zero, List.getElem_cons_succ, List.setIfInBounds_toArray, List.set_cons_zero, List.set_cons_succ]
          refine wpAnyH_ready (rs := [7]) (by kernel_rfl) (by simp) ?_
          refine AllReadyH.cons rfl (fun K hK => ?_) AllReadyH.nil
          have s2 := World.rangeAt_setCells_same u1 ghC 0 (penc y 0) (there_of hC2 (Nat.le_refl 7))
          have k1 := setCells_grown (penc y 0) u1 ghC 0
          replace s1 := World.rangeAt_setCells_apart s1 ghC 0 (penc y 0) (.inl neAC)
          have hB2 := below_of_grow hB1 k1 hB1.size (by omega)
          replace hv1 := hv1.keepG k1 (by omega); replace hv2 := hv2.keepG k1 (by omega)
          refine step_store_mid rfl 92 _ _ rfl ghC 0 (penc y 0).toArray (by rfl) (by rfl) (there_of hC2 (Nat.le_refl 7)) size62 (penc_one _ _) ?_
          refine hK.out _ _ ⟨hv1, hv2⟩ (fun hHeld => ?_)
          clear hK K
          have e2 : (penc y 0).toArray.toList = penc y 0 := rfl
          rw [e2]
          have lA := block_of_range s1 0 rfl; have lC := block_of_range s2 0 rfl
          generalize u1.setCells ghC 0 (penc y 0) = u2 at *
          try simp only [Act.put, List.getElem_toArray, List.getElem_cons_zero, List.getElem_cons_succ, List.setIfInBounds_toArray, List.set_cons_zero, List.set_cons_succ]
          refine wpAnyH_done (by kernel_rfl) ?_ _
          have hP := fun H1 H2 => partcost_any x y ghA 0 ghC 0 0 0 u2 H1 H2
          have HP := Lib.hid (hP (PtA.of_range s1 lA) (PtA.of_range s2 lC)); clear hP s1 s2
          go_wp2_with fail
          refine HP.out.mono ?_; rintro e u3 ⟨rfl, hb⟩
          have hB3 := BelowOn hB2 hb
          clear hv1 hv2 hHeld HP hb hA hC hC2
          go_wp2_with fail
          go_ret2
          exact ⟨rfl, hB3⟩
      · skip
        have hC := heap_alloc_new v7 (.cells #[.int .i64 0, .string ⟨#[]⟩, .int .i64 0, .int .i64 0, .int .i64 0, .int .i64 0, .string ⟨#[]⟩] 92)
        have hb := (Below.refl v7.heap.size v7).alloc (Nat.le_refl _) (.cells #[.int .i64 0, .string ⟨#[]⟩, .int .i64 0, .int .i64 0, .int .i64 0, .int .i64 0, .string ⟨#[]⟩] 92)
        have g0hC : w.heap.size + 2 ≤ v7.heap.size := hsz
        have ne : ghA ≠ v7.heap.size := Nat.ne_of_lt (heap_lt hA)
        replace hA := keep_heap hA hb
        replace hv1 := hv1.call hb; replace hv2 := hv2.call hb; replace hB := BelowOn hB hb; replace hsz := Nat.le_trans hsz hb.size
        go_simp
        refine hK.out _ _ ⟨hv1, hv2⟩ (fun hHeld => ?_)
        clear hK K hb
        try simp only [Act.put, List.getElem_toArray, List.getElem_cons_zero, List.getElem_cons_succ, List.setIfInBounds_toArray, List.set_cons_zero, List.set_cons_succ]
        generalize v7.alloc (.cells #[.int .i64 0, .string ⟨#[]⟩, .int .i64 0, .int .i64 0, .int .i64 0, .int .i64 0, .string ⟨#[]⟩] 92) = v10 at *
        generalize v7.heap.size = ghC at *
        refine wpAnyH_ready (rs := [3]) (by kernel_rfl) (by simp) ?_
        refine AllReadyH.cons rfl (fun K hK => ?_) (AllReadyH.nil)
        · skip
          go_simp
          refine (HN2.out v10).mono ?_; rintro e v11 ⟨rfl, hb⟩
          replace hA := keep_heap hA hb
          replace hC := keep_heap hC hb
          replace hv1 := hv1.call hb; replace hv2 := hv2.call hb; replace hB := BelowOn hB hb; replace hsz := Nat.le_trans hsz hb.size
          go_wp2_with fail
          refine hK.out _ _ ⟨hv1, hv2⟩ (fun hHeld => ?_)
          clear hK K hb
          try simp only [Act.put, List.getElem_toArray, List.getElem_cons_zero, List.getElem_cons_succ, List.setIfInBounds_toArray, List.set_cons_zero, List.set_cons_succ]
          refine wpAnyH_ready (rs := [6]) (by kernel_rfl) (by simp) ?_
          refine AllReadyH.cons rfl (fun K hK => ?_) AllReadyH.nil
          clear hHeld
          have neAC : ghA ≠ ghC := by first | exact ne | exact Ne.symm ne
          have s1 := World.rangeAt_setCells_same v11 ghA 0 (penc x 0) (there_of hA (Nat.le_refl 7))
          have k1 := setCells_grown (penc x 0) v11 ghA 0
          have hC2 : (v11.setCells ghA 0 (penc x 0)).heap[ghC]? = _ := (k1.block ghC (heap_lt hC) (fun e => neAC (by injection e with e; exact e.symm))).trans hC
          have hB1 := below_of_grow hB k1 hB.size (by omega)
          replace hv1 := hv1.keepG k1 (by omega); replace hv2 := hv2.keepG k1 (by omega)
          refine step_store_mid rfl 92 _ _ rfl ghA 0 (penc x 0).toArray (by rfl) (by rfl) (there_of hA (Nat.le_refl 7)) size62 (penc_one _ _) ?_
          refine hK.out _ _ ⟨hv1, hv2⟩ (fun hHeld => ?_)
          clear hK K k1
          have e1 : (penc x 0).toArray.toList = penc x 0 := rfl
          rw [e1]
          generalize v11.setCells ghA 0 (penc x 0) = u1 at *
          try simp only [Act.put, List.getElem_toArray, List.getElem_cons_zero, List.getElem_cons_succ, List.setIfInBounds_toArray, List.set_cons_zero, List.set_cons_succ]
          refine wpAnyH_ready (rs := [7]) (by kernel_rfl) (by simp) ?_
          refine AllReadyH.cons rfl (fun K hK => ?_) AllReadyH.nil
          have s2 := World.rangeAt_setCells_same u1 ghC 0 (penc y 0) (there_of hC2 (Nat.le_refl 7))
          have k1 := setCells_grown (penc y 0) u1 ghC 0
          replace s1 := World.rangeAt_setCells_apart s1 ghC 0 (penc y 0) (.inl neAC)
          have hB2 := below_of_grow hB1 k1 hB1.size (by omega)
          replace hv1 := hv1.keepG k1 (by omega); replace hv2 := hv2.keepG k1 (by omega)
          refine step_store_mid rfl 92 _ _ rfl ghC 0 (penc y 0).toArray (by rfl) (by rfl) (there_of hC2 (Nat.le_refl 7)) size62 (penc_one _ _) ?_
          refine hK.out _ _ ⟨hv1, hv2⟩ (fun hHeld => ?_)
          clear hK K
          have e2 : (penc y 0).toArray.toList = penc y 0 := rfl
          rw [e2]
          have lA := block_of_range s1 0 rfl; have lC := block_of_range s2 0 rfl
          generalize u1.setCells ghC 0 (penc y 0) = u2 at *
          try simp only [Act.put, List.getElem_toArray, List.getElem_cons_zero, List.getElem_cons_succ, List.setIfInBounds_toArray, List.set_cons_zero, List.set_cons_succ]
          refine wpAnyH_done (by kernel_rfl) ?_ _
          have hP := fun H1 H2 => partcost_any x y ghA 0 ghC 0 0 0 u2 H1 H2
          have HP := Lib.hid (hP (PtA.of_range s1 lA) (PtA.of_range s2 lC)); clear hP s1 s2
          go_wp2_with fail
          refine HP.out.mono ?_; rintro e u3 ⟨rfl, hb⟩
          have hB3 := BelowOn hB2 hb
          clear hv1 hv2 hHeld HP hb hA hC hC2
          go_wp2_with fail
          go_ret2
          exact ⟨rfl, hB3⟩
    · skip
      have hC := heap_alloc_new v1 (.cells #[.int .i64 0, .string ⟨#[]⟩, .int .i64 0, .int .i64 0, .int .i64 0, .int .i64 0, .string ⟨#[]⟩] 92)
      have hb := (Below.refl v1.heap.size v1).alloc (Nat.le_refl _) (.cells #[.int .i64 0, .string ⟨#[]⟩, .int .i64 0, .int .i64 0, .int .i64 0, .int .i64 0, .string ⟨#[]⟩] 92)
      have g0hC : w.heap.size + 2 ≤ v1.heap.size := hsz
      replace hv1 := hv1.call hb; replace hv2 := hv2.call hb; replace hB := BelowOn hB hb; replace hsz := Nat.le_trans hsz hb.size
      go_simp
      refine hK.out _ _ ⟨hv1, hv2⟩ (fun hHeld => ?_)
      clear hK K hb
      try simp only [Act.put, List.getElem_toArray, List.getElem_cons_zero, List.getElem_cons_succ, List.setIfInBounds_toArray, List.set_cons_zero, List.set_cons_succ]
      generalize v1.alloc (.cells #[.int .i64 0, .string ⟨#[]⟩, .int .i64 0, .int .i64 0, .int .i64 0, .int .i64 0, .string ⟨#[]⟩] 92) = v12 at *
      generalize v1.heap.size = ghC at *
      refine wpAnyH_ready (rs := [3, 4]) (by kernel_rfl) (by simp) ?_
      refine AllReadyH.cons rfl (fun K hK => ?_) (AllReadyH.cons rfl (fun K hK => ?_) (AllReadyH.nil))
      · skip
        go_simp
        refine (HN2.out v12).mono ?_; rintro e v13 ⟨rfl, hb⟩
        replace hC := keep_heap hC hb
        replace hv1 := hv1.call hb; replace hv2 := hv2.call hb; replace hB := BelowOn hB hb; replace hsz := Nat.le_trans hsz hb.size
        go_wp2_with fail
        refine hK.out _ _ ⟨hv1, hv2⟩ (fun hHeld => ?_)
        clear hK K hb
        try simp only [Act.put, List.getElem_toArray, List.getElem_cons_zero, List.getElem_cons_succ, List.setIfInBounds_toArray, List.set_cons_zero, List.set_cons_succ]
        refine wpAnyH_ready (rs := [4]) (by kernel_rfl) (by simp) ?_
        refine AllReadyH.cons rfl (fun K hK => ?_) (AllReadyH.nil)
        · skip
          have hA := heap_alloc_new v13 (.cells #[.int .i64 0, .string ⟨#[]⟩, .int .i64 0, .int .i64 0, .int .i64 0, .int .i64 0, .string ⟨#[]⟩] 92)
          have hb := (Below.refl v13.heap.size v13).alloc (Nat.le_refl _) (.cells #[.int .i64 0, .string ⟨#[]⟩, .int .i64 0, .int .i64 0, .int .i64 0, .int .i64 0, .string ⟨#[]⟩] 92)
          have g0hA : w.heap.size + 2 ≤ v13.heap.size := hsz
          have ne : ghC ≠ v13.heap.size := Nat.ne_of_lt (heap_lt hC)
          replace hC := keep_heap hC hb
          replace hv1 := hv1.call hb; replace hv2 := hv2.call hb; replace hB := BelowOn hB hb; replace hsz := Nat.le_trans hsz hb.size
          go_simp
          refine hK.out _ _ ⟨hv1, hv2⟩ (fun hHeld => ?_)
          clear hK K hb
          try simp only [Act.put, List.getElem_toArray, List.getElem_cons_zero, List.getElem_cons_succ, List.setIfInBounds_toArray, List.set_cons_zero, List.set_cons_succ]
          generalize v13.alloc (.cells #[.int .i64 0, .string ⟨#[]⟩, .int .i64 0, .int .i64 0, .int .i64 0, .int .i64 0, .string ⟨#[]⟩] 92) = v14 at *
          generalize v13.heap.size = ghA at *
          refine wpAnyH_ready (rs := [6]) (by kernel_rfl) (by simp) ?_
          refine AllReadyH.cons rfl (fun K hK => ?_) AllReadyH.nil
          clear hHeld
          have neAC : ghA ≠ ghC := by first | exact ne | exact Ne.symm ne
          have s1 := World.rangeAt_setCells_same v14 ghA 0 (penc x 0) (there_of hA (Nat.le_refl 7))
          have k1 := setCells_grown (penc x 0) v14 ghA 0
          have hC2 : (v14.setCells ghA 0 (penc x 0)).heap[ghC]? = _ := (k1.block ghC (heap_lt hC) (fun e => neAC (by injection e with e; exact e.symm))).trans hC
          have hB1 := below_of_grow hB k1 hB.size (by omega)
          replace hv1 := hv1.keepG k1 (by omega); replace hv2 := hv2.keepG k1 (by omega)
          refine step_store_mid rfl 92 _ _ rfl ghA 0 (penc x 0).toArray (by rfl) (by rfl) (there_of hA (Nat.le_refl 7)) size62 (penc_one _ _) ?_
          refine hK.out _ _ ⟨hv1, hv2⟩ (fun hHeld => ?_)
          clear hK K k1
          have e1 : (penc x 0).toArray.toList = penc x 0 := rfl
          rw [e1]
          generalize v14.setCells ghA 0 (penc x 0) = u1 at *
          try simp only [Act.put, List.getElem_toArray, List.getElem_cons_zero, List.getElem_cons_succ, List.setIfInBounds_toArray, List.set_cons_zero, List.set_cons_succ]
          refine wpAnyH_ready (rs := [7]) (by kernel_rfl) (by simp) ?_
          refine AllReadyH.cons rfl (fun K hK => ?_) AllReadyH.nil
          have s2 := World.rangeAt_setCells_same u1 ghC 0 (penc y 0) (there_of hC2 (Nat.le_refl 7))
          have k1 := setCells_grown (penc y 0) u1 ghC 0
          replace s1 := World.rangeAt_setCells_apart s1 ghC 0 (penc y 0) (.inl neAC)
          have hB2 := below_of_grow hB1 k1 hB1.size (by omega)
          replace hv1 := hv1.keepG k1 (by omega); replace hv2 := hv2.keepG k1 (by omega)
          refine step_store_mid rfl 92 _ _ rfl ghC 0 (penc y 0).toArray (by rfl) (by rfl) (there_of hC2 (Nat.le_refl 7)) size62 (penc_one _ _) ?_
          refine hK.out _ _ ⟨hv1, hv2⟩ (fun hHeld => ?_)
          clear hK K
          have e2 : (penc y 0).toArray.toList = penc y 0 := rfl
          rw [e2]
          have lA := block_of_range s1 0 rfl; have lC := block_of_range s2 0 rfl
          generalize u1.setCells ghC 0 (penc y 0) = u2 at *
          try simp only [Act.put, List.getElem_toArray, List.getElem_cons_zero, List.getElem_cons_succ, List.setIfInBounds_toArray, List.set_cons_zero, List.set_cons_succ]
          refine wpAnyH_done (by kernel_rfl) ?_ _
          have hP := fun H1 H2 => partcost_any x y ghA 0 ghC 0 0 0 u2 H1 H2
          have HP := Lib.hid (hP (PtA.of_range s1 lA) (PtA.of_range s2 lC)); clear hP s1 s2
          go_wp2_with fail
          refine HP.out.mono ?_; rintro e u3 ⟨rfl, hb⟩
          have hB3 := BelowOn hB2 hb
          clear hv1 hv2 hHeld HP hb hA hC hC2
          go_wp2_with fail
          go_ret2
          exact ⟨rfl, hB3⟩
      · skip
        have hA := heap_alloc_new v12 (.cells #[.int .i64 0, .string ⟨#[]⟩, .int .i64 0, .int .i64 0, .int .i64 0, .int .i64 0, .string ⟨#[]⟩] 92)
        have hb := (Below.refl v12.heap.size v12).alloc (Nat.le_refl _) (.cells #[.int .i64 0, .string ⟨#[]⟩, .int .i64 0, .int .i64 0, .int .i64 0, .int .i64 0, .string ⟨#[]⟩] 92)
        have g0hA : w.heap.size + 2 ≤ v12.heap.size := hsz
        have ne : ghC ≠ v12.heap.size := Nat.ne_of_lt (heap_lt hC)
        replace hC := keep_heap hC hb
        replace hv1 := hv1.call hb; replace hv2 := hv2.call hb; replace hB := BelowOn hB hb; replace hsz := Nat.le_trans hsz hb.size
        go_simp
        refine hK.out _ _ ⟨hv1, hv2⟩ (fun hHeld => ?_)
        clear hK K hb
        try simp only [Act.put, List.getElem_toArray, List.getElem_cons_zero, List.getElem_cons_succ, List.setIfInBounds_toArray, List.set_cons_zero, List.set_cons_succ]
        generalize v12.alloc (.cells #[.int .i64 0, .string ⟨#[]⟩, .int .i64 0, .int .i64 0, .int .i64 0, .int .i64 0, .string ⟨#[]⟩] 92) = v15 at *
        generalize v12.heap.size = ghA at *
        refine wpAnyH_ready (rs := [3]) (by kernel_rfl) (by simp) ?_
        refine AllReadyH.cons rfl (fun K hK => ?_) (AllReadyH.nil)
        · skip
          go_simp
          refine (HN2.out v15).mono ?_; rintro e v16 ⟨rfl, hb⟩
          replace hC := keep_heap hC hb
          replace hA := keep_heap hA hb
          replace hv1 := hv1.call hb; replace hv2 := hv2.call hb; replace hB := BelowOn hB hb; replace hsz := Nat.le_trans hsz hb.size
          go_wp2_with fail
          refine hK.out _ _ ⟨hv1, hv2⟩ (fun hHeld => ?_)
          clear hK K hb
          try simp only [Act.put, List.getElem_toArray, List.getElem_cons_zero, List.getElem_cons_succ, List.setIfInBounds_toArray, List.set_cons_zero, List.set_cons_succ]
          refine wpAnyH_ready (rs := [6]) (by kernel_rfl) (by simp) ?_
          refine AllReadyH.cons rfl (fun K hK => ?_) AllReadyH.nil
          clear hHeld
          have neAC : ghA ≠ ghC := by first | exact ne | exact Ne.symm ne
          have s1 := World.rangeAt_setCells_same v16 ghA 0 (penc x 0) (there_of hA (Nat.le_refl 7))
          have k1 := setCells_grown (penc x 0) v16 ghA 0
          have hC2 : (v16.setCells ghA 0 (penc x 0)).heap[ghC]? = _ := (k1.block ghC (heap_lt hC) (fun e => neAC (by injection e with e; exact e.symm))).trans hC
          have hB1 := below_of_grow hB k1 hB.size (by omega)
          replace hv1 := hv1.keepG k1 (by omega); replace hv2 := hv2.keepG k1 (by omega)
          refine step_store_mid rfl 92 _ _ rfl ghA 0 (penc x 0).toArray (by rfl) (by rfl) (there_of hA (Nat.le_refl 7)) size62 (penc_one _ _) ?_
          refine hK.out _ _ ⟨hv1, hv2⟩ (fun hHeld => ?_)
          clear hK K k1
          have e1 : (penc x 0).toArray.toList = penc x 0 := rfl
          rw [e1]
          generalize v16.setCells ghA 0 (penc x 0) = u1 at *
          try simp only [Act.put, List.getElem_toArray, List.getElem_cons_zero, List.getElem_cons_succ, List.setIfInBounds_toArray, List.set_cons_zero, List.set_cons_succ]
          refine wpAnyH_ready (rs := [7]) (by kernel_rfl) (by simp) ?_
          refine AllReadyH.cons rfl (fun K hK => ?_) AllReadyH.nil
          have s2 := World.rangeAt_setCells_same u1 ghC 0 (penc y 0) (there_of hC2 (Nat.le_refl 7))
          have k1 := setCells_grown (penc y 0) u1 ghC 0
          replace s1 := World.rangeAt_setCells_apart s1 ghC 0 (penc y 0) (.inl neAC)
          have hB2 := below_of_grow hB1 k1 hB1.size (by omega)
          replace hv1 := hv1.keepG k1 (by omega); replace hv2 := hv2.keepG k1 (by omega)
          refine step_store_mid rfl 92 _ _ rfl ghC 0 (penc y 0).toArray (by rfl) (by rfl) (there_of hC2 (Nat.le_refl 7)) size62 (penc_one _ _) ?_
          refine hK.out _ _ ⟨hv1, hv2⟩ (fun hHeld => ?_)
          clear hK K
          have e2 : (penc y 0).toArray.toList = penc y 0 := rfl
          rw [e2]
          have lA := block_of_range s1 0 rfl; have lC := block_of_range s2 0 rfl
          generalize u1.setCells ghC 0 (penc y 0) = u2 at *
          try simp only [Act.put, List.getElem_toArray, List.getElem_cons_zero, List.getElem_cons_succ, List.setIfInBounds_toArray, List.set_cons_zero, List.set_cons_succ]
          refine wpAnyH_done (by kernel_rfl) ?_ _
          have hP := fun H1 H2 => partcost_any x y ghA 0 ghC 0 0 0 u2 H1 H2
          have HP := Lib.hid (hP (PtA.of_range s1 lA) (PtA.of_range s2 lC)); clear hP s1 s2
          go_wp2_with fail
          refine HP.out.mono ?_; rintro e u3 ⟨rfl, hb⟩
          have hB3 := BelowOn hB2 hb
          clear hv1 hv2 hHeld HP hb hA hC hC2
          go_wp2_with fail
          go_ret2
          exact ⟨rfl, hB3⟩
  · skip
    have hA := heap_alloc_new v0 (.cells #[.int .i64 0, .string ⟨#[]⟩, .int .i64 0, .int .i64 0, .int .i64 0, .int .i64 0, .string ⟨#[]⟩] 92)
    have hb := (Below.refl v0.heap.size v0).alloc (Nat.le_refl _) (.cells #[.int .i64 0, .string ⟨#[]⟩, .int .i64 0, .int .i64 0, .int .i64 0, .int .i64 0, .string ⟨#[]⟩] 92)
    have g0hA : w.heap.size + 2 ≤ v0.heap.size := hsz
    replace hv1 := hv1.call hb; replace hv2 := hv2.call hb; replace hB := BelowOn hB hb; replace hsz := Nat.le_trans hsz hb.size
    go_simp
    refine hK.out _ _ ⟨hv1, hv2⟩ (fun hHeld => ?_)
    clear hK K hb
    try simp only [Act.put, List.getElem_toArray, List.getElem_cons_zero, List.getElem_cons_succ, List.setIfInBounds_toArray, List.set_cons_zero, List.set_cons_succ]
    generalize v0.alloc (.cells #[.int .i64 0, .string ⟨#[]⟩, .int .i64 0, .int .i64 0, .int .i64 0, .int .i64 0, .string ⟨#[]⟩] 92) = v17 at *
    generalize v0.heap.size = ghA at *
    refine wpAnyH_ready (rs := [1, 5]) (by kernel_rfl) (by simp) ?_
    refine AllReadyH.cons rfl (fun K hK => ?_) (AllReadyH.cons rfl (fun K hK => ?_) (AllReadyH.nil))
    · skip
      go_simp
      refine (HN1.out v17).mono ?_; rintro e v18 ⟨rfl, hb⟩
      replace hA := keep_heap hA hb
      replace hv1 := hv1.call hb; replace hv2 := hv2.call hb; replace hB := BelowOn hB hb; replace hsz := Nat.le_trans hsz hb.size
      go_wp2_with fail
      refine hK.out _ _ ⟨hv1, hv2⟩ (fun hHeld => ?_)
      clear hK K hb
      try simp only [Act.put, List.getElem_toArray, List.getElem_cons_zero, List.getElem_cons_succ, List.setIfInBounds_toArray, List.set_cons_zero, List.set_cons_succ]
      refine wpAnyH_ready (rs := [3, 5]) (by kernel_rfl) (by simp) ?_
      refine AllReadyH.cons rfl (fun K hK => ?_) (AllReadyH.cons rfl (fun K hK => ?_) (AllReadyH.nil))
      · skip
        go_simp
        refine (HN2.out v18).mono ?_; rintro e v19 ⟨rfl, hb⟩
        replace hA := keep_heap hA hb
        replace hv1 := hv1.call hb; replace hv2 := hv2.call hb; replace hB := BelowOn hB hb; replace hsz := Nat.le_trans hsz hb.size
        go_wp2_with fail
        refine hK.out _ _ ⟨hv1, hv2⟩ (fun hHeld => ?_)
        clear hK K hb
        try simp only [Act.put, List.getElem_toArray, List.getElem_cons_zero, List.getElem_cons_succ, List.setIfInBounds_toArray, List.set_cons_zero, List.set_cons_succ]
        refine wpAnyH_ready (rs := [5]) (by kernel_rfl) (by simp) ?_
        refine AllReadyH.cons rfl (fun K hK => ?_) (AllReadyH.nil)
        · skip
          have hC := heap_alloc_new v19 (.cells #[.int .i64 0, .string ⟨#[]⟩, .int .i64 0, .int .i64 0, .int .i64 0, .int .i64 0, .string ⟨#[]⟩] 92)
          have hb := (Below.refl v19.heap.size v19).alloc (Nat.le_refl _) (.cells #[.int .i64 0, .string ⟨#[]⟩, .int .i64 0, .int .i64 0, .int .i64 0, .int .i64 0, .string ⟨#[]⟩] 92)
          have g0hC : w.heap.size + 2 ≤ v19.heap.size := hsz
          have ne : ghA ≠ v19.heap.size := Nat.ne_of_lt (heap_lt hA)
          replace hA := keep_heap hA hb
          replace hv1 := hv1.call hb; replace hv2 := hv2.call hb; replace hB := BelowOn hB hb; replace hsz := Nat.le_trans hsz hb.size
          go_simp
          refine hK.out _ _ ⟨hv1, hv2⟩ (fun hHeld => ?_)
          clear hK K hb
          try simp only [Act.put, List.getElem_toArray, List.getElem_cons_zero, List.getElem_cons_succ, List.setIfInBounds_toArray, List.set_cons_zero, List.set_cons_succ]
          generalize v19.alloc (.cells #[.int .i64 0, .string ⟨#[]⟩, .int .i64 0, .int .i64 0, .int .i64 0, .int .i64 0, .string ⟨#[]⟩] 92) = v20 at *
          generalize v19.heap.size = ghC at *
          refine wpAnyH_ready (rs := [6]) (by kernel_rfl) (by simp) ?_
          refine AllReadyH.cons rfl (fun K hK => ?_) AllReadyH.nil
          clear hHeld
          have neAC : ghA ≠ ghC := by first | exact ne | exact Ne.symm ne
          have s1 := World.rangeAt_setCells_same v20 ghA 0 (penc x 0) (there_of hA (Nat.le_refl 7))
          have k1 := setCells_grown (penc x 0) v20 ghA 0
          have hC2 : (v20.setCells ghA 0 (penc x 0)).heap[ghC]? = _ := (k1.block ghC (heap_lt hC) (fun e => neAC (by injection e with e; exact e.symm))).trans hC
          have hB1 := below_of_grow hB k1 hB.size (by omega)
          replace hv1 := hv1.keepG k1 (by omega); replace hv2 := hv2.keepG k1 (by omega)
          refine step_store_mid rfl 92 _ _ rfl ghA 0 (penc x 0).toArray (by rfl) (by rfl) (there_of hA (Nat.le_refl 7)) size62 (penc_one _ _) ?_
          refine hK.out _ _ ⟨hv1, hv2⟩ (fun hHeld => ?_)
          clear hK K k1
          have e1 : (penc x 0).toArray.toList = penc x 0 := rfl
          rw [e1]
          generalize v20.setCells ghA 0 (penc x 0) = u1 at *
          try simp only [Act.put, List.getElem_toArray, List.getElem_cons_zero, List.getElem_cons_succ, List.setIfInBounds_toArray, List.set_cons_zero, List.set_cons_succ]
          refine wpAnyH_ready (rs := [7]) (by kernel_rfl) (by simp) ?_
          refine AllReadyH.cons rfl (fun K hK => ?_) AllReadyH.nil
          have s2 := World.rangeAt_setCells_same u1 ghC 0 (penc y 0) (there_of hC2 (Nat.le_refl 7))
          have k1 := setCells_grown (penc y 0) u1 ghC 0
          replace s1 := World.rangeAt_setCells_apart s1 ghC 0 (penc y 0) (.inl neAC)
          have hB2 := below_of_grow hB1 k1 hB1.size (by omega)
          replace hv1 := hv1.keepG k1 (by omega); replace hv2 := hv2.keepG k1 (by omega)
          refine step_store_mid rfl 92 _ _ rfl ghC 0 (penc y 0).toArray (by rfl) (by rfl) (there_of hC2 (Nat.le_refl 7)) size62 (penc_one _ _) ?_
          refine hK.out _ _ ⟨hv1, hv2⟩ (fun hHeld => ?_)
          clear hK K
          have e2 : (penc y 0).toArray.toList = penc y 0 := rfl
          rw [e2]
          have lA := block_of_range s1 0 rfl; have lC := block_of_range s2 0 rfl
          generalize u1.setCells ghC 0 (penc y 0) = u2 at *
          try simp only [Act.put, List.getElem_toArray, List.getElem_cons_zero, List.getElem_cons_succ, List.setIfInBounds_toArray, List.set_cons_zero, List.set_cons_succ]
          refine wpAnyH_done (by kernel_rfl) ?_ _
          have hP := fun H1 H2 => partcost_any x y ghA 0 ghC 0 0 0 u2 H1 H2
          have HP := Lib.hid (hP (PtA.of_range s1 lA) (PtA.of_range s2 lC)); clear hP s1 s2
          go_wp2_with fail
          refine HP.out.mono ?_; rintro e u3 ⟨rfl, hb⟩
          have hB3 := BelowOn hB2 hb
          clear hv1 hv2 hHeld HP hb hA hC hC2
          go_wp2_with fail
          go_ret2
          exact ⟨rfl, hB3⟩
      · skip
        have hC := heap_alloc_new v18 (.cells #[.int .i64 0, .string ⟨#[]⟩, .int .i64 0, .int .i64 0, .int .i64 0, .int .i64 0, .string ⟨#[]⟩] 92)
        have hb := (Below.refl v18.heap.size v18).alloc (Nat.le_refl _) (.cells #[.int .i64 0, .string ⟨#[]⟩, .int .i64 0, .int .i64 0, .int .i64 0, .int .i64 0, .string ⟨#[]⟩] 92)
        have g0hC : w.heap.size + 2 ≤ v18.heap.size := hsz
        have ne : ghA ≠ v18.heap.size := Nat.ne_of_lt (heap_lt hA)
        replace hA := keep_heap hA hb
        replace hv1 := hv1.call hb; replace hv2 := hv2.call hb; replace hB := BelowOn hB hb; replace hsz := Nat.le_trans hsz hb.size
        go_simp
        refine hK.out _ _ ⟨hv1, hv2⟩ (fun hHeld => ?_)
        clear hK K hb
        try simp only [Act.put, List.getElem_toArray, List.getElem_cons_zero, List.getElem_cons_succ, List.setIfInBounds_toArray, List.set_cons_zero, List.set_cons_succ]
        generalize v18.alloc (.cells #[.int .i64 0, .string ⟨#[]⟩, .int .i64 0, .int .i64 0, .int .i64 0, .int .i64 0, .string ⟨#[]⟩] 92) = v21 at *
        generalize v18.heap.size = ghC at *
        refine wpAnyH_ready (rs := [3]) (by kernel_rfl) (by simp) ?_
        refine AllReadyH.cons rfl (fun K hK => ?_) (AllReadyH.nil)
        · skip
          go_simp
          refine (HN2.out v21).mono ?_; rintro e v22 ⟨rfl, hb⟩
          replace hA := keep_heap hA hb
          replace hC := keep_heap hC hb
          replace hv1 := hv1.call hb; replace hv2 := hv2.call hb; replace hB := BelowOn hB hb; replace hsz := Nat.le_trans hsz hb.size
          go_wp2_with fail
          refine hK.out _ _ ⟨hv1, hv2⟩ (fun hHeld => ?_)
          clear hK K hb
          try simp only [Act.put, List.getElem_toArray, List.getElem_cons_zero, List.getElem_cons_succ, List.setIfInBounds_toArray, List.set_cons_zero, List.set_cons_succ]
          refine wpAnyH_ready (rs := [6]) (by kernel_rfl) (by simp) ?_
          refine AllReadyH.cons rfl (fun K hK => ?_) AllReadyH.nil
          clear hHeld
          have neAC : ghA ≠ ghC := by first | exact ne | exact Ne.symm ne
          have s1 := World.rangeAt_setCells_same v22 ghA 0 (penc x 0) (there_of hA (Nat.le_refl 7))
          have k1 := setCells_grown (penc x 0) v22 ghA 0
          have hC2 : (v22.setCells ghA 0 (penc x 0)).heap[ghC]? = _ := (k1.block ghC (heap_lt hC) (fun e => neAC (by injection e with e; exact e.symm))).trans hC
          have hB1 := below_of_grow hB k1 hB.size (by omega)
          replace hv1 := hv1.keepG k1 (by omega); replace hv2 := hv2.keepG k1 (by omega)
          refine step_store_mid rfl 92 _ _ rfl ghA 0 (penc x 0).toArray (by rfl) (by rfl) (there_of hA (Nat.le_refl 7)) size62 (penc_one _ _) ?_
          refine hK.out _ _ ⟨hv1, hv2⟩ (fun hHeld => ?_)
          clear hK K k1
          have e1 : (penc x 0).toArray.toList = penc x 0 := rfl
          rw [e1]
          generalize v22.setCells ghA 0 (penc x 0) = u1 at *
          try simp only [Act.put, List.getElem_toArray, List.getElem_cons_zero, List.getElem_cons_succ, List.setIfInBounds_toArray, List.set_cons_zero, List.set_cons_succ]
          refine wpAnyH_ready (rs := [7]) (by kernel_rfl) (by simp) ?_
          refine AllReadyH.cons rfl (fun K hK => ?_) AllReadyH.nil
          have s2 := World.rangeAt_setCells_same u1 ghC 0 (penc y 0) (there_of hC2 (Nat.le_refl 7))
          have k1 := setCells_grown (penc y 0) u1 ghC 0
          replace s1 := World.rangeAt_setCells_apart s1 ghC 0 (penc y 0) (.inl neAC)
          have hB2 := below_of_grow hB1 k1 hB1.size (by omega)
          replace hv1 := hv1.keepG k1 (by omega); replace hv2 := hv2.keepG k1 (by omega)
          refine step_store_mid rfl 92 _ _ rfl ghC 0 (penc y 0).toArray (by rfl) (by rfl) (there_of hC2 (Nat.le_refl 7)) size62 (penc_one _ _) ?_
          refine hK.out _ _ ⟨hv1, hv2⟩ (fun hHeld => ?_)
          clear hK K
          have e2 : (penc y 0).toArray.toList = penc y 0 := rfl
          rw [e2]
          have lA := block_of_range s1 0 rfl; have lC := block_of_range s2 0 rfl
          generalize u1.setCells ghC 0 (penc y 0) = u2 at *
          try simp only [Act.put, List.getElem_toArray, List.getElem_cons_zero, List.getElem_cons_succ, List.setIfInBounds_toArray, List.set_cons_zero, List.set_cons_succ]
          refine wpAnyH_done (by kernel_rfl) ?_ _
          have hP := fun H1 H2 => partcost_any x y ghA 0 ghC 0 0 0 u2 H1 H2
          have HP := Lib.hid (hP (PtA.of_range s1 lA) (PtA.of_range s2 lC)); clear hP s1 s2
          go_wp2_with fail
          refine HP.out.mono ?_; rintro e u3 ⟨rfl, hb⟩
          have hB3 := BelowOn hB2 hb
          clear hv1 hv2 hHeld HP hb hA hC hC2
          go_wp2_with fail
          go_ret2
          exact ⟨rfl, hB3⟩
    · skip
      have hC := heap_alloc_new v17 (.cells #[.int .i64 0, .string ⟨#[]⟩, .int .i64 0, .int .i64 0, .int .i64 0, .int .i64 0, .string ⟨#[]⟩] 92)
      have hb := (Below.refl v17.heap.size v17).alloc (Nat.le_refl _) (.cells #[.int .i64 0, .string ⟨#[]⟩, .int .i64 0, .int .i64 0, .int .i64 0, .int .i64 0, .string ⟨#[]⟩] 92)
      have g0hC : w.heap.size + 2 ≤ v17.heap.size := hsz
      have ne : ghA ≠ v17.heap.size := Nat.ne_of_lt (heap_lt hA)
      replace hA := keep_heap hA hb
      replace hv1 := hv1.call hb; replace hv2 := hv2.call hb; replace hB := BelowOn hB hb; replace hsz := Nat.le_trans hsz hb.size
      go_simp
      refine hK.out _ _ ⟨hv1, hv2⟩ (fun hHeld => ?_)
      clear hK K hb
      try simp only [Act.put, List.getElem_toArray, List.getElem_cons_zero, List.getElem_cons_succ, List.setIfInBounds_toArray, List.set_cons_zero, List.set_cons_succ]
      generalize v17.alloc (.cells #[.int .i64 0, .string ⟨#[]⟩, .int .i64 0, .int .i64 0, .int .i64 0, .int .i64 0, .string ⟨#[]⟩] 92) = v23 at *
      generalize v17.heap.size = ghC at *
      refine wpAnyH_ready (rs := [1]) (by kernel_rfl) (by simp) ?_
      refine AllReadyH.cons rfl (fun K hK => ?_) (AllReadyH.nil)
      · skip
        go_simp
        refine (HN1.out v23).mono ?_; rintro e v24 ⟨rfl, hb⟩
        replace hA := keep_heap hA hb
        replace hC := keep_heap hC hb
        replace hv1 := hv1.call hb; replace hv2 := hv2.call hb; replace hB := BelowOn hB hb; replace hsz := Nat.le_trans hsz hb.size
        go_wp2_with fail
        refine hK.out _ _ ⟨hv1, hv2⟩ (fun hHeld => ?_)
        clear hK K hb
        try simp only [Act.put, List.getElem_toArray, List.getElem_cons_zero, List.getElem_cons_succ, List.setIfInBounds_toArray, List.set_cons_zero, List.set_cons_succ]
        refine wpAnyH_ready (rs := [3]) (by kernel_rfl) (by simp) ?_
        refine AllReadyH.cons rfl (fun K hK => ?_) (AllReadyH.nil)
        · skip
          go_simp
          refine (HN2.out v24).mono ?_; rintro e v25 ⟨rfl, hb⟩
          replace hA := keep_heap hA hb
          replace hC := keep_heap hC hb
          replace hv1 := hv1.call hb; replace hv2 := hv2.call hb; replace hB := BelowOn hB hb; replace hsz := Nat.le_trans hsz hb.size
          go_wp2_with fail
          refine hK.out _ _ ⟨hv1, hv2⟩ (fun hHeld => ?_)
          clear hK K hb
          try simp only [Act.put, List.getElem_toArray, List.getElem_cons_zero, List.getElem_cons_succ, List.setIfInBounds_toArray, List.set_cons_zero, List.set_cons_succ]
          refine wpAnyH_ready (rs := [6]) (by kernel_rfl) (by simp) ?_
          refine AllReadyH.cons rfl (fun K hK => ?_) AllReadyH.nil
          clear hHeld
          have neAC : ghA ≠ ghC := by first | exact ne | exact Ne.symm ne
          have s1 := World.rangeAt_setCells_same v25 ghA 0 (penc x 0) (there_of hA (Nat.le_refl 7))
          have k1 := setCells_grown (penc x 0) v25 ghA 0
          have hC2 : (v25.setCells ghA 0 (penc x 0)).heap[ghC]? = _ := (k1.block ghC (heap_lt hC) (fun e => neAC (by injection e with e; exact e.symm))).trans hC
          have hB1 := below_of_grow hB k1 hB.size (by omega)
          replace hv1 := hv1.keepG k1 (by omega); replace hv2 := hv2.keepG k1 (by omega)
          refine step_store_mid rfl 92 _ _ rfl ghA 0 (penc x 0).toArray (by rfl) (by rfl) (there_of hA (Nat.le_refl 7)) size62 (penc_one _ _) ?_
          refine hK.out _ _ ⟨hv1, hv2⟩ (fun hHeld => ?_)
          clear hK K k1
          have e1 : (penc x 0).toArray.toList = penc x 0 := rfl
          rw [e1]
          generalize v25.setCells ghA 0 (penc x 0) = u1 at *
          try simp only [Act.put, List.getElem_toArray, List.getElem_cons_zero, List.getElem_cons_succ, List.setIfInBounds_toArray, List.set_cons_zero, List.set_cons_succ]
          refine wpAnyH_ready (rs := [7]) (by kernel_rfl) (by simp) ?_
          refine AllReadyH.cons rfl (fun K hK => ?_) AllReadyH.nil
          have s2 := World.rangeAt_setCells_same u1 ghC 0 (penc y 0) (there_of hC2 (Nat.le_refl 7))
          have k1 := setCells_grown (penc y 0) u1 ghC 0
          replace s1 := World.rangeAt_setCells_apart s1 ghC 0 (penc y 0) (.inl neAC)
          have hB2 := below_of_grow hB1 k1 hB1.size (by omega)
          replace hv1 := hv1.keepG k1 (by omega); replace hv2 := hv2.keepG k1 (by omega)
          refine step_store_mid rfl 92 _ _ rfl ghC 0 (penc y 0).toArray (by rfl) (by rfl) (there_of hC2 (Nat.le_refl 7)) size62 (penc_one _ _) ?_
          refine hK.out _ _ ⟨hv1, hv2⟩ (fun hHeld => ?_)
          clear hK K
          have e2 : (penc y 0).toArray.toList = penc y 0 := rfl
          rw [e2]
          have lA := block_of_range s1 0 rfl; have lC := block_of_range s2 0 rfl
          generalize u1.setCells ghC 0 (penc y 0) = u2 at *
          try simp only [Act.put, List.getElem_toArray, List.getElem_cons_zero, List.getElem_cons_succ, List.setIfInBounds_toArray, List.set_cons_zero, List.set_cons_succ]
          refine wpAnyH_done (by kernel_rfl) ?_ _
          have hP := fun H1 H2 => partcost_any x y ghA 0 ghC 0 0 0 u2 H1 H2
          have HP := Lib.hid (hP (PtA.of_range s1 lA) (PtA.of_range s2 lC)); clear hP s1 s2
          go_wp2_with fail
          refine HP.out.mono ?_; rintro e u3 ⟨rfl, hb⟩
          have hB3 := BelowOn hB2 hb
          clear hv1 hv2 hHeld HP hb hA hC hC2
          go_wp2_with fail
          go_ret2
          exact ⟨rfl, hB3⟩
  · skip
    have hC := heap_alloc_new v0 (.cells #[.int .i64 0, .string ⟨#[]⟩, .int .i64 0, .int .i64 0, .int .i64 0, .int .i64 0, .string ⟨#[]⟩] 92)
    have hb := (Below.refl v0.heap.size v0).alloc (Nat.le_refl _) (.cells #[.int .i64 0, .string ⟨#[]⟩, .int .i64 0, .int .i64 0, .int .i64 0, .int .i64 0, .string ⟨#[]⟩] 92)
    have g0hC : w.heap.size + 2 ≤ v0.heap.size := hsz
    replace hv1 := hv1.call hb; replace hv2 := hv2.call hb; replace hB := BelowOn hB hb; replace hsz := Nat.le_trans hsz hb.size
    go_simp
    refine hK.out _ _ ⟨hv1, hv2⟩ (fun hHeld => ?_)
    clear hK K hb
    try simp only [Act.put, List.getElem_toArray, List.getElem_cons_zero, List.getElem_cons_succ, List.setIfInBounds_toArray, List.set_cons_zero, List.set_cons_succ]
    generalize v0.alloc (.cells #[.int .i64 0, .string ⟨#[]⟩, .int .i64 0, .int .i64 0, .int .i64 0, .int .i64 0, .string ⟨#[]⟩] 92) = v26 at *
    generalize v0.heap.size = ghC at *
    refine wpAnyH_ready (rs := [1, 4]) (by kernel_rfl) (by simp) ?_
    refine AllReadyH.cons rfl (fun K hK => ?_) (AllReadyH.cons rfl (fun K hK => ?_) (AllReadyH.nil))
    · skip
      go_simp
      refine (HN1.out v26).mono ?_; rintro e v27 ⟨rfl, hb⟩
      replace hC := keep_heap hC hb
      replace hv1 := hv1.call hb; replace hv2 := hv2.call hb; replace hB := BelowOn hB hb; replace hsz := Nat.le_trans hsz hb.size
      go_wp2_with fail
      refine hK.out _ _ ⟨hv1, hv2⟩ (fun hHeld => ?_)
      clear hK K hb
      try simp only [Act.put, List.getElem_toArray, List.getElem_cons_zero, List.getElem_cons_succ, List.setIfInBounds_toArray, List.set_cons_zero, List.set_cons_succ]
      refine wpAnyH_ready (rs := [3, 4]) (by kernel_rfl) (by simp) ?_
      refine AllReadyH.cons rfl (fun K hK => ?_) (AllReadyH.cons rfl (fun K hK => ?_) (AllReadyH.nil))
      · skip
        go_simp
        refine (HN2.out v27).mono ?_; rintro e v28 ⟨rfl, hb⟩
        replace hC := keep_heap hC hb
        replace hv1 := hv1.call hb; replace hv2 := hv2.call hb; replace hB := BelowOn hB hb; replace hsz := Nat.le_trans hsz hb.size
        go_wp2_with fail
        refine hK.out _ _ ⟨hv1, hv2⟩ (fun hHeld => ?_)
        clear hK K hb
        try simp only [Act.put, List.getElem_toArray, List.getElem_cons_zero, List.getElem_cons_succ, List.setIfInBounds_toArray, List.set_cons_zero, List.set_cons_succ]
        refine wpAnyH_ready (rs := [4]) (by kernel_rfl) (by simp) ?_
        refine AllReadyH.cons rfl (fun K hK => ?_) (AllReadyH.nil)
        · skip
          have hA := heap_alloc_new v28 (.cells #[.int .i64 0, .string ⟨#[]⟩, .int .i64 0, .int .i64 0, .int .i64 0, .int .i64 0, .string ⟨#[]⟩] 92)
          have hb := (Below.refl v28.heap.size v28).alloc (Nat.le_refl _) (.cells #[.int .i64 0, .string ⟨#[]⟩, .int .i64 0, .int .i64 0, .int .i64 0, .int .i64 0, .string ⟨#[]⟩] 92)
          have g0hA : w.heap.size + 2 ≤ v28.heap.size := hsz
          have ne : ghC ≠ v28.heap.size := Nat.ne_of_lt (heap_lt hC)
          replace hC := keep_heap hC hb
          replace hv1 := hv1.call hb; replace hv2 := hv2.call hb; replace hB := BelowOn hB hb; replace hsz := Nat.le_trans hsz hb.size
          go_simp
          refine hK.out _ _ ⟨hv1, hv2⟩ (fun hHeld => ?_)
          clear hK K hb
          try simp only [Act.put, List.getElem_toArray, List.getElem_cons_zero, List.getElem_cons_succ, List.setIfInBounds_toArray, List.set_cons_zero, List.set_cons_succ]
          generalize v28.alloc (.cells #[.int .i64 0, .string ⟨#[]⟩, .int .i64 0, .int .i64 0, .int .i64 0, .int .i64 0, .string ⟨#[]⟩] 92) = v29 at *
          generalize v28.heap.size = ghA at *
          refine wpAnyH_ready (rs := [6]) (by kernel_rfl) (by simp) ?_
          refine AllReadyH.cons rfl (fun K hK => ?_) AllReadyH.nil
          clear hHeld
          have neAC : ghA ≠ ghC := by first | exact ne | exact Ne.symm ne
          have s1 := World.rangeAt_setCells_same v29 ghA 0 (penc x 0) (there_of hA (Nat.le_refl 7))
          have k1 := setCells_grown (penc x 0) v29 ghA 0
          have hC2 : (v29.setCells ghA 0 (penc x 0)).heap[ghC]? = _ := (k1.block ghC (heap_lt hC) (fun e => neAC (by injection e with e; exact e.symm))).trans hC
          have hB1 := below_of_grow hB k1 hB.size (by omega)
          replace hv1 := hv1.keepG k1 (by omega); replace hv2 := hv2.keepG k1 (by omega)
          refine step_store_mid rfl 92 _ _ rfl ghA 0 (penc x 0).toArray (by rfl) (by rfl) (there_of hA (Nat.le_refl 7)) size62 (penc_one _ _) ?_
          refine hK.out _ _ ⟨hv1, hv2⟩ (fun hHeld => ?_)
          clear hK K k1
          have e1 : (penc x 0).toArray.toList = penc x 0 := rfl
          rw [e1]
          generalize v29.setCells ghA 0 (penc x 0) = u1 at *
          try simp only [Act.put, List.getElem_toArray, List.getElem_cons_zero, List.getElem_cons_succ, List.setIfInBounds_toArray, List.set_cons_zero, List.set_cons_succ]
          refine wpAnyH_ready (rs := [7]) (by kernel_rfl) (by simp) ?_
          refine AllReadyH.cons rfl (fun K hK => ?_) AllReadyH.nil
          have s2 := World.rangeAt_setCells_same u1 ghC 0 (penc y 0) (there_of hC2 (Nat.le_refl 7))
          have k1 := setCells_grown (penc y 0) u1 ghC 0
          replace s1 := World.rangeAt_setCells_apart s1 ghC 0 (penc y 0) (.inl neAC)
          have hB2 := below_of_grow hB1 k1 hB1.size (by omega)
          replace hv1 := hv1.keepG k1 (by omega); replace hv2 := hv2.keepG k1 (by omega)
          refine step_store_mid rfl 92 _ _ rfl ghC 0 (penc y 0).toArray (by rfl) (by rfl) (there_of hC2 (Nat.le_refl 7)) size62 (penc_one _ _) ?_
          refine hK.out _ _ ⟨hv1, hv2⟩ (fun hHeld => ?_)
          clear hK K
          have e2 : (penc y 0).toArray.toList = penc y 0 := rfl
          rw [e2]
          have lA := block_of_range s1 0 rfl; have lC := block_of_range s2 0 rfl
          generalize u1.setCells ghC 0 (penc y 0) = u2 at *
          try simp only [Act.put, List.getElem_toArray, List.getElem_cons_zero, List.getElem_cons_succ, List.setIfInBounds_toArray, List.set_cons_zero, List.set_cons_succ]
          refine wpAnyH_done (by kernel_rfl) ?_ _
          have hP := fun H1 H2 => partcost_any x y ghA 0 ghC 0 0 0 u2 H1 H2
          have HP := Lib.hid (hP (PtA.of_range s1 lA) (PtA.of_range s2 lC)); clear hP s1 s2
          go_wp2_with fail
          refine HP.out.mono ?_; rintro e u3 ⟨rfl, hb⟩
          have hB3 := BelowOn hB2 hb
          clear hv1 hv2 hHeld HP hb hA hC hC2
          go_wp2_with fail
          go_ret2
          exact ⟨rfl, hB3⟩
      · skip
        have hA := heap_alloc_new v27 (.cells #[.int .i64 0, .string ⟨#[]⟩, .int .i64 0, .int .i64 0, .int .i64 0, .int .i64 0, .string ⟨#[]⟩] 92)
        have hb := (Below.refl v27.heap.size v27).alloc (Nat.le_refl _) (.cells #[.int .i64 0, .string ⟨#[]⟩, .int .i64 0, .int .i64 0, .int .i64 0, .int .i64 0, .string ⟨#[]⟩] 92)
        have g0hA : w.heap.size + 2 ≤ v27.heap.size := hsz
        have ne : ghC ≠ v27.heap.size := Nat.ne_of_lt (heap_lt hC)
        replace hC := keep_heap hC hb
        replace hv1 := hv1.call hb; replace hv2 := hv2.call hb; replace hB := BelowOn hB hb; replace hsz := Nat.le_trans hsz hb.size
        go_simp
        refine hK.out _ _ ⟨hv1, hv2⟩ (fun hHeld => ?_)
        clear hK K hb
        try simp only [Act.put, List.getElem_toArray, List.getElem_cons_zero, List.getElem_cons_succ, List.setIfInBounds_toArray, List.set_cons_zero, List.set_cons_succ]
        generalize v27.alloc (.cells #[.int .i64 0, .string ⟨#[]⟩, .int .i64 0, .int .i64 0, .int .i64 0, .int .i64 0, .string ⟨#[]⟩] 92) = v30 at *
        generalize v27.heap.size = ghA at *
        refine wpAnyH_ready (rs := [3]) (by kernel_rfl) (by simp) ?_
        refine AllReadyH.cons rfl (fun K hK => ?_) (AllReadyH.nil)
        · skip
          go_simp
          refine (HN2.out v30).mono ?_; rintro e v31 ⟨rfl, hb⟩
          replace hC := keep_heap hC hb
          replace hA := keep_heap hA hb
          replace hv1 := hv1.call hb; replace hv2 := hv2.call hb; replace hB := BelowOn hB hb; replace hsz := Nat.le_trans hsz hb.size
          go_wp2_with fail
          refine hK.out _ _ ⟨hv1, hv2⟩ (fun hHeld => ?_)
          clear hK K hb
          try simp only [Act.put, List.getElem_toArray, List.getElem_cons_zero, List.getElem_cons_succ, List.setIfInBounds_toArray, List.set_cons_zero, List.set_cons_succ]
          refine wpAnyH_ready (rs := [6]) (by kernel_rfl) (by simp) ?_
          refine AllReadyH.cons rfl (fun K hK => ?_) AllReadyH.nil
          clear hHeld
          have neAC : ghA ≠ ghC := by first | exact ne | exact Ne.symm ne
          have s1 := World.rangeAt_setCells_same v31 ghA 0 (penc x 0) (there_of hA (Nat.le_refl 7))
          have k1 := setCells_grown (penc x 0) v31 ghA 0
          have hC2 : (v31.setCells ghA 0 (penc x 0)).heap[ghC]? = _ := (k1.block ghC (heap_lt hC) (fun e => neAC (by injection e with e; exact e.symm))).trans hC
          have hB1 := below_of_grow hB k1 hB.size (by omega)
          replace hv1 := hv1.keepG k1 (by omega); replace hv2 := hv2.keepG k1 (by omega)
          refine step_store_mid rfl 92 _ _ rfl ghA 0 (penc x 0).toArray (by rfl) (by rfl) (there_of hA (Nat.le_refl 7)) size62 (penc_one _ _) ?_
          refine hK.out _ _ ⟨hv1, hv2⟩ (fun hHeld => ?_)
          clear hK K k1
          have e1 : (penc x 0).toArray.toList = penc x 0 := rfl
          rw [e1]
          generalize v31.setCells ghA 0 (penc x 0) = u1 at *
          try simp only [Act.put, List.getElem_toArray, List.getElem_cons_zero, List.getElem_cons_succ, List.setIfInBounds_toArray, List.set_cons_zero, List.set_cons_succ]
          refine wpAnyH_ready (rs := [7]) (by kernel_rfl) (by simp) ?_
          refine AllReadyH.cons rfl (fun K hK => ?_) AllReadyH.nil
          have s2 := World.rangeAt_setCells_same u1 ghC 0 (penc y 0) (there_of hC2 (Nat.le_refl 7))
          have k1 := setCells_grown (penc y 0) u1 ghC 0
          replace s1 := World.rangeAt_setCells_apart s1 ghC 0 (penc y 0) (.inl neAC)
          have hB2 := below_of_grow hB1 k1 hB1.size (by omega)
          replace hv1 := hv1.keepG k1 (by omega); replace hv2 := hv2.keepG k1 (by omega)
          refine step_store_mid rfl 92 _ _ rfl ghC 0 (penc y 0).toArray (by rfl) (by rfl) (there_of hC2 (Nat.le_refl 7)) size62 (penc_one _ _) ?_
          refine hK.out _ _ ⟨hv1, hv2⟩ (fun hHeld => ?_)
          clear hK K
          have e2 : (penc y 0).toArray.toList = penc y 0 := rfl
          rw [e2]
          have lA := block_of_range s1 0 rfl; have lC := block_of_range s2 0 rfl
          generalize u1.setCells ghC 0 (penc y 0) = u2 at *
          try simp only [Act.put, List.getElem_toArray, List.getElem_cons_zero, List.getElem_cons_succ, List.setIfInBounds_toArray, List.set_cons_zero, List.set_cons_succ]
          refine wpAnyH_done (by kernel_rfl) ?_ _
          have hP := fun H1 H2 => partcost_any x y ghA 0 ghC 0 0 0 u2 H1 H2
          have HP := Lib.hid (hP (PtA.of_range s1 lA) (PtA.of_range s2 lC)); clear hP s1 s2
          go_wp2_with fail
          refine HP.out.mono ?_; rintro e u3 ⟨rfl, hb⟩
          have hB3 := BelowOn hB2 hb
          clear hv1 hv2 hHeld HP hb hA hC hC2
          go_wp2_with fail
          go_ret2
          exact ⟨rfl, hB3⟩
    · skip
      have hA := heap_alloc_new v26 (.cells #[.int .i64 0, .string ⟨#[]⟩, .int .i64 0, .int .i64 0, .int .i64 0, .int .i64 0, .string ⟨#[]⟩] 92)
      have hb := (Below.refl v26.heap.size v26).alloc (Nat.le_refl _) (.cells #[.int .i64 0, .string ⟨#[]⟩, .int .i64 0, .int .i64 0, .int .i64 0, .int .i64 0, .string ⟨#[]⟩] 92)
      have g0hA : w.heap.size + 2 ≤ v26.heap.size := hsz
      have ne : ghC ≠ v26.heap.size := Nat.ne_of_lt (heap_lt hC)
      replace hC := keep_heap hC hb
      replace hv1 := hv1.call hb; replace hv2 := hv2.call hb; replace hB := BelowOn hB hb; replace hsz := Nat.le_trans hsz hb.size
      go_simp
      refine hK.out _ _ ⟨hv1, hv2⟩ (fun hHeld => ?_)
      clear hK K hb
      try simp only [Act.put, List.getElem_toArray, List.getElem_cons_zero, List.getElem_cons_succ, List.setIfInBounds_toArray, List.set_cons_zero, List.set_cons_succ]
      generalize v26.alloc (.cells #[.int .i64 0, .string ⟨#[]⟩, .int .i64 0, .int .i64 0, .int .i64 0, .int .i64 0, .string ⟨#[]⟩] 92) = v32 at *
      generalize v26.heap.size = ghA at *
      refine wpAnyH_ready (rs := [1]) (by kernel_rfl) (by simp) ?_
      refine AllReadyH.cons rfl (fun K hK => ?_) (AllReadyH.nil)
      · skip
        go_simp
        refine (HN1.out v32).mono ?_; rintro e v33 ⟨rfl, hb⟩
        replace hC := keep_heap hC hb
        replace hA := keep_heap hA hb
        replace hv1 := hv1.call hb; replace hv2 := hv2.call hb; replace hB := BelowOn hB hb; replace hsz := Nat.le_trans hsz hb.size
        go_wp2_with fail
        refine hK.out _ _ ⟨hv1, hv2⟩ (fun hHeld => ?_)
        clear hK K hb
        try simp only [Act.put, List.getElem_toArray, List.getElem_cons_zero, List.getElem_cons_succ, List.setIfInBounds_toArray, List.set_cons_zero, List.set_cons_succ]
        refine wpAnyH_ready (rs := [3]) (by kernel_rfl) (by simp) ?_
        refine AllReadyH.cons rfl (fun K hK => ?_) (AllReadyH.nil)
        · skip
          go_simp
          refine (HN2.out v33).mono ?_; rintro e v34 ⟨rfl, hb⟩
          replace hC := keep_heap hC hb
          replace hA := keep_heap hA hb
          replace hv1 := hv1.call hb; replace hv2 := hv2.call hb; replace hB := BelowOn hB hb; replace hsz := Nat.le_trans hsz hb.size
          go_wp2_with fail
          refine hK.out _ _ ⟨hv1, hv2⟩ (fun hHeld => ?_)
          clear hK K hb
          try simp only [Act.put, List.getElem_toArray, List.getElem_cons_zero, List.getElem_cons_succ, List.setIfInBounds_toArray, List.set_cons_zero, List.set_cons_succ]
          refine wpAnyH_ready (rs := [6]) (by kernel_rfl) (by simp) ?_
          refine AllReadyH.cons rfl (fun K hK => ?_) AllReadyH.nil
          clear hHeld
          have neAC : ghA ≠ ghC := by first | exact ne | exact Ne.symm ne
          have s1 := World.rangeAt_setCells_same v34 ghA 0 (penc x 0) (there_of hA (Nat.le_refl 7))
          have k1 := setCells_grown (penc x 0) v34 ghA 0
          have hC2 : (v34.setCells ghA 0 (penc x 0)).heap[ghC]? = _ := (k1.block ghC (heap_lt hC) (fun e => neAC (by injection e with e; exact e.symm))).trans hC
          have hB1 := below_of_grow hB k1 hB.size (by omega)
          replace hv1 := hv1.keepG k1 (by omega); replace hv2 := hv2.keepG k1 (by omega)
          refine step_store_mid rfl 92 _ _ rfl ghA 0 (penc x 0).toArray (by rfl) (by rfl) (there_of hA (Nat.le_refl 7)) size62 (penc_one _ _) ?_
          refine hK.out _ _ ⟨hv1, hv2⟩ (fun hHeld => ?_)
          clear hK K k1
          have e1 : (penc x 0).toArray.toList = penc x 0 := rfl
          rw [e1]
          generalize v34.setCells ghA 0 (penc x 0) = u1 at *
          try simp only [Act.put, List.getElem_toArray, List.getElem_cons_zero, List.getElem_cons_succ, List.setIfInBounds_toArray, List.set_cons_zero, List.set_cons_succ]
          refine wpAnyH_ready (rs := [7]) (by kernel_rfl) (by simp) ?_
          refine AllReadyH.cons rfl (fun K hK => ?_) AllReadyH.nil
          have s2 := World.rangeAt_setCells_same u1 ghC 0 (penc y 0) (there_of hC2 (Nat.le_refl 7))
          have k1 := setCells_grown (penc y 0) u1 ghC 0
          replace s1 := World.rangeAt_setCells_apart s1 ghC 0 (penc y 0) (.inl neAC)
          have hB2 := below_of_grow hB1 k1 hB1.size (by omega)
          replace hv1 := hv1.keepG k1 (by omega); replace hv2 := hv2.keepG k1 (by omega)
          refine step_store_mid rfl 92 _ _ rfl ghC 0 (penc y 0).toArray (by rfl) (by rfl) (there_of hC2 (Nat.le_refl 7)) size62 (penc_one _ _) ?_
          refine hK.out _ _ ⟨hv1, hv2⟩ (fun hHeld => ?_)
          clear hK K
          have e2 : (penc y 0).toArray.toList = penc y 0 := rfl
          rw [e2]
          have lA := block_of_range s1 0 rfl; have lC := block_of_range s2 0 rfl
          generalize u1.setCells ghC 0 (penc y 0) = u2 at *
          try simp only [Act.put, List.getElem_toArray, List.getElem_cons_zero, List.getElem_cons_succ, List.setIfInBounds_toArray, List.set_cons_zero, List.set_cons_succ]
          refine wpAnyH_done (by kernel_rfl) ?_ _
          have hP := fun H1 H2 => partcost_any x y ghA 0 ghC 0 0 0 u2 H1 H2
          have HP := Lib.hid (hP (PtA.of_range s1 lA) (PtA.of_range s2 lC)); clear hP s1 s2
          go_wp2_with fail
          refine HP.out.mono ?_; rintro e u3 ⟨rfl, hb⟩
          have hB3 := BelowOn hB2 hb
          clear hv1 hv2 hHeld HP hb hA hC hC2
          go_wp2_with fail
          go_ret2
          exact ⟨rfl, hB3⟩
end Go.Proofs.Ytpkipdiecnokhaa
namespace Go.Proofs.Ytpkipdiecnokhaa
open Go.ChangeShapes Go.WideShapes Go.ChangeAt Go.RowKit Go.Sort
set_option linter.unusedVariables false
set_option linter.unusedSimpArgs false
set_option maxRecDepth 100000

theorem RowG.made {α : Type} {enc : α → List Value} {t sz : Nat} (hlen : ∀ x, (enc x).length = sz) (W : World) (n : Nat) (z : α) (zc : Array Value) (hz : zc.toList = enc z) :
    RowG enc t sz W.heap.size (List.replicate n z) (W.alloc (.cells (madeCells zc (n * sz)) t)) := by
  have hh := heap_alloc_new W (.cells (madeCells zc (n * sz)) t)
  refine ⟨⟨_, hh⟩, fun i hi j v hv => ?_, hlen⟩
  rw [List.length_replicate] at hi
  rw [List.getElem_replicate, ← hz] at hv
  have hs : zc.size = sz := by have := congrArg List.length hz; rw [hlen] at this; simpa using this
  have hj : j < sz := by have := (List.getElem?_eq_some_iff.1 hv).1; simp at this; omega
  have hlt : i * sz + j < n * sz := by
    have := Nat.mul_le_mul_right sz (show i + 1 ≤ n from hi); rw [Nat.add_mul, Nat.one_mul] at this; omega
  rw [Lib.cell_of_heap hh]
  have hm : (i * sz + j) % zc.size = j := by rw [hs, Nat.add_comm, Nat.add_mul_mod_self_right, Nat.mod_eq_of_lt hj]
  unfold madeCells
  simp [hlt, hm]
  have hv2 : zc[j]? = some v := by simpa using hv
  rw [getElem!_def, hv2]
/-- A part: a token and its index. -/
structure Pa where
  x : It
  i : Int
def paenc (a : Pa) : List Value := penc a.x a.i
theorem paenc_len (a : Pa) : (paenc a).length = 7 := rfl
abbrev RowP := RowG paenc 92 7
abbrev Pas := Rw paenc 7
/-- The parts of a list whose first token has the index i. -/
def parts : Nat → List It → List Pa
  | _, [] => []
  | i, x :: l => ⟨x, (i : Int)⟩ :: parts (i + 1) l
theorem parts_len (l : List It) : ∀ i, (parts i l).length = l.length := by
  induction l with
  | nil => intro i; rfl
  | cons x l ih => intro i; simp [parts, ih]
theorem parts_at (l : List It) : ∀ i j (h : j < l.length), (parts i l)[j]'(by rw [parts_len]; exact h) = ⟨l[j], ((i + j : Nat) : Int)⟩ := by
  induction l with
  | nil => intro i j h; cases h
  | cons x l ih =>
    intro i j h
    cases j with
    | zero => rfl
    | succ j => simp only [parts, List.getElem_cons_succ]; rw [ih (i + 1) j (by simpa using h)]; rw [show i + 1 + j = i + (j + 1) by omega]
def zpa : Pa := ⟨⟨0, ⟨#[]⟩, 0⟩, 0⟩
theorem infoP : (Try.prog.info? 92).map (fun i => (i.zero, i.size, i.bytes)) = some (some (.agg #[.int .i64 0, .string .empty, .int .i64 0, .int .i64 0, .int .i64 0, .int .i64 0, .string .empty]), 7, 72) := by kernel_rfl
theorem make_parts (w : World) (n : Nat) (hn : n ≤ 1000000) : ∃ cs, (Instr.makeSlice 76 (.int .i64 (n : Int)) (.int .i64 (n : Int))).run Try.prog w = .ok (.slice (some ⟨w.heap.size, 0, none⟩) n n) (w.alloc (.cells cs 92)) ∧ cs = madeCells #[.int .i64 0, .string .empty, .int .i64 0, .int .i64 0, .int .i64 0, .int .i64 0, .string .empty] (n * 7) := by
  cases hi : Try.prog.info? 92 with
  | none => have := infoP; rw [hi] at this; cases this
  | some i =>
    have h4 := infoP
    rw [hi] at h4
    simp only [Option.map_some, Option.some.injEq, Prod.mk.injEq] at h4
    obtain ⟨hz, hs, hb⟩ := h4
    have := run_make (P := Try.prog) w 76 92 i _ Try.underlying76 hi hz .i64 .i64 (n : Int) (n : Int) (by omega) (by omega) (by rw [hb]; omega) (by omega)
    refine ⟨_, ?_, rfl⟩
    rw [this, hs, show ((n : Int)).toNat = n by omega]; rfl
end Go.Proofs.Ytpkipdiecnokhaa
namespace Go.Proofs.Ytpkipdiecnokhaa
open Go.ChangeShapes Go.WideShapes Go.ChangeAt Go.RowKit Go.Sort
set_option linter.unusedVariables false
set_option linter.unusedSimpArgs false
set_option maxRecDepth 100000

theorem fill_next {α : Type} (P : List α) (z : α) (k : Nat) (hk : k < P.length) : (P.take k ++ List.replicate (P.length - k) z).set k (P[k]'hk) = P.take (k + 1) ++ List.replicate (P.length - (k + 1)) z := by
  have hl : (P.take k).length = k := by simp; omega
  rw [List.set_append_right _ _ (by omega), hl, Nat.sub_self, show P.length - k = (P.length - (k + 1)) + 1 by omega, List.replicate_succ, List.set_cons_zero, List.take_succ_eq_append_getElem hk, List.append_assoc]
  rfl
theorem fill_len {α : Type} (P : List α) (z : α) (k : Nat) (hk : k ≤ P.length) : (P.take k ++ List.replicate (P.length - k) z).length = P.length := by simp; omega
theorem hpa {w : World} {p : Option Addr} {l : List It} (h : Its w p l) (h0 : 0 < l.length) : ∀ a, p = some a → a.block ≠ w.heap.size := fun a ha => by
  obtain ⟨b, e, hlt, _⟩ := h h0
  rw [ha] at e; injection e with e; subst e; omega
def txtsB (l : List It) : Prop := ∀ x ∈ l, x.t.size ≤ 1000
set_option maxHeartbeats 3200000 in
theorem newparts_any (p : Option Addr) (c : Nat) (l : List It) (w : World) (hR : Its w p l) (hc : l.length ≤ c) (hm : c ≤ maxLen) (hl : l.length ≤ 100000) (ht : txtsB l) :
    Calls Try.prog 54 #[.slice p l.length c] w fun e w' => ∃ g, e = .returned (.slice (some ⟨g, 0, none⟩) l.length l.length) ∧ Below w.heap.size w w' ∧ w.heap.size ≤ g ∧ RowP g (parts 0 l) w' := by
  unfold maxLen at hm
  obtain ⟨cs, hmk, hcs⟩ := make_parts w l.length (by omega)
  have hrow : RowP w.heap.size (List.replicate l.length zpa) (w.alloc (.cells cs 92)) := by
    rw [hcs]; exact RowG.made paenc_len w l.length zpa _ rfl
  have hB0 : Below w.heap.size w (w.alloc (.cells cs 92)) := blw (Below.refl _ _) _
  have hI0 := hR.call hB0
  clear hcs
  have hpl := parts_len l 0
  go_enter Try.func54, Try.ntmps54
  go_wp2_with fail
  generalize (w.alloc (.cells cs 92)) = w1 at *
  clear hmk
  go_loopw [11] (fun i wr => ∃ k : Nat, k ≤ l.length ∧ i = .int .i64 k ∧ Below w.heap.size w wr ∧ Its wr p l ∧ RowP w.heap.size ((parts 0 l).take k ++ List.replicate ((parts 0 l).length - k) zpa) wr) (fun i _ => l.length - (intOf i).toNat)
  case atStart => exact ⟨0, Nat.zero_le _, rfl, hB0, hI0, by rw [hpl]; simpa using hrow⟩
  case round =>
    obtain ⟨k, hk, rfl, hB, hI, hP⟩ := hrel
    by_cases hlt : k < l.length
    · obtain ⟨a, rfl, ha, c0, c1, c2⟩ := hI.row k hlt
      have hn := fun W => newpart_any l[k] (k : Int) W (ht _ (List.getElem_mem hlt))
      have hpk := parts_at l 0 k hlt
      rw [Nat.zero_add] at hpk
      have hkp : k < (parts 0 l).length := by omega
      have hset := fun W h => RowG.set (enc := paenc) (t := 92) (sz := 7) (g := w.heap.size) (P := (parts 0 l).take k ++ List.replicate ((parts 0 l).length - k) zpa) (W := W) h k (by rw [fill_len _ _ _ (by omega)]; exact hkp) ((parts 0 l)[k]'hkp)
      rw [fill_next (parts 0 l) zpa k hkp, hpk] at hset
      have hth := fun W (h : RowP w.heap.size ((parts 0 l).take k ++ List.replicate ((parts 0 l).length - k) zpa) W) => h.there k (by rw [fill_len _ _ _ (by omega)]; exact hkp)
      generalize l[k] = x at *
      have hB1 : Below w.heap.size w (wr.alloc (.cells #[.int .i64 x.k, .string x.t, .int .i64 x.id] 57)) := blw hB _
      have hI1 := hI.call ((Below.refl _ _).alloc (Nat.le_refl _) (.cells #[.int .i64 x.k, .string x.t, .int .i64 x.id] 57))
      have hP1 := hP.alloc (.cells #[.int .i64 x.k, .string x.t, .int .i64 x.id] 57)
      have HX := Lib.hid (And.intro hn (And.intro hset hth))
      have HS := Lib.hid (And.intro hB1 (And.intro hI1 hP1))
      clear hn hset hth hpk hB1 hI1 hP1 hB hI hP hrow hI0 hB0
      go_wp2_with fail
      obtain ⟨hn, hset, hth⟩ := HX.out
      obtain ⟨hB1, hI1, hP1⟩ := HS.out
      generalize (wr.alloc (.cells #[.int .i64 x.k, .string x.t, .int .i64 x.id] 57)) = w2 at *
      refine (hn _).mono ?_; rintro e w3 ⟨rfl, hb⟩
      have hB3 := BelowOn hB1 hb
      have hI3 := hI1.call hb
      have hP3 := hP1.call hb
      have ht3 := hth _ hP3
      have hP4 := hset _ hP3
      have hg4 := setCells_grown (paenc ⟨x, (k : Int)⟩) w3 w.heap.size (k * 7)
      have hB4 := below_of_grow hB3 hg4 hB3.size (Nat.le_refl _)
      have hI4 := Its.other hI3 hg4 (hpa hR (by omega))
      clear hn hset hth hB1 hI1 hP1 HX HS hb hB3 hI3 hP3 hg4
      have HS := Lib.hid (And.intro hB4 (And.intro hI4 hP4))
      clear hB4 hI4 hP4
      go_upto_region 6 with (refine wpList_store_mid (by rfl) 92 _ _ (by rfl) w.heap.size (k * 7) (penc x (k : Int)).toArray (by rfl) (by rfl) ht3 size62 (penc_one _ _) ?_)
      have e1 : penc x (k : Int) = paenc ⟨x, (k : Int)⟩ := rfl
      rw [e1]
      clear e1 ht3 c0 c1 c2
      generalize (w3.setCells w.heap.size (k * 7) (paenc ⟨x, (k : Int)⟩)) = w4 at *
      go_wp2_with fail
      obtain ⟨hB4, hI4, hP4⟩ := HS.out
      go_roundw
      case rel => exact ⟨k + 1, hlt, by go_num, hB4, hI4, hP4⟩
      case measure => simp [intOf]; omega
    · obtain rfl : k = l.length := by omega
      rw [← hpl, Nat.sub_self, List.take_length, List.replicate_zero, List.append_nil] at hP
      go_wp2_with fail
      go_ret
      exact ⟨_, rfl, hB, Nat.le_refl _, hP⟩
end Go.Proofs.Ytpkipdiecnokhaa
namespace Go.Proofs.Ytpkipdiecnokhaa
open Go.ChangeShapes Go.WideShapes Go.ChangeAt Go.RowKit Go.Sort
set_option linter.unusedVariables false
set_option linter.unusedSimpArgs false
set_option maxRecDepth 100000

/-- A cell of the table: a price and a column. -/
structure Ce where
  p : Nat
  c : Nat
def cenc (x : Ce) : List Value := [.int .i64 x.p, .int .i64 x.c]
theorem cenc_len (x : Ce) : (cenc x).length = 2 := rfl
theorem cenc_one (x : Ce) : (cenc x).toArray.all (·.oneCell') = true := all_oneCell_toArray fun v hv => by
  simp [cenc] at hv; rcases hv with rfl | rfl <;> rfl
theorem size72 : (Try.prog.info? 74).map (·.size) = some 2 := by kernel_rfl
abbrev RowC := RowG cenc 74 2
theorem RowC.cells {g : Nat} {P : List Ce} {W : World} (h : RowC g P W) (i : Nat) (hi : i < P.length) : W.cell? ⟨g, i * 2, none⟩ = some (.int .i64 (P[i]'hi).p) ∧ W.cell? ⟨g, i * 2 + 1, none⟩ = some (.int .i64 (P[i]'hi).c) :=
  ⟨h.each i hi 0 _ rfl, h.each i hi 1 _ rfl⟩
theorem RowC.frozen {g : Nat} {P : List Ce} {W : World} (h : RowC g P W) (i : Nat) : W.frozen? ⟨g, i, none⟩ = false := by
  obtain ⟨cur, hc⟩ := h.row; exact Lib.frozen_of_heap hc _
theorem after_any (p c n : Nat) (w : World) (hp : p + n ≤ 1000000000) :
    Calls Try.prog 80 #[.agg #[.int .i64 p, .int .i64 c], .int .i64 n] w fun e w' => e = .returned (.agg #[.int .i64 ((p + n : Nat) : Int), .int .i64 c]) ∧ Below w.heap.size w w' := by
  go_enter Try.func80, Try.ntmps80
  go_wp2_with fail
  refine bodyPost_ret (v := .agg #[.int .i64 ((p : Int) + (n : Int)), .int .i64 c]) (by simp [results, Try.results80, asAddr, Result.andThen, Act.put, go_sem]) rfl ⟨by simp, blw (blw (Below.refl _ _) _) _⟩
theorem mix_next {α : Type} (A B : List α) (k : Nat) (hk : k < A.length) (hl : A.length = B.length) : (A.take k ++ B.drop k).set k (A[k]'hk) = A.take (k + 1) ++ B.drop (k + 1) := by
  have h1 : (A.take k).length = k := by simp; omega
  rw [List.set_append_right _ _ (by omega), h1, Nat.sub_self, List.drop_eq_getElem_cons (show k < B.length by omega), List.set_cons_zero, List.take_succ_eq_append_getElem hk, List.append_assoc]
  rfl
theorem mix_len {α : Type} (A B : List α) (k : Nat) (hk : k ≤ A.length) (hl : A.length = B.length) : (A.take k ++ B.drop k).length = A.length := by simp; omega
theorem mix_at {α : Type} (A B : List α) (k : Nat) (hk : k < A.length) (hl : A.length = B.length) : (A.take k ++ B.drop k)[k]'(by rw [mix_len A B k (by omega) hl]; exact hk) = B[k]'(by omega) := by
  have h1 : (A.take k).length = k := by simp; omega
  rw [List.getElem_append_right (by omega)]
  simp [h1]
/-- Every cell with its own column. -/
def begL : Nat → List Ce → List Ce
  | _, [] => []
  | i, x :: l => ⟨x.p, i⟩ :: begL (i + 1) l
theorem begL_len (l : List Ce) : ∀ i, (begL i l).length = l.length := by
  induction l with
  | nil => intro i; rfl
  | cons x l ih => intro i; simp [begL, ih]
theorem begL_at (l : List Ce) : ∀ i j (h : j < l.length), (begL i l)[j]'(by rw [begL_len]; exact h) = ⟨(l[j]).p, i + j⟩ := by
  induction l with
  | nil => intro i j h; cases h
  | cons x l ih =>
    intro i j h
    cases j with
    | zero => rfl
    | succ j => simp only [begL, List.getElem_cons_succ]; rw [ih (i + 1) j (by simpa using h)]; rw [show i + 1 + j = i + (j + 1) by omega]
set_option maxHeartbeats 1600000 in
theorem begin_any (g : Nat) (P : List Ce) (w : World) (h : RowC g P w) (hn : P.length ≤ 1000000) :
    Calls Try.prog 68 #[.slice (some ⟨g, 0, none⟩) P.length P.length] w fun e w' => e = .returned (.tuple #[]) ∧ w.grownBy w' (some g) ∧ RowC g (begL 0 P) w' := by
  have hbl := begL_len P 0
  go_enter Try.func68, Try.ntmps68
  go_wp2_with fail
  go_loopw [5] (fun i wr => ∃ k : Nat, k ≤ P.length ∧ i = .int .i64 k ∧ w.grownBy wr (some g) ∧ RowC g ((begL 0 P).take k ++ P.drop k) wr) (fun i _ => P.length - (intOf i).toNat)
  case atStart => exact ⟨0, Nat.zero_le _, rfl, World.grownBy.refl _ _, by simpa using h⟩
  case round =>
    obtain ⟨k, hk, rfl, hG, hP⟩ := hrel
    by_cases hlt : k < P.length
    · have hkb : k < (begL 0 P).length := by omega
      have hml := mix_len (begL 0 P) P k (by omega) hbl
      have hma := mix_at (begL 0 P) P k hkb hbl
      have hput := hP.put k (by omega) 1 (by omega) (.int .i64 (k : Int)) ((begL 0 P)[k]'hkb) (by rw [hma, begL_at P 0 k hlt, Nat.zero_add]; rfl)
      rw [mix_next (begL 0 P) P k hkb hbl] at hput
      obtain ⟨v, hc⟩ : ∃ v, wr.cell? ⟨g, k * 2 + 1, none⟩ = some v := ⟨_, (RowC.cells hP k (by omega)).2⟩
      have hf := RowC.frozen hP (k * 2 + 1)
      have hg2 := grow_then hG (grow_cell wr g (k * 2 + 1) (.int .i64 (k : Int)))
      have HX := Lib.hid (And.intro hput hg2)
      clear hput hg2 hma hml hP hG
      go_wp2_with fail
      obtain ⟨hput, hg2⟩ := HX.out
      go_roundw
      case rel => exact ⟨k + 1, hlt, by go_num, hg2, hput⟩
      case measure => simp [intOf]; omega
    · obtain rfl : k = P.length := by omega
      rw [← hbl, List.take_length, hbl, List.drop_length, List.append_nil] at hP
      go_wp2_with fail
      go_end0
      exact ⟨rfl, hG, hP⟩
end Go.Proofs.Ytpkipdiecnokhaa
