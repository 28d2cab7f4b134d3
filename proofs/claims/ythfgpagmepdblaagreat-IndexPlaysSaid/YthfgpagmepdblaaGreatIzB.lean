/- Index: contract of step. -/
import Derived.Test.YthfgpagmepdblaaGreatIzA
namespace Go.Proofs.YthfgpagmepdblaaGreat
open Go.ChangeShapes Go.WideShapes Go.ChangeAt Go.RowKit Go.Maps
set_option linter.unusedVariables false
set_option linter.unusedSimpArgs false
set_option maxRecDepth 100000

theorem Ix.nd {w : World} {X N : Nat} {R : Nat → Prop} {S : List Sto} (h : Ix w X R N S) : (S.map (·.id)).Nodup := by obtain ⟨_, _, _, _, _, h1, _⟩ := h; exact h1.nd
/-- What the law has beside the index. -/
structure PlS (w : World) (b lo hi : Nat) (pn : Option Addr) (cn : Nat) (L : List Int) (qa : Option Addr) (LL : List LV) (R : Nat → Prop) (ps : Option Addr) (SS : List SV) (m : Nat) (W : World) : Prop where
  below : Below w.heap.size w W
  nums : NumsAt W b pn cn L m
  bb : BB W hi qa LL
  bl : BL lo qa LL
  bh : hi ≤ b
  wl : w.heap.size ≤ lo
  lh : lo ≤ hi
  row : RwO svenc W ps SS
  rown : 0 < SS.length → ∀ a, ps = some a → ¬ R a.block ∧ b < a.block
  mem : ∀ s ∈ SS, s.x ∈ LL ∧ (Lit.int .i64 s.id).wf = true
  rr : ∀ j, R j → w.heap.size ≤ j ∧ (j < lo ∨ hi ≤ j) ∧ j ≠ b
  plo : 0 < L.length → ∀ a, pn = some a → a.block < w.heap.size
section
variable {w W W' : World} {b lo hi cn m : Nat} {pn qa ps : Option Addr} {L : List Int} {LL : List LV} {R R' : Nat → Prop} {SS : List SV}
theorem PlS.call (h : PlS w b lo hi pn cn L qa LL R ps SS m W) (hb : Below W.heap.size W W') : PlS w b lo hi pn cn L qa LL R ps SS m W' :=
  ⟨BelowOn h.below hb, h.nums.call hb, h.bb.call hb, h.bl, h.bh, h.wl, h.lh, h.row.call hb, h.rown, h.mem, h.rr, h.plo⟩
theorem PlS.next (h : PlS w b lo hi pn cn L qa LL R ps SS m W) {m' : Nat} (hg : W.grownBy W' (some b)) (hN : NumsAt W' b pn cn L m') : PlS w b lo hi pn cn L qa LL R ps SS m' W' := by
  have hk : Kept (fun k => k = b) W W' := Kept.grown hg fun k e _ => by injection e with e; exact e.symm
  have hwb : w.heap.size ≤ b := Nat.le_trans h.wl (Nat.le_trans h.lh h.bh)
  exact ⟨h.below.trans (hk.toBelow h.below.size (fun k e => by omega)), hN, h.bb.keptF h.bl hk (fun j e => .inr (by have := h.bh; omega)), h.bl, h.bh, h.wl, h.lh, h.row.kept hk (fun h0 a ha c => by have := (h.rown h0 a ha).2; omega), h.rown, h.mem, h.rr, h.plo⟩
/-- The index has turned. -/
theorem PlS.turn (h : PlS w b lo hi pn cn L qa LL R ps SS m W) (k : Kept R W W') (hR : ∀ j, R' j → R j ∨ W.heap.size ≤ j) : PlS w b lo hi pn cn L qa LL R' ps SS m W' := by
  have hs := h.below.size
  refine ⟨h.below.trans (k.toBelow hs (fun j hj => (h.rr j hj).1)), ?_, h.bb.keptF h.bl k (fun j hj => (h.rr j hj).2.1), h.bl, h.bh, h.wl, h.lh, h.row.kept k (fun h0 a ha => (h.rown h0 a ha).1), fun h0 a ha => ⟨fun c => ?_, (h.rown h0 a ha).2⟩, h.mem, fun j hj => ?_, h.plo⟩
  · exact h.nums.keep k.size (k.block _ h.nums.lt (fun c => (h.rr _ c).2.2 rfl)) (fun h0 a ha => k.block _ (by have := h.plo h0 a ha; omega) (fun c => by have := (h.rr _ c).1; have := h.plo h0 a ha; omega))
  · rcases hR _ c with c | c
    · exact (h.rown h0 a ha).1 c
    · obtain ⟨a2, e2, h2, _⟩ := h.row h0
      rw [ha] at e2; injection e2 with e2
      rw [← e2] at h2; omega
  · rcases hR j hj with c | c
    · exact h.rr j c
    · exact ⟨by omega, .inr (by have := h.bb.bs; omega), by have := h.nums.lt; omega⟩
/-- A new row of stored lists. -/
theorem PlS.fresh (h : PlS w b lo hi pn cn L qa LL R ps SS m W) {SS' : List SV} {v : Value} {B : Nat} (hb : Below W.heap.size W W') (hown : OwnL 56 2 svenc B SS' v W') (hB : W.heap.size ≤ B) (hRl : ∀ j, R j → j < B) (hm : ∀ s ∈ SS', s.x ∈ LL ∧ (Lit.int .i64 s.id).wf = true) :
    ∃ ps' cs', v = .slice ps' SS'.length cs' ∧ SS'.length ≤ cs' ∧ cs' ≤ maxLen ∧ PlS w b lo hi pn cn L qa LL R ps' SS' m W' := by
  obtain ⟨p, c, e, h1, h2, h3, h4⟩ := own_rwo eSV hown
  have h' := h.call hb
  exact ⟨p, c, e, h1, h2, h'.below, h'.nums, h'.bb, h'.bl, h'.bh, h'.wl, h'.lh, h3, fun h0 a ha => ⟨fun cc => by have := hRl _ cc; have := (h4 a ha).1; omega, by have := (h4 a ha).1; have := h.nums.lt; omega⟩, hm, h'.rr, h'.plo⟩
theorem PlS.svs (h : PlS w b lo hi pn cn L qa LL R ps SS m W) : SVs W SS :=
  ⟨fun s hs => by obtain ⟨q1, q2, q3, _⟩ := h.bb.its s.x (h.mem s hs).1; exact ⟨q1, q2, q3⟩, fun s hs => ⟨(h.bb.ok s.x (h.mem s hs).1).lok (by omega), (h.mem s hs).2⟩⟩
end
theorem sv_cut (SS : List SV) (hn : ((SS.map SV.sto).map (·.id)).Nodup) (j : Nat) (h : j < SS.length) : dlS (SS.map SV.sto) (SS[j]'h).id = (SS.take j ++ SS.drop (j + 1)).map SV.sto := by
  have e : SS = SS.take j ++ SS[j] :: SS.drop (j + 1) := by rw [← List.drop_eq_getElem_cons h, List.take_append_drop]
  generalize SS[j] = s at *
  generalize SS.take j = A at *
  generalize SS.drop (j + 1) = D at *
  subst e
  rw [List.map_append, List.map_append, List.map_cons, List.map_cons, List.nodup_append] at hn
  obtain ⟨_, hn2, hn3⟩ := hn
  rw [List.nodup_cons] at hn2
  rw [List.map_append, List.map_cons, List.map_append]
  unfold dlS
  rw [List.filter_append, List.filter_cons]
  rw [if_neg (show ¬ decide ((SV.sto s).id ≠ s.id) = true by simp [SV.sto])]
  congr 1
  · rw [List.filter_eq_self]
    intro t ht
    simp only [ne_eq, decide_eq_true_eq]
    exact fun c => hn3 t.id (List.mem_map_of_mem ht) s.id (List.mem_cons_self ..) c
  · rw [List.filter_eq_self]
    intro t ht
    simp only [ne_eq, decide_eq_true_eq]
    exact fun c => hn2.1 (by show s.id ∈ _; rw [← c]; exact List.mem_map_of_mem ht)
theorem sv_none (SS : List SV) (i : Int) (h : ∀ j (hj : j < SS.length), (SS[j]'hj).id ≠ i) : lkS (SS.map SV.sto) i = none := by
  rw [lkS_none]
  intro s hs c
  rw [List.mem_map] at hs
  obtain ⟨t, ht, rfl⟩ := hs
  obtain ⟨j, hj, rfl⟩ := List.getElem_of_mem ht
  exact h j hj c
theorem sv_some (SS : List SV) (hn : ((SS.map SV.sto).map (·.id)).Nodup) (j : Nat) (h : j < SS.length) : lkS (SS.map SV.sto) (SS[j]'h).id ≠ none := by
  have := lkS_of hn (List.mem_map_of_mem (f := SV.sto) (List.getElem_mem h))
  rw [show (SV.sto SS[j]).id = (SS[j]).id from rfl] at this
  rw [this]; simp
theorem sv_add (SS : List SV) (i : Int) (x : LV) (h : lkS (SS.map SV.sto) i = none) (hl : SS.length < 1024) : addB (SS.map SV.sto) i = true ∧ addS (SS.map SV.sto) i x.l = (SS ++ [(⟨i, x⟩ : SV)]).map SV.sto := by
  have h1 : addB (SS.map SV.sto) i = true := by unfold addB; rw [h]; simp; exact hl
  exact ⟨h1, by unfold addS; rw [if_pos h1, List.map_append]; rfl⟩
theorem sv_not (S : List Sto) (i : Int) (l : List It) (h : lkS S i ≠ none) : addB S i = false ∧ addS S i l = S := by
  have h1 : addB S i = false := by unfold addB; rw [decide_eq_false h]; rfl
  exact ⟨h1, by unfold addS; rw [h1]; rfl⟩
/-- What step leaves. -/
def StEnd (w : World) (X b lo hi N : Nat) (pn : Option Addr) (cn : Nat) (L : List Int) (qa : Option Addr) (LL : List LV) (n m : Nat) (e : Ending) (W' : World) : Prop :=
  ∃ (ps' : Option Addr) (cs' : Nat) (SS' : List SV) (R' : Nat → Prop) (m' : Nat), e = .returned (.tuple #[.slice ps' SS'.length cs', .bool true]) ∧ Ix W' X R' (N + 1000) (SS'.map SV.sto) ∧ m' ≤ m + 3 ∧ PlS w b lo hi pn cn L qa LL R' ps' SS' m' W' ∧ SS'.length ≤ n + 1 ∧ SS'.length ≤ cs' ∧ cs' ≤ maxLen
set_option maxHeartbeats 25600000 in
theorem lstep_any {w : World} {X b lo hi N cn m ca cs : Nat} {R : Nat → Prop} {pn qa ps : Option Addr} {L : List Int} {LL : List LV} {SS : List SV} {W : World} (hX : Ix W X R N (SS.map SV.sto)) (hP : PlS w b lo hi pn cn L qa LL R ps SS m W) (hca : LL.length ≤ ca) (hcm : ca ≤ maxLen) (hcs : SS.length ≤ cs) (hms : cs ≤ maxLen) (hn : SS.length ≤ 100) (hL8 : LL.length ≤ 8) (hN : N ≤ 900000) (hm : m ≤ 1000) :
    Calls Tryz.prog 9 #[.pointer (some ⟨X, 0, none⟩), .slice ps SS.length cs, .pointer (some ⟨b, 0, none⟩), .slice qa LL.length ca] W (StEnd w X b lo hi N pn cn L qa LL SS.length m) := by
  have HNX := Lib.hid (fun W (m : Nat) (n : Int) (k : Nat) hk hN (h1 : m ≤ 2000) (h2 : 1 ≤ n) (h3 : n ≤ 1000) => next_any b pn cn L m n k hk W hN (by omega) h2 (by omega))
  have HLT := Lib.hid (fun m n (h : 0 < n) => nx_lt L m n h)
  have hmb := hms; have hcb := hcm
  unfold maxLen at hmb hcb
  have HND := Lib.hid hX.nd; have HRL := Lib.hid hX.lt
  have HX := Lib.hid hX
  clear hX
  go_enter Tryz.func9, Tryz.ntmps9
  go_wp2_with fail
  refine (HNX.out W m 6 6 rfl hP.nums (by omega) (by omega) (by omega)).mono ?_; rintro e W1 ⟨rfl, hg1, hN1⟩
  have hP1 := hP.next hg1 hN1
  have hX1 := HX.out.apart (F := fun k => k = b) (Kept.grown hg1 fun k e _ => by injection e with e; exact e.symm) (fun k hk c => (hP.rr k hk).2.2 c)
  have h6 := HLT.out m 6 (by omega)
  generalize nx L m 6 = N6 at *
  obtain ⟨id, hid⟩ : ∃ id : Int, id = (N6 : Int) - 2 := ⟨_, rfl⟩
  have hwi : IntKind.i64.wrap ((N6 : Int) - 2) = id := by rw [hid]; exact IntWalk.i64_in _ ⟨by omega, by omega⟩
  have hwid : (Lit.int .i64 id).wf = true := wf_i64 (by omega) (by omega)
  have HRL := Lib.hid hX1.lt; have HX1 := Lib.hid hX1
  clear hid hP hg1 hN1 hX1 HX
  go_wp2_with fail
  go_loop [11, 19] (fun v i => ∃ (k : Nat) (z : Int), k ≤ SS.length ∧ i = .int .i64 k ∧ v = .int .i64 z ∧ Aside ((z = -1 ∧ ∀ j (hj : j < SS.length), j < k → (SS[j]'hj).id ≠ id) ∨ ∃ j : Nat, z = j ∧ ∃ hj : j < SS.length, (SS[j]'hj).id = id)) (fun _ i => SS.length - (intOf i).toNat)
  case atStart => exact ⟨0, -1, Nat.zero_le _, rfl, rfl, .inl ⟨rfl, fun j _ h => by omega⟩⟩
  case round =>
    obtain ⟨k, z, hk, rfl, rfl, hz⟩ := hrel
    by_cases hlt : k < SS.length
    · obtain ⟨a, rfl, ha, c0, _⟩ := sv_row hP1.row k hlt
      have ik : (k : Int) < (SS.length : Int) := by omega
      have ik2 : (k : Int) < (cs : Int) := by omega
      obtain ⟨y, hy⟩ : ∃ y, y = (SS[k]).id := ⟨_, rfl⟩
      rw [← hy] at c0
      have HZ := Lib.hid hz; have HY := Lib.hid hy
      clear hz hy
      by_cases he : y = id
      · have q : (y == id) = true := by simpa using he
        have HE := Lib.hid he; clear he
        go_wp2_with fail
        go_round
        case rel => exact ⟨k + 1, (k : Int), hlt, by go_num, rfl, .inr ⟨k, rfl, hlt, by rw [← HY.out, HE.out]⟩⟩
        case measure => simp [intOf] <;> omega
      · have q : (y == id) = false := by simpa using he
        have HE := Lib.hid he; clear he
        go_wp2_with fail
        go_round
        case rel => exact ⟨k + 1, z, hlt, by go_num, rfl, HZ.out.imp (fun ⟨h1, h2⟩ => ⟨h1, fun j hj hjk => by
          rcases Nat.lt_or_ge j k with c | c
          · exact h2 j hj c
          · obtain rfl : j = k := by omega
            rw [← HY.out]; exact HE.out⟩) (fun h => h)⟩
        case measure => simp [intOf] <;> omega
    · obtain rfl : k = SS.length := by omega
      have hz2 : (z = -1 ∧ lkS (SS.map SV.sto) id = none) ∨ ∃ j : Nat, z = j ∧ ∃ hj : j < SS.length, (SS[j]'hj).id = id := hz.out.imp (fun ⟨h1, h2⟩ => ⟨h1, sv_none SS id (fun j hj => h2 j hj hj)⟩) (fun h => h)
      have HZ := Lib.hid hz2
      clear hz hz2
      go_wp2_with fail
      refine (HNX.out W1 (m + 1) 3 3 rfl hP1.nums (by omega) (by omega) (by omega)).mono ?_; rintro e W2 ⟨rfl, hg2, hN2⟩
      have hP2 := hP1.next hg2 hN2
      have hX2 := HX1.out.apart (F := fun k => k = b) (Kept.grown hg2 fun k e _ => by injection e with e; exact e.symm) (fun k hk c => (hP1.rr k hk).2.2 c)
      have h3 := HLT.out (m + 1) 3 (by omega)
      generalize nx L (m + 1) 3 = N3 at *
      clear hg2 hN2 hP1 HX1
      by_cases hz3 : N3 = 0
      · have q0 : ((N3 : Int) == 0) = true := by simp [hz3]
        clear hz3
        have hRm := remove_any hX2 hwid (by omega)
        have HRL2 := Lib.hid hX2.lt
        have HP2 := Lib.hid hP2
        rcases HZ.out with ⟨rfl, hnone⟩ | ⟨j, rfl, hj, hjid⟩
        · rw [show decide (lkS (SS.map SV.sto) id ≠ none) = false by rw [hnone]; simp, dlS_none hnone] at hRm
          have HRM := Lib.hid hRm
          clear hRm hnone hX2 hP2 HZ
          go_wp2_with fail
          refine HRM.out.mono ?_; rintro e W3 ⟨rfl, R3, hX3, hR3, hK3⟩
          have HF := Lib.hid (And.intro (hX3.mono (show N ≤ N + 1000 by omega)) (HP2.out.turn hK3 hR3))
          clear hX3 hR3 hK3 HRM
          go_wp2_with fail
          refine bodyPost_ret (v := .tuple #[.slice ps SS.length cs, .bool true]) (by simp [results, Tryz.results9, go_sem]; try rfl) rfl ?_
          obtain ⟨f1, f2⟩ := HF.out
          exact ⟨ps, cs, SS, R3, m + 1 + 1, rfl, f1, by omega, f2, by omega, hcs, hms⟩
        · have hsm := sv_some SS HND.out j hj
          have hct := sv_cut SS HND.out j hj
          rw [hjid] at hsm hct
          rw [show decide (lkS (SS.map SV.sto) id ≠ none) = true from decide_eq_true hsm, hct] at hRm
          have HRM := Lib.hid hRm
          have jl : (j : Int) < (SS.length : Int) := by omega
          have jge : ((j : Nat) : Int) ≥ 0 := by omega
          clear hRm hsm hct hX2 hP2 HZ hjid
          go_wp2_with fail
          refine HRM.out.mono ?_; rintro e W3 ⟨rfl, R3, hX3, hR3, hK3⟩
          have HP3 := Lib.hid (HP2.out.turn hK3 hR3); have HX3 := Lib.hid (hX3.mono (show N ≤ N + 1000 by omega))
          have HR3 := Lib.hid hX3.lt
          clear hX3 hR3 hK3 HRM HP2
          go_wp2_with fail
          refine wp_region_held_drew (S := fun W => True) (by kernel_rfl) (trivial) (fun hHeld => ?_)
          have hP4 := HP3.out.call (drew_below W3); have hX4 := HX3.out.call (drew_below W3); have hR4 : ∀ k, R3 k → k < W3.drew.heap.size := HR3.out
          generalize W3.drew = W4 at *
          clear HP3 HX3 HR3
          have j0 : (0 : Int) ≤ (j : Int) := by omega
          have jn : (j : Int) ≤ (SS.length : Int) := by omega
          have jc : (j : Int) ≤ (cs : Int) := by omega
          have jw : IntKind.i64.wrap ((j : Int) + 1) = (j : Int) + 1 := IntWalk.i64_in _ ⟨by omega, by omega⟩
          have j20 : (0 : Int) ≤ (j : Int) + 1 := by omega
          have j2n : (j : Int) + 1 ≤ (SS.length : Int) := by omega
          have j2c : (j : Int) + 1 ≤ (cs : Int) := by omega
          refine wpAnyH_take (i := 0) (v := ?_) rfl (by kernel_rfl) (by kernel_rfl) (by kernel_rfl) (fun _ _ _ h => h) (Or.inl ⟨by rfl, ?_⟩) hHeld ?_
          rotate_left
          · (intro w hSw; skip; go_simp; try with_reducible rfl)
          try simp only [Act.put, List.getElem_toArray, List.getElem_cons_zero, List.getElem_cons_succ, List.setIfInBounds_toArray, List.set_cons_zero, List.set_cons_succ]
          refine wpAnyH_take (i := 1) (v := ?_) rfl (by kernel_rfl) (by kernel_rfl) (by kernel_rfl) (fun _ _ _ h => h) (Or.inl ⟨by rfl, ?_⟩) hHeld ?_
          rotate_left
          · (intro w hSw; skip; go_simp; try with_reducible rfl)
          try simp only [Act.put, List.getElem_toArray, List.getElem_cons_zero, List.getElem_cons_succ, List.setIfInBounds_toArray, List.set_cons_zero, List.set_cons_succ]
          refine wpAnyH_take (i := 2) (v := ?_) rfl (by kernel_rfl) (by kernel_rfl) (by kernel_rfl) (fun _ _ _ h => h) (Or.inl ⟨by rfl, ?_⟩) hHeld ?_
          rotate_left
          · (intro w hSw; skip; go_simp; try with_reducible rfl)
          try simp only [Act.put, List.getElem_toArray, List.getElem_cons_zero, List.getElem_cons_succ, List.setIfInBounds_toArray, List.set_cons_zero, List.set_cons_succ]
          refine wpAnyH_take (i := 4) (v := ?_) rfl (by kernel_rfl) (by kernel_rfl) (by kernel_rfl) (fun _ _ _ h => h) (Or.inl ⟨by rfl, ?_⟩) hHeld ?_
          rotate_left
          · (intro w hSw; skip; go_simp; try with_reducible rfl)
          try simp only [Act.put, List.getElem_toArray, List.getElem_cons_zero, List.getElem_cons_succ, List.setIfInBounds_toArray, List.set_cons_zero, List.set_cons_succ]
          refine wpAnyH_take (i := 5) (v := ?_) rfl (by kernel_rfl) (by kernel_rfl) (by kernel_rfl) (fun _ _ _ h => h) (Or.inl ⟨by rfl, ?_⟩) hHeld ?_
          rotate_left
          · (intro w hSw; skip; go_simp; try with_reducible rfl)
          try simp only [Act.put, List.getElem_toArray, List.getElem_cons_zero, List.getElem_cons_succ, List.setIfInBounds_toArray, List.set_cons_zero, List.set_cons_succ]
          refine wpAnyH_take (i := 6) (v := ?_) rfl (by kernel_rfl) (by kernel_rfl) (by kernel_rfl) (fun _ _ _ h => h) (Or.inl ⟨by rfl, ?_⟩) hHeld ?_
          rotate_left
          · (intro w hSw; skip; go_simp; try with_reducible rfl)
          try simp only [Act.put, List.getElem_toArray, List.getElem_cons_zero, List.getElem_cons_succ, List.setIfInBounds_toArray, List.set_cons_zero, List.set_cons_succ]
          refine wpAnyH_take (i := 7) (v := ?_) rfl (by kernel_rfl) (by kernel_rfl) (by kernel_rfl) (fun _ _ _ h => h) (Or.inl ⟨by rfl, ?_⟩) hHeld ?_
          rotate_left
          · (intro w hSw; skip; go_simp; try with_reducible rfl)
          try simp only [Act.put, List.getElem_toArray, List.getElem_cons_zero, List.getElem_cons_succ, List.setIfInBounds_toArray, List.set_cons_zero, List.set_cons_succ]
          have el1 : (SS.take j).length = j := by rw [List.length_take]; omega
          have el2 : (SS.drop (j + 1)).length = SS.length - (j + 1) := List.length_drop
          obtain ⟨v1, W5, hrun1, hown1, hg1⟩ := append_el eSV W4 30 W4.heap.size [] (SS.take j) (.slice none 0 0) ps cs (OwnL.nil _ _) (hP4.row.take j) (Nat.le_refl _) (by simp; omega) (by omega)
          have hb5 : Below W4.heap.size W4 W5 := (Below.refl _ _).grown hg1 (Nat.le_refl _) (fun k hk => by cases hk)
          obtain ⟨v2, W6, hrun2, hown2, hg2⟩ := append_el eSV W5 30 W4.heap.size ([] ++ SS.take j) (SS.drop (j + 1)) v1 (if cs = j + 1 then ps else Option.map (fun x => x.add ((j + 1) * 2)) ps) (cs - (j + 1)) hown1 (RwO.drop eSV (hP4.row.call hb5) (j + 1) (by omega) _ (fun a ha hlt => by rw [if_neg (by omega), ha]; rfl)) hb5.size (by simp; omega) (by omega)
          have hb6 : Below W4.heap.size W4 W6 := hb5.grown hg2 hb5.size (fun k hk => (hown1.lt k hk).1)
          rw [List.nil_append] at hown2
          obtain ⟨ps6, cs6, rfl, hc6, hm6, hP6⟩ := hP4.fresh hb6 hown2 (Nat.le_refl _) hR4 (fun s hs => (List.mem_append.1 hs).elim (fun h => hP4.mem s (List.mem_of_mem_take h)) (fun h => hP4.mem s (List.mem_of_mem_drop h)))
          rw [el1] at hrun1
          rw [el2] at hrun2
          have hlen6 : (SS.take j ++ SS.drop (j + 1)).length ≤ SS.length := by rw [List.length_append, el1, el2]; omega
          have HF := Lib.hid (And.intro (hX4.call hb6) (And.intro hP6 (And.intro hlen6 (And.intro hc6 hm6))))
          obtain ⟨n6, hn6⟩ : ∃ n6, n6 = (SS.take j ++ SS.drop (j + 1)).length := ⟨_, rfl⟩
          rw [← hn6] at hrun2
          have HN6 := Lib.hid hn6
          clear hn6
          clear hown1 hg1 hb5 hown2 hg2 hb6 hP6 hlen6 hc6 hm6 hX4 hP4 hR4 el1 el2
          refine wpAnyH_ready (rs := [3]) (by kernel_rfl) (by simp) ?_
          refine (AllReadyH.cons rfl (fun K hK => ?_) AllReadyH.nil)
          refine step_of_wp rfl ?_
          refine Lib.wp_append_run W4 _ _ 30 30 rfl _ _ rfl rfl v1 W5 hrun1 ?_
          refine hK.out _ _ trivial (fun hHeld => ?_)
          clear hK K
          try simp only [Act.put, List.getElem_toArray, List.getElem_cons_zero, List.getElem_cons_succ, List.setIfInBounds_toArray, List.set_cons_zero, List.set_cons_succ]
          refine wpAnyH_ready (rs := [8]) (by kernel_rfl) (by simp) ?_
          refine (AllReadyH.cons rfl (fun K hK => ?_) AllReadyH.nil)
          refine step_of_wp rfl ?_
          refine Lib.wp_append_run W5 _ _ 30 30 rfl _ _ rfl rfl _ W6 hrun2 ?_
          refine hK.out _ _ trivial (fun hHeld => ?_)
          clear hK K
          try simp only [Act.put, List.getElem_toArray, List.getElem_cons_zero, List.getElem_cons_succ, List.setIfInBounds_toArray, List.set_cons_zero, List.set_cons_succ]
          refine wpAnyH_take (i := 9) (v := ?_) rfl (by kernel_rfl) (by kernel_rfl) (by kernel_rfl) (fun _ _ _ h => h) (Or.inl ⟨by rfl, ?_⟩) hHeld ?_
          rotate_left
          · (intro w hSw; skip; go_simp; try with_reducible rfl)
          try simp only [Act.put, List.getElem_toArray, List.getElem_cons_zero, List.getElem_cons_succ, List.setIfInBounds_toArray, List.set_cons_zero, List.set_cons_succ]
          refine wpAnyH_done (by kernel_rfl) ?_ _
          clear hrun1 hrun2
          go_wp2_with fail
          all_goals
            refine bodyPost_ret (v := .tuple #[.slice ps6 n6 cs6, .bool true]) (by simp [results, Tryz.results9, go_sem]; try rfl) rfl ?_
            obtain ⟨f1, f2, f3, f4, f5⟩ := HF.out
            exact ⟨ps6, cs6, SS.take j ++ SS.drop (j + 1), R3, m + 1 + 1, by rw [HN6.out], f1, by omega, f2, by omega, f4, f5⟩
      have q0 : ((N3 : Int) == 0) = false := by simp [hz3]
      by_cases hL0 : LL.length = 0
      · have q1 : ((LL.length : Int) == 0) = true := by simp [hL0]
        clear hL0 hz3
        have hRm := remove_any hX2 hwid (by omega)
        have HRL2 := Lib.hid hX2.lt
        have HP2 := Lib.hid hP2
        rcases HZ.out with ⟨rfl, hnone⟩ | ⟨j, rfl, hj, hjid⟩
        · rw [show decide (lkS (SS.map SV.sto) id ≠ none) = false by rw [hnone]; simp, dlS_none hnone] at hRm
          have HRM := Lib.hid hRm
          clear hRm hnone hX2 hP2 HZ
          go_wp2_with fail
          refine HRM.out.mono ?_; rintro e W3 ⟨rfl, R3, hX3, hR3, hK3⟩
          have HF := Lib.hid (And.intro (hX3.mono (show N ≤ N + 1000 by omega)) (HP2.out.turn hK3 hR3))
          clear hX3 hR3 hK3 HRM
          go_wp2_with fail
          refine bodyPost_ret (v := .tuple #[.slice ps SS.length cs, .bool true]) (by simp [results, Tryz.results9, go_sem]; try rfl) rfl ?_
          obtain ⟨f1, f2⟩ := HF.out
          exact ⟨ps, cs, SS, R3, m + 1 + 1, rfl, f1, by omega, f2, by omega, hcs, hms⟩
        · have hsm := sv_some SS HND.out j hj
          have hct := sv_cut SS HND.out j hj
          rw [hjid] at hsm hct
          rw [show decide (lkS (SS.map SV.sto) id ≠ none) = true from decide_eq_true hsm, hct] at hRm
          have HRM := Lib.hid hRm
          have jl : (j : Int) < (SS.length : Int) := by omega
          have jge : ((j : Nat) : Int) ≥ 0 := by omega
          clear hRm hsm hct hX2 hP2 HZ hjid
          go_wp2_with fail
          refine HRM.out.mono ?_; rintro e W3 ⟨rfl, R3, hX3, hR3, hK3⟩
          have HP3 := Lib.hid (HP2.out.turn hK3 hR3); have HX3 := Lib.hid (hX3.mono (show N ≤ N + 1000 by omega))
          have HR3 := Lib.hid hX3.lt
          clear hX3 hR3 hK3 HRM HP2
          go_wp2_with fail
          refine wp_region_held_drew (S := fun W => True) (by kernel_rfl) (trivial) (fun hHeld => ?_)
          have hP4 := HP3.out.call (drew_below W3); have hX4 := HX3.out.call (drew_below W3); have hR4 : ∀ k, R3 k → k < W3.drew.heap.size := HR3.out
          generalize W3.drew = W4 at *
          clear HP3 HX3 HR3
          have j0 : (0 : Int) ≤ (j : Int) := by omega
          have jn : (j : Int) ≤ (SS.length : Int) := by omega
          have jc : (j : Int) ≤ (cs : Int) := by omega
          have jw : IntKind.i64.wrap ((j : Int) + 1) = (j : Int) + 1 := IntWalk.i64_in _ ⟨by omega, by omega⟩
          have j20 : (0 : Int) ≤ (j : Int) + 1 := by omega
          have j2n : (j : Int) + 1 ≤ (SS.length : Int) := by omega
          have j2c : (j : Int) + 1 ≤ (cs : Int) := by omega
          refine wpAnyH_take (i := 0) (v := ?_) rfl (by kernel_rfl) (by kernel_rfl) (by kernel_rfl) (fun _ _ _ h => h) (Or.inl ⟨by rfl, ?_⟩) hHeld ?_
          rotate_left
          · (intro w hSw; skip; go_simp; try with_reducible rfl)
          try simp only [Act.put, List.getElem_toArray, List.getElem_cons_zero, List.getElem_cons_succ, List.setIfInBounds_toArray, List.set_cons_zero, List.set_cons_succ]
          refine wpAnyH_take (i := 1) (v := ?_) rfl (by kernel_rfl) (by kernel_rfl) (by kernel_rfl) (fun _ _ _ h => h) (Or.inl ⟨by rfl, ?_⟩) hHeld ?_
          rotate_left
          · (intro w hSw; skip; go_simp; try with_reducible rfl)
          try simp only [Act.put, List.getElem_toArray, List.getElem_cons_zero, List.getElem_cons_succ, List.setIfInBounds_toArray, List.set_cons_zero, List.set_cons_succ]
          refine wpAnyH_take (i := 2) (v := ?_) rfl (by kernel_rfl) (by kernel_rfl) (by kernel_rfl) (fun _ _ _ h => h) (Or.inl ⟨by rfl, ?_⟩) hHeld ?_
          rotate_left
          · (intro w hSw; skip; go_simp; try with_reducible rfl)
          try simp only [Act.put, List.getElem_toArray, List.getElem_cons_zero, List.getElem_cons_succ, List.setIfInBounds_toArray, List.set_cons_zero, List.set_cons_succ]
          refine wpAnyH_take (i := 4) (v := ?_) rfl (by kernel_rfl) (by kernel_rfl) (by kernel_rfl) (fun _ _ _ h => h) (Or.inl ⟨by rfl, ?_⟩) hHeld ?_
          rotate_left
          · (intro w hSw; skip; go_simp; try with_reducible rfl)
          try simp only [Act.put, List.getElem_toArray, List.getElem_cons_zero, List.getElem_cons_succ, List.setIfInBounds_toArray, List.set_cons_zero, List.set_cons_succ]
          refine wpAnyH_take (i := 5) (v := ?_) rfl (by kernel_rfl) (by kernel_rfl) (by kernel_rfl) (fun _ _ _ h => h) (Or.inl ⟨by rfl, ?_⟩) hHeld ?_
          rotate_left
          · (intro w hSw; skip; go_simp; try with_reducible rfl)
          try simp only [Act.put, List.getElem_toArray, List.getElem_cons_zero, List.getElem_cons_succ, List.setIfInBounds_toArray, List.set_cons_zero, List.set_cons_succ]
          refine wpAnyH_take (i := 6) (v := ?_) rfl (by kernel_rfl) (by kernel_rfl) (by kernel_rfl) (fun _ _ _ h => h) (Or.inl ⟨by rfl, ?_⟩) hHeld ?_
          rotate_left
          · (intro w hSw; skip; go_simp; try with_reducible rfl)
          try simp only [Act.put, List.getElem_toArray, List.getElem_cons_zero, List.getElem_cons_succ, List.setIfInBounds_toArray, List.set_cons_zero, List.set_cons_succ]
          refine wpAnyH_take (i := 7) (v := ?_) rfl (by kernel_rfl) (by kernel_rfl) (by kernel_rfl) (fun _ _ _ h => h) (Or.inl ⟨by rfl, ?_⟩) hHeld ?_
          rotate_left
          · (intro w hSw; skip; go_simp; try with_reducible rfl)
          try simp only [Act.put, List.getElem_toArray, List.getElem_cons_zero, List.getElem_cons_succ, List.setIfInBounds_toArray, List.set_cons_zero, List.set_cons_succ]
          have el1 : (SS.take j).length = j := by rw [List.length_take]; omega
          have el2 : (SS.drop (j + 1)).length = SS.length - (j + 1) := List.length_drop
          obtain ⟨v1, W5, hrun1, hown1, hg1⟩ := append_el eSV W4 30 W4.heap.size [] (SS.take j) (.slice none 0 0) ps cs (OwnL.nil _ _) (hP4.row.take j) (Nat.le_refl _) (by simp; omega) (by omega)
          have hb5 : Below W4.heap.size W4 W5 := (Below.refl _ _).grown hg1 (Nat.le_refl _) (fun k hk => by cases hk)
          obtain ⟨v2, W6, hrun2, hown2, hg2⟩ := append_el eSV W5 30 W4.heap.size ([] ++ SS.take j) (SS.drop (j + 1)) v1 (if cs = j + 1 then ps else Option.map (fun x => x.add ((j + 1) * 2)) ps) (cs - (j + 1)) hown1 (RwO.drop eSV (hP4.row.call hb5) (j + 1) (by omega) _ (fun a ha hlt => by rw [if_neg (by omega), ha]; rfl)) hb5.size (by simp; omega) (by omega)
          have hb6 : Below W4.heap.size W4 W6 := hb5.grown hg2 hb5.size (fun k hk => (hown1.lt k hk).1)
          rw [List.nil_append] at hown2
          obtain ⟨ps6, cs6, rfl, hc6, hm6, hP6⟩ := hP4.fresh hb6 hown2 (Nat.le_refl _) hR4 (fun s hs => (List.mem_append.1 hs).elim (fun h => hP4.mem s (List.mem_of_mem_take h)) (fun h => hP4.mem s (List.mem_of_mem_drop h)))
          rw [el1] at hrun1
          rw [el2] at hrun2
          have hlen6 : (SS.take j ++ SS.drop (j + 1)).length ≤ SS.length := by rw [List.length_append, el1, el2]; omega
          have HF := Lib.hid (And.intro (hX4.call hb6) (And.intro hP6 (And.intro hlen6 (And.intro hc6 hm6))))
          obtain ⟨n6, hn6⟩ : ∃ n6, n6 = (SS.take j ++ SS.drop (j + 1)).length := ⟨_, rfl⟩
          rw [← hn6] at hrun2
          have HN6 := Lib.hid hn6
          clear hn6
          clear hown1 hg1 hb5 hown2 hg2 hb6 hP6 hlen6 hc6 hm6 hX4 hP4 hR4 el1 el2
          refine wpAnyH_ready (rs := [3]) (by kernel_rfl) (by simp) ?_
          refine (AllReadyH.cons rfl (fun K hK => ?_) AllReadyH.nil)
          refine step_of_wp rfl ?_
          refine Lib.wp_append_run W4 _ _ 30 30 rfl _ _ rfl rfl v1 W5 hrun1 ?_
          refine hK.out _ _ trivial (fun hHeld => ?_)
          clear hK K
          try simp only [Act.put, List.getElem_toArray, List.getElem_cons_zero, List.getElem_cons_succ, List.setIfInBounds_toArray, List.set_cons_zero, List.set_cons_succ]
          refine wpAnyH_ready (rs := [8]) (by kernel_rfl) (by simp) ?_
          refine (AllReadyH.cons rfl (fun K hK => ?_) AllReadyH.nil)
          refine step_of_wp rfl ?_
          refine Lib.wp_append_run W5 _ _ 30 30 rfl _ _ rfl rfl _ W6 hrun2 ?_
          refine hK.out _ _ trivial (fun hHeld => ?_)
          clear hK K
          try simp only [Act.put, List.getElem_toArray, List.getElem_cons_zero, List.getElem_cons_succ, List.setIfInBounds_toArray, List.set_cons_zero, List.set_cons_succ]
          refine wpAnyH_take (i := 9) (v := ?_) rfl (by kernel_rfl) (by kernel_rfl) (by kernel_rfl) (fun _ _ _ h => h) (Or.inl ⟨by rfl, ?_⟩) hHeld ?_
          rotate_left
          · (intro w hSw; skip; go_simp; try with_reducible rfl)
          try simp only [Act.put, List.getElem_toArray, List.getElem_cons_zero, List.getElem_cons_succ, List.setIfInBounds_toArray, List.set_cons_zero, List.set_cons_succ]
          refine wpAnyH_done (by kernel_rfl) ?_ _
          clear hrun1 hrun2
          go_wp2_with fail
          all_goals
            refine bodyPost_ret (v := .tuple #[.slice ps6 n6 cs6, .bool true]) (by simp [results, Tryz.results9, go_sem]; try rfl) rfl ?_
            obtain ⟨f1, f2, f3, f4, f5⟩ := HF.out
            exact ⟨ps6, cs6, SS.take j ++ SS.drop (j + 1), R3, m + 1 + 1, by rw [HN6.out], f1, by omega, f2, by omega, f4, f5⟩
      have q1 : ((LL.length : Int) == 0) = false := by simp; exact fun c => hL0 (by rw [c]; rfl)
      have hP2' := hP2
      have hN4 := HNX.out W2 (m + 1 + 1) (LL.length : Int) LL.length rfl hP2.nums (by omega) (by omega) (by omega)
      have hl4 := HLT.out (m + 1 + 1) LL.length (by omega)
      generalize nx L (m + 1 + 1) LL.length = N4 at *
      have HN4 := Lib.hid hN4; have HP2 := Lib.hid hP2; have HX2 := Lib.hid hX2
      clear hN4 hP2 hX2 hP2' hz3 hL0
      go_wp2_with fail
      refine HN4.out.mono ?_; rintro e W3 ⟨rfl, hg3, hN3⟩
      have hP3 := HP2.out.next hg3 hN3
      have hX3 := HX2.out.apart (F := fun k => k = b) (Kept.grown hg3 fun k e _ => by injection e with e; exact e.symm) (fun k hk c => (HP2.out.rr k hk).2.2 c)
      obtain ⟨ax, hax, hal, hcell⟩ := one_row hP3.bb.ones N4 hl4
      subst hax
      obtain ⟨hI, hxc, hxm, _⟩ := hP3.bb.its _ (List.getElem_mem hl4)
      have hok := (hP3.bb.ok _ (List.getElem_mem hl4)).lok (by omega)
      have hmem := List.getElem_mem hl4
      have n4 : (N4 : Int) < (LL.length : Int) := by omega
      have hcell2 : W3.cell? (ax.add N4) = some (.slice (LL[N4]).p (LL[N4]).l.length (LL[N4]).c) := hcell
      have hA := add_any hX3 hwid hI hxc hxm hok (by omega)
      generalize LL[N4] = x at *
      have HMM := Lib.hid hmem; have HP3 := Lib.hid hP3
      clear hg3 hN3 hI hxc hxm hok hmem hP3 hX3 hcell HP2 HX2 HN4
      rcases HZ.out with ⟨rfl, hnone⟩ | ⟨j, rfl, hj, hjid⟩
      · obtain ⟨e1, e2⟩ := sv_add SS id x hnone (by omega)
        rw [e1, e2] at hA
        have HA := Lib.hid hA
        clear hA e1 e2 hnone HZ
        go_wp2_with fail
        refine HA.out.mono ?_; rintro e W4 ⟨rfl, R4, hX4, hR4, hK4⟩
        have hP4 := HP3.out.turn hK4 hR4
        have hR4' := hX4.lt
        obtain ⟨v1, W5, hrun1, hown1, hg1⟩ := append_el eSV W4 30 W4.heap.size [] SS (.slice none 0 0) ps cs (OwnL.nil _ _) hP4.row (Nat.le_refl _) (by simp; omega) (by omega)
        have hb5 : Below W4.heap.size W4 W5 := (Below.refl _ _).grown hg1 (Nat.le_refl _) (fun k hk => by cases hk)
        have hba : Below W5.heap.size W5 (W5.alloc (.cells #[.int .i64 id, .slice x.p x.l.length x.c] 56)) := blw (Below.refl _ _) _
        have hlit := own_litG2 eSV (L := [(⟨id, x⟩ : SV)]) (base := W5.heap.size) (heap_alloc_new W5 (.cells #[.int .i64 id, .slice x.p x.l.length x.c] 56)) (Nat.le_refl _) rfl (by unfold maxLen; simp)
        obtain ⟨pl, cl, el, _, _, hrl, _⟩ := own_rwo eSV hlit
        injection el with el1 _ el3
        subst el1; subst el3
        obtain ⟨v2, W6, hrun2, hown2, hg2⟩ := append_el eSV _ 30 W4.heap.size ([] ++ SS) [(⟨id, x⟩ : SV)] v1 _ 1 (hown1.call hba) hrl (Nat.le_trans hb5.size hba.size) (by simp; omega) (by omega)
        have hb6 : Below W4.heap.size W4 W6 := (BelowOn hb5 hba).grown hg2 (BelowOn hb5 hba).size (fun k hk => (hown1.lt k hk).1)
        rw [List.nil_append] at hown2
        obtain ⟨ps6, cs6, rfl, hc6, hm6, hP6⟩ := hP4.fresh hb6 hown2 (Nat.le_refl _) hR4' (fun s hs => (List.mem_append.1 hs).elim (fun h => hP4.mem s h) (fun h => by rw [List.mem_singleton] at h; subst h; exact ⟨HMM.out, hwid⟩))
        have HF := Lib.hid (And.intro (hX4.call hb6) (And.intro hP6 (And.intro hc6 hm6)))
        have hrun2' : (Builtin.append_ #[30, 30] 30 #[v1, .slice (some ⟨W5.heap.size, 0, none⟩) 1 1]).run Tryz.prog (W5.alloc (.cells #[.int .i64 id, .slice x.p x.l.length x.c] 56)) = .ok (.slice ps6 (SS ++ [(⟨id, x⟩ : SV)]).length cs6) W6 := hrun2
        obtain ⟨n6, hn6⟩ : ∃ n6, n6 = (SS ++ [(⟨id, x⟩ : SV)]).length := ⟨_, rfl⟩
        rw [← hn6] at hrun2'
        have HN6 := Lib.hid hn6
        clear hn6
        clear hX4 hR4 hK4 hP4 hR4' hown1 hg1 hb5 hba hlit hrl hown2 hg2 hb6 hc6 hm6 hP6 HA HP3 hcell2 hrun2
        go_wp2_with (first
          | (at_builtin; refine Lib.wpList_append_run _ rfl _ _ 30 30 rfl _ _ rfl rfl v1 W5 hrun1 ?_)
          | (at_builtin; refine Lib.wpList_append_run _ rfl _ _ 30 30 rfl _ _ rfl rfl _ W6 hrun2' ?_))
        refine bodyPost_ret (v := .tuple #[.slice ps6 n6 cs6, .bool true]) (by simp [results, Tryz.results9, go_sem]; try rfl) rfl ?_
        obtain ⟨f1, f2, f4, f5⟩ := HF.out
        exact ⟨ps6, cs6, SS ++ [(⟨id, x⟩ : SV)], R4, m + 1 + 1 + 1, by rw [HN6.out], f1, by omega, f2, by simp, f4, f5⟩
      · have hsm := sv_some SS HND.out j hj
        rw [hjid] at hsm
        obtain ⟨e1, e2⟩ := sv_not (SS.map SV.sto) id x.l hsm
        rw [e1, e2] at hA
        have HA := Lib.hid hA
        have jl : ¬ ((j : Nat) : Int) < 0 := by omega
        clear hA e1 e2 hsm HZ hjid
        go_wp2_with fail
        refine HA.out.mono ?_; rintro e W4 ⟨rfl, R4, hX4, hR4, hK4⟩
        have HF := Lib.hid (And.intro hX4 (HP3.out.turn hK4 hR4))
        clear hX4 hR4 hK4 HA hcell2
        go_wp2_with fail
        refine bodyPost_ret (v := .tuple #[.slice ps SS.length cs, .bool true]) (by simp [results, Tryz.results9, go_sem]; try rfl) rfl ?_
        obtain ⟨f1, f2⟩ := HF.out
        exact ⟨ps, cs, SS, R4, m + 1 + 1 + 1, rfl, f1, by omega, f2, by omega, hcs, hms⟩
end Go.Proofs.YthfgpagmepdblaaGreat
