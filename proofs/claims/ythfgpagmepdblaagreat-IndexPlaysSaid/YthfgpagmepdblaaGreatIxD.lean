/- Index: contract of Remove. Index: contract of within. Index: contract of shared. -/
import Derived.Test.YthfgpagmepdblaaGreatIxC
import Derived.Maps.RangeWalk
import Derived.Laws.IdiomRangeMap
import Derived.Deep.LoopGhost
namespace Go.Proofs.YthfgpagmepdblaaGreat
open Go.ChangeShapes Go.WideShapes Go.ChangeAt Go.RowKit Go.Maps
set_option linter.unusedVariables false
set_option linter.unusedSimpArgs false
set_option maxRecDepth 100000

theorem dlS_none {S : List Sto} {i : Int} (h : lkS S i = none) : dlS S i = S := by
  unfold dlS
  rw [List.filter_eq_self]
  intro s hs
  simpa using (lkS_none S i).1 h s hs
theorem gk_fresh (P : List Pr) (k : Nat) (h : k < (gramsP P).length) : ((gramsP P)[k]'h).key ∉ gkeys ((gramsP P).take k) := fun c => by
  unfold gkeys at c
  rw [List.mem_map] at c
  obtain ⟨g, hg, e⟩ := c
  obtain ⟨j, hj, rfl⟩ := List.getElem_of_mem hg
  rw [List.length_take] at hj
  rw [List.getElem_take] at e
  have := List.pairwise_iff_getElem.1 (gramsP_ok P).asc j k (by omega) h (by omega)
  rw [e, bfP_irr] at this; cases this
/-- The list under a number is given up. -/
theorem IxL.del {w : World} {X b1 b2 : Nat} {G R : Nat → Prop} {S : List Sto} {LS : Int → Option LV} (h : IxL w X b1 b2 G R S LS) {i : Int} (hi : (Lit.int .i64 i).wf = true) (hs : lkS S i ≠ none) (ty : TypeId) :
    ∃ w', (Builtin.delete_ #[48, 3] ty #[.map (some b1), .int .i64 i]).run Tryz.prog w = .ok (.tuple #[]) w' ∧ IxL w' X b1 b2 G R (dlS S i) (fun j => if j = i then none else LS j) ∧ w.grownBy w' (some b1) := by
  have hL : LS i ≠ none := fun c => hs (by rw [← h.eq i, c]; rfl)
  obtain ⟨w', hr, hmp, hg⟩ := h.map.del (T := 48) k3 vInt_inj Tryz.underlying48 (key_int hi) ty hL
  have hk : Kept (fun k => k = b1) w w' := Kept.grown hg fun k e _ => by injection e with e; exact e.symm
  refine ⟨w', hr, ⟨hk.cell h.x0 (fun c => h.xn (.inr c)), hk.cell h.x1 (fun c => h.xn (.inr c)), h.xn, by rw [del_len h.nd i hs]; exact hmp, fun j => ?_, fun j e he => ?_, fun s hs2 => h.ok s ((List.mem_filter.1 hs2).1), del_nodup h.nd i, h.rx, h.rg, fun k hk' => Nat.lt_of_lt_of_le (h.rl k hk') hg.size⟩, hg⟩
  · rw [lkS_del]
    by_cases e : j = i
    · rw [if_pos e, if_pos e]; rfl
    · rw [if_neg e, if_neg e]; exact h.eq j
  · by_cases ej : j = i
    · simp only [if_pos ej] at he; cases he
    · simp only [if_neg ej] at he
      obtain ⟨h1, h2, h3, h4⟩ := h.its j e he
      exact ⟨h1.kept hk fun h0 a ha c => (h4 h0 a ha).1 (.inr c), h2, h3, h4⟩
set_option maxHeartbeats 12800000 in
theorem remove_any {w : World} {X N : Nat} {R : Nat → Prop} {S : List Sto} (h : Ix w X R N S) {i : Int} (hi : (Lit.int .i64 i).wf = true) (hN : N ≤ 1000000000) :
    Calls Tryz.prog 19 #[.pointer (some ⟨X, 0, none⟩), .int .i64 i] w fun e w' => e = .returned (.bool (decide (lkS S i ≠ none))) ∧ IxEnd w X N R (dlS S i) w' := by
  obtain ⟨b1, b2, G, LS, HH, h1, h2⟩ := h
  have x0 := h1.x0
  have hk0 := h1.map.at.lookOk (T := 48) k3 Tryz.underlying48 (zeroLs w) (key_int hi)
  have HEQ := h1.eq i
  cases hL : LS i with
  | none =>
    have hnone : lkS S i = none := by rw [← HEQ, hL]; rfl
    rw [hL] at hk0
    have hk1 : (Instr.lookup 48 (.map (some b1)) (.int .i64 i) true).run Tryz.prog w = .ok (.tuple #[.agg #[.slice none 0 0, .int .i64 0, .int .i64 0], .bool false]) w := hk0
    have HX := Lib.hid (show Ix w X R N S from ⟨b1, b2, G, LS, HH, h1, h2⟩)
    have hb := (Below.refl w.heap.size w).alloc (Nat.le_refl _) (.cells #[.slice none 0 0, .int .i64 0, .int .i64 0] 61)
    have HB := Lib.hid (And.intro hb hnone)
    clear hk0 HEQ hL h1 h2 hb hnone
    go_enter Tryz.func19, Tryz.ntmps19
    go_wp2_with fail
    go_ret
    obtain ⟨hb, hnone⟩ := HB.out
    rw [hnone, dlS_none hnone]
    exact ⟨by simp, R, HX.out.call hb, fun k hk => .inl hk, Kept.below hb⟩
  | some e0 =>
    have hsome : lkS S i = some e0.l := by rw [← HEQ, hL]; rfl
    rw [hL] at hk0
    have hk1 : (Instr.lookup 48 (.map (some b1)) (.int .i64 i) true).run Tryz.prog w = .ok (.tuple #[.agg #[.slice e0.p e0.l.length e0.c, .int .i64 (wtL e0.l), .int .i64 ((pw e0.l).length : Nat)], .bool true]) w := hk0
    have hb := (Below.refl w.heap.size w).alloc (Nat.le_refl _) (.cells #[.slice e0.p e0.l.length e0.c, .int .i64 (wtL e0.l), .int .i64 ((pw e0.l).length : Nat)] 61)
    have hok := (h1.ok _ (lkS_mem hsome)).1
    have h1a := h1.call hb; have h2a := h2.call hb
    obtain ⟨hI, hc, hm, hne⟩ := h1a.its i e0 hL
    have HGR := Lib.hid (fun W h => gramsof_any e0.p e0.c e0.l W h hc hm hok)
    have hv0 := heap_alloc_new w (.cells #[.slice e0.p e0.l.length e0.c, .int .i64 (wtL e0.l), .int .i64 ((pw e0.l).length : Nat)] 61)
    have HSO := Lib.hid hsome; have HOK := Lib.hid hok
    have HIL := Lib.hid h1a; have HHO := Lib.hid h2a; have HI := Lib.hid hI; have HB := Lib.hid hb
    have HID := Lib.hid hi
    have HWF := Lib.hid (show ∀ j, lkS S j ≠ none → (Lit.int .i64 j).wf = true from fun j hj => by
      cases hx : lkS S j with
      | none => exact absurd hx hj
      | some l => exact (h1.ok _ (lkS_mem hx)).2)
    have htr : decide (lkS S i ≠ none) = true := by rw [hsome]; simp
    rw [htr]
    have hl100 := hok.len
    clear hk0 HEQ hL h1 h2 h1a h2a hb hok hI hne hv0 htr hsome
    go_enter Tryz.func19, Tryz.ntmps19
    go_wp2_with fail
    generalize (w.alloc (.cells #[.slice e0.p e0.l.length e0.c, .int .i64 (wtL e0.l), .int .i64 ((pw e0.l).length : Nat)] 61)) = w1 at *
    refine (HGR.out _ HI.out).mono ?_; rintro e w2 ⟨v, rfl, hA⟩
    obtain ⟨q, dq, hv, g1, g2, g3⟩ := OwnG.gs hA.own
    have hgq : ∀ a, q = some a → w1.heap.size ≤ a.block ∧ a.block < w2.heap.size := fun a ha => hA.own.lt a.block (by rw [hv, ha]; rfl)
    have hb2 := hA.below
    subst hv
    have hIL := HIL.out.call hb2; have hHO := HHO.out.call hb2; have hBB := BelowOn HB.out hb2
    have hn := pgrams_len e0.l
    have HPC := Lib.hid (gram_pC e0.l); have HKY := Lib.hid (gram_key HOK.out); have HALL := Lib.hid (fun y j => dK_all S i e0.l HSO.out y j)
    have HFR := Lib.hid (gk_fresh (pw e0.l))
    have HQG := Lib.hid (show ∀ a, q = some a → ¬ G a.block from fun a ha c => by have h1 := HIL.out.rl _ (HIL.out.rg _ (.inl c)); have := (hgq a ha).1; omega)
    have hC0 : HoldH w2 G b1 b2 N (dK S i (gramsP (pw e0.l)) 0) HH := hHO.ext (fun y j => by unfold dK; rw [if_neg (by simp [gkeys])])
    have HXN := Lib.hid (show ¬ G X from fun c => hIL.xn (.inl c)); have HNB := Lib.hid hHO.n1; have HC7 := Lib.hid hIL.x1
    have HIL2 := Lib.hid hIL; have HBB := Lib.hid hBB; have HG3 := Lib.hid g3
    have g2b := g2; unfold maxLen at g2b
    have HSS := Lib.hid (show hC S = fun y j => (lkS S j).bind fun l => pC l y from rfl)
    clear hA hIL hHO hBB hb2 g3 hgq HIL HHO HB HI HGR
    generalize gramsP (pw e0.l) = L at *
    go_wp2_with fail
    go_loopw [25] (fun v wr => ∃ (k : Nat) (H' : Pr → Option Nat), k ≤ L.length ∧ v = .int .i64 k ∧ Kept G w2 wr ∧ HoldH wr G b1 b2 N (dK S i L k) H') (fun v _ => L.length - (intOf v).toNat)
    case atStart => exact ⟨0, HH, Nat.zero_le _, rfl, Kept.refl _ _, hC0⟩
    case round =>
      clear hC0
      obtain ⟨k, H', hk, rfl, hKr, hH⟩ := hrel
      by_cases hlt : k < L.length
      · obtain ⟨a, rfl, ha, c0, c1, c2⟩ := (HG3.out.keepB hKr.size (fun a ha hb => hKr.block _ hb (HQG.out a ha))).row k hlt
        have hX := hKr.cell HC7.out HXN.out
        have hnx := dK_next S i L k hlt
        obtain ⟨kl, hkey⟩ := HKY.out _ (List.getElem_mem hlt)
        have hhas : dK S i L k L[k].key i = some L[k].n := by
          unfold dK; rw [if_neg (fun c => HFR.out k hlt c.2)]
          show (lkS S i).bind _ = _
          rw [HSO.out]; exact HPC.out _ (List.getElem_mem hlt)
        have hsm : ∃ b, H' L[k].key = some b := by
          cases hq : H' L[k].key with
          | none => have := hH.out _ hq i; rw [hhas] at this; cases this
          | some b => exact ⟨b, rfl⟩
        obtain ⟨b, hy⟩ := hsm
        have hdw : ∀ j v, dK S i L (k + 1) L[k].key j = some v → (Lit.int .i64 j).wf = true := fun j v hv => HWF.out j (fun c => by
          unfold dK at hv
          split at hv
          · cases hv
          · have : hC S L[k].key j = none := by unfold hC; rw [c]; rfl
            rw [this] at hv; cases hv)
        have ik : (k : Int) < (L.length : Int) := by omega
        clear hhas
        generalize L[k] = x at *
        have HNX := Lib.hid hnx; have HKL := Lib.hid hkey; have HKR := Lib.hid hKr; have HHR := Lib.hid hH; have HXR := Lib.hid hX; have HY := Lib.hid hy; have HDW := Lib.hid hdw
        have hgv := heap_alloc_new wr (.cells #[.string x.f, .string x.s, .int .i64 x.n] 72)
        have hbv : Below wr.heap.size wr (wr.alloc (.cells #[.string x.f, .string x.s, .int .i64 x.n] 72)) := blw (Below.refl _ _) _
        have HGV := Lib.hid (And.intro hgv hbv)
        clear hnx hkey hKr hH hX hgv hbv hy hdw
        go_wp2_with fail
        generalize (wr.alloc (.cells #[.string x.f, .string x.s, .int .i64 x.n] 72)) = w7 at *
        refine (pairof_any x _).mono ?_; rintro e w8 ⟨rfl, hb8⟩
        have hpv := heap_alloc_new w8 (.cells #[.string x.f, .string x.s] 74)
        have hb9 : Below w8.heap.size w8 (w8.alloc (.cells #[.string x.f, .string x.s] 74)) := blw (Below.refl _ _) _
        have HPV := Lib.hid (And.intro hpv (And.intro hb8 hb9))
        clear hpv hb8 hb9 c0 c1 c2 ha
        go_wp2_with fail
        generalize (w8.alloc (.cells #[.string x.f, .string x.s] 74)) = w9 at *
        obtain ⟨hpv, hb8, hb9⟩ := HPV.out
        obtain ⟨hgv, hb7⟩ := HGV.out
        have hbb : Below wr.heap.size wr w9 := BelowOn (BelowOn hb7 hb8) hb9
        have hH9 := HHR.out.call hbb; have hX9 : w9.cell? ⟨X, 1, none⟩ = some (.map (some b2)) := (Kept.below (F := fun _ => False) hbb).cell HXR.out id; have hK9 : Kept G w2 w9 := HKR.out.trans (Kept.below hbb)
        have hp0 : w9.cell? ⟨w8.heap.size, 0, none⟩ = some (.string x.f) := by rw [Lib.cell_of_heap hpv]; rfl
        have hp1 : w9.cell? ⟨w8.heap.size, 1, none⟩ = some (.string x.s) := by rw [Lib.cell_of_heap hpv]; rfl
        have hnp : ¬ G w8.heap.size := fun c => by have := HHR.out.lt _ c; have := hb7.size; have := hb8.size; omega
        have hnX := HXN.out
        clear hpv hb8 hb9 hgv hb7 hbb HGV HPV HHR HXR HKR
        generalize hpvE : w8.heap.size = pv at *
        have hd := drew_below w9
        have hH0 := hH9.call hd; have hK0 : Kept G w2 w9.drew := hK9.trans (Kept.below hd)
        have hX0 : w9.drew.cell? ⟨X, 1, none⟩ = some (.map (some b2)) := hX9; have hq0 : w9.drew.cell? ⟨pv, 0, none⟩ = some (.string x.f) := hp0; have hq1 : w9.drew.cell? ⟨pv, 1, none⟩ = some (.string x.s) := hp1
        clear hH9 hK9 hX9 hp0 hp1 hd
        have hy := HY.out
        have HLK := Lib.hid (fun W M C (hh : HoldH W G b1 b2 M C H') => by have h := hh.top.look (T := 49) kIp Tryz.underlying49 (z := .map none) (zeroMp W) HKL.out; rw [hy] at h; exact (show (Instr.lookup 49 (.map (some b2)) (.agg #[.string x.f, .string x.s]) false).run Tryz.prog W = .ok (.map (some b)) W from h))
        refine wp_region_held_drew (S := fun W => W.cell? ⟨X, 1, none⟩ = some (.map (some b2)) ∧ W.cell? ⟨pv, 0, none⟩ = some (.string x.f) ∧ W.cell? ⟨pv, 1, none⟩ = some (.string x.s) ∧ ∃ M C, HoldH W G b1 b2 M C H') (by kernel_rfl) (⟨hX0, hq0, hq1, _, _, hH0⟩) (fun hHeld => ?_)
        generalize w9.drew = W1 at *
        refine wpAnyH_take (i := 0) (v := ?_) rfl (by kernel_rfl) (by kernel_rfl) (by kernel_rfl) (fun _ _ _ h => h) (Or.inl ⟨by rfl, ?_⟩) hHeld ?_
        rotate_left
        · (intro w hSw; skip; go_simp; try with_reducible rfl)
        try simp only [Act.put, List.getElem_toArray, List.getElem_cons_zero, List.getElem_cons_succ, List.setIfInBounds_toArray, List.set_cons_zero, List.set_cons_succ]
        refine wpAnyH_take (i := 1) (v := ?_) rfl (by kernel_rfl) (by kernel_rfl) (by kernel_rfl) (fun _ _ _ h => h) (Or.inl ⟨by rfl, ?_⟩) hHeld ?_
        rotate_left
        · (intro w hSw; skip; go_simp; try with_reducible rfl)
        try simp only [Act.put, List.getElem_toArray, List.getElem_cons_zero, List.getElem_cons_succ, List.setIfInBounds_toArray, List.set_cons_zero, List.set_cons_succ]
        refine wpAnyH_take (i := 2) (v := ?_) rfl (by kernel_rfl) (by kernel_rfl) (by kernel_rfl) (fun _ _ _ h => h) (Or.inl ⟨by rfl, ?_⟩) hHeld ?_
        rotate_left
        · (intro w hSw; skip; go_simp; try with_reducible rfl)
        try simp only [Act.put, List.getElem_toArray, List.getElem_cons_zero, List.getElem_cons_succ, List.setIfInBounds_toArray, List.set_cons_zero, List.set_cons_succ]
        refine wpAnyH_take (i := 3) (v := ?_) rfl (by kernel_rfl) (by kernel_rfl) (by kernel_rfl) (fun _ _ _ h => h) (Or.inl ⟨by rfl, ?_⟩) hHeld ?_
        rotate_left
        · (intro w hSw; obtain ⟨c0, _⟩ := hSw; go_simp; try with_reducible rfl)
        try simp only [Act.put, List.getElem_toArray, List.getElem_cons_zero, List.getElem_cons_succ, List.setIfInBounds_toArray, List.set_cons_zero, List.set_cons_succ]
        refine wpAnyH_take (i := 4) (v := ?_) rfl (by kernel_rfl) (by kernel_rfl) (by kernel_rfl) (fun _ _ _ h => h) (Or.inl ⟨by rfl, ?_⟩) hHeld ?_
        rotate_left
        · (intro w hSw; obtain ⟨_, c0, c1, _⟩ := hSw; go_simp; try with_reducible rfl)
        try simp only [Act.put, List.getElem_toArray, List.getElem_cons_zero, List.getElem_cons_succ, List.setIfInBounds_toArray, List.set_cons_zero, List.set_cons_succ]
        refine wpAnyH_take (i := 5) (v := ?_) rfl (by kernel_rfl) (by kernel_rfl) (by kernel_rfl) (fun _ _ _ h => h) (Or.inl ⟨by rfl, ?_⟩) hHeld ?_
        rotate_left
        · (intro w hSw; obtain ⟨_, _, _, M, C, hh⟩ := hSw; have hl := HLK.out _ M C hh; go_simp; try with_reducible rfl)
        try simp only [Act.put, List.getElem_toArray, List.getElem_cons_zero, List.getElem_cons_succ, List.setIfInBounds_toArray, List.set_cons_zero, List.set_cons_succ]
        refine wpAnyH_take (i := 6) (v := ?_) rfl (by kernel_rfl) (by kernel_rfl) (by kernel_rfl) (fun _ _ _ h => h) (Or.inl ⟨by rfl, ?_⟩) hHeld ?_
        rotate_left
        · (intro w hSw; skip; go_simp; try with_reducible rfl)
        try simp only [Act.put, List.getElem_toArray, List.getElem_cons_zero, List.getElem_cons_succ, List.setIfInBounds_toArray, List.set_cons_zero, List.set_cons_succ]
        obtain ⟨W2, hrun, hH2, hg2⟩ := hH0.del hy HID.out 0
        have hrunT : ∀ ty, (Builtin.delete_ #[63, 3] ty #[.map (some b), .int .i64 i]).run Tryz.prog W1 = .ok (.tuple #[]) W2 := fun ty => hrun
        have hne := (hH0.inn _ _ hy).1
        have hk2 : Kept G W1 W2 := Kept.grown hg2 (fun k e _ => by injection e with e; subst e; exact hne)
        have hHeld2 : W2.cell? ⟨X, 1, none⟩ = some (.map (some b2)) ∧ W2.cell? ⟨pv, 0, none⟩ = some (.string x.f) ∧ W2.cell? ⟨pv, 1, none⟩ = some (.string x.s) ∧ ∃ M C, HoldH W2 G b1 b2 M C H' := ⟨hk2.cell hX0 hnX, hk2.cell hq0 hnp, hk2.cell hq1 hnp, _, _, hH2⟩
        have hH3 := hH2.ext HNX.out
        have HF := Lib.hid (And.intro (hK0.trans hk2) hH3)
        clear hH0 hK0 hX0 hq0 hq1 hrun hH2 hg2 hne hk2 hH3
        refine wpAnyH_ready (rs := [7]) (by kernel_rfl) (by simp) ?_
        refine (AllReadyH.cons rfl (fun K hK => ?_) AllReadyH.nil)
        go_simp
        refine hK.out _ _ hHeld2 (fun hHeld => ?_)
        clear hK K hHeld2
        try simp only [Act.put, List.getElem_toArray, List.getElem_cons_zero, List.getElem_cons_succ, List.setIfInBounds_toArray, List.set_cons_zero, List.set_cons_succ]
        refine wpAnyH_done (by kernel_rfl) ?_ _
        clear hrunT
        obtain ⟨hX0, hq0, hq1, _⟩ := hHeld
        go_wp2_with fail
        obtain ⟨hKa, hHa⟩ := HF.out
        obtain ⟨z, hlend, hz1, hz2⟩ := ((hHa.call (drew_below W2)).inn _ _ hy).2.2.length (T := 63) k3 Tryz.underlying63 3 (fun j v hv => ⟨_, key_int (HDW.out j v hv)⟩)
        have hld := HLK.out _ _ _ (hHa.call (drew_below W2))
        refine wp_region_held_drew (S := fun W => W.cell? ⟨X, 1, none⟩ = some (.map (some b2)) ∧ W.cell? ⟨pv, 0, none⟩ = some (.string x.f) ∧ W.cell? ⟨pv, 1, none⟩ = some (.string x.s) ∧ (Instr.lookup 49 (.map (some b2)) (.agg #[.string x.f, .string x.s]) false).run Tryz.prog W = .ok (.map (some b)) W ∧ (Builtin.len_ #[63] 3 #[.map (some b)]).run Tryz.prog W = .ok (.int .i64 (z : Nat)) W) (by kernel_rfl) (⟨hX0, hq0, hq1, hld, hlend⟩) (fun hHeld => ?_)
        have hHb := hHa.call (drew_below W2); have hKb : Kept G w2 W2.drew := hKa.trans (Kept.below (drew_below W2))
        clear hKa hHa hX0 hq0 hq1 hld hlend
        generalize W2.drew = W3 at *
        refine wpAnyH_take (i := 0) (v := ?_) rfl (by kernel_rfl) (by kernel_rfl) (by kernel_rfl) (fun _ _ _ h => h) (Or.inl ⟨by rfl, ?_⟩) hHeld ?_
        rotate_left
        · (intro w hSw; skip; go_simp; try with_reducible rfl)
        try simp only [Act.put, List.getElem_toArray, List.getElem_cons_zero, List.getElem_cons_succ, List.setIfInBounds_toArray, List.set_cons_zero, List.set_cons_succ]
        refine wpAnyH_take (i := 1) (v := ?_) rfl (by kernel_rfl) (by kernel_rfl) (by kernel_rfl) (fun _ _ _ h => h) (Or.inl ⟨by rfl, ?_⟩) hHeld ?_
        rotate_left
        · (intro w hSw; skip; go_simp; try with_reducible rfl)
        try simp only [Act.put, List.getElem_toArray, List.getElem_cons_zero, List.getElem_cons_succ, List.setIfInBounds_toArray, List.set_cons_zero, List.set_cons_succ]
        refine wpAnyH_take (i := 2) (v := ?_) rfl (by kernel_rfl) (by kernel_rfl) (by kernel_rfl) (fun _ _ _ h => h) (Or.inl ⟨by rfl, ?_⟩) hHeld ?_
        rotate_left
        · (intro w hSw; skip; go_simp; try with_reducible rfl)
        try simp only [Act.put, List.getElem_toArray, List.getElem_cons_zero, List.getElem_cons_succ, List.setIfInBounds_toArray, List.set_cons_zero, List.set_cons_succ]
        refine wpAnyH_take (i := 3) (v := ?_) rfl (by kernel_rfl) (by kernel_rfl) (by kernel_rfl) (fun _ _ _ h => h) (Or.inl ⟨by rfl, ?_⟩) hHeld ?_
        rotate_left
        · (intro w hSw; obtain ⟨c0, _⟩ := hSw; go_simp; try with_reducible rfl)
        try simp only [Act.put, List.getElem_toArray, List.getElem_cons_zero, List.getElem_cons_succ, List.setIfInBounds_toArray, List.set_cons_zero, List.set_cons_succ]
        refine wpAnyH_take (i := 4) (v := ?_) rfl (by kernel_rfl) (by kernel_rfl) (by kernel_rfl) (fun _ _ _ h => h) (Or.inl ⟨by rfl, ?_⟩) hHeld ?_
        rotate_left
        · (intro w hSw; obtain ⟨_, c0, c1, _⟩ := hSw; go_simp; try with_reducible rfl)
        try simp only [Act.put, List.getElem_toArray, List.getElem_cons_zero, List.getElem_cons_succ, List.setIfInBounds_toArray, List.set_cons_zero, List.set_cons_succ]
        refine wpAnyH_take (i := 5) (v := ?_) rfl (by kernel_rfl) (by kernel_rfl) (by kernel_rfl) (fun _ _ _ h => h) (Or.inl ⟨by rfl, ?_⟩) hHeld ?_
        rotate_left
        · (intro w hSw; obtain ⟨_, _, _, hl, _⟩ := hSw; go_simp; try with_reducible rfl)
        try simp only [Act.put, List.getElem_toArray, List.getElem_cons_zero, List.getElem_cons_succ, List.setIfInBounds_toArray, List.set_cons_zero, List.set_cons_succ]
        refine wpAnyH_take (i := 6) (v := ?_) rfl (by kernel_rfl) (by kernel_rfl) (by kernel_rfl) (fun _ _ _ h => h) (Or.inl ⟨by rfl, ?_⟩) hHeld ?_
        rotate_left
        · (intro w hSw; obtain ⟨_, _, _, _, hl⟩ := hSw; go_simp; try with_reducible rfl)
        try simp only [Act.put, List.getElem_toArray, List.getElem_cons_zero, List.getElem_cons_succ, List.setIfInBounds_toArray, List.set_cons_zero, List.set_cons_succ]
        refine wpAnyH_take (i := 7) (v := ?_) rfl (by kernel_rfl) (by kernel_rfl) (by kernel_rfl) (fun _ _ _ h => h) (Or.inl ⟨by rfl, ?_⟩) hHeld ?_
        rotate_left
        · (intro w hSw; skip; go_simp; try with_reducible rfl)
        try simp only [Act.put, List.getElem_toArray, List.getElem_cons_zero, List.getElem_cons_succ, List.setIfInBounds_toArray, List.set_cons_zero, List.set_cons_succ]
        refine wpAnyH_done (by kernel_rfl) ?_ _
        obtain ⟨hX0, hq0, hq1, _, _⟩ := hHeld
        have HG := Lib.hid (And.intro hHb hKb)
        clear hHb hKb
        by_cases hz : z = 0
        · have hz3 : (((z : Nat) : Int) == 0) = true := by simp [hz]
          have hC := hz2 hz
          clear hz hz1 hz2
          go_wp2_with fail
          refine wp_region_held_drew (S := fun W => W.cell? ⟨X, 1, none⟩ = some (.map (some b2)) ∧ W.cell? ⟨pv, 0, none⟩ = some (.string x.f) ∧ W.cell? ⟨pv, 1, none⟩ = some (.string x.s)) (by kernel_rfl) (⟨hX0, hq0, hq1⟩) (fun hHeld => ?_)
          obtain ⟨hHb, hKb⟩ := HG.out
          have hHc := hHb.call (drew_below W3); have hKc : Kept G w2 W3.drew := hKb.trans (Kept.below (drew_below W3))
          clear hHb hKb HG HF hX0 hq0 hq1
          generalize W3.drew = W4 at *
          refine wpAnyH_take (i := 0) (v := ?_) rfl (by kernel_rfl) (by kernel_rfl) (by kernel_rfl) (fun _ _ _ h => h) (Or.inl ⟨by rfl, ?_⟩) hHeld ?_
          rotate_left
          · (intro w hSw; skip; go_simp; try with_reducible rfl)
          try simp only [Act.put, List.getElem_toArray, List.getElem_cons_zero, List.getElem_cons_succ, List.setIfInBounds_toArray, List.set_cons_zero, List.set_cons_succ]
          refine wpAnyH_take (i := 1) (v := ?_) rfl (by kernel_rfl) (by kernel_rfl) (by kernel_rfl) (fun _ _ _ h => h) (Or.inl ⟨by rfl, ?_⟩) hHeld ?_
          rotate_left
          · (intro w hSw; skip; go_simp; try with_reducible rfl)
          try simp only [Act.put, List.getElem_toArray, List.getElem_cons_zero, List.getElem_cons_succ, List.setIfInBounds_toArray, List.set_cons_zero, List.set_cons_succ]
          refine wpAnyH_take (i := 2) (v := ?_) rfl (by kernel_rfl) (by kernel_rfl) (by kernel_rfl) (fun _ _ _ h => h) (Or.inl ⟨by rfl, ?_⟩) hHeld ?_
          rotate_left
          · (intro w hSw; skip; go_simp; try with_reducible rfl)
          try simp only [Act.put, List.getElem_toArray, List.getElem_cons_zero, List.getElem_cons_succ, List.setIfInBounds_toArray, List.set_cons_zero, List.set_cons_succ]
          refine wpAnyH_take (i := 3) (v := ?_) rfl (by kernel_rfl) (by kernel_rfl) (by kernel_rfl) (fun _ _ _ h => h) (Or.inl ⟨by rfl, ?_⟩) hHeld ?_
          rotate_left
          · (intro w hSw; obtain ⟨c0, _⟩ := hSw; go_simp; try with_reducible rfl)
          try simp only [Act.put, List.getElem_toArray, List.getElem_cons_zero, List.getElem_cons_succ, List.setIfInBounds_toArray, List.set_cons_zero, List.set_cons_succ]
          refine wpAnyH_take (i := 4) (v := ?_) rfl (by kernel_rfl) (by kernel_rfl) (by kernel_rfl) (fun _ _ _ h => h) (Or.inl ⟨by rfl, ?_⟩) hHeld ?_
          rotate_left
          · (intro w hSw; obtain ⟨_, c0, c1⟩ := hSw; go_simp; try with_reducible rfl)
          try simp only [Act.put, List.getElem_toArray, List.getElem_cons_zero, List.getElem_cons_succ, List.setIfInBounds_toArray, List.set_cons_zero, List.set_cons_succ]
          obtain ⟨W5, hrun, hH5, hg5⟩ := hHc.drop hy hC HKL.out 0
          have hrunT : ∀ ty, (Builtin.delete_ #[49, 74] ty #[.map (some b2), .agg #[.string x.f, .string x.s]]).run Tryz.prog W4 = .ok (.tuple #[]) W5 := fun ty => hrun
          have hk5 : Kept G W4 W5 := Kept.grown hg5 (fun k e _ => by injection e with e; subst e; exact hHc.g2)
          obtain ⟨cX, cp0, cp1⟩ := hHeld
          have hHeld2 : W5.cell? ⟨X, 1, none⟩ = some (.map (some b2)) ∧ W5.cell? ⟨pv, 0, none⟩ = some (.string x.f) ∧ W5.cell? ⟨pv, 1, none⟩ = some (.string x.s) := ⟨hk5.cell cX hnX, hk5.cell cp0 hnp, hk5.cell cp1 hnp⟩
          have HF := Lib.hid (And.intro (hKc.trans hk5) hH5)
          clear hHc hKc hrun hH5 hg5 hk5 cX cp0 cp1
          refine wpAnyH_ready (rs := [5]) (by kernel_rfl) (by simp) ?_
          refine (AllReadyH.cons rfl (fun K hK => ?_) AllReadyH.nil)
          go_simp
          refine hK.out _ _ hHeld2 (fun hHeld => ?_)
          clear hK K hHeld2
          try simp only [Act.put, List.getElem_toArray, List.getElem_cons_zero, List.getElem_cons_succ, List.setIfInBounds_toArray, List.set_cons_zero, List.set_cons_succ]
          refine wpAnyH_done (by kernel_rfl) ?_ _
          clear hrunT hHeld
          go_wp2_with fail
          go_roundw
          case rel =>
            obtain ⟨hKf, hHf⟩ := HF.out
            exact ⟨k + 1, _, hlt, by go_num, hKf, hHf⟩
          case measure => simp [intOf] <;> omega
        · have hz3 : (((z : Nat) : Int) == 0) = false := by simp [hz]
          clear hz hz1 hz2
          go_wp2_with fail
          go_roundw
          case rel =>
            obtain ⟨hHb, hKb⟩ := HG.out
            exact ⟨k + 1, _, hlt, by go_num, hKb, hHb⟩
          case measure => simp [intOf] <;> omega
      · obtain rfl : k = L.length := by omega
        have hx0 := (HIL2.out.keptBy hKr (fun c => HXN.out c) HNB.out (fun j e he h0 a ha c => ((HIL2.out.its j e he).2.2.2 h0 a ha).1 (.inl c)))
        have hsn : lkS S i ≠ none := by rw [HSO.out]; simp
        obtain ⟨w10, hrun, hIL, hg10⟩ := hx0.del HID.out hsn 0
        have hrunT : ∀ ty, (Builtin.delete_ #[48, 3] ty #[.map (some b1), .int .i64 i]).run Tryz.prog wr = .ok (.tuple #[]) w10 := fun ty => hrun
        have xx := hx0.x0
        have hHf := (hH.ext HALL.out).kept (F := fun k => k = b1) (Kept.grown hg10 fun k e _ => by injection e with e; exact e.symm) (fun b hb c => HNB.out (c ▸ hb))
        have hKf : Kept R w w10 := ((Kept.below HBB.out).on (F' := fun k => R k) (hKr.weaken (fun k _ hg => HIL2.out.rg k (.inl hg))) (fun j hj => .inl hj)).on (F' := fun k => k = b1) (Kept.grown hg10 fun k e _ => by injection e with e; exact e.symm) (fun j hj => .inl (hj ▸ HIL2.out.rg b1 (.inr rfl)))
        have HF := Lib.hid (And.intro hIL (And.intro hHf hKf))
        clear hx0 hrun hIL hg10 hHf hKf hKr hH hsn
        go_wp2_with fail
        go_ret
        obtain ⟨hIL, hHf, hKf⟩ := HF.out
        exact ⟨rfl, R, ⟨b1, b2, G, _, H', hIL, hHf⟩, fun k hk => .inl hk, hKf⟩
end Go.Proofs.YthfgpagmepdblaaGreat
namespace Go.Proofs.YthfgpagmepdblaaGreat
open Go.ChangeShapes Go.WideShapes Go.ChangeAt Go.RowKit Go.Maps
set_option linter.unusedVariables false
set_option linter.unusedSimpArgs false
set_option maxRecDepth 100000

theorem half_div (m : Nat) : (((m : Nat) : Int) + 2 - 1).tdiv 2 = (((m + 1) / 2 : Nat) : Int) := by
  rw [show ((m : Nat) : Int) + 2 - 1 = ((m + 1 : Nat) : Int) by omega, Int.tdiv_eq_ediv_of_nonneg (by omega)]; rfl
set_option maxHeartbeats 6400000 in
theorem within_any (p p2 : Option Addr) (c c2 : Nat) (q s : List It) (w : World) (hQ : Its w p q) (hS : Its w p2 s) (hc : q.length ≤ c) (hc2 : s.length ≤ c2) (hm : c ≤ maxLen) (hm2 : c2 ≤ maxLen) (lq : LOk q) (ls : LOk s) (al : Int) :
    Calls Tryz.prog 24 #[LV.v ⟨p, c, q⟩, LV.v ⟨p2, c2, s⟩, .int .i64 ((shN (pw q) (pw s) : Nat) : Int), .int .i64 al] w fun e w' => e = .returned (.bool (decide (((bouN q s : Nat) : Int) ≤ al))) ∧ Below w.heap.size w w' := by
  have l1 := lq.len; have l2 := ls.len
  have hW := within_iff q s (by omega) (by omega) al
  have hms := misW_sh q s (by omega) (by omega)
  have p1 : (pw q).length ≤ 101 := by unfold pw; rw [prs_len]; have := wds_len q; omega
  have p2' : (pw s).length ≤ 101 := by unfold pw; rw [prs_len]; have := wds_len s; omega
  have t1 := wtL_le q; have t2 := wtL_le s
  have hb : Below w.heap.size w ((w.alloc (.cells #[.slice p q.length c, .int .i64 (wtL q : Nat), .int .i64 ((pw q).length : Nat)] 61)).alloc (.cells #[.slice p2 s.length c2, .int .i64 (wtL s : Nat), .int .i64 ((pw s).length : Nat)] 61)) := blw (blw (Below.refl _ _) _) _
  have hQ2 := hQ.call hb; have hS2 := hS.call hb
  have HBG := Lib.hid (fun W h1 h2 => bag_any p p2 c c2 q s W h1 h2 hc hc2 hm hm2 (by omega) (by omega) lq.ok ls.ok)
  have HB := Lib.hid hb; have HQ := Lib.hid hQ2; have HS := Lib.hid hS2
  have HW := Lib.hid hW
  show Calls _ _ #[.agg #[.slice p q.length c, .int .i64 (wtL q : Nat), .int .i64 ((pw q).length : Nat)], .agg #[.slice p2 s.length c2, .int .i64 (wtL s : Nat), .int .i64 ((pw s).length : Nat)], _, _] _ _
  rw [← HW.out]
  generalize hP : (pw q).length = P at *
  generalize hP2 : (pw s).length = P2 at *
  generalize hSH : shN (pw q) (pw s) = sh at *
  generalize hT : wtL q = T at *
  generalize hT2 : wtL s = T2 at *
  have hle : sh ≤ max P P2 := by omega
  have e1 : (max (P : Int) (P2 : Int)) - (sh : Int) = ((max P P2 - sh : Nat) : Int) := by omega
  have hdv := half_div (max P P2 - sh)
  have hME : max P P2 - sh ≤ 101 := by omega
  generalize max P P2 - sh = M at *
  have hEE : (M + 1) / 2 ≤ 51 := by omega
  generalize (M + 1) / 2 = E at *
  have hmx : (0 : Int) ≤ max (P : Int) (P2 : Int) ∧ max (P : Int) (P2 : Int) ≤ 101 := by omega
  have HBN := Lib.hid (bagN_le q s)
  clear hW hms hb hQ hS hQ2 hS2 hP hP2 hSH hT hT2 HW
  by_cases h1 : 4 * (E : Int) ≤ al
  · by_cases h2 : max ((T : Int) - (T2 : Int)) ((T2 : Int) - (T : Int)) ≤ al
    · have d1 : decide (4 * (E : Int) ≤ al) = true := by simpa using h1
      have d2 : decide (max ((T : Int) - (T2 : Int)) ((T2 : Int) - (T : Int)) ≤ al) = true := by simpa using h2
      rw [d1, d2, Bool.true_and, Bool.true_and]
      clear d1 d2
      go_enter Tryz.func24, Tryz.ntmps24
      go_wp2_with fail
      refine (HBG.out _ HQ.out HS.out).mono ?_; rintro e w2 ⟨rfl, hb2⟩
      have HB2 := Lib.hid (BelowOn HB.out hb2)
      go_wp2_with fail
      go_ret
      exact ⟨rfl, HB2.out⟩
    · have d2 : decide (max ((T : Int) - (T2 : Int)) ((T2 : Int) - (T : Int)) ≤ al) = false := by simpa using h2
      rw [d2, Bool.false_and, Bool.and_false]
      clear d2
      go_enter Tryz.func24, Tryz.ntmps24
      go_wp2_with fail
      go_ret
      exact ⟨rfl, HB.out⟩
  · have d1 : decide (4 * (E : Int) ≤ al) = false := by simpa using h1
    rw [d1, Bool.false_and]
    clear d1
    go_enter Tryz.func24, Tryz.ntmps24
    go_wp2_with fail
    go_ret
    exact ⟨rfl, HB.out⟩
end Go.Proofs.YthfgpagmepdblaaGreat
namespace Go.Proofs.YthfgpagmepdblaaGreat
open Go.ChangeShapes Go.WideShapes Go.ChangeAt Go.RowKit Go.Maps
set_option linter.unusedVariables false
set_option linter.unusedSimpArgs false
set_option maxRecDepth 100000

/-- What a list under a number shares of one gram. -/
def shG (C : Option Int) (n : Int) : Nat := match C with
  | none => 0
  | some c => (min c n).toNat
/-- What it shares of the first k grams. -/
def shK (S : List Sto) (L : List Gm) (k : Nat) (i : Int) : Nat := ((L.take k).map fun g => shG (hC S g.key i) g.n).sum
theorem shK_next (S : List Sto) (L : List Gm) (k : Nat) (h : k < L.length) (i : Int) : shK S L (k + 1) i = shK S L k i + shG (hC S (L[k]'h).key i) (L[k]'h).n := by
  unfold shK; rw [List.take_succ_eq_append_getElem h, List.map_append, List.sum_append, List.map_singleton]; simp only [List.sum_cons, List.sum_nil, Nat.add_zero]
theorem shG_le (C : Option Int) (n : Int) (hn : 0 ≤ n) : ((shG C n : Nat) : Int) ≤ n := by
  unfold shG
  split
  · exact hn
  · omega
theorem sum_gsum (L : List Gm) (g : Pr → Nat) : (L.map fun x => g x.key).sum = gsum (gkeys L) g := by unfold gsum gkeys; rw [List.map_map]; rfl
theorem gk_nodup (P : List Pr) : (gkeys (gramsP P)).Nodup := by
  unfold gkeys
  rw [List.Nodup, List.pairwise_map]
  exact (gramsP_ok P).asc.imp fun {a b} h e => by rw [e, bfP_irr] at h; cases h
theorem shK_all (S : List Sto) (q : List It) (i : Int) : shK S (gramsP (pw q)) (gramsP (pw q)).length i = match lkS S i with
    | none => 0
    | some l => shN (pw q) (pw l) := by
  unfold shK
  rw [List.take_length]
  cases hl : lkS S i with
  | none =>
    have : ∀ g : Gm, shG (hC S g.key i) g.n = 0 := fun g => by unfold hC; rw [hl]; rfl
    simp only [this]
    induction gramsP (pw q) with
    | nil => rfl
    | cons g L ih => rw [List.map_cons, List.sum_cons, ih]
  | some l =>
    have h1 : ∀ g ∈ gramsP (pw q), shG (hC S g.key i) g.n = min ((pw q).count g.key) ((pw l).count g.key) := fun g hg => by
      have hg1 := (gramsP_ok (pw q)).cnt g hg
      have e1 : hC S g.key i = pC l g.key := by unfold hC; rw [hl]; rfl
      rw [e1, hg1.1]
      unfold pC shG
      by_cases hm : g.key ∈ pw l
      · rw [if_pos hm]; simp only; omega
      · rw [if_neg hm, List.count_eq_zero_of_not_mem hm]; simp
    rw [List.map_congr_left h1, sum_gsum (gramsP (pw q)) (fun y => min ((pw q).count y) ((pw l).count y))]
    exact shN_any _ _ _ (gk_nodup _) fun p hp _ => (gk_all _ _).2 hp
theorem shK_le (S : List Sto) (q : List It) (k : Nat) (i : Int) : shK S (gramsP (pw q)) k i ≤ (pw q).length := by
  have h := (grams_part (pw q) k).2
  have hp : ∀ g ∈ (gramsP (pw q)).take k, 0 ≤ g.n := fun g hg => by rw [((gramsP_ok (pw q)).cnt g (List.mem_of_mem_take hg)).1]; exact Int.natCast_nonneg _
  have hh : ∀ M : List Gm, (∀ g ∈ M, 0 ≤ g.n) → (((M.map fun g => shG (hC S g.key i) g.n).sum : Nat) : Int) ≤ (M.map (·.n)).sum := fun M => by
    induction M with
    | nil => intro _; exact Int.le_refl _
    | cons g M ih => intro hM; rw [List.map_cons, List.sum_cons, List.map_cons, List.sum_cons]; have := shG_le (hC S g.key i) g.n (hM g (List.mem_cons_self ..)); have := ih fun x hx => hM x (List.mem_cons_of_mem _ hx); push_cast; omega
  have := hh _ hp
  unfold shK
  omega
theorem same_int (i j : Int) (h : (Lit.int .i64 i).wf = true) : (Lit.int .i64 j).sameKey (.int .i64 i) = decide (j = i) := by
  rw [Bool.eq_iff_iff, decide_eq_true_eq]
  constructor
  · intro e; have := WideAt.sameKey_eq e; injection this
  · rintro rfl; exact WideAt.sameKey_self (k3.key (key_int h))
theorem hC_nonneg {S : List Sto} {y : Pr} {i u : Int} (h : hC S y i = some u) : 0 ≤ u := by
  unfold hC at h
  rw [Option.bind_eq_some_iff] at h
  obtain ⟨l, _, h⟩ := h
  unfold pC at h
  split at h
  · injection h with h; omega
  · cases h
/-- What the map says while a pair's numbers are gone through. -/
def ShIn (f : Int → Option Int) (S : List Sto) (L : List Gm) (k : Nat) (x : Gm) (left : Lit → Bool) : Prop := ∀ i, (Lit.int .i64 i).wf = true → numT (f i) = ((shK S L k i + (if left (.int .i64 i) = true then 0 else shG (hC S x.key i) x.n) : Nat) : Int)
set_option maxHeartbeats 12800000 in
theorem shared_any {w : World} {X N : Nat} {R : Nat → Prop} {S : List Sto} (h : Ix w X R N S) {p : Option Addr} {c : Nat} (q : List It) (hG : Gs w p (gramsP (pw q))) (hc : (gramsP (pw q)).length ≤ c) (hm : c ≤ maxLen) (hl : LOk q) (hN : N ≤ 1000000000) :
    Calls Tryz.prog 22 #[.pointer (some ⟨X, 0, none⟩), .slice p (gramsP (pw q)).length c] w fun e w' => ∃ B M f, e = .returned (.map (some B)) ∧ MapAt 3 vInt vInt w' B M f ∧ (∀ i, (Lit.int .i64 i).wf = true → numT (f i) = ((shK S (gramsP (pw q)) (gramsP (pw q)).length i : Nat) : Int)) ∧ Below w.heap.size w w' := by
  obtain ⟨b1, b2, G, LS, HH0, h1, h2⟩ := h
  have hmm := @run_makeMap Tryz.prog
  have hb0 : Below w.heap.size w (w.alloc (.map #[] 0)) := blw (Below.refl _ _) _
  have hM0 : MapAt 3 vInt vInt (w.alloc (.map #[] 0)) w.heap.size 0 (fun _ => none) := MapAt.made w
  have hF0 : ∀ i, (Lit.int .i64 i).wf = true → numT ((fun _ => none : Int → Option Int) i) = ((shK S (gramsP (pw q)) 0 i : Nat) : Int) := fun i _ => rfl
  have hx1 := h1.x1
  have hn := pgrams_len q
  have hl100 := hl.len
  have HKY := Lib.hid (gram_key hl); have HSL := Lib.hid (shK_le S q)
  have p1 : (pw q).length ≤ 101 := by unfold pw; rw [prs_len]; have := wds_len q; omega
  have HNN := Lib.hid (show ∀ g ∈ gramsP (pw q), 0 ≤ g.n ∧ g.n ≤ 101 from fun g hg => by
    rw [((gramsP_ok (pw q)).cnt g hg).1]
    have := List.count_le_length (a := g.key) (l := pw q); omega)
  have HGS := Lib.hid hG; have HHO := Lib.hid h2; have HX1 := Lib.hid hx1
  have HWF := Lib.hid (show ∀ j, lkS S j ≠ none → (Lit.int .i64 j).wf = true from fun j hj => by
    cases hx : lkS S j with
    | none => exact absurd hx hj
    | some l => exact (h1.ok _ (lkS_mem hx)).2)
  have hmb := hm; unfold maxLen at hmb
  have hMBnd : ∀ k, k ≤ 101 → k * N ≤ 101000000000 := fun k hk => Nat.le_trans (Nat.mul_le_mul hk hN) (by omega)
  have HMB := Lib.hid hMBnd
  clear h1 h2 hG hx1 hl hMBnd hm
  generalize gramsP (pw q) = L at *
  go_enter Tryz.func22, Tryz.ntmps22
  go_wp2_with fail
  generalize (w.alloc (.map #[] 0)) = w1 at *
  go_loopw [13] (fun v wr => ∃ (k M : Nat) (f : Int → Option Int), k ≤ L.length ∧ v = .int .i64 k ∧ MapAt 3 vInt vInt wr w.heap.size M f ∧ Aside (M ≤ k * N) ∧ Aside (∀ i, (Lit.int .i64 i).wf = true → numT (f i) = ((shK S L k i : Nat) : Int)) ∧ Below w.heap.size w wr) (fun v _ => L.length - (intOf v).toNat)
  case atStart => exact ⟨0, 0, _, Nat.zero_le _, rfl, hM0, Nat.zero_le _, hF0, hb0⟩
  case round =>
    clear hM0 hF0 hb0
    obtain ⟨k, M, f, hk, rfl, hM, hMk, hF, hB⟩ := hrel
    by_cases hlt : k < L.length
    · obtain ⟨a, rfl, ha, c0, c1, c2⟩ := (HGS.out.call hB).row k hlt
      have hH := HHO.out.call hB
      have hX : wr.cell? ⟨X, 1, none⟩ = some (.map (some b2)) := (Kept.below (F := fun _ => False) hB).cell HX1.out id
      have hnx := shK_next S L k hlt
      have hsl := fun i => HSL.out k i
      obtain ⟨kl, hkey⟩ := HKY.out _ (List.getElem_mem hlt)
      have hnn := HNN.out _ (List.getElem_mem hlt)
      have ik : (k : Int) < (L.length : Int) := by omega
      generalize L[k] = x at *
      have HNX := Lib.hid hnx; have HKL := Lib.hid hkey; have HS1 := Lib.hid hsl; have HM := Lib.hid (And.intro hM (And.intro hMk.out hF.out)); have HH := Lib.hid hH; have HB := Lib.hid hB
      have hgv := heap_alloc_new wr (.cells #[.string x.f, .string x.s, .int .i64 x.n] 72)
      have hbv : Below wr.heap.size wr (wr.alloc (.cells #[.string x.f, .string x.s, .int .i64 x.n] 72)) := blw (Below.refl _ _) _
      have hX7 : (wr.alloc (.cells #[.string x.f, .string x.s, .int .i64 x.n] 72)).cell? ⟨X, 1, none⟩ = some (.map (some b2)) := (Kept.below (F := fun _ => False) hbv).cell hX id
      have HGV := Lib.hid (And.intro hgv hbv)
      have hwB : w.heap.size < wr.heap.size := hM.lt
      clear hnx hkey hsl hM hMk hF hH hB hgv hbv hX
      go_wp2_with fail
      generalize (wr.alloc (.cells #[.string x.f, .string x.s, .int .i64 x.n] 72)) = w7 at *
      clear c0 c1 c2 ha
      obtain ⟨hgv, hbv⟩ := HGV.out
      have hg0 : w7.cell? ⟨wr.heap.size, 0, none⟩ = some (.string x.f) := by rw [Lib.cell_of_heap hgv]; rfl
      have hg1 : w7.cell? ⟨wr.heap.size, 1, none⟩ = some (.string x.s) := by rw [Lib.cell_of_heap hgv]; rfl
      have hg2 : w7.cell? ⟨wr.heap.size, 2, none⟩ = some (.int .i64 x.n) := by rw [Lib.cell_of_heap hgv]; rfl
      have hd := drew_below w7
      have hH8 := (HH.out.call hbv).call hd
      have hX8 : w7.drew.cell? ⟨X, 1, none⟩ = some (.map (some b2)) := hX7
      have hG0 : w7.drew.cell? ⟨wr.heap.size, 0, none⟩ = some (.string x.f) := hg0
      have hG1 : w7.drew.cell? ⟨wr.heap.size, 1, none⟩ = some (.string x.s) := hg1
      have hG2 : w7.drew.cell? ⟨wr.heap.size, 2, none⟩ = some (.int .i64 x.n) := hg2
      have hb8 := BelowOn hbv hd
      clear hgv hX7 hg0 hg1 hg2 hbv hd HGV
      generalize hgvE : wr.heap.size = gv at *
      cases hy : HH0 x.key with
      | some b =>
        have HLK := Lib.hid (fun W (hh : HoldH W G b1 b2 N (hC S) HH0) => by have h := hh.top.look (T := 49) kIp Tryz.underlying49 (z := .map none) (zeroMp W) HKL.out; rw [hy] at h; exact (show (Instr.lookup 49 (.map (some b2)) (.agg #[.string x.f, .string x.s]) false).run Tryz.prog W = .ok (.map (some b)) W from h))
        refine wp_region_held_drew (S := fun W => W.cell? ⟨X, 1, none⟩ = some (.map (some b2)) ∧ W.cell? ⟨gv, 0, none⟩ = some (.string x.f) ∧ W.cell? ⟨gv, 1, none⟩ = some (.string x.s) ∧ W.cell? ⟨gv, 2, none⟩ = some (.int .i64 x.n) ∧ HoldH W G b1 b2 N (hC S) HH0) (by kernel_rfl) (⟨hX8, hG0, hG1, hG2, hH8⟩) (fun hHeld => ?_)
        generalize w7.drew = w8 at *
        refine wpAnyH_take (i := 0) (v := ?_) rfl (by kernel_rfl) (by kernel_rfl) (by kernel_rfl) (fun _ _ _ h => h) (Or.inl ⟨by rfl, ?_⟩) hHeld ?_
        rotate_left
        · (intro w hSw; skip; go_simp; try with_reducible rfl)
        try simp only [Act.put, List.getElem_toArray, List.getElem_cons_zero, List.getElem_cons_succ, List.setIfInBounds_toArray, List.set_cons_zero, List.set_cons_succ]
        refine wpAnyH_take (i := 1) (v := ?_) rfl (by kernel_rfl) (by kernel_rfl) (by kernel_rfl) (fun _ _ _ h => h) (Or.inl ⟨by rfl, ?_⟩) hHeld ?_
        rotate_left
        · (intro w hSw; skip; go_simp; try with_reducible rfl)
        try simp only [Act.put, List.getElem_toArray, List.getElem_cons_zero, List.getElem_cons_succ, List.setIfInBounds_toArray, List.set_cons_zero, List.set_cons_succ]
        refine wpAnyH_take (i := 2) (v := ?_) rfl (by kernel_rfl) (by kernel_rfl) (by kernel_rfl) (fun _ _ _ h => h) (Or.inl ⟨by rfl, ?_⟩) hHeld ?_
        rotate_left
        · (intro w hSw; skip; go_simp; try with_reducible rfl)
        try simp only [Act.put, List.getElem_toArray, List.getElem_cons_zero, List.getElem_cons_succ, List.setIfInBounds_toArray, List.set_cons_zero, List.set_cons_succ]
        refine wpAnyH_take (i := 3) (v := ?_) rfl (by kernel_rfl) (by kernel_rfl) (by kernel_rfl) (fun _ _ _ h => h) (Or.inl ⟨by rfl, ?_⟩) hHeld ?_
        rotate_left
        · (intro w hSw; obtain ⟨c0, _⟩ := hSw; go_simp; try with_reducible rfl)
        try simp only [Act.put, List.getElem_toArray, List.getElem_cons_zero, List.getElem_cons_succ, List.setIfInBounds_toArray, List.set_cons_zero, List.set_cons_succ]
        refine wpAnyH_take (i := 4) (v := ?_) rfl (by kernel_rfl) (by kernel_rfl) (by kernel_rfl) (fun _ _ _ h => h) (Or.inl ⟨by rfl, ?_⟩) hHeld ?_
        rotate_left
        · (intro w hSw; obtain ⟨_, c0, c1, c2, _⟩ := hSw; go_simp; try with_reducible rfl)
        try simp only [Act.put, List.getElem_toArray, List.getElem_cons_zero, List.getElem_cons_succ, List.setIfInBounds_toArray, List.set_cons_zero, List.set_cons_succ]
        refine wpAnyH_ready (rs := [5]) (by kernel_rfl) (by simp) ?_
        refine (AllReadyH.cons rfl (fun K hK => ?_) AllReadyH.nil)
        go_simp
        refine (pairof_any x w8).mono ?_; rintro e w9 ⟨rfl, hb9⟩
        have hH9 := hH8.call hb9
        refine hK.out _ _ ((fun (k : Kept (fun _ => False) w8 w9) => ⟨k.cell hX8 id, k.cell hG0 id, k.cell hG1 id, k.cell hG2 id, hH8.call hb9⟩) (Kept.below hb9)) (fun hHeld => ?_)
        clear hK K
        try simp only [Act.put, List.getElem_toArray, List.getElem_cons_zero, List.getElem_cons_succ, List.setIfInBounds_toArray, List.set_cons_zero, List.set_cons_succ]
        refine wpAnyH_take (i := 6) (v := ?_) rfl (by kernel_rfl) (by kernel_rfl) (by kernel_rfl) (fun _ _ _ h => h) (Or.inl ⟨by rfl, ?_⟩) hHeld ?_
        rotate_left
        · (intro w hSw; obtain ⟨_, _, _, _, hh⟩ := hSw; have hl := HLK.out _ hh; go_simp; try with_reducible rfl)
        try simp only [Act.put, List.getElem_toArray, List.getElem_cons_zero, List.getElem_cons_succ, List.setIfInBounds_toArray, List.set_cons_zero, List.set_cons_succ]
        obtain ⟨hX9, hG09, hG19, hG29, _⟩ := hHeld
        obtain ⟨D, o1, s1, t1⟩ := (hH9.inn _ _ hy).2.2
        obtain ⟨w10, hrun, hrg0, hgr, hsz⟩ := o1.range k3 Tryz.underlying63
        have hrun10 : (Instr.range 63 (.map (some b))).run Tryz.prog w9 = .ok (.pointer (some ⟨w9.heap.size, 0, none⟩)) w10 := hrun
        have hb10 : Below w9.heap.size w9 w10 := (Below.refl _ _).grown hgr (Nat.le_refl _) (fun j hj => by cases hj)
        have hHeld2 : w10.cell? ⟨X, 1, none⟩ = some (.map (some b2)) ∧ w10.cell? ⟨gv, 0, none⟩ = some (.string x.f) ∧ w10.cell? ⟨gv, 1, none⟩ = some (.string x.s) ∧ w10.cell? ⟨gv, 2, none⟩ = some (.int .i64 x.n) ∧ HoldH w10 G b1 b2 N (hC S) HH0 := (fun (k : Kept (fun _ => False) w9 w10) => ⟨k.cell hX9 id, k.cell hG09 id, k.cell hG19 id, k.cell hG29 id, hH9.call hb10⟩) (Kept.below hb10)
        obtain ⟨hM, hMk, hF⟩ := HM.out
        have hbA : Below wr.heap.size wr w10 := by rw [hgvE]; exact (hb8.trans (hb9.mono (by have := hb8.size; omega))).trans (hb10.mono (by have := hb8.size; have := hb9.size; omega))
        have hMA := hM.call hbA; have hBA := BelowOn HB.out hbA
        have hneb : b ≠ w.heap.size := fun c => by have h5 := HHO.out.lt _ (hH9.inn _ _ hy).1; omega
        have hr0 : gv < w9.heap.size := by have := block_lt_of_cell hG29; exact this
        have hI0 : ShIn f S L k x (Maps.has D) := fun i hi => by
          have e1 := s1 i _ (key_int hi)
          rw [hF i hi]
          cases hcq : hC S x.key i with
          | none => simp [shG]
          | some u => rw [hcq] at e1; rw [if_pos (show Maps.has D (.int .i64 i) = true from e1.1)]; rfl
        have HK := Lib.hid (And.intro s1 t1)
        have HHx := Lib.hid (show ∀ i, hC S x.key i ≠ none → (Lit.int .i64 i).wf = true from fun i hi => HWF.out i (fun c => hi (by unfold hC; rw [c]; rfl)))
        have hszD := o1.size_le
        have HMY := Lib.hid (show M ≤ k * N from hMk)
        clear hb8 hb9 hgr hsz hrun hX8 hG0 hG1 hG2 hH8 hH9 hM hMk hF HM s1 t1 o1 hbA HLK HKL hb10
        refine wpAnyH_ready (rs := [7]) (by kernel_rfl) (by simp) ?_
        refine (AllReadyH.cons rfl (fun K hK => ?_) AllReadyH.nil)
        go_simp
        refine hK.out _ _ hHeld2 (fun hHeld => ?_)
        clear hK K hHeld2
        try simp only [Act.put, List.getElem_toArray, List.getElem_cons_zero, List.getElem_cons_succ, List.setIfInBounds_toArray, List.set_cons_zero, List.set_cons_succ]
        refine wpAnyH_done (by kernel_rfl) ?_ _
        have hg2 := hHeld.2.2.2.1
        clear hHeld hrun10 hX9 hG09 hG19 hG29
        generalize hr0E : w9.heap.size = r0 at *
        have hMK2 := HMB.out (k + 1) (by omega)
        rw [Nat.add_mul, Nat.one_mul] at hMK2
        have HMX := Lib.hid (show (k + 1) * N = k * N + N by rw [Nat.add_mul, Nat.one_mul])
        go_wp2_with fail
        go_loopw [] (fun wr => ∃ (left : Lit → Bool) (cnt M : Nat) (f : Int → Option Int), wr.ranges Tryz.prog 3 rawE b r0 N D left cnt ∧ MapAt 3 vInt vInt wr w.heap.size M f ∧ wr.cell? ⟨gv, 2, none⟩ = some (.int .i64 x.n) ∧ Aside (M + cnt ≤ k * N + N) ∧ Aside (ShIn f S L k x left) ∧ Below w.heap.size w wr)
          (fun wr => wr.rangeLeft b r0)
        case atStart => exact ⟨_, _, _, f, hrg0, hMA, hg2, (show _ + Maps.size D ≤ k * N + N by have := HMY.out; omega), hI0, hBA⟩
        case round =>
          clear hrg0 hMA hI0 hBA hg2 HMY M f
          obtain ⟨left, cnt, M, f, hrg, hM, hg2, hMc, hI, hB⟩ := hrel
          have hleft := hrg.left_eq
          go_wp2_with (first
            | (at_next; refine wpList_next_ranges _ rfl _ rfl 3 k3 rawE id id (fun key _ _ => ⟨key, rfl⟩) (fun v _ _ => ⟨v, rfl⟩) b r0 N _ _ _ rfl hrg ?_ ?_)
            | go_in)
          · intro _ hl0
            have hF' : ∀ i, (Lit.int .i64 i).wf = true → numT (f i) = ((shK S L (k + 1) i : Nat) : Int) := fun i hi => by
              have := hI.out i hi
              rw [hl0, if_neg (by simp)] at this
              rw [HNX.out]; exact this
            have HF := Lib.hid (And.intro hM (And.intro hMc.out (And.intro hF' hB)))
            clear hM hMc hF' hB hI hrg hleft
            go_wp2_with fail
            go_roundw
            case rel =>
              obtain ⟨hM, hMc, hF', hB⟩ := HF.out
              exact ⟨k + 1, M, f, hlt, by go_num, hM, (show M ≤ (k + 1) * N by rw [HMX.out]; omega), hF', hB⟩
            case measure => simp [intOf] <;> omega
          · intro x0 cc kl2 yd yp w2 cnt1 hkey2 hlx hv hat hrg1 hlt1 hg1 hs1 hen
            obtain ⟨s1, t1⟩ := HK.out
            have hh := has_true_of_atKey hat
            obtain ⟨y, hyk⟩ := t1 kl2 hh
            have hxy : x0 = vInt y := k3.inj hkey2 hyk
            have hsy := s1 y kl2 hyk
            cases hf : hC S x.key y with
            | none => rw [hf] at hsy; rw [show Maps.has _ _ = false from hsy.1] at hh; cases hh
            | some u =>
              rw [hf] at hsy
              have hcc : cc = vInt u := by
                have h1 := hat .nil
                rw [hsy.2 .nil] at h1
                have h2 : some (DataW.held cc, ([] : List MemPlace)) = some (yd, yp) := hv
                injection h2 with h2
                injection h2 with h2 _
                rw [← h2] at h1
                injection h1 with h1
                exact h1.symm
              subst hcc; subst hxy
              have hwf := HHx.out y (by rw [hf]; simp)
              have hkl : kl2 = .int .i64 y := by
                have e := key_int hwf
                rw [e] at hyk; injection hyk with e; exact e.symm
              subst hkl
              have hu0 : 0 ≤ u := hC_nonneg hf
              have hIy := hI.out y hwf
              rw [hlx, if_pos rfl, Nat.add_zero] at hIy
              have hsq := HS1.out y
              have hn0 : 0 ≤ numT (f y) ∧ numT (f y) ≤ 101 := by omega
              have hB1 : Below w.heap.size w w2 := hB.grown hg1 hB.size (fun j hj => by cases hj; omega)
              have hM1 := hM.other hg1 (by omega)
              have hg21 := hg1.cell hg2 (by simp; omega)
              have hl1 := hM1.look (T := 63) k3 Tryz.underlying63 (z := vInt 0) (zeroT _) hyk
              rw [pick_num] at hl1
              have hl2 : (Instr.lookup 63 (.map (some w.heap.size)) (.int .i64 y) false).run Tryz.prog w2 = .ok (.int .i64 (numT (f y))) w2 := hl1
              have hcntM : M < maxLen := by have := hMc.out; unfold maxLen; omega
              obtain ⟨w3, hput, hM3, hg3⟩ := hM1.put (T := 63) k3 vInt_inj Tryz.underlying63 hcntM hyk (numT (f y) + min u x.n)
              have hput2 : (Instr.mapUpdate 63 (.map (some w.heap.size)) (.int .i64 y) (.int .i64 (numT (f y) + min u x.n))).run Tryz.prog w2 = .ok () w3 := hput
              have hen' : (Instr.entry (.pointer (some ⟨r0, 0, none⟩))).run Tryz.prog w2 = .ok (.tuple #[.int .i64 y, .int .i64 u]) w2 := hen
              have hrg3 := hrg1.kept hg3 (by simp; omega) (by simp; omega)
              have hg23 := hg3.cell hg21 (by simp; omega)
              have hB3 : Below w.heap.size w w3 := hB1.grown hg3 hB1.size (fun j hj => by cases hj; omega)
              have hI3 : ShIn (fun i => if i = y then some (numT (f y) + min u x.n) else f i) S L k x (fun z => left z && !z.sameKey (.int .i64 y)) := fun i hi => by
                by_cases ei : i = y
                · subst ei
                  have e1 : (left (.int .i64 i) && !(Lit.int .i64 i).sameKey (.int .i64 i)) = false := by rw [same_int i i hwf]; simp
                  simp only [if_true, e1, if_neg (show ¬ (false = true) by simp)]
                  rw [hf]
                  show numT (f i) + min u x.n = _
                  rw [hIy]; unfold shG; simp only; omega
                · have e1 : (left (.int .i64 i) && !(Lit.int .i64 i).sameKey (.int .i64 y)) = left (.int .i64 i) := by rw [same_int y i hwf, decide_eq_false ei]; simp
                  simp only [if_neg ei, e1]
                  exact hI.out i hi
              have HX := Lib.hid (And.intro hrg3 (And.intro hM3 (And.intro hg23 (And.intro hB3 (And.intro hI3 hMc.out)))))
              clear hv hen hat hsy hg1 hrg1 hrg hs1 s1 t1 hB1 hh hkey2 hyk hlx hM hM1 hl1 hput hM3 hg3 hrg3 hg23 hB3 hI3 hI hIy hsq hB hMc hwf hf hg2 hcntM
              generalize numT (f y) = F at *
              go_wp2_with fail
              obtain ⟨hrg3, hM3, hg23, hB3, hI3, hMc⟩ := HX.out
              refine ⟨⟨_, cnt1, M + 1, _, hrg3, hM3, hg23, (show M + 1 + cnt1 ≤ k * N + N by omega), hI3, hB3⟩, ?_⟩
              rw [hrg3.left_eq, hleft]; exact hlt1
      | none =>
        have HLK := Lib.hid (fun W (hh : HoldH W G b1 b2 N (hC S) HH0) => by have h := hh.top.look (T := 49) kIp Tryz.underlying49 (z := .map none) (zeroMp W) HKL.out; rw [hy] at h; exact (show (Instr.lookup 49 (.map (some b2)) (.agg #[.string x.f, .string x.s]) false).run Tryz.prog W = .ok (.map none) W from h))
        refine wp_region_held_drew (S := fun W => W.cell? ⟨X, 1, none⟩ = some (.map (some b2)) ∧ W.cell? ⟨gv, 0, none⟩ = some (.string x.f) ∧ W.cell? ⟨gv, 1, none⟩ = some (.string x.s) ∧ W.cell? ⟨gv, 2, none⟩ = some (.int .i64 x.n) ∧ HoldH W G b1 b2 N (hC S) HH0) (by kernel_rfl) (⟨hX8, hG0, hG1, hG2, hH8⟩) (fun hHeld => ?_)
        generalize w7.drew = w8 at *
        refine wpAnyH_take (i := 0) (v := ?_) rfl (by kernel_rfl) (by kernel_rfl) (by kernel_rfl) (fun _ _ _ h => h) (Or.inl ⟨by rfl, ?_⟩) hHeld ?_
        rotate_left
        · (intro w hSw; skip; go_simp; try with_reducible rfl)
        try simp only [Act.put, List.getElem_toArray, List.getElem_cons_zero, List.getElem_cons_succ, List.setIfInBounds_toArray, List.set_cons_zero, List.set_cons_succ]
        refine wpAnyH_take (i := 1) (v := ?_) rfl (by kernel_rfl) (by kernel_rfl) (by kernel_rfl) (fun _ _ _ h => h) (Or.inl ⟨by rfl, ?_⟩) hHeld ?_
        rotate_left
        · (intro w hSw; skip; go_simp; try with_reducible rfl)
        try simp only [Act.put, List.getElem_toArray, List.getElem_cons_zero, List.getElem_cons_succ, List.setIfInBounds_toArray, List.set_cons_zero, List.set_cons_succ]
        refine wpAnyH_take (i := 2) (v := ?_) rfl (by kernel_rfl) (by kernel_rfl) (by kernel_rfl) (fun _ _ _ h => h) (Or.inl ⟨by rfl, ?_⟩) hHeld ?_
        rotate_left
        · (intro w hSw; skip; go_simp; try with_reducible rfl)
        try simp only [Act.put, List.getElem_toArray, List.getElem_cons_zero, List.getElem_cons_succ, List.setIfInBounds_toArray, List.set_cons_zero, List.set_cons_succ]
        refine wpAnyH_take (i := 3) (v := ?_) rfl (by kernel_rfl) (by kernel_rfl) (by kernel_rfl) (fun _ _ _ h => h) (Or.inl ⟨by rfl, ?_⟩) hHeld ?_
        rotate_left
        · (intro w hSw; obtain ⟨c0, _⟩ := hSw; go_simp; try with_reducible rfl)
        try simp only [Act.put, List.getElem_toArray, List.getElem_cons_zero, List.getElem_cons_succ, List.setIfInBounds_toArray, List.set_cons_zero, List.set_cons_succ]
        refine wpAnyH_take (i := 4) (v := ?_) rfl (by kernel_rfl) (by kernel_rfl) (by kernel_rfl) (fun _ _ _ h => h) (Or.inl ⟨by rfl, ?_⟩) hHeld ?_
        rotate_left
        · (intro w hSw; obtain ⟨_, c0, c1, c2, _⟩ := hSw; go_simp; try with_reducible rfl)
        try simp only [Act.put, List.getElem_toArray, List.getElem_cons_zero, List.getElem_cons_succ, List.setIfInBounds_toArray, List.set_cons_zero, List.set_cons_succ]
        refine wpAnyH_ready (rs := [5]) (by kernel_rfl) (by simp) ?_
        refine (AllReadyH.cons rfl (fun K hK => ?_) AllReadyH.nil)
        go_simp
        refine (pairof_any x w8).mono ?_; rintro e w9 ⟨rfl, hb9⟩
        have hH9 := hH8.call hb9
        refine hK.out _ _ ((fun (k : Kept (fun _ => False) w8 w9) => ⟨k.cell hX8 id, k.cell hG0 id, k.cell hG1 id, k.cell hG2 id, hH8.call hb9⟩) (Kept.below hb9)) (fun hHeld => ?_)
        clear hK K
        try simp only [Act.put, List.getElem_toArray, List.getElem_cons_zero, List.getElem_cons_succ, List.setIfInBounds_toArray, List.set_cons_zero, List.set_cons_succ]
        refine wpAnyH_take (i := 6) (v := ?_) rfl (by kernel_rfl) (by kernel_rfl) (by kernel_rfl) (fun _ _ _ h => h) (Or.inl ⟨by rfl, ?_⟩) hHeld ?_
        rotate_left
        · (intro w hSw; obtain ⟨_, _, _, _, hh⟩ := hSw; have hl := HLK.out _ hh; go_simp; try with_reducible rfl)
        try simp only [Act.put, List.getElem_toArray, List.getElem_cons_zero, List.getElem_cons_succ, List.setIfInBounds_toArray, List.set_cons_zero, List.set_cons_succ]
        obtain ⟨hX9, hG09, hG19, hG29, _⟩ := hHeld
        have hrun := run_range_nilMap (P := Tryz.prog) w9 63 3 3 Tryz.underlying63
        have hnil := fun ty => run_next_nilMap (P := Tryz.prog) w9 ty 0 0 #[]
        have hb10 : Below w9.heap.size w9 (w9.alloc (.mapIter none 0 #[] 0)) := blw (Below.refl _ _) _
        have hHeld2 : (w9.alloc (.mapIter none 0 #[] 0)).cell? ⟨X, 1, none⟩ = some (.map (some b2)) ∧ (w9.alloc (.mapIter none 0 #[] 0)).cell? ⟨gv, 0, none⟩ = some (.string x.f) ∧ (w9.alloc (.mapIter none 0 #[] 0)).cell? ⟨gv, 1, none⟩ = some (.string x.s) ∧ (w9.alloc (.mapIter none 0 #[] 0)).cell? ⟨gv, 2, none⟩ = some (.int .i64 x.n) ∧ HoldH (w9.alloc (.mapIter none 0 #[] 0)) G b1 b2 N (hC S) HH0 := (fun (k : Kept (fun _ => False) w9 (w9.alloc (.mapIter none 0 #[] 0))) => ⟨k.cell hX9 id, k.cell hG09 id, k.cell hG19 id, k.cell hG29 id, hH9.call hb10⟩) (Kept.below hb10)
        obtain ⟨hM, hMk, hF⟩ := HM.out
        have hbA : Below wr.heap.size wr (w9.alloc (.mapIter none 0 #[] 0)) := by rw [hgvE]; exact (hb8.trans (hb9.mono (by have := hb8.size; omega))).trans (hb10.mono (by have := hb8.size; have := hb9.size; omega))
        have hMA := hM.call hbA; have hBA := BelowOn HB.out hbA
        have hF' : ∀ i, (Lit.int .i64 i).wf = true → numT (f i) = ((shK S L (k + 1) i : Nat) : Int) := fun i hi => by
          rw [HNX.out, hH9.out _ hy i, hF i hi]; rfl
        have HF := Lib.hid (And.intro hMA (And.intro hMk (And.intro hF' hBA)))
        clear hb8 hb9 hX8 hG0 hG1 hG2 hH8 hH9 hM hMk hF HM hbA HLK HKL hb10 hMA hBA hF'
        refine wpAnyH_ready (rs := [7]) (by kernel_rfl) (by simp) ?_
        refine (AllReadyH.cons rfl (fun K hK => ?_) AllReadyH.nil)
        go_simp
        refine hK.out _ _ hHeld2 (fun hHeld => ?_)
        clear hK K hHeld2
        try simp only [Act.put, List.getElem_toArray, List.getElem_cons_zero, List.getElem_cons_succ, List.setIfInBounds_toArray, List.set_cons_zero, List.set_cons_succ]
        refine wpAnyH_done (by kernel_rfl) ?_ _
        clear hHeld hrun hX9 hG09 hG19 hG29
        go_wp2_with fail
        refine wp_loop_rounds 1 ?_
        rw [rounds_succ]
        go_wp2_with fail
        go_roundw
        case rel =>
          obtain ⟨hM, hMk, hF', hB⟩ := HF.out
          exact ⟨k + 1, M, f, hlt, by go_num, hM, (show M ≤ (k + 1) * N by rw [Nat.add_mul]; omega), hF', hB⟩
        case measure => simp [intOf] <;> omega
    · obtain rfl : k = L.length := by omega
      have HF := Lib.hid (And.intro hM (And.intro hF.out hB))
      clear hM hF hB hMk
      go_wp2_with fail
      go_ret
      exact ⟨_, M, f, rfl, HF.out.1, HF.out.2.1, HF.out.2.2⟩
end Go.Proofs.YthfgpagmepdblaaGreat
