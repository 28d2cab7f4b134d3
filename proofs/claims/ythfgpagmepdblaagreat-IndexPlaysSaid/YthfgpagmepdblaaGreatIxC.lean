/- Index: contract of Add. -/
import Derived.Test.YthfgpagmepdblaaGreatIxB
import Derived.WalkKit
import Derived.Deep.RegionHeld
import Derived.WalkSpells
namespace Go.Proofs.YthfgpagmepdblaaGreat
open Go.ChangeShapes Go.WideShapes Go.ChangeAt Go.RowKit Go.Maps
set_option linter.unusedVariables false
set_option linter.unusedSimpArgs false
set_option maxRecDepth 100000

/-- What Add answers: whether the number is free, and there is room. -/
def addB (S : List Sto) (i : Int) : Bool := decide (lkS S i = none) && decide (S.length < 1024)
def addS (S : List Sto) (i : Int) (l : List It) : List Sto := if addB S i = true then S ++ [⟨i, l⟩] else S
/-- What a call that changes the index leaves. -/
def IxEnd (w : World) (X N : Nat) (R : Nat → Prop) (S : List Sto) (w' : World) : Prop := ∃ R', Ix w' X R' N S ∧ (∀ k, R' k → R k ∨ w.heap.size ≤ k) ∧ Kept R w w'
/-- The list is put under its number. -/
theorem IxL.put {w : World} {X b1 b2 : Nat} {G R : Nat → Prop} {S : List Sto} {LS : Int → Option LV} (h : IxL w X b1 b2 G R S LS) {i : Int} (hi : (Lit.int .i64 i).wf = true) (hn : lkS S i = none) (hS : S.length < 1024) {x : LV} (hI : Its w x.p x.l) (hc : x.l.length ≤ x.c) (hm : x.c ≤ maxLen) (hl : LOk x.l)
    {B : Nat} (hB : ∀ k, R k → k < B) (hx : 0 < x.l.length → ∀ a, x.p = some a → B ≤ a.block ∧ a.block < w.heap.size) :
    ∃ w', (Instr.mapUpdate 48 (.map (some b1)) (.int .i64 i) x.v).run Tryz.prog w = .ok () w' ∧ IxL w' X b1 b2 G (fun k => R k ∨ (B ≤ k ∧ k < w'.heap.size)) (S ++ [⟨i, x.l⟩]) (fun j => if j = i then some x else LS j) ∧ w.grownBy w' (some b1) := by
  have hL : LS i = none := by have := h.eq i; rw [hn] at this; cases hL : LS i with
    | none => rfl
    | some e => rw [hL] at this; cases this
  obtain ⟨w', hr, hmp, hg⟩ := h.map.put (T := 48) k3 vInt_inj Tryz.underlying48 (by unfold maxLen; omega) (key_int hi) x hL
  have hk : Kept (fun k => k = b1) w w' := Kept.grown hg fun k e _ => by injection e with e; exact e.symm
  have hb1 := h.rg b1 (.inr rfl)
  refine ⟨w', hr, ⟨hk.cell h.x0 (fun c => h.xn (.inr c)), hk.cell h.x1 (fun c => h.xn (.inr c)), h.xn, by rw [List.length_append]; exact hmp, fun j => ?_, fun j e he => ?_, fun s hs => ?_, ?_, .inl h.rx, fun k hk => .inl (h.rg k hk), fun k hk' => ?_⟩, hg⟩
  · rw [lkS_add S i x.l hn]
    by_cases e : j = i
    · rw [if_pos e, if_pos e]; rfl
    · rw [if_neg e, if_neg e]; exact h.eq j
  · by_cases ej : j = i
    · simp only [if_pos ej] at he
      injection he with he
      subst he
      refine ⟨hI.kept hk fun h0 a ha c => ?_, hc, hm, fun h0 a ha => ⟨fun c => ?_, .inr ⟨(hx h0 a ha).1, Nat.lt_of_lt_of_le (hx h0 a ha).2 hg.size⟩⟩⟩
      · have := hB b1 hb1; have := (hx h0 a ha).1; omega
      · have := hB _ (h.rg _ c); have := (hx h0 a ha).1; omega
    · simp only [if_neg ej] at he
      obtain ⟨h1, h2, h3, h4⟩ := h.its j e he
      exact ⟨h1.kept hk fun h0 a ha c => (h4 h0 a ha).1 (.inr c), h2, h3, fun h0 a ha => ⟨(h4 h0 a ha).1, .inl (h4 h0 a ha).2⟩⟩
  · rcases List.mem_append.1 hs with hs | hs
    · exact h.ok s hs
    · rw [List.mem_singleton] at hs; subst hs; exact ⟨hl, hi⟩
  · rw [List.map_append, List.nodup_append]
    refine ⟨h.nd, by simp, fun a ha b hb => ?_⟩
    obtain ⟨s, hs, rfl⟩ := List.mem_map.1 ha
    simp at hb
    rw [hb]
    exact (lkS_none S i).1 hn s hs
  · rcases hk' with hk' | ⟨_, hk'⟩
    · exact Nat.lt_of_lt_of_le (h.rl k hk') hg.size
    · exact hk'
/-- The pairs have turned: what the lists say stands, with other blocks. -/
theorem IxL.turn {w w' : World} {X b1 b2 : Nat} {G G' R : Nat → Prop} {S : List Sto} {LS : Int → Option LV} (h : IxL w X b1 b2 G R S LS) (k : Kept G w w') (hn : ¬ G b1) (hn' : ¬ G' b1) (hG : ∀ j, G' j → G j ∨ (w.heap.size ≤ j ∧ j < w'.heap.size)) :
    IxL w' X b1 b2 G' (fun j => R j ∨ (w.heap.size ≤ j ∧ j < w'.heap.size)) S LS := by
  have lift : ∀ j, R j → ¬ fp G b1 j → ¬ fp G' b1 j := fun j hj hf c => by
    rcases c with c | c
    · rcases hG j c with c | c
      · exact hf (.inl c)
      · have := h.rl j hj; omega
    · exact hf (.inr c)
  have h1 := h.keptBy k (fun c => h.xn (.inl c)) hn fun i e he h0 a ha c => ((h.its i e he).2.2.2 h0 a ha).1 (.inl c)
  refine ⟨h1.x0, h1.x1, lift _ h.rx h.xn, h1.map, h1.eq, fun i e he => ?_, h1.ok, h1.nd, .inl h.rx, fun j hj => ?_, fun j hj => ?_⟩
  · obtain ⟨q1, q2, q3, q4⟩ := h1.its i e he
    exact ⟨q1, q2, q3, fun h0 a ha => ⟨lift _ (q4 h0 a ha).2 (q4 h0 a ha).1, .inl (q4 h0 a ha).2⟩⟩
  · rcases hj with hj | hj
    · rcases hG j hj with c | c
      · exact .inl (h.rg j (.inl c))
      · exact .inr c
    · exact .inl (h.rg j (.inr hj))
  · rcases hj with hj | hj
    · exact Nat.lt_of_lt_of_le (h.rl j hj) k.size
    · exact hj.2
set_option maxHeartbeats 12800000 in
theorem add_any {w : World} {X N : Nat} {R : Nat → Prop} {S : List Sto} (h : Ix w X R N S) {i : Int} (hi : (Lit.int .i64 i).wf = true) {p : Option Addr} {c : Nat} {l : List It} (hI : Its w p l) (hc : l.length ≤ c) (hm : c ≤ maxLen) (hl : LOk l) (hN : N ≤ 1000000000) :
    Calls Tryz.prog 15 #[.pointer (some ⟨X, 0, none⟩), .int .i64 i, .slice p l.length c] w fun e w' => e = .returned (.bool (addB S i)) ∧ IxEnd w X (N + 1000) R (addS S i l) w' := by
  obtain ⟨b1, b2, G, LS, HH, h1, h2⟩ := h
  have x0 := h1.x0
  have hlk := fun W (h : MapAt 3 vInt LV.v W b1 S.length LS) => h.lookOk (T := 48) k3 Tryz.underlying48 (zeroLs W) (key_int hi)
  have hlen := fun W (h : MapN 3 vInt LV.v W b1 S.length LS) ty => h.len (T := 48) Tryz.underlying48 ty
  have HEQ := h1.eq i
  have hk0 := hlk w h1.map.at
  cases hL : LS i with
  | some e0 =>
    have hsome : lkS S i = some e0.l := by rw [← HEQ, hL]; rfl
    have hB : addB S i = false := by unfold addB; rw [hsome]; rfl
    have HB := Lib.hid hB
    have hE : addS S i l = S := by unfold addS; rw [hB]; rfl
    have HX := Lib.hid (show Ix w X R N S from ⟨b1, b2, G, LS, HH, h1, h2⟩)
    have HE := Lib.hid hE
    rw [hL] at hk0
    have hk1 : (Instr.lookup 48 (.map (some b1)) (.int .i64 i) true).run Tryz.prog w = .ok (.tuple #[.agg #[.slice e0.p e0.l.length e0.c, .int .i64 (wtL e0.l), .int .i64 ((pw e0.l).length : Nat)], .bool true]) w := hk0
    clear hk0 hlk hlen h1 h2 HEQ hL hsome hB hE
    go_enter Tryz.func15, Tryz.ntmps15
    go_wp2_with fail
    go_ret
    rw [HB.out, HE.out]
    have hb := (Below.refl w.heap.size w).alloc (Nat.le_refl _) (.cells #[.slice e0.p e0.l.length e0.c, .int .i64 (wtL e0.l), .int .i64 ((pw e0.l).length : Nat)] 61)
    exact ⟨rfl, R, (HX.out.call hb).mono (by omega), fun k hk => .inl hk, Kept.below hb⟩
  | none =>
    have hnone : lkS S i = none := by rw [← HEQ, hL]; rfl
    rw [hL] at hk0
    have hk1 : (Instr.lookup 48 (.map (some b1)) (.int .i64 i) true).run Tryz.prog w = .ok (.tuple #[.agg #[.slice none 0 0, .int .i64 0, .int .i64 0], .bool false]) w := hk0
    clear hk0 hlk HEQ hL
    have hb := (Below.refl w.heap.size w).alloc (Nat.le_refl _) (.cells #[.slice none 0 0, .int .i64 0, .int .i64 0] 61)
    have h1a := h1.call hb; have h2a := h2.call hb
    have hz1 := fun ty => hlen _ h1a.map ty
    have x0a := h1a.x0
    have hK0 : Kept R w _ := Kept.below hb
    by_cases hroom : S.length < 1024
    · have hB : addB S i = true := by unfold addB; rw [decide_eq_true hnone, decide_eq_true hroom]; rfl
      have hE : addS S i l = S ++ [⟨i, l⟩] := by unfold addS; rw [if_pos hB]
      rw [hB, hE]
      clear hB hE
      have hsl : ¬ (S.length : Int) ≥ 1024 := by omega
      have hsl2 : (S.length : Int) < 1024 := by omega
      have hIa := hI.call hb
      have hsa : w.heap.size ≤ (w.alloc (.cells #[.slice none 0 0, .int .i64 0, .int .i64 0] 61)).heap.size := hb.size
      have HIL := Lib.hid h1a; have HHO := Lib.hid h2a; have HBA := Lib.hid hb; have HIA := Lib.hid hIa; have HRL := Lib.hid h1.rl; have HRG := Lib.hid h1.rg
      have HNW := Lib.hid (And.intro hnone hroom)
      clear h1 h1a h2 h2a hb hI hK0 hlen hIa
      have HGR := Lib.hid (fun W h => gramsof_any p c l W h hc hm hl)
      have HLL := Lib.hid hl
      have hl100 := hl.len
      clear hl hnone
      go_enter Tryz.func15, Tryz.ntmps15
      go_wp2_with fail
      generalize (w.alloc (.cells #[.slice none 0 0, .int .i64 0, .int .i64 0] 61)) = w1 at *
      refine (HGR.out _ HIA.out).mono ?_; rintro e w2 ⟨v, rfl, hA⟩
      obtain ⟨q, dq, hv, g1, g2, g3⟩ := OwnG.gs hA.own
      have hgq : ∀ a, q = some a → w1.heap.size ≤ a.block ∧ a.block < w2.heap.size := fun a ha => hA.own.lt a.block (by rw [hv, ha]; rfl)
      have hb2 := hA.below
      subst hv
      clear hA hz1 x0a hk1 x0 hsl hsl2
      have hIL := HIL.out.call hb2; have hHO := HHO.out.call hb2; have hI2 := HIA.out.call hb2; have hBB := BelowOn HBA.out hb2
      have x0b := hIL.x0
      have HIL2 := Lib.hid hIL; have HHO2 := Lib.hid hHO; have HI2 := Lib.hid hI2; have HBB := Lib.hid hBB; have HG3 := Lib.hid g3; have HGQ := Lib.hid hgq; have HS2 := Lib.hid hb2.size
      clear hIL hHO hI2 hBB HIL HHO HIA HBA hb2 g3 hgq HGR
      go_wp2_with fail
      refine wp_region_held_drew (S := fun W => W.cell? ⟨X, 0, none⟩ = some (.map (some b1))) (by kernel_rfl) (x0b) (fun hHeld => ?_)
      have hb3 := drew_below w2
      have hIL3 := HIL2.out.call hb3; have hHO3 := HHO2.out.call hb3; have hI3 := HI2.out.call hb3; have hB3 := BelowOn HBB.out hb3; have hG3 := HG3.out.call hb3
      have hz3 : w2.drew.heap.size = w2.heap.size := rfl
      generalize w2.drew = w3 at *
      clear hb3 x0b
      refine wpAnyH_take (i := 0) (v := ?_) rfl (by kernel_rfl) (by kernel_rfl) (by kernel_rfl) (fun _ _ _ h => h) (Or.inl ⟨by rfl, ?_⟩) hHeld ?_
      rotate_left
      · (intro w hSw; skip; go_simp; try with_reducible rfl)
      try simp only [Act.put, List.getElem_toArray, List.getElem_cons_zero, List.getElem_cons_succ, List.setIfInBounds_toArray, List.set_cons_zero, List.set_cons_succ]
      refine wpAnyH_take (i := 1) (v := ?_) rfl (by kernel_rfl) (by kernel_rfl) (by kernel_rfl) (fun _ _ _ h => h) (Or.inl ⟨by rfl, ?_⟩) hHeld ?_
      rotate_left
      · (intro w hSw; skip; go_simp; try with_reducible rfl)
      try simp only [Act.put, List.getElem_toArray, List.getElem_cons_zero, List.getElem_cons_succ, List.setIfInBounds_toArray, List.set_cons_zero, List.set_cons_succ]
      refine wpAnyH_take (i := 2) (v := ?_) rfl (by kernel_rfl) (by kernel_rfl) (by kernel_rfl) (fun _ _ _ h => h) (Or.inl ⟨by rfl, ?_⟩) hHeld ?_
      rotate_left
      · (intro w hSw; skip; go_simp; try with_reducible rfl)
      try simp only [Act.put, List.getElem_toArray, List.getElem_cons_zero, List.getElem_cons_succ, List.setIfInBounds_toArray, List.set_cons_zero, List.set_cons_succ]
      refine wpAnyH_take (i := 3) (v := ?_) rfl (by kernel_rfl) (by kernel_rfl) (by kernel_rfl) (fun _ _ _ h => h) (Or.inl ⟨by rfl, ?_⟩) hHeld ?_
      rotate_left
      · (intro w hSw; skip; go_simp; try with_reducible rfl)
      try simp only [Act.put, List.getElem_toArray, List.getElem_cons_zero, List.getElem_cons_succ, List.setIfInBounds_toArray, List.set_cons_zero, List.set_cons_succ]
      refine wpAnyH_take (i := 4) (v := ?_) rfl (by kernel_rfl) (by kernel_rfl) (by kernel_rfl) (fun _ _ _ h => h) (Or.inl ⟨by rfl, ?_⟩) hHeld ?_
      rotate_left
      · (intro w hSw; skip; go_simp; try with_reducible rfl)
      try simp only [Act.put, List.getElem_toArray, List.getElem_cons_zero, List.getElem_cons_succ, List.setIfInBounds_toArray, List.set_cons_zero, List.set_cons_succ]
      refine wpAnyH_take (i := 5) (v := ?_) rfl (by kernel_rfl) (by kernel_rfl) (by kernel_rfl) (fun _ _ _ h => h) (Or.inl ⟨by rfl, ?_⟩) hHeld ?_
      rotate_left
      · (intro w hSw; skip; go_simp; try with_reducible rfl)
      try simp only [Act.put, List.getElem_toArray, List.getElem_cons_zero, List.getElem_cons_succ, List.setIfInBounds_toArray, List.set_cons_zero, List.set_cons_succ]
      refine wpAnyH_take (i := 7) (v := ?_) rfl (by kernel_rfl) (by kernel_rfl) (by kernel_rfl) (fun _ _ _ h => h) (Or.inl ⟨by rfl, ?_⟩) hHeld ?_
      rotate_left
      · (intro w hSw; skip; go_simp; try with_reducible rfl)
      try simp only [Act.put, List.getElem_toArray, List.getElem_cons_zero, List.getElem_cons_succ, List.setIfInBounds_toArray, List.set_cons_zero, List.set_cons_succ]
      refine wpAnyH_ready (rs := [6]) (by kernel_rfl) (by simp) ?_
      refine (AllReadyH.cons rfl (fun K hK => ?_) AllReadyH.nil)
      go_simp
      refine (clone_any p c l w3 hI3 hc hm (by omega)).mono ?_; rintro e w4 ⟨cq, cd, rfl, k1, k2, k3, k4, hb4⟩
      have hIL4 := hIL3.call hb4; have hHO4 := hHO3.call hb4; have hB4 := BelowOn hB3 hb4; have hG4 := hG3.call hb4; clear hIL3 hHO3 hB3 hG3 hI3
      refine hK.out _ _ (hIL4.x0) (fun hHeld => ?_)
      clear hK K
      try simp only [Act.put, List.getElem_toArray, List.getElem_cons_zero, List.getElem_cons_succ, List.setIfInBounds_toArray, List.set_cons_zero, List.set_cons_succ]
      refine wpAnyH_ready (rs := [8]) (by kernel_rfl) (by simp) ?_
      refine (AllReadyH.cons rfl (fun K hK => ?_) AllReadyH.nil)
      go_simp
      refine (newlist_any cq q cd dq l w4 k3 k1 k2 (by omega) hG4 g1 g2).mono ?_; rintro e w5 ⟨rfl, hb5⟩
      have hIL5 := hIL4.call hb5; have hHO5 := hHO4.call hb5; have hB5 := BelowOn hB4 hb5; have hG5 := hG4.call hb5; have hI5 := k3.call hb5; clear hIL4 hHO4 hB4 hG4 k3
      refine hK.out _ _ (hIL5.x0) (fun hHeld => ?_)
      clear hK K
      try simp only [Act.put, List.getElem_toArray, List.getElem_cons_zero, List.getElem_cons_succ, List.setIfInBounds_toArray, List.set_cons_zero, List.set_cons_succ]
      have hblk : 0 < l.length → ∀ a, cq = some a → w.heap.size ≤ a.block ∧ a.block < w5.heap.size := fun h0 a ha => ⟨by have := k4 h0 a ha; have := HBB.out.size; omega, by obtain ⟨a2, e2, h3, _⟩ := hI5 h0; rw [ha] at e2; injection e2 with e2; rw [e2]; exact h3⟩
      obtain ⟨w6, hrun, hIL6, hg6⟩ := hIL5.put hi HNW.out.1 HNW.out.2 (x := ⟨cq, cd, l⟩) hI5 k1 k2 HLL.out HRL.out hblk
      have hrun2 : (Instr.mapUpdate 48 (.map (some b1)) (.int .i64 i) (LV.v ⟨cq, cd, l⟩)).run Tryz.prog w5 = .ok () w6 := hrun
      have hHO6 := hHO5.kept (F := fun k => k = b1) (Kept.grown hg6 fun k e _ => by injection e with e; exact e.symm) (fun b hb c => hHO5.n1 (c ▸ hb))
      have hK6 : Kept R w w6 := (Kept.below hB5).on (F' := fun k => k = b1) (Kept.grown hg6 fun k e _ => by injection e with e; exact e.symm) (fun j hj => .inl (hj ▸ hIL5.rg b1 (.inr rfl)))
      have hnb : ∀ a, q = some a → a.block ≠ b1 := fun a ha c => by have := (HGQ.out a ha).1; have := HRL.out b1 (hIL5.rg b1 (.inr rfl)); omega
      have hG6 : Gs w6 q _ := hG5.other hg6 (fun _ a ha => hnb a ha)
      have hz6 : w2.heap.size ≤ w6.heap.size := by have := hb4.size; have := hb5.size; have := hg6.size; omega
      have hc6 := hIL6.x0; have hc7 := hIL6.x1
      clear hrun hIL5 hHO5 hB5 hG5 hI5 hg6 hnb
      refine wpAnyH_ready (rs := [9]) (by kernel_rfl) (by simp) ?_
      refine (AllReadyH.cons rfl (fun K hK => ?_) AllReadyH.nil)
      go_simp
      refine hK.out _ _ hc6 (fun hHeld => ?_)
      clear hK K
      try simp only [Act.put, List.getElem_toArray, List.getElem_cons_zero, List.getElem_cons_succ, List.setIfInBounds_toArray, List.set_cons_zero, List.set_cons_succ]
      refine wpAnyH_done (by kernel_rfl) ?_ _
      clear hrun2 hb4 hb5 k1 k2 k4 hc6 hHeld
      have hn := pgrams_len l
      have HPC := Lib.hid (gram_pC l); have HKY := Lib.hid (gram_key HLL.out); have HALL := Lib.hid (fun y j => cK_all S i l HNW.out.1 y j)
      have hC0 : HoldH w6 G b1 b2 (N + 2 * 0) (cK S i (gramsP (pw l)) (pC l) 0) HH := hHO6.ext (fun y j => cK_zero S i _ _ HNW.out.1 y j)
      have hqG : ∀ a, q = some a → ¬ G a.block := fun a ha c => by have h1 := HRL.out _ (HRG.out _ (.inl c)); have := (HGQ.out a ha).1; omega
      have HQG := Lib.hid hqG; have HXN := Lib.hid (show ¬ G X from fun c => hIL6.xn (.inl c)); have HNB := Lib.hid hHO6.n1
      have HIL6 := Lib.hid hIL6; have HK6 := Lib.hid hK6; have HG6 := Lib.hid hG6; have HZ6 := Lib.hid hz6; have HC7 := Lib.hid hc7
      have hqq := fun W r => run_eql_map_nil (P := Tryz.prog) W 63 3 3 r Tryz.underlying63
      have hmm := @run_makeMap Tryz.prog
      have g2b := g2; unfold maxLen at g2b
      have HIX := Lib.hid hi
      clear hIL6 hK6 hG6 hz6 hc7 hHO6 hqG HHO2 HIL2 HI2 HBB HG3 HGQ hblk hi
      generalize gramsP (pw l) = L at *
      go_wp2_with fail
      go_loopw [44] (fun v wr => ∃ (k : Nat) (G' : Nat → Prop) (H' : Pr → Option Nat), k ≤ L.length ∧ v = .int .i64 k ∧ Kept G w6 wr ∧ Aside (∀ j, G' j → G j ∨ w6.heap.size ≤ j) ∧ HoldH wr G' b1 b2 (N + 2 * k) (cK S i L (pC l) k) H') (fun v _ => L.length - (intOf v).toNat)
      case atStart => exact ⟨0, G, HH, Nat.zero_le _, rfl, Kept.refl _ _, fun j hj => .inl hj, hC0⟩
      case round =>
        clear hC0
        obtain ⟨k, G', H', hk, rfl, hKr, hG', hH⟩ := hrel
        by_cases hlt : k < L.length
        · obtain ⟨a, rfl, ha, c0, c1, c2⟩ := (HG6.out.keepB hKr.size (fun a ha hb => hKr.block _ hb (HQG.out a ha))).row k hlt
          have hX := hKr.cell HC7.out HXN.out
          have hnx := cK_next S i L (pC l) k hlt L[k].n (HPC.out _ (List.getElem_mem hlt))
          obtain ⟨kl, hkey⟩ := HKY.out _ (List.getElem_mem hlt)
          have ik : (k : Int) < (L.length : Int) := by omega
          generalize L[k] = x at *
          have HNX := Lib.hid hnx; have HKL := Lib.hid hkey; have HKR := Lib.hid hKr; have HHR := Lib.hid hH; have HXR := Lib.hid hX; have HGG := Lib.hid hG'
          have hgv := heap_alloc_new wr (.cells #[.string x.f, .string x.s, .int .i64 x.n] 72)
          have hbv : Below wr.heap.size wr (wr.alloc (.cells #[.string x.f, .string x.s, .int .i64 x.n] 72)) := blw (Below.refl _ _) _
          have HGV := Lib.hid (And.intro hgv hbv)
          clear hnx hkey hKr hH hX hG' hgv hbv
          go_wp2_with fail
          generalize (wr.alloc (.cells #[.string x.f, .string x.s, .int .i64 x.n] 72)) = w7 at *
          refine (pairof_any x _).mono ?_; rintro e w8 ⟨rfl, hb8⟩
          have hpv := heap_alloc_new w8 (.cells #[.string x.f, .string x.s] 74)
          have hb9 : Below w8.heap.size w8 (w8.alloc (.cells #[.string x.f, .string x.s] 74)) := blw (Below.refl _ _) _
          have HPV := Lib.hid (And.intro hpv (And.intro hb8 hb9))
          clear hpv hb8 hb9 c0 c1 c2 ha
          go_wp2_with fail
          generalize (w8.alloc (.cells #[.string x.f, .string x.s] 74)) = w9 at *
          obtain ⟨hpv, hb8, hb9⟩ := HPV.out
          obtain ⟨hgv, hb7⟩ := HGV.out
          have hbb : Below wr.heap.size wr w9 := BelowOn (BelowOn hb7 hb8) hb9
          have hgl : wr.heap.size < w7.heap.size := (Array.getElem?_eq_some_iff.1 hgv).1
          have hgv9 : w9.heap[wr.heap.size]? = _ := ((BelowOn hb8 hb9).block _ hgl).trans hgv
          have hH9 := (HHR.out.call hbb); have hX9 : w9.cell? ⟨X, 1, none⟩ = some (.map (some b2)) := (Kept.below (F := fun _ => False) hbb).cell HXR.out id; have hK9 : Kept G w6 w9 := HKR.out.trans (Kept.below hbb)
          have hgx : w9.cell? ⟨wr.heap.size, 2, none⟩ = some (.int .i64 x.n) := by rw [Lib.cell_of_heap hgv9]; rfl
          have hp0 : w9.cell? ⟨w8.heap.size, 0, none⟩ = some (.string x.f) := by rw [Lib.cell_of_heap hpv]; rfl
          have hp1 : w9.cell? ⟨w8.heap.size, 1, none⟩ = some (.string x.s) := by rw [Lib.cell_of_heap hpv]; rfl
          have hgp : w8.heap.size < w9.heap.size := (Array.getElem?_eq_some_iff.1 hpv).1
          have hgw : wr.heap.size < w9.heap.size := Nat.lt_of_lt_of_le hgl (BelowOn hb8 hb9).size
          have hg6 : w6.heap.size ≤ wr.heap.size := HKR.out.size
          have hgq6 : wr.heap.size ≤ w8.heap.size := by have := hb8.size; omega
          have hGv : ∀ j, G' j → j < wr.heap.size := HHR.out.lt
          clear hpv hb8 hb9 hgv hb7 hbb hgl hgv9 HGV HPV HHR HXR HKR
          generalize hgvE : wr.heap.size = gv at *; generalize hpvE : w8.heap.size = pv at *
          have hd := drew_below w9
          have hH0 := hH9.call hd; have hK0 : Kept G w6 w9.drew := hK9.trans (Kept.below hd)
          have hX0 : w9.drew.cell? ⟨X, 1, none⟩ = some (.map (some b2)) := hX9; have hg0 : w9.drew.cell? ⟨gv, 2, none⟩ = some (.int .i64 x.n) := hgx; have hq0 : w9.drew.cell? ⟨pv, 0, none⟩ = some (.string x.f) := hp0; have hq1 : w9.drew.cell? ⟨pv, 1, none⟩ = some (.string x.s) := hp1
          have hs0 : w9.heap.size ≤ w9.drew.heap.size := hd.size
          clear hH9 hK9 hX9 hgx hp0 hp1 hd
          have HLG := Lib.hid (fun W (G2 : Nat → Prop) (H2 : Pr → Option Nat) M C (hh : HoldH W G2 b1 b2 M C H2) => hh.top.look (T := 49) kIp Tryz.underlying49 (z := .map none) (zeroMp W) HKL.out)
          have hnX : ¬ G' X := fun c => (HGG.out X c).elim HXN.out (fun c => by have := block_lt_of_cell HC7.out; simp at this; omega)
          have hnp : ¬ G' pv := fun c => by have := hGv pv c; omega
          have hng : ¬ G' gv := fun c => by have := hGv gv c; omega
          have hGG0 := HGG.out
          clear HGG
          cases hy : H' x.key with
          | some b =>
            have HLK := Lib.hid (fun W M C (hh : HoldH W G' b1 b2 M C H') => by have h := HLG.out W G' H' M C hh; rw [hy] at h; exact (show (Instr.lookup 49 (.map (some b2)) (.agg #[.string x.f, .string x.s]) false).run Tryz.prog W = .ok (.map (some b)) W from h))
            clear HLG
            refine wp_region_held_drew (S := fun W => W.cell? ⟨X, 1, none⟩ = some (.map (some b2)) ∧ W.cell? ⟨pv, 0, none⟩ = some (.string x.f) ∧ W.cell? ⟨pv, 1, none⟩ = some (.string x.s) ∧ W.cell? ⟨gv, 2, none⟩ = some (.int .i64 x.n) ∧ ∃ M C, HoldH W G' b1 b2 M C H') (by kernel_rfl) (⟨hX0, hq0, hq1, hg0, _, _, hH0⟩) (fun hHeld => ?_)
            generalize w9.drew = W0 at *
            refine wpAnyH_take (i := 0) (v := ?_) rfl (by kernel_rfl) (by kernel_rfl) (by kernel_rfl) (fun _ _ _ h => h) (Or.inl ⟨by rfl, ?_⟩) hHeld ?_
            rotate_left
            · (intro w hSw; skip; go_simp; try with_reducible rfl)
            try simp only [Act.put, List.getElem_toArray, List.getElem_cons_zero, List.getElem_cons_succ, List.setIfInBounds_toArray, List.set_cons_zero, List.set_cons_succ]
            refine wpAnyH_take (i := 1) (v := ?_) rfl (by kernel_rfl) (by kernel_rfl) (by kernel_rfl) (fun _ _ _ h => h) (Or.inl ⟨by rfl, ?_⟩) hHeld ?_
            rotate_left
            · (intro w hSw; skip; go_simp; try with_reducible rfl)
            try simp only [Act.put, List.getElem_toArray, List.getElem_cons_zero, List.getElem_cons_succ, List.setIfInBounds_toArray, List.set_cons_zero, List.set_cons_succ]
            refine wpAnyH_take (i := 2) (v := ?_) rfl (by kernel_rfl) (by kernel_rfl) (by kernel_rfl) (fun _ _ _ h => h) (Or.inl ⟨by rfl, ?_⟩) hHeld ?_
            rotate_left
            · (intro w hSw; skip; go_simp; try with_reducible rfl)
            try simp only [Act.put, List.getElem_toArray, List.getElem_cons_zero, List.getElem_cons_succ, List.setIfInBounds_toArray, List.set_cons_zero, List.set_cons_succ]
            refine wpAnyH_take (i := 3) (v := ?_) rfl (by kernel_rfl) (by kernel_rfl) (by kernel_rfl) (fun _ _ _ h => h) (Or.inl ⟨by rfl, ?_⟩) hHeld ?_
            rotate_left
            · (intro w hSw; obtain ⟨c0, _⟩ := hSw; go_simp; try with_reducible rfl)
            try simp only [Act.put, List.getElem_toArray, List.getElem_cons_zero, List.getElem_cons_succ, List.setIfInBounds_toArray, List.set_cons_zero, List.set_cons_succ]
            refine wpAnyH_take (i := 4) (v := ?_) rfl (by kernel_rfl) (by kernel_rfl) (by kernel_rfl) (fun _ _ _ h => h) (Or.inl ⟨by rfl, ?_⟩) hHeld ?_
            rotate_left
            · (intro w hSw; obtain ⟨_, c0, c1, _⟩ := hSw; go_simp; try with_reducible rfl)
            try simp only [Act.put, List.getElem_toArray, List.getElem_cons_zero, List.getElem_cons_succ, List.setIfInBounds_toArray, List.set_cons_zero, List.set_cons_succ]
            refine wpAnyH_take (i := 5) (v := ?_) rfl (by kernel_rfl) (by kernel_rfl) (by kernel_rfl) (fun _ _ _ h => h) (Or.inl ⟨by rfl, ?_⟩) hHeld ?_
            rotate_left
            · (intro w hSw; obtain ⟨_, _, _, _, M, C, hh⟩ := hSw; have hl := HLK.out _ M C hh; go_simp; try with_reducible rfl)
            try simp only [Act.put, List.getElem_toArray, List.getElem_cons_zero, List.getElem_cons_succ, List.setIfInBounds_toArray, List.set_cons_zero, List.set_cons_succ]
            refine wpAnyH_take (i := 6) (v := ?_) rfl (by kernel_rfl) (by kernel_rfl) (by kernel_rfl) (fun _ _ _ h => h) (Or.inl ⟨by rfl, ?_⟩) hHeld ?_
            rotate_left
            · (intro w hSw; skip; go_simp; try with_reducible rfl)
            try simp only [Act.put, List.getElem_toArray, List.getElem_cons_zero, List.getElem_cons_succ, List.setIfInBounds_toArray, List.set_cons_zero, List.set_cons_succ]
            refine wpAnyH_done (by kernel_rfl) ?_ _
            clear hHeld
            have HH0 := Lib.hid hH0; have HKK0 := Lib.hid hK0
            clear hH0 hK0
            go_wp2_with fail
            have hH0 := HH0.out; have hK0 := HKK0.out
            refine wp_region_held_drew (S := fun W => W.cell? ⟨X, 1, none⟩ = some (.map (some b2)) ∧ W.cell? ⟨pv, 0, none⟩ = some (.string x.f) ∧ W.cell? ⟨pv, 1, none⟩ = some (.string x.s) ∧ W.cell? ⟨gv, 2, none⟩ = some (.int .i64 x.n) ∧ ∃ M C, HoldH W G' b1 b2 M C H') (by kernel_rfl) (⟨hX0, hq0, hq1, hg0, _, _, hH0.call (drew_below _)⟩) (fun hHeld => ?_)
            have hHz := hH0.call (drew_below _); have hKz := hK0.trans (Kept.below (drew_below _))
            have hsz := (drew_below W0).size
            generalize W0.drew = W1 at *
            clear hX0 hq0 hq1 hg0 hK0
            refine wpAnyH_take (i := 0) (v := ?_) rfl (by kernel_rfl) (by kernel_rfl) (by kernel_rfl) (fun _ _ _ h => h) (Or.inl ⟨by rfl, ?_⟩) hHeld ?_
            rotate_left
            · (intro w hSw; skip; go_simp; try with_reducible rfl)
            try simp only [Act.put, List.getElem_toArray, List.getElem_cons_zero, List.getElem_cons_succ, List.setIfInBounds_toArray, List.set_cons_zero, List.set_cons_succ]
            refine wpAnyH_take (i := 1) (v := ?_) rfl (by kernel_rfl) (by kernel_rfl) (by kernel_rfl) (fun _ _ _ h => h) (Or.inl ⟨by rfl, ?_⟩) hHeld ?_
            rotate_left
            · (intro w hSw; skip; go_simp; try with_reducible rfl)
            try simp only [Act.put, List.getElem_toArray, List.getElem_cons_zero, List.getElem_cons_succ, List.setIfInBounds_toArray, List.set_cons_zero, List.set_cons_succ]
            refine wpAnyH_take (i := 2) (v := ?_) rfl (by kernel_rfl) (by kernel_rfl) (by kernel_rfl) (fun _ _ _ h => h) (Or.inl ⟨by rfl, ?_⟩) hHeld ?_
            rotate_left
            · (intro w hSw; skip; go_simp; try with_reducible rfl)
            try simp only [Act.put, List.getElem_toArray, List.getElem_cons_zero, List.getElem_cons_succ, List.setIfInBounds_toArray, List.set_cons_zero, List.set_cons_succ]
            refine wpAnyH_take (i := 3) (v := ?_) rfl (by kernel_rfl) (by kernel_rfl) (by kernel_rfl) (fun _ _ _ h => h) (Or.inl ⟨by rfl, ?_⟩) hHeld ?_
            rotate_left
            · (intro w hSw; obtain ⟨c0, _⟩ := hSw; go_simp; try with_reducible rfl)
            try simp only [Act.put, List.getElem_toArray, List.getElem_cons_zero, List.getElem_cons_succ, List.setIfInBounds_toArray, List.set_cons_zero, List.set_cons_succ]
            refine wpAnyH_take (i := 4) (v := ?_) rfl (by kernel_rfl) (by kernel_rfl) (by kernel_rfl) (fun _ _ _ h => h) (Or.inl ⟨by rfl, ?_⟩) hHeld ?_
            rotate_left
            · (intro w hSw; obtain ⟨_, c0, c1, _⟩ := hSw; go_simp; try with_reducible rfl)
            try simp only [Act.put, List.getElem_toArray, List.getElem_cons_zero, List.getElem_cons_succ, List.setIfInBounds_toArray, List.set_cons_zero, List.set_cons_succ]
            refine wpAnyH_take (i := 5) (v := ?_) rfl (by kernel_rfl) (by kernel_rfl) (by kernel_rfl) (fun _ _ _ h => h) (Or.inl ⟨by rfl, ?_⟩) hHeld ?_
            rotate_left
            · (intro w hSw; obtain ⟨_, _, _, _, M, C, hh⟩ := hSw; have hl := HLK.out _ M C hh; go_simp; try with_reducible rfl)
            try simp only [Act.put, List.getElem_toArray, List.getElem_cons_zero, List.getElem_cons_succ, List.setIfInBounds_toArray, List.set_cons_zero, List.set_cons_succ]
            refine wpAnyH_take (i := 6) (v := ?_) rfl (by kernel_rfl) (by kernel_rfl) (by kernel_rfl) (fun _ _ _ h => h) (Or.inl ⟨by rfl, ?_⟩) hHeld ?_
            rotate_left
            · (intro w hSw; skip; go_simp; try with_reducible rfl)
            try simp only [Act.put, List.getElem_toArray, List.getElem_cons_zero, List.getElem_cons_succ, List.setIfInBounds_toArray, List.set_cons_zero, List.set_cons_succ]
            refine wpAnyH_take (i := 7) (v := ?_) rfl (by kernel_rfl) (by kernel_rfl) (by kernel_rfl) (fun _ _ _ h => h) (Or.inl ⟨by rfl, ?_⟩) hHeld ?_
            rotate_left
            · (intro w hSw; skip; go_simp; try with_reducible rfl)
            try simp only [Act.put, List.getElem_toArray, List.getElem_cons_zero, List.getElem_cons_succ, List.setIfInBounds_toArray, List.set_cons_zero, List.set_cons_succ]
            refine wpAnyH_take (i := 8) (v := ?_) rfl (by kernel_rfl) (by kernel_rfl) (by kernel_rfl) (fun _ _ _ h => h) (Or.inl ⟨by rfl, ?_⟩) hHeld ?_
            rotate_left
            · (intro w hSw; obtain ⟨_, _, _, c0, _⟩ := hSw; go_simp; try with_reducible rfl)
            try simp only [Act.put, List.getElem_toArray, List.getElem_cons_zero, List.getElem_cons_succ, List.setIfInBounds_toArray, List.set_cons_zero, List.set_cons_succ]
            obtain ⟨W2, hrun, hH2, hg2⟩ := hHz.put (by unfold maxLen; omega) hy HIX.out x.n
            have hne := (hHz.inn _ _ hy).1
            have hk2 : Kept G' W1 W2 := Kept.grown hg2 (fun k e _ => by injection e with e; subst e; exact hne)
            obtain ⟨cX, cp0, cp1, cg, _⟩ := hHeld
            skip
            have hHeld2 : W2.cell? ⟨X, 1, none⟩ = some (.map (some b2)) ∧ W2.cell? ⟨pv, 0, none⟩ = some (.string x.f) ∧ W2.cell? ⟨pv, 1, none⟩ = some (.string x.s) ∧ W2.cell? ⟨gv, 2, none⟩ = some (.int .i64 x.n) ∧ ∃ M C, HoldH W2 G' b1 b2 M C H' := ⟨hk2.cell cX hnX, hk2.cell cp0 hnp, hk2.cell cp1 hnp, hk2.cell cg hng, _, _, hH2⟩
            have hKf := hKz.on hk2 hGG0
            have hHf := hH2.ext HNX.out
            have HF := Lib.hid (And.intro hKf (And.intro hHf hGG0))
            clear hKf hHf hH2 hk2 hg2 hHz hKz cX cp0 cp1 cg hne
            refine wpAnyH_ready (rs := [9]) (by kernel_rfl) (by simp) ?_
            refine (AllReadyH.cons rfl (fun K hK => ?_) AllReadyH.nil)
            go_simp
            refine hK.out _ _ hHeld2 (fun hHeld => ?_)
            clear hK K hHeld2
            try simp only [Act.put, List.getElem_toArray, List.getElem_cons_zero, List.getElem_cons_succ, List.setIfInBounds_toArray, List.set_cons_zero, List.set_cons_succ]
            refine wpAnyH_done (by kernel_rfl) ?_ _
            clear hrun hHeld
            go_wp2_with fail
            go_roundw
            case rel =>
              obtain ⟨hKf, hHf, hGf⟩ := HF.out
              exact ⟨k + 1, _, _, hlt, by go_num, hKf, hGf, hHf.mono (by omega)⟩
            case measure => simp [intOf] <;> omega
          | none =>
            have HLK := Lib.hid (fun W M C (hh : HoldH W G' b1 b2 M C H') => by have h := HLG.out W G' H' M C hh; rw [hy] at h; exact (show (Instr.lookup 49 (.map (some b2)) (.agg #[.string x.f, .string x.s]) false).run Tryz.prog W = .ok (.map none) W from h))
            refine wp_region_held_drew (S := fun W => W.cell? ⟨X, 1, none⟩ = some (.map (some b2)) ∧ W.cell? ⟨pv, 0, none⟩ = some (.string x.f) ∧ W.cell? ⟨pv, 1, none⟩ = some (.string x.s) ∧ W.cell? ⟨gv, 2, none⟩ = some (.int .i64 x.n) ∧ ∃ M C, HoldH W G' b1 b2 M C H') (by kernel_rfl) (⟨hX0, hq0, hq1, hg0, _, _, hH0⟩) (fun hHeld => ?_)
            generalize w9.drew = W0 at *
            refine wpAnyH_take (i := 0) (v := ?_) rfl (by kernel_rfl) (by kernel_rfl) (by kernel_rfl) (fun _ _ _ h => h) (Or.inl ⟨by rfl, ?_⟩) hHeld ?_
            rotate_left
            · (intro w hSw; skip; go_simp; try with_reducible rfl)
            try simp only [Act.put, List.getElem_toArray, List.getElem_cons_zero, List.getElem_cons_succ, List.setIfInBounds_toArray, List.set_cons_zero, List.set_cons_succ]
            refine wpAnyH_take (i := 1) (v := ?_) rfl (by kernel_rfl) (by kernel_rfl) (by kernel_rfl) (fun _ _ _ h => h) (Or.inl ⟨by rfl, ?_⟩) hHeld ?_
            rotate_left
            · (intro w hSw; skip; go_simp; try with_reducible rfl)
            try simp only [Act.put, List.getElem_toArray, List.getElem_cons_zero, List.getElem_cons_succ, List.setIfInBounds_toArray, List.set_cons_zero, List.set_cons_succ]
            refine wpAnyH_take (i := 2) (v := ?_) rfl (by kernel_rfl) (by kernel_rfl) (by kernel_rfl) (fun _ _ _ h => h) (Or.inl ⟨by rfl, ?_⟩) hHeld ?_
            rotate_left
            · (intro w hSw; skip; go_simp; try with_reducible rfl)
            try simp only [Act.put, List.getElem_toArray, List.getElem_cons_zero, List.getElem_cons_succ, List.setIfInBounds_toArray, List.set_cons_zero, List.set_cons_succ]
            refine wpAnyH_take (i := 3) (v := ?_) rfl (by kernel_rfl) (by kernel_rfl) (by kernel_rfl) (fun _ _ _ h => h) (Or.inl ⟨by rfl, ?_⟩) hHeld ?_
            rotate_left
            · (intro w hSw; obtain ⟨c0, _⟩ := hSw; go_simp; try with_reducible rfl)
            try simp only [Act.put, List.getElem_toArray, List.getElem_cons_zero, List.getElem_cons_succ, List.setIfInBounds_toArray, List.set_cons_zero, List.set_cons_succ]
            refine wpAnyH_take (i := 4) (v := ?_) rfl (by kernel_rfl) (by kernel_rfl) (by kernel_rfl) (fun _ _ _ h => h) (Or.inl ⟨by rfl, ?_⟩) hHeld ?_
            rotate_left
            · (intro w hSw; obtain ⟨_, c0, c1, _⟩ := hSw; go_simp; try with_reducible rfl)
            try simp only [Act.put, List.getElem_toArray, List.getElem_cons_zero, List.getElem_cons_succ, List.setIfInBounds_toArray, List.set_cons_zero, List.set_cons_succ]
            refine wpAnyH_take (i := 5) (v := ?_) rfl (by kernel_rfl) (by kernel_rfl) (by kernel_rfl) (fun _ _ _ h => h) (Or.inl ⟨by rfl, ?_⟩) hHeld ?_
            rotate_left
            · (intro w hSw; obtain ⟨_, _, _, _, M, C, hh⟩ := hSw; have hl := HLK.out _ M C hh; go_simp; try with_reducible rfl)
            try simp only [Act.put, List.getElem_toArray, List.getElem_cons_zero, List.getElem_cons_succ, List.setIfInBounds_toArray, List.set_cons_zero, List.set_cons_succ]
            refine wpAnyH_take (i := 6) (v := ?_) rfl (by kernel_rfl) (by kernel_rfl) (by kernel_rfl) (fun _ _ _ h => h) (Or.inl ⟨by rfl, ?_⟩) hHeld ?_
            rotate_left
            · (intro w hSw; skip; go_simp; try with_reducible rfl)
            try simp only [Act.put, List.getElem_toArray, List.getElem_cons_zero, List.getElem_cons_succ, List.setIfInBounds_toArray, List.set_cons_zero, List.set_cons_succ]
            refine wpAnyH_done (by kernel_rfl) ?_ _
            clear hHeld HLK
            have HH0 := Lib.hid hH0; have HKK0 := Lib.hid hK0
            clear hH0 hK0
            go_wp2_with fail
            refine wp_region_held_drew (S := fun W => W.cell? ⟨X, 1, none⟩ = some (.map (some b2)) ∧ W.cell? ⟨pv, 0, none⟩ = some (.string x.f) ∧ W.cell? ⟨pv, 1, none⟩ = some (.string x.s) ∧ W.cell? ⟨gv, 2, none⟩ = some (.int .i64 x.n)) (by kernel_rfl) (⟨hX0, hq0, hq1, hg0⟩) (fun hHeld => ?_)
            have hHz := HH0.out.call (drew_below W0); have hKz := HKK0.out.trans (Kept.below (drew_below W0)); have hsz := (drew_below W0).size
            generalize W0.drew = W1 at *
            clear hX0 hq0 hq1 hg0 HH0 HKK0
            refine wpAnyH_take (i := 0) (v := ?_) rfl (by kernel_rfl) (by kernel_rfl) (by kernel_rfl) (fun _ _ _ h => h) (Or.inl ⟨by rfl, ?_⟩) hHeld ?_
            rotate_left
            · (intro w hSw; skip; go_simp; try with_reducible rfl)
            try simp only [Act.put, List.getElem_toArray, List.getElem_cons_zero, List.getElem_cons_succ, List.setIfInBounds_toArray, List.set_cons_zero, List.set_cons_succ]
            refine wpAnyH_take (i := 1) (v := ?_) rfl (by kernel_rfl) (by kernel_rfl) (by kernel_rfl) (fun _ _ _ h => h) (Or.inl ⟨by rfl, ?_⟩) hHeld ?_
            rotate_left
            · (intro w hSw; skip; go_simp; try with_reducible rfl)
            try simp only [Act.put, List.getElem_toArray, List.getElem_cons_zero, List.getElem_cons_succ, List.setIfInBounds_toArray, List.set_cons_zero, List.set_cons_succ]
            refine wpAnyH_take (i := 2) (v := ?_) rfl (by kernel_rfl) (by kernel_rfl) (by kernel_rfl) (fun _ _ _ h => h) (Or.inl ⟨by rfl, ?_⟩) hHeld ?_
            rotate_left
            · (intro w hSw; skip; go_simp; try with_reducible rfl)
            try simp only [Act.put, List.getElem_toArray, List.getElem_cons_zero, List.getElem_cons_succ, List.setIfInBounds_toArray, List.set_cons_zero, List.set_cons_succ]
            refine wpAnyH_take (i := 3) (v := ?_) rfl (by kernel_rfl) (by kernel_rfl) (by kernel_rfl) (fun _ _ _ h => h) (Or.inl ⟨by rfl, ?_⟩) hHeld ?_
            rotate_left
            · (intro w hSw; obtain ⟨c0, _⟩ := hSw; go_simp; try with_reducible rfl)
            try simp only [Act.put, List.getElem_toArray, List.getElem_cons_zero, List.getElem_cons_succ, List.setIfInBounds_toArray, List.set_cons_zero, List.set_cons_succ]
            refine wpAnyH_take (i := 4) (v := ?_) rfl (by kernel_rfl) (by kernel_rfl) (by kernel_rfl) (fun _ _ _ h => h) (Or.inl ⟨by rfl, ?_⟩) hHeld ?_
            rotate_left
            · (intro w hSw; obtain ⟨_, c0, c1, _⟩ := hSw; go_simp; try with_reducible rfl)
            try simp only [Act.put, List.getElem_toArray, List.getElem_cons_zero, List.getElem_cons_succ, List.setIfInBounds_toArray, List.set_cons_zero, List.set_cons_succ]
            obtain ⟨W3, hrun, hH3, hg3⟩ := hHz.new (by unfold maxLen; omega) hy (by have := HRL.out b1 (HRG.out b1 (.inr rfl)); have := HS2.out; have := HZ6.out; omega) HKL.out
            have hba := (Below.refl W1.heap.size W1).alloc (Nat.le_refl _) (.map #[] 0)
            have hka : Kept G' W1 (W1.alloc (.map #[] 0)) := Kept.below hba
            have hkb : Kept G' (W1.alloc (.map #[] 0)) W3 := Kept.grown hg3 (fun k e _ => by injection e with e; subst e; exact hHz.g2)
            have hk3 := hka.trans hkb
            have hrun3 : (Instr.mapUpdate 49 (.map (some b2)) (.agg #[.string x.f, .string x.s]) (.map (some W1.heap.size))).run Tryz.prog (W1.alloc (.map #[] 0)) = .ok () W3 := hrun
            obtain ⟨cX, cp0, cp1, cg⟩ := hHeld
            have hHa : (W1.alloc (.map #[] 0)).cell? ⟨X, 1, none⟩ = some (.map (some b2)) ∧ (W1.alloc (.map #[] 0)).cell? ⟨pv, 0, none⟩ = some (.string x.f) ∧ (W1.alloc (.map #[] 0)).cell? ⟨pv, 1, none⟩ = some (.string x.s) ∧ (W1.alloc (.map #[] 0)).cell? ⟨gv, 2, none⟩ = some (.int .i64 x.n) := ⟨hka.cell cX hnX, hka.cell cp0 hnp, hka.cell cp1 hnp, hka.cell cg hng⟩
            have hHb : W3.cell? ⟨X, 1, none⟩ = some (.map (some b2)) ∧ W3.cell? ⟨pv, 0, none⟩ = some (.string x.f) ∧ W3.cell? ⟨pv, 1, none⟩ = some (.string x.s) ∧ W3.cell? ⟨gv, 2, none⟩ = some (.int .i64 x.n) := ⟨hk3.cell cX hnX, hk3.cell cp0 hnp, hk3.cell cp1 hnp, hk3.cell cg hng⟩
            have hK3 := hKz.on hk3 hGG0
            have hz1 : w6.heap.size ≤ W1.heap.size := hKz.size
            have hGG3 : ∀ j, (G' j ∨ j = W1.heap.size) → G j ∨ w6.heap.size ≤ j := fun j hj => hj.elim (hGG0 j) (fun c => .inr (by omega))
            have hy3 : (fun z => if z = x.key then some W1.heap.size else H' z) x.key = some W1.heap.size := by simp
            have hnX3 : ¬ (G' X ∨ X = W1.heap.size) := fun c => c.elim hnX (fun c => by have := block_lt_of_cell HC7.out; simp at this; omega)
            have hnp3 : ¬ (G' pv ∨ pv = W1.heap.size) := fun c => c.elim hnp (fun c => by omega)
            have hng3 : ¬ (G' gv ∨ gv = W1.heap.size) := fun c => c.elim hng (fun c => by omega)
            have HW3 := Lib.hid (And.intro hH3 (And.intro hK3 (And.intro hHb hGG3)))
            have HY3 := Lib.hid hy3; have HN3 := Lib.hid (And.intro hnX3 (And.intro hnp3 hng3))
            clear hrun hH3 hg3 hba hka hkb hk3 cX cp0 cp1 cg hK3 hHz hKz hGG3 hGG0 hy3 hnX hnp hng hnX3 hnp3 hng3
            refine wpAnyH_ready (rs := [5]) (by kernel_rfl) (by simp) ?_
            refine (AllReadyH.cons rfl (fun K hK => ?_) AllReadyH.nil)
            go_simp
            refine hK.out _ _ hHa (fun hHeld => ?_)
            clear hK K hHa
            try simp only [Act.put, List.getElem_toArray, List.getElem_cons_zero, List.getElem_cons_succ, List.setIfInBounds_toArray, List.set_cons_zero, List.set_cons_succ]
            have hHb := HW3.out.2.2.1
            refine wpAnyH_ready (rs := [6]) (by kernel_rfl) (by simp) ?_
            refine (AllReadyH.cons rfl (fun K hK => ?_) AllReadyH.nil)
            go_simp
            refine hK.out _ _ hHb (fun hHeld => ?_)
            clear hK K hHb
            try simp only [Act.put, List.getElem_toArray, List.getElem_cons_zero, List.getElem_cons_succ, List.setIfInBounds_toArray, List.set_cons_zero, List.set_cons_succ]
            refine wpAnyH_done (by kernel_rfl) ?_ _
            clear hrun3 hHeld
            go_wp2_with fail
            obtain ⟨hH3, hK0, ⟨hX0, hq0, hq1, hg0⟩, hGG0⟩ := HW3.out; have hy3 := HY3.out; obtain ⟨hnX, hnp, hng⟩ := HN3.out
            generalize hbn : W1.heap.size = bn at *
            generalize hHN : (fun z => if z = x.key then some bn else H' z) = H3 at *
            generalize hGN : (fun j => G' j ∨ j = bn) = G3 at *
            have hnX : ¬ G3 X := by rw [← hGN]; exact hnX
            have hnp : ¬ G3 pv := by rw [← hGN]; exact hnp
            have hng : ¬ G3 gv := by rw [← hGN]; exact hng
            have hGG0 : ∀ j, G3 j → G j ∨ w6.heap.size ≤ j := by rw [← hGN]; exact hGG0
            have hy3 : H3 x.key = some bn := by rw [← hHN]; simp
            have HLK := Lib.hid (fun W M C (hh : HoldH W G3 b1 b2 M C H3) => by have h := HLG.out W G3 H3 M C hh; rw [hy3] at h; exact (show (Instr.lookup 49 (.map (some b2)) (.agg #[.string x.f, .string x.s]) false).run Tryz.prog W = .ok (.map (some bn)) W from h))
            clear HLG HW3 HY3 HN3 hGN hHN hbn
            skip
            refine wp_region_held_drew (S := fun W => W.cell? ⟨X, 1, none⟩ = some (.map (some b2)) ∧ W.cell? ⟨pv, 0, none⟩ = some (.string x.f) ∧ W.cell? ⟨pv, 1, none⟩ = some (.string x.s) ∧ W.cell? ⟨gv, 2, none⟩ = some (.int .i64 x.n) ∧ ∃ M C, HoldH W G3 b1 b2 M C H3) (by kernel_rfl) (⟨hX0, hq0, hq1, hg0, _, _, hH3.call (drew_below _)⟩) (fun hHeld => ?_)
            have hHz := hH3.call (drew_below _); have hKz := hK0.trans (Kept.below (drew_below _))
            have hsz := (drew_below W3).size
            generalize W3.drew = W1 at *
            clear hX0 hq0 hq1 hg0 hK0
            refine wpAnyH_take (i := 0) (v := ?_) rfl (by kernel_rfl) (by kernel_rfl) (by kernel_rfl) (fun _ _ _ h => h) (Or.inl ⟨by rfl, ?_⟩) hHeld ?_
            rotate_left
            · (intro w hSw; skip; go_simp; try with_reducible rfl)
            try simp only [Act.put, List.getElem_toArray, List.getElem_cons_zero, List.getElem_cons_succ, List.setIfInBounds_toArray, List.set_cons_zero, List.set_cons_succ]
            refine wpAnyH_take (i := 1) (v := ?_) rfl (by kernel_rfl) (by kernel_rfl) (by kernel_rfl) (fun _ _ _ h => h) (Or.inl ⟨by rfl, ?_⟩) hHeld ?_
            rotate_left
            · (intro w hSw; skip; go_simp; try with_reducible rfl)
            try simp only [Act.put, List.getElem_toArray, List.getElem_cons_zero, List.getElem_cons_succ, List.setIfInBounds_toArray, List.set_cons_zero, List.set_cons_succ]
            refine wpAnyH_take (i := 2) (v := ?_) rfl (by kernel_rfl) (by kernel_rfl) (by kernel_rfl) (fun _ _ _ h => h) (Or.inl ⟨by rfl, ?_⟩) hHeld ?_
            rotate_left
            · (intro w hSw; skip; go_simp; try with_reducible rfl)
            try simp only [Act.put, List.getElem_toArray, List.getElem_cons_zero, List.getElem_cons_succ, List.setIfInBounds_toArray, List.set_cons_zero, List.set_cons_succ]
            refine wpAnyH_take (i := 3) (v := ?_) rfl (by kernel_rfl) (by kernel_rfl) (by kernel_rfl) (fun _ _ _ h => h) (Or.inl ⟨by rfl, ?_⟩) hHeld ?_
            rotate_left
            · (intro w hSw; obtain ⟨c0, _⟩ := hSw; go_simp; try with_reducible rfl)
            try simp only [Act.put, List.getElem_toArray, List.getElem_cons_zero, List.getElem_cons_succ, List.setIfInBounds_toArray, List.set_cons_zero, List.set_cons_succ]
            refine wpAnyH_take (i := 4) (v := ?_) rfl (by kernel_rfl) (by kernel_rfl) (by kernel_rfl) (fun _ _ _ h => h) (Or.inl ⟨by rfl, ?_⟩) hHeld ?_
            rotate_left
            · (intro w hSw; obtain ⟨_, c0, c1, _⟩ := hSw; go_simp; try with_reducible rfl)
            try simp only [Act.put, List.getElem_toArray, List.getElem_cons_zero, List.getElem_cons_succ, List.setIfInBounds_toArray, List.set_cons_zero, List.set_cons_succ]
            refine wpAnyH_take (i := 5) (v := ?_) rfl (by kernel_rfl) (by kernel_rfl) (by kernel_rfl) (fun _ _ _ h => h) (Or.inl ⟨by rfl, ?_⟩) hHeld ?_
            rotate_left
            · (intro w hSw; obtain ⟨_, _, _, _, M, C, hh⟩ := hSw; have hl := HLK.out _ M C hh; go_simp; try with_reducible rfl)
            try simp only [Act.put, List.getElem_toArray, List.getElem_cons_zero, List.getElem_cons_succ, List.setIfInBounds_toArray, List.set_cons_zero, List.set_cons_succ]
            refine wpAnyH_take (i := 6) (v := ?_) rfl (by kernel_rfl) (by kernel_rfl) (by kernel_rfl) (fun _ _ _ h => h) (Or.inl ⟨by rfl, ?_⟩) hHeld ?_
            rotate_left
            · (intro w hSw; skip; go_simp; try with_reducible rfl)
            try simp only [Act.put, List.getElem_toArray, List.getElem_cons_zero, List.getElem_cons_succ, List.setIfInBounds_toArray, List.set_cons_zero, List.set_cons_succ]
            refine wpAnyH_take (i := 7) (v := ?_) rfl (by kernel_rfl) (by kernel_rfl) (by kernel_rfl) (fun _ _ _ h => h) (Or.inl ⟨by rfl, ?_⟩) hHeld ?_
            rotate_left
            · (intro w hSw; skip; go_simp; try with_reducible rfl)
            try simp only [Act.put, List.getElem_toArray, List.getElem_cons_zero, List.getElem_cons_succ, List.setIfInBounds_toArray, List.set_cons_zero, List.set_cons_succ]
            refine wpAnyH_take (i := 8) (v := ?_) rfl (by kernel_rfl) (by kernel_rfl) (by kernel_rfl) (fun _ _ _ h => h) (Or.inl ⟨by rfl, ?_⟩) hHeld ?_
            rotate_left
            · (intro w hSw; obtain ⟨_, _, _, c0, _⟩ := hSw; go_simp; try with_reducible rfl)
            try simp only [Act.put, List.getElem_toArray, List.getElem_cons_zero, List.getElem_cons_succ, List.setIfInBounds_toArray, List.set_cons_zero, List.set_cons_succ]
            obtain ⟨W2, hrun, hH2, hg2⟩ := hHz.put (by unfold maxLen; omega) hy3 HIX.out x.n
            have hne := (hHz.inn _ _ hy3).1
            have hk2 : Kept G3 W1 W2 := Kept.grown hg2 (fun k e _ => by injection e with e; subst e; exact hne)
            obtain ⟨cX, cp0, cp1, cg, _⟩ := hHeld
            skip
            have hHeld2 : W2.cell? ⟨X, 1, none⟩ = some (.map (some b2)) ∧ W2.cell? ⟨pv, 0, none⟩ = some (.string x.f) ∧ W2.cell? ⟨pv, 1, none⟩ = some (.string x.s) ∧ W2.cell? ⟨gv, 2, none⟩ = some (.int .i64 x.n) ∧ ∃ M C, HoldH W2 G3 b1 b2 M C H3 := ⟨hk2.cell cX hnX, hk2.cell cp0 hnp, hk2.cell cp1 hnp, hk2.cell cg hng, _, _, hH2⟩
            have hKf := hKz.on hk2 hGG0
            have hHf := hH2.ext HNX.out
            have HF := Lib.hid (And.intro hKf (And.intro hHf hGG0))
            clear hKf hHf hH2 hk2 hg2 hHz hKz cX cp0 cp1 cg hne
            refine wpAnyH_ready (rs := [9]) (by kernel_rfl) (by simp) ?_
            refine (AllReadyH.cons rfl (fun K hK => ?_) AllReadyH.nil)
            go_simp
            refine hK.out _ _ hHeld2 (fun hHeld => ?_)
            clear hK K hHeld2
            try simp only [Act.put, List.getElem_toArray, List.getElem_cons_zero, List.getElem_cons_succ, List.setIfInBounds_toArray, List.set_cons_zero, List.set_cons_succ]
            refine wpAnyH_done (by kernel_rfl) ?_ _
            clear hrun hHeld
            go_wp2_with fail
            go_roundw
            case rel =>
              obtain ⟨hKf, hHf, hGf⟩ := HF.out
              exact ⟨k + 1, _, _, hlt, by go_num, hKf, hGf, hHf.mono (by omega)⟩
            case measure => simp [intOf] <;> omega
        · obtain rfl : k = L.length := by omega
          have HHF := Lib.hid hH; have HKF := Lib.hid hKr; have HGF := Lib.hid hG'
          clear hH hKr hG'
          go_wp2_with fail
          go_ret
          have hH := HHF.out; have hKr := HKF.out; have hG' := HGF.out
          have hIL := HIL6.out.turn hKr HNB.out hH.n1 (fun j hj => (hG' j hj).elim .inl (fun c => .inr ⟨c, hH.lt j hj⟩))
          refine ⟨rfl, _, ⟨b1, b2, G', _, H', hIL, (hH.ext HALL.out).mono (by omega)⟩, fun j hj => ?_, HK6.out.on hKr (fun j hj => .inl (HRG.out j (.inl hj)))⟩
          have hw6 := HK6.out.size
          rcases hj with (hj | hj) | hj
          · exact .inl hj
          · exact .inr hj.1
          · exact .inr (by omega)
    · have hB : addB S i = false := by unfold addB; rw [decide_eq_false hroom]; simp
      have hE : addS S i l = S := by unfold addS; rw [hB]; rfl
      have HB := Lib.hid hB; have HE := Lib.hid hE
      have HX := Lib.hid (show Ix _ X R N S from ⟨b1, b2, G, LS, HH, h1a, h2a⟩); have HK0 := Lib.hid hK0
      have hsl : (1024 : Int) ≤ (S.length : Int) := by omega
      clear hB hE h1 h1a h2 h2a hb hI hK0 hlen hl
      go_enter Tryz.func15, Tryz.ntmps15
      go_wp2_with fail
      go_ret
      rw [HB.out, HE.out]
      exact ⟨rfl, R, HX.out.mono (by omega), fun k hk => .inl hk, HK0.out⟩
end Go.Proofs.YthfgpagmepdblaaGreat
