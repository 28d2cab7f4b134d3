/- The walk of ItemValidates. -/
import Derived.Test.YtnfapcfajoboaaaRaw
import Derived.Test.YtnfapcfajoboaaaMad
import Derived.Test.YtnfapcfajoboaaaKno
import Derived.Test.YtnfapcfajoboaaaSlm
import Derived.Test.YtnfapcfajoboaaaCcW
namespace Go.Proofs.Ytnfapcfajoboaaa
open Go.ChangeShapes Go.WideShapes Go.ChangeAt Go.RowKit
set_option linter.unusedVariables false
set_option linter.unusedSimpArgs false
set_option maxRecDepth 100000

theorem keepX {W W' : World} {B : Nat} {k id : Int} {t : ByteArray} (h : W.cell? ⟨B, 0, none⟩ = some (.int .i64 k) ∧ W.cell? ⟨B, 1, none⟩ = some (.string t) ∧ W.cell? ⟨B, 2, none⟩ = some (.int .i64 id)) (hb : Below W.heap.size W W') : W'.cell? ⟨B, 0, none⟩ = some (.int .i64 k) ∧ W'.cell? ⟨B, 1, none⟩ = some (.string t) ∧ W'.cell? ⟨B, 2, none⟩ = some (.int .i64 id) :=
  ⟨by rw [hb.cell (p := ⟨B, 0, none⟩) (World.block_lt_of_cell? W _ h.1)]; exact h.1, by rw [hb.cell (p := ⟨B, 1, none⟩) (World.block_lt_of_cell? W _ h.2.1)]; exact h.2.1, by rw [hb.cell (p := ⟨B, 2, none⟩) (World.block_lt_of_cell? W _ h.2.2)]; exact h.2.2⟩
theorem keepX2 {W W' : World} {B : Nat} {k id : Int} {t : ByteArray} (hb : Below W.drew.heap.size W.drew W') (h : W.cell? ⟨B, 0, none⟩ = some (.int .i64 k) ∧ W.cell? ⟨B, 1, none⟩ = some (.string t) ∧ W.cell? ⟨B, 2, none⟩ = some (.int .i64 id)) : W'.cell? ⟨B, 0, none⟩ = some (.int .i64 k) ∧ W'.cell? ⟨B, 1, none⟩ = some (.string t) ∧ W'.cell? ⟨B, 2, none⟩ = some (.int .i64 id) :=
  keepX (W := W.drew) h hb
/-- What a call that makes a slice answers: nil, or a slice from the beginning of a block. -/
def EndG (L : List It) (w : World) (e : Ending) (w' : World) : Prop := Below w.heap.size w w' ∧ ((e = .returned (.slice none 0 0) ∧ L = []) ∨ ∃ g c, e = .returned (.slice (some ⟨g, 0, none⟩) L.length c) ∧ L.length ≤ c ∧ c ≤ maxLen ∧ Its w' (some ⟨g, 0, none⟩) L)
theorem EndI.g {L : List It} {w w' : World} {e : Ending} (h : EndI L w e w') : EndG L w e w' := by
  obtain ⟨v, rfl, hA⟩ := h
  refine ⟨hA.below, ?_⟩
  obtain ⟨p, c, hv, h1, h2, hI⟩ := hA.own.its
  rcases hA.own.2 with ⟨h3, h4⟩ | ⟨g, cap, cur, hv2, _⟩
  · exact .inl ⟨by rw [h3], List.length_eq_zero_iff.1 h4⟩
  · rw [hv] at hv2
    injection hv2 with e1 e2 e3
    subst e1; subst e3
    exact .inr ⟨g, c, by rw [hv], h1, h2, hI⟩
theorem raw_f (p : Option Addr) (cap : Nat) (L : List Int) (W : World) (hL : Ones W (Value.int .i64) p L) (hw : ∀ i (h : i < L.length), (Lit.int .i64 (L[i]'h)).wf = true) (hc : L.length ≤ cap) (hm : cap ≤ maxLen) :
    Calls Try.prog 24 #[.pointer (some ⟨W.heap.size, 0, none⟩), .int .i64 8] (W.alloc (.cells #[.slice p L.length cap, .int .i64 0] 38)) fun e w' => ∃ pr cr f, e = .returned (.slice pr f.length cr) ∧ f.length ≤ cr ∧ cr ≤ maxLen ∧ Its w' pr f ∧ Oks f ∧ Below W.heap.size W w' := by
  refine (raw_any W.heap.size p cap L 0 8 8 rfl _ (NumsAt.made hL hw hc hm) (fun h0 a ha => by have := ones_any hL h0 a ha; simp; omega) (by omega) (by omega)).mono ?_
  rintro e w' ⟨v, f, rfl, hg, _, hO, hown⟩
  obtain ⟨pr, cr, rfl, h1, h2, hI⟩ := hown.its
  exact ⟨pr, cr, f, rfl, h1, h2, hI, hO, (blw (Below.refl W.heap.size W) _).trans (grown_below hg (Nat.le_refl _) (by simp))⟩
theorem Oks.cat {l m : List It} (h : Oks l) (k : Oks m) : Oks (l ++ m) := fun i hi => by
  by_cases hc : i < l.length
  · rw [List.getElem_append_left hc]; exact h i hc
  · rw [List.getElem_append_right (by omega)]; exact k _ _
theorem Oks.drop {l : List It} (h : Oks l) (k : Nat) : Oks (l.drop k) := fun i hi => by rw [List.getElem_drop]; exact h _ _

set_option maxHeartbeats 6400000 in
theorem validates_few (p : Option Addr) (c : Nat) (f : List It) (q : Option Addr) (d : Nat) (l : List Int) (x : It) (pos : Int) (w : World)
    (rf : Its w p f) (of : Oks f) (nf : f.length ≤ c) (mf : c ≤ maxLen) (rl : Ones w (Value.int .i64) q l) (ol : ∀ i (h : i < l.length), (Lit.int .i64 (l[i]'h)).wf = true) (nl : l.length ≤ d) (ml : d ≤ maxLen) (wx : x.ok) (wp : (Lit.int .i64 pos).wf = true)
    (ll : l.length ≤ 100) (lx : x.t.size ≤ 200) (ef : fewB f = true) :
    Calls Try.prog 5 #[.slice p f.length c, .slice q l.length d, .agg #[.int .i64 x.k, .string x.t, .int .i64 x.id], .int .i64 pos] w fun e w' => e = .returned (.bool true) ∧ Below w.heap.size w w' := by
  have k0 := fun W i => few_any p c f W i of nf mf
  rw [ef] at k0
  have k1 := fun W i => validate_any p c f W i of nf mf
  have k2 := fun W i => rvalidate_any p c f W i of nf mf
  generalize valE f = E1 at *
  have m1 := fun W i => (made_any q d l true false W i ol nl ml).mono fun _ _ x => EndI.g x
  have gok := mk_ok l true false
  have gv := gok.valid (by decide)
  have g1 := gok.len; have g2 := gok.txt
  have go := oks_valid gok.e (by omega)
  generalize mk l true false = G at *
  have v1 := fun W x y h a m => validate_any x y G W h go a m
  rw [gv] at v1
  have hg1 : G.length ≤ 16 := by omega
  have p1 := fun W => place_any pos ((G.length : Int) + 1) W (by omega) (by omega) wp
  have e0 := Int.emod_nonneg pos (show (G.length : Int) + 1 ≠ 0 by omega)
  have e1 := Int.emod_lt_of_pos pos (show (0 : Int) < (G.length : Int) + 1 by omega)
  generalize pos % ((G.length : Int) + 1) = I at *
  obtain ⟨k, rfl⟩ := Int.eq_ofNat_of_zero_le e0
  have hk : k ≤ G.length := by omega
  have oH : Oks (G.take k ++ [x] ++ G.drop k) := ((go.take k).cat (fun i hi => by have : i = 0 := by simp at hi; omega
                                                                                  subst this; exact wx)).cat (go.drop k)
  have v3 := fun W a b h i m => validate_any a b (G.take k ++ [x] ++ G.drop k) W h oH i m
  have v4 := fun W a b h i m => rvalidate_any a b (G.take k ++ [x] ++ G.drop k) W h oH i m
  have hX : G.take k ++ [x] ++ G.drop k = G.take k ++ [x] ++ G.drop k := rfl
  generalize hH : G.take k ++ [x] ++ G.drop k = H at v3 v4
  have HX := Lib.hid hH.symm
  clear hH hX oH
  generalize valE H = E2 at *
  have v5 := fun W a b R h o i m => validate_any a b R W h o i m
  have v6 := fun W a b R h o i m => rvalidate_any a b R W h o i m
  have rw1 := fun W i => raw_f q d l W i ol nl ml
  have ql : decide (100 < l.length) = false := decide_eq_false (by omega)
  have qx : decide (200 < x.t.size) = false := decide_eq_false (by omega)
  have K0 := Lib.hid k0; have K1 := Lib.hid k1; have K2 := Lib.hid k2; have M1 := Lib.hid m1; have V1 := Lib.hid v1; have P1 := Lib.hid p1
  have V3 := Lib.hid v3; have V4 := Lib.hid v4; have V5 := Lib.hid v5; have V6 := Lib.hid v6; have RW := Lib.hid rw1
  clear k0 k1 k2 m1 v1 p1 v3 v4 v5 v6 rw1 ef of ol gok gv g2 go e0
  have VX := Var3.new w x.k x.t x.id
  have lB : w.heap.size < w.heap.size + 1 := by omega
  have hb := blw (Below.refl w.heap.size w) (.cells #[.int .i64 x.k, .string x.t, .int .i64 x.id] 26)
  have rf := rf.call hb; have rl := rl.call hb; have bl := hb
  go_enter Try.func5, Try.ntmps5
  go_wp2_with fail
  refine (K0.out _ rf).mono ?_; rintro e w0 ⟨rfl, rfl⟩
  obtain ⟨x0, x1, x2, xl⟩ := VX
  go_wp2_with fail
  have VX : Var3 (w.alloc (.cells #[.int .i64 x.k, .string x.t, .int .i64 x.id] 26)) w.heap.size x.k x.t x.id := ⟨x0, x1, x2, xl⟩
  clear x0 x1 x2 xl
  refine (K1.out _ rf).mono ?_; rintro e w1 ⟨rfl, hb⟩
  have rf := rf.call hb; have rl := rl.call hb; have VX := VX.call hb; have bl := BelowOn bl hb
  go_wp2_with fail
  refine (K2.out _ rf).mono ?_; rintro e w2 ⟨rfl, hb⟩
  have rl := rl.call hb; have VX := VX.call hb; have bl := BelowOn bl hb
  go_wp2_with fail
  refine (M1.out _ rl).mono ?_; rintro e w3 ⟨hb, hG⟩
  have rl := rl.call hb; have VX := VX.call hb; have bl := BelowOn bl hb
  rcases hG with ⟨rfl, rfl⟩ | ⟨g, c5, rfl, a5, b5, i5⟩
  · have i5 : Its w3 none ([] : List It) := Its.nil _ _
    have a5 : ([] : List It).length ≤ 0 := Nat.le_refl _
    have b5 : 0 ≤ maxLen := Nat.zero_le _
    obtain rfl : k = 0 := by simp at hk; exact hk
    go_wp2_with fail
    refine (V1.out _ _ _ i5 a5 b5).mono ?_; rintro e w4 ⟨rfl, hb⟩
    have rl := rl.call hb; have VX := VX.call hb; have i5 := i5.call hb; have bl := BelowOn bl hb
    go_wp2_with fail
    refine (P1.out _).mono ?_; rintro e w5 ⟨rfl, rfl⟩
    go_wp2_with fail
    obtain ⟨x0, x1, x2, xl⟩ := VX
    have hT0 : Its w4 none (([] : List It).take 0) := Its.nil _ _
    have hD0 : Its w4 none (([] : List It).drop 0) := Its.nil _ _
    have lT0 : (([] : List It).take 0).length = 0 := rfl
    have lD0 : (([] : List It).drop 0).length = 0 := rfl
    generalize ([] : List It).take 0 = T at *
    generalize ([] : List It).drop 0 = D at *
    have hn5 : T.length + D.length ≤ 16 := by omega
    have hT := hT0.call (Below.refl _ w4).drew
    have hD := hD0.call (Below.refl _ w4).drew
    have bl1 : (([] : List It).length + T.length) * 32 ≤ 140737488355328 := by simp; omega
    have bl3 : (T.length + 1) * 32 ≤ 140737488355328 := by omega
    have bl4 : T.length + 1 ≤ maxLen := by unfold maxLen; omega
    have bl5 : ((T ++ [x]).length + D.length) * 32 ≤ 140737488355328 := by simp; omega
    have hlen5 : T.length ≤ 16 := by omega
    have lT := Lib.hid lT0; have lD := Lib.hid lD0
    clear lT0 lD0 hT0 hD0
    go_upto_region 9 with fail
    go_cut [11] from 43 to 53 (fun s11 wx => ∃ p11 c11, s11 = .slice p11 H.length c11 ∧ H.length ≤ c11 ∧ c11 ≤ maxLen ∧ Its wx p11 H ∧ Below w4.heap.size w4 wx)
    case first =>
      refine wp_region_held_drew (S := fun W => W.cell? ⟨w.heap.size, 0, none⟩ = some (.int .i64 x.k) ∧ W.cell? ⟨w.heap.size, 1, none⟩ = some (.string x.t) ∧ W.cell? ⟨w.heap.size, 2, none⟩ = some (.int .i64 x.id)) (by kernel_rfl) (⟨x0, x1, x2⟩) (fun hHeld => ?_)
      refine wpAnyH_take (i := 0) (v := ?_) rfl (by kernel_rfl) (by kernel_rfl) (by kernel_rfl) (fun _ _ _ h => h) (Or.inl ⟨by rfl, ?_⟩) hHeld ?_
      rotate_left
      · (intro w hSw; (try dsimp only at hSw); go_simp; try with_reducible rfl)
      try simp only [Act.put, List.getElem_toArray, List.getElem_cons_zero, List.getElem_cons_succ, List.setIfInBounds_toArray, List.set_cons_zero, List.set_cons_succ]
      refine wpAnyH_take (i := 1) (v := ?_) rfl (by kernel_rfl) (by kernel_rfl) (by kernel_rfl) (fun _ _ _ h => h) (Or.inl ⟨by rfl, ?_⟩) hHeld ?_
      rotate_left
      · (intro w hSw; (try dsimp only at hSw); go_simp; try with_reducible rfl)
      try simp only [Act.put, List.getElem_toArray, List.getElem_cons_zero, List.getElem_cons_succ, List.setIfInBounds_toArray, List.set_cons_zero, List.set_cons_succ]
      refine wpAnyH_take (i := 2) (v := ?_) rfl (by kernel_rfl) (by kernel_rfl) (by kernel_rfl) (fun _ _ _ h => h) (Or.inl ⟨by rfl, ?_⟩) hHeld ?_
      rotate_left
      · (intro w hSw; (try dsimp only at hSw); go_simp; try with_reducible rfl)
      try simp only [Act.put, List.getElem_toArray, List.getElem_cons_zero, List.getElem_cons_succ, List.setIfInBounds_toArray, List.set_cons_zero, List.set_cons_succ]
      refine wpAnyH_take (i := 4) (v := ?_) rfl (by kernel_rfl) (by kernel_rfl) (by kernel_rfl) (fun _ _ _ h => h) (Or.inl ⟨by rfl, ?_⟩) hHeld ?_
      rotate_left
      · (intro w hSw; (try dsimp only at hSw); go_simp; try with_reducible rfl)
      try simp only [Act.put, List.getElem_toArray, List.getElem_cons_zero, List.getElem_cons_succ, List.setIfInBounds_toArray, List.set_cons_zero, List.set_cons_succ]
      refine wpAnyH_take (i := 7) (v := ?_) rfl (by kernel_rfl) (by kernel_rfl) (by kernel_rfl) (fun _ _ _ h => h) (Or.inl ⟨by rfl, ?_⟩) hHeld ?_
      rotate_left
      · (intro w hSw; (try dsimp only at hSw); go_simp; try with_reducible rfl)
      try simp only [Act.put, List.getElem_toArray, List.getElem_cons_zero, List.getElem_cons_succ, List.setIfInBounds_toArray, List.set_cons_zero, List.set_cons_succ]
      refine wpAnyH_take (i := 8) (v := ?_) rfl (by kernel_rfl) (by kernel_rfl) (by kernel_rfl) (fun _ _ _ h => h) (Or.inl ⟨by rfl, ?_⟩) hHeld ?_
      rotate_left
      · (intro w hSw; (try dsimp only at hSw); go_simp; try with_reducible rfl)
      try simp only [Act.put, List.getElem_toArray, List.getElem_cons_zero, List.getElem_cons_succ, List.setIfInBounds_toArray, List.set_cons_zero, List.set_cons_succ]
      refine wpAnyH_take (i := 9) (v := ?_) rfl (by kernel_rfl) (by kernel_rfl) (by kernel_rfl) (fun _ _ _ h => h) (Or.inl ⟨by rfl, ?_⟩) hHeld ?_
      rotate_left
      · (intro w hSw; (try dsimp only at hSw); go_simp; try with_reducible rfl)
      try simp only [Act.put, List.getElem_toArray, List.getElem_cons_zero, List.getElem_cons_succ, List.setIfInBounds_toArray, List.set_cons_zero, List.set_cons_succ]
      refine wpAnyH_ready (rs := [3, 5]) (by kernel_rfl) (by simp) ?_
      refine AllReadyH.cons rfl (fun K hK => ?_) (AllReadyH.cons rfl (fun K hK => ?_) (AllReadyH.nil))
      · skip
        refine step_cat _ (by rfl) _ _ (by rfl) w4.drew [] T _ (by rfl) (Acc.start _) (none) (0) (0) (by rfl) lT.out.symm hT bl1 ?_
        intro v1 w8 hA8
        rw [List.nil_append] at hA8
        obtain ⟨p8, c8, hv8, _⟩ := hA8.own.its
        rw [lT.out] at hv8
        subst hv8
        refine hK.out _ _ (keepX hHeld hA8.below) (fun hHeld => ?_)
        clear hK K
        try simp only [Act.put, List.getElem_toArray, List.getElem_cons_zero, List.getElem_cons_succ, List.setIfInBounds_toArray, List.set_cons_zero, List.set_cons_succ]
        refine wpAnyH_ready (rs := [5]) (by kernel_rfl) (by simp) ?_
        refine AllReadyH.cons rfl (fun K hK => ?_) AllReadyH.nil
        have hA9 := hA8.alloc (.cells #[.int .i64 x.k, .string x.t, .int .i64 x.id] 26)
        have hN9 := Lib.hid (heap_alloc_new w8 (.cells #[.int .i64 x.k, .string x.t, .int .i64 x.id] 26))
        go_simp
        refine hK.out _ _ (keepX hHeld ((Below.refl _ w8).alloc (Nat.le_refl _) (.cells #[.int .i64 x.k, .string x.t, .int .i64 x.id] 26))) (fun hHeld => ?_)
        clear hK K
        try simp only [Act.put, List.getElem_toArray, List.getElem_cons_zero, List.getElem_cons_succ, List.setIfInBounds_toArray, List.set_cons_zero, List.set_cons_succ]
        refine wpAnyH_ready (rs := [6]) (by kernel_rfl) (by simp) ?_
        refine AllReadyH.cons rfl (fun K hK => ?_) AllReadyH.nil
        refine step_app eI _ (by rfl) _ _ (by rfl) (w4.drew).heap.size T _ (by rfl) hA9.own hA9.below.size x w8.heap.size #[.int .i64 x.k, .string x.t, .int .i64 x.id] (by rfl) hN9.out (by rfl) bl3 bl4 ?_
        intro g2 cp w10 hown10 hgr10 hloc10
        have hA10 := hA9.more hgr10 hown10
        refine hK.out _ _ (keepX2 hA10.below ⟨x0, x1, x2⟩) (fun hHeld => ?_)
        clear hK K
        try simp only [Act.put, List.getElem_toArray, List.getElem_cons_zero, List.getElem_cons_succ, List.setIfInBounds_toArray, List.set_cons_zero, List.set_cons_succ]
        refine wpAnyH_ready (rs := [10]) (by kernel_rfl) (by simp) ?_
        refine AllReadyH.cons rfl (fun K hK => ?_) AllReadyH.nil
        refine step_cat _ (by rfl) _ _ (by rfl) w4.drew (T ++ [x]) D _ (by rfl) hA10 (none) (0) (0) (by rfl) lD.out.symm (hD.call hA10.below) bl5 ?_
        intro v11 w11 hA11
        refine hK.out _ _ (keepX2 hA11.below ⟨x0, x1, x2⟩) (fun hHeld => ?_)
        clear hK K
        try simp only [Act.put, List.getElem_toArray, List.getElem_cons_zero, List.getElem_cons_succ, List.setIfInBounds_toArray, List.set_cons_zero, List.set_cons_succ]
        refine wpAnyH_take (i := 11) (v := ?_) rfl (by kernel_rfl) (by kernel_rfl) (by kernel_rfl) (fun _ _ _ h => h) (Or.inl ⟨by rfl, ?_⟩) hHeld ?_
        rotate_left
        · (intro w hSw; (try dsimp only at hSw); go_simp; try with_reducible rfl)
        try simp only [Act.put, List.getElem_toArray, List.getElem_cons_zero, List.getElem_cons_succ, List.setIfInBounds_toArray, List.set_cons_zero, List.set_cons_succ]
        refine wpAnyH_done (by kernel_rfl) ?_ _
        obtain ⟨p11, c11, rfl, g11, m11, i11⟩ := hA11.own.its
        go_wp2_with fail
        go_meet
        exact ⟨p11, c11, by rw [HX.out], by rw [HX.out]; exact g11, m11, by rw [HX.out]; exact i11, hA11.below.os, hA11.below.tape, hA11.below.output, hA11.below.size, hA11.below.block⟩
      · skip
        go_simp
        refine hK.out _ _ (keepX hHeld ((Below.refl _ w4.drew).alloc (Nat.le_refl _) (.cells #[.int .i64 x.k, .string x.t, .int .i64 x.id] 26))) (fun hHeld => ?_)
        clear hK K
        try simp only [Act.put, List.getElem_toArray, List.getElem_cons_zero, List.getElem_cons_succ, List.setIfInBounds_toArray, List.set_cons_zero, List.set_cons_succ]
        refine wpAnyH_ready (rs := [3]) (by kernel_rfl) (by simp) ?_
        refine AllReadyH.cons rfl (fun K hK => ?_) AllReadyH.nil
        refine step_cat _ (by rfl) _ _ (by rfl) (w4.drew.alloc (.cells #[.int .i64 x.k, .string x.t, .int .i64 x.id] 26)) [] T _ (by rfl) (Acc.start _) (none) (0) (0) (by rfl) lT.out.symm (hT.call ((Below.refl _ w4.drew).alloc (Nat.le_refl _) (.cells #[.int .i64 x.k, .string x.t, .int .i64 x.id] 26))) bl1 ?_
        intro v1 w8 hA8
        rw [List.nil_append] at hA8
        obtain ⟨p8, c8, hv8, _⟩ := hA8.own.its
        rw [lT.out] at hv8
        subst hv8
        have hN9 := Lib.hid ((hA8.below.block w4.heap.size (by simp)).trans (heap_alloc_new w4.drew (.cells #[.int .i64 x.k, .string x.t, .int .i64 x.id] 26)))
        refine hK.out _ _ (keepX hHeld hA8.below) (fun hHeld => ?_)
        clear hK K
        try simp only [Act.put, List.getElem_toArray, List.getElem_cons_zero, List.getElem_cons_succ, List.setIfInBounds_toArray, List.set_cons_zero, List.set_cons_succ]
        refine wpAnyH_ready (rs := [6]) (by kernel_rfl) (by simp) ?_
        refine AllReadyH.cons rfl (fun K hK => ?_) AllReadyH.nil
        refine step_app eI _ (by rfl) _ _ (by rfl) (w4.drew.alloc (.cells #[.int .i64 x.k, .string x.t, .int .i64 x.id] 26)).heap.size T _ (by rfl) hA8.own hA8.below.size x w4.heap.size #[.int .i64 x.k, .string x.t, .int .i64 x.id] (by rfl) hN9.out (by rfl) bl3 bl4 ?_
        intro g2 cp w10 hown10 hgr10 hloc10
        have hA10 := hA8.more hgr10 hown10
        have hb10 : Below w4.drew.heap.size w4.drew w10 := BelowOn ((Below.refl _ w4.drew).alloc (Nat.le_refl _) (.cells #[.int .i64 x.k, .string x.t, .int .i64 x.id] 26)) hA10.below
        refine hK.out _ _ (keepX2 hb10 ⟨x0, x1, x2⟩) (fun hHeld => ?_)
        clear hK K
        try simp only [Act.put, List.getElem_toArray, List.getElem_cons_zero, List.getElem_cons_succ, List.setIfInBounds_toArray, List.set_cons_zero, List.set_cons_succ]
        refine wpAnyH_ready (rs := [10]) (by kernel_rfl) (by simp) ?_
        refine AllReadyH.cons rfl (fun K hK => ?_) AllReadyH.nil
        refine step_cat _ (by rfl) _ _ (by rfl) (w4.drew.alloc (.cells #[.int .i64 x.k, .string x.t, .int .i64 x.id] 26)) (T ++ [x]) D _ (by rfl) hA10 (none) (0) (0) (by rfl) lD.out.symm (hD.call hb10) bl5 ?_
        intro v11 w11 hA11
        have hb11 : Below w4.drew.heap.size w4.drew w11 := BelowOn ((Below.refl _ w4.drew).alloc (Nat.le_refl _) (.cells #[.int .i64 x.k, .string x.t, .int .i64 x.id] 26)) hA11.below
        refine hK.out _ _ (keepX2 hb11 ⟨x0, x1, x2⟩) (fun hHeld => ?_)
        clear hK K
        try simp only [Act.put, List.getElem_toArray, List.getElem_cons_zero, List.getElem_cons_succ, List.setIfInBounds_toArray, List.set_cons_zero, List.set_cons_succ]
        refine wpAnyH_take (i := 11) (v := ?_) rfl (by kernel_rfl) (by kernel_rfl) (by kernel_rfl) (fun _ _ _ h => h) (Or.inl ⟨by rfl, ?_⟩) hHeld ?_
        rotate_left
        · (intro w hSw; (try dsimp only at hSw); go_simp; try with_reducible rfl)
        try simp only [Act.put, List.getElem_toArray, List.getElem_cons_zero, List.getElem_cons_succ, List.setIfInBounds_toArray, List.set_cons_zero, List.set_cons_succ]
        refine wpAnyH_done (by kernel_rfl) ?_ _
        obtain ⟨p11, c11, rfl, g11, m11, i11⟩ := hA11.own.its
        go_wp2_with fail
        go_meet
        exact ⟨p11, c11, by rw [HX.out], by rw [HX.out]; exact g11, m11, by rw [HX.out]; exact i11, hb11.os, hb11.tape, hb11.output, hb11.size, hb11.block⟩
    case rest =>
      obtain ⟨p11, c11, rfl, g11, m11, i11, hb⟩ := hcut
      have rl := rl.call hb; have bl := BelowOn bl hb
      clear x0 x1 x2 xl
      go_wp2_with fail
      refine (RW.out _ rl).mono ?_; rintro e w6 ⟨p12, c12, R, rfl, g12, m12, i12, oR, hb⟩
      have i11 := i11.call hb; have bl := BelowOn bl hb
      go_wp2_with fail
      refine (V3.out _ _ _ i11 g11 m11).mono ?_; rintro e w7 ⟨rfl, hb⟩
      have i11 := i11.call hb; have i12 := i12.call hb; have bl := BelowOn bl hb
      go_wp2_with fail
      refine (V4.out _ _ _ i11 g11 m11).mono ?_; rintro e w8 ⟨rfl, hb⟩
      have i12 := i12.call hb; have bl := BelowOn bl hb
      generalize hE3 : valE R = E3 at *
      have w5a := V5.out; have w6a := V6.out
      have HV5 := Lib.hid (fun W i => V5.out W p12 c12 R i oR g12 m12); have HV6 := Lib.hid (fun W i => V6.out W p12 c12 R i oR g12 m12)
      clear hE3 w5a w6a
      go_wp2_with fail
      refine (HV5.out _ i12).mono ?_; rintro e w9 ⟨rfl, hb⟩
      have i12 := i12.call hb; have bl := BelowOn bl hb
      go_wp2_with fail
      refine (HV6.out _ i12).mono ?_; rintro e w10 ⟨rfl, hb⟩
      have bl := BelowOn bl hb
      go_wp2_with fail
      refine (known_any _).mono ?_; rintro e w11 ⟨rfl, hb⟩
      have bl := BelowOn bl hb
      go_wp2_with fail
      go_ret
      exact ⟨rfl, bl⟩
  · have i5' := i5
    go_wp2_with fail
    refine (V1.out _ _ _ i5 a5 b5).mono ?_; rintro e w4 ⟨rfl, hb⟩
    have rl := rl.call hb; have VX := VX.call hb; have i5 := i5.call hb; have bl := BelowOn bl hb
    go_wp2_with fail
    refine (P1.out _).mono ?_; rintro e w5 ⟨rfl, rfl⟩
    go_wp2_with fail
    obtain ⟨x0, x1, x2, xl⟩ := VX
    have hT0 := its_take i5 k
    have lT0 : (G.take k).length = k := by rw [List.length_take]; omega
    have lD0 : (G.drop k).length = G.length - k := by rw [List.length_drop]
    obtain ⟨A, hA, hAD⟩ : ∃ A, (if c5 = k then some (⟨g, 0, none⟩ : Addr) else some ⟨g, k * 3, none⟩) = some ⟨g, A, none⟩ ∧ (c5 ≠ k → A = k * 3) := by
      by_cases hc : c5 = k
      · exact ⟨0, if_pos hc, fun h => absurd hc h⟩
      · exact ⟨_, if_neg hc, fun _ => rfl⟩
    have hD0 : Its w4 (some ⟨g, A, none⟩) (G.drop k) := by
      by_cases hc : c5 = k
      · exact its_empty (by omega)
      · rw [hAD hc]; exact its_drop i5 k
    generalize G.take k = T at *
    generalize G.drop k = D at *
    generalize hGl : G.length = n at *
    have hn5 : T.length + D.length ≤ 16 := by omega
    have hs1 : k ≤ n := hk
    have hs2 : k ≤ c5 := by omega
    clear hGl hAD
    have hT := hT0.call (Below.refl _ w4).drew
    have hD := hD0.call (Below.refl _ w4).drew
    have bl1 : (([] : List It).length + T.length) * 32 ≤ 140737488355328 := by simp; omega
    have bl3 : (T.length + 1) * 32 ≤ 140737488355328 := by omega
    have bl4 : T.length + 1 ≤ maxLen := by unfold maxLen; omega
    have bl5 : ((T ++ [x]).length + D.length) * 32 ≤ 140737488355328 := by simp; omega
    have hlen5 : T.length ≤ 16 := by omega
    have lT := Lib.hid lT0; have lD := Lib.hid lD0
    clear lT0 lD0 hT0 hD0
    go_upto_region 9 with fail
    go_cut [11] from 43 to 53 (fun s11 wx => ∃ p11 c11, s11 = .slice p11 H.length c11 ∧ H.length ≤ c11 ∧ c11 ≤ maxLen ∧ Its wx p11 H ∧ Below w4.heap.size w4 wx)
    case first =>
      refine wp_region_held_drew (S := fun W => W.cell? ⟨w.heap.size, 0, none⟩ = some (.int .i64 x.k) ∧ W.cell? ⟨w.heap.size, 1, none⟩ = some (.string x.t) ∧ W.cell? ⟨w.heap.size, 2, none⟩ = some (.int .i64 x.id)) (by kernel_rfl) (⟨x0, x1, x2⟩) (fun hHeld => ?_)
      refine wpAnyH_take (i := 0) (v := ?_) rfl (by kernel_rfl) (by kernel_rfl) (by kernel_rfl) (fun _ _ _ h => h) (Or.inl ⟨by rfl, ?_⟩) hHeld ?_
      rotate_left
      · (intro w hSw; (try dsimp only at hSw); go_simp; try with_reducible rfl)
      try simp only [Act.put, List.getElem_toArray, List.getElem_cons_zero, List.getElem_cons_succ, List.setIfInBounds_toArray, List.set_cons_zero, List.set_cons_succ]
      refine wpAnyH_take (i := 1) (v := ?_) rfl (by kernel_rfl) (by kernel_rfl) (by kernel_rfl) (fun _ _ _ h => h) (Or.inl ⟨by rfl, ?_⟩) hHeld ?_
      rotate_left
      · (intro w hSw; (try dsimp only at hSw); go_simp; try with_reducible rfl)
      try simp only [Act.put, List.getElem_toArray, List.getElem_cons_zero, List.getElem_cons_succ, List.setIfInBounds_toArray, List.set_cons_zero, List.set_cons_succ]
      refine wpAnyH_take (i := 2) (v := ?_) rfl (by kernel_rfl) (by kernel_rfl) (by kernel_rfl) (fun _ _ _ h => h) (Or.inl ⟨by rfl, ?_⟩) hHeld ?_
      rotate_left
      · (intro w hSw; (try dsimp only at hSw); go_simp; try with_reducible rfl)
      try simp only [Act.put, List.getElem_toArray, List.getElem_cons_zero, List.getElem_cons_succ, List.setIfInBounds_toArray, List.set_cons_zero, List.set_cons_succ]
      refine wpAnyH_take (i := 4) (v := ?_) rfl (by kernel_rfl) (by kernel_rfl) (by kernel_rfl) (fun _ _ _ h => h) (Or.inl ⟨by rfl, ?_⟩) hHeld ?_
      rotate_left
      · (intro w hSw; (try dsimp only at hSw); go_simp; try with_reducible rfl)
      try simp only [Act.put, List.getElem_toArray, List.getElem_cons_zero, List.getElem_cons_succ, List.setIfInBounds_toArray, List.set_cons_zero, List.set_cons_succ]
      refine wpAnyH_take (i := 7) (v := ?_) rfl (by kernel_rfl) (by kernel_rfl) (by kernel_rfl) (fun _ _ _ h => h) (Or.inl ⟨by rfl, ?_⟩) hHeld ?_
      rotate_left
      · (intro w hSw; (try dsimp only at hSw); go_simp; try with_reducible rfl)
      try simp only [Act.put, List.getElem_toArray, List.getElem_cons_zero, List.getElem_cons_succ, List.setIfInBounds_toArray, List.set_cons_zero, List.set_cons_succ]
      refine wpAnyH_take (i := 8) (v := ?_) rfl (by kernel_rfl) (by kernel_rfl) (by kernel_rfl) (fun _ _ _ h => h) (Or.inl ⟨by rfl, ?_⟩) hHeld ?_
      rotate_left
      · (intro w hSw; (try dsimp only at hSw); go_simp; try with_reducible rfl)
      try simp only [Act.put, List.getElem_toArray, List.getElem_cons_zero, List.getElem_cons_succ, List.setIfInBounds_toArray, List.set_cons_zero, List.set_cons_succ]
      refine wpAnyH_take (i := 9) (v := ?_) rfl (by kernel_rfl) (by kernel_rfl) (by kernel_rfl) (fun _ _ _ h => h) (Or.inl ⟨by rfl, ?_⟩) hHeld ?_
      rotate_left
      · (intro w hSw; (try dsimp only at hSw); go_simp; try with_reducible rfl)
      try simp only [Act.put, List.getElem_toArray, List.getElem_cons_zero, List.getElem_cons_succ, List.setIfInBounds_toArray, List.set_cons_zero, List.set_cons_succ]
      refine wpAnyH_ready (rs := [3, 5]) (by kernel_rfl) (by simp) ?_
      refine AllReadyH.cons rfl (fun K hK => ?_) (AllReadyH.cons rfl (fun K hK => ?_) (AllReadyH.nil))
      · skip
        refine step_cat _ (by rfl) _ _ (by rfl) w4.drew [] T _ (by rfl) (Acc.start _) (some ⟨g, 0, none⟩) (k) (c5) (by rfl) lT.out.symm hT bl1 ?_
        intro v1 w8 hA8
        rw [List.nil_append] at hA8
        obtain ⟨p8, c8, hv8, _⟩ := hA8.own.its
        rw [lT.out] at hv8
        subst hv8
        refine hK.out _ _ (keepX hHeld hA8.below) (fun hHeld => ?_)
        clear hK K
        try simp only [Act.put, List.getElem_toArray, List.getElem_cons_zero, List.getElem_cons_succ, List.setIfInBounds_toArray, List.set_cons_zero, List.set_cons_succ]
        refine wpAnyH_ready (rs := [5]) (by kernel_rfl) (by simp) ?_
        refine AllReadyH.cons rfl (fun K hK => ?_) AllReadyH.nil
        have hA9 := hA8.alloc (.cells #[.int .i64 x.k, .string x.t, .int .i64 x.id] 26)
        have hN9 := Lib.hid (heap_alloc_new w8 (.cells #[.int .i64 x.k, .string x.t, .int .i64 x.id] 26))
        go_simp
        refine hK.out _ _ (keepX hHeld ((Below.refl _ w8).alloc (Nat.le_refl _) (.cells #[.int .i64 x.k, .string x.t, .int .i64 x.id] 26))) (fun hHeld => ?_)
        clear hK K
        try simp only [Act.put, List.getElem_toArray, List.getElem_cons_zero, List.getElem_cons_succ, List.setIfInBounds_toArray, List.set_cons_zero, List.set_cons_succ]
        refine wpAnyH_ready (rs := [6]) (by kernel_rfl) (by simp) ?_
        refine AllReadyH.cons rfl (fun K hK => ?_) AllReadyH.nil
        refine step_app eI _ (by rfl) _ _ (by rfl) (w4.drew).heap.size T _ (by rfl) hA9.own hA9.below.size x w8.heap.size #[.int .i64 x.k, .string x.t, .int .i64 x.id] (by rfl) hN9.out (by rfl) bl3 bl4 ?_
        intro g2 cp w10 hown10 hgr10 hloc10
        have hA10 := hA9.more hgr10 hown10
        refine hK.out _ _ (keepX2 hA10.below ⟨x0, x1, x2⟩) (fun hHeld => ?_)
        clear hK K
        try simp only [Act.put, List.getElem_toArray, List.getElem_cons_zero, List.getElem_cons_succ, List.setIfInBounds_toArray, List.set_cons_zero, List.set_cons_succ]
        refine wpAnyH_ready (rs := [10]) (by kernel_rfl) (by simp) ?_
        refine AllReadyH.cons rfl (fun K hK => ?_) AllReadyH.nil
        refine step_cat _ (by rfl) _ _ (by rfl) w4.drew (T ++ [x]) D _ (by rfl) hA10 (some ⟨g, A, none⟩) (n - k) (c5 - k) (by rfl) lD.out.symm (hD.call hA10.below) bl5 ?_
        intro v11 w11 hA11
        refine hK.out _ _ (keepX2 hA11.below ⟨x0, x1, x2⟩) (fun hHeld => ?_)
        clear hK K
        try simp only [Act.put, List.getElem_toArray, List.getElem_cons_zero, List.getElem_cons_succ, List.setIfInBounds_toArray, List.set_cons_zero, List.set_cons_succ]
        refine wpAnyH_take (i := 11) (v := ?_) rfl (by kernel_rfl) (by kernel_rfl) (by kernel_rfl) (fun _ _ _ h => h) (Or.inl ⟨by rfl, ?_⟩) hHeld ?_
        rotate_left
        · (intro w hSw; (try dsimp only at hSw); go_simp; try with_reducible rfl)
        try simp only [Act.put, List.getElem_toArray, List.getElem_cons_zero, List.getElem_cons_succ, List.setIfInBounds_toArray, List.set_cons_zero, List.set_cons_succ]
        refine wpAnyH_done (by kernel_rfl) ?_ _
        obtain ⟨p11, c11, rfl, g11, m11, i11⟩ := hA11.own.its
        go_wp2_with fail
        go_meet
        exact ⟨p11, c11, by rw [HX.out], by rw [HX.out]; exact g11, m11, by rw [HX.out]; exact i11, hA11.below.os, hA11.below.tape, hA11.below.output, hA11.below.size, hA11.below.block⟩
      · skip
        go_simp
        refine hK.out _ _ (keepX hHeld ((Below.refl _ w4.drew).alloc (Nat.le_refl _) (.cells #[.int .i64 x.k, .string x.t, .int .i64 x.id] 26))) (fun hHeld => ?_)
        clear hK K
        try simp only [Act.put, List.getElem_toArray, List.getElem_cons_zero, List.getElem_cons_succ, List.setIfInBounds_toArray, List.set_cons_zero, List.set_cons_succ]
        refine wpAnyH_ready (rs := [3]) (by kernel_rfl) (by simp) ?_
        refine AllReadyH.cons rfl (fun K hK => ?_) AllReadyH.nil
        refine step_cat _ (by rfl) _ _ (by rfl) (w4.drew.alloc (.cells #[.int .i64 x.k, .string x.t, .int .i64 x.id] 26)) [] T _ (by rfl) (Acc.start _) (some ⟨g, 0, none⟩) (k) (c5) (by rfl) lT.out.symm (hT.call ((Below.refl _ w4.drew).alloc (Nat.le_refl _) (.cells #[.int .i64 x.k, .string x.t, .int .i64 x.id] 26))) bl1 ?_
        intro v1 w8 hA8
        rw [List.nil_append] at hA8
        obtain ⟨p8, c8, hv8, _⟩ := hA8.own.its
        rw [lT.out] at hv8
        subst hv8
        have hN9 := Lib.hid ((hA8.below.block w4.heap.size (by simp)).trans (heap_alloc_new w4.drew (.cells #[.int .i64 x.k, .string x.t, .int .i64 x.id] 26)))
        refine hK.out _ _ (keepX hHeld hA8.below) (fun hHeld => ?_)
        clear hK K
        try simp only [Act.put, List.getElem_toArray, List.getElem_cons_zero, List.getElem_cons_succ, List.setIfInBounds_toArray, List.set_cons_zero, List.set_cons_succ]
        refine wpAnyH_ready (rs := [6]) (by kernel_rfl) (by simp) ?_
        refine AllReadyH.cons rfl (fun K hK => ?_) AllReadyH.nil
        refine step_app eI _ (by rfl) _ _ (by rfl) (w4.drew.alloc (.cells #[.int .i64 x.k, .string x.t, .int .i64 x.id] 26)).heap.size T _ (by rfl) hA8.own hA8.below.size x w4.heap.size #[.int .i64 x.k, .string x.t, .int .i64 x.id] (by rfl) hN9.out (by rfl) bl3 bl4 ?_
        intro g2 cp w10 hown10 hgr10 hloc10
        have hA10 := hA8.more hgr10 hown10
        have hb10 : Below w4.drew.heap.size w4.drew w10 := BelowOn ((Below.refl _ w4.drew).alloc (Nat.le_refl _) (.cells #[.int .i64 x.k, .string x.t, .int .i64 x.id] 26)) hA10.below
        refine hK.out _ _ (keepX2 hb10 ⟨x0, x1, x2⟩) (fun hHeld => ?_)
        clear hK K
        try simp only [Act.put, List.getElem_toArray, List.getElem_cons_zero, List.getElem_cons_succ, List.setIfInBounds_toArray, List.set_cons_zero, List.set_cons_succ]
        refine wpAnyH_ready (rs := [10]) (by kernel_rfl) (by simp) ?_
        refine AllReadyH.cons rfl (fun K hK => ?_) AllReadyH.nil
        refine step_cat _ (by rfl) _ _ (by rfl) (w4.drew.alloc (.cells #[.int .i64 x.k, .string x.t, .int .i64 x.id] 26)) (T ++ [x]) D _ (by rfl) hA10 (some ⟨g, A, none⟩) (n - k) (c5 - k) (by rfl) lD.out.symm (hD.call hb10) bl5 ?_
        intro v11 w11 hA11
        have hb11 : Below w4.drew.heap.size w4.drew w11 := BelowOn ((Below.refl _ w4.drew).alloc (Nat.le_refl _) (.cells #[.int .i64 x.k, .string x.t, .int .i64 x.id] 26)) hA11.below
        refine hK.out _ _ (keepX2 hb11 ⟨x0, x1, x2⟩) (fun hHeld => ?_)
        clear hK K
        try simp only [Act.put, List.getElem_toArray, List.getElem_cons_zero, List.getElem_cons_succ, List.setIfInBounds_toArray, List.set_cons_zero, List.set_cons_succ]
        refine wpAnyH_take (i := 11) (v := ?_) rfl (by kernel_rfl) (by kernel_rfl) (by kernel_rfl) (fun _ _ _ h => h) (Or.inl ⟨by rfl, ?_⟩) hHeld ?_
        rotate_left
        · (intro w hSw; (try dsimp only at hSw); go_simp; try with_reducible rfl)
        try simp only [Act.put, List.getElem_toArray, List.getElem_cons_zero, List.getElem_cons_succ, List.setIfInBounds_toArray, List.set_cons_zero, List.set_cons_succ]
        refine wpAnyH_done (by kernel_rfl) ?_ _
        obtain ⟨p11, c11, rfl, g11, m11, i11⟩ := hA11.own.its
        go_wp2_with fail
        go_meet
        exact ⟨p11, c11, by rw [HX.out], by rw [HX.out]; exact g11, m11, by rw [HX.out]; exact i11, hb11.os, hb11.tape, hb11.output, hb11.size, hb11.block⟩
    case rest =>
      obtain ⟨p11, c11, rfl, g11, m11, i11, hb⟩ := hcut
      have rl := rl.call hb; have bl := BelowOn bl hb
      clear x0 x1 x2 xl
      go_wp2_with fail
      refine (RW.out _ rl).mono ?_; rintro e w6 ⟨p12, c12, R, rfl, g12, m12, i12, oR, hb⟩
      have i11 := i11.call hb; have bl := BelowOn bl hb
      go_wp2_with fail
      refine (V3.out _ _ _ i11 g11 m11).mono ?_; rintro e w7 ⟨rfl, hb⟩
      have i11 := i11.call hb; have i12 := i12.call hb; have bl := BelowOn bl hb
      go_wp2_with fail
      refine (V4.out _ _ _ i11 g11 m11).mono ?_; rintro e w8 ⟨rfl, hb⟩
      have i12 := i12.call hb; have bl := BelowOn bl hb
      generalize hE3 : valE R = E3 at *
      have w5a := V5.out; have w6a := V6.out
      have HV5 := Lib.hid (fun W i => V5.out W p12 c12 R i oR g12 m12); have HV6 := Lib.hid (fun W i => V6.out W p12 c12 R i oR g12 m12)
      clear hE3 w5a w6a
      go_wp2_with fail
      refine (HV5.out _ i12).mono ?_; rintro e w9 ⟨rfl, hb⟩
      have i12 := i12.call hb; have bl := BelowOn bl hb
      go_wp2_with fail
      refine (HV6.out _ i12).mono ?_; rintro e w10 ⟨rfl, hb⟩
      have bl := BelowOn bl hb
      go_wp2_with fail
      refine (known_any _).mono ?_; rintro e w11 ⟨rfl, hb⟩
      have bl := BelowOn bl hb
      go_wp2_with fail
      go_ret
      exact ⟨rfl, bl⟩
set_option maxHeartbeats 3200000 in
theorem validates_any (p : Option Addr) (c : Nat) (f : List It) (q : Option Addr) (d : Nat) (l : List Int) (x : It) (pos : Int) (w : World)
    (rf : Its w p f) (of : Oks f) (nf : f.length ≤ c) (mf : c ≤ maxLen) (rl : Ones w (Value.int .i64) q l) (ol : ∀ i (h : i < l.length), (Lit.int .i64 (l[i]'h)).wf = true) (nl : l.length ≤ d) (ml : d ≤ maxLen) (wx : x.ok) (wp : (Lit.int .i64 pos).wf = true) :
    Calls Try.prog 5 #[.slice p f.length c, .slice q l.length d, .agg #[.int .i64 x.k, .string x.t, .int .i64 x.id], .int .i64 pos] w fun e w' => e = .returned (.bool true) ∧ Below w.heap.size w w' := by
  cases ef : fewB f
  · have VX := Var3.new w x.k x.t x.id
    have hb := blw (Below.refl w.heap.size w) (.cells #[.int .i64 x.k, .string x.t, .int .i64 x.id] 26)
    have rf := rf.call hb; have bl := hb
    have k0 := fun W i => few_any p c f W i of nf mf
    rw [ef] at k0
    clear ef
    have K0 := Lib.hid k0; clear k0
    go_enter Try.func5, Try.ntmps5
    go_wp2_with fail
    refine (K0.out _ rf).mono ?_; rintro e w0 ⟨rfl, rfl⟩
    go_wp2_with fail
    refine (known_any _).mono ?_; rintro e w17 ⟨rfl, hb⟩
    have bl := BelowOn bl hb
    go_wp2_with fail
    go_ret
    exact ⟨rfl, bl⟩
  by_cases ll : l.length ≤ 100
  case neg =>
    have zl : 100 < l.length := by omega
    have VX := Var3.new w x.k x.t x.id
    have hb := blw (Below.refl w.heap.size w) (.cells #[.int .i64 x.k, .string x.t, .int .i64 x.id] 26)
    have rf := rf.call hb; have bl := hb
    have k0 := fun W i => few_any p c f W i of nf mf
    rw [ef] at k0
    clear ef ll
    have K0 := Lib.hid k0; clear k0
    go_enter Try.func5, Try.ntmps5
    go_wp2_with fail
    refine (K0.out _ rf).mono ?_; rintro e w0 ⟨rfl, rfl⟩
    go_wp2_with fail
    refine (known_any _).mono ?_; rintro e w17 ⟨rfl, hb⟩
    have bl := BelowOn bl hb
    go_wp2_with fail
    go_ret
    exact ⟨rfl, bl⟩
  by_cases lx : x.t.size ≤ 200
  case neg =>
    have zx : 200 < x.t.size := by omega
    have ql : decide (100 < l.length) = false := decide_eq_false (by omega)
    have VX := Var3.new w x.k x.t x.id
    have hb := blw (Below.refl w.heap.size w) (.cells #[.int .i64 x.k, .string x.t, .int .i64 x.id] 26)
    have rf := rf.call hb; have bl := hb
    have k0 := fun W i => few_any p c f W i of nf mf
    rw [ef] at k0
    clear ef ll lx
    obtain ⟨x0, x1, x2, xl⟩ := VX
    have K0 := Lib.hid k0; clear k0
    go_enter Try.func5, Try.ntmps5
    go_wp2_with fail
    refine (K0.out _ rf).mono ?_; rintro e w0 ⟨rfl, rfl⟩
    go_wp2_with fail
    all_goals (refine (known_any _).mono ?_; rintro e w17 ⟨rfl, hb⟩; have bl := BelowOn bl hb; go_wp2_with fail; go_ret; exact ⟨rfl, bl⟩)
  exact validates_few p c f q d l x pos w rf of nf mf rl ol nl ml wx wp ll lx ef
end Go.Proofs.Ytnfapcfajoboaaa
