/- The contract of the content's add. The contract of the content's add. -/
import Derived.Test.YtphkpokoeaagfaaGreatDoorKtC
import Derived.Deep.RegionLaw
namespace Go.Proofs.YtphkpokoeaagfaaGreatDoor
open Go.ChangeShapes Go.WideShapes Go.ChangeAt Go.RowKit
set_option linter.unusedVariables false
set_option linter.unusedSimpArgs false
set_option maxRecDepth 100000

set_option maxHeartbeats 3200000 in
theorem add_empty (base V n t : Nat) (E : List It) (S : List Nat) (op : List It) (vE vS vO : Value) (tx : ByteArray) (q : Nat) (w : World) (h : Cnt base V E S n t op vE vS vO w) (hbw : base ≤ w.heap.size) (hxs : ∀ y ∈ E, SmE y) (htx : tx.size ≤ 1024) (hn : n = (norm E).length) (hl : E.length ≤ 1024) (hc : S.length ≤ 1024) (hn5 : n ≤ 512) (ht : t ≤ 1000000) (hop : op.length ≤ 1000000) :
    Calls Tryz.prog 56 #[.pointer (some ⟨V, 0, none⟩), .agg #[.int .i64 4, .string tx, .int .i64 0], .int .i64 (q : Int)] w (EndA1 base V E S vE vS vO q (⟨4, tx, ((t + 1 : Nat) : Int)⟩ : It) op (t + 1) w) := by
  obtain ⟨u, hu⟩ : ∃ u : Int, u = ((t + 1 : Nat) : Int) := ⟨_, rfl⟩
  rw [← hu]
  have HU := Lib.hid hu
  clear hu
  have hlm := len_more E (⟨4, tx, u⟩ : It) hxs (.inr ⟨(by decide : (4 : Int) ≠ 1), htx⟩)
  rw [if_neg (fun h => absurd h.1 (by decide : (4 : Int) ≠ 1)), ← hn] at hlm
  clear hn hxs
  unfold EndA1
  generalize (norm (E ++ [(⟨4, tx, u⟩ : It)])).length = n1 at *
  generalize hr : (if 512 < n1 ∨ 1024 ≤ E.length then (3 : Int) else 0) = r
  have HRR := Lib.hid hr
  clear hr
  obtain ⟨pi, ci, rfl, hi1, hi2, _⟩ := h.own.its
  obtain ⟨pc, cc, rfl, hc1, hc2, _⟩ := h.cut.ints
  obtain ⟨po, co, rfl, ho1, ho2, _⟩ := h.opn.its
  have hml := nI_len S
  have hbV := (h.lt V (.inl rfl)).2
  have hBn : V ≠ w.heap.size := by omega
  have hV0 := h.alloc (.cells #[.int .i64 4, .string tx, .int .i64 0] 62)
  have hO0 : Only (cS V (.slice pi E.length ci) (.slice pc (nI S).length cc) (.slice po op.length co)) w (w.alloc (.cells #[.int .i64 4, .string tx, .int .i64 0] 62)) := Only.of_below (blw (Below.refl _ _) _)
  have hX0 := heap_alloc_new w (.cells #[.int .i64 4, .string tx, .int .i64 0] 62)
  have hms : nI (S ++ [q]) = nI S ++ [(q : Int)] := nI_snoc S q
  have HLT := Lib.hid h.lt
  have HLM := Lib.hid hlm
  generalize hmm : nI S = ms at *
  have HMS := Lib.hid hms
  have HMM := Lib.hid hmm
  have hm5 : ms.length ≤ 1024 := by omega
  have hn9 : (n : Int) ≤ 512 := by omega
  clear hms hml hmm hlm
  obtain ⟨a0, a1, a2, a3, a4, af0, af1, af2, af3, af4⟩ := h.cells
  obtain ⟨b0, b1, b2, b3, b4, bf0, bf1, bf2, bf3, bf4⟩ := hV0.cells
  have hNn := fun W (hW : Cnt base V E S n t op (.slice pi E.length ci) (.slice pc ms.length cc) (.slice po op.length co) W) => nextnum_any base V n t E S op _ _ _ W hW ht
  rw [← HU.out] at hNn
  have HNN := Lib.hid hNn
  clear hNn
  go_enter Tryz.func56, Tryz.ntmps56
  go_wp2_with fail
  refine (HNN.out _ hV0).mono ?_; rintro e w1 ⟨rfl, rfl⟩
  clear a0 a1 a2 a3 a4 af0 af1 af2 af3 af4 b0 b1 b2 b3 b4 bf0 bf1 bf2 bf3 bf4
  have hT := hV0.setT (t + 1)
  rw [← HU.out] at hT
  have hX1 := (Below.heap_setCell (w.alloc (.cells #[.int .i64 4, .string tx, .int .i64 0] 62)) ⟨V, 3, none⟩ (.int .i64 u) w.heap.size (fun e => hBn e.symm)).trans hX0
  have hO1 := hO0.next hT.2 (fun i _ h => h)
  have hns : ¬ cS V (.slice pi E.length ci) (.slice pc ms.length cc) (.slice po op.length co) w.heap.size := fun hv => by have := (HLT.out _ hv).2; omega
  have hC1 := hT.1
  clear hT
  generalize (w.alloc (.cells #[.int .i64 4, .string tx, .int .i64 0] 62)).setCell ⟨V, 3, none⟩ (.int .i64 u) = W1 at *
  have hX2 := setCell_heap W1 w.heap.size 2 _ _ (.int .i64 u) hX1
  have hX2 : (W1.setCell ⟨w.heap.size, 2, none⟩ (.int .i64 u)).heap[w.heap.size]? = some (.cells #[.int .i64 4, .string tx, .int .i64 u] 62 (0, 0)) := hX2
  have hO2 := hO1.setNew (p := ⟨w.heap.size, 2, none⟩) (Nat.le_refl _) (.int .i64 u)
  have hC2 := hC1.setOther (a := ⟨w.heap.size, 2, none⟩) hns (.int .i64 u)
  obtain ⟨g0, g1, g2, g3, g4, g5⟩ := cells_item hX1
  go_upto_region 12 with fail
  change Code.wp _ _ _ _ (W1.setCell ⟨w.heap.size, 2, none⟩ (.int .i64 u))
  clear g0 g1 g2 g3 g4 g5
  generalize W1.setCell ⟨w.heap.size, 2, none⟩ (.int .i64 u) = W at *
  have HC := Lib.hid hC2
  have hX := hX2
  have HO := Lib.hid hO2
  have HL : Hid (∀ i, cS V (.slice pi E.length ci) (.slice pc ms.length cc) (.slice po op.length co) i → cS V (.slice pi E.length ci) (.slice pc ms.length cc) (.slice po op.length co) i ∨ w.heap.size + 1 ≤ i) := Lib.hid (fun i hi => .inl hi)
  clear hV0 hX0 hO0 hC1 hO1 hX1 hC2 hO2 hX2 hns
  obtain ⟨a0, a1, a2, a3, a4, af0, af1, af2, af3, af4⟩ := HC.out.cells
  obtain ⟨b0, b1, b2, b3, b4, b5⟩ := cells_item hX
  go_upto_region 14 with fail
  clear a0 a1 a2 a3 a4 af0 af1 af2 af3 af4 b0 b1 b2 b3 b4 b5
  have hz := HC.out.setN (n + 1)
  have hX13 := (Below.heap_setCell W ⟨V, 2, none⟩ (.int .i64 ((n + 1 : Nat) : Int)) w.heap.size (fun e => hBn e.symm)).trans hX
  have HO13 := Lib.hid (HO.out.next hz.2 (fun i hi hS => by
    rcases HL.out i hS with h | h
    · exact h
    · omega))
  have HC13 := Lib.hid hz.1
  clear hz
  change Code.wp _ _ _ _ (W.setCell ⟨V, 2, none⟩ (.int .i64 ((n + 1 : Nat) : Int)))
  generalize W.setCell ⟨V, 2, none⟩ (.int .i64 ((n + 1 : Nat) : Int)) = W3 at *
  rw [← HLM.out] at HC13
  have hVA := (HC13.out.alloc (.cells #[.int .i64 4, .string tx, .int .i64 u] 62)).drew
  have HV := Lib.hid hVA
  have hsz6 : base ≤ ((W3.alloc (.cells #[.int .i64 4, .string tx, .int .i64 u] 62)).drew).heap.size := by have := HO13.out.size; simp [World.drew]; omega
  have hXlt := (Array.getElem?_eq_some_iff.1 hX13).1
  obtain ⟨y0, y1, y2, y3, y4, yf0, yf1, yf2, yf3, yf4⟩ := hVA.cells
  obtain ⟨z0, z1, z2, z3, z4, zf0, zf1, zf2, zf3, zf4⟩ := HC13.out.cells
  obtain ⟨t0, t1, t2, _, _, _⟩ := cells_item hX13
  have hXA : (W3.alloc (.cells #[.int .i64 4, .string tx, .int .i64 u] 62)).heap[w.heap.size]? = some (.cells #[.int .i64 4, .string tx, .int .i64 u] 62 (0, 0)) := (Lib.alloc_old W3 _ _ hXlt).trans hX13
  obtain ⟨s0, s1, s2, _, _, _⟩ := cells_item hXA
  have HO6 := Lib.hid hVA.own
  clear hVA hXA
  go_region_law (refine step_app eI _ (by rfl) _ _ (by rfl) base E _ (by rfl) HO6.out hsz6 (⟨4, tx, u⟩ : It) _ _ (by rfl) (heap_alloc_new W3 (.cells #[.int .i64 4, .string tx, .int .i64 u] 62)) (by rfl) (by omega) (by unfold maxLen; omega) ?_; intro g cap w5 hO5 hg5 hl5; obtain ⟨d0, d1, d2, d3, d4, k0, k1, k2, k3, k4⟩ := HV.out.past hg5 HV.out.de)
  all_goals
    (have hs5 := HV.out.setE (E' := E ++ [(⟨4, tx, u⟩ : It)]) hg5 hO5 (fun i hi => by injection hi with hi; subst hi; rcases hl5 with e | e; exact .inl e; exact .inr (Nat.le_of_eq e.symm))
     have HS := Lib.hid hs5.1
     have HB := Lib.hid ((HO13.out.trans (Only.of_below ((blw (Below.refl _ W3) (.cells #[.int .i64 4, .string tx, .int .i64 u] 62)).drew))).next hs5.2 (fun i hi hS => by
       rcases HL.out i hS with h | h
       · exact h
       · omega))
     have HL5 : Hid (∀ i, cS V (.slice (some ⟨g, 0, none⟩) (E.length + 1) cap) (.slice pc ms.length cc) (.slice po op.length co) i → cS V (.slice pi E.length ci) (.slice pc ms.length cc) (.slice po op.length co) i ∨ w.heap.size ≤ i) := Lib.hid (fun i hi => by
       rcases hi with rfl | hi | hi
       · exact .inl (.inl rfl)
       · injection hi with hi; subst hi
         rcases hl5 with e | e
         · exact .inl (.inr (.inl e))
         · exact .inr (by rw [e]; have := HO13.out.size; simp [World.drew]; omega)
       · rcases HL.out i (.inr (.inr hi)) with h | h
         · exact .inl h
         · exact .inr (by omega))
     clear hs5 hO5 hg5 hl5 d0 d1 d2 d3 d4 k0 k1 k2 k3 k4 y0 y1 y2 y3 y4 yf0 yf1 yf2 yf3 yf4 z0 z1 z2 z3 z4 zf0 zf1 zf2 zf3 zf4 t0 t1 t2 s0 s1 s2 hXlt hX13 hX
     generalize hw6 : World.setCell _ ⟨V, 0, none⟩ _ = w6 at *
     clear hw6
     obtain ⟨c0, c1, c2, c3, c4, cf0, cf1, cf2, cf3, cf4⟩ := HS.out.cells
     have hV7 := HS.out.alloc (.cells #[.int .i64 (q : Int)] 3)
     obtain ⟨e0, e1, e2, e3, e4, ef0, ef1, ef2, ef3, ef4⟩ := hV7.cells
     have HV7 := Lib.hid hV7
     have hsz7 : base ≤ (w6.alloc (.cells #[.int .i64 (q : Int)] 3)).heap.size := by have := HB.out.size; simp; omega
     have hcut7 := hV7.cut
     rw [HMM.out] at hcut7
     have HC7 := Lib.hid hcut7
     clear hV7 hcut7
     go_upto_region 15 with fail
     go_upto_region 16 with (at_builtin; refine wpl_app eN _ rfl _ _ rfl base ms _ rfl HC7.out hsz7 (q : Int) w6.heap.size _ rfl (heap_alloc_new w6 _) rfl (by omega) (by unfold maxLen; omega) ?_; intro g2 CP w8 hown8 hgr8 hloc8; obtain ⟨d0, d1, d2, d3, d4, k0, k1, k2, k3, k4⟩ := HV7.out.past hgr8 HV7.out.ds)
     have hs8 := HV7.out.setS (S' := S ++ [q]) hgr8 (by rw [HMS.out]; exact hown8) (fun i hi => by injection hi with hi; subst hi; rcases hloc8 with e | e; exact .inl e; exact .inr (Nat.le_of_eq e.symm))
     have HS8 := Lib.hid hs8.1
     have HB8 := Lib.hid ((HB.out.alloc (.cells #[.int .i64 (q : Int)] 3)).next hs8.2 (fun i hi hS => by
       rcases HL5.out i hS with h | h
       · exact h
       · omega))
     have HL8 : Hid (∀ i, cS V (.slice (some ⟨g, 0, none⟩) (E.length + 1) cap) (.slice (some ⟨g2, 0, none⟩) (ms.length + 1) CP) (.slice po op.length co) i → cS V (.slice pi E.length ci) (.slice pc ms.length cc) (.slice po op.length co) i ∨ w.heap.size ≤ i) := Lib.hid (fun i hi => by
       rcases hi with rfl | hi | hi | hi
       · exact .inl (.inl rfl)
       · exact HL5.out i (.inr (.inl hi))
       · injection hi with hi; subst hi
         rcases hloc8 with e | e
         · exact .inl (.inr (.inr (.inl e)))
         · exact .inr (by rw [e]; have := HB.out.size; simp; omega)
       · exact HL5.out i (.inr (.inr (.inr hi))))
     clear hs8 hown8 hgr8 hloc8 d0 d1 d2 d3 d4 k0 k1 k2 k3 k4 c0 c1 c2 c3 c4 cf0 cf1 cf2 cf3 cf4 e0 e1 e2 e3 e4 ef0 ef1 ef2 ef3 ef4 hsz7
     generalize hw9 : World.setCell _ ⟨V, 1, none⟩ _ = w9 at *
     clear hw9
     obtain ⟨c0, c1, c2, c3, c4, cf0, cf1, cf2, cf3, cf4⟩ := HS8.out.cells
     by_cases c5 : n1 ≤ 512
     · have q5 : (n1 : Int) ≤ 512 := by omega
       by_cases c6 : E.length ≤ 1023
       · have q6 : (E.length : Int) ≤ 1023 := by omega
         go_wp2_with fail
         go_ret
         exact ⟨by rw [← HRR.out, if_neg (by omega)]; rfl, _, _, _, HS8.out, HB8.out, HL8.out⟩
       · have q6 : ¬ (E.length : Int) ≤ 1023 := by omega
         go_wp2_with fail
         go_ret
         exact ⟨by rw [← HRR.out, if_pos (by omega)]; rfl, _, _, _, HS8.out, HB8.out, HL8.out⟩
     · have q5 : ¬ (n1 : Int) ≤ 512 := by omega
       go_wp2_with fail
       go_ret
       exact ⟨by rw [← HRR.out, if_pos (by omega)]; rfl, _, _, _, HS8.out, HB8.out, HL8.out⟩)
set_option maxHeartbeats 3200000 in
theorem add_open (base V n t : Nat) (E : List It) (S : List Nat) (op : List It) (vE vS vO : Value) (tx : ByteArray) (q : Nat) (w : World) (h : Cnt base V E S n t op vE vS vO w) (hbw : base ≤ w.heap.size) (hxs : ∀ y ∈ E, SmE y) (htx : tx.size ≤ 1024) (hn : n = (norm E).length) (hl : E.length ≤ 1024) (hc : S.length ≤ 1024) (hn5 : n ≤ 512) (ht : t ≤ 1000000) (hop : op.length ≤ 1000000) :
    Calls Tryz.prog 56 #[.pointer (some ⟨V, 0, none⟩), .agg #[.int .i64 2, .string tx, .int .i64 0], .int .i64 (q : Int)] w (EndA1 base V E S vE vS vO q (⟨2, tx, ((t + 1 : Nat) : Int)⟩ : It) (op ++ [(⟨2, tx, ((t + 1 : Nat) : Int)⟩ : It)]) (t + 1) w) := by
  obtain ⟨u, hu⟩ : ∃ u : Int, u = ((t + 1 : Nat) : Int) := ⟨_, rfl⟩
  rw [← hu]
  have HU := Lib.hid hu
  clear hu
  have hlm := len_more E (⟨2, tx, u⟩ : It) hxs (.inr ⟨(by decide : (2 : Int) ≠ 1), htx⟩)
  rw [if_neg (fun h => absurd h.1 (by decide : (2 : Int) ≠ 1)), ← hn] at hlm
  clear hn hxs
  unfold EndA1
  generalize (norm (E ++ [(⟨2, tx, u⟩ : It)])).length = n1 at *
  generalize hr : (if 512 < n1 ∨ 1024 ≤ E.length then (3 : Int) else 0) = r
  have HRR := Lib.hid hr
  clear hr
  obtain ⟨pi, ci, rfl, hi1, hi2, _⟩ := h.own.its
  obtain ⟨pc, cc, rfl, hc1, hc2, _⟩ := h.cut.ints
  obtain ⟨po, co, rfl, ho1, ho2, _⟩ := h.opn.its
  have hml := nI_len S
  have hbV := (h.lt V (.inl rfl)).2
  have hBn : V ≠ w.heap.size := by omega
  have hV0 := h.alloc (.cells #[.int .i64 2, .string tx, .int .i64 0] 62)
  have hO0 : Only (cS V (.slice pi E.length ci) (.slice pc (nI S).length cc) (.slice po op.length co)) w (w.alloc (.cells #[.int .i64 2, .string tx, .int .i64 0] 62)) := Only.of_below (blw (Below.refl _ _) _)
  have hX0 := heap_alloc_new w (.cells #[.int .i64 2, .string tx, .int .i64 0] 62)
  have hms : nI (S ++ [q]) = nI S ++ [(q : Int)] := nI_snoc S q
  have HLT := Lib.hid h.lt
  have HLM := Lib.hid hlm
  generalize hmm : nI S = ms at *
  have HMS := Lib.hid hms
  have HMM := Lib.hid hmm
  have hm5 : ms.length ≤ 1024 := by omega
  have hn9 : (n : Int) ≤ 512 := by omega
  clear hms hml hmm hlm
  obtain ⟨a0, a1, a2, a3, a4, af0, af1, af2, af3, af4⟩ := h.cells
  obtain ⟨b0, b1, b2, b3, b4, bf0, bf1, bf2, bf3, bf4⟩ := hV0.cells
  have hNn := fun W (hW : Cnt base V E S n t op (.slice pi E.length ci) (.slice pc ms.length cc) (.slice po op.length co) W) => nextnum_any base V n t E S op _ _ _ W hW ht
  rw [← HU.out] at hNn
  have HNN := Lib.hid hNn
  clear hNn
  go_enter Tryz.func56, Tryz.ntmps56
  go_wp2_with fail
  refine (HNN.out _ hV0).mono ?_; rintro e w1 ⟨rfl, rfl⟩
  clear a0 a1 a2 a3 a4 af0 af1 af2 af3 af4 b0 b1 b2 b3 b4 bf0 bf1 bf2 bf3 bf4
  have hT := hV0.setT (t + 1)
  rw [← HU.out] at hT
  have hX1 := (Below.heap_setCell (w.alloc (.cells #[.int .i64 2, .string tx, .int .i64 0] 62)) ⟨V, 3, none⟩ (.int .i64 u) w.heap.size (fun e => hBn e.symm)).trans hX0
  have hO1 := hO0.next hT.2 (fun i _ h => h)
  have hns : ¬ cS V (.slice pi E.length ci) (.slice pc ms.length cc) (.slice po op.length co) w.heap.size := fun hv => by have := (HLT.out _ hv).2; omega
  have hC1 := hT.1
  clear hT
  generalize (w.alloc (.cells #[.int .i64 2, .string tx, .int .i64 0] 62)).setCell ⟨V, 3, none⟩ (.int .i64 u) = W1 at *
  have hX2 := setCell_heap W1 w.heap.size 2 _ _ (.int .i64 u) hX1
  have hX2 : (W1.setCell ⟨w.heap.size, 2, none⟩ (.int .i64 u)).heap[w.heap.size]? = some (.cells #[.int .i64 2, .string tx, .int .i64 u] 62 (0, 0)) := hX2
  have hO2 := hO1.setNew (p := ⟨w.heap.size, 2, none⟩) (Nat.le_refl _) (.int .i64 u)
  have hC2 := hC1.setOther (a := ⟨w.heap.size, 2, none⟩) hns (.int .i64 u)
  obtain ⟨g0, g1, g2, g3, g4, g5⟩ := cells_item hX1
  go_upto_region 4 with fail
  change Code.wp _ _ _ _ (W1.setCell ⟨w.heap.size, 2, none⟩ (.int .i64 u))
  clear g0 g1 g2 g3 g4 g5
  generalize W1.setCell ⟨w.heap.size, 2, none⟩ (.int .i64 u) = W4 at *
  have HC4 := Lib.hid hC2
  have HO4 := Lib.hid hO2
  clear hV0 hX0 hO0 hC1 hO1 hX1 hC2 hO2 hns
  have hVA := (HC4.out.alloc (.cells #[.int .i64 2, .string tx, .int .i64 u] 62)).drew
  have HV := Lib.hid hVA
  have hsz6 : base ≤ ((W4.alloc (.cells #[.int .i64 2, .string tx, .int .i64 u] 62)).drew).heap.size := by have := HO4.out.size; simp [World.drew]; omega
  have hXlt := (Array.getElem?_eq_some_iff.1 hX2).1
  obtain ⟨y0, y1, y2, y3, y4, yf0, yf1, yf2, yf3, yf4⟩ := hVA.cells
  obtain ⟨z0, z1, z2, z3, z4, zf0, zf1, zf2, zf3, zf4⟩ := HC4.out.cells
  obtain ⟨t0, t1, t2, _, _, _⟩ := cells_item hX2
  have hXA : ((W4.alloc (.cells #[.int .i64 2, .string tx, .int .i64 u] 62)).drew).heap[w.heap.size]? = some (.cells #[.int .i64 2, .string tx, .int .i64 u] 62 (0, 0)) := (Lib.alloc_old W4 _ _ hXlt).trans hX2
  obtain ⟨s0, s1, s2, _, _, _⟩ := cells_item ((Lib.alloc_old W4 (.cells #[.int .i64 2, .string tx, .int .i64 u] 62) _ hXlt).trans hX2)
  have HO6 := Lib.hid hVA.opn
  clear hVA
  go_region_law (refine step_app eI _ (by rfl) _ _ (by rfl) base op _ (by rfl) HO6.out hsz6 (⟨2, tx, u⟩ : It) _ _ (by rfl) (heap_alloc_new W4 (.cells #[.int .i64 2, .string tx, .int .i64 u] 62)) (by rfl) (by omega) (by unfold maxLen; omega) ?_; intro g4 cap4 w5 hO5 hg5 hl5; obtain ⟨d0, d1, d2, d3, d4, k0, k1, k2, k3, k4⟩ := HV.out.past hg5 HV.out.dO)
  all_goals
    (have hs5 := HV.out.setO (op' := op ++ [(⟨2, tx, u⟩ : It)]) hg5 hO5 (fun i hi => by injection hi with hi; subst hi; rcases hl5 with e | e; exact .inl e; exact .inr (Nat.le_of_eq e.symm))
     have hXne : (Value.slice po op.length co).ownBlock ≠ some w.heap.size := fun e => by have := (HLT.out w.heap.size (.inr (.inr (.inr e)))).2; omega
     have hX5 := (hg5.block w.heap.size (Array.getElem?_eq_some_iff.1 hXA).1 (fun e => hXne e.symm)).trans hXA
     have hX6 := fun v => (Below.heap_setCell w5 ⟨V, 4, none⟩ v w.heap.size (fun e => hBn e.symm)).trans hX5
     have hO6 := (HO4.out.trans (Only.of_below ((blw (Below.refl _ W4) (.cells #[.int .i64 2, .string tx, .int .i64 u] 62)).drew))).next hs5.2 (fun i hi hS => hS)
     have hC6 := hs5.1
     have hX7 := hX6 (.slice (some ⟨g4, 0, none⟩) (op.length + 1) cap4)
     have HL : Hid (∀ i, cS V (.slice pi E.length ci) (.slice pc ms.length cc) (.slice (some ⟨g4, 0, none⟩) (op.length + 1) cap4) i → cS V (.slice pi E.length ci) (.slice pc ms.length cc) (.slice po op.length co) i ∨ w.heap.size + 1 ≤ i) := Lib.hid (fun i hi => by
       rcases hi with rfl | hi | hi | hi
       · exact .inl (.inl rfl)
       · exact .inl (.inr (.inl hi))
       · exact .inl (.inr (.inr (.inl hi)))
       · injection hi with hi; subst hi
         rcases hl5 with e | e
         · exact .inl (.inr (.inr (.inr e)))
         · exact .inr (by rw [e]; simp [World.drew]; omega))
     clear hs5 hO5 hg5 hl5 d0 d1 d2 d3 d4 k0 k1 k2 k3 k4 y0 y1 y2 y3 y4 yf0 yf1 yf2 yf3 yf4 z0 z1 z2 z3 z4 zf0 zf1 zf2 zf3 zf4 t0 t1 t2 s0 s1 s2 hXlt hX2 hXA hX5 hX6 hXne hsz6 HO6
     generalize hw6 : World.setCell _ ⟨V, 4, none⟩ _ = W at *
     clear hw6 HV
     have HC := Lib.hid hC6
     have HO := Lib.hid hO6
     have hX := hX7
     clear hC6 hO6 hX7
     obtain ⟨a0, a1, a2, a3, a4, af0, af1, af2, af3, af4⟩ := HC.out.cells
     obtain ⟨b0, b1, b2, b3, b4, b5⟩ := cells_item hX
     go_upto_region 14 with fail
     clear a0 a1 a2 a3 a4 af0 af1 af2 af3 af4 b0 b1 b2 b3 b4 b5
     have hz := HC.out.setN (n + 1)
     have hX13 := (Below.heap_setCell W ⟨V, 2, none⟩ (.int .i64 ((n + 1 : Nat) : Int)) w.heap.size (fun e => hBn e.symm)).trans hX
     have HO13 := Lib.hid (HO.out.next hz.2 (fun i hi hS => by
       rcases HL.out i hS with h | h
       · exact h
       · omega))
     have HC13 := Lib.hid hz.1
     clear hz
     change Code.wp _ _ _ _ (W.setCell ⟨V, 2, none⟩ (.int .i64 ((n + 1 : Nat) : Int)))
     generalize W.setCell ⟨V, 2, none⟩ (.int .i64 ((n + 1 : Nat) : Int)) = W3 at *
     rw [← HLM.out] at HC13
     have hVA := (HC13.out.alloc (.cells #[.int .i64 2, .string tx, .int .i64 u] 62)).drew
     have HV := Lib.hid hVA
     have hsz6 : base ≤ ((W3.alloc (.cells #[.int .i64 2, .string tx, .int .i64 u] 62)).drew).heap.size := by have := HO13.out.size; simp [World.drew]; omega
     have hXlt := (Array.getElem?_eq_some_iff.1 hX13).1
     obtain ⟨y0, y1, y2, y3, y4, yf0, yf1, yf2, yf3, yf4⟩ := hVA.cells
     obtain ⟨z0, z1, z2, z3, z4, zf0, zf1, zf2, zf3, zf4⟩ := HC13.out.cells
     obtain ⟨t0, t1, t2, _, _, _⟩ := cells_item hX13
     have hXA : (W3.alloc (.cells #[.int .i64 2, .string tx, .int .i64 u] 62)).heap[w.heap.size]? = some (.cells #[.int .i64 2, .string tx, .int .i64 u] 62 (0, 0)) := (Lib.alloc_old W3 _ _ hXlt).trans hX13
     obtain ⟨s0, s1, s2, _, _, _⟩ := cells_item hXA
     have HO6 := Lib.hid hVA.own
     clear hVA hXA
     go_region_law (refine step_app eI _ (by rfl) _ _ (by rfl) base E _ (by rfl) HO6.out hsz6 (⟨2, tx, u⟩ : It) _ _ (by rfl) (heap_alloc_new W3 (.cells #[.int .i64 2, .string tx, .int .i64 u] 62)) (by rfl) (by omega) (by unfold maxLen; omega) ?_; intro g cap w5 hO5 hg5 hl5; obtain ⟨d0, d1, d2, d3, d4, k0, k1, k2, k3, k4⟩ := HV.out.past hg5 HV.out.de)
     all_goals
       (have hs5 := HV.out.setE (E' := E ++ [(⟨2, tx, u⟩ : It)]) hg5 hO5 (fun i hi => by injection hi with hi; subst hi; rcases hl5 with e | e; exact .inl e; exact .inr (Nat.le_of_eq e.symm))
        have HS := Lib.hid hs5.1
        have HB := Lib.hid ((HO13.out.trans (Only.of_below ((blw (Below.refl _ W3) (.cells #[.int .i64 2, .string tx, .int .i64 u] 62)).drew))).next hs5.2 (fun i hi hS => by
          rcases HL.out i hS with h | h
          · exact h
          · omega))
        have HL5 : Hid (∀ i, cS V (.slice (some ⟨g, 0, none⟩) (E.length + 1) cap) (.slice pc ms.length cc) (.slice (some ⟨g4, 0, none⟩) (op.length + 1) cap4) i → cS V (.slice pi E.length ci) (.slice pc ms.length cc) (.slice po op.length co) i ∨ w.heap.size ≤ i) := Lib.hid (fun i hi => by
          rcases hi with rfl | hi | hi
          · exact .inl (.inl rfl)
          · injection hi with hi; subst hi
            rcases hl5 with e | e
            · exact .inl (.inr (.inl e))
            · exact .inr (by rw [e]; have := HO13.out.size; simp [World.drew]; omega)
          · rcases HL.out i (.inr (.inr hi)) with h | h
            · exact .inl h
            · exact .inr (by omega))
        clear hs5 hO5 hg5 hl5 d0 d1 d2 d3 d4 k0 k1 k2 k3 k4 y0 y1 y2 y3 y4 yf0 yf1 yf2 yf3 yf4 z0 z1 z2 z3 z4 zf0 zf1 zf2 zf3 zf4 t0 t1 t2 s0 s1 s2 hXlt hX13 hX
        generalize hw6 : World.setCell _ ⟨V, 0, none⟩ _ = w6 at *
        clear hw6
        obtain ⟨c0, c1, c2, c3, c4, cf0, cf1, cf2, cf3, cf4⟩ := HS.out.cells
        have hV7 := HS.out.alloc (.cells #[.int .i64 (q : Int)] 3)
        obtain ⟨e0, e1, e2, e3, e4, ef0, ef1, ef2, ef3, ef4⟩ := hV7.cells
        have HV7 := Lib.hid hV7
        have hsz7 : base ≤ (w6.alloc (.cells #[.int .i64 (q : Int)] 3)).heap.size := by have := HB.out.size; simp; omega
        have hcut7 := hV7.cut
        rw [HMM.out] at hcut7
        have HC7 := Lib.hid hcut7
        clear hV7 hcut7
        go_upto_region 15 with fail
        go_upto_region 16 with (at_builtin; refine wpl_app eN _ rfl _ _ rfl base ms _ rfl HC7.out hsz7 (q : Int) w6.heap.size _ rfl (heap_alloc_new w6 _) rfl (by omega) (by unfold maxLen; omega) ?_; intro g2 CP w8 hown8 hgr8 hloc8; obtain ⟨d0, d1, d2, d3, d4, k0, k1, k2, k3, k4⟩ := HV7.out.past hgr8 HV7.out.ds)
        have hs8 := HV7.out.setS (S' := S ++ [q]) hgr8 (by rw [HMS.out]; exact hown8) (fun i hi => by injection hi with hi; subst hi; rcases hloc8 with e | e; exact .inl e; exact .inr (Nat.le_of_eq e.symm))
        have HS8 := Lib.hid hs8.1
        have HB8 := Lib.hid ((HB.out.alloc (.cells #[.int .i64 (q : Int)] 3)).next hs8.2 (fun i hi hS => by
          rcases HL5.out i hS with h | h
          · exact h
          · omega))
        have HL8 : Hid (∀ i, cS V (.slice (some ⟨g, 0, none⟩) (E.length + 1) cap) (.slice (some ⟨g2, 0, none⟩) (ms.length + 1) CP) (.slice (some ⟨g4, 0, none⟩) (op.length + 1) cap4) i → cS V (.slice pi E.length ci) (.slice pc ms.length cc) (.slice po op.length co) i ∨ w.heap.size ≤ i) := Lib.hid (fun i hi => by
          rcases hi with rfl | hi | hi | hi
          · exact .inl (.inl rfl)
          · exact HL5.out i (.inr (.inl hi))
          · injection hi with hi; subst hi
            rcases hloc8 with e | e
            · exact .inl (.inr (.inr (.inl e)))
            · exact .inr (by rw [e]; have := HB.out.size; simp; omega)
          · exact HL5.out i (.inr (.inr (.inr hi))))
        clear hs8 hown8 hgr8 hloc8 d0 d1 d2 d3 d4 k0 k1 k2 k3 k4 c0 c1 c2 c3 c4 cf0 cf1 cf2 cf3 cf4 e0 e1 e2 e3 e4 ef0 ef1 ef2 ef3 ef4 hsz7
        generalize hw9 : World.setCell _ ⟨V, 1, none⟩ _ = w9 at *
        clear hw9
        obtain ⟨c0, c1, c2, c3, c4, cf0, cf1, cf2, cf3, cf4⟩ := HS8.out.cells
        by_cases c5 : n1 ≤ 512
        · have q5 : (n1 : Int) ≤ 512 := by omega
          by_cases c6 : E.length ≤ 1023
          · have q6 : (E.length : Int) ≤ 1023 := by omega
            go_wp2_with fail
            go_ret
            exact ⟨by rw [← HRR.out, if_neg (by omega)]; rfl, _, _, _, HS8.out, HB8.out, HL8.out⟩
          · have q6 : ¬ (E.length : Int) ≤ 1023 := by omega
            go_wp2_with fail
            go_ret
            exact ⟨by rw [← HRR.out, if_pos (by omega)]; rfl, _, _, _, HS8.out, HB8.out, HL8.out⟩
        · have q5 : ¬ (n1 : Int) ≤ 512 := by omega
          go_wp2_with fail
          go_ret
          exact ⟨by rw [← HRR.out, if_pos (by omega)]; rfl, _, _, _, HS8.out, HB8.out, HL8.out⟩))
end Go.Proofs.YtphkpokoeaagfaaGreatDoor
namespace Go.Proofs.YtphkpokoeaagfaaGreatDoor
open Go.ChangeShapes Go.WideShapes Go.ChangeAt Go.RowKit
set_option linter.unusedVariables false
set_option linter.unusedSimpArgs false
set_option maxRecDepth 100000

theorem list_end (l : List It) (h : 0 < l.length) : ∃ L z, l = L ++ [z] := by
  obtain ⟨L, z, ho, _⟩ := out_last l h
  exact ⟨L, z, ho⟩

set_option maxHeartbeats 3200000 in
theorem add_bad (base V n t : Nat) (E : List It) (S : List Nat) (op : List It) (vE vS vO : Value) (tx : ByteArray) (q : Nat) (w : World) (h : Cnt base V E S n t op vE vS vO w) (hbw : base ≤ w.heap.size) (hxs : ∀ y ∈ E, SmE y) (htx : tx.size ≤ 1024) (hn : n = (norm E).length) (hl : E.length ≤ 1024) (hc : S.length ≤ 1024) (hn5 : n ≤ 512) (ht : t ≤ 1000000) (hop : op.length ≤ 1000000) (hcl : Calls Tryz.prog 97 #[.pointer (some ⟨V, 0, none⟩), .string tx] (w.alloc (.cells #[.int .i64 3, .string tx, .int .i64 0] 62)) fun e w' => e = .returned (.tuple #[.agg #[.int .i64 0, .string ⟨#[]⟩, .int .i64 0], .bool false]) ∧ Below (w.alloc (.cells #[.int .i64 3, .string tx, .int .i64 0] 62)).heap.size (w.alloc (.cells #[.int .i64 3, .string tx, .int .i64 0] 62)) w') :
    Calls Tryz.prog 56 #[.pointer (some ⟨V, 0, none⟩), .agg #[.int .i64 3, .string tx, .int .i64 0], .int .i64 (q : Int)] w (EndA0 base V E S n t op vE vS vO w) := by
  have hbV := (h.lt V (.inl rfl)).2
  have hV0 := h.alloc (.cells #[.int .i64 3, .string tx, .int .i64 0] 62)
  have HCL := Lib.hid hcl
  have HV0 := Lib.hid hV0
  have hB := blw (Below.refl w.heap.size w) (.cells #[.int .i64 3, .string tx, .int .i64 0] 62)
  clear hcl hV0 h hn hxs
  go_enter Tryz.func56, Tryz.ntmps56
  go_wp2_with fail
  refine HCL.out.mono ?_; rintro e w1 ⟨rfl, hb⟩
  have HB1 := Lib.hid (blw (BelowOn hB hb) (.cells #[.int .i64 0, .string ⟨#[]⟩, .int .i64 0] 62))
  have HC1 := Lib.hid ((HV0.out.call hb).alloc (.cells #[.int .i64 0, .string ⟨#[]⟩, .int .i64 0] 62))
  clear hb hB
  go_wp2_with fail
  go_ret
  exact ⟨rfl, HC1.out, HB1.out⟩
set_option maxHeartbeats 3200000 in
theorem add_close (base V n t : Nat) (E : List It) (S : List Nat) (op : List It) (z : It) (vE vS vO : Value) (tx : ByteArray) (q : Nat) (w : World) (h : Cnt base V E S n t (op ++ [z]) vE vS vO w) (hbw : base ≤ w.heap.size) (hxs : ∀ y ∈ E, SmE y) (htx : tx.size ≤ 1024) (hn : n = (norm E).length) (hl : E.length ≤ 1024) (hc : S.length ≤ 1024) (hn5 : n ≤ 512) (ht : t ≤ 1000000) (hop : op.length ≤ 1000000) (hz : z.t.size ≤ 1024) (hzt : nameB z.t = tx) :
    Calls Tryz.prog 56 #[.pointer (some ⟨V, 0, none⟩), .agg #[.int .i64 3, .string tx, .int .i64 0], .int .i64 (q : Int)] w (EndA1 base V E S vE vS vO q (⟨3, tx, z.id⟩ : It) op t w) := by
  have hlm := len_more E (⟨3, tx, z.id⟩ : It) hxs (.inr ⟨(by decide : (3 : Int) ≠ 1), htx⟩)
  rw [if_neg (fun h => absurd h.1 (by decide : (3 : Int) ≠ 1)), ← hn] at hlm
  clear hn hxs
  unfold EndA1
  generalize (norm (E ++ [(⟨3, tx, z.id⟩ : It)])).length = n1 at *
  generalize hr : (if 512 < n1 ∨ 1024 ≤ E.length then (3 : Int) else 0) = r
  have HRR := Lib.hid hr
  clear hr
  obtain ⟨pi, ci, rfl, hi1, hi2, _⟩ := h.own.its
  obtain ⟨pc, cc, rfl, hc1, hc2, _⟩ := h.cut.ints
  obtain ⟨gO, co, _, rfl, _⟩ := h.opn.row (by simp)
  have hmz : (op ++ [z]).length = op.length + 1 := by simp
  rw [hmz] at h ⊢
  clear hmz
  have hml := nI_len S
  have hbV := (h.lt V (.inl rfl)).2
  have hBn : V ≠ w.heap.size := by omega
  have hV0 := h.alloc (.cells #[.int .i64 3, .string tx, .int .i64 0] 62)
  have hO0 : Only (cS V (.slice pi E.length ci) (.slice pc (nI S).length cc) (.slice (some ⟨gO, 0, none⟩) (op.length + 1) co)) w (w.alloc (.cells #[.int .i64 3, .string tx, .int .i64 0] 62)) := Only.of_below (blw (Below.refl _ _) _)
  have hX0 := heap_alloc_new w (.cells #[.int .i64 3, .string tx, .int .i64 0] 62)
  have hms : nI (S ++ [q]) = nI S ++ [(q : Int)] := nI_snoc S q
  have HLT := Lib.hid h.lt
  have HLM := Lib.hid hlm
  generalize hmm : nI S = ms at *
  have HMS := Lib.hid hms
  have HMM := Lib.hid hmm
  have hm5 : ms.length ≤ 1024 := by omega
  have hn9 : (n : Int) ≤ 512 := by omega
  clear hms hml hmm hlm
  obtain ⟨a0, a1, a2, a3, a4, af0, af1, af2, af3, af4⟩ := h.cells
  obtain ⟨b0, b1, b2, b3, b4, bf0, bf1, bf2, bf3, bf4⟩ := hV0.cells
  have hK := close_ok base V n t E S op z (.slice pi E.length ci) (.slice pc ms.length cc) gO (op.length + 1) co (w.alloc (.cells #[.int .i64 3, .string tx, .int .i64 0] 62)) hV0 (by simp; omega) (by unfold maxLen; omega) (by omega)
  rw [hzt] at hK
  have HK := Lib.hid hK
  clear hK
  go_enter Tryz.func56, Tryz.ntmps56
  go_wp2_with fail
  refine HK.out.mono ?_; rintro e w1 ⟨rfl, hC1, hO1⟩
  clear a0 a1 a2 a3 a4 af0 af1 af2 af3 af4 b0 b1 b2 b3 b4 bf0 bf1 bf2 bf3 bf4
  have hns : ¬ cS V (.slice pi E.length ci) (.slice pc ms.length cc) (.slice (some ⟨gO, 0, none⟩) (op.length + 1) co) w.heap.size := fun hv => by have := (HLT.out _ hv).2; omega
  have hX1 := (hO1.block _ (Array.getElem?_eq_some_iff.1 hX0).1 hns).trans hX0
  have hXlt := (Array.getElem?_eq_some_iff.1 hX1).1
  have hX2 := (Lib.alloc_old w1 (.cells #[.int .i64 z.k, .string z.t, .int .i64 z.id] 62) _ hXlt).trans hX1
  have hX3 := setCell_heap _ w.heap.size 2 _ _ (.int .i64 z.id) hX1
  have hX3 : (w1.setCell ⟨w.heap.size, 2, none⟩ (.int .i64 z.id)).heap[w.heap.size]? = some (.cells #[.int .i64 3, .string tx, .int .i64 z.id] 62 (0, 0)) := hX3
  have hX4 := (Lib.alloc_old (w1.setCell ⟨w.heap.size, 2, none⟩ (.int .i64 z.id)) (.cells #[.int .i64 z.k, .string z.t, .int .i64 z.id] 62) _ (Array.getElem?_eq_some_iff.1 hX3).1).trans hX3
  have hZ2 := heap_alloc_new w1 (.cells #[.int .i64 z.k, .string z.t, .int .i64 z.id] 62)
  obtain ⟨r0, r1, r2, _, _, _⟩ := cells_item hZ2
  obtain ⟨g0, g1, g2, g3, g4, g5⟩ := cells_item hX2
  have hO3 := ((hO0.trans hO1).setNew (p := ⟨w.heap.size, 2, none⟩) (Nat.le_refl _) (.int .i64 z.id)).alloc (.cells #[.int .i64 z.k, .string z.t, .int .i64 z.id] 62)
  have hC3 := (hC1.setOther (a := ⟨w.heap.size, 2, none⟩) hns (.int .i64 z.id)).alloc (.cells #[.int .i64 z.k, .string z.t, .int .i64 z.id] 62)
  obtain ⟨h0, h1, h2, h3, h4, h5⟩ := cells_item hX1
  go_upto_region 12 with fail
  change Code.wp _ _ _ _ ((w1.setCell ⟨w.heap.size, 2, none⟩ (.int .i64 z.id)).alloc (.cells #[.int .i64 z.k, .string z.t, .int .i64 z.id] 62))
  clear g0 g1 g2 g3 g4 g5 r0 r1 r2 hZ2 h0 h1 h2 h3 h4 h5
  generalize (w1.setCell ⟨w.heap.size, 2, none⟩ (.int .i64 z.id)).alloc (.cells #[.int .i64 z.k, .string z.t, .int .i64 z.id] 62) = W at *
  have HC := Lib.hid hC3
  have hX := hX4
  have HO := Lib.hid hO3
  have HL : Hid (∀ i, cS V (.slice pi E.length ci) (.slice pc ms.length cc) (.slice (some ⟨gO, 0, none⟩) op.length co) i → cS V (.slice pi E.length ci) (.slice pc ms.length cc) (.slice (some ⟨gO, 0, none⟩) (op.length + 1) co) i ∨ w.heap.size + 1 ≤ i) := Lib.hid (fun i hi => .inl hi)
  clear hV0 hX0 hO0 hC1 hO1 hX1 hC3 hO3 hX2 hX3 hX4 hXlt hns
  obtain ⟨a0, a1, a2, a3, a4, af0, af1, af2, af3, af4⟩ := HC.out.cells
  obtain ⟨b0, b1, b2, b3, b4, b5⟩ := cells_item hX
  go_upto_region 14 with fail
  clear a0 a1 a2 a3 a4 af0 af1 af2 af3 af4 b0 b1 b2 b3 b4 b5
  have hz := HC.out.setN (n + 1)
  have hX13 := (Below.heap_setCell W ⟨V, 2, none⟩ (.int .i64 ((n + 1 : Nat) : Int)) w.heap.size (fun e => hBn e.symm)).trans hX
  have HO13 := Lib.hid (HO.out.next hz.2 (fun i hi hS => by
    rcases HL.out i hS with h | h
    · exact h
    · omega))
  have HC13 := Lib.hid hz.1
  clear hz
  change Code.wp _ _ _ _ (W.setCell ⟨V, 2, none⟩ (.int .i64 ((n + 1 : Nat) : Int)))
  generalize W.setCell ⟨V, 2, none⟩ (.int .i64 ((n + 1 : Nat) : Int)) = W3 at *
  rw [← HLM.out] at HC13
  have hVA := (HC13.out.alloc (.cells #[.int .i64 3, .string tx, .int .i64 z.id] 62)).drew
  have HV := Lib.hid hVA
  have hsz6 : base ≤ ((W3.alloc (.cells #[.int .i64 3, .string tx, .int .i64 z.id] 62)).drew).heap.size := by have := HO13.out.size; simp [World.drew]; omega
  have hXlt := (Array.getElem?_eq_some_iff.1 hX13).1
  obtain ⟨y0, y1, y2, y3, y4, yf0, yf1, yf2, yf3, yf4⟩ := hVA.cells
  obtain ⟨z0, z1, z2, z3, z4, zf0, zf1, zf2, zf3, zf4⟩ := HC13.out.cells
  obtain ⟨t0, t1, t2, _, _, _⟩ := cells_item hX13
  have hXA : (W3.alloc (.cells #[.int .i64 3, .string tx, .int .i64 z.id] 62)).heap[w.heap.size]? = some (.cells #[.int .i64 3, .string tx, .int .i64 z.id] 62 (0, 0)) := (Lib.alloc_old W3 _ _ hXlt).trans hX13
  obtain ⟨s0, s1, s2, _, _, _⟩ := cells_item hXA
  have HO6 := Lib.hid hVA.own
  clear hVA hXA
  go_region_law (refine step_app eI _ (by rfl) _ _ (by rfl) base E _ (by rfl) HO6.out hsz6 (⟨3, tx, z.id⟩ : It) _ _ (by rfl) (heap_alloc_new W3 (.cells #[.int .i64 3, .string tx, .int .i64 z.id] 62)) (by rfl) (by omega) (by unfold maxLen; omega) ?_; intro g cap w5 hO5 hg5 hl5; obtain ⟨d0, d1, d2, d3, d4, k0, k1, k2, k3, k4⟩ := HV.out.past hg5 HV.out.de)
  all_goals
    (have hs5 := HV.out.setE (E' := E ++ [(⟨3, tx, z.id⟩ : It)]) hg5 hO5 (fun i hi => by injection hi with hi; subst hi; rcases hl5 with e | e; exact .inl e; exact .inr (Nat.le_of_eq e.symm))
     have HS := Lib.hid hs5.1
     have HB := Lib.hid ((HO13.out.trans (Only.of_below ((blw (Below.refl _ W3) (.cells #[.int .i64 3, .string tx, .int .i64 z.id] 62)).drew))).next hs5.2 (fun i hi hS => by
       rcases HL.out i hS with h | h
       · exact h
       · omega))
     have HL5 : Hid (∀ i, cS V (.slice (some ⟨g, 0, none⟩) (E.length + 1) cap) (.slice pc ms.length cc) (.slice (some ⟨gO, 0, none⟩) op.length co) i → cS V (.slice pi E.length ci) (.slice pc ms.length cc) (.slice (some ⟨gO, 0, none⟩) (op.length + 1) co) i ∨ w.heap.size ≤ i) := Lib.hid (fun i hi => by
       rcases hi with rfl | hi | hi
       · exact .inl (.inl rfl)
       · injection hi with hi; subst hi
         rcases hl5 with e | e
         · exact .inl (.inr (.inl e))
         · exact .inr (by rw [e]; have := HO13.out.size; simp [World.drew]; omega)
       · rcases HL.out i (.inr (.inr hi)) with h | h
         · exact .inl h
         · exact .inr (by omega))
     clear hs5 hO5 hg5 hl5 d0 d1 d2 d3 d4 k0 k1 k2 k3 k4 y0 y1 y2 y3 y4 yf0 yf1 yf2 yf3 yf4 z0 z1 z2 z3 z4 zf0 zf1 zf2 zf3 zf4 t0 t1 t2 s0 s1 s2 hXlt hX13 hX
     generalize hw6 : World.setCell _ ⟨V, 0, none⟩ _ = w6 at *
     clear hw6
     obtain ⟨c0, c1, c2, c3, c4, cf0, cf1, cf2, cf3, cf4⟩ := HS.out.cells
     have hV7 := HS.out.alloc (.cells #[.int .i64 (q : Int)] 3)
     obtain ⟨e0, e1, e2, e3, e4, ef0, ef1, ef2, ef3, ef4⟩ := hV7.cells
     have HV7 := Lib.hid hV7
     have hsz7 : base ≤ (w6.alloc (.cells #[.int .i64 (q : Int)] 3)).heap.size := by have := HB.out.size; simp; omega
     have hcut7 := hV7.cut
     rw [HMM.out] at hcut7
     have HC7 := Lib.hid hcut7
     clear hV7 hcut7
     go_upto_region 15 with fail
     go_upto_region 16 with (at_builtin; refine wpl_app eN _ rfl _ _ rfl base ms _ rfl HC7.out hsz7 (q : Int) w6.heap.size _ rfl (heap_alloc_new w6 _) rfl (by omega) (by unfold maxLen; omega) ?_; intro g2 CP w8 hown8 hgr8 hloc8; obtain ⟨d0, d1, d2, d3, d4, k0, k1, k2, k3, k4⟩ := HV7.out.past hgr8 HV7.out.ds)
     have hs8 := HV7.out.setS (S' := S ++ [q]) hgr8 (by rw [HMS.out]; exact hown8) (fun i hi => by injection hi with hi; subst hi; rcases hloc8 with e | e; exact .inl e; exact .inr (Nat.le_of_eq e.symm))
     have HS8 := Lib.hid hs8.1
     have HB8 := Lib.hid ((HB.out.alloc (.cells #[.int .i64 (q : Int)] 3)).next hs8.2 (fun i hi hS => by
       rcases HL5.out i hS with h | h
       · exact h
       · omega))
     have HL8 : Hid (∀ i, cS V (.slice (some ⟨g, 0, none⟩) (E.length + 1) cap) (.slice (some ⟨g2, 0, none⟩) (ms.length + 1) CP) (.slice (some ⟨gO, 0, none⟩) op.length co) i → cS V (.slice pi E.length ci) (.slice pc ms.length cc) (.slice (some ⟨gO, 0, none⟩) (op.length + 1) co) i ∨ w.heap.size ≤ i) := Lib.hid (fun i hi => by
       rcases hi with rfl | hi | hi | hi
       · exact .inl (.inl rfl)
       · exact HL5.out i (.inr (.inl hi))
       · injection hi with hi; subst hi
         rcases hloc8 with e | e
         · exact .inl (.inr (.inr (.inl e)))
         · exact .inr (by rw [e]; have := HB.out.size; simp; omega)
       · exact HL5.out i (.inr (.inr (.inr hi))))
     clear hs8 hown8 hgr8 hloc8 d0 d1 d2 d3 d4 k0 k1 k2 k3 k4 c0 c1 c2 c3 c4 cf0 cf1 cf2 cf3 cf4 e0 e1 e2 e3 e4 ef0 ef1 ef2 ef3 ef4 hsz7
     generalize hw9 : World.setCell _ ⟨V, 1, none⟩ _ = w9 at *
     clear hw9
     obtain ⟨c0, c1, c2, c3, c4, cf0, cf1, cf2, cf3, cf4⟩ := HS8.out.cells
     by_cases c5 : n1 ≤ 512
     · have q5 : (n1 : Int) ≤ 512 := by omega
       by_cases c6 : E.length ≤ 1023
       · have q6 : (E.length : Int) ≤ 1023 := by omega
         go_wp2_with fail
         go_ret
         exact ⟨by rw [← HRR.out, if_neg (by omega)]; rfl, _, _, _, HS8.out, HB8.out, HL8.out⟩
       · have q6 : ¬ (E.length : Int) ≤ 1023 := by omega
         go_wp2_with fail
         go_ret
         exact ⟨by rw [← HRR.out, if_pos (by omega)]; rfl, _, _, _, HS8.out, HB8.out, HL8.out⟩
     · have q5 : ¬ (n1 : Int) ≤ 512 := by omega
       go_wp2_with fail
       go_ret
       exact ⟨by rw [← HRR.out, if_pos (by omega)]; rfl, _, _, _, HS8.out, HB8.out, HL8.out⟩)
theorem add_none (base V n t : Nat) (E : List It) (S : List Nat) (op : List It) (vE vS vO : Value) (x : It) (q : Nat) (w : World) (h : Cnt base V E S n t op vE vS vO w) (hbw : base ≤ w.heap.size) (hxs : ∀ y ∈ E, SmE y) (hx : One0 x) (hn : n = (norm E).length) (hl : E.length ≤ 1024) (hc : S.length ≤ 1024) (hn5 : n ≤ 512) (ht : t ≤ 1000000) (hop : op.length ≤ 1000000) (hz : ∀ z ∈ op, z.t.size ≤ 1024) (hm : numM op t x = none) :
    Calls Tryz.prog 56 #[.pointer (some ⟨V, 0, none⟩), .agg #[.int .i64 x.k, .string x.t, .int .i64 x.id], .int .i64 (q : Int)] w (EndA0 base V E S n t op vE vS vO w) := by
  obtain ⟨k, tx, id⟩ := x
  have hid : id = 0 := hx.1
  subst hid
  have htx : tx.size ≤ 1024 := hx.sm.small
  have hk : k = 3 := by
    unfold numM at hm
    split at hm
    · cases hm
    split at hm
    · cases hm
    split at hm
    · assumption
    · cases hm
  subst hk
  refine add_bad base V n t E S op vE vS vO tx q w h hbw hxs htx hn hl hc hn5 ht hop ?_
  have hV0 := h.alloc (.cells #[.int .i64 3, .string tx, .int .i64 0] 62)
  rcases Nat.lt_or_ge 0 op.length with hlo | hlo
  · obtain ⟨L, z, ho⟩ := list_end op hlo
    subst ho
    refine close_bad base V n t E S L z vE vS vO tx _ hV0 (by have := hz z (by simp); unfold maxLen; omega) (fun e => ?_) (by rw [List.length_append] at hop; omega)
    unfold numM at hm
    rw [if_neg (show ¬ (3 : Int) = 2 by decide), if_neg (show ¬ (3 : Int) = 4 by decide), if_pos rfl, List.getLast?_concat] at hm
    dsimp only at hm
    rw [if_pos e] at hm
    cases hm
  · obtain rfl := List.length_eq_zero_iff.1 (Nat.le_zero.1 hlo)
    exact close_nil base V n t E S vE vS vO tx _ hV0
theorem add_some (base V n t : Nat) (E : List It) (S : List Nat) (op : List It) (vE vS vO : Value) (x : It) (q : Nat) (w : World) (h : Cnt base V E S n t op vE vS vO w) (hbw : base ≤ w.heap.size) (hxs : ∀ y ∈ E, SmE y) (hx : One0 x) (hn : n = (norm E).length) (hl : E.length ≤ 1024) (hc : S.length ≤ 1024) (hn5 : n ≤ 512) (ht : t ≤ 1000000) (hop : op.length ≤ 1000000) (hz : ∀ z ∈ op, z.t.size ≤ 1024) (y : It) (op' : List It) (t' : Nat) (hm : numM op t x = some (y, op', t')) :
    Calls Tryz.prog 56 #[.pointer (some ⟨V, 0, none⟩), .agg #[.int .i64 x.k, .string x.t, .int .i64 x.id], .int .i64 (q : Int)] w (EndA1 base V E S vE vS vO q y op' t' w) := by
  obtain ⟨k, tx, id⟩ := x
  have hid : id = 0 := hx.1
  subst hid
  have htx : tx.size ≤ 1024 := hx.sm.small
  by_cases h2 : k = 2
  · subst h2
    have hm : some ((⟨2, tx, ((t + 1 : Nat) : Int)⟩ : It), op ++ [⟨2, tx, ((t + 1 : Nat) : Int)⟩], t + 1) = some (y, op', t') := hm
    injection hm with hm; injection hm with e1 hm; injection hm with e2 e3
    subst e1; subst e2; subst e3
    exact add_open base V n t E S op vE vS vO tx q w h hbw hxs htx hn hl hc hn5 ht hop
  by_cases h4 : k = 4
  · subst h4
    have hm : some ((⟨4, tx, ((t + 1 : Nat) : Int)⟩ : It), op, t + 1) = some (y, op', t') := hm
    injection hm with hm; injection hm with e1 hm; injection hm with e2 e3
    subst e1; subst e2; subst e3
    exact add_empty base V n t E S op vE vS vO tx q w h hbw hxs htx hn hl hc hn5 ht hop
  by_cases h3 : k = 3
  · subst h3
    unfold numM at hm
    rw [if_neg (show ¬ (3 : Int) = 2 by decide), if_neg (show ¬ (3 : Int) = 4 by decide), if_pos rfl] at hm
    rcases Nat.lt_or_ge 0 op.length with hlo | hlo
    · obtain ⟨L, z, ho⟩ := list_end op hlo
      subst ho
      rw [List.getLast?_concat, List.dropLast_concat] at hm
      dsimp only at hm
      split at hm
      · rename_i e
        injection hm with hm; injection hm with e1 hm; injection hm with e2 e3
        subst e1; subst e2; subst e3
        exact add_close base V n t E S L z vE vS vO tx q w h hbw hxs htx hn hl hc hn5 ht (by rw [List.length_append] at hop; omega) (hz z (by simp)) e
      · cases hm
    · obtain rfl := List.length_eq_zero_iff.1 (Nat.le_zero.1 hlo)
      cases hm
  · have hm0 : numM op t ⟨k, tx, 0⟩ = some (⟨k, tx, 0⟩, op, t) := by
      unfold numM; rw [if_neg h2, if_neg h4, if_neg h3]
    rw [hm0] at hm
    injection hm with hm; injection hm with e1 hm; injection hm with e2 e3
    subst e1; subst e2; subst e3
    rcases hx with ⟨_, ⟨h1, hs⟩ | ⟨h1, _⟩ | ⟨h1, _⟩⟩
    · have h1 : k = 1 := h1
      subst h1
      have hs : tx.size = 1 := hs
      cases hlt : lastText E
      · exact add_text0 base V n t E S op vE vS vO tx q w h hbw hxs htx hn hl hc hn5 ht hop hs hlt
      · exact add_text1 base V n t E S op vE vS vO tx q w h hbw hxs htx hn hl hc hn5 ht hop hs hlt
    · have h1 : k = 5 := h1
      subst h1
      exact add_slot base V n t E S op vE vS vO tx q w h hbw hxs htx hn hl hc hn5 ht hop
    · have h1 : isT k = true := h1
      unfold isT at h1
      simp at h1
      omega
end Go.Proofs.YtphkpokoeaagfaaGreatDoor
