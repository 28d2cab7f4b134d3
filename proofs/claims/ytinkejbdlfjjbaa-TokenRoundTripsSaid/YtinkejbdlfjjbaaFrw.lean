/- The generator of fragments: the walk. -/
import Derived.Test.YtinkejbdlfjjbaaFrg
namespace Go.Proofs.Ytinkejbdlfjjbaa
open Go.ChangeShapes Go.WideShapes Go.ChangeAt Go.RowKit
set_option linter.unusedVariables false
set_option linter.unusedSimpArgs false
set_option maxRecDepth 100000

set_option maxHeartbeats 6400000 in
theorem fragment_any (b : Nat) (pn : Option Addr) (cn : Nat) (L : List Int) (m : Nat) (tags nested : Bool) (n : Int) (N : Nat) (hnN : n = (N : Int)) (w : World) (h : NumsAt w b pn cn L m) (hlo : 0 < L.length → ∀ a, pn = some a → a.block < w.heap.size) (hm : m ≤ 100000) (hn : N ≤ 100) :
    Calls Try.prog 34 #[.pointer (some ⟨b, 0, none⟩), .int .i64 n, .bool tags, .bool nested] w fun e w' => ∃ v, e = .returned v ∧ w.grownBy w' (some b) ∧ NumsAt w' b pn cn L (fragG L tags nested m N).2 ∧ OwnI w.heap.size (fragG L tags nested m N).1 v w' := by
  subst hnN
  have h1 := fun W h => next_any b pn cn L m ((N : Int) + 1) (N + 1) (by omega) W h (by omega) (by omega) (by omega)
  have hi0 := nx_lt L m (N + 1) (by omega)
  generalize hG : fragG L tags nested m N = G at *
  unfold fragG startG at hG
  generalize nx L m (N + 1) = i0 at *
  generalize hF : runG L tags nested i0 ⟨[], [], 0, m + 1⟩ = F at *
  have H1 := Lib.hid h1; clear h1
  have HG := Lib.hid hG; clear hG
  have HF := Lib.hid hF; clear hF
  have hr0 : GRel b pn cn L w [] [] m (.slice none 0 0) (.slice none 0 0) w := ⟨h.lt, World.grownBy.refl _ _, h, OwnL.nil _ _, OwnL.nil _ _, fun k h => by simp [Value.ownBlock] at h, hlo⟩
  go_enter Try.func34, Try.ntmps34
  go_wp2_with fail
  refine (H1.out _ h).mono ?_
  rintro e w1 ⟨rfl, hg, hN⟩
  have hr1 := hr0.next hg hN
  clear hr0
  go_wp2_with fail
  go_loopw [9, 10, 11, 12] (fun vf vo vi i wr => ∃ (k n : Nat) (s : St), i = .int .i64 k ∧ vi = .int .i64 s.id ∧ (∃ p c, vf = .slice p s.f.length c) ∧ (∃ p c, vo = .slice p s.o.length c) ∧ k + n = i0 ∧ Sz (m + 1) s n ∧ GRel b pn cn L w s.f s.o s.m vf vo wr ∧ Hid (runG L tags nested k s = F)) (fun _ _ _ i _ => (intOf i).toNat)
  case atStart => exact ⟨i0, 0, ⟨[], [], 0, m + 1⟩, rfl, rfl, ⟨_, _, rfl⟩, ⟨_, _, rfl⟩, rfl, ⟨Nat.le_refl _, Nat.le_refl _, Nat.le_refl _, fun y hy => by (cases hy), Nat.le_refl _, Nat.le_refl _, Nat.le_refl _⟩, hr1, HF⟩
  case round =>
    obtain ⟨k, j, s, rfl, rfl, ⟨pf, cf, rfl⟩, ⟨po, co, rfl⟩, hkj, hz, hR, HL⟩ := hrel
    by_cases hlt : 0 < k
    · have q : decide (0 < (k : Int)) = true := decide_eq_true (by omega)
      obtain ⟨k, rfl⟩ : ∃ j, k = j + 1 := ⟨k - 1, by omega⟩
      have hz' := hz.step L tags nested
      have hzm := hz.m
      have hL := fun W h => line_any b pn cn L s.m 3 3 rfl W h (by omega) (by omega)
      have h8 := fun W h => next_any b pn cn L (lineF L s.m 3).2 8 8 rfl W h (by have := lineF_size L s.m 3; omega) (by omega) (by omega)
      obtain ⟨cI, hcI⟩ : ∃ z : Int, z = (nx L (lineF L s.m 3).2 8 : Int) := ⟨_, rfl⟩
      rw [← hcI] at h8
      have HL3 := Lib.hid hL; have H8 := Lib.hid h8; have HC := Lib.hid hcI
      clear hL h8 hcI
      go_wp2_with fail
      refine (HL3.out _ hR.nums).mono ?_
      rintro e w2 ⟨rfl, hg2, hN2⟩
      have hR2 := hR.next hg2 hN2
      go_wp2_with fail
      have hR3 := hR2.alloc (.cells #[.int .i64 1, .string (lineF L s.m 3).1, .int .i64 0] 27)
      have hbw := hR.base
      have hsz2 : w.heap.size ≤ w2.heap.size := hR2.chg.size
      refine (H8.out _ hR3.nums).mono ?_
      rintro e w3 ⟨rfl, hg3, hN3⟩
      have hR4 := hR3.next hg3 hN3
      have hB3 := (hg3.block w2.heap.size (by simp) (fun e => by injection e with e; omega)).trans (heap_alloc_new w2 _)
      have hfB : (Value.slice pf s.f.length cf).ownBlock ≠ some w2.heap.size := fun e => by have := (hR2.f.lt _ e).2; omega
      have hoB : (Value.slice po s.o.length co).ownBlock ≠ some w2.heap.size := fun e => by have := (hR2.o.lt _ e).2; omega
      have zB : w2.heap.size < w3.heap.size := by have := hg3.size; simp at this; omega
      generalize w2.heap.size = B at *
      clear hR3 hN3 hg3 hR2 hN2 hg2 HL3 H8
      go_upto_block 2 with fail
      go_cut [10, 11, 14] from 20 to 114 (fun vo' vi' _ wx => ∃ (x : It) (o' : List It) (id' m' : Nat), Hid (nextG L tags nested s.o s.id s.m = (x, o', id', m')) ∧ vi' = .int .i64 id' ∧ (∃ p c, vo' = .slice p o'.length c) ∧ GRel b pn cn L w s.f o' m' (.slice pf s.f.length cf) vo' wx ∧ wx.heap[B]? = some (.cells #[.int .i64 x.k, .string x.t, .int .i64 x.id] 27 (0, 0)))
      case first =>
        have hc8 : cI = 0 ∨ cI = 1 ∨ cI = 2 ∨ cI = 3 ∨ cI = 4 ∨ cI = 5 ∨ cI = 6 ∨ cI = 7 := by have := nx_lt L (lineF L s.m 3).2 8 (by omega); have := HC.out; omega
        have hlf := lineF_size L s.m 3
        have hzol := hz.ol
        have hzid := hz.id
        have h2 := fun W h => next_any b pn cn L ((lineF L s.m 3).2 + 1) 2 2 rfl W h (by omega) (by omega) (by omega)
        have h3 := fun W h => next_any b pn cn L ((lineF L s.m 3).2 + 1) 3 3 rfl W h (by omega) (by omega) (by omega)
        have H2 := Lib.hid h2; have H3 := Lib.hid h3; clear h2 h3
        rcases hc8 with rfl | rfl | rfl | rfl | rfl | rfl | rfl | rfl
        · have hk3 := nx_lt L ((lineF L s.m 3).2 + 1) 3 (by omega)
          have HN := Lib.hid (nextG_slot L tags nested s.o s.id s.m (by have := HC.out; omega))
          clear HL HC
          go_wp2_with fail
          refine (H3.out _ (hR4.alloc _).nums).mono ?_
          rintro e w5 ⟨rfl, hg5, hN5⟩
          have hrow := pick_row ((hg5.block w3.heap.size (by simp) (fun e => by injection e; omega)).trans (heap_alloc_new w3 _)) slotL rfl _ (nx_lt L ((lineF L s.m 3).2 + 1) 3 (by omega))
          have hB5 := (hg5.block B (by simp; omega) (fun e => by injection e; omega)).trans ((Lib.alloc_old w3 _ B zB).trans hB3)
          have hR5 := (hR4.alloc _).next hg5 hN5
          obtain ⟨_, _, _, f0, f1, f2⟩ := cells_item hB5
          have HB5 := Lib.hid hB5
          have zB5 : B < w5.heap.size := (Array.getElem?_eq_some_iff.1 hB5).1
          clear hB5
          go_wp2_with fail
          go_meet
          exact ⟨⟨5, pickB slotL (nx L ((lineF L s.m 3).2 + 1) 3), 0⟩, s.o, s.id, (lineF L s.m 3).2 + 1 + 1, HN, rfl, ⟨_, _, rfl⟩, hR5.set3 B hsz2 hfB hoB _ _ _, heap_set3 HB5.out⟩
        · have hk3 := nx_lt L ((lineF L s.m 3).2 + 1) 3 (by omega)
          have HN := Lib.hid (nextG_slot L tags nested s.o s.id s.m (by have := HC.out; omega))
          clear HL HC
          go_wp2_with fail
          refine (H3.out _ (hR4.alloc _).nums).mono ?_
          rintro e w5 ⟨rfl, hg5, hN5⟩
          have hrow := pick_row ((hg5.block w3.heap.size (by simp) (fun e => by injection e; omega)).trans (heap_alloc_new w3 _)) slotL rfl _ (nx_lt L ((lineF L s.m 3).2 + 1) 3 (by omega))
          have hB5 := (hg5.block B (by simp; omega) (fun e => by injection e; omega)).trans ((Lib.alloc_old w3 _ B zB).trans hB3)
          have hR5 := (hR4.alloc _).next hg5 hN5
          obtain ⟨_, _, _, f0, f1, f2⟩ := cells_item hB5
          have HB5 := Lib.hid hB5
          have zB5 : B < w5.heap.size := (Array.getElem?_eq_some_iff.1 hB5).1
          clear hB5
          go_wp2_with fail
          go_meet
          exact ⟨⟨5, pickB slotL (nx L ((lineF L s.m 3).2 + 1) 3), 0⟩, s.o, s.id, (lineF L s.m 3).2 + 1 + 1, HN, rfl, ⟨_, _, rfl⟩, hR5.set3 B hsz2 hfB hoB _ _ _, heap_set3 HB5.out⟩
        · cases tags
          · have HN := Lib.hid (nextG_text L false nested s.o s.id s.m (by have := HC.out; exact Or.inr (Or.inl ⟨by omega, by omega, rfl⟩)))
            clear HL HC
            go_wp2_with fail
            go_meet
            exact ⟨⟨1, (lineF L s.m 3).1, 0⟩, s.o, s.id, (lineF L s.m 3).2 + 1, HN, rfl, ⟨_, _, rfl⟩, hR4, hB3⟩
          have hk3 := nx_lt L ((lineF L s.m 3).2 + 1) 2 (by omega)
          have HN := Lib.hid (nextG_empty L true nested s.o s.id s.m (by have := HC.out; omega) rfl)
          clear HL HC
          go_wp2_with fail
          refine (H2.out _ (hR4.alloc _).nums).mono ?_
          rintro e w5 ⟨rfl, hg5, hN5⟩
          have hrow := pick_row ((hg5.block w3.heap.size (by simp) (fun e => by injection e; omega)).trans (heap_alloc_new w3 _)) emptyL rfl _ (nx_lt L ((lineF L s.m 3).2 + 1) 2 (by omega))
          have hB5 := (hg5.block B (by simp; omega) (fun e => by injection e; omega)).trans ((Lib.alloc_old w3 _ B zB).trans hB3)
          have hR5 := (hR4.alloc _).next hg5 hN5
          obtain ⟨_, _, _, f0, f1, f2⟩ := cells_item hB5
          have HB5 := Lib.hid hB5
          have zB5 : B < w5.heap.size := (Array.getElem?_eq_some_iff.1 hB5).1
          clear hB5
          go_wp2_with fail
          go_meet
          exact ⟨⟨4, pickB emptyL (nx L ((lineF L s.m 3).2 + 1) 2), (s.id + 1 : Nat)⟩, s.o, s.id + 1, (lineF L s.m 3).2 + 1 + 1, HN, rfl, ⟨_, _, rfl⟩, hR5.set3 B hsz2 hfB hoB _ _ _, heap_set3 HB5.out⟩
        · cases tags
          · have HN := Lib.hid (nextG_text L false nested s.o s.id s.m (by have := HC.out; exact Or.inr (Or.inl ⟨by omega, by omega, rfl⟩)))
            clear HL HC
            go_wp2_with fail
            go_meet
            exact ⟨⟨1, (lineF L s.m 3).1, 0⟩, s.o, s.id, (lineF L s.m 3).2 + 1, HN, rfl, ⟨_, _, rfl⟩, hR4, hB3⟩
          have hk3 := nx_lt L ((lineF L s.m 3).2 + 1) 3 (by omega)
          have HN := Lib.hid (nextG_open L true nested s.o s.id s.m (by have := HC.out; omega) rfl)
          clear HL HC
          go_wp2_with fail
          refine (H3.out _ (hR4.alloc _).nums).mono ?_
          rintro e w5 ⟨rfl, hg5, hN5⟩
          have hrow := pick_row ((hg5.block w3.heap.size (by simp) (fun e => by injection e; omega)).trans (heap_alloc_new w3 _)) openL rfl _ (nx_lt L ((lineF L s.m 3).2 + 1) 3 (by omega))
          have hB5 := (hg5.block B (by simp; omega) (fun e => by injection e; omega)).trans ((Lib.alloc_old w3 _ B zB).trans hB3)
          have hR5 := (hR4.alloc _).next hg5 hN5
          obtain ⟨_, _, _, f0, f1, f2⟩ := cells_item hB5
          have HB5 := Lib.hid hB5
          have zB5 : B < w5.heap.size := (Array.getElem?_eq_some_iff.1 hB5).1
          clear hB5
          have hR6 := hR5.set3 B hsz2 hfB hoB (.int .i64 2) (.string (pickB openL (nx L ((lineF L s.m 3).2 + 1) 3))) (.int .i64 ((s.id : Int) + 1))
          have HB6 := Lib.hid (heap_set3 (a' := .int .i64 2) (b' := .string (pickB openL (nx L ((lineF L s.m 3).2 + 1) 3))) (c' := .int .i64 ((s.id : Int) + 1)) HB5.out)
          have hR7 := hR6.alloc (.cells #[.int .i64 2, .string (pickB openL (nx L ((lineF L s.m 3).2 + 1) 3)), .int .i64 ((s.id : Int) + 1)] 27)
          have hsz7 := hR7.chg.size
          have hnew7 := heap_alloc_new (((w5.setCell ⟨B, 0, none⟩ (.int .i64 2)).setCell ⟨B, 1, none⟩ (.string (pickB openL (nx L ((lineF L s.m 3).2 + 1) 3)))).setCell ⟨B, 2, none⟩ (.int .i64 ((s.id : Int) + 1))) (.cells #[.int .i64 2, .string (pickB openL (nx L ((lineF L s.m 3).2 + 1) 3)), .int .i64 ((s.id : Int) + 1)] 27)
          rw [set3_size] at hnew7
          have HN7 := Lib.hid hnew7; clear hnew7
          go_wp2_with (at_builtin; refine wpl_app eI _ rfl _ _ rfl w.heap.size s.o _ rfl hR7.o hsz7 ⟨2, pickB openL (nx L ((lineF L s.m 3).2 + 1) 3), (s.id : Int) + 1⟩ w5.heap.size _ rfl HN7.out rfl (by omega) (by unfold maxLen; omega) ?_; intro g2 cp w8 hown8 hgr8 hloc8)
          have hR8 := hR7.push hown8 hgr8 hloc8
          have hB8 := (hgr8.block B (by simp; omega) (fun e => hoB e.symm)).trans ((Lib.alloc_old _ _ B (by simp; omega)).trans HB6.out)
          go_wp2_with fail
          go_meet
          exact ⟨⟨2, pickB openL (nx L ((lineF L s.m 3).2 + 1) 3), (s.id + 1 : Nat)⟩, s.o ++ [⟨2, pickB openL (nx L ((lineF L s.m 3).2 + 1) 3), (s.id + 1 : Nat)⟩], s.id + 1, (lineF L s.m 3).2 + 1 + 1, HN, rfl, ⟨_, _, by rw [List.length_append]; rfl⟩, hR8, hB8⟩
        · cases tags
          · have HN := Lib.hid (nextG_text L false nested s.o s.id s.m (by have := HC.out; exact Or.inr (Or.inl ⟨by omega, by omega, rfl⟩)))
            clear HL HC
            go_wp2_with fail
            go_meet
            exact ⟨⟨1, (lineF L s.m 3).1, 0⟩, s.o, s.id, (lineF L s.m 3).2 + 1, HN, rfl, ⟨_, _, rfl⟩, hR4, hB3⟩
          have hk3 := nx_lt L ((lineF L s.m 3).2 + 1) 3 (by omega)
          have HN := Lib.hid (nextG_open L true nested s.o s.id s.m (by have := HC.out; omega) rfl)
          clear HL HC
          go_wp2_with fail
          refine (H3.out _ (hR4.alloc _).nums).mono ?_
          rintro e w5 ⟨rfl, hg5, hN5⟩
          have hrow := pick_row ((hg5.block w3.heap.size (by simp) (fun e => by injection e; omega)).trans (heap_alloc_new w3 _)) openL rfl _ (nx_lt L ((lineF L s.m 3).2 + 1) 3 (by omega))
          have hB5 := (hg5.block B (by simp; omega) (fun e => by injection e; omega)).trans ((Lib.alloc_old w3 _ B zB).trans hB3)
          have hR5 := (hR4.alloc _).next hg5 hN5
          obtain ⟨_, _, _, f0, f1, f2⟩ := cells_item hB5
          have HB5 := Lib.hid hB5
          have zB5 : B < w5.heap.size := (Array.getElem?_eq_some_iff.1 hB5).1
          clear hB5
          have hR6 := hR5.set3 B hsz2 hfB hoB (.int .i64 2) (.string (pickB openL (nx L ((lineF L s.m 3).2 + 1) 3))) (.int .i64 ((s.id : Int) + 1))
          have HB6 := Lib.hid (heap_set3 (a' := .int .i64 2) (b' := .string (pickB openL (nx L ((lineF L s.m 3).2 + 1) 3))) (c' := .int .i64 ((s.id : Int) + 1)) HB5.out)
          have hR7 := hR6.alloc (.cells #[.int .i64 2, .string (pickB openL (nx L ((lineF L s.m 3).2 + 1) 3)), .int .i64 ((s.id : Int) + 1)] 27)
          have hsz7 := hR7.chg.size
          have hnew7 := heap_alloc_new (((w5.setCell ⟨B, 0, none⟩ (.int .i64 2)).setCell ⟨B, 1, none⟩ (.string (pickB openL (nx L ((lineF L s.m 3).2 + 1) 3)))).setCell ⟨B, 2, none⟩ (.int .i64 ((s.id : Int) + 1))) (.cells #[.int .i64 2, .string (pickB openL (nx L ((lineF L s.m 3).2 + 1) 3)), .int .i64 ((s.id : Int) + 1)] 27)
          rw [set3_size] at hnew7
          have HN7 := Lib.hid hnew7; clear hnew7
          go_wp2_with (at_builtin; refine wpl_app eI _ rfl _ _ rfl w.heap.size s.o _ rfl hR7.o hsz7 ⟨2, pickB openL (nx L ((lineF L s.m 3).2 + 1) 3), (s.id : Int) + 1⟩ w5.heap.size _ rfl HN7.out rfl (by omega) (by unfold maxLen; omega) ?_; intro g2 cp w8 hown8 hgr8 hloc8)
          have hR8 := hR7.push hown8 hgr8 hloc8
          have hB8 := (hgr8.block B (by simp; omega) (fun e => hoB e.symm)).trans ((Lib.alloc_old _ _ B (by simp; omega)).trans HB6.out)
          go_wp2_with fail
          go_meet
          exact ⟨⟨2, pickB openL (nx L ((lineF L s.m 3).2 + 1) 3), (s.id + 1 : Nat)⟩, s.o ++ [⟨2, pickB openL (nx L ((lineF L s.m 3).2 + 1) 3), (s.id + 1 : Nat)⟩], s.id + 1, (lineF L s.m 3).2 + 1 + 1, HN, rfl, ⟨_, _, by rw [List.length_append]; rfl⟩, hR8, hB8⟩
        · by_cases ho : 0 < s.o.length
          · obtain ⟨j0, hj0⟩ : ∃ j0, s.o.length = j0 + 1 := ⟨s.o.length - 1, by omega⟩
            obtain ⟨go, rfl⟩ := hR4.atO ho
            cases nested
            · have hnj : ∀ W, NumsAt W b pn cn L ((lineF L s.m 3).2 + 1) → _ := fun W h => next_any b pn cn L ((lineF L s.m 3).2 + 1) ((j0 : Int) + 1) (j0 + 1) (by omega) W h (by omega) (by omega) (by omega)
              have hkj := nx_lt L ((lineF L s.m 3).2 + 1) (j0 + 1) (by omega)
              obtain ⟨kk, hkk⟩ : ∃ kk, kk = nx L ((lineF L s.m 3).2 + 1) (j0 + 1) := ⟨_, rfl⟩
              rw [← hkk] at hnj hkj
              have HNJ := Lib.hid hnj; clear hnj
              have HN := Lib.hid (nextG_close L tags false s.o s.id s.m (by have := HC.out; omega) ho (kk, (lineF L s.m 3).2 + 1 + 1) (by unfold pickK; rw [if_neg (by decide), hj0, hkk]))
              clear hkk
              obtain ⟨_, hco, hcm, hI⟩ := hR4.itsO
              rw [hj0] at hco hzol ⊢
              have HR4 := Lib.hid hR4
              clear HL HC hI hR4
              go_upto_region 27 with fail
              go_wp2_with fail
              refine (HNJ.out _ HR4.out.nums).mono ?_
              rintro e w5 ⟨rfl, hg5, hN5⟩
              have hR4 := HR4.out.next hg5 hN5
              have hB5 := (hg5.block B zB (fun e => by injection e; omega)).trans hB3
              have zB5 : B < w5.heap.size := (Array.getElem?_eq_some_iff.1 hB5).1
              obtain ⟨_, _, _, hI⟩ := hR4.itsO
              obtain ⟨g0, d0, d1, d2⟩ := its_at hI kk (by omega)
              have hT := its_take hI kk
              have hy : s.o.getD kk ⟨0, .empty, 0⟩ = s.o[kk]'(by omega) := by rw [List.getD_eq_getElem?_getD, List.getElem?_eq_getElem (by omega)]; rfl
              have hyt : (s.o[kk]'(by omega)).t.size ≤ 5 := hz.ot _ (List.getElem_mem _)
              have lT0 : (s.o.take kk).length = kk := by rw [List.length_take]; omega
              have lD0 : (s.o.drop (kk + 1)).length = j0 - kk := by rw [List.length_drop]; omega
              obtain ⟨A, hA, hAD⟩ : ∃ A, (if co = kk + 1 then some (⟨go, 0, none⟩ : Addr) else some ⟨go, (kk + 1) * 3, none⟩) = some ⟨go, A, none⟩ ∧ (co ≠ kk + 1 → A = (kk + 1) * 3) := by
                by_cases hc : co = kk + 1
                · exact ⟨0, if_pos hc, fun h => absurd hc h⟩
                · exact ⟨_, if_neg hc, fun _ => rfl⟩
              have hA := Lib.hid hA
              have hD : Its w5 (some ⟨go, A, none⟩) (s.o.drop (kk + 1)) := by
                by_cases hc : co = kk + 1
                · exact its_empty (by omega)
                · rw [hAD hc]; exact its_drop hI (kk + 1)
              have hoB2 : ∀ a, some (⟨go, A, none⟩ : Addr) = some a → a.block ≠ B := fun a e => by cases e; exact fun e2 => hoB (by simpa [Value.ownBlock] using e2)
              rw [hy] at HN
              generalize s.o[kk]'(by omega) = y at *
              generalize s.o.take kk = T at *
              generalize s.o.drop (kk + 1) = D at *
              rw [hj0] at hR4 hoB
              obtain ⟨_, _, _, f0, f1, f2⟩ := cells_item hB5
              have HB5 := Lib.hid hB5
              unfold maxLen at hcm
              have hb1 : (kk : Int) < (j0 : Int) + 1 := by omega
              have hb2 : (kk : Int) < ((j0 + 1 : Nat) : Int) := by omega
              have hb0 : (0 : Int) ≤ (kk : Int) := by omega
              have lT := Lib.hid lT0; have lD := Lib.hid lD0
              clear lT0 lD0 hB3 hB5 hj0 ho hy hI hAD HR4 HNJ
              have hnm := fun W => rname_any y.t W (by unfold maxLen; omega)
              have HNM := Lib.hid hnm; clear hnm
              go_upto_region 27 with fail
              go_still_tail 12, (by kernel_rfl)
              still_call ((HNM.out _).mono (fun e w' h => ⟨h.1, h.2.symm⟩))
              repeat still_step
              refine wpStill_nil ?_
              change wpList _ _ _ _ _ w5.drew
              go_wp2_with fail
              have hR6 := ((hR4.set3 B hsz2 hfB hoB (.int .i64 3) (.string (nameB y.t)) (.int .i64 y.id)).drewN 1).drewN 1
              have hT6 := (its_set3 hT B (own_ne hoB) (.int .i64 3) (.string (nameB y.t)) (.int .i64 y.id)).two
              have hD6 := (its_set3 hD B hoB2 (.int .i64 3) (.string (nameB y.t)) (.int .i64 y.id)).two
              have HB6 := Lib.hid (heap_set3 (a' := .int .i64 3) (b' := .string (nameB y.t)) (c' := .int .i64 y.id) HB5.out)
              have hA := hA.out
              have hs1 : kk ≤ co := by omega
              have hs2 : kk ≤ j0 := by omega
              have hlT := lT.out; have hlD := lD.out
              have bl1 : (([] : List It).length + T.length) * 32 ≤ 140737488355328 := by simp; omega
              have bl2 : (T.length + D.length) * 32 ≤ 140737488355328 := by omega
              clear hlT hlD
              have hw1 : IntKind.i64.wrap ((kk : Int) + 1) = (kk : Int) + 1 := IntWalk.i64_in _ ⟨by omega, by omega⟩
              have hw2 : (0 : Int) ≤ (kk : Int) + 1 := by omega
              have hw3 : ((kk : Int) + 1).toNat = kk + 1 := by omega
              refine wp_region_any (by kernel_rfl) ?_
              try (change wpAny _ _ _ _ _ _ _ (World.drew _))
              refine wpAny_take (i := 0) (v := ?_) rfl (by kernel_rfl) (by kernel_rfl) (by kernel_rfl) (fun _ _ _ h => h) (Or.inl ⟨by rfl, ?_⟩) ?_
              rotate_left
              · (intro w; go_simp; try with_reducible rfl)
              try simp only [Act.put, List.getElem_toArray, List.getElem_cons_zero, List.getElem_cons_succ, List.setIfInBounds_toArray, List.set_cons_zero, List.set_cons_succ]
              refine wpAny_take (i := 1) (v := ?_) rfl (by kernel_rfl) (by kernel_rfl) (by kernel_rfl) (fun _ _ _ h => h) (Or.inl ⟨by rfl, ?_⟩) ?_
              rotate_left
              · (intro w; go_simp; try with_reducible rfl)
              try simp only [Act.put, List.getElem_toArray, List.getElem_cons_zero, List.getElem_cons_succ, List.setIfInBounds_toArray, List.set_cons_zero, List.set_cons_succ]
              refine wpAny_take (i := 2) (v := ?_) rfl (by kernel_rfl) (by kernel_rfl) (by kernel_rfl) (fun _ _ _ h => h) (Or.inl ⟨by rfl, ?_⟩) ?_
              rotate_left
              · (intro w; go_simp; try with_reducible rfl)
              try simp only [Act.put, List.getElem_toArray, List.getElem_cons_zero, List.getElem_cons_succ, List.setIfInBounds_toArray, List.set_cons_zero, List.set_cons_succ]
              refine wpAny_take (i := 4) (v := ?_) rfl (by kernel_rfl) (by kernel_rfl) (by kernel_rfl) (fun _ _ _ h => h) (Or.inl ⟨by rfl, ?_⟩) ?_
              rotate_left
              · (intro w; go_simp; try with_reducible rfl)
              try simp only [Act.put, List.getElem_toArray, List.getElem_cons_zero, List.getElem_cons_succ, List.setIfInBounds_toArray, List.set_cons_zero, List.set_cons_succ]
              refine wpAny_take (i := 5) (v := ?_) rfl (by kernel_rfl) (by kernel_rfl) (by kernel_rfl) (fun _ _ _ h => h) (Or.inl ⟨by rfl, ?_⟩) ?_
              rotate_left
              · (intro w; go_simp; try with_reducible rfl)
              try simp only [Act.put, List.getElem_toArray, List.getElem_cons_zero, List.getElem_cons_succ, List.setIfInBounds_toArray, List.set_cons_zero, List.set_cons_succ]
              refine wpAny_take (i := 6) (v := ?_) rfl (by kernel_rfl) (by kernel_rfl) (by kernel_rfl) (fun _ _ _ h => h) (Or.inl ⟨by rfl, ?_⟩) ?_
              rotate_left
              · (intro w; go_simp; try with_reducible rfl)
              try simp only [Act.put, List.getElem_toArray, List.getElem_cons_zero, List.getElem_cons_succ, List.setIfInBounds_toArray, List.set_cons_zero, List.set_cons_succ]
              refine wpAny_take (i := 7) (v := ?_) rfl (by kernel_rfl) (by kernel_rfl) (by kernel_rfl) (fun _ _ _ h => h) (Or.inl ⟨by rfl, ?_⟩) ?_
              rotate_left
              · (intro w; go_simp; try with_reducible rfl)
              try simp only [Act.put, List.getElem_toArray, List.getElem_cons_zero, List.getElem_cons_succ, List.setIfInBounds_toArray, List.set_cons_zero, List.set_cons_succ]
              refine wpAny_ready (rs := [3]) (by kernel_rfl) (by simp) ?_
              refine AllReady.cons rfl (fun K hK => ?_) AllReady.nil
              refine step_cat _ (by rfl) _ _ (by rfl) _ [] T _ (by rfl) (Acc.start _) (some ⟨go, 0, none⟩) kk co (by rfl) lT.out.symm hT6 bl1 ?_
              intro v1 w8 hA8
              rw [List.nil_append] at hA8
              obtain ⟨p8, c8, hv8, _⟩ := hA8.own.its
              rw [lT.out] at hv8
              subst hv8
              try go_simp
              refine hK _ _ ?_; clear hK K
              try simp only [Act.put, List.getElem_toArray, List.getElem_cons_zero, List.getElem_cons_succ, List.setIfInBounds_toArray, List.set_cons_zero, List.set_cons_succ]
              refine wpAny_ready (rs := [8]) (by kernel_rfl) (by simp) ?_
              refine AllReady.cons rfl (fun K hK => ?_) AllReady.nil
              refine step_cat _ (by rfl) _ _ (by rfl) _ T D _ (by rfl) hA8 (some ⟨go, A, none⟩) (j0 - kk) (co - (kk + 1)) (by rfl) lD.out.symm (hD6.call hA8.below) bl2 ?_
              intro v9 w9 hA9
              try go_simp
              refine hK _ _ ?_; clear hK K
              try simp only [Act.put, List.getElem_toArray, List.getElem_cons_zero, List.getElem_cons_succ, List.setIfInBounds_toArray, List.set_cons_zero, List.set_cons_succ]
              refine wpAny_take (i := 9) (v := ?_) rfl (by kernel_rfl) (by kernel_rfl) (by kernel_rfl) (fun _ _ _ h => h) (Or.inl ⟨by rfl, ?_⟩) ?_
              rotate_left
              · (intro w; go_simp; try with_reducible rfl)
              try simp only [Act.put, List.getElem_toArray, List.getElem_cons_zero, List.getElem_cons_succ, List.setIfInBounds_toArray, List.set_cons_zero, List.set_cons_succ]
              refine wpAny_done (by kernel_rfl) ?_ _
              have hR9 := hR6.madeO hA9
              obtain ⟨p9, c9, rfl, _⟩ := hA9.own.its
              have hBw := hA9.below.block B (by show B < ((((w5.setCell ⟨B, 0, none⟩ _).setCell ⟨B, 1, none⟩ _).setCell ⟨B, 2, none⟩ _)).heap.size; rw [set3_size]; exact zB5)
              go_wp2_with fail
              go_meet
              exact ⟨closeI y, _, s.id, (lineF L s.m 3).2 + 1 + 1, HN, rfl, ⟨_, _, rfl⟩, hR9, hBw.trans HB6.out⟩
            · have HN := Lib.hid (nextG_close L tags true s.o s.id s.m (by have := HC.out; omega) ho (j0, (lineF L s.m 3).2 + 1) (by unfold pickK; rw [if_pos rfl, hj0]; rfl))
              obtain ⟨_, hco, hcm, hI⟩ := hR4.itsO
              obtain ⟨g0, d0, d1, d2⟩ := its_at hI j0 (by omega)
              have hT := its_take hI j0
              have hy : s.o.getD j0 ⟨0, .empty, 0⟩ = s.o[j0]'(by omega) := by rw [List.getD_eq_getElem?_getD, List.getElem?_eq_getElem (by omega)]; rfl
              have hyt : (s.o[j0]'(by omega)).t.size ≤ 5 := hz.ot _ (List.getElem_mem _)
              have lT0 : (s.o.take j0).length = j0 := by rw [List.length_take]; omega
              have lD0 : (s.o.drop (j0 + 1)).length = 0 := by rw [List.length_drop]; omega
              obtain ⟨A, hA, hAD⟩ : ∃ A, (if co = j0 + 1 then some (⟨go, 0, none⟩ : Addr) else some ⟨go, (j0 + 1) * 3, none⟩) = some ⟨go, A, none⟩ ∧ (co ≠ j0 + 1 → A = (j0 + 1) * 3) := by
                by_cases hc : co = j0 + 1
                · exact ⟨0, if_pos hc, fun h => absurd hc h⟩
                · exact ⟨_, if_neg hc, fun _ => rfl⟩
              have hA := Lib.hid hA
              have hD : Its w3 (some ⟨go, A, none⟩) (s.o.drop (j0 + 1)) := by
                by_cases hc : co = j0 + 1
                · exact its_empty (by omega)
                · rw [hAD hc]; exact its_drop hI (j0 + 1)
              have hoB2 : ∀ a, some (⟨go, A, none⟩ : Addr) = some a → a.block ≠ B := fun a e => by cases e; exact fun e2 => hoB (by simpa [Value.ownBlock] using e2)
              rw [hy] at HN
              generalize s.o[j0]'(by omega) = y at *
              generalize s.o.take j0 = T at *
              generalize s.o.drop (j0 + 1) = D at *
              rw [hj0] at hR4 hoB hco hzol ⊢
              obtain ⟨_, _, _, f0, f1, f2⟩ := cells_item hB3
              have HB3 := Lib.hid hB3
              unfold maxLen at hcm
              have hb1 : (j0 : Int) < (j0 : Int) + 1 := by omega
              have hb2 : (j0 : Int) < ((j0 + 1 : Nat) : Int) := by omega
              have hb0 : (0 : Int) ≤ (j0 : Int) := by omega
              have lT := Lib.hid lT0; have lD := Lib.hid lD0
              clear lT0 lD0 HL HC hB3 hj0 ho hy hI hAD
              have hnm := fun W => rname_any y.t W (by unfold maxLen; omega)
              have HNM := Lib.hid hnm; clear hnm
              go_upto_region 27 with fail
              go_still_tail 12, (by kernel_rfl)
              still_call ((HNM.out _).mono (fun e w' h => ⟨h.1, h.2.symm⟩))
              repeat still_step
              refine wpStill_nil ?_
              change wpList _ _ _ _ _ w3.drew
              go_wp2_with fail
              have hR6 := ((hR4.set3 B hsz2 hfB hoB (.int .i64 3) (.string (nameB y.t)) (.int .i64 y.id)).drewN 1).drewN 1
              have hT6 := (its_set3 hT B (own_ne hoB) (.int .i64 3) (.string (nameB y.t)) (.int .i64 y.id)).two
              have hD6 := (its_set3 hD B hoB2 (.int .i64 3) (.string (nameB y.t)) (.int .i64 y.id)).two
              have HB6 := Lib.hid (heap_set3 (a' := .int .i64 3) (b' := .string (nameB y.t)) (c' := .int .i64 y.id) HB3.out)
              have hA := hA.out
              have hs1 : j0 ≤ co := by omega
              have hs2 : j0 ≤ j0 := by omega
              have hlT := lT.out; have hlD := lD.out
              have bl1 : (([] : List It).length + T.length) * 32 ≤ 140737488355328 := by simp; omega
              have bl2 : (T.length + D.length) * 32 ≤ 140737488355328 := by omega
              clear hlT hlD
              have hw1 : IntKind.i64.wrap ((j0 : Int) + 1) = (j0 : Int) + 1 := IntWalk.i64_in _ ⟨by omega, by omega⟩
              have hw2 : (0 : Int) ≤ (j0 : Int) + 1 := by omega
              have hw3 : ((j0 : Int) + 1).toNat = j0 + 1 := by omega
              refine wp_region_any (by kernel_rfl) ?_
              try (change wpAny _ _ _ _ _ _ _ (World.drew _))
              refine wpAny_take (i := 0) (v := ?_) rfl (by kernel_rfl) (by kernel_rfl) (by kernel_rfl) (fun _ _ _ h => h) (Or.inl ⟨by rfl, ?_⟩) ?_
              rotate_left
              · (intro w; go_simp; try with_reducible rfl)
              try simp only [Act.put, List.getElem_toArray, List.getElem_cons_zero, List.getElem_cons_succ, List.setIfInBounds_toArray, List.set_cons_zero, List.set_cons_succ]
              refine wpAny_take (i := 1) (v := ?_) rfl (by kernel_rfl) (by kernel_rfl) (by kernel_rfl) (fun _ _ _ h => h) (Or.inl ⟨by rfl, ?_⟩) ?_
              rotate_left
              · (intro w; go_simp; try with_reducible rfl)
              try simp only [Act.put, List.getElem_toArray, List.getElem_cons_zero, List.getElem_cons_succ, List.setIfInBounds_toArray, List.set_cons_zero, List.set_cons_succ]
              refine wpAny_take (i := 2) (v := ?_) rfl (by kernel_rfl) (by kernel_rfl) (by kernel_rfl) (fun _ _ _ h => h) (Or.inl ⟨by rfl, ?_⟩) ?_
              rotate_left
              · (intro w; go_simp; try with_reducible rfl)
              try simp only [Act.put, List.getElem_toArray, List.getElem_cons_zero, List.getElem_cons_succ, List.setIfInBounds_toArray, List.set_cons_zero, List.set_cons_succ]
              refine wpAny_take (i := 4) (v := ?_) rfl (by kernel_rfl) (by kernel_rfl) (by kernel_rfl) (fun _ _ _ h => h) (Or.inl ⟨by rfl, ?_⟩) ?_
              rotate_left
              · (intro w; go_simp; try with_reducible rfl)
              try simp only [Act.put, List.getElem_toArray, List.getElem_cons_zero, List.getElem_cons_succ, List.setIfInBounds_toArray, List.set_cons_zero, List.set_cons_succ]
              refine wpAny_take (i := 5) (v := ?_) rfl (by kernel_rfl) (by kernel_rfl) (by kernel_rfl) (fun _ _ _ h => h) (Or.inl ⟨by rfl, ?_⟩) ?_
              rotate_left
              · (intro w; go_simp; try with_reducible rfl)
              try simp only [Act.put, List.getElem_toArray, List.getElem_cons_zero, List.getElem_cons_succ, List.setIfInBounds_toArray, List.set_cons_zero, List.set_cons_succ]
              refine wpAny_take (i := 6) (v := ?_) rfl (by kernel_rfl) (by kernel_rfl) (by kernel_rfl) (fun _ _ _ h => h) (Or.inl ⟨by rfl, ?_⟩) ?_
              rotate_left
              · (intro w; go_simp; try with_reducible rfl)
              try simp only [Act.put, List.getElem_toArray, List.getElem_cons_zero, List.getElem_cons_succ, List.setIfInBounds_toArray, List.set_cons_zero, List.set_cons_succ]
              refine wpAny_take (i := 7) (v := ?_) rfl (by kernel_rfl) (by kernel_rfl) (by kernel_rfl) (fun _ _ _ h => h) (Or.inl ⟨by rfl, ?_⟩) ?_
              rotate_left
              · (intro w; go_simp; try with_reducible rfl)
              try simp only [Act.put, List.getElem_toArray, List.getElem_cons_zero, List.getElem_cons_succ, List.setIfInBounds_toArray, List.set_cons_zero, List.set_cons_succ]
              refine wpAny_ready (rs := [3]) (by kernel_rfl) (by simp) ?_
              refine AllReady.cons rfl (fun K hK => ?_) AllReady.nil
              refine step_cat _ (by rfl) _ _ (by rfl) _ [] T _ (by rfl) (Acc.start _) (some ⟨go, 0, none⟩) j0 co (by rfl) lT.out.symm hT6 bl1 ?_
              intro v1 w8 hA8
              rw [List.nil_append] at hA8
              obtain ⟨p8, c8, hv8, _⟩ := hA8.own.its
              rw [lT.out] at hv8
              subst hv8
              try go_simp
              refine hK _ _ ?_; clear hK K
              try simp only [Act.put, List.getElem_toArray, List.getElem_cons_zero, List.getElem_cons_succ, List.setIfInBounds_toArray, List.set_cons_zero, List.set_cons_succ]
              refine wpAny_ready (rs := [8]) (by kernel_rfl) (by simp) ?_
              refine AllReady.cons rfl (fun K hK => ?_) AllReady.nil
              refine step_cat _ (by rfl) _ _ (by rfl) _ T D _ (by rfl) hA8 (some ⟨go, A, none⟩) (0) (co - (j0 + 1)) (by rfl) lD.out.symm (hD6.call hA8.below) bl2 ?_
              intro v9 w9 hA9
              try go_simp
              refine hK _ _ ?_; clear hK K
              try simp only [Act.put, List.getElem_toArray, List.getElem_cons_zero, List.getElem_cons_succ, List.setIfInBounds_toArray, List.set_cons_zero, List.set_cons_succ]
              refine wpAny_take (i := 9) (v := ?_) rfl (by kernel_rfl) (by kernel_rfl) (by kernel_rfl) (fun _ _ _ h => h) (Or.inl ⟨by rfl, ?_⟩) ?_
              rotate_left
              · (intro w; go_simp; try with_reducible rfl)
              try simp only [Act.put, List.getElem_toArray, List.getElem_cons_zero, List.getElem_cons_succ, List.setIfInBounds_toArray, List.set_cons_zero, List.set_cons_succ]
              refine wpAny_done (by kernel_rfl) ?_ _
              have hR9 := hR6.madeO hA9
              obtain ⟨p9, c9, rfl, _⟩ := hA9.own.its
              have hBw := hA9.below.block B (by show B < ((((w3.setCell ⟨B, 0, none⟩ _).setCell ⟨B, 1, none⟩ _).setCell ⟨B, 2, none⟩ _)).heap.size; rw [set3_size]; exact zB)
              go_wp2_with fail
              go_meet
              exact ⟨closeI y, _, s.id, (lineF L s.m 3).2 + 1, HN, rfl, ⟨_, _, rfl⟩, hR9, hBw.trans HB6.out⟩
          · have hol : s.o.length = 0 := by omega
            have q0 : decide ((0 : Int) ≤ (s.o.length : Int) - 1) = false := decide_eq_false (by omega)
            have q1 : decide ((1 : Int) ≤ (s.o.length : Int)) = false := decide_eq_false (by omega)
            have q2 : decide (1 ≤ s.o.length) = false := decide_eq_false (by omega)
            have q3 : decide (0 < s.o.length) = false := decide_eq_false (by omega)
            have HO := Lib.hid ho
            clear ho hol
            cases tags
            · have HN := Lib.hid (nextG_text L false nested s.o s.id s.m (by have := HC.out; have := HO.out; right; right; exact ⟨by omega, by omega, HO.out, by simp⟩))
              clear HL HC
              go_wp2_with fail
              go_meet
              exact ⟨⟨1, (lineF L s.m 3).1, 0⟩, s.o, s.id, (lineF L s.m 3).2 + 1, HN, rfl, ⟨_, _, rfl⟩, hR4, hB3⟩
            cases nested
            · have HN := Lib.hid (nextG_alone L true false s.o s.id s.m (by have := HC.out; omega) HO.out ⟨rfl, rfl⟩)
              obtain ⟨_, _, _, f0, f1, f2⟩ := cells_item hB3
              have HB3 := Lib.hid hB3
              clear HL HC hB3
              go_wp2_with fail
              go_meet
              exact ⟨⟨3, ⟨#[98]⟩, (s.id + 1 : Nat)⟩, s.o, s.id + 1, (lineF L s.m 3).2 + 1, HN, rfl, ⟨_, _, rfl⟩, hR4.set3 B hsz2 hfB hoB _ _ _, heap_set3 HB3.out⟩
            · have HN := Lib.hid (nextG_text L true true s.o s.id s.m (by have := HC.out; have := HO.out; right; right; exact ⟨by omega, by omega, HO.out, by simp⟩))
              clear HL HC
              go_wp2_with fail
              go_meet
              exact ⟨⟨1, (lineF L s.m 3).1, 0⟩, s.o, s.id, (lineF L s.m 3).2 + 1, HN, rfl, ⟨_, _, rfl⟩, hR4, hB3⟩
        · by_cases ho : 0 < s.o.length
          · obtain ⟨j0, hj0⟩ : ∃ j0, s.o.length = j0 + 1 := ⟨s.o.length - 1, by omega⟩
            obtain ⟨go, rfl⟩ := hR4.atO ho
            cases nested
            · have hnj : ∀ W, NumsAt W b pn cn L ((lineF L s.m 3).2 + 1) → _ := fun W h => next_any b pn cn L ((lineF L s.m 3).2 + 1) ((j0 : Int) + 1) (j0 + 1) (by omega) W h (by omega) (by omega) (by omega)
              have hkj := nx_lt L ((lineF L s.m 3).2 + 1) (j0 + 1) (by omega)
              obtain ⟨kk, hkk⟩ : ∃ kk, kk = nx L ((lineF L s.m 3).2 + 1) (j0 + 1) := ⟨_, rfl⟩
              rw [← hkk] at hnj hkj
              have HNJ := Lib.hid hnj; clear hnj
              have HN := Lib.hid (nextG_close L tags false s.o s.id s.m (by have := HC.out; omega) ho (kk, (lineF L s.m 3).2 + 1 + 1) (by unfold pickK; rw [if_neg (by decide), hj0, hkk]))
              clear hkk
              obtain ⟨_, hco, hcm, hI⟩ := hR4.itsO
              rw [hj0] at hco hzol ⊢
              have HR4 := Lib.hid hR4
              clear HL HC hI hR4
              go_upto_region 27 with fail
              go_wp2_with fail
              refine (HNJ.out _ HR4.out.nums).mono ?_
              rintro e w5 ⟨rfl, hg5, hN5⟩
              have hR4 := HR4.out.next hg5 hN5
              have hB5 := (hg5.block B zB (fun e => by injection e; omega)).trans hB3
              have zB5 : B < w5.heap.size := (Array.getElem?_eq_some_iff.1 hB5).1
              obtain ⟨_, _, _, hI⟩ := hR4.itsO
              obtain ⟨g0, d0, d1, d2⟩ := its_at hI kk (by omega)
              have hT := its_take hI kk
              have hy : s.o.getD kk ⟨0, .empty, 0⟩ = s.o[kk]'(by omega) := by rw [List.getD_eq_getElem?_getD, List.getElem?_eq_getElem (by omega)]; rfl
              have hyt : (s.o[kk]'(by omega)).t.size ≤ 5 := hz.ot _ (List.getElem_mem _)
              have lT0 : (s.o.take kk).length = kk := by rw [List.length_take]; omega
              have lD0 : (s.o.drop (kk + 1)).length = j0 - kk := by rw [List.length_drop]; omega
              obtain ⟨A, hA, hAD⟩ : ∃ A, (if co = kk + 1 then some (⟨go, 0, none⟩ : Addr) else some ⟨go, (kk + 1) * 3, none⟩) = some ⟨go, A, none⟩ ∧ (co ≠ kk + 1 → A = (kk + 1) * 3) := by
                by_cases hc : co = kk + 1
                · exact ⟨0, if_pos hc, fun h => absurd hc h⟩
                · exact ⟨_, if_neg hc, fun _ => rfl⟩
              have hA := Lib.hid hA
              have hD : Its w5 (some ⟨go, A, none⟩) (s.o.drop (kk + 1)) := by
                by_cases hc : co = kk + 1
                · exact its_empty (by omega)
                · rw [hAD hc]; exact its_drop hI (kk + 1)
              have hoB2 : ∀ a, some (⟨go, A, none⟩ : Addr) = some a → a.block ≠ B := fun a e => by cases e; exact fun e2 => hoB (by simpa [Value.ownBlock] using e2)
              rw [hy] at HN
              generalize s.o[kk]'(by omega) = y at *
              generalize s.o.take kk = T at *
              generalize s.o.drop (kk + 1) = D at *
              rw [hj0] at hR4 hoB
              obtain ⟨_, _, _, f0, f1, f2⟩ := cells_item hB5
              have HB5 := Lib.hid hB5
              unfold maxLen at hcm
              have hb1 : (kk : Int) < (j0 : Int) + 1 := by omega
              have hb2 : (kk : Int) < ((j0 + 1 : Nat) : Int) := by omega
              have hb0 : (0 : Int) ≤ (kk : Int) := by omega
              have lT := Lib.hid lT0; have lD := Lib.hid lD0
              clear lT0 lD0 hB3 hB5 hj0 ho hy hI hAD HR4 HNJ
              have hnm := fun W => rname_any y.t W (by unfold maxLen; omega)
              have HNM := Lib.hid hnm; clear hnm
              go_upto_region 27 with fail
              go_still_tail 12, (by kernel_rfl)
              still_call ((HNM.out _).mono (fun e w' h => ⟨h.1, h.2.symm⟩))
              repeat still_step
              refine wpStill_nil ?_
              change wpList _ _ _ _ _ w5.drew
              go_wp2_with fail
              have hR6 := ((hR4.set3 B hsz2 hfB hoB (.int .i64 3) (.string (nameB y.t)) (.int .i64 y.id)).drewN 1).drewN 1
              have hT6 := (its_set3 hT B (own_ne hoB) (.int .i64 3) (.string (nameB y.t)) (.int .i64 y.id)).two
              have hD6 := (its_set3 hD B hoB2 (.int .i64 3) (.string (nameB y.t)) (.int .i64 y.id)).two
              have HB6 := Lib.hid (heap_set3 (a' := .int .i64 3) (b' := .string (nameB y.t)) (c' := .int .i64 y.id) HB5.out)
              have hA := hA.out
              have hs1 : kk ≤ co := by omega
              have hs2 : kk ≤ j0 := by omega
              have hlT := lT.out; have hlD := lD.out
              have bl1 : (([] : List It).length + T.length) * 32 ≤ 140737488355328 := by simp; omega
              have bl2 : (T.length + D.length) * 32 ≤ 140737488355328 := by omega
              clear hlT hlD
              have hw1 : IntKind.i64.wrap ((kk : Int) + 1) = (kk : Int) + 1 := IntWalk.i64_in _ ⟨by omega, by omega⟩
              have hw2 : (0 : Int) ≤ (kk : Int) + 1 := by omega
              have hw3 : ((kk : Int) + 1).toNat = kk + 1 := by omega
              refine wp_region_any (by kernel_rfl) ?_
              try (change wpAny _ _ _ _ _ _ _ (World.drew _))
              refine wpAny_take (i := 0) (v := ?_) rfl (by kernel_rfl) (by kernel_rfl) (by kernel_rfl) (fun _ _ _ h => h) (Or.inl ⟨by rfl, ?_⟩) ?_
              rotate_left
              · (intro w; go_simp; try with_reducible rfl)
              try simp only [Act.put, List.getElem_toArray, List.getElem_cons_zero, List.getElem_cons_succ, List.setIfInBounds_toArray, List.set_cons_zero, List.set_cons_succ]
              refine wpAny_take (i := 1) (v := ?_) rfl (by kernel_rfl) (by kernel_rfl) (by kernel_rfl) (fun _ _ _ h => h) (Or.inl ⟨by rfl, ?_⟩) ?_
              rotate_left
              · (intro w; go_simp; try with_reducible rfl)
              try simp only [Act.put, List.getElem_toArray, List.getElem_cons_zero, List.getElem_cons_succ, List.setIfInBounds_toArray, List.set_cons_zero, List.set_cons_succ]
              refine wpAny_take (i := 2) (v := ?_) rfl (by kernel_rfl) (by kernel_rfl) (by kernel_rfl) (fun _ _ _ h => h) (Or.inl ⟨by rfl, ?_⟩) ?_
              rotate_left
              · (intro w; go_simp; try with_reducible rfl)
              try simp only [Act.put, List.getElem_toArray, List.getElem_cons_zero, List.getElem_cons_succ, List.setIfInBounds_toArray, List.set_cons_zero, List.set_cons_succ]
              refine wpAny_take (i := 4) (v := ?_) rfl (by kernel_rfl) (by kernel_rfl) (by kernel_rfl) (fun _ _ _ h => h) (Or.inl ⟨by rfl, ?_⟩) ?_
              rotate_left
              · (intro w; go_simp; try with_reducible rfl)
              try simp only [Act.put, List.getElem_toArray, List.getElem_cons_zero, List.getElem_cons_succ, List.setIfInBounds_toArray, List.set_cons_zero, List.set_cons_succ]
              refine wpAny_take (i := 5) (v := ?_) rfl (by kernel_rfl) (by kernel_rfl) (by kernel_rfl) (fun _ _ _ h => h) (Or.inl ⟨by rfl, ?_⟩) ?_
              rotate_left
              · (intro w; go_simp; try with_reducible rfl)
              try simp only [Act.put, List.getElem_toArray, List.getElem_cons_zero, List.getElem_cons_succ, List.setIfInBounds_toArray, List.set_cons_zero, List.set_cons_succ]
              refine wpAny_take (i := 6) (v := ?_) rfl (by kernel_rfl) (by kernel_rfl) (by kernel_rfl) (fun _ _ _ h => h) (Or.inl ⟨by rfl, ?_⟩) ?_
              rotate_left
              · (intro w; go_simp; try with_reducible rfl)
              try simp only [Act.put, List.getElem_toArray, List.getElem_cons_zero, List.getElem_cons_succ, List.setIfInBounds_toArray, List.set_cons_zero, List.set_cons_succ]
              refine wpAny_take (i := 7) (v := ?_) rfl (by kernel_rfl) (by kernel_rfl) (by kernel_rfl) (fun _ _ _ h => h) (Or.inl ⟨by rfl, ?_⟩) ?_
              rotate_left
              · (intro w; go_simp; try with_reducible rfl)
              try simp only [Act.put, List.getElem_toArray, List.getElem_cons_zero, List.getElem_cons_succ, List.setIfInBounds_toArray, List.set_cons_zero, List.set_cons_succ]
              refine wpAny_ready (rs := [3]) (by kernel_rfl) (by simp) ?_
              refine AllReady.cons rfl (fun K hK => ?_) AllReady.nil
              refine step_cat _ (by rfl) _ _ (by rfl) _ [] T _ (by rfl) (Acc.start _) (some ⟨go, 0, none⟩) kk co (by rfl) lT.out.symm hT6 bl1 ?_
              intro v1 w8 hA8
              rw [List.nil_append] at hA8
              obtain ⟨p8, c8, hv8, _⟩ := hA8.own.its
              rw [lT.out] at hv8
              subst hv8
              try go_simp
              refine hK _ _ ?_; clear hK K
              try simp only [Act.put, List.getElem_toArray, List.getElem_cons_zero, List.getElem_cons_succ, List.setIfInBounds_toArray, List.set_cons_zero, List.set_cons_succ]
              refine wpAny_ready (rs := [8]) (by kernel_rfl) (by simp) ?_
              refine AllReady.cons rfl (fun K hK => ?_) AllReady.nil
              refine step_cat _ (by rfl) _ _ (by rfl) _ T D _ (by rfl) hA8 (some ⟨go, A, none⟩) (j0 - kk) (co - (kk + 1)) (by rfl) lD.out.symm (hD6.call hA8.below) bl2 ?_
              intro v9 w9 hA9
              try go_simp
              refine hK _ _ ?_; clear hK K
              try simp only [Act.put, List.getElem_toArray, List.getElem_cons_zero, List.getElem_cons_succ, List.setIfInBounds_toArray, List.set_cons_zero, List.set_cons_succ]
              refine wpAny_take (i := 9) (v := ?_) rfl (by kernel_rfl) (by kernel_rfl) (by kernel_rfl) (fun _ _ _ h => h) (Or.inl ⟨by rfl, ?_⟩) ?_
              rotate_left
              · (intro w; go_simp; try with_reducible rfl)
              try simp only [Act.put, List.getElem_toArray, List.getElem_cons_zero, List.getElem_cons_succ, List.setIfInBounds_toArray, List.set_cons_zero, List.set_cons_succ]
              refine wpAny_done (by kernel_rfl) ?_ _
              have hR9 := hR6.madeO hA9
              obtain ⟨p9, c9, rfl, _⟩ := hA9.own.its
              have hBw := hA9.below.block B (by show B < ((((w5.setCell ⟨B, 0, none⟩ _).setCell ⟨B, 1, none⟩ _).setCell ⟨B, 2, none⟩ _)).heap.size; rw [set3_size]; exact zB5)
              go_wp2_with fail
              go_meet
              exact ⟨closeI y, _, s.id, (lineF L s.m 3).2 + 1 + 1, HN, rfl, ⟨_, _, rfl⟩, hR9, hBw.trans HB6.out⟩
            · have HN := Lib.hid (nextG_close L tags true s.o s.id s.m (by have := HC.out; omega) ho (j0, (lineF L s.m 3).2 + 1) (by unfold pickK; rw [if_pos rfl, hj0]; rfl))
              obtain ⟨_, hco, hcm, hI⟩ := hR4.itsO
              obtain ⟨g0, d0, d1, d2⟩ := its_at hI j0 (by omega)
              have hT := its_take hI j0
              have hy : s.o.getD j0 ⟨0, .empty, 0⟩ = s.o[j0]'(by omega) := by rw [List.getD_eq_getElem?_getD, List.getElem?_eq_getElem (by omega)]; rfl
              have hyt : (s.o[j0]'(by omega)).t.size ≤ 5 := hz.ot _ (List.getElem_mem _)
              have lT0 : (s.o.take j0).length = j0 := by rw [List.length_take]; omega
              have lD0 : (s.o.drop (j0 + 1)).length = 0 := by rw [List.length_drop]; omega
              obtain ⟨A, hA, hAD⟩ : ∃ A, (if co = j0 + 1 then some (⟨go, 0, none⟩ : Addr) else some ⟨go, (j0 + 1) * 3, none⟩) = some ⟨go, A, none⟩ ∧ (co ≠ j0 + 1 → A = (j0 + 1) * 3) := by
                by_cases hc : co = j0 + 1
                · exact ⟨0, if_pos hc, fun h => absurd hc h⟩
                · exact ⟨_, if_neg hc, fun _ => rfl⟩
              have hA := Lib.hid hA
              have hD : Its w3 (some ⟨go, A, none⟩) (s.o.drop (j0 + 1)) := by
                by_cases hc : co = j0 + 1
                · exact its_empty (by omega)
                · rw [hAD hc]; exact its_drop hI (j0 + 1)
              have hoB2 : ∀ a, some (⟨go, A, none⟩ : Addr) = some a → a.block ≠ B := fun a e => by cases e; exact fun e2 => hoB (by simpa [Value.ownBlock] using e2)
              rw [hy] at HN
              generalize s.o[j0]'(by omega) = y at *
              generalize s.o.take j0 = T at *
              generalize s.o.drop (j0 + 1) = D at *
              rw [hj0] at hR4 hoB hco hzol ⊢
              obtain ⟨_, _, _, f0, f1, f2⟩ := cells_item hB3
              have HB3 := Lib.hid hB3
              unfold maxLen at hcm
              have hb1 : (j0 : Int) < (j0 : Int) + 1 := by omega
              have hb2 : (j0 : Int) < ((j0 + 1 : Nat) : Int) := by omega
              have hb0 : (0 : Int) ≤ (j0 : Int) := by omega
              have lT := Lib.hid lT0; have lD := Lib.hid lD0
              clear lT0 lD0 HL HC hB3 hj0 ho hy hI hAD
              have hnm := fun W => rname_any y.t W (by unfold maxLen; omega)
              have HNM := Lib.hid hnm; clear hnm
              go_upto_region 27 with fail
              go_still_tail 12, (by kernel_rfl)
              still_call ((HNM.out _).mono (fun e w' h => ⟨h.1, h.2.symm⟩))
              repeat still_step
              refine wpStill_nil ?_
              change wpList _ _ _ _ _ w3.drew
              go_wp2_with fail
              have hR6 := ((hR4.set3 B hsz2 hfB hoB (.int .i64 3) (.string (nameB y.t)) (.int .i64 y.id)).drewN 1).drewN 1
              have hT6 := (its_set3 hT B (own_ne hoB) (.int .i64 3) (.string (nameB y.t)) (.int .i64 y.id)).two
              have hD6 := (its_set3 hD B hoB2 (.int .i64 3) (.string (nameB y.t)) (.int .i64 y.id)).two
              have HB6 := Lib.hid (heap_set3 (a' := .int .i64 3) (b' := .string (nameB y.t)) (c' := .int .i64 y.id) HB3.out)
              have hA := hA.out
              have hs1 : j0 ≤ co := by omega
              have hs2 : j0 ≤ j0 := by omega
              have hlT := lT.out; have hlD := lD.out
              have bl1 : (([] : List It).length + T.length) * 32 ≤ 140737488355328 := by simp; omega
              have bl2 : (T.length + D.length) * 32 ≤ 140737488355328 := by omega
              clear hlT hlD
              have hw1 : IntKind.i64.wrap ((j0 : Int) + 1) = (j0 : Int) + 1 := IntWalk.i64_in _ ⟨by omega, by omega⟩
              have hw2 : (0 : Int) ≤ (j0 : Int) + 1 := by omega
              have hw3 : ((j0 : Int) + 1).toNat = j0 + 1 := by omega
              refine wp_region_any (by kernel_rfl) ?_
              try (change wpAny _ _ _ _ _ _ _ (World.drew _))
              refine wpAny_take (i := 0) (v := ?_) rfl (by kernel_rfl) (by kernel_rfl) (by kernel_rfl) (fun _ _ _ h => h) (Or.inl ⟨by rfl, ?_⟩) ?_
              rotate_left
              · (intro w; go_simp; try with_reducible rfl)
              try simp only [Act.put, List.getElem_toArray, List.getElem_cons_zero, List.getElem_cons_succ, List.setIfInBounds_toArray, List.set_cons_zero, List.set_cons_succ]
              refine wpAny_take (i := 1) (v := ?_) rfl (by kernel_rfl) (by kernel_rfl) (by kernel_rfl) (fun _ _ _ h => h) (Or.inl ⟨by rfl, ?_⟩) ?_
              rotate_left
              · (intro w; go_simp; try with_reducible rfl)
              try simp only [Act.put, List.getElem_toArray, List.getElem_cons_zero, List.getElem_cons_succ, List.setIfInBounds_toArray, List.set_cons_zero, List.set_cons_succ]
              refine wpAny_take (i := 2) (v := ?_) rfl (by kernel_rfl) (by kernel_rfl) (by kernel_rfl) (fun _ _ _ h => h) (Or.inl ⟨by rfl, ?_⟩) ?_
              rotate_left
              · (intro w; go_simp; try with_reducible rfl)
              try simp only [Act.put, List.getElem_toArray, List.getElem_cons_zero, List.getElem_cons_succ, List.setIfInBounds_toArray, List.set_cons_zero, List.set_cons_succ]
              refine wpAny_take (i := 4) (v := ?_) rfl (by kernel_rfl) (by kernel_rfl) (by kernel_rfl) (fun _ _ _ h => h) (Or.inl ⟨by rfl, ?_⟩) ?_
              rotate_left
              · (intro w; go_simp; try with_reducible rfl)
              try simp only [Act.put, List.getElem_toArray, List.getElem_cons_zero, List.getElem_cons_succ, List.setIfInBounds_toArray, List.set_cons_zero, List.set_cons_succ]
              refine wpAny_take (i := 5) (v := ?_) rfl (by kernel_rfl) (by kernel_rfl) (by kernel_rfl) (fun _ _ _ h => h) (Or.inl ⟨by rfl, ?_⟩) ?_
              rotate_left
              · (intro w; go_simp; try with_reducible rfl)
              try simp only [Act.put, List.getElem_toArray, List.getElem_cons_zero, List.getElem_cons_succ, List.setIfInBounds_toArray, List.set_cons_zero, List.set_cons_succ]
              refine wpAny_take (i := 6) (v := ?_) rfl (by kernel_rfl) (by kernel_rfl) (by kernel_rfl) (fun _ _ _ h => h) (Or.inl ⟨by rfl, ?_⟩) ?_
              rotate_left
              · (intro w; go_simp; try with_reducible rfl)
              try simp only [Act.put, List.getElem_toArray, List.getElem_cons_zero, List.getElem_cons_succ, List.setIfInBounds_toArray, List.set_cons_zero, List.set_cons_succ]
              refine wpAny_take (i := 7) (v := ?_) rfl (by kernel_rfl) (by kernel_rfl) (by kernel_rfl) (fun _ _ _ h => h) (Or.inl ⟨by rfl, ?_⟩) ?_
              rotate_left
              · (intro w; go_simp; try with_reducible rfl)
              try simp only [Act.put, List.getElem_toArray, List.getElem_cons_zero, List.getElem_cons_succ, List.setIfInBounds_toArray, List.set_cons_zero, List.set_cons_succ]
              refine wpAny_ready (rs := [3]) (by kernel_rfl) (by simp) ?_
              refine AllReady.cons rfl (fun K hK => ?_) AllReady.nil
              refine step_cat _ (by rfl) _ _ (by rfl) _ [] T _ (by rfl) (Acc.start _) (some ⟨go, 0, none⟩) j0 co (by rfl) lT.out.symm hT6 bl1 ?_
              intro v1 w8 hA8
              rw [List.nil_append] at hA8
              obtain ⟨p8, c8, hv8, _⟩ := hA8.own.its
              rw [lT.out] at hv8
              subst hv8
              try go_simp
              refine hK _ _ ?_; clear hK K
              try simp only [Act.put, List.getElem_toArray, List.getElem_cons_zero, List.getElem_cons_succ, List.setIfInBounds_toArray, List.set_cons_zero, List.set_cons_succ]
              refine wpAny_ready (rs := [8]) (by kernel_rfl) (by simp) ?_
              refine AllReady.cons rfl (fun K hK => ?_) AllReady.nil
              refine step_cat _ (by rfl) _ _ (by rfl) _ T D _ (by rfl) hA8 (some ⟨go, A, none⟩) (0) (co - (j0 + 1)) (by rfl) lD.out.symm (hD6.call hA8.below) bl2 ?_
              intro v9 w9 hA9
              try go_simp
              refine hK _ _ ?_; clear hK K
              try simp only [Act.put, List.getElem_toArray, List.getElem_cons_zero, List.getElem_cons_succ, List.setIfInBounds_toArray, List.set_cons_zero, List.set_cons_succ]
              refine wpAny_take (i := 9) (v := ?_) rfl (by kernel_rfl) (by kernel_rfl) (by kernel_rfl) (fun _ _ _ h => h) (Or.inl ⟨by rfl, ?_⟩) ?_
              rotate_left
              · (intro w; go_simp; try with_reducible rfl)
              try simp only [Act.put, List.getElem_toArray, List.getElem_cons_zero, List.getElem_cons_succ, List.setIfInBounds_toArray, List.set_cons_zero, List.set_cons_succ]
              refine wpAny_done (by kernel_rfl) ?_ _
              have hR9 := hR6.madeO hA9
              obtain ⟨p9, c9, rfl, _⟩ := hA9.own.its
              have hBw := hA9.below.block B (by show B < ((((w3.setCell ⟨B, 0, none⟩ _).setCell ⟨B, 1, none⟩ _).setCell ⟨B, 2, none⟩ _)).heap.size; rw [set3_size]; exact zB)
              go_wp2_with fail
              go_meet
              exact ⟨closeI y, _, s.id, (lineF L s.m 3).2 + 1, HN, rfl, ⟨_, _, rfl⟩, hR9, hBw.trans HB6.out⟩
          · have hol : s.o.length = 0 := by omega
            have q0 : decide ((0 : Int) ≤ (s.o.length : Int) - 1) = false := decide_eq_false (by omega)
            have q1 : decide ((1 : Int) ≤ (s.o.length : Int)) = false := decide_eq_false (by omega)
            have q2 : decide (1 ≤ s.o.length) = false := decide_eq_false (by omega)
            have q3 : decide (0 < s.o.length) = false := decide_eq_false (by omega)
            have HO := Lib.hid ho
            clear ho hol
            cases tags
            · have HN := Lib.hid (nextG_text L false nested s.o s.id s.m (by have := HC.out; have := HO.out; right; right; exact ⟨by omega, by omega, HO.out, by simp⟩))
              clear HL HC
              go_wp2_with fail
              go_meet
              exact ⟨⟨1, (lineF L s.m 3).1, 0⟩, s.o, s.id, (lineF L s.m 3).2 + 1, HN, rfl, ⟨_, _, rfl⟩, hR4, hB3⟩
            cases nested
            · have HN := Lib.hid (nextG_alone L true false s.o s.id s.m (by have := HC.out; omega) HO.out ⟨rfl, rfl⟩)
              obtain ⟨_, _, _, f0, f1, f2⟩ := cells_item hB3
              have HB3 := Lib.hid hB3
              clear HL HC hB3
              go_wp2_with fail
              go_meet
              exact ⟨⟨3, ⟨#[98]⟩, (s.id + 1 : Nat)⟩, s.o, s.id + 1, (lineF L s.m 3).2 + 1, HN, rfl, ⟨_, _, rfl⟩, hR4.set3 B hsz2 hfB hoB _ _ _, heap_set3 HB3.out⟩
            · have HN := Lib.hid (nextG_text L true true s.o s.id s.m (by have := HC.out; have := HO.out; right; right; exact ⟨by omega, by omega, HO.out, by simp⟩))
              clear HL HC
              go_wp2_with fail
              go_meet
              exact ⟨⟨1, (lineF L s.m 3).1, 0⟩, s.o, s.id, (lineF L s.m 3).2 + 1, HN, rfl, ⟨_, _, rfl⟩, hR4, hB3⟩
        · have HN := Lib.hid (nextG_text L tags nested s.o s.id s.m (by have := HC.out; omega))
          clear HL HC
          go_wp2_with fail
          go_meet
          exact ⟨⟨1, (lineF L s.m 3).1, 0⟩, s.o, s.id, (lineF L s.m 3).2 + 1, HN, rfl, ⟨_, _, rfl⟩, hR4, hB3⟩
      case rest =>
        obtain ⟨x, o', id', m', HX, rfl, ⟨p1, c1, rfl⟩, hR5, hB5⟩ := hcut
        obtain ⟨y0, y1, y2, _, _, _⟩ := cells_item hB5
        have hstp : stepG L tags nested s = ⟨norm (s.f ++ [x]), o', id', m'⟩ := by unfold stepG; rw [HX.out]
        rw [hstp] at hz'
        have hrun : runG L tags nested k ⟨norm (s.f ++ [x]), o', id', m'⟩ = F := by rw [← hstp]; exact HL.out
        have hz5 := hz.fl; have hz6 := hz.ft
        have hx5 := next_ok L tags nested s.o s.id s.m hz.ot
        rw [HX.out] at hx5
        have hx6 : x.t.size ≤ 18 := hx5.x
        have htx : txtI [x] = x.t.size := by simp [txtI]
        have hcat := fun W q (hR : Its W pf s.f) (hS : Its W q [x]) => rconcat_any pf q cf 1 s.f [x] W hR hS (by simp; omega) (by rw [htx]; omega)
        have HCat := Lib.hid hcat; have HRun := Lib.hid hrun
        clear hcat hrun hstp htx hx5 hx6 hz5 hz6
        have hR6 := hR5.alloc (.cells #[.int .i64 x.k, .string x.t, .int .i64 x.id] 27)
        have hS6 := its_one (heap_alloc_new wc (.cells #[.int .i64 x.k, .string x.t, .int .i64 x.id] 27))
        go_wp2_with fail
        refine (HCat.out _ _ hR6.itsF.2.2.2 hS6).mono ?_
        rintro e w7 ⟨v7, rfl, hA7⟩
        have hR7 := hR6.made hA7
        obtain ⟨p7, c7, rfl, _⟩ := hR7.f.its
        go_wp2_with fail
        go_roundw
        case rel => exact ⟨k, j + 1, ⟨norm (s.f ++ [x]), o', id', m'⟩, rfl, rfl, ⟨_, _, rfl⟩, ⟨_, _, rfl⟩, by omega, hz', hR7, HRun⟩
        case measure => simp [intOf]
    · obtain rfl : k = 0 := by omega
      have hfin : s = F := HL.out
      subst hfin
      have hzf := hz.fl; have hzo := hz.ol
      go_wp2_with fail
      go_loopw [9, 15] (fun vf z wr' => ∃ (i : Nat) (zi : Int), i ≤ s.o.length ∧ z = .int .i64 zi ∧ zi = (i : Int) - 1 ∧ (∃ p c, vf = .slice p (closeF s.f s.o i).length c) ∧ (nested = false → i = s.o.length) ∧ GRel b pn cn L w (closeF s.f s.o i) s.o s.m vf (.slice po s.o.length co) wr') (fun _ z _ => (intOf z + 1).toNat)
      case atStart => exact ⟨s.o.length, _, Nat.le_refl _, rfl, rfl, ⟨pf, cf, by rw [closeF_all]⟩, fun _ => rfl, by rw [closeF_all]; exact hR⟩
      case round =>
        obtain ⟨i, zi, hi, rfl, hzi, ⟨pf2, cf2, rfl⟩, hns, hR2⟩ := hrel
        have hlen := closeF_len s.f s.o i
        by_cases hgo : 0 < i ∧ nested = true
        · obtain ⟨h0, rfl⟩ := hgo
          obtain ⟨j, rfl⟩ : ∃ j, i = j + 1 := ⟨i - 1, by omega⟩
          obtain rfl : zi = (j : Int) := by omega
          have q1 : decide ((0 : Int) ≤ (j : Int)) = true := decide_eq_true (by omega)
          have ho : 0 < s.o.length := by omega
          obtain ⟨go, rfl⟩ := hR2.atO ho
          obtain ⟨_, hco, hcm, hI⟩ := hR2.itsO
          obtain ⟨g0, d0, d1, d2⟩ := its_at hI j (by omega)
          have hnx := closeF_next s.f s.o j (by omega)
          have hyt : (s.o[j]'(by omega)).t.size ≤ 5 := hz.ot _ (List.getElem_mem _)
          generalize s.o[j]'(by omega) = y at *
          generalize closeF s.f s.o (j + 1) = M at *
          have HX := Lib.hid hnx; clear hnx hzi
          unfold maxLen at hcm
          have hb1 : (j : Int) < (s.o.length : Int) := by omega
          have hb0 : (0 : Int) ≤ (j : Int) := by omega
          have hb2 : j < s.o.length := by omega
          have hnm := fun W => rname_any y.t W (by unfold maxLen; omega)
          have HNM := Lib.hid hnm; clear hnm
          go_wp2_with fail
          refine wp_region_held_drew (S := fun W => W.cell? ⟨go, j * 3 + 1, none⟩ = some (.string y.t) ∧ W.cell? ⟨go, j * 3 + 2, none⟩ = some (.int .i64 y.id)) (by kernel_rfl) (⟨d1, d2⟩) (fun hHeld => ?_)
          refine wpAnyH_take (i := 0) (v := ?_) rfl (by kernel_rfl) (by kernel_rfl) (by kernel_rfl) (fun _ _ _ h => h) (Or.inl ⟨by rfl, ?_⟩) hHeld ?_
          rotate_left
          · (intro w hSw; (try dsimp only at hSw); go_simp; try with_reducible rfl)
          try simp only [Act.put, List.getElem_toArray, List.getElem_cons_zero, List.getElem_cons_succ, List.setIfInBounds_toArray, List.set_cons_zero, List.set_cons_succ]
          refine wpAnyH_take (i := 1) (v := ?_) rfl (by kernel_rfl) (by kernel_rfl) (by kernel_rfl) (fun _ _ _ h => h) (Or.inl ⟨by rfl, ?_⟩) hHeld ?_
          rotate_left
          · (intro w hSw; (try dsimp only at hSw); go_simp; try with_reducible rfl)
          try simp only [Act.put, List.getElem_toArray, List.getElem_cons_zero, List.getElem_cons_succ, List.setIfInBounds_toArray, List.set_cons_zero, List.set_cons_succ]
          refine wpAnyH_take (i := 2) (v := ?_) rfl (by kernel_rfl) (by kernel_rfl) (by kernel_rfl) (fun _ _ _ h => h) (Or.inl ⟨by rfl, ?_⟩) hHeld ?_
          rotate_left
          · (intro w hSw; (try dsimp only at hSw); go_simp; try with_reducible rfl)
          try simp only [Act.put, List.getElem_toArray, List.getElem_cons_zero, List.getElem_cons_succ, List.setIfInBounds_toArray, List.set_cons_zero, List.set_cons_succ]
          refine wpAnyH_take (i := 3) (v := ?_) rfl (by kernel_rfl) (by kernel_rfl) (by kernel_rfl) (fun _ _ _ h => h) (Or.inl ⟨by rfl, ?_⟩) hHeld ?_
          rotate_left
          · (intro w hSw; (try dsimp only at hSw); go_simp; try with_reducible rfl)
          try simp only [Act.put, List.getElem_toArray, List.getElem_cons_zero, List.getElem_cons_succ, List.setIfInBounds_toArray, List.set_cons_zero, List.set_cons_succ]
          refine wpAnyH_take (i := 4) (v := ?_) rfl (by kernel_rfl) (by kernel_rfl) (by kernel_rfl) (fun _ _ _ h => h) (Or.inl ⟨by rfl, ?_⟩) hHeld ?_
          rotate_left
          · (intro w hSw; (try dsimp only at hSw); go_simp; try with_reducible rfl)
          try simp only [Act.put, List.getElem_toArray, List.getElem_cons_zero, List.getElem_cons_succ, List.setIfInBounds_toArray, List.set_cons_zero, List.set_cons_succ]
          refine wpAnyH_take (i := 5) (v := ?_) rfl (by kernel_rfl) (by kernel_rfl) (by kernel_rfl) (fun _ _ _ h => h) (Or.inl ⟨by rfl, ?_⟩) hHeld ?_
          rotate_left
          · (intro w hSw; (try dsimp only at hSw); go_simp; try with_reducible rfl)
          try simp only [Act.put, List.getElem_toArray, List.getElem_cons_zero, List.getElem_cons_succ, List.setIfInBounds_toArray, List.set_cons_zero, List.set_cons_succ]
          refine wpAnyH_take (i := 7) (v := ?_) rfl (by kernel_rfl) (by kernel_rfl) (by kernel_rfl) (fun _ _ _ h => h) (Or.inl ⟨by rfl, ?_⟩) hHeld ?_
          rotate_left
          · (intro w hSw; (try dsimp only at hSw); go_simp; try with_reducible rfl)
          try simp only [Act.put, List.getElem_toArray, List.getElem_cons_zero, List.getElem_cons_succ, List.setIfInBounds_toArray, List.set_cons_zero, List.set_cons_succ]
          refine wpAnyH_take (i := 8) (v := ?_) rfl (by kernel_rfl) (by kernel_rfl) (by kernel_rfl) (fun _ _ _ h => h) (Or.inl ⟨by rfl, ?_⟩) hHeld ?_
          rotate_left
          · (intro w hSw; (try dsimp only at hSw); go_simp; try with_reducible rfl)
          try simp only [Act.put, List.getElem_toArray, List.getElem_cons_zero, List.getElem_cons_succ, List.setIfInBounds_toArray, List.set_cons_zero, List.set_cons_succ]
          refine wpAnyH_take (i := 9) (v := ?_) rfl (by kernel_rfl) (by kernel_rfl) (by kernel_rfl) (fun _ _ _ h => h) (Or.inl ⟨by rfl, ?_⟩) hHeld ?_
          rotate_left
          · (intro w hSw; (try dsimp only at hSw); go_simp; try with_reducible rfl)
          try simp only [Act.put, List.getElem_toArray, List.getElem_cons_zero, List.getElem_cons_succ, List.setIfInBounds_toArray, List.set_cons_zero, List.set_cons_succ]
          refine wpAnyH_take (i := 10) (v := ?_) rfl (by kernel_rfl) (by kernel_rfl) (by kernel_rfl) (fun _ _ _ h => h) (Or.inl ⟨by rfl, ?_⟩) hHeld ?_
          rotate_left
          · (intro w hSw; (try dsimp only at hSw); go_simp; try with_reducible rfl)
          try simp only [Act.put, List.getElem_toArray, List.getElem_cons_zero, List.getElem_cons_succ, List.setIfInBounds_toArray, List.set_cons_zero, List.set_cons_succ]
          refine wpAnyH_take (i := 11) (v := ?_) rfl (by kernel_rfl) (by kernel_rfl) (by kernel_rfl) (fun _ _ _ h => h) (Or.inl ⟨by rfl, ?_⟩) hHeld ?_
          rotate_left
          · (intro w hSw; (try dsimp only at hSw); go_simp; try with_reducible rfl)
          try simp only [Act.put, List.getElem_toArray, List.getElem_cons_zero, List.getElem_cons_succ, List.setIfInBounds_toArray, List.set_cons_zero, List.set_cons_succ]
          refine wpAnyH_ready (rs := [6]) (by kernel_rfl) (by simp) ?_
          refine AllReadyH.cons rfl (fun K hK => ?_) (AllReadyH.nil)
          go_simp
          refine (HNM.out _).mono ?_; rintro e w3 ⟨rfl, rfl⟩
          go_wp2_with fail
          refine hK.out _ _ (hHeld) (fun hHeld => ?_)
          clear hK K
          try simp only [Act.put, List.getElem_toArray, List.getElem_cons_zero, List.getElem_cons_succ, List.setIfInBounds_toArray, List.set_cons_zero, List.set_cons_succ]
          refine wpAnyH_take (i := 12) (v := ?_) rfl (by kernel_rfl) (by kernel_rfl) (by kernel_rfl) (fun _ _ _ h => h) (Or.inl ⟨by rfl, ?_⟩) hHeld ?_
          rotate_left
          · (intro w hSw; (try dsimp only at hSw); go_simp; try with_reducible rfl)
          try simp only [Act.put, List.getElem_toArray, List.getElem_cons_zero, List.getElem_cons_succ, List.setIfInBounds_toArray, List.set_cons_zero, List.set_cons_succ]
          have hR3 := (hR2.drewN 1).alloc (.cells #[.int .i64 3, .string (nameB y.t), .int .i64 y.id] 27)
          refine wpAnyH_ready (rs := [13]) (by kernel_rfl) (by simp) ?_
          refine AllReadyH.cons rfl (fun K hK => ?_) (AllReadyH.nil)
          go_simp
          refine hK.out _ _ (its_held2 hHeld _) (fun hHeld => ?_)
          clear hK K
          try simp only [Act.put, List.getElem_toArray, List.getElem_cons_zero, List.getElem_cons_succ, List.setIfInBounds_toArray, List.set_cons_zero, List.set_cons_succ]
          refine wpAnyH_ready (rs := [14]) (by kernel_rfl) (by simp) ?_
          refine AllReadyH.cons rfl (fun K hK => ?_) (AllReadyH.nil)
          refine step_app eI _ (by rfl) _ _ (by rfl) w.heap.size M _ (by rfl) hR3.f hR3.chg.size (closeI y) wr.heap.size #[.int .i64 3, .string (nameB y.t), .int .i64 y.id] (by rfl) (heap_alloc_new _ _) (by rfl) (by omega) (by unfold maxLen; omega) ?_
          intro g2 cp w4 hown4 hgr4 hloc4
          have hR4 := hR3.pushF hown4 hgr4 hloc4
          have hk4 := hgr4.block go (Nat.lt_of_lt_of_le g0 (blw (Below.refl _ wr) _).size) (fun e => hR3.ne _ e.symm rfl)
          refine hK.out _ _ (⟨(World.cell?_of_block hk4).trans hHeld.1, (World.cell?_of_block hk4).trans hHeld.2⟩) (fun hHeld => ?_)
          clear hK K
          try simp only [Act.put, List.getElem_toArray, List.getElem_cons_zero, List.getElem_cons_succ, List.setIfInBounds_toArray, List.set_cons_zero, List.set_cons_succ]
          refine wpAnyH_take (i := 15) (v := ?_) rfl (by kernel_rfl) (by kernel_rfl) (by kernel_rfl) (fun _ _ _ h => h) (Or.inl ⟨by rfl, ?_⟩) hHeld ?_
          rotate_left
          · (intro w hSw; (try dsimp only at hSw); go_simp; try with_reducible rfl)
          try simp only [Act.put, List.getElem_toArray, List.getElem_cons_zero, List.getElem_cons_succ, List.setIfInBounds_toArray, List.set_cons_zero, List.set_cons_succ]
          refine wpAnyH_done (by kernel_rfl) ?_ _
          go_wp2_with fail
          go_roundw
          case rel =>
            (repeat apply Exists.intro)
            exact ⟨⟨j, (j : Int) - 1, by omega, rfl, rfl, ⟨_, _, by rw [HX.out, List.length_append]; rfl⟩, (fun h => by cases h), by rw [HX.out]; exact hR4⟩, rfl⟩
          case measure => simp [intOf]
        · cases nested
          · have hil := hns rfl
            subst hil
            rw [closeF_all] at hR2
            have HX := Lib.hid (closeF_all s.f s.o)
            have hgf := HG.out
            rw [if_neg (by decide)] at hgf
            rw [closeF_all]
            obtain ⟨_, _, _, hIf⟩ := hR2.itsF
            have HGf := Lib.hid hgf
            clear hzi hgf hgo hns hIf
            by_cases hz0 : 0 ≤ zi
            · have q1 : decide (0 ≤ zi) = true := decide_eq_true hz0
              go_wp2_with fail
              go_ret
              rw [← HGf.out]
              exact ⟨_, rfl, hR2.chg, hR2.nums, hR2.f⟩
            · have q1 : decide (0 ≤ zi) = false := decide_eq_false hz0
              go_wp2_with fail
              go_ret
              rw [← HGf.out]
              exact ⟨_, rfl, hR2.chg, hR2.nums, hR2.f⟩
          · obtain rfl : i = 0 := by rcases Nat.eq_zero_or_pos i with h | h; exact h; exact absurd ⟨h, rfl⟩ hgo
            obtain rfl : zi = -1 := by omega
            rw [closeF_none] at hR2 ⊢
            have hgf := HG.out
            rw [if_pos rfl] at hgf
            generalize s.f ++ s.o.reverse.map closeI = M at *
            have HGf := Lib.hid hgf
            clear hzi hgf hgo hns
            go_wp2_with fail
            go_ret
            rw [← HGf.out]
            exact ⟨_, rfl, hR2.chg, hR2.nums, hR2.f⟩
end Go.Proofs.Ytinkejbdlfjjbaa
