/- The generator of fragments: the walk. What does not look at texts does not see Normalize: shapes, numbers, tags, placeholders of a normalized fragment. What the generator makes is valid; nested, it has an empty shape. Shape. The reference's Plain, SameInts, SameTexts. What the law's own generator answers; what Shape answers, in one form. Plain mathematics of slices of fragments. The law's generator; the walks of TokenTokens, TokenJoins, TokenRoundTrips and TokenCounts. -/
import Derived.Test.YthfgpagmepdblaaGreatItD
import Derived.Test.YthfgpagmepdblaaGreatNrq
import Derived.Test.YthfgpagmepdblaaGreatPln
import Derived.Test.YthfgpagmepdblaaGreatRnr
import Derived.Test.YthfgpagmepdblaaGreatSam
import Derived.Test.YthfgpagmepdblaaGreatSli
import Derived.Test.YthfgpagmepdblaaGreatTkA
namespace Go.Proofs.YthfgpagmepdblaaGreat
open Go.ChangeShapes Go.WideShapes Go.ChangeAt Go.RowKit
set_option linter.unusedVariables false
set_option linter.unusedSimpArgs false
set_option maxRecDepth 100000

set_option maxHeartbeats 6400000 in
theorem fragment_any (b : Nat) (pn : Option Addr) (cn : Nat) (L : List Int) (m : Nat) (tags nested : Bool) (n : Int) (N : Nat) (hnN : n = (N : Int)) (w : World) (h : NumsAt w b pn cn L m) (hlo : 0 < L.length → ∀ a, pn = some a → a.block < w.heap.size) (hm : m ≤ 100000) (hn : N ≤ 100) :
    Calls Tryz.prog 18 #[.pointer (some ⟨b, 0, none⟩), .int .i64 n, .bool tags, .bool nested] w fun e w' => ∃ v, e = .returned v ∧ w.grownBy w' (some b) ∧ NumsAt w' b pn cn L (fragG L tags nested m N).2 ∧ OwnI w.heap.size (fragG L tags nested m N).1 v w' := by
  subst hnN
  have h1 := fun W h => next_any b pn cn L m ((N : Int) + 1) (N + 1) (by omega) W h (by omega) (by omega) (by omega)
  have hi0 := nx_lt L m (N + 1) (by omega)
  generalize hG : fragG L tags nested m N = G at *
  unfold fragG startG at hG
  generalize nx L m (N + 1) = i0 at *
  generalize hF : runG L tags nested i0 ⟨[], [], 0, m + 1⟩ = F at *
  have H1 := Lib.hid h1; clear h1
  have HG := Lib.hid hG; clear hG
  have HF := Lib.hid hF; clear hF
  have hr0 : GRel b pn cn L w [] [] m (.slice none 0 0) (.slice none 0 0) w := ⟨h.lt, World.grownBy.refl _ _, h, OwnL.nil _ _, OwnL.nil _ _, fun k h => by simp [Value.ownBlock] at h, hlo⟩
  go_enter Tryz.func18, Tryz.ntmps18
  go_wp2_with fail
  refine (H1.out _ h).mono ?_
  rintro e w1 ⟨rfl, hg, hN⟩
  have hr1 := hr0.next hg hN
  clear hr0
  go_wp2_with fail
  go_loopw [9, 10, 11, 12] (fun vf vo vi i wr => ∃ (k n : Nat) (s : St), i = .int .i64 k ∧ vi = .int .i64 s.id ∧ (∃ p c, vf = .slice p s.f.length c) ∧ (∃ p c, vo = .slice p s.o.length c) ∧ k + n = i0 ∧ Sz (m + 1) s n ∧ GRel b pn cn L w s.f s.o s.m vf vo wr ∧ Hid (runG L tags nested k s = F)) (fun _ _ _ i _ => (intOf i).toNat)
  case atStart => exact ⟨i0, 0, ⟨[], [], 0, m + 1⟩, rfl, rfl, ⟨_, _, rfl⟩, ⟨_, _, rfl⟩, rfl, ⟨Nat.le_refl _, Nat.le_refl _, Nat.le_refl _, fun y hy => by (cases hy), Nat.le_refl _, Nat.le_refl _, Nat.le_refl _⟩, hr1, HF⟩
  case round =>
    obtain ⟨k, j, s, rfl, rfl, ⟨pf, cf, rfl⟩, ⟨po, co, rfl⟩, hkj, hz, hR, HL⟩ := hrel
    by_cases hlt : 0 < k
    · have q : decide (0 < (k : Int)) = true := decide_eq_true (by omega)
      obtain ⟨k, rfl⟩ : ∃ j, k = j + 1 := ⟨k - 1, by omega⟩
      have hz' := hz.step L tags nested
      have hzm := hz.m
      have hL := fun W h => line_any b pn cn L s.m 3 3 rfl W h (by omega) (by omega)
      have h8 := fun W h => next_any b pn cn L (lineF L s.m 3).2 8 8 rfl W h (by have := lineF_size L s.m 3; omega) (by omega) (by omega)
      obtain ⟨cI, hcI⟩ : ∃ z : Int, z = (nx L (lineF L s.m 3).2 8 : Int) := ⟨_, rfl⟩
      rw [← hcI] at h8
      have HL3 := Lib.hid hL; have H8 := Lib.hid h8; have HC := Lib.hid hcI
      clear hL h8 hcI
      go_wp2_with fail
      refine (HL3.out _ hR.nums).mono ?_
      rintro e w2 ⟨rfl, hg2, hN2⟩
      have hR2 := hR.next hg2 hN2
      go_wp2_with fail
      have hR3 := hR2.alloc (.cells #[.int .i64 1, .string (lineF L s.m 3).1, .int .i64 0] 45)
      have hbw := hR.base
      have hsz2 : w.heap.size ≤ w2.heap.size := hR2.chg.size
      refine (H8.out _ hR3.nums).mono ?_
      rintro e w3 ⟨rfl, hg3, hN3⟩
      have hR4 := hR3.next hg3 hN3
      have hB3 := (hg3.block w2.heap.size (by simp) (fun e => by injection e with e; omega)).trans (heap_alloc_new w2 _)
      have hfB : (Value.slice pf s.f.length cf).ownBlock ≠ some w2.heap.size := fun e => by have := (hR2.f.lt _ e).2; omega
      have hoB : (Value.slice po s.o.length co).ownBlock ≠ some w2.heap.size := fun e => by have := (hR2.o.lt _ e).2; omega
      have zB : w2.heap.size < w3.heap.size := by have := hg3.size; simp at this; omega
      generalize w2.heap.size = B at *
      clear hR3 hN3 hg3 hR2 hN2 hg2 HL3 H8
      go_upto_block 2 with fail
      go_cut [10, 11, 14] from 20 to 114 (fun vo' vi' _ wx => ∃ (x : It) (o' : List It) (id' m' : Nat), Hid (nextG L tags nested s.o s.id s.m = (x, o', id', m')) ∧ vi' = .int .i64 id' ∧ (∃ p c, vo' = .slice p o'.length c) ∧ GRel b pn cn L w s.f o' m' (.slice pf s.f.length cf) vo' wx ∧ wx.heap[B]? = some (.cells #[.int .i64 x.k, .string x.t, .int .i64 x.id] 45 (0, 0)))
      case first =>
        have hc8 : cI = 0 ∨ cI = 1 ∨ cI = 2 ∨ cI = 3 ∨ cI = 4 ∨ cI = 5 ∨ cI = 6 ∨ cI = 7 := by have := nx_lt L (lineF L s.m 3).2 8 (by omega); have := HC.out; omega
        have hlf := lineF_size L s.m 3
        have hzol := hz.ol
        have hzid := hz.id
        have h2 := fun W h => next_any b pn cn L ((lineF L s.m 3).2 + 1) 2 2 rfl W h (by omega) (by omega) (by omega)
        have h3 := fun W h => next_any b pn cn L ((lineF L s.m 3).2 + 1) 3 3 rfl W h (by omega) (by omega) (by omega)
        have H2 := Lib.hid h2; have H3 := Lib.hid h3; clear h2 h3
        rcases hc8 with rfl | rfl | rfl | rfl | rfl | rfl | rfl | rfl
        · have hk3 := nx_lt L ((lineF L s.m 3).2 + 1) 3 (by omega)
          have HN := Lib.hid (nextG_slot L tags nested s.o s.id s.m (by have := HC.out; omega))
          clear HL HC
          go_wp2_with fail
          refine (H3.out _ (hR4.alloc _).nums).mono ?_
          rintro e w5 ⟨rfl, hg5, hN5⟩
          have hrow := pick_row ((hg5.block w3.heap.size (by simp) (fun e => by injection e; omega)).trans (heap_alloc_new w3 _)) slotL rfl _ (nx_lt L ((lineF L s.m 3).2 + 1) 3 (by omega))
          have hB5 := (hg5.block B (by simp; omega) (fun e => by injection e; omega)).trans ((Lib.alloc_old w3 _ B zB).trans hB3)
          have hR5 := (hR4.alloc _).next hg5 hN5
          obtain ⟨_, _, _, f0, f1, f2⟩ := cells_item hB5
          have HB5 := Lib.hid hB5
          have zB5 : B < w5.heap.size := (Array.getElem?_eq_some_iff.1 hB5).1
          clear hB5
          go_wp2_with fail
          go_meet
          exact ⟨⟨5, pickB slotL (nx L ((lineF L s.m 3).2 + 1) 3), 0⟩, s.o, s.id, (lineF L s.m 3).2 + 1 + 1, HN, rfl, ⟨_, _, rfl⟩, hR5.set3 B hsz2 hfB hoB _ _ _, heap_set3 HB5.out⟩
        · have hk3 := nx_lt L ((lineF L s.m 3).2 + 1) 3 (by omega)
          have HN := Lib.hid (nextG_slot L tags nested s.o s.id s.m (by have := HC.out; omega))
          clear HL HC
          go_wp2_with fail
          refine (H3.out _ (hR4.alloc _).nums).mono ?_
          rintro e w5 ⟨rfl, hg5, hN5⟩
          have hrow := pick_row ((hg5.block w3.heap.size (by simp) (fun e => by injection e; omega)).trans (heap_alloc_new w3 _)) slotL rfl _ (nx_lt L ((lineF L s.m 3).2 + 1) 3 (by omega))
          have hB5 := (hg5.block B (by simp; omega) (fun e => by injection e; omega)).trans ((Lib.alloc_old w3 _ B zB).trans hB3)
          have hR5 := (hR4.alloc _).next hg5 hN5
          obtain ⟨_, _, _, f0, f1, f2⟩ := cells_item hB5
          have HB5 := Lib.hid hB5
          have zB5 : B < w5.heap.size := (Array.getElem?_eq_some_iff.1 hB5).1
          clear hB5
          go_wp2_with fail
          go_meet
          exact ⟨⟨5, pickB slotL (nx L ((lineF L s.m 3).2 + 1) 3), 0⟩, s.o, s.id, (lineF L s.m 3).2 + 1 + 1, HN, rfl, ⟨_, _, rfl⟩, hR5.set3 B hsz2 hfB hoB _ _ _, heap_set3 HB5.out⟩
        · cases tags
          · have HN := Lib.hid (nextG_text L false nested s.o s.id s.m (by have := HC.out; exact Or.inr (Or.inl ⟨by omega, by omega, rfl⟩)))
            clear HL HC
            go_wp2_with fail
            go_meet
            exact ⟨⟨1, (lineF L s.m 3).1, 0⟩, s.o, s.id, (lineF L s.m 3).2 + 1, HN, rfl, ⟨_, _, rfl⟩, hR4, hB3⟩
          have hk3 := nx_lt L ((lineF L s.m 3).2 + 1) 2 (by omega)
          have HN := Lib.hid (nextG_empty L true nested s.o s.id s.m (by have := HC.out; omega) rfl)
          clear HL HC
          go_wp2_with fail
          refine (H2.out _ (hR4.alloc _).nums).mono ?_
          rintro e w5 ⟨rfl, hg5, hN5⟩
          have hrow := pick_row ((hg5.block w3.heap.size (by simp) (fun e => by injection e; omega)).trans (heap_alloc_new w3 _)) emptyL rfl _ (nx_lt L ((lineF L s.m 3).2 + 1) 2 (by omega))
          have hB5 := (hg5.block B (by simp; omega) (fun e => by injection e; omega)).trans ((Lib.alloc_old w3 _ B zB).trans hB3)
          have hR5 := (hR4.alloc _).next hg5 hN5
          obtain ⟨_, _, _, f0, f1, f2⟩ := cells_item hB5
          have HB5 := Lib.hid hB5
          have zB5 : B < w5.heap.size := (Array.getElem?_eq_some_iff.1 hB5).1
          clear hB5
          go_wp2_with fail
          go_meet
          exact ⟨⟨4, pickB emptyL (nx L ((lineF L s.m 3).2 + 1) 2), (s.id + 1 : Nat)⟩, s.o, s.id + 1, (lineF L s.m 3).2 + 1 + 1, HN, rfl, ⟨_, _, rfl⟩, hR5.set3 B hsz2 hfB hoB _ _ _, heap_set3 HB5.out⟩
        · cases tags
          · have HN := Lib.hid (nextG_text L false nested s.o s.id s.m (by have := HC.out; exact Or.inr (Or.inl ⟨by omega, by omega, rfl⟩)))
            clear HL HC
            go_wp2_with fail
            go_meet
            exact ⟨⟨1, (lineF L s.m 3).1, 0⟩, s.o, s.id, (lineF L s.m 3).2 + 1, HN, rfl, ⟨_, _, rfl⟩, hR4, hB3⟩
          have hk3 := nx_lt L ((lineF L s.m 3).2 + 1) 3 (by omega)
          have HN := Lib.hid (nextG_open L true nested s.o s.id s.m (by have := HC.out; omega) rfl)
          clear HL HC
          go_wp2_with fail
          refine (H3.out _ (hR4.alloc _).nums).mono ?_
          rintro e w5 ⟨rfl, hg5, hN5⟩
          have hrow := pick_row ((hg5.block w3.heap.size (by simp) (fun e => by injection e; omega)).trans (heap_alloc_new w3 _)) openL rfl _ (nx_lt L ((lineF L s.m 3).2 + 1) 3 (by omega))
          have hB5 := (hg5.block B (by simp; omega) (fun e => by injection e; omega)).trans ((Lib.alloc_old w3 _ B zB).trans hB3)
          have hR5 := (hR4.alloc _).next hg5 hN5
          obtain ⟨_, _, _, f0, f1, f2⟩ := cells_item hB5
          have HB5 := Lib.hid hB5
          have zB5 : B < w5.heap.size := (Array.getElem?_eq_some_iff.1 hB5).1
          clear hB5
          have hR6 := hR5.set3 B hsz2 hfB hoB (.int .i64 2) (.string (pickB openL (nx L ((lineF L s.m 3).2 + 1) 3))) (.int .i64 ((s.id : Int) + 1))
          have HB6 := Lib.hid (heap_set3 (a' := .int .i64 2) (b' := .string (pickB openL (nx L ((lineF L s.m 3).2 + 1) 3))) (c' := .int .i64 ((s.id : Int) + 1)) HB5.out)
          have hR7 := hR6.alloc (.cells #[.int .i64 2, .string (pickB openL (nx L ((lineF L s.m 3).2 + 1) 3)), .int .i64 ((s.id : Int) + 1)] 45)
          have hsz7 := hR7.chg.size
          have hnew7 := heap_alloc_new (((w5.setCell ⟨B, 0, none⟩ (.int .i64 2)).setCell ⟨B, 1, none⟩ (.string (pickB openL (nx L ((lineF L s.m 3).2 + 1) 3)))).setCell ⟨B, 2, none⟩ (.int .i64 ((s.id : Int) + 1))) (.cells #[.int .i64 2, .string (pickB openL (nx L ((lineF L s.m 3).2 + 1) 3)), .int .i64 ((s.id : Int) + 1)] 45)
          rw [set3_size] at hnew7
          have HN7 := Lib.hid hnew7; clear hnew7
          go_wp2_with (at_builtin; refine wpl_app eI _ rfl _ _ rfl w.heap.size s.o _ rfl hR7.o hsz7 ⟨2, pickB openL (nx L ((lineF L s.m 3).2 + 1) 3), (s.id : Int) + 1⟩ w5.heap.size _ rfl HN7.out rfl (by omega) (by unfold maxLen; omega) ?_; intro g2 cp w8 hown8 hgr8 hloc8)
          have hR8 := hR7.push hown8 hgr8 hloc8
          have hB8 := (hgr8.block B (by simp; omega) (fun e => hoB e.symm)).trans ((Lib.alloc_old _ _ B (by simp; omega)).trans HB6.out)
          go_wp2_with fail
          go_meet
          exact ⟨⟨2, pickB openL (nx L ((lineF L s.m 3).2 + 1) 3), (s.id + 1 : Nat)⟩, s.o ++ [⟨2, pickB openL (nx L ((lineF L s.m 3).2 + 1) 3), (s.id + 1 : Nat)⟩], s.id + 1, (lineF L s.m 3).2 + 1 + 1, HN, rfl, ⟨_, _, by rw [List.length_append]; rfl⟩, hR8, hB8⟩
        · cases tags
          · have HN := Lib.hid (nextG_text L false nested s.o s.id s.m (by have := HC.out; exact Or.inr (Or.inl ⟨by omega, by omega, rfl⟩)))
            clear HL HC
            go_wp2_with fail
            go_meet
            exact ⟨⟨1, (lineF L s.m 3).1, 0⟩, s.o, s.id, (lineF L s.m 3).2 + 1, HN, rfl, ⟨_, _, rfl⟩, hR4, hB3⟩
          have hk3 := nx_lt L ((lineF L s.m 3).2 + 1) 3 (by omega)
          have HN := Lib.hid (nextG_open L true nested s.o s.id s.m (by have := HC.out; omega) rfl)
          clear HL HC
          go_wp2_with fail
          refine (H3.out _ (hR4.alloc _).nums).mono ?_
          rintro e w5 ⟨rfl, hg5, hN5⟩
          have hrow := pick_row ((hg5.block w3.heap.size (by simp) (fun e => by injection e; omega)).trans (heap_alloc_new w3 _)) openL rfl _ (nx_lt L ((lineF L s.m 3).2 + 1) 3 (by omega))
          have hB5 := (hg5.block B (by simp; omega) (fun e => by injection e; omega)).trans ((Lib.alloc_old w3 _ B zB).trans hB3)
          have hR5 := (hR4.alloc _).next hg5 hN5
          obtain ⟨_, _, _, f0, f1, f2⟩ := cells_item hB5
          have HB5 := Lib.hid hB5
          have zB5 : B < w5.heap.size := (Array.getElem?_eq_some_iff.1 hB5).1
          clear hB5
          have hR6 := hR5.set3 B hsz2 hfB hoB (.int .i64 2) (.string (pickB openL (nx L ((lineF L s.m 3).2 + 1) 3))) (.int .i64 ((s.id : Int) + 1))
          have HB6 := Lib.hid (heap_set3 (a' := .int .i64 2) (b' := .string (pickB openL (nx L ((lineF L s.m 3).2 + 1) 3))) (c' := .int .i64 ((s.id : Int) + 1)) HB5.out)
          have hR7 := hR6.alloc (.cells #[.int .i64 2, .string (pickB openL (nx L ((lineF L s.m 3).2 + 1) 3)), .int .i64 ((s.id : Int) + 1)] 45)
          have hsz7 := hR7.chg.size
          have hnew7 := heap_alloc_new (((w5.setCell ⟨B, 0, none⟩ (.int .i64 2)).setCell ⟨B, 1, none⟩ (.string (pickB openL (nx L ((lineF L s.m 3).2 + 1) 3)))).setCell ⟨B, 2, none⟩ (.int .i64 ((s.id : Int) + 1))) (.cells #[.int .i64 2, .string (pickB openL (nx L ((lineF L s.m 3).2 + 1) 3)), .int .i64 ((s.id : Int) + 1)] 45)
          rw [set3_size] at hnew7
          have HN7 := Lib.hid hnew7; clear hnew7
          go_wp2_with (at_builtin; refine wpl_app eI _ rfl _ _ rfl w.heap.size s.o _ rfl hR7.o hsz7 ⟨2, pickB openL (nx L ((lineF L s.m 3).2 + 1) 3), (s.id : Int) + 1⟩ w5.heap.size _ rfl HN7.out rfl (by omega) (by unfold maxLen; omega) ?_; intro g2 cp w8 hown8 hgr8 hloc8)
          have hR8 := hR7.push hown8 hgr8 hloc8
          have hB8 := (hgr8.block B (by simp; omega) (fun e => hoB e.symm)).trans ((Lib.alloc_old _ _ B (by simp; omega)).trans HB6.out)
          go_wp2_with fail
          go_meet
          exact ⟨⟨2, pickB openL (nx L ((lineF L s.m 3).2 + 1) 3), (s.id + 1 : Nat)⟩, s.o ++ [⟨2, pickB openL (nx L ((lineF L s.m 3).2 + 1) 3), (s.id + 1 : Nat)⟩], s.id + 1, (lineF L s.m 3).2 + 1 + 1, HN, rfl, ⟨_, _, by rw [List.length_append]; rfl⟩, hR8, hB8⟩
        · by_cases ho : 0 < s.o.length
          · obtain ⟨j0, hj0⟩ : ∃ j0, s.o.length = j0 + 1 := ⟨s.o.length - 1, by omega⟩
            obtain ⟨go, rfl⟩ := hR4.atO ho
            cases nested
            · have hnj : ∀ W, NumsAt W b pn cn L ((lineF L s.m 3).2 + 1) → _ := fun W h => next_any b pn cn L ((lineF L s.m 3).2 + 1) ((j0 : Int) + 1) (j0 + 1) (by omega) W h (by omega) (by omega) (by omega)
              have hkj := nx_lt L ((lineF L s.m 3).2 + 1) (j0 + 1) (by omega)
              obtain ⟨kk, hkk⟩ : ∃ kk, kk = nx L ((lineF L s.m 3).2 + 1) (j0 + 1) := ⟨_, rfl⟩
              rw [← hkk] at hnj hkj
              have HNJ := Lib.hid hnj; clear hnj
              have HN := Lib.hid (nextG_close L tags false s.o s.id s.m (by have := HC.out; omega) ho (kk, (lineF L s.m 3).2 + 1 + 1) (by unfold pickK; rw [if_neg (by decide), hj0, hkk]))
              clear hkk
              obtain ⟨_, hco, hcm, hI⟩ := hR4.itsO
              rw [hj0] at hco hzol ⊢
              have HR4 := Lib.hid hR4
              clear HL HC hI hR4
              go_upto_region 45 with fail
              go_wp2_with fail
              refine (HNJ.out _ HR4.out.nums).mono ?_
              rintro e w5 ⟨rfl, hg5, hN5⟩
              have hR4 := HR4.out.next hg5 hN5
              have hB5 := (hg5.block B zB (fun e => by injection e; omega)).trans hB3
              have zB5 : B < w5.heap.size := (Array.getElem?_eq_some_iff.1 hB5).1
              obtain ⟨_, _, _, hI⟩ := hR4.itsO
              obtain ⟨g0, d0, d1, d2⟩ := its_at hI kk (by omega)
              have hT := its_take hI kk
              have hy : s.o.getD kk ⟨0, .empty, 0⟩ = s.o[kk]'(by omega) := by rw [List.getD_eq_getElem?_getD, List.getElem?_eq_getElem (by omega)]; rfl
              have hyt : (s.o[kk]'(by omega)).t.size ≤ 5 := hz.ot _ (List.getElem_mem _)
              have lT0 : (s.o.take kk).length = kk := by rw [List.length_take]; omega
              have lD0 : (s.o.drop (kk + 1)).length = j0 - kk := by rw [List.length_drop]; omega
              obtain ⟨A, hA, hAD⟩ : ∃ A, (if co = kk + 1 then some (⟨go, 0, none⟩ : Addr) else some ⟨go, (kk + 1) * 3, none⟩) = some ⟨go, A, none⟩ ∧ (co ≠ kk + 1 → A = (kk + 1) * 3) := by
                by_cases hc : co = kk + 1
                · exact ⟨0, if_pos hc, fun h => absurd hc h⟩
                · exact ⟨_, if_neg hc, fun _ => rfl⟩
              have hA := Lib.hid hA
              have hD : Its w5 (some ⟨go, A, none⟩) (s.o.drop (kk + 1)) := by
                by_cases hc : co = kk + 1
                · exact its_empty (by omega)
                · rw [hAD hc]; exact its_drop hI (kk + 1)
              have hoB2 : ∀ a, some (⟨go, A, none⟩ : Addr) = some a → a.block ≠ B := fun a e => by cases e; exact fun e2 => hoB (by simpa [Value.ownBlock] using e2)
              rw [hy] at HN
              generalize s.o[kk]'(by omega) = y at *
              generalize s.o.take kk = T at *
              generalize s.o.drop (kk + 1) = D at *
              rw [hj0] at hR4 hoB
              obtain ⟨_, _, _, f0, f1, f2⟩ := cells_item hB5
              have HB5 := Lib.hid hB5
              unfold maxLen at hcm
              have hb1 : (kk : Int) < (j0 : Int) + 1 := by omega
              have hb2 : (kk : Int) < ((j0 + 1 : Nat) : Int) := by omega
              have hb0 : (0 : Int) ≤ (kk : Int) := by omega
              have lT := Lib.hid lT0; have lD := Lib.hid lD0
              clear lT0 lD0 hB3 hB5 hj0 ho hy hI hAD HR4 HNJ
              have hnm := fun W => rname_any y.t W (by unfold maxLen; omega)
              have HNM := Lib.hid hnm; clear hnm
              go_upto_region 27 with fail
              go_still_tail 12, (by kernel_rfl)
              still_call ((HNM.out _).mono (fun e w' h => ⟨h.1, h.2.symm⟩))
              repeat still_step
              refine wpStill_nil ?_
              change wpList _ _ _ _ _ w5.drew
              go_wp2_with fail
              have hR6 := ((hR4.set3 B hsz2 hfB hoB (.int .i64 3) (.string (nameB y.t)) (.int .i64 y.id)).drewN 1).drewN 1
              have hT6 := (its_set3 hT B (own_ne hoB) (.int .i64 3) (.string (nameB y.t)) (.int .i64 y.id)).two
              have hD6 := (its_set3 hD B hoB2 (.int .i64 3) (.string (nameB y.t)) (.int .i64 y.id)).two
              have HB6 := Lib.hid (heap_set3 (a' := .int .i64 3) (b' := .string (nameB y.t)) (c' := .int .i64 y.id) HB5.out)
              have hA := hA.out
              have hs1 : kk ≤ co := by omega
              have hs2 : kk ≤ j0 := by omega
              have hlT := lT.out; have hlD := lD.out
              have bl1 : (([] : List It).length + T.length) * 32 ≤ 140737488355328 := by simp; omega
              have bl2 : (T.length + D.length) * 32 ≤ 140737488355328 := by omega
              clear hlT hlD
              have hw1 : IntKind.i64.wrap ((kk : Int) + 1) = (kk : Int) + 1 := IntWalk.i64_in _ ⟨by omega, by omega⟩
              have hw2 : (0 : Int) ≤ (kk : Int) + 1 := by omega
              have hw3 : ((kk : Int) + 1).toNat = kk + 1 := by omega
              refine wp_region_any (by kernel_rfl) ?_
              try (change wpAny _ _ _ _ _ _ _ (World.drew _))
              refine wpAny_take (i := 0) (v := ?_) rfl (by kernel_rfl) (by kernel_rfl) (by kernel_rfl) (fun _ _ _ h => h) (Or.inl ⟨by rfl, ?_⟩) ?_
              rotate_left
              · (intro w; go_simp; try with_reducible rfl)
              try simp only [Act.put, List.getElem_toArray, List.getElem_cons_zero, List.getElem_cons_succ, List.setIfInBounds_toArray, List.set_cons_zero, List.set_cons_succ]
              refine wpAny_take (i := 1) (v := ?_) rfl (by kernel_rfl) (by kernel_rfl) (by kernel_rfl) (fun _ _ _ h => h) (Or.inl ⟨by rfl, ?_⟩) ?_
              rotate_left
              · (intro w; go_simp; try with_reducible rfl)
              try simp only [Act.put, List.getElem_toArray, List.getElem_cons_zero, List.getElem_cons_succ, List.setIfInBounds_toArray, List.set_cons_zero, List.set_cons_succ]
              refine wpAny_take (i := 2) (v := ?_) rfl (by kernel_rfl) (by kernel_rfl) (by kernel_rfl) (fun _ _ _ h => h) (Or.inl ⟨by rfl, ?_⟩) ?_
              rotate_left
              · (intro w; go_simp; try with_reducible rfl)
              try simp only [Act.put, List.getElem_toArray, List.getElem_cons_zero, List.getElem_cons_succ, List.setIfInBounds_toArray, List.set_cons_zero, List.set_cons_succ]
              refine wpAny_take (i := 4) (v := ?_) rfl (by kernel_rfl) (by kernel_rfl) (by kernel_rfl) (fun _ _ _ h => h) (Or.inl ⟨by rfl, ?_⟩) ?_
              rotate_left
              · (intro w; go_simp; try with_reducible rfl)
              try simp only [Act.put, List.getElem_toArray, List.getElem_cons_zero, List.getElem_cons_succ, List.setIfInBounds_toArray, List.set_cons_zero, List.set_cons_succ]
              refine wpAny_take (i := 5) (v := ?_) rfl (by kernel_rfl) (by kernel_rfl) (by kernel_rfl) (fun _ _ _ h => h) (Or.inl ⟨by rfl, ?_⟩) ?_
              rotate_left
              · (intro w; go_simp; try with_reducible rfl)
              try simp only [Act.put, List.getElem_toArray, List.getElem_cons_zero, List.getElem_cons_succ, List.setIfInBounds_toArray, List.set_cons_zero, List.set_cons_succ]
              refine wpAny_take (i := 6) (v := ?_) rfl (by kernel_rfl) (by kernel_rfl) (by kernel_rfl) (fun _ _ _ h => h) (Or.inl ⟨by rfl, ?_⟩) ?_
              rotate_left
              · (intro w; go_simp; try with_reducible rfl)
              try simp only [Act.put, List.getElem_toArray, List.getElem_cons_zero, List.getElem_cons_succ, List.setIfInBounds_toArray, List.set_cons_zero, List.set_cons_succ]
              refine wpAny_take (i := 7) (v := ?_) rfl (by kernel_rfl) (by kernel_rfl) (by kernel_rfl) (fun _ _ _ h => h) (Or.inl ⟨by rfl, ?_⟩) ?_
              rotate_left
              · (intro w; go_simp; try with_reducible rfl)
              try simp only [Act.put, List.getElem_toArray, List.getElem_cons_zero, List.getElem_cons_succ, List.setIfInBounds_toArray, List.set_cons_zero, List.set_cons_succ]
              refine wpAny_ready (rs := [3]) (by kernel_rfl) (by simp) ?_
              refine AllReady.cons rfl (fun K hK => ?_) AllReady.nil
              refine step_cat _ (by rfl) _ _ (by rfl) _ [] T _ (by rfl) (Acc.start _) (some ⟨go, 0, none⟩) kk co (by rfl) lT.out.symm hT6 bl1 ?_
              intro v1 w8 hA8
              rw [List.nil_append] at hA8
              obtain ⟨p8, c8, hv8, _⟩ := hA8.own.its
              rw [lT.out] at hv8
              subst hv8
              try go_simp
              refine hK _ _ ?_; clear hK K
              try simp only [Act.put, List.getElem_toArray, List.getElem_cons_zero, List.getElem_cons_succ, List.setIfInBounds_toArray, List.set_cons_zero, List.set_cons_succ]
              refine wpAny_ready (rs := [8]) (by kernel_rfl) (by simp) ?_
              refine AllReady.cons rfl (fun K hK => ?_) AllReady.nil
              refine step_cat _ (by rfl) _ _ (by rfl) _ T D _ (by rfl) hA8 (some ⟨go, A, none⟩) (j0 - kk) (co - (kk + 1)) (by rfl) lD.out.symm (hD6.call hA8.below) bl2 ?_
              intro v9 w9 hA9
              try go_simp
              refine hK _ _ ?_; clear hK K
              try simp only [Act.put, List.getElem_toArray, List.getElem_cons_zero, List.getElem_cons_succ, List.setIfInBounds_toArray, List.set_cons_zero, List.set_cons_succ]
              refine wpAny_take (i := 9) (v := ?_) rfl (by kernel_rfl) (by kernel_rfl) (by kernel_rfl) (fun _ _ _ h => h) (Or.inl ⟨by rfl, ?_⟩) ?_
              rotate_left
              · (intro w; go_simp; try with_reducible rfl)
              try simp only [Act.put, List.getElem_toArray, List.getElem_cons_zero, List.getElem_cons_succ, List.setIfInBounds_toArray, List.set_cons_zero, List.set_cons_succ]
              refine wpAny_done (by kernel_rfl) ?_ _
              have hR9 := hR6.madeO hA9
              obtain ⟨p9, c9, rfl, _⟩ := hA9.own.its
              have hBw := hA9.below.block B (by show B < ((((w5.setCell ⟨B, 0, none⟩ _).setCell ⟨B, 1, none⟩ _).setCell ⟨B, 2, none⟩ _)).heap.size; rw [set3_size]; exact zB5)
              go_wp2_with fail
              go_meet
              exact ⟨closeI y, _, s.id, (lineF L s.m 3).2 + 1 + 1, HN, rfl, ⟨_, _, rfl⟩, hR9, hBw.trans HB6.out⟩
            · have HN := Lib.hid (nextG_close L tags true s.o s.id s.m (by have := HC.out; omega) ho (j0, (lineF L s.m 3).2 + 1) (by unfold pickK; rw [if_pos rfl, hj0]; rfl))
              obtain ⟨_, hco, hcm, hI⟩ := hR4.itsO
              obtain ⟨g0, d0, d1, d2⟩ := its_at hI j0 (by omega)
              have hT := its_take hI j0
              have hy : s.o.getD j0 ⟨0, .empty, 0⟩ = s.o[j0]'(by omega) := by rw [List.getD_eq_getElem?_getD, List.getElem?_eq_getElem (by omega)]; rfl
              have hyt : (s.o[j0]'(by omega)).t.size ≤ 5 := hz.ot _ (List.getElem_mem _)
              have lT0 : (s.o.take j0).length = j0 := by rw [List.length_take]; omega
              have lD0 : (s.o.drop (j0 + 1)).length = 0 := by rw [List.length_drop]; omega
              obtain ⟨A, hA, hAD⟩ : ∃ A, (if co = j0 + 1 then some (⟨go, 0, none⟩ : Addr) else some ⟨go, (j0 + 1) * 3, none⟩) = some ⟨go, A, none⟩ ∧ (co ≠ j0 + 1 → A = (j0 + 1) * 3) := by
                by_cases hc : co = j0 + 1
                · exact ⟨0, if_pos hc, fun h => absurd hc h⟩
                · exact ⟨_, if_neg hc, fun _ => rfl⟩
              have hA := Lib.hid hA
              have hD : Its w3 (some ⟨go, A, none⟩) (s.o.drop (j0 + 1)) := by
                by_cases hc : co = j0 + 1
                · exact its_empty (by omega)
                · rw [hAD hc]; exact its_drop hI (j0 + 1)
              have hoB2 : ∀ a, some (⟨go, A, none⟩ : Addr) = some a → a.block ≠ B := fun a e => by cases e; exact fun e2 => hoB (by simpa [Value.ownBlock] using e2)
              rw [hy] at HN
              generalize s.o[j0]'(by omega) = y at *
              generalize s.o.take j0 = T at *
              generalize s.o.drop (j0 + 1) = D at *
              rw [hj0] at hR4 hoB hco hzol ⊢
              obtain ⟨_, _, _, f0, f1, f2⟩ := cells_item hB3
              have HB3 := Lib.hid hB3
              unfold maxLen at hcm
              have hb1 : (j0 : Int) < (j0 : Int) + 1 := by omega
              have hb2 : (j0 : Int) < ((j0 + 1 : Nat) : Int) := by omega
              have hb0 : (0 : Int) ≤ (j0 : Int) := by omega
              have lT := Lib.hid lT0; have lD := Lib.hid lD0
              clear lT0 lD0 HL HC hB3 hj0 ho hy hI hAD
              have hnm := fun W => rname_any y.t W (by unfold maxLen; omega)
              have HNM := Lib.hid hnm; clear hnm
              go_upto_region 27 with fail
              go_still_tail 12, (by kernel_rfl)
              still_call ((HNM.out _).mono (fun e w' h => ⟨h.1, h.2.symm⟩))
              repeat still_step
              refine wpStill_nil ?_
              change wpList _ _ _ _ _ w3.drew
              go_wp2_with fail
              have hR6 := ((hR4.set3 B hsz2 hfB hoB (.int .i64 3) (.string (nameB y.t)) (.int .i64 y.id)).drewN 1).drewN 1
              have hT6 := (its_set3 hT B (own_ne hoB) (.int .i64 3) (.string (nameB y.t)) (.int .i64 y.id)).two
              have hD6 := (its_set3 hD B hoB2 (.int .i64 3) (.string (nameB y.t)) (.int .i64 y.id)).two
              have HB6 := Lib.hid (heap_set3 (a' := .int .i64 3) (b' := .string (nameB y.t)) (c' := .int .i64 y.id) HB3.out)
              have hA := hA.out
              have hs1 : j0 ≤ co := by omega
              have hs2 : j0 ≤ j0 := by omega
              have hlT := lT.out; have hlD := lD.out
              have bl1 : (([] : List It).length + T.length) * 32 ≤ 140737488355328 := by simp; omega
              have bl2 : (T.length + D.length) * 32 ≤ 140737488355328 := by omega
              clear hlT hlD
              have hw1 : IntKind.i64.wrap ((j0 : Int) + 1) = (j0 : Int) + 1 := IntWalk.i64_in _ ⟨by omega, by omega⟩
              have hw2 : (0 : Int) ≤ (j0 : Int) + 1 := by omega
              have hw3 : ((j0 : Int) + 1).toNat = j0 + 1 := by omega
              refine wp_region_any (by kernel_rfl) ?_
              try (change wpAny _ _ _ _ _ _ _ (World.drew _))
              refine wpAny_take (i := 0) (v := ?_) rfl (by kernel_rfl) (by kernel_rfl) (by kernel_rfl) (fun _ _ _ h => h) (Or.inl ⟨by rfl, ?_⟩) ?_
              rotate_left
              · (intro w; go_simp; try with_reducible rfl)
              try simp only [Act.put, List.getElem_toArray, List.getElem_cons_zero, List.getElem_cons_succ, List.setIfInBounds_toArray, List.set_cons_zero, List.set_cons_succ]
              refine wpAny_take (i := 1) (v := ?_) rfl (by kernel_rfl) (by kernel_rfl) (by kernel_rfl) (fun _ _ _ h => h) (Or.inl ⟨by rfl, ?_⟩) ?_
              rotate_left
              · (intro w; go_simp; try with_reducible rfl)
              try simp only [Act.put, List.getElem_toArray, List.getElem_cons_zero, List.getElem_cons_succ, List.setIfInBounds_toArray, List.set_cons_zero, List.set_cons_succ]
              refine wpAny_take (i := 2) (v := ?_) rfl (by kernel_rfl) (by kernel_rfl) (by kernel_rfl) (fun _ _ _ h => h) (Or.inl ⟨by rfl, ?_⟩) ?_
              rotate_left
              · (intro w; go_simp; try with_reducible rfl)
              try simp only [Act.put, List.getElem_toArray, List.getElem_cons_zero, List.getElem_cons_succ, List.setIfInBounds_toArray, List.set_cons_zero, List.set_cons_succ]
              refine wpAny_take (i := 4) (v := ?_) rfl (by kernel_rfl) (by kernel_rfl) (by kernel_rfl) (fun _ _ _ h => h) (Or.inl ⟨by rfl, ?_⟩) ?_
              rotate_left
              · (intro w; go_simp; try with_reducible rfl)
              try simp only [Act.put, List.getElem_toArray, List.getElem_cons_zero, List.getElem_cons_succ, List.setIfInBounds_toArray, List.set_cons_zero, List.set_cons_succ]
              refine wpAny_take (i := 5) (v := ?_) rfl (by kernel_rfl) (by kernel_rfl) (by kernel_rfl) (fun _ _ _ h => h) (Or.inl ⟨by rfl, ?_⟩) ?_
              rotate_left
              · (intro w; go_simp; try with_reducible rfl)
              try simp only [Act.put, List.getElem_toArray, List.getElem_cons_zero, List.getElem_cons_succ, List.setIfInBounds_toArray, List.set_cons_zero, List.set_cons_succ]
              refine wpAny_take (i := 6) (v := ?_) rfl (by kernel_rfl) (by kernel_rfl) (by kernel_rfl) (fun _ _ _ h => h) (Or.inl ⟨by rfl, ?_⟩) ?_
              rotate_left
              · (intro w; go_simp; try with_reducible rfl)
              try simp only [Act.put, List.getElem_toArray, List.getElem_cons_zero, List.getElem_cons_succ, List.setIfInBounds_toArray, List.set_cons_zero, List.set_cons_succ]
              refine wpAny_take (i := 7) (v := ?_) rfl (by kernel_rfl) (by kernel_rfl) (by kernel_rfl) (fun _ _ _ h => h) (Or.inl ⟨by rfl, ?_⟩) ?_
              rotate_left
              · (intro w; go_simp; try with_reducible rfl)
              try simp only [Act.put, List.getElem_toArray, List.getElem_cons_zero, List.getElem_cons_succ, List.setIfInBounds_toArray, List.set_cons_zero, List.set_cons_succ]
              refine wpAny_ready (rs := [3]) (by kernel_rfl) (by simp) ?_
              refine AllReady.cons rfl (fun K hK => ?_) AllReady.nil
              refine step_cat _ (by rfl) _ _ (by rfl) _ [] T _ (by rfl) (Acc.start _) (some ⟨go, 0, none⟩) j0 co (by rfl) lT.out.symm hT6 bl1 ?_
              intro v1 w8 hA8
              rw [List.nil_append] at hA8
              obtain ⟨p8, c8, hv8, _⟩ := hA8.own.its
              rw [lT.out] at hv8
              subst hv8
              try go_simp
              refine hK _ _ ?_; clear hK K
              try simp only [Act.put, List.getElem_toArray, List.getElem_cons_zero, List.getElem_cons_succ, List.setIfInBounds_toArray, List.set_cons_zero, List.set_cons_succ]
              refine wpAny_ready (rs := [8]) (by kernel_rfl) (by simp) ?_
              refine AllReady.cons rfl (fun K hK => ?_) AllReady.nil
              refine step_cat _ (by rfl) _ _ (by rfl) _ T D _ (by rfl) hA8 (some ⟨go, A, none⟩) (0) (co - (j0 + 1)) (by rfl) lD.out.symm (hD6.call hA8.below) bl2 ?_
              intro v9 w9 hA9
              try go_simp
              refine hK _ _ ?_; clear hK K
              try simp only [Act.put, List.getElem_toArray, List.getElem_cons_zero, List.getElem_cons_succ, List.setIfInBounds_toArray, List.set_cons_zero, List.set_cons_succ]
              refine wpAny_take (i := 9) (v := ?_) rfl (by kernel_rfl) (by kernel_rfl) (by kernel_rfl) (fun _ _ _ h => h) (Or.inl ⟨by rfl, ?_⟩) ?_
              rotate_left
              · (intro w; go_simp; try with_reducible rfl)
              try simp only [Act.put, List.getElem_toArray, List.getElem_cons_zero, List.getElem_cons_succ, List.setIfInBounds_toArray, List.set_cons_zero, List.set_cons_succ]
              refine wpAny_done (by kernel_rfl) ?_ _
              have hR9 := hR6.madeO hA9
              obtain ⟨p9, c9, rfl, _⟩ := hA9.own.its
              have hBw := hA9.below.block B (by show B < ((((w3.setCell ⟨B, 0, none⟩ _).setCell ⟨B, 1, none⟩ _).setCell ⟨B, 2, none⟩ _)).heap.size; rw [set3_size]; exact zB)
              go_wp2_with fail
              go_meet
              exact ⟨closeI y, _, s.id, (lineF L s.m 3).2 + 1, HN, rfl, ⟨_, _, rfl⟩, hR9, hBw.trans HB6.out⟩
          · have hol : s.o.length = 0 := by omega
            have q0 : decide ((0 : Int) ≤ (s.o.length : Int) - 1) = false := decide_eq_false (by omega)
            have q1 : decide ((1 : Int) ≤ (s.o.length : Int)) = false := decide_eq_false (by omega)
            have q2 : decide (1 ≤ s.o.length) = false := decide_eq_false (by omega)
            have q3 : decide (0 < s.o.length) = false := decide_eq_false (by omega)
            have HO := Lib.hid ho
            clear ho hol
            cases tags
            · have HN := Lib.hid (nextG_text L false nested s.o s.id s.m (by have := HC.out; have := HO.out; right; right; exact ⟨by omega, by omega, HO.out, by simp⟩))
              clear HL HC
              go_wp2_with fail
              go_meet
              exact ⟨⟨1, (lineF L s.m 3).1, 0⟩, s.o, s.id, (lineF L s.m 3).2 + 1, HN, rfl, ⟨_, _, rfl⟩, hR4, hB3⟩
            cases nested
            · have HN := Lib.hid (nextG_alone L true false s.o s.id s.m (by have := HC.out; omega) HO.out ⟨rfl, rfl⟩)
              obtain ⟨_, _, _, f0, f1, f2⟩ := cells_item hB3
              have HB3 := Lib.hid hB3
              clear HL HC hB3
              go_wp2_with fail
              go_meet
              exact ⟨⟨3, ⟨#[98]⟩, (s.id + 1 : Nat)⟩, s.o, s.id + 1, (lineF L s.m 3).2 + 1, HN, rfl, ⟨_, _, rfl⟩, hR4.set3 B hsz2 hfB hoB _ _ _, heap_set3 HB3.out⟩
            · have HN := Lib.hid (nextG_text L true true s.o s.id s.m (by have := HC.out; have := HO.out; right; right; exact ⟨by omega, by omega, HO.out, by simp⟩))
              clear HL HC
              go_wp2_with fail
              go_meet
              exact ⟨⟨1, (lineF L s.m 3).1, 0⟩, s.o, s.id, (lineF L s.m 3).2 + 1, HN, rfl, ⟨_, _, rfl⟩, hR4, hB3⟩
        · by_cases ho : 0 < s.o.length
          · obtain ⟨j0, hj0⟩ : ∃ j0, s.o.length = j0 + 1 := ⟨s.o.length - 1, by omega⟩
            obtain ⟨go, rfl⟩ := hR4.atO ho
            cases nested
            · have hnj : ∀ W, NumsAt W b pn cn L ((lineF L s.m 3).2 + 1) → _ := fun W h => next_any b pn cn L ((lineF L s.m 3).2 + 1) ((j0 : Int) + 1) (j0 + 1) (by omega) W h (by omega) (by omega) (by omega)
              have hkj := nx_lt L ((lineF L s.m 3).2 + 1) (j0 + 1) (by omega)
              obtain ⟨kk, hkk⟩ : ∃ kk, kk = nx L ((lineF L s.m 3).2 + 1) (j0 + 1) := ⟨_, rfl⟩
              rw [← hkk] at hnj hkj
              have HNJ := Lib.hid hnj; clear hnj
              have HN := Lib.hid (nextG_close L tags false s.o s.id s.m (by have := HC.out; omega) ho (kk, (lineF L s.m 3).2 + 1 + 1) (by unfold pickK; rw [if_neg (by decide), hj0, hkk]))
              clear hkk
              obtain ⟨_, hco, hcm, hI⟩ := hR4.itsO
              rw [hj0] at hco hzol ⊢
              have HR4 := Lib.hid hR4
              clear HL HC hI hR4
              go_upto_region 45 with fail
              go_wp2_with fail
              refine (HNJ.out _ HR4.out.nums).mono ?_
              rintro e w5 ⟨rfl, hg5, hN5⟩
              have hR4 := HR4.out.next hg5 hN5
              have hB5 := (hg5.block B zB (fun e => by injection e; omega)).trans hB3
              have zB5 : B < w5.heap.size := (Array.getElem?_eq_some_iff.1 hB5).1
              obtain ⟨_, _, _, hI⟩ := hR4.itsO
              obtain ⟨g0, d0, d1, d2⟩ := its_at hI kk (by omega)
              have hT := its_take hI kk
              have hy : s.o.getD kk ⟨0, .empty, 0⟩ = s.o[kk]'(by omega) := by rw [List.getD_eq_getElem?_getD, List.getElem?_eq_getElem (by omega)]; rfl
              have hyt : (s.o[kk]'(by omega)).t.size ≤ 5 := hz.ot _ (List.getElem_mem _)
              have lT0 : (s.o.take kk).length = kk := by rw [List.length_take]; omega
              have lD0 : (s.o.drop (kk + 1)).length = j0 - kk := by rw [List.length_drop]; omega
              obtain ⟨A, hA, hAD⟩ : ∃ A, (if co = kk + 1 then some (⟨go, 0, none⟩ : Addr) else some ⟨go, (kk + 1) * 3, none⟩) = some ⟨go, A, none⟩ ∧ (co ≠ kk + 1 → A = (kk + 1) * 3) := by
                by_cases hc : co = kk + 1
                · exact ⟨0, if_pos hc, fun h => absurd hc h⟩
                · exact ⟨_, if_neg hc, fun _ => rfl⟩
              have hA := Lib.hid hA
              have hD : Its w5 (some ⟨go, A, none⟩) (s.o.drop (kk + 1)) := by
                by_cases hc : co = kk + 1
                · exact its_empty (by omega)
                · rw [hAD hc]; exact its_drop hI (kk + 1)
              have hoB2 : ∀ a, some (⟨go, A, none⟩ : Addr) = some a → a.block ≠ B := fun a e => by cases e; exact fun e2 => hoB (by simpa [Value.ownBlock] using e2)
              rw [hy] at HN
              generalize s.o[kk]'(by omega) = y at *
              generalize s.o.take kk = T at *
              generalize s.o.drop (kk + 1) = D at *
              rw [hj0] at hR4 hoB
              obtain ⟨_, _, _, f0, f1, f2⟩ := cells_item hB5
              have HB5 := Lib.hid hB5
              unfold maxLen at hcm
              have hb1 : (kk : Int) < (j0 : Int) + 1 := by omega
              have hb2 : (kk : Int) < ((j0 + 1 : Nat) : Int) := by omega
              have hb0 : (0 : Int) ≤ (kk : Int) := by omega
              have lT := Lib.hid lT0; have lD := Lib.hid lD0
              clear lT0 lD0 hB3 hB5 hj0 ho hy hI hAD HR4 HNJ
              have hnm := fun W => rname_any y.t W (by unfold maxLen; omega)
              have HNM := Lib.hid hnm; clear hnm
              go_upto_region 27 with fail
              go_still_tail 12, (by kernel_rfl)
              still_call ((HNM.out _).mono (fun e w' h => ⟨h.1, h.2.symm⟩))
              repeat still_step
              refine wpStill_nil ?_
              change wpList _ _ _ _ _ w5.drew
              go_wp2_with fail
              have hR6 := ((hR4.set3 B hsz2 hfB hoB (.int .i64 3) (.string (nameB y.t)) (.int .i64 y.id)).drewN 1).drewN 1
              have hT6 := (its_set3 hT B (own_ne hoB) (.int .i64 3) (.string (nameB y.t)) (.int .i64 y.id)).two
              have hD6 := (its_set3 hD B hoB2 (.int .i64 3) (.string (nameB y.t)) (.int .i64 y.id)).two
              have HB6 := Lib.hid (heap_set3 (a' := .int .i64 3) (b' := .string (nameB y.t)) (c' := .int .i64 y.id) HB5.out)
              have hA := hA.out
              have hs1 : kk ≤ co := by omega
              have hs2 : kk ≤ j0 := by omega
              have hlT := lT.out; have hlD := lD.out
              have bl1 : (([] : List It).length + T.length) * 32 ≤ 140737488355328 := by simp; omega
              have bl2 : (T.length + D.length) * 32 ≤ 140737488355328 := by omega
              clear hlT hlD
              have hw1 : IntKind.i64.wrap ((kk : Int) + 1) = (kk : Int) + 1 := IntWalk.i64_in _ ⟨by omega, by omega⟩
              have hw2 : (0 : Int) ≤ (kk : Int) + 1 := by omega
              have hw3 : ((kk : Int) + 1).toNat = kk + 1 := by omega
              refine wp_region_any (by kernel_rfl) ?_
              try (change wpAny _ _ _ _ _ _ _ (World.drew _))
              refine wpAny_take (i := 0) (v := ?_) rfl (by kernel_rfl) (by kernel_rfl) (by kernel_rfl) (fun _ _ _ h => h) (Or.inl ⟨by rfl, ?_⟩) ?_
              rotate_left
              · (intro w; go_simp; try with_reducible rfl)
              try simp only [Act.put, List.getElem_toArray, List.getElem_cons_zero, List.getElem_cons_succ, List.setIfInBounds_toArray, List.set_cons_zero, List.set_cons_succ]
              refine wpAny_take (i := 1) (v := ?_) rfl (by kernel_rfl) (by kernel_rfl) (by kernel_rfl) (fun _ _ _ h => h) (Or.inl ⟨by rfl, ?_⟩) ?_
              rotate_left
              · (intro w; go_simp; try with_reducible rfl)
              try simp only [Act.put, List.getElem_toArray, List.getElem_cons_zero, List.getElem_cons_succ, List.setIfInBounds_toArray, List.set_cons_zero, List.set_cons_succ]
              refine wpAny_take (i := 2) (v := ?_) rfl (by kernel_rfl) (by kernel_rfl) (by kernel_rfl) (fun _ _ _ h => h) (Or.inl ⟨by rfl, ?_⟩) ?_
              rotate_left
              · (intro w; go_simp; try with_reducible rfl)
              try simp only [Act.put, List.getElem_toArray, List.getElem_cons_zero, List.getElem_cons_succ, List.setIfInBounds_toArray, List.set_cons_zero, List.set_cons_succ]
              refine wpAny_take (i := 4) (v := ?_) rfl (by kernel_rfl) (by kernel_rfl) (by kernel_rfl) (fun _ _ _ h => h) (Or.inl ⟨by rfl, ?_⟩) ?_
              rotate_left
              · (intro w; go_simp; try with_reducible rfl)
              try simp only [Act.put, List.getElem_toArray, List.getElem_cons_zero, List.getElem_cons_succ, List.setIfInBounds_toArray, List.set_cons_zero, List.set_cons_succ]
              refine wpAny_take (i := 5) (v := ?_) rfl (by kernel_rfl) (by kernel_rfl) (by kernel_rfl) (fun _ _ _ h => h) (Or.inl ⟨by rfl, ?_⟩) ?_
              rotate_left
              · (intro w; go_simp; try with_reducible rfl)
              try simp only [Act.put, List.getElem_toArray, List.getElem_cons_zero, List.getElem_cons_succ, List.setIfInBounds_toArray, List.set_cons_zero, List.set_cons_succ]
              refine wpAny_take (i := 6) (v := ?_) rfl (by kernel_rfl) (by kernel_rfl) (by kernel_rfl) (fun _ _ _ h => h) (Or.inl ⟨by rfl, ?_⟩) ?_
              rotate_left
              · (intro w; go_simp; try with_reducible rfl)
              try simp only [Act.put, List.getElem_toArray, List.getElem_cons_zero, List.getElem_cons_succ, List.setIfInBounds_toArray, List.set_cons_zero, List.set_cons_succ]
              refine wpAny_take (i := 7) (v := ?_) rfl (by kernel_rfl) (by kernel_rfl) (by kernel_rfl) (fun _ _ _ h => h) (Or.inl ⟨by rfl, ?_⟩) ?_
              rotate_left
              · (intro w; go_simp; try with_reducible rfl)
              try simp only [Act.put, List.getElem_toArray, List.getElem_cons_zero, List.getElem_cons_succ, List.setIfInBounds_toArray, List.set_cons_zero, List.set_cons_succ]
              refine wpAny_ready (rs := [3]) (by kernel_rfl) (by simp) ?_
              refine AllReady.cons rfl (fun K hK => ?_) AllReady.nil
              refine step_cat _ (by rfl) _ _ (by rfl) _ [] T _ (by rfl) (Acc.start _) (some ⟨go, 0, none⟩) kk co (by rfl) lT.out.symm hT6 bl1 ?_
              intro v1 w8 hA8
              rw [List.nil_append] at hA8
              obtain ⟨p8, c8, hv8, _⟩ := hA8.own.its
              rw [lT.out] at hv8
              subst hv8
              try go_simp
              refine hK _ _ ?_; clear hK K
              try simp only [Act.put, List.getElem_toArray, List.getElem_cons_zero, List.getElem_cons_succ, List.setIfInBounds_toArray, List.set_cons_zero, List.set_cons_succ]
              refine wpAny_ready (rs := [8]) (by kernel_rfl) (by simp) ?_
              refine AllReady.cons rfl (fun K hK => ?_) AllReady.nil
              refine step_cat _ (by rfl) _ _ (by rfl) _ T D _ (by rfl) hA8 (some ⟨go, A, none⟩) (j0 - kk) (co - (kk + 1)) (by rfl) lD.out.symm (hD6.call hA8.below) bl2 ?_
              intro v9 w9 hA9
              try go_simp
              refine hK _ _ ?_; clear hK K
              try simp only [Act.put, List.getElem_toArray, List.getElem_cons_zero, List.getElem_cons_succ, List.setIfInBounds_toArray, List.set_cons_zero, List.set_cons_succ]
              refine wpAny_take (i := 9) (v := ?_) rfl (by kernel_rfl) (by kernel_rfl) (by kernel_rfl) (fun _ _ _ h => h) (Or.inl ⟨by rfl, ?_⟩) ?_
              rotate_left
              · (intro w; go_simp; try with_reducible rfl)
              try simp only [Act.put, List.getElem_toArray, List.getElem_cons_zero, List.getElem_cons_succ, List.setIfInBounds_toArray, List.set_cons_zero, List.set_cons_succ]
              refine wpAny_done (by kernel_rfl) ?_ _
              have hR9 := hR6.madeO hA9
              obtain ⟨p9, c9, rfl, _⟩ := hA9.own.its
              have hBw := hA9.below.block B (by show B < ((((w5.setCell ⟨B, 0, none⟩ _).setCell ⟨B, 1, none⟩ _).setCell ⟨B, 2, none⟩ _)).heap.size; rw [set3_size]; exact zB5)
              go_wp2_with fail
              go_meet
              exact ⟨closeI y, _, s.id, (lineF L s.m 3).2 + 1 + 1, HN, rfl, ⟨_, _, rfl⟩, hR9, hBw.trans HB6.out⟩
            · have HN := Lib.hid (nextG_close L tags true s.o s.id s.m (by have := HC.out; omega) ho (j0, (lineF L s.m 3).2 + 1) (by unfold pickK; rw [if_pos rfl, hj0]; rfl))
              obtain ⟨_, hco, hcm, hI⟩ := hR4.itsO
              obtain ⟨g0, d0, d1, d2⟩ := its_at hI j0 (by omega)
              have hT := its_take hI j0
              have hy : s.o.getD j0 ⟨0, .empty, 0⟩ = s.o[j0]'(by omega) := by rw [List.getD_eq_getElem?_getD, List.getElem?_eq_getElem (by omega)]; rfl
              have hyt : (s.o[j0]'(by omega)).t.size ≤ 5 := hz.ot _ (List.getElem_mem _)
              have lT0 : (s.o.take j0).length = j0 := by rw [List.length_take]; omega
              have lD0 : (s.o.drop (j0 + 1)).length = 0 := by rw [List.length_drop]; omega
              obtain ⟨A, hA, hAD⟩ : ∃ A, (if co = j0 + 1 then some (⟨go, 0, none⟩ : Addr) else some ⟨go, (j0 + 1) * 3, none⟩) = some ⟨go, A, none⟩ ∧ (co ≠ j0 + 1 → A = (j0 + 1) * 3) := by
                by_cases hc : co = j0 + 1
                · exact ⟨0, if_pos hc, fun h => absurd hc h⟩
                · exact ⟨_, if_neg hc, fun _ => rfl⟩
              have hA := Lib.hid hA
              have hD : Its w3 (some ⟨go, A, none⟩) (s.o.drop (j0 + 1)) := by
                by_cases hc : co = j0 + 1
                · exact its_empty (by omega)
                · rw [hAD hc]; exact its_drop hI (j0 + 1)
              have hoB2 : ∀ a, some (⟨go, A, none⟩ : Addr) = some a → a.block ≠ B := fun a e => by cases e; exact fun e2 => hoB (by simpa [Value.ownBlock] using e2)
              rw [hy] at HN
              generalize s.o[j0]'(by omega) = y at *
              generalize s.o.take j0 = T at *
              generalize s.o.drop (j0 + 1) = D at *
              rw [hj0] at hR4 hoB hco hzol ⊢
              obtain ⟨_, _, _, f0, f1, f2⟩ := cells_item hB3
              have HB3 := Lib.hid hB3
              unfold maxLen at hcm
              have hb1 : (j0 : Int) < (j0 : Int) + 1 := by omega
              have hb2 : (j0 : Int) < ((j0 + 1 : Nat) : Int) := by omega
              have hb0 : (0 : Int) ≤ (j0 : Int) := by omega
              have lT := Lib.hid lT0; have lD := Lib.hid lD0
              clear lT0 lD0 HL HC hB3 hj0 ho hy hI hAD
              have hnm := fun W => rname_any y.t W (by unfold maxLen; omega)
              have HNM := Lib.hid hnm; clear hnm
              go_upto_region 27 with fail
              go_still_tail 12, (by kernel_rfl)
              still_call ((HNM.out _).mono (fun e w' h => ⟨h.1, h.2.symm⟩))
              repeat still_step
              refine wpStill_nil ?_
              change wpList _ _ _ _ _ w3.drew
              go_wp2_with fail
              have hR6 := ((hR4.set3 B hsz2 hfB hoB (.int .i64 3) (.string (nameB y.t)) (.int .i64 y.id)).drewN 1).drewN 1
              have hT6 := (its_set3 hT B (own_ne hoB) (.int .i64 3) (.string (nameB y.t)) (.int .i64 y.id)).two
              have hD6 := (its_set3 hD B hoB2 (.int .i64 3) (.string (nameB y.t)) (.int .i64 y.id)).two
              have HB6 := Lib.hid (heap_set3 (a' := .int .i64 3) (b' := .string (nameB y.t)) (c' := .int .i64 y.id) HB3.out)
              have hA := hA.out
              have hs1 : j0 ≤ co := by omega
              have hs2 : j0 ≤ j0 := by omega
              have hlT := lT.out; have hlD := lD.out
              have bl1 : (([] : List It).length + T.length) * 32 ≤ 140737488355328 := by simp; omega
              have bl2 : (T.length + D.length) * 32 ≤ 140737488355328 := by omega
              clear hlT hlD
              have hw1 : IntKind.i64.wrap ((j0 : Int) + 1) = (j0 : Int) + 1 := IntWalk.i64_in _ ⟨by omega, by omega⟩
              have hw2 : (0 : Int) ≤ (j0 : Int) + 1 := by omega
              have hw3 : ((j0 : Int) + 1).toNat = j0 + 1 := by omega
              refine wp_region_any (by kernel_rfl) ?_
              try (change wpAny _ _ _ _ _ _ _ (World.drew _))
              refine wpAny_take (i := 0) (v := ?_) rfl (by kernel_rfl) (by kernel_rfl) (by kernel_rfl) (fun _ _ _ h => h) (Or.inl ⟨by rfl, ?_⟩) ?_
              rotate_left
              · (intro w; go_simp; try with_reducible rfl)
              try simp only [Act.put, List.getElem_toArray, List.getElem_cons_zero, List.getElem_cons_succ, List.setIfInBounds_toArray, List.set_cons_zero, List.set_cons_succ]
              refine wpAny_take (i := 1) (v := ?_) rfl (by kernel_rfl) (by kernel_rfl) (by kernel_rfl) (fun _ _ _ h => h) (Or.inl ⟨by rfl, ?_⟩) ?_
              rotate_left
              · (intro w; go_simp; try with_reducible rfl)
              try simp only [Act.put, List.getElem_toArray, List.getElem_cons_zero, List.getElem_cons_succ, List.setIfInBounds_toArray, List.set_cons_zero, List.set_cons_succ]
              refine wpAny_take (i := 2) (v := ?_) rfl (by kernel_rfl) (by kernel_rfl) (by kernel_rfl) (fun _ _ _ h => h) (Or.inl ⟨by rfl, ?_⟩) ?_
              rotate_left
              · (intro w; go_simp; try with_reducible rfl)
              try simp only [Act.put, List.getElem_toArray, List.getElem_cons_zero, List.getElem_cons_succ, List.setIfInBounds_toArray, List.set_cons_zero, List.set_cons_succ]
              refine wpAny_take (i := 4) (v := ?_) rfl (by kernel_rfl) (by kernel_rfl) (by kernel_rfl) (fun _ _ _ h => h) (Or.inl ⟨by rfl, ?_⟩) ?_
              rotate_left
              · (intro w; go_simp; try with_reducible rfl)
              try simp only [Act.put, List.getElem_toArray, List.getElem_cons_zero, List.getElem_cons_succ, List.setIfInBounds_toArray, List.set_cons_zero, List.set_cons_succ]
              refine wpAny_take (i := 5) (v := ?_) rfl (by kernel_rfl) (by kernel_rfl) (by kernel_rfl) (fun _ _ _ h => h) (Or.inl ⟨by rfl, ?_⟩) ?_
              rotate_left
              · (intro w; go_simp; try with_reducible rfl)
              try simp only [Act.put, List.getElem_toArray, List.getElem_cons_zero, List.getElem_cons_succ, List.setIfInBounds_toArray, List.set_cons_zero, List.set_cons_succ]
              refine wpAny_take (i := 6) (v := ?_) rfl (by kernel_rfl) (by kernel_rfl) (by kernel_rfl) (fun _ _ _ h => h) (Or.inl ⟨by rfl, ?_⟩) ?_
              rotate_left
              · (intro w; go_simp; try with_reducible rfl)
              try simp only [Act.put, List.getElem_toArray, List.getElem_cons_zero, List.getElem_cons_succ, List.setIfInBounds_toArray, List.set_cons_zero, List.set_cons_succ]
              refine wpAny_take (i := 7) (v := ?_) rfl (by kernel_rfl) (by kernel_rfl) (by kernel_rfl) (fun _ _ _ h => h) (Or.inl ⟨by rfl, ?_⟩) ?_
              rotate_left
              · (intro w; go_simp; try with_reducible rfl)
              try simp only [Act.put, List.getElem_toArray, List.getElem_cons_zero, List.getElem_cons_succ, List.setIfInBounds_toArray, List.set_cons_zero, List.set_cons_succ]
              refine wpAny_ready (rs := [3]) (by kernel_rfl) (by simp) ?_
              refine AllReady.cons rfl (fun K hK => ?_) AllReady.nil
              refine step_cat _ (by rfl) _ _ (by rfl) _ [] T _ (by rfl) (Acc.start _) (some ⟨go, 0, none⟩) j0 co (by rfl) lT.out.symm hT6 bl1 ?_
              intro v1 w8 hA8
              rw [List.nil_append] at hA8
              obtain ⟨p8, c8, hv8, _⟩ := hA8.own.its
              rw [lT.out] at hv8
              subst hv8
              try go_simp
              refine hK _ _ ?_; clear hK K
              try simp only [Act.put, List.getElem_toArray, List.getElem_cons_zero, List.getElem_cons_succ, List.setIfInBounds_toArray, List.set_cons_zero, List.set_cons_succ]
              refine wpAny_ready (rs := [8]) (by kernel_rfl) (by simp) ?_
              refine AllReady.cons rfl (fun K hK => ?_) AllReady.nil
              refine step_cat _ (by rfl) _ _ (by rfl) _ T D _ (by rfl) hA8 (some ⟨go, A, none⟩) (0) (co - (j0 + 1)) (by rfl) lD.out.symm (hD6.call hA8.below) bl2 ?_
              intro v9 w9 hA9
              try go_simp
              refine hK _ _ ?_; clear hK K
              try simp only [Act.put, List.getElem_toArray, List.getElem_cons_zero, List.getElem_cons_succ, List.setIfInBounds_toArray, List.set_cons_zero, List.set_cons_succ]
              refine wpAny_take (i := 9) (v := ?_) rfl (by kernel_rfl) (by kernel_rfl) (by kernel_rfl) (fun _ _ _ h => h) (Or.inl ⟨by rfl, ?_⟩) ?_
              rotate_left
              · (intro w; go_simp; try with_reducible rfl)
              try simp only [Act.put, List.getElem_toArray, List.getElem_cons_zero, List.getElem_cons_succ, List.setIfInBounds_toArray, List.set_cons_zero, List.set_cons_succ]
              refine wpAny_done (by kernel_rfl) ?_ _
              have hR9 := hR6.madeO hA9
              obtain ⟨p9, c9, rfl, _⟩ := hA9.own.its
              have hBw := hA9.below.block B (by show B < ((((w3.setCell ⟨B, 0, none⟩ _).setCell ⟨B, 1, none⟩ _).setCell ⟨B, 2, none⟩ _)).heap.size; rw [set3_size]; exact zB)
              go_wp2_with fail
              go_meet
              exact ⟨closeI y, _, s.id, (lineF L s.m 3).2 + 1, HN, rfl, ⟨_, _, rfl⟩, hR9, hBw.trans HB6.out⟩
          · have hol : s.o.length = 0 := by omega
            have q0 : decide ((0 : Int) ≤ (s.o.length : Int) - 1) = false := decide_eq_false (by omega)
            have q1 : decide ((1 : Int) ≤ (s.o.length : Int)) = false := decide_eq_false (by omega)
            have q2 : decide (1 ≤ s.o.length) = false := decide_eq_false (by omega)
            have q3 : decide (0 < s.o.length) = false := decide_eq_false (by omega)
            have HO := Lib.hid ho
            clear ho hol
            cases tags
            · have HN := Lib.hid (nextG_text L false nested s.o s.id s.m (by have := HC.out; have := HO.out; right; right; exact ⟨by omega, by omega, HO.out, by simp⟩))
              clear HL HC
              go_wp2_with fail
              go_meet
              exact ⟨⟨1, (lineF L s.m 3).1, 0⟩, s.o, s.id, (lineF L s.m 3).2 + 1, HN, rfl, ⟨_, _, rfl⟩, hR4, hB3⟩
            cases nested
            · have HN := Lib.hid (nextG_alone L true false s.o s.id s.m (by have := HC.out; omega) HO.out ⟨rfl, rfl⟩)
              obtain ⟨_, _, _, f0, f1, f2⟩ := cells_item hB3
              have HB3 := Lib.hid hB3
              clear HL HC hB3
              go_wp2_with fail
              go_meet
              exact ⟨⟨3, ⟨#[98]⟩, (s.id + 1 : Nat)⟩, s.o, s.id + 1, (lineF L s.m 3).2 + 1, HN, rfl, ⟨_, _, rfl⟩, hR4.set3 B hsz2 hfB hoB _ _ _, heap_set3 HB3.out⟩
            · have HN := Lib.hid (nextG_text L true true s.o s.id s.m (by have := HC.out; have := HO.out; right; right; exact ⟨by omega, by omega, HO.out, by simp⟩))
              clear HL HC
              go_wp2_with fail
              go_meet
              exact ⟨⟨1, (lineF L s.m 3).1, 0⟩, s.o, s.id, (lineF L s.m 3).2 + 1, HN, rfl, ⟨_, _, rfl⟩, hR4, hB3⟩
        · have HN := Lib.hid (nextG_text L tags nested s.o s.id s.m (by have := HC.out; omega))
          clear HL HC
          go_wp2_with fail
          go_meet
          exact ⟨⟨1, (lineF L s.m 3).1, 0⟩, s.o, s.id, (lineF L s.m 3).2 + 1, HN, rfl, ⟨_, _, rfl⟩, hR4, hB3⟩
      case rest =>
        obtain ⟨x, o', id', m', HX, rfl, ⟨p1, c1, rfl⟩, hR5, hB5⟩ := hcut
        obtain ⟨y0, y1, y2, _, _, _⟩ := cells_item hB5
        have hstp : stepG L tags nested s = ⟨norm (s.f ++ [x]), o', id', m'⟩ := by unfold stepG; rw [HX.out]
        rw [hstp] at hz'
        have hrun : runG L tags nested k ⟨norm (s.f ++ [x]), o', id', m'⟩ = F := by rw [← hstp]; exact HL.out
        have hz5 := hz.fl; have hz6 := hz.ft
        have hx5 := next_ok L tags nested s.o s.id s.m hz.ot
        rw [HX.out] at hx5
        have hx6 : x.t.size ≤ 18 := hx5.x
        have htx : txtI [x] = x.t.size := by simp [txtI]
        have hcat := fun W q (hR : Its W pf s.f) (hS : Its W q [x]) => rconcat_any pf q cf 1 s.f [x] W hR hS (by simp; omega) (by rw [htx]; omega)
        have HCat := Lib.hid hcat; have HRun := Lib.hid hrun
        clear hcat hrun hstp htx hx5 hx6 hz5 hz6
        have hR6 := hR5.alloc (.cells #[.int .i64 x.k, .string x.t, .int .i64 x.id] 45)
        have hS6 := its_one (heap_alloc_new wc (.cells #[.int .i64 x.k, .string x.t, .int .i64 x.id] 45))
        go_wp2_with fail
        refine (HCat.out _ _ hR6.itsF.2.2.2 hS6).mono ?_
        rintro e w7 ⟨v7, rfl, hA7⟩
        have hR7 := hR6.made hA7
        obtain ⟨p7, c7, rfl, _⟩ := hR7.f.its
        go_wp2_with fail
        go_roundw
        case rel => exact ⟨k, j + 1, ⟨norm (s.f ++ [x]), o', id', m'⟩, rfl, rfl, ⟨_, _, rfl⟩, ⟨_, _, rfl⟩, by omega, hz', hR7, HRun⟩
        case measure => simp [intOf]
    · obtain rfl : k = 0 := by omega
      have hfin : s = F := HL.out
      subst hfin
      have hzf := hz.fl; have hzo := hz.ol
      go_wp2_with fail
      go_loopw [9, 15] (fun vf z wr' => ∃ (i : Nat) (zi : Int), i ≤ s.o.length ∧ z = .int .i64 zi ∧ zi = (i : Int) - 1 ∧ (∃ p c, vf = .slice p (closeF s.f s.o i).length c) ∧ (nested = false → i = s.o.length) ∧ GRel b pn cn L w (closeF s.f s.o i) s.o s.m vf (.slice po s.o.length co) wr') (fun _ z _ => (intOf z + 1).toNat)
      case atStart => exact ⟨s.o.length, _, Nat.le_refl _, rfl, rfl, ⟨pf, cf, by rw [closeF_all]⟩, fun _ => rfl, by rw [closeF_all]; exact hR⟩
      case round =>
        obtain ⟨i, zi, hi, rfl, hzi, ⟨pf2, cf2, rfl⟩, hns, hR2⟩ := hrel
        have hlen := closeF_len s.f s.o i
        by_cases hgo : 0 < i ∧ nested = true
        · obtain ⟨h0, rfl⟩ := hgo
          obtain ⟨j, rfl⟩ : ∃ j, i = j + 1 := ⟨i - 1, by omega⟩
          obtain rfl : zi = (j : Int) := by omega
          have q1 : decide ((0 : Int) ≤ (j : Int)) = true := decide_eq_true (by omega)
          have ho : 0 < s.o.length := by omega
          obtain ⟨go, rfl⟩ := hR2.atO ho
          obtain ⟨_, hco, hcm, hI⟩ := hR2.itsO
          obtain ⟨g0, d0, d1, d2⟩ := its_at hI j (by omega)
          have hnx := closeF_next s.f s.o j (by omega)
          have hyt : (s.o[j]'(by omega)).t.size ≤ 5 := hz.ot _ (List.getElem_mem _)
          generalize s.o[j]'(by omega) = y at *
          generalize closeF s.f s.o (j + 1) = M at *
          have HX := Lib.hid hnx; clear hnx hzi
          unfold maxLen at hcm
          have hb1 : (j : Int) < (s.o.length : Int) := by omega
          have hb0 : (0 : Int) ≤ (j : Int) := by omega
          have hb2 : j < s.o.length := by omega
          have hnm := fun W => rname_any y.t W (by unfold maxLen; omega)
          have HNM := Lib.hid hnm; clear hnm
          go_wp2_with fail
          refine wp_region_held_drew (S := fun W => W.cell? ⟨go, j * 3 + 1, none⟩ = some (.string y.t) ∧ W.cell? ⟨go, j * 3 + 2, none⟩ = some (.int .i64 y.id)) (by kernel_rfl) (⟨d1, d2⟩) (fun hHeld => ?_)
          refine wpAnyH_take (i := 0) (v := ?_) rfl (by kernel_rfl) (by kernel_rfl) (by kernel_rfl) (fun _ _ _ h => h) (Or.inl ⟨by rfl, ?_⟩) hHeld ?_
          rotate_left
          · (intro w hSw; (try dsimp only at hSw); go_simp; try with_reducible rfl)
          try simp only [Act.put, List.getElem_toArray, List.getElem_cons_zero, List.getElem_cons_succ, List.setIfInBounds_toArray, List.set_cons_zero, List.set_cons_succ]
          refine wpAnyH_take (i := 1) (v := ?_) rfl (by kernel_rfl) (by kernel_rfl) (by kernel_rfl) (fun _ _ _ h => h) (Or.inl ⟨by rfl, ?_⟩) hHeld ?_
          rotate_left
          · (intro w hSw; (try dsimp only at hSw); go_simp; try with_reducible rfl)
          try simp only [Act.put, List.getElem_toArray, List.getElem_cons_zero, List.getElem_cons_succ, List.setIfInBounds_toArray, List.set_cons_zero, List.set_cons_succ]
          refine wpAnyH_take (i := 2) (v := ?_) rfl (by kernel_rfl) (by kernel_rfl) (by kernel_rfl) (fun _ _ _ h => h) (Or.inl ⟨by rfl, ?_⟩) hHeld ?_
          rotate_left
          · (intro w hSw; (try dsimp only at hSw); go_simp; try with_reducible rfl)
          try simp only [Act.put, List.getElem_toArray, List.getElem_cons_zero, List.getElem_cons_succ, List.setIfInBounds_toArray, List.set_cons_zero, List.set_cons_succ]
          refine wpAnyH_take (i := 3) (v := ?_) rfl (by kernel_rfl) (by kernel_rfl) (by kernel_rfl) (fun _ _ _ h => h) (Or.inl ⟨by rfl, ?_⟩) hHeld ?_
          rotate_left
          · (intro w hSw; (try dsimp only at hSw); go_simp; try with_reducible rfl)
          try simp only [Act.put, List.getElem_toArray, List.getElem_cons_zero, List.getElem_cons_succ, List.setIfInBounds_toArray, List.set_cons_zero, List.set_cons_succ]
          refine wpAnyH_take (i := 4) (v := ?_) rfl (by kernel_rfl) (by kernel_rfl) (by kernel_rfl) (fun _ _ _ h => h) (Or.inl ⟨by rfl, ?_⟩) hHeld ?_
          rotate_left
          · (intro w hSw; (try dsimp only at hSw); go_simp; try with_reducible rfl)
          try simp only [Act.put, List.getElem_toArray, List.getElem_cons_zero, List.getElem_cons_succ, List.setIfInBounds_toArray, List.set_cons_zero, List.set_cons_succ]
          refine wpAnyH_take (i := 5) (v := ?_) rfl (by kernel_rfl) (by kernel_rfl) (by kernel_rfl) (fun _ _ _ h => h) (Or.inl ⟨by rfl, ?_⟩) hHeld ?_
          rotate_left
          · (intro w hSw; (try dsimp only at hSw); go_simp; try with_reducible rfl)
          try simp only [Act.put, List.getElem_toArray, List.getElem_cons_zero, List.getElem_cons_succ, List.setIfInBounds_toArray, List.set_cons_zero, List.set_cons_succ]
          refine wpAnyH_take (i := 7) (v := ?_) rfl (by kernel_rfl) (by kernel_rfl) (by kernel_rfl) (fun _ _ _ h => h) (Or.inl ⟨by rfl, ?_⟩) hHeld ?_
          rotate_left
          · (intro w hSw; (try dsimp only at hSw); go_simp; try with_reducible rfl)
          try simp only [Act.put, List.getElem_toArray, List.getElem_cons_zero, List.getElem_cons_succ, List.setIfInBounds_toArray, List.set_cons_zero, List.set_cons_succ]
          refine wpAnyH_take (i := 8) (v := ?_) rfl (by kernel_rfl) (by kernel_rfl) (by kernel_rfl) (fun _ _ _ h => h) (Or.inl ⟨by rfl, ?_⟩) hHeld ?_
          rotate_left
          · (intro w hSw; (try dsimp only at hSw); go_simp; try with_reducible rfl)
          try simp only [Act.put, List.getElem_toArray, List.getElem_cons_zero, List.getElem_cons_succ, List.setIfInBounds_toArray, List.set_cons_zero, List.set_cons_succ]
          refine wpAnyH_take (i := 9) (v := ?_) rfl (by kernel_rfl) (by kernel_rfl) (by kernel_rfl) (fun _ _ _ h => h) (Or.inl ⟨by rfl, ?_⟩) hHeld ?_
          rotate_left
          · (intro w hSw; (try dsimp only at hSw); go_simp; try with_reducible rfl)
          try simp only [Act.put, List.getElem_toArray, List.getElem_cons_zero, List.getElem_cons_succ, List.setIfInBounds_toArray, List.set_cons_zero, List.set_cons_succ]
          refine wpAnyH_take (i := 10) (v := ?_) rfl (by kernel_rfl) (by kernel_rfl) (by kernel_rfl) (fun _ _ _ h => h) (Or.inl ⟨by rfl, ?_⟩) hHeld ?_
          rotate_left
          · (intro w hSw; (try dsimp only at hSw); go_simp; try with_reducible rfl)
          try simp only [Act.put, List.getElem_toArray, List.getElem_cons_zero, List.getElem_cons_succ, List.setIfInBounds_toArray, List.set_cons_zero, List.set_cons_succ]
          refine wpAnyH_take (i := 11) (v := ?_) rfl (by kernel_rfl) (by kernel_rfl) (by kernel_rfl) (fun _ _ _ h => h) (Or.inl ⟨by rfl, ?_⟩) hHeld ?_
          rotate_left
          · (intro w hSw; (try dsimp only at hSw); go_simp; try with_reducible rfl)
          try simp only [Act.put, List.getElem_toArray, List.getElem_cons_zero, List.getElem_cons_succ, List.setIfInBounds_toArray, List.set_cons_zero, List.set_cons_succ]
          refine wpAnyH_ready (rs := [6]) (by kernel_rfl) (by simp) ?_
          refine AllReadyH.cons rfl (fun K hK => ?_) (AllReadyH.nil)
          go_simp
          refine (HNM.out _).mono ?_; rintro e w3 ⟨rfl, rfl⟩
          go_wp2_with fail
          refine hK.out _ _ (hHeld) (fun hHeld => ?_)
          clear hK K
          try simp only [Act.put, List.getElem_toArray, List.getElem_cons_zero, List.getElem_cons_succ, List.setIfInBounds_toArray, List.set_cons_zero, List.set_cons_succ]
          refine wpAnyH_take (i := 12) (v := ?_) rfl (by kernel_rfl) (by kernel_rfl) (by kernel_rfl) (fun _ _ _ h => h) (Or.inl ⟨by rfl, ?_⟩) hHeld ?_
          rotate_left
          · (intro w hSw; (try dsimp only at hSw); go_simp; try with_reducible rfl)
          try simp only [Act.put, List.getElem_toArray, List.getElem_cons_zero, List.getElem_cons_succ, List.setIfInBounds_toArray, List.set_cons_zero, List.set_cons_succ]
          have hR3 := (hR2.drewN 1).alloc (.cells #[.int .i64 3, .string (nameB y.t), .int .i64 y.id] 45)
          refine wpAnyH_ready (rs := [13]) (by kernel_rfl) (by simp) ?_
          refine AllReadyH.cons rfl (fun K hK => ?_) (AllReadyH.nil)
          go_simp
          refine hK.out _ _ (its_held2 hHeld _) (fun hHeld => ?_)
          clear hK K
          try simp only [Act.put, List.getElem_toArray, List.getElem_cons_zero, List.getElem_cons_succ, List.setIfInBounds_toArray, List.set_cons_zero, List.set_cons_succ]
          refine wpAnyH_ready (rs := [14]) (by kernel_rfl) (by simp) ?_
          refine AllReadyH.cons rfl (fun K hK => ?_) (AllReadyH.nil)
          refine step_app eI _ (by rfl) _ _ (by rfl) w.heap.size M _ (by rfl) hR3.f hR3.chg.size (closeI y) wr.heap.size #[.int .i64 3, .string (nameB y.t), .int .i64 y.id] (by rfl) (heap_alloc_new _ _) (by rfl) (by omega) (by unfold maxLen; omega) ?_
          intro g2 cp w4 hown4 hgr4 hloc4
          have hR4 := hR3.pushF hown4 hgr4 hloc4
          have hk4 := hgr4.block go (Nat.lt_of_lt_of_le g0 (blw (Below.refl _ wr) _).size) (fun e => hR3.ne _ e.symm rfl)
          refine hK.out _ _ (⟨(World.cell?_of_block hk4).trans hHeld.1, (World.cell?_of_block hk4).trans hHeld.2⟩) (fun hHeld => ?_)
          clear hK K
          try simp only [Act.put, List.getElem_toArray, List.getElem_cons_zero, List.getElem_cons_succ, List.setIfInBounds_toArray, List.set_cons_zero, List.set_cons_succ]
          refine wpAnyH_take (i := 15) (v := ?_) rfl (by kernel_rfl) (by kernel_rfl) (by kernel_rfl) (fun _ _ _ h => h) (Or.inl ⟨by rfl, ?_⟩) hHeld ?_
          rotate_left
          · (intro w hSw; (try dsimp only at hSw); go_simp; try with_reducible rfl)
          try simp only [Act.put, List.getElem_toArray, List.getElem_cons_zero, List.getElem_cons_succ, List.setIfInBounds_toArray, List.set_cons_zero, List.set_cons_succ]
          refine wpAnyH_done (by kernel_rfl) ?_ _
          go_wp2_with fail
          go_roundw
          case rel =>
            (repeat apply Exists.intro)
            exact ⟨⟨j, (j : Int) - 1, by omega, rfl, rfl, ⟨_, _, by rw [HX.out, List.length_append]; rfl⟩, (fun h => by cases h), by rw [HX.out]; exact hR4⟩, rfl⟩
          case measure => simp [intOf]
        · cases nested
          · have hil := hns rfl
            subst hil
            rw [closeF_all] at hR2
            have HX := Lib.hid (closeF_all s.f s.o)
            have hgf := HG.out
            rw [if_neg (by decide)] at hgf
            rw [closeF_all]
            obtain ⟨_, _, _, hIf⟩ := hR2.itsF
            have HGf := Lib.hid hgf
            clear hzi hgf hgo hns hIf
            by_cases hz0 : 0 ≤ zi
            · have q1 : decide (0 ≤ zi) = true := decide_eq_true hz0
              go_wp2_with fail
              go_ret
              rw [← HGf.out]
              exact ⟨_, rfl, hR2.chg, hR2.nums, hR2.f⟩
            · have q1 : decide (0 ≤ zi) = false := decide_eq_false hz0
              go_wp2_with fail
              go_ret
              rw [← HGf.out]
              exact ⟨_, rfl, hR2.chg, hR2.nums, hR2.f⟩
          · obtain rfl : i = 0 := by rcases Nat.eq_zero_or_pos i with h | h; exact h; exact absurd ⟨h, rfl⟩ hgo
            obtain rfl : zi = -1 := by omega
            rw [closeF_none] at hR2 ⊢
            have hgf := HG.out
            rw [if_pos rfl] at hgf
            generalize s.f ++ s.o.reverse.map closeI = M at *
            have HGf := Lib.hid hgf
            clear hzi hgf hgo hns
            go_wp2_with fail
            go_ret
            rw [← HGf.out]
            exact ⟨_, rfl, hR2.chg, hR2.nums, hR2.f⟩
end Go.Proofs.YthfgpagmepdblaaGreat
namespace Go.Proofs.YthfgpagmepdblaaGreat
set_option linter.unusedVariables false

theorem ign_step {σ : Type} (f : σ → It → σ) (hf : ∀ s x, x.k = 1 → f s x = s) (out : List It) (x : It) (s : σ) : (normS out x).foldl f s = f (out.foldl f s) x := by
  by_cases hk : x.k = 1
  · rw [hf _ x hk]
    by_cases h : x.t.size = 0
    · rw [norm_skip out x hk h]
    · rcases Nat.lt_or_ge 0 out.length with hlo | hlo
      · obtain ⟨L, y, ho, hl⟩ := out_last out hlo
        by_cases hy : y.k = 1
        · rw [norm_last out x hk h L y ho hy, ho, List.foldl_append, List.foldl_append]
          show f _ _ = f _ _
          rw [hf _ _ rfl, hf _ y hy]
        · rw [norm_fresh out x hk h (by rw [hl]; simpa using hy), List.foldl_append]
          exact hf _ _ rfl
      · have : out = [] := List.length_eq_zero_iff.1 (by omega)
        subst this
        rw [norm_fresh [] x hk h rfl]
        exact hf _ _ rfl
  · rw [norm_other out x hk, List.foldl_append]; rfl
theorem ign_norm {σ : Type} (f : σ → It → σ) (hf : ∀ s x, x.k = 1 → f s x = s) (l : List It) (s : σ) : (norm l).foldl f s = l.foldl f s := by
  have : ∀ k, k ≤ l.length → (norm (l.take k)).foldl f s = (l.take k).foldl f s := by
    intro k
    induction k with
    | zero => intro _; simp [norm]
    | succ j ih =>
      intro hj
      rw [norm_next l j (by omega), ign_step f hf, ih (by omega), List.take_succ_eq_append_getElem (by omega), List.foldl_append]; rfl
  have h := this l.length (Nat.le_refl _)
  rwa [List.take_length] at h
theorem sh_norm (l : List It) : shL (norm l) = shL l := ign_norm shS (fun s x hx => by
  unfold shS
  cases s with
  | none => rfl
  | some st => obtain ⟨c, o⟩ := st; dsimp only; rw [hx]; rfl) l _
theorem nums_norm (l : List It) : numsL (norm l) = numsL l := ign_norm numS (fun s x hx => by
  unfold numS; rw [if_neg (fun h => by rw [hx] at h; exact absurd h.1 (by decide))]) l _
theorem filter_fold (p : It → Bool) (l : List It) : ∀ acc : List It, l.foldl (fun a x => if p x = true then a ++ [x] else a) acc = acc ++ l.filter p := by
  induction l with
  | nil => intro acc; simp
  | cons x t ih =>
    intro acc
    rw [List.foldl_cons, ih, List.filter_cons]
    cases p x <;> simp
theorem filter_norm (p : It → Bool) (hp : ∀ x : It, x.k = 1 → p x = false) (l : List It) : (norm l).filter p = l.filter p := by
  have h := ign_norm (fun (a : List It) x => if p x = true then a ++ [x] else a) (fun s x hx => by rw [hp x hx]; rfl) l []
  rw [filter_fold, filter_fold] at h
  simpa using h
theorem tags_norm (l : List It) : tagsL (norm l) = tagsL l := filter_norm _ (fun x hx => by rw [hx]; rfl) l
end Go.Proofs.YthfgpagmepdblaaGreat
namespace Go.Proofs.YthfgpagmepdblaaGreat
set_option linter.unusedVariables false

theorem list_rev {α : Type} {P : List α → Prop} (h0 : P []) (h1 : ∀ l x, P l → P (l ++ [x])) (l : List α) : P l := by
  have : ∀ k, k ≤ l.length → P (l.take k) := by
    intro k
    induction k with
    | zero => intro _; simpa using h0
    | succ j ih => intro hj; rw [List.take_succ_eq_append_getElem hj]; exact h1 _ _ (ih (by omega))
  have h := this l.length (Nat.le_refl _)
  rwa [List.take_length] at h
theorem proper_text {x : It} (hk : x.k = 1) : properB x = true ↔ x.t.size ≠ 0 ∧ x.id = 0 := by unfold properB; rw [if_pos hk]; simp
theorem text_eta {x : It} (hk : x.k = 1) (hi : x.id = 0) : x = ⟨1, x.t, 0⟩ := by cases x; simp_all
/-- A valid fragment is normalized. -/
theorem norm_valid (l : List It) : errL [] l = 0 → norm l = l := by
  refine list_rev (P := fun l => errL [] l = 0 → norm l = l) (fun _ => rfl) (fun l x ih h => ?_) l
  have h0 := errL_left _ _ h
  rw [errL_snoc _ _ h0, errAt_zero] at h
  rw [norm_snoc, ih h0]
  by_cases hk : x.k = 1
  · obtain ⟨h1, h2, _⟩ := h
    obtain ⟨hs, hi⟩ := (proper_text hk).1 h1
    rw [lastText_none l (h2 hk) x hk hs, ← text_eta hk hi]
  · exact norm_other l x hk
/-- A text behind a valid fragment. -/
theorem err_text (l : List It) (t : ByteArray) (h : errL [] l = 0) : errL [] (norm (l ++ [⟨1, t, 0⟩])) = 0 := by
  rw [norm_snoc, norm_valid l h]
  by_cases hz : t.size = 0
  · rw [norm_skip l ⟨1, t, 0⟩ rfl hz]; exact h
  · cases hl : lastText l
    · rw [lastText_none l hl ⟨1, t, 0⟩ rfl hz, errL_snoc _ _ h, errAt_zero]
      exact ⟨(proper_text rfl).2 ⟨hz, rfl⟩, fun _ => hl, fun h => by cases h⟩
    · have hpos : 0 < l.length := by
        rcases Nat.eq_zero_or_pos l.length with h | h
        · rw [List.length_eq_zero_iff.1 h] at hl; cases hl
        · exact h
      obtain ⟨D, y, ho, _⟩ := out_last l hpos
      have hy : y.k = 1 := by rw [ho] at hl; unfold lastText at hl; simpa using hl
      rw [norm_last l ⟨1, t, 0⟩ rfl hz D y ho hy]
      rw [ho] at h
      have h0 := errL_left _ _ h
      rw [errL_snoc _ _ h0, errAt_zero] at h
      rw [errL_snoc _ _ h0, errAt_zero]
      refine ⟨(proper_text rfl).2 ⟨?_, rfl⟩, fun _ => h.2.1 hy, fun h => by cases h⟩
      show (y.t ++ t).size ≠ 0
      rw [ByteArray.size_append]; omega
/-- Another item behind a valid fragment. -/
theorem err_other (l : List It) (x : It) (h : errL [] l = 0) (hk : x.k ≠ 1) (hp : properB x = true) (ht : isT x.k = true → tagBad l x = false) : errL [] (norm (l ++ [x])) = 0 := by
  rw [norm_snoc, norm_valid l h, norm_other l x hk, errL_snoc _ _ h, errAt_zero]
  exact ⟨hp, fun h => absurd h hk, ht⟩
theorem tags_add (l : List It) (x : It) : tagsL (norm (l ++ [x])) = tagsL l ++ (if isT x.k = true then [x] else []) := by
  rw [tags_norm]; unfold tagsL; rw [List.filter_append, List.filter_cons]; simp
theorem mem_tags {l : List It} {x : It} : x ∈ tagsL l ↔ x ∈ l ∧ isT x.k = true := by unfold tagsL; exact List.mem_filter
theorem taken_tags (l : List It) (id : Int) (h : ∀ y ∈ tagsL l, y.id ≠ id) : taken l id = false := by
  unfold taken
  rw [List.any_eq_false]
  intro y hy hc
  simp only [Bool.and_eq_true, decide_eq_true_eq] at hc
  exact h y (mem_tags.2 ⟨hy, hc.1⟩) hc.2
theorem isCon_name {s : ByteArray} (h : isCon s = true) : isNm (nameB s) = true := by
  unfold isCon at h; simp only [Bool.and_eq_true] at h; exact h.1.1.1.2

structure GInv (s : St) : Prop where
  e : errL [] s.f = 0
  ids : ∀ x ∈ tagsL s.f, 1 ≤ x.id ∧ x.id ≤ (s.id : Int)
  op : ∀ y ∈ s.o, y ∈ tagsL s.f ∧ y.k = 2 ∧ isCon y.t = true ∧ ∀ z ∈ tagsL s.f, z.id = y.id → z = y
  dist : s.o.Pairwise (fun a b => a.id ≠ b.id)
theorem GInv.plain {f o : List It} {id m : Nat} (h : GInv ⟨f, o, id, m⟩) (x : It) (m' : Nat) (hk : isT x.k = false) (he : errL [] (norm (f ++ [x])) = 0) : GInv ⟨norm (f ++ [x]), o, id, m'⟩ := by
  have ht : tagsL (norm (f ++ [x])) = tagsL f := by rw [tags_add, if_neg (by simp [hk]), List.append_nil]
  exact ⟨he, by show ∀ y ∈ tagsL (norm (f ++ [x])), _; rw [ht]; exact h.ids, by show ∀ y ∈ o, y ∈ tagsL (norm (f ++ [x])) ∧ _ ∧ _ ∧ ∀ z ∈ tagsL (norm (f ++ [x])), _; rw [ht]; exact h.op, h.dist⟩
theorem GInv.fresh {f o : List It} {id m : Nat} (h : GInv ⟨f, o, id, m⟩) (x : It) (m' : Nat) (hk : isT x.k = true) (hi : x.id = (id + 1 : Nat)) (hp : properB x = true) : GInv ⟨norm (f ++ [x]), o, id + 1, m'⟩ ∧ (x.k = 2 → isCon x.t = true → GInv ⟨norm (f ++ [x]), o ++ [x], id + 1, m'⟩) := by
  have ht : tagsL (norm (f ++ [x])) = tagsL f ++ [x] := by rw [tags_add, if_pos hk]
  have hids : ∀ y ∈ tagsL f, 1 ≤ y.id ∧ y.id ≤ (id : Int) := h.ids
  have hop : ∀ y ∈ o, y ∈ tagsL f ∧ y.k = 2 ∧ isCon y.t = true ∧ ∀ z ∈ tagsL f, z.id = y.id → z = y := h.op
  have h1 : x.k ≠ 1 := by intro e; rw [e] at hk; cases hk
  have he : errL [] (norm (f ++ [x])) = 0 := err_other f x h.e h1 hp (fun _ => tagBad_not f x (taken_tags f x.id (fun y hy e => by have := (hids y hy).2; omega)))
  have hids' : ∀ y ∈ tagsL (norm (f ++ [x])), 1 ≤ y.id ∧ y.id ≤ ((id + 1 : Nat) : Int) := by
    rw [ht]
    intro y hy
    rcases List.mem_append.1 hy with hy | hy
    · have := hids y hy; omega
    · rw [List.mem_singleton] at hy; subst hy; omega
  have hop' : ∀ y ∈ o, y ∈ tagsL (norm (f ++ [x])) ∧ y.k = 2 ∧ isCon y.t = true ∧ ∀ z ∈ tagsL (norm (f ++ [x])), z.id = y.id → z = y := by
    rw [ht]
    intro y hy
    obtain ⟨a, b, c, d⟩ := hop y hy
    refine ⟨List.mem_append_left _ a, b, c, fun z hz e => ?_⟩
    rcases List.mem_append.1 hz with hz | hz
    · exact d z hz e
    · rw [List.mem_singleton] at hz; subst hz; have := (hids y a).2; omega
  refine ⟨⟨he, hids', hop', h.dist⟩, fun hx hc => ⟨he, hids', fun y hy => ?_, ?_⟩⟩
  · rcases List.mem_append.1 hy with hy | hy
    · exact hop' y hy
    · rw [List.mem_singleton] at hy; subst hy
      show y ∈ tagsL (norm (f ++ [y])) ∧ _ ∧ _ ∧ ∀ z ∈ tagsL (norm (f ++ [y])), _
      rw [ht]
      refine ⟨List.mem_append_right _ (List.mem_singleton.2 rfl), hx, hc, fun z hz e => ?_⟩
      rcases List.mem_append.1 hz with hz | hz
      · have := (hids z hz).2; omega
      · exact List.mem_singleton.1 hz
  · show (o ++ [x]).Pairwise _
    rw [List.pairwise_append]
    refine ⟨h.dist, List.pairwise_singleton _ _, fun a ha b hb => ?_⟩
    rw [List.mem_singleton] at hb; subst hb
    have := (hids a (hop a ha).1).2
    omega
theorem pairwise_away {α : Type} {R : α → α → Prop} (hs : ∀ a b, R a b → R b a) (l : List α) (k : Nat) (h : k < l.length) (hp : l.Pairwise R) : (l.take k ++ l.drop (k + 1)).Pairwise R ∧ ∀ y ∈ l.take k ++ l.drop (k + 1), R y (l[k]'h) := by
  have e : l.take k ++ (l[k]'h :: l.drop (k + 1)) = l := by rw [← List.drop_eq_getElem_cons h, List.take_append_drop]
  rw [← e, List.pairwise_append, List.pairwise_cons] at hp
  obtain ⟨h1, ⟨h2, h3⟩, h4⟩ := hp
  refine ⟨List.pairwise_append.2 ⟨h1, h3, fun a ha b hb => h4 a ha b (.tail _ hb)⟩, fun y hy => ?_⟩
  rcases List.mem_append.1 hy with hy | hy
  · exact h4 y hy _ (.head _)
  · exact hs _ _ (h2 y hy)
theorem proper_close {t : ByteArray} {id : Int} (h : isNm t = true) (h1 : 1 ≤ id) (h2 : id ≤ 999) : properB ⟨3, t, id⟩ = true := by
  unfold properB numB; simp [h, h1, h2]
theorem err_close {f : List It} {y : It} (h : errL [] f = 0) (hy : y ∈ tagsL f) (hk : y.k = 2) (hc : isCon y.t = true) (h1 : 1 ≤ y.id) (h2 : y.id ≤ 999) (hu : ∀ z ∈ tagsL f, z.id = y.id → z = y) : errL [] (norm (f ++ [closeI y])) = 0 := by
  refine err_other f (closeI y) h (by show (3 : Int) ≠ 1; decide) (proper_close (isCon_name hc) h1 h2) (fun _ => ?_)
  rw [tagBad_iff]
  intro z hz hzt hzi
  have := hu z (mem_tags.2 ⟨hz, hzt⟩) hzi
  subst this
  exact ⟨rfl, hk, rfl⟩
theorem GInv.close {f o : List It} {id m : Nat} (h : GInv ⟨f, o, id, m⟩) (hid : id ≤ 999) (k : Nat) (hk : k < o.length) (m' : Nat) : GInv ⟨norm (f ++ [closeI (o[k]'hk)]), o.take k ++ o.drop (k + 1), id, m'⟩ := by
  have hids : ∀ y ∈ tagsL f, 1 ≤ y.id ∧ y.id ≤ (id : Int) := h.ids
  have hop : ∀ y ∈ o, y ∈ tagsL f ∧ y.k = 2 ∧ isCon y.t = true ∧ ∀ z ∈ tagsL f, z.id = y.id → z = y := h.op
  obtain ⟨hd1, hd2⟩ := pairwise_away (R := fun a b : It => a.id ≠ b.id) (fun a b h e => h e.symm) o k hk h.dist
  obtain ⟨a, b, c, d⟩ := hop _ (List.getElem_mem hk)
  generalize o[k]'hk = y at *
  have ht : tagsL (norm (f ++ [closeI y])) = tagsL f ++ [closeI y] := by rw [tags_add]; rfl
  have hy := hids y a
  have hsub : ∀ z ∈ o.take k ++ o.drop (k + 1), z ∈ o := fun z hz => by
    rcases List.mem_append.1 hz with hz | hz
    · exact List.mem_of_mem_take hz
    · exact List.mem_of_mem_drop hz
  refine ⟨err_close h.e a b c hy.1 (by omega) d, ?_, ?_, hd1⟩
  · show ∀ z ∈ tagsL (norm (f ++ [closeI y])), _
    rw [ht]
    intro z hz
    rcases List.mem_append.1 hz with hz | hz
    · exact hids z hz
    · rw [List.mem_singleton] at hz; subst hz; exact hy
  · show ∀ z ∈ o.take k ++ o.drop (k + 1), z ∈ tagsL (norm (f ++ [closeI y])) ∧ _ ∧ _ ∧ ∀ x ∈ tagsL (norm (f ++ [closeI y])), _
    rw [ht]
    intro z hz
    obtain ⟨a', b', c', d'⟩ := hop z (hsub z hz)
    refine ⟨List.mem_append_left _ a', b', c', fun x hx e => ?_⟩
    rcases List.mem_append.1 hx with hx | hx
    · exact d' x hx e
    · rw [List.mem_singleton] at hx; subst hx
      exact absurd e.symm (hd2 z hz)
theorem slot_ok : ∀ s ∈ slotL, isNm s = true := by decide
theorem empty_ok : ∀ s ∈ emptyL, isCon s = true := by decide
theorem open_ok : ∀ s ∈ openL, isCon s = true := by decide
theorem b_ok : isNm ⟨#[98]⟩ = true := by decide
theorem proper_content {k : Int} {t : ByteArray} {id : Int} (hk : k = 2 ∨ k = 4) (h : isCon t = true) (h1 : 1 ≤ id) (h2 : id ≤ 999) : properB ⟨k, t, id⟩ = true := by
  unfold properB; rw [if_neg (by show ¬ k = 1; omega), if_pos hk]; unfold numB; simp [h, h1, h2]
theorem proper_slot {t : ByteArray} (h : isNm t = true) : properB ⟨5, t, 0⟩ = true := by
  unfold properB; simp [h]
theorem GInv.step {s : St} (h : GInv s) (hid : s.id ≤ 900) (L : List Int) (tags nested : Bool) : GInv (stepG L tags nested s) := by
  obtain ⟨f, o, id, m⟩ := s
  unfold stepG
  dsimp only
  have hf : errL [] f = 0 := h.e
  have hid' : id ≤ 900 := hid
  have htext : ∀ m', GInv ⟨norm (f ++ [⟨1, (lineF L m 3).1, 0⟩]), o, id, m'⟩ := fun m' => h.plain _ m' rfl (err_text f _ hf)
  have hc := nx_lt L (lineF L m 3).2 8 (by decide)
  by_cases c1 : nx L (lineF L m 3).2 8 = 0 ∨ nx L (lineF L m 3).2 8 = 1
  · rw [nextG_slot L tags nested o id m c1]
    exact h.plain _ _ rfl (err_other f _ hf (by show (5 : Int) ≠ 1; decide) (proper_slot (pickB_all slotL slot_ok _ (nx_lt _ _ _ (by decide)))) (fun h => by cases h))
  by_cases ht : tags = true
  · by_cases c2 : nx L (lineF L m 3).2 8 = 2
    · rw [nextG_empty L tags nested o id m c2 ht]
      exact (h.fresh _ _ rfl rfl (proper_content (.inr rfl) (pickB_all emptyL empty_ok _ (nx_lt _ _ _ (by decide))) (by omega) (by omega))).1
    by_cases c3 : nx L (lineF L m 3).2 8 = 3 ∨ nx L (lineF L m 3).2 8 = 4
    · rw [nextG_open L tags nested o id m c3 ht]
      have hcn := pickB_all openL open_ok _ (nx_lt L ((lineF L m 3).2 + 1) 3 (by decide))
      exact (h.fresh _ _ rfl rfl (proper_content (.inl rfl) hcn (by omega) (by omega))).2 rfl hcn
    by_cases c5 : nx L (lineF L m 3).2 8 = 5 ∨ nx L (lineF L m 3).2 8 = 6
    · by_cases ho : 0 < o.length
      · rw [nextG_close L tags nested o id m c5 ho _ rfl]
        have hk : (pickK L nested o.length ((lineF L m 3).2 + 1)).1 < o.length := by
          unfold pickK; split
          · show o.length - 1 < _; omega
          · exact nx_lt _ _ _ ho
        generalize pickK L nested o.length ((lineF L m 3).2 + 1) = K at *
        have := h.close (by omega) K.1 hk K.2
        rw [List.getD_eq_getElem?_getD, List.getElem?_eq_getElem hk]
        exact this
      · by_cases hn : nested = false
        · rw [nextG_alone L tags nested o id m c5 ho ⟨ht, hn⟩]
          exact (h.fresh _ _ rfl rfl (proper_close b_ok (by omega) (by omega))).1
        · rw [nextG_text L tags nested o id m (.inr (.inr ⟨by omega, by omega, ho, fun hh => hn hh.2⟩))]
          exact htext _
    · rw [nextG_text L tags nested o id m (.inl (by omega))]
      exact htext _
  · have ht' : tags = false := by simpa using ht
    by_cases c5 : nx L (lineF L m 3).2 8 = 5 ∨ nx L (lineF L m 3).2 8 = 6
    · by_cases ho : 0 < o.length
      · rw [nextG_close L tags nested o id m c5 ho _ rfl]
        have hk : (pickK L nested o.length ((lineF L m 3).2 + 1)).1 < o.length := by
          unfold pickK; split
          · show o.length - 1 < _; omega
          · exact nx_lt _ _ _ ho
        generalize pickK L nested o.length ((lineF L m 3).2 + 1) = K at *
        have := h.close (by omega) K.1 hk K.2
        rw [List.getD_eq_getElem?_getD, List.getElem?_eq_getElem hk]
        exact this
      · rw [nextG_text L tags nested o id m (.inr (.inr ⟨by omega, by omega, ho, fun hh => ht hh.1⟩))]
        exact htext _
    · rw [nextG_text L tags nested o id m (by
        by_cases h7 : nx L (lineF L m 3).2 8 = 7
        · exact .inl h7
        · exact .inr (.inl ⟨by omega, by omega, ht'⟩))]
      exact htext _

/-! ### runs -/
theorem run_inv (L : List Int) (tags nested : Bool) (M : Nat) : ∀ (k n : Nat) (s : St), GInv s → Sz M s n → n + k ≤ 900 → GInv (runG L tags nested k s) ∧ Sz M (runG L tags nested k s) (n + k) := by
  intro k
  induction k with
  | zero => intro n s h1 h2 _; exact ⟨h1, h2⟩
  | succ k ih =>
    intro n s h1 h2 hn
    have := ih (n + 1) (stepG L tags nested s) (h1.step (by have := h2.id; omega) L tags nested) (h2.step L tags nested) (by omega)
    rw [show n + (k + 1) = n + 1 + k by omega]
    exact this
theorem Sz.more {M n n' : Nat} {s : St} (h : Sz M s n) (hn : n ≤ n') : Sz M s n' := by
  have h1 := h.fl; have h2 := h.ft; have h3 := h.ol; have h4 := h.id; have h5 := h.m
  exact ⟨by omega, by omega, by omega, h.ot, by omega, h.lo, by omega⟩
theorem start_inv (L : List Int) (tags nested : Bool) (m n : Nat) (hn : n ≤ 800) : GInv (startG L tags nested m n) ∧ Sz (m + 1) (startG L tags nested m n) n := by
  have hi := nx_lt L m (n + 1) (by omega)
  have h0 : GInv ⟨[], [], 0, m + 1⟩ := ⟨rfl, fun x hx => by (cases hx), fun y hy => by (cases hy), List.Pairwise.nil⟩
  have hz : Sz (m + 1) ⟨[], [], 0, m + 1⟩ 0 := ⟨Nat.le_refl _, Nat.le_refl _, Nat.le_refl _, fun y hy => by (cases hy), Nat.le_refl _, Nat.le_refl _, Nat.le_refl _⟩
  have h := run_inv L tags nested (m + 1) (nx L m (n + 1)) 0 _ h0 hz (by omega)
  exact ⟨h.1, h.2.more (by omega)⟩
theorem lenI_tl (l : List It) : lenI l ≤ txtI l + l.length := by
  refine list_rev (P := fun l => lenI l ≤ txtI l + l.length) (Nat.le_refl _) (fun l x ih => ?_) l
  rw [lenI_snoc, txtI_snoc, List.length_append]
  have : wid x ≤ x.t.size + 1 := by unfold wid; split <;> omega
  simp; omega
/-- The closing tags behind a fragment. -/
theorem closers_valid {s : St} (h : GInv s) (hid : s.id ≤ 900) : ∀ d i, d + i = s.o.length → errL [] (s.f ++ (s.o.drop i).reverse.map closeI) = 0 ∧ tagsL (s.f ++ (s.o.drop i).reverse.map closeI) = tagsL s.f ++ (s.o.drop i).reverse.map closeI := by
  intro d
  induction d with
  | zero => intro i hi; rw [show i = s.o.length by omega]; simp [h.e]
  | succ d ih =>
    intro i hi
    have hlt : i < s.o.length := by omega
    obtain ⟨e1, e2⟩ := ih (i + 1) (by omega)
    rw [List.drop_eq_getElem_cons hlt, List.reverse_cons, List.map_append, ← List.append_assoc, ← List.append_assoc, ← e2]
    have hin : ∀ z ∈ s.o.drop (i + 1), (s.o[i]'hlt).id ≠ z.id := by
      have hd := h.dist
      rw [← List.take_append_drop i s.o, List.drop_eq_getElem_cons hlt, List.pairwise_append, List.pairwise_cons] at hd
      exact hd.2.1.1
    obtain ⟨a, b, c, d⟩ := h.op _ (List.getElem_mem hlt)
    have hids := h.ids _ a
    generalize s.o[i]'hlt = y at *
    generalize s.f ++ (s.o.drop (i + 1)).reverse.map closeI = M at *
    have hu : ∀ z ∈ tagsL M, z.id = y.id → z.k = 2 ∧ nameB z.t = nameB y.t := fun z hz e => by
      rw [e2] at hz
      rcases List.mem_append.1 hz with hz | hz
      · have := d z hz e; subst this; exact ⟨b, rfl⟩
      · obtain ⟨x, hx, rfl⟩ := List.mem_map.1 hz
        exact absurd e.symm (hin x (List.mem_reverse.1 hx))
    have hk : (closeI y).k ≠ 1 := by show (3 : Int) ≠ 1; decide
    have hb : isT (closeI y).k = true → tagBad M (closeI y) = false := fun _ => by
      rw [tagBad_iff]
      intro z hz hzt hzi
      exact ⟨rfl, hu z (mem_tags.2 ⟨hz, hzt⟩) hzi⟩
    refine ⟨?_, ?_⟩
    · show errL [] (M ++ [closeI y]) = 0
      rw [errL_snoc _ _ e1, errAt_zero]
      exact ⟨proper_close (isCon_name c) hids.1 (by omega), fun h => absurd h hk, hb⟩
    · show tagsL (M ++ [closeI y]) = tagsL M ++ [closeI y]
      unfold tagsL; rw [List.filter_append]; rfl
theorem txt_close (o : List It) (h : ∀ y ∈ o, y.t.size ≤ 5) : txtI (o.map closeI) ≤ 5 * o.length := by
  induction o with
  | nil => exact Nat.le_refl _
  | cons y t ih =>
    have h1 := ih (fun z hz => h z (.tail _ hz))
    have h2 := h y (.head _)
    have h3 := name_size y.t
    have e : txtI ((y :: t).map closeI) = (nameB y.t).size + txtI (t.map closeI) := rfl
    rw [e, List.length_cons]; omega
structure FragOk (n : Nat) (f : List It) : Prop where
  e : errL [] f = 0
  len : f.length ≤ 2 * n
  txt : txtI f ≤ 23 * n
theorem frag_ok (L : List Int) (tags nested : Bool) (m n : Nat) (hn : n ≤ 800) : FragOk n (fragG L tags nested m n).1 ∧ m + 1 ≤ (fragG L tags nested m n).2 ∧ (fragG L tags nested m n).2 ≤ m + 1 + 10 * n := by
  obtain ⟨hi, hz⟩ := start_inv L tags nested m n hn
  unfold fragG
  generalize startG L tags nested m n = s at *
  have h1 := hz.fl; have h2 := hz.ft; have h3 := hz.ol; have h4 := hz.m; have h5 := hz.lo
  refine ⟨?_, h5, h4⟩
  dsimp only
  by_cases hb : nested = true
  · rw [if_pos hb]
    have hc := (closers_valid hi (by have := hz.id; omega) s.o.length 0 (by omega)).1
    rw [List.drop_zero] at hc
    refine ⟨hc, ?_, ?_⟩
    · rw [List.length_append, List.length_map, List.length_reverse]; omega
    · rw [txtI_append]
      have := txt_close s.o.reverse (fun y hy => hz.ot y (List.mem_reverse.1 hy))
      rw [List.length_reverse] at this; omega
  · rw [if_neg hb]; exact ⟨hi.e, by omega, by omega⟩
theorem FragOk.lenI {n : Nat} {f : List It} (h : FragOk n f) : lenI f ≤ 25 * n := by
  have h1 := h.len; have h2 := h.txt; have := lenI_tl f; omega
theorem FragOk.valid {n : Nat} {f : List It} (h : FragOk n f) (hn : n ≤ 40) : valE f = 0 := by
  unfold valE
  have h1 := h.len; have h2 := h.lenI
  rw [if_neg (by omega)]; exact h.e

/-! ### shapes -/
theorem sh_add (f : List It) (x : It) : shL (norm (f ++ [x])) = shS (shL f) x := by rw [sh_norm]; unfold shL; rw [List.foldl_append]; rfl
theorem shape_step {s : St} (h : shL s.f = some ([], s.o.map It.id)) (L : List Int) (tags : Bool) : shL (stepG L tags true s).f = some ([], (stepG L tags true s).o.map It.id) := by
  obtain ⟨f, o, id, m⟩ := s
  unfold stepG
  dsimp only
  have hf : shL f = some ([], o.map It.id) := h
  have htext : shL (norm (f ++ [⟨1, (lineF L m 3).1, 0⟩])) = some ([], o.map It.id) := by rw [sh_add, hf]; rfl
  have hc := nx_lt L (lineF L m 3).2 8 (by decide)
  by_cases c1 : nx L (lineF L m 3).2 8 = 0 ∨ nx L (lineF L m 3).2 8 = 1
  · rw [nextG_slot L tags true o id m c1]
    dsimp only
    rw [sh_add, hf]; rfl
  have hclose : (nx L (lineF L m 3).2 8 = 5 ∨ nx L (lineF L m 3).2 8 = 6) → 0 < o.length → shL (norm (f ++ [(nextG L tags true o id m).1])) = some ([], (nextG L tags true o id m).2.1.map It.id) := by
    intro c5 ho
    rw [nextG_close L tags true o id m c5 ho _ rfl]
    unfold pickK
    rw [if_pos rfl]
    dsimp only
    obtain ⟨O, y, e, hl⟩ := out_last o ho
    subst e
    have e1 : (O ++ [y]).length - 1 = O.length := by simp
    rw [e1, sh_add, hf]
    have e2 : (O ++ [y]).getD O.length ⟨0, .empty, 0⟩ = y := by rw [List.getD_eq_getElem?_getD]; simp
    have e3 : List.take O.length (O ++ [y]) ++ List.drop (O.length + 1) (O ++ [y]) = O := by simp
    rw [e2, e3]
    unfold shS closeI
    simp
  by_cases ht : tags = true
  · by_cases c2 : nx L (lineF L m 3).2 8 = 2
    · rw [nextG_empty L tags true o id m c2 ht]
      dsimp only
      rw [sh_add, hf]; rfl
    by_cases c3 : nx L (lineF L m 3).2 8 = 3 ∨ nx L (lineF L m 3).2 8 = 4
    · rw [nextG_open L tags true o id m c3 ht]
      dsimp only
      rw [sh_add, hf, List.map_append]; rfl
    by_cases c5 : nx L (lineF L m 3).2 8 = 5 ∨ nx L (lineF L m 3).2 8 = 6
    · by_cases ho : 0 < o.length
      · exact hclose c5 ho
      · rw [nextG_text L tags true o id m (.inr (.inr ⟨by omega, by omega, ho, fun hh => by cases hh.2⟩))]
        exact htext
    · rw [nextG_text L tags true o id m (.inl (by omega))]
      exact htext
  · have ht' : tags = false := by simpa using ht
    by_cases c5 : nx L (lineF L m 3).2 8 = 5 ∨ nx L (lineF L m 3).2 8 = 6
    · by_cases ho : 0 < o.length
      · exact hclose c5 ho
      · rw [nextG_text L tags true o id m (.inr (.inr ⟨by omega, by omega, ho, fun hh => ht hh.1⟩))]
        exact htext
    · rw [nextG_text L tags true o id m (by
        by_cases h7 : nx L (lineF L m 3).2 8 = 7
        · exact .inl h7
        · exact .inr (.inl ⟨by omega, by omega, ht'⟩))]
      exact htext
theorem run_shape (L : List Int) (tags : Bool) : ∀ (k : Nat) (s : St), shL s.f = some ([], s.o.map It.id) → shL (runG L tags true k s).f = some ([], (runG L tags true k s).o.map It.id) := by
  intro k
  induction k with
  | zero => intro s h; exact h
  | succ k ih => intro s h; exact ih _ (shape_step h L tags)
theorem close_shape (o : List It) : ∀ c, o.reverse.foldl (fun st y => shS st (closeI y)) (some (c, o.map It.id)) = some (c, []) := by
  refine list_rev (P := fun o => ∀ c, o.reverse.foldl (fun st y => shS st (closeI y)) (some (c, o.map It.id)) = some (c, [])) (fun c => rfl) (fun l x ih c => ?_) o
  rw [List.reverse_append, List.map_append]
  show ([x] ++ l.reverse).foldl _ _ = _
  rw [List.foldl_append]
  have : List.foldl (fun st y => shS st (closeI y)) (some (c, List.map It.id l ++ List.map It.id [x])) [x] = some (c, l.map It.id) := by
    rw [List.foldl_cons, List.foldl_nil]
    unfold shS closeI
    simp
  rw [this, ih]
theorem frag_shape (L : List Int) (tags : Bool) (m n : Nat) : shL (fragG L tags true m n).1 = some ([], []) := by
  unfold fragG startG
  have h := run_shape L tags (nx L m (n + 1)) ⟨[], [], 0, m + 1⟩ rfl
  generalize runG L tags true (nx L m (n + 1)) ⟨[], [], 0, m + 1⟩ = s at *
  dsimp only
  rw [if_pos rfl]
  unfold shL at *
  rw [List.foldl_append, h, List.foldl_map]
  exact close_shape s.o []
end Go.Proofs.YthfgpagmepdblaaGreat
namespace Go.Proofs.YthfgpagmepdblaaGreat
open Go.ChangeShapes Go.WideShapes Go.ChangeAt Go.RowKit
set_option linter.unusedVariables false
set_option maxRecDepth 100000

theorem int_last (o : List Int) (h : 0 < o.length) : ∃ L y, o = L ++ [y] ∧ o.getLast? = some y := by
  have hne : o ≠ [] := by intro e; rw [e] at h; cases h
  exact ⟨o.dropLast, o.getLast hne, (List.dropLast_concat_getLast hne).symm, List.getLast?_eq_some_getLast hne⟩
/-- A slice of numbers that is not empty, as it lies. -/
theorem OwnN.at {base : Nat} {L : List Int} {v : Value} {w : World} (h : OwnN base L v w) (h0 : 0 < L.length) : ∃ g cap, v = .slice (some ⟨g, 0, none⟩) L.length cap ∧ L.length ≤ cap ∧ cap ≤ maxLen ∧ ∀ i (hi : i < L.length), w.cell? ⟨g, i, none⟩ = some (.int .i64 (L[i]'hi)) := by
  obtain ⟨p, c, hv, h1, h2, hI⟩ := h.ints
  rcases h.2 with ⟨_, hz⟩ | ⟨g, cap, cur, hv2, _⟩
  · omega
  · rw [hv] at hv2
    injection hv2 with e1 e2 e3
    subst e1; subst e3
    refine ⟨g, c, hv, h1, h2, fun i hi => ?_⟩
    obtain ⟨a, e, _, hc⟩ := hI h0
    cases e
    have := hc i hi
    rwa [show (⟨g, 0, none⟩ : Addr).add i = ⟨g, i, none⟩ by unfold Addr.add; split <;> simp_all] at this
theorem OwnN.form {base : Nat} {L : List Int} {v : Value} {w : World} (h : OwnN base L v w) : ∃ p cap, v = .slice p L.length cap := by
  obtain ⟨p, c, hv, _⟩ := h.ints; exact ⟨p, c, hv⟩

end Go.Proofs.YthfgpagmepdblaaGreat
namespace Go.Proofs.YthfgpagmepdblaaGreat
open Go.ChangeShapes Go.WideShapes Go.ChangeAt Go.RowKit
set_option linter.unusedVariables false
set_option maxRecDepth 100000

def pS (l : List It) : ByteArray := ⟨(plainL l).toArray⟩
theorem pS_text (l : List It) (k : Nat) (h : k < l.length) (hk : (l[k]'h).k = 1) : pS (l.take (k + 1)) = pS (l.take k) ++ (l[k]'h).t := by
  unfold pS; rw [plain_next l k h, show plainB (l[k]'h) = (l[k]'h).t.data.toList from if_pos hk]
  apply ByteArray.ext; simp
theorem pS_slot (l : List It) (k : Nat) (h : k < l.length) (hk : (l[k]'h).k = 5) : pS (l.take (k + 1)) = pS (l.take k) ++ ⟨#[255]⟩ := by
  unfold pS; rw [plain_next l k h, show plainB (l[k]'h) = [255] by unfold plainB; rw [hk]; rfl]
  apply ByteArray.ext; simp
theorem pS_other (l : List It) (k : Nat) (h : k < l.length) (h1 : (l[k]'h).k ≠ 1) (h5 : (l[k]'h).k ≠ 5) : pS (l.take (k + 1)) = pS (l.take k) := by
  unfold pS; rw [plain_next l k h, show plainB (l[k]'h) = [] by unfold plainB; rw [if_neg h1, if_neg h5]]; simp
theorem pS_size (l : List It) (k : Nat) (h : k ≤ l.length) : (pS (l.take k)).size ≤ txtI (l.take k) + k := by
  have h1 := plain_len l k h
  have h2 : (pS (l.take k)).size = (plainL (l.take k)).length := by show (plainL (l.take k)).toArray.size = _; simp
  rw [h2]; exact h1

theorem one_row {α : Type} {en : α → Value} {W : World} {p : Option Addr} {l : List α} (h : Ones W en p l) (i : Nat) (hi : i < l.length) : ∃ a, p = some a ∧ a.block < W.heap.size ∧ W.cell? (a.add i) = some (en (l[i]'hi)) := by
  obtain ⟨a, hp, hlt, hc⟩ := h (by omega)
  exact ⟨a, hp, hlt, hc i hi⟩
theorem ones_eq_at {α : Type} {l m : List α} (hlen : l.length = m.length) (h : ∀ j (hl : j < l.length) (hm : j < m.length), l[j] = m[j]) : l = m := List.ext_getElem hlen h

set_option maxHeartbeats 1600000 in
theorem sameints_any (p q : Option Addr) (c d : Nat) (l m : List Int) (w : World) (hR : Ones w (Value.int .i64) p l) (hS : Ones w (Value.int .i64) q m) (hc : l.length ≤ c) (hd : m.length ≤ d) (hcm : c ≤ maxLen) (hdm : d ≤ maxLen) :
    Calls Tryz.prog 11 #[.slice p l.length c, .slice q m.length d] w fun e w' => e = .returned (.bool (decide (l = m))) ∧ Below w.heap.size w w' := by
  unfold maxLen at hcm hdm
  by_cases hlen : l.length = m.length
  · have qn : ((l.length : Int) != (l.length : Int)) = false := by simp
    have HM := Lib.hid (fun k (h : k < l.length) => (by omega : k < m.length))
    have HLEN := Lib.hid hlen
    rw [← hlen] at hd ⊢
    clear hlen
    have mixed : Tryz.prog.follows .mixedOrders = true := by kernel_rfl
    go_enter Tryz.func11, Tryz.ntmps11
    go_wp2_with fail
    go_loopw [13] (fun i wr => ∃ k : Nat, k ≤ l.length ∧ i = .int .i64 k ∧ Below w.heap.size w wr ∧ Hid (∀ j (hl : j < l.length) (hm : j < m.length), j < k → l[j] = m[j])) (fun i _ => l.length - (intOf i).toNat)
    case atStart => exact ⟨0, Nat.zero_le _, rfl, Below.refl _ _, Lib.hid (fun j _ _ h => by omega)⟩
    case round =>
      obtain ⟨k, hk, rfl, hB, HK⟩ := hrel
      by_cases hlt : k < l.length
      · obtain ⟨a, rfl, ha, c0⟩ := one_row (hR.call hB) k hlt
        obtain ⟨b, rfl, hb, d0⟩ := one_row (hS.call hB) k (HM.out k hlt)
        have hne : l[k] ≠ m[k]'(HM.out k hlt) → l ≠ m := fun h e => by subst e; exact h rfl
        have hnext : l[k] = m[k]'(HM.out k hlt) → ∀ j (hl : j < l.length) (hm : j < m.length), j < k + 1 → l[j] = m[j] := fun h j hl hm hj => by
          by_cases e : j = k
          · subst e; exact h
          · exact HK.out j hl hm (by omega)
        generalize l[k] = x at *
        generalize m[k]'(HM.out k hlt) = y at *
        have HN := Lib.hid hne; have HX := Lib.hid hnext; clear hne hnext
        by_cases hxy : x = y
        · subst hxy
          have HX' := Lib.hid (HX.out rfl)
          clear HX HN
          go_wp2_with fail
          go_quiet (fail)
          go_wp2_with fail
          go_roundw
          case rel => exact ⟨k + 1, hlt, by go_num, bdrN hB _, HX'⟩
          case measure => simp [intOf]; omega
        · clear HX
          have HZ := Lib.hid (HN.out hxy)
          go_wp2_with fail
          go_quiet (fail)
          go_wp2_with fail
          go_ret
          exact ⟨ret_bool (decide_eq_false HZ.out).symm, bdrN hB _⟩
      · obtain rfl : k = l.length := by omega
        have HZ := Lib.hid (ones_eq_at HLEN.out (fun j hl hm => HK.out j hl hm hl))
        go_wp2_with fail
        go_ret
        exact ⟨ret_bool (decide_eq_true HZ.out).symm, hB⟩
  · have qn : ((l.length : Int) != (m.length : Int)) = true := by simp; omega
    have qn' : (l.length != m.length) = true := by simp; omega
    have HZ := Lib.hid (decide_eq_false (p := l = m) (fun e => hlen (by rw [e])))
    clear hlen
    go_enter Tryz.func11, Tryz.ntmps11
    go_wp2_with fail
    go_ret
    exact ⟨ret_bool HZ.out.symm, Below.refl _ _⟩

end Go.Proofs.YthfgpagmepdblaaGreat
namespace Go.Proofs.YthfgpagmepdblaaGreat
open Go.ChangeShapes Go.WideShapes Go.ChangeAt Go.RowKit
set_option linter.unusedVariables false
set_option maxRecDepth 100000

/-- The fragment of a law. -/
def mk (l : List Int) (tags nested : Bool) : List It := (fragG l tags nested 0 8).1
theorem mk_ok (l : List Int) (tags nested : Bool) : FragOk 8 (mk l tags nested) := (frag_ok l tags nested 0 8 (by decide)).1
theorem mk_sm (l : List Int) (tags nested : Bool) : Sm 1 (mk l tags nested) := ⟨by have := (mk_ok l tags nested).len; omega, by have := (mk_ok l tags nested).txt; omega⟩
/-- The address of numbers: of an empty slice it is not looked at. -/
theorem ones_any {w : World} {p : Option Addr} {L : List Int} (hL : Ones w (Value.int .i64) p L) (h0 : 0 < L.length) : ∀ a, p = some a → a.block < w.heap.size := fun a ha => by
  obtain ⟨b, e, hlt, _⟩ := hL h0
  rw [ha] at e; injection e with e; rw [e]; exact hlt

theorem NumsAt.made {p : Option Addr} {cap : Nat} {L : List Int} {w : World} (hL : Ones w (Value.int .i64) p L) (hw : ∀ i (h : i < L.length), (Lit.int .i64 (L[i]'h)).wf = true) (hc : L.length ≤ cap) (hm : cap ≤ maxLen) :
    NumsAt (w.alloc (.cells #[.slice p L.length cap, .int .i64 0] 33)) w.heap.size p cap L 0 :=
  ⟨heap_alloc_new w _, hL.call (blw (Below.refl _ _) _), fun h0 a ha => by have := ones_any hL h0 a ha; omega, hw, hc, hm⟩
def shC (st : Option (List Int × List Int)) : List Int := match st with | some (c, _) => c | none => []
def shO (st : Option (List Int × List Int)) : List Int := match st with | some (_, o) => o | none => []
/-- What Shape answers, whether it fails or not. -/
def EndShU (st : Option (List Int × List Int)) (w : World) (e : Ending) (w' : World) : Prop := ∃ p1 c1 p2 c2, e = .returned (.tuple #[.slice p1 (shC st).length c1, .slice p2 (shO st).length c2, .bool st.isSome]) ∧
  (shC st).length ≤ c1 ∧ c1 ≤ maxLen ∧ Ones w' (Value.int .i64) p1 (shC st) ∧ (shO st).length ≤ c2 ∧ c2 ≤ maxLen ∧ Ones w' (Value.int .i64) p2 (shO st) ∧ Below w.heap.size w w'
theorem EndSh.u {st : Option (List Int × List Int)} {w w' : World} {e : Ending} (h : EndSh st w e w') : EndShU st w e w' := by
  cases st with
  | none => exact ⟨none, 0, none, 0, h.1, Nat.le_refl _, Nat.zero_le _, Ones.nil _ _ _, Nat.le_refl _, Nat.zero_le _, Ones.nil _ _ _, h.2⟩
  | some x =>
    obtain ⟨c, o⟩ := x
    obtain ⟨vc, vo, rfl, hT⟩ := h
    obtain ⟨p1, c1, rfl, a1, a2, a3⟩ := hT.c.ints
    obtain ⟨p2, c2, rfl, b1, b2, b3⟩ := hT.o.ints
    exact ⟨p1, c1, p2, c2, rfl, a1, a2, a3, b1, b2, b3, hT.below⟩
end Go.Proofs.YthfgpagmepdblaaGreat
namespace Go.Proofs.YthfgpagmepdblaaGreat
set_option linter.unusedVariables false

theorem lenI_cons (x : It) (t : List It) : lenI (x :: t) = wid x + lenI t := by simp [lenI]
theorem wid_text {x : It} (h : x.k = 1) : wid x = x.t.size := by unfold wid; rw [if_pos h]
theorem wid_other {x : It} (h : x.k ≠ 1) : wid x = 1 := by unfold wid; rw [if_neg h]
theorem oneI_none {x : It} {s a b : Nat} (h : min b (s + wid x) ≤ max a s) : oneI x s a b = [] := by unfold oneI; rw [if_neg (by omega)]
theorem oneI_some {x : It} {s a b : Nat} (h : max a s < min b (s + wid x)) : oneI x s a b = [cutI x (max a s - s) (min b (s + wid x) - s)] := by unfold oneI; rw [if_pos h]
theorem sl_before (l : List It) : ∀ s a b, b ≤ s → slI l s a b = [] := by
  induction l with
  | nil => intro s a b h; rfl
  | cons x t ih => intro s a b h; rw [slI, oneI_none (by omega), ih _ _ _ (by omega)]; rfl
theorem sl_from (l : List It) : ∀ s a a' b, a ≤ s → a' ≤ s → slI l s a b = slI l s a' b := by
  induction l with
  | nil => intro s a a' b h h'; rfl
  | cons x t ih =>
    intro s a a' b h h'
    rw [slI, slI, ih (s + wid x) a a' b (by omega) (by omega)]
    unfold oneI
    rw [show max a s = max a' s by omega]
theorem sl_behind (l : List It) : ∀ s a b, s + lenI l ≤ a → slI l s a b = [] := by
  induction l with
  | nil => intro s a b h; rfl
  | cons x t ih => intro s a b h; rw [lenI_cons] at h; rw [slI, oneI_none (by omega), ih _ _ _ (by omega)]; rfl
theorem cut_two (t : ByteArray) (id : Int) (o : List It) (u v z : Nat) (h1 : u ≤ v) (h2 : v < z) (h3 : z ≤ t.size) :
    normS (normS o ⟨1, t.extract u v, id⟩) ⟨1, t.extract v z, id⟩ = normS o ⟨1, t.extract u z, id⟩ := by
  rw [two_texts o ⟨1, t.extract u v, id⟩ ⟨1, t.extract v z, id⟩ rfl rfl (by show (t.extract v z).size ≠ 0; rw [ByteArray.size_extract]; omega), normS_text o _ id 0]
  congr 2
  show t.extract u v ++ t.extract v z = t.extract u z
  rw [← ByteArray.extract_eq_extract_append_extract v h1 (by omega)]
/-- Two neighbouring slices are, together, one. -/
theorem sl_two (l : List It) : ∀ (s a b c : Nat) (acc : List It), a ≤ b → b ≤ c → (slI l s a b ++ slI l s b c).foldl normS acc = (slI l s a c).foldl normS acc := by
  induction l with
  | nil => intro s a b c acc h1 h2; rfl
  | cons x t ih =>
    intro s a b c acc h1 h2
    by_cases hb : b ≤ s
    · rw [sl_before (x :: t) s a b hb, List.nil_append, sl_from (x :: t) s b a c hb (by omega)]
    by_cases hw : s + wid x ≤ b
    · rw [slI, slI, slI, oneI_none (x := x) (s := s) (a := b) (b := c) (by omega), List.nil_append]
      rw [show oneI x s a b = oneI x s a c by unfold oneI; rw [show min b (s + wid x) = min c (s + wid x) by omega], List.append_assoc, List.foldl_append, ih (s + wid x) a b c _ h1 h2, ← List.foldl_append]
    · have hk : x.k = 1 := by
        by_cases hk : x.k = 1
        · exact hk
        · have := wid_other hk; omega
      have hws := wid_text hk
      rw [slI, slI, slI, sl_before t (s + wid x) a b (by omega), List.append_nil, sl_from t (s + wid x) b a c (by omega) (by omega), ← List.append_assoc, List.foldl_append, List.foldl_append (l := oneI x s a c)]
      congr 1
      by_cases hab : max a s < b
      · rw [oneI_some (x := x) (s := s) (a := a) (b := b) (by omega), oneI_some (x := x) (s := s) (a := a) (b := c) (by omega)]
        by_cases hbc : b < c
        · rw [oneI_some (x := x) (s := s) (a := b) (b := c) (by omega)]
          unfold cutI
          rw [if_pos hk, if_pos hk, if_pos hk, hk]
          have e1 : min b (s + wid x) - s = b - s := by omega
          have e2 : max b s - s = b - s := by omega
          rw [e1, e2]
          exact cut_two x.t x.id acc _ _ _ (by omega) (by omega) (by omega)
        · rw [oneI_none (x := x) (s := s) (a := b) (b := c) (by omega), List.append_nil, show c = b by omega]
      · rw [oneI_none (x := x) (s := s) (a := a) (b := b) (by omega), List.nil_append]
        unfold oneI
        rw [show max b s = max a s by omega]
theorem sl_all (l : List It) : ∀ (s a c : Nat) (acc : List It), a ≤ s → s + lenI l ≤ c → (slI l s a c).foldl normS acc = l.foldl normS acc := by
  induction l with
  | nil => intro s a c acc h1 h2; rfl
  | cons x t ih =>
    intro s a c acc h1 h2
    rw [lenI_cons] at h2
    rw [slI, List.foldl_append, ih (s + wid x) a c _ (by omega) (by omega), List.foldl_cons]
    congr 1
    by_cases hk : x.k = 1
    · have hw := wid_text hk
      by_cases hz : x.t.size = 0
      · rw [oneI_none (by omega), norm_skip acc x hk hz]; rfl
      · rw [oneI_some (by omega)]
        unfold cutI
        rw [if_pos hk, show max a s - s = 0 by omega, show min c (s + wid x) - s = x.t.size by omega, ByteArray.extract_zero_size]; rfl
    · have hw := wid_other hk
      rw [oneI_some (by omega)]
      unfold cutI
      rw [if_neg hk]; rfl
theorem norm_sl_two (l : List It) (a b c : Nat) (h1 : a ≤ b) (h2 : b ≤ c) : norm (slI l 0 a b ++ slI l 0 b c) = norm (slI l 0 a c) := sl_two l 0 a b c [] h1 h2
theorem norm_sl_all (l : List It) (c : Nat) (h : lenI l ≤ c) : norm (slI l 0 0 c) = norm l := sl_all l 0 0 c [] (Nat.le_refl _) (by omega)
theorem norm_three (l : List It) (i k n : Nat) (h1 : i ≤ k) (h2 : k ≤ n) (h3 : lenI l ≤ n) : norm (norm (slI l 0 0 i ++ slI l 0 i k) ++ slI l 0 k n) = norm l := by
  rw [norm_sl_two l 0 i k (by omega) h1, norm_left, norm_sl_two l 0 k n (by omega) h2, norm_sl_all l n h3]
theorem lenI_sl (l : List It) : ∀ s a b, lenI (slI l s a b) = min b (s + lenI l) - max a s := by
  induction l with
  | nil => intro s a b; show 0 = _; simp [lenI]; omega
  | cons x t ih =>
    intro s a b
    rw [slI, lenI_append, ih, lenI_cons]
    have : lenI (oneI x s a b) = min b (s + wid x) - max a s := by
      by_cases h : max a s < min b (s + wid x)
      · rw [oneI_some h]
        show lenI [cutI x _ _] = _
        rw [show lenI [cutI x (max a s - s) (min b (s + wid x) - s)] = wid (cutI x (max a s - s) (min b (s + wid x) - s)) by simp [lenI]]
        unfold cutI
        by_cases hk : x.k = 1
        · have := wid_text hk
          rw [if_pos hk, wid_text (by exact hk)]
          show (x.t.extract _ _).size = _
          rw [ByteArray.size_extract]; omega
        · have := wid_other hk
          rw [if_neg hk, this]; omega
      · rw [oneI_none (by omega)]
        show 0 = _; omega
    rw [this]; omega
theorem plain_three (l : List It) (i k n : Nat) (h1 : i ≤ k) (h2 : k ≤ n) (h3 : lenI l ≤ n) : plainL (slI l 0 0 i) ++ plainL (slI l 0 i k) ++ plainL (slI l 0 k n) = plainL l := by
  have h := congrArg plainL (norm_three l i k n h1 h2 h3)
  rw [plain_norm, plain_norm, plainL_append, plain_norm, plainL_append] at h
  exact h
theorem proper_kind {x : It} (h : properB x = true) : 1 ≤ x.k ∧ x.k ≤ 5 ∧ 0 ≤ x.id ∧ x.id ≤ 999 := by
  unfold properB numB at h
  split at h
  · simp at h; omega
  · split at h
    · simp at h; omega
    · split at h
      · simp at h; omega
      · split at h
        · simp at h; omega
        · cases h
theorem valid_proper (l : List It) : errL [] l = 0 → ∀ x ∈ l, properB x = true := by
  refine list_rev (P := fun l => errL [] l = 0 → ∀ x ∈ l, properB x = true) (fun _ x hx => by cases hx) (fun l x ih h y hy => ?_) l
  have h0 := errL_left _ _ h
  rw [errL_snoc _ _ h0, errAt_zero] at h
  rcases List.mem_append.1 hy with hy | hy
  · exact ih h0 y hy
  · rw [List.mem_singleton] at hy; subst hy; exact h.1
theorem mem_txt {l : List It} {x : It} (h : x ∈ l) : x.t.size ≤ txtI l := by
  induction l with
  | nil => cases h
  | cons y t ih =>
    have e : txtI (y :: t) = y.t.size + txtI t := rfl
    rcases List.mem_cons.1 h with rfl | h
    · omega
    · have := ih h; omega
theorem oks_valid {l : List It} (h : errL [] l = 0) (ht : txtI l ≤ 140737488355328) : Oks l := fun i hi => by
  have hp := proper_kind (valid_proper l h _ (List.getElem_mem hi))
  have hs := mem_txt (List.getElem_mem hi)
  generalize l[i] = x at *
  have hwf : ∀ n : Int, 0 ≤ n → n ≤ 999 → (Lit.int .i64 n).wf = true := fun n h1 h2 => by
    simp [Lit.wf, IntKind.min, IntKind.max, IntKind.signed, IntKind.bits]; omega
  exact ⟨hwf _ (by omega) (by omega), by omega, hwf _ hp.2.2.1 hp.2.2.2⟩
theorem cut_tag {x : It} (u v : Nat) (h : x.k ≠ 1) : cutI x u v = x := by unfold cutI; rw [if_neg h]
theorem sl_tags (l : List It) : ∀ s a b, ∀ y ∈ slI l s a b, isT y.k = true → y ∈ l := by
  induction l with
  | nil => intro s a b y hy; cases hy
  | cons x t ih =>
    intro s a b y hy ht
    rw [slI] at hy
    rcases List.mem_append.1 hy with hy | hy
    · unfold oneI at hy
      split at hy
      · rw [List.mem_singleton] at hy
        by_cases hk : x.k = 1
        · rw [hy] at ht; unfold cutI at ht; rw [if_pos hk] at ht; rw [hk] at ht; cases ht
        · rw [cut_tag _ _ hk] at hy; rw [hy]; exact .head _
      · cases hy
    · exact .tail _ (ih _ _ _ y hy ht)
/-- A slice of a valid fragment is valid. -/
theorem err_sl (l : List It) (a b : Nat) : errL [] l = 0 → errL [] (slI l 0 a b) = 0 ∧ (lenI l ≤ b → lastText (slI l 0 a b) = true → lastText l = true) := by
  refine list_rev (P := fun l => errL [] l = 0 → errL [] (slI l 0 a b) = 0 ∧ (lenI l ≤ b → lastText (slI l 0 a b) = true → lastText l = true)) (fun _ => ⟨rfl, fun _ h => by cases h⟩) (fun l x ih h => ?_) l
  have h0 := errL_left _ _ h
  obtain ⟨i1, i2⟩ := ih h0
  rw [errL_snoc _ _ h0, errAt_zero] at h
  obtain ⟨hp, ht, hb⟩ := h
  have e : slI (l ++ [x]) 0 a b = slI l 0 a b ++ oneI x (lenI l) a b := by rw [slI_append]; simp [slI]
  have hl : lastText (l ++ [x]) = decide (x.k = 1) := by unfold lastText; simp
  have hlen : lenI (l ++ [x]) = lenI l + wid x := lenI_snoc l x
  have hwp : 0 < wid x := by
    by_cases hk : x.k = 1
    · rw [wid_text hk]; have := ((proper_text hk).1 hp).1; omega
    · rw [wid_other hk]; omega
  rw [e, hl, hlen]
  by_cases hc : max a (lenI l) < min b (lenI l + wid x)
  · rw [oneI_some hc]
    generalize hu : max a (lenI l) - lenI l = u at *
    generalize hv : min b (lenI l + wid x) - lenI l = v at *
    have hkc : (cutI x u v).k = x.k := by unfold cutI; split <;> rfl
    refine ⟨?_, fun _ hh => ?_⟩
    · rw [errL_snoc _ _ i1, errAt_zero]
      by_cases hk : x.k = 1
      · obtain ⟨hs, hi⟩ := (proper_text hk).1 hp
        have hw := wid_text hk
        refine ⟨?_, fun _ => ?_, fun hh => ?_⟩
        · rw [proper_text (by rw [hkc]; exact hk)]
          unfold cutI
          rw [if_pos hk]
          refine ⟨?_, hi⟩
          show (x.t.extract u v).size ≠ 0
          rw [ByteArray.size_extract]; omega
        · cases hq : lastText (slI l 0 a b)
          · rfl
          · rw [i2 (by omega) hq] at ht; exact absurd (ht hk) (by decide)
        · rw [hkc, hk] at hh; cases hh
      · rw [cut_tag _ _ hk]
        refine ⟨hp, fun hh => absurd hh hk, fun hh => ?_⟩
        rw [tagBad_iff]
        intro y hy hyt hyi
        exact (tagBad_iff _ _).1 (hb hh) y (sl_tags l 0 a b y hy hyt) hyt hyi
    · unfold lastText at hh
      simp only [List.getLast?_append, List.getLast?_singleton, Option.some_or, decide_eq_true_eq] at hh
      rw [hkc] at hh; exact decide_eq_true hh
  · rw [oneI_none (by omega), List.append_nil]
    refine ⟨i1, fun hb2 hh => ?_⟩
    have : slI l 0 a b = [] := sl_behind l 0 a b (by omega)
    rw [this] at hh; cases hh
theorem sl_valid {l : List It} (h : valE l = 0) (a b : Nat) : valE (slI l 0 a b) = 0 := by
  unfold valE at h ⊢
  split at h
  · cases h
  · rename_i hn
    have h1 := slI_len l 0 a b
    have h2 := lenI_sl l 0 a b
    rw [if_neg (by omega)]
    exact (err_sl l a b h).1
theorem txt_sl (l : List It) : ∀ s a b, txtI (slI l s a b) ≤ txtI l := by
  induction l with
  | nil => intro s a b; exact Nat.le_refl _
  | cons x t ih =>
    intro s a b
    have e : txtI (x :: t) = x.t.size + txtI t := rfl
    have h1 := ih (s + wid x) a b
    rw [slI, txtI_append, e]
    have : txtI (oneI x s a b) ≤ x.t.size := by
      unfold oneI
      split
      · show (cutI x _ _).t.size + 0 ≤ _
        unfold cutI; split
        · show (x.t.extract _ _).size + 0 ≤ _; rw [ByteArray.size_extract]; omega
        · omega
      · exact Nat.zero_le _
    omega
end Go.Proofs.YthfgpagmepdblaaGreat
namespace Go.Proofs.YthfgpagmepdblaaGreat
open Go.ChangeShapes Go.WideShapes Go.ChangeAt Go.RowKit
set_option linter.unusedVariables false
set_option linter.unusedSimpArgs false
set_option maxRecDepth 100000

theorem mk_kinds (L : List Int) : kindsOk (mk L true false) := fun x hx => by
  have hp := valid_proper _ (mk_ok L true false).e x hx
  unfold properB at hp
  split at hp
  · omega
  · split at hp
    · omega
    · split at hp
      · omega
      · split at hp
        · omega
        · cases hp

end Go.Proofs.YthfgpagmepdblaaGreat
