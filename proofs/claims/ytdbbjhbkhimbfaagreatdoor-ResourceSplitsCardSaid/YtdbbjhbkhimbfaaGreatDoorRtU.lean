/- The generator of fragments: the walk. Shape. What the law's own generator answers; what Shape answers, in one form. Rename. The reference's Rename. Renumber and Canonical. Contracts of appendText and Encode. The contract of Encode. What the laws' generator makes without tags; decoding what is encoded. Plain mathematics of ResourceLines: a value with a continuation in it, and its line. Plain mathematics of raw contents with longer forms: they read as the fragment. Contracts of the reference's byteOf and Encode. The contract of the reference's Encode, at the format of resources. Items that lie elsewhere stay when a row grows. A call that leaves the world alone may be taken first in a region that draws its order. Contracts of the reference's helpers: keys, ends of lines, known keys. Contracts of the generator's raw contents at the format of resources. -/
import Derived.Test.YtdbbjhbkhimbfaaGreatDoorFrg
import Derived.Test.YtdbbjhbkhimbfaaGreatDoorTwo
import Derived.Test.YtdbbjhbkhimbfaaGreatDoorRnr
import Derived.Test.YtdbbjhbkhimbfaaGreatDoorSam
import Derived.Test.YtdbbjhbkhimbfaaGreatDoorGvl
import Derived.Test.YtdbbjhbkhimbfaaGreatDoorPrt
import Derived.Test.YtdbbjhbkhimbfaaGreatDoorFst
import Derived.Test.YtdbbjhbkhimbfaaGreatDoorPln
import Derived.Test.YtdbbjhbkhimbfaaGreatDoorNrm
import Derived.Test.YtdbbjhbkhimbfaaGreatDoorRtD
import Derived.Test.YtdbbjhbkhimbfaaGreatDoorTgs
import Derived.Test.YtdbbjhbkhimbfaaGreatDoorCcW
import Derived.Lib.SlBytesRow
import Derived.Test.YtdbbjhbkhimbfaaGreatDoorNrq
import Derived.Test.YtdbbjhbkhimbfaaGreatDoorIt
import Derived.Test.YtdbbjhbkhimbfaaGreatDoorAcc
import Derived.Deep.RegionHeld3
import Derived.Test.YtdbbjhbkhimbfaaGreatDoorLin
import Derived.Test.YtdbbjhbkhimbfaaGreatDoorRsl
import Derived.Test.YtdbbjhbkhimbfaaGreatDoorSlm
namespace Go.Proofs.YtdbbjhbkhimbfaaGreatDoor
open Go.ChangeShapes Go.WideShapes Go.ChangeAt Go.RowKit
set_option linter.unusedVariables false
set_option linter.unusedSimpArgs false
set_option maxRecDepth 100000

set_option maxHeartbeats 6400000 in
theorem fragment_any (b : Nat) (pn : Option Addr) (cn : Nat) (L : List Int) (m : Nat) (tags nested : Bool) (n : Int) (N : Nat) (hnN : n = (N : Int)) (w : World) (h : NumsAt w b pn cn L m) (hlo : 0 < L.length → ∀ a, pn = some a → a.block < w.heap.size) (hm : m ≤ 100000) (hn : N ≤ 100) :
    Calls Tryz.prog 15 #[.pointer (some ⟨b, 0, none⟩), .int .i64 n, .bool tags, .bool nested] w fun e w' => ∃ v, e = .returned v ∧ w.grownBy w' (some b) ∧ NumsAt w' b pn cn L (fragG L tags nested m N).2 ∧ OwnI w.heap.size (fragG L tags nested m N).1 v w' := by
  subst hnN
  have h1 := fun W h => next_any b pn cn L m ((N : Int) + 1) (N + 1) (by omega) W h (by omega) (by omega) (by omega)
  have hi0 := nx_lt L m (N + 1) (by omega)
  generalize hG : fragG L tags nested m N = G at *
  unfold fragG startG at hG
  generalize nx L m (N + 1) = i0 at *
  generalize hF : runG L tags nested i0 ⟨[], [], 0, m + 1⟩ = F at *
  have H1 := Lib.hid h1; clear h1
  have HG := Lib.hid hG; clear hG
  have HF := Lib.hid hF; clear hF
  have hr0 : GRel b pn cn L w [] [] m (.slice none 0 0) (.slice none 0 0) w := ⟨h.lt, World.grownBy.refl _ _, h, OwnL.nil _ _, OwnL.nil _ _, fun k h => by simp [Value.ownBlock] at h, hlo⟩
  go_enter Tryz.func15, Tryz.ntmps15
  go_wp2_with fail
  refine (H1.out _ h).mono ?_
  rintro e w1 ⟨rfl, hg, hN⟩
  have hr1 := hr0.next hg hN
  clear hr0
  go_wp2_with fail
  go_loopw [9, 10, 11, 12] (fun vf vo vi i wr => ∃ (k n : Nat) (s : St), i = .int .i64 k ∧ vi = .int .i64 s.id ∧ (∃ p c, vf = .slice p s.f.length c) ∧ (∃ p c, vo = .slice p s.o.length c) ∧ k + n = i0 ∧ Sz (m + 1) s n ∧ GRel b pn cn L w s.f s.o s.m vf vo wr ∧ Hid (runG L tags nested k s = F)) (fun _ _ _ i _ => (intOf i).toNat)
  case atStart => exact ⟨i0, 0, ⟨[], [], 0, m + 1⟩, rfl, rfl, ⟨_, _, rfl⟩, ⟨_, _, rfl⟩, rfl, ⟨Nat.le_refl _, Nat.le_refl _, Nat.le_refl _, fun y hy => by (cases hy), Nat.le_refl _, Nat.le_refl _, Nat.le_refl _⟩, hr1, HF⟩
  case round =>
    obtain ⟨k, j, s, rfl, rfl, ⟨pf, cf, rfl⟩, ⟨po, co, rfl⟩, hkj, hz, hR, HL⟩ := hrel
    by_cases hlt : 0 < k
    · have q : decide (0 < (k : Int)) = true := decide_eq_true (by omega)
      obtain ⟨k, rfl⟩ : ∃ j, k = j + 1 := ⟨k - 1, by omega⟩
      have hz' := hz.step L tags nested
      have hzm := hz.m
      have hL := fun W h => line_any b pn cn L s.m 3 3 rfl W h (by omega) (by omega)
      have h8 := fun W h => next_any b pn cn L (lineF L s.m 3).2 8 8 rfl W h (by have := lineF_size L s.m 3; omega) (by omega) (by omega)
      obtain ⟨cI, hcI⟩ : ∃ z : Int, z = (nx L (lineF L s.m 3).2 8 : Int) := ⟨_, rfl⟩
      rw [← hcI] at h8
      have HL3 := Lib.hid hL; have H8 := Lib.hid h8; have HC := Lib.hid hcI
      clear hL h8 hcI
      go_wp2_with fail
      refine (HL3.out _ hR.nums).mono ?_
      rintro e w2 ⟨rfl, hg2, hN2⟩
      have hR2 := hR.next hg2 hN2
      go_wp2_with fail
      have hR3 := hR2.alloc (.cells #[.int .i64 1, .string (lineF L s.m 3).1, .int .i64 0] 43)
      have hbw := hR.base
      have hsz2 : w.heap.size ≤ w2.heap.size := hR2.chg.size
      refine (H8.out _ hR3.nums).mono ?_
      rintro e w3 ⟨rfl, hg3, hN3⟩
      have hR4 := hR3.next hg3 hN3
      have hB3 := (hg3.block w2.heap.size (by simp) (fun e => by injection e with e; omega)).trans (heap_alloc_new w2 _)
      have hfB : (Value.slice pf s.f.length cf).ownBlock ≠ some w2.heap.size := fun e => by have := (hR2.f.lt _ e).2; omega
      have hoB : (Value.slice po s.o.length co).ownBlock ≠ some w2.heap.size := fun e => by have := (hR2.o.lt _ e).2; omega
      have zB : w2.heap.size < w3.heap.size := by have := hg3.size; simp at this; omega
      generalize w2.heap.size = B at *
      clear hR3 hN3 hg3 hR2 hN2 hg2 HL3 H8
      go_upto_block 2 with fail
      go_cut [10, 11, 14] from 20 to 114 (fun vo' vi' _ wx => ∃ (x : It) (o' : List It) (id' m' : Nat), Hid (nextG L tags nested s.o s.id s.m = (x, o', id', m')) ∧ vi' = .int .i64 id' ∧ (∃ p c, vo' = .slice p o'.length c) ∧ GRel b pn cn L w s.f o' m' (.slice pf s.f.length cf) vo' wx ∧ wx.heap[B]? = some (.cells #[.int .i64 x.k, .string x.t, .int .i64 x.id] 43 (0, 0)))
      case first =>
        have hc8 : cI = 0 ∨ cI = 1 ∨ cI = 2 ∨ cI = 3 ∨ cI = 4 ∨ cI = 5 ∨ cI = 6 ∨ cI = 7 := by have := nx_lt L (lineF L s.m 3).2 8 (by omega); have := HC.out; omega
        have hlf := lineF_size L s.m 3
        have hzol := hz.ol
        have hzid := hz.id
        have h2 := fun W h => next_any b pn cn L ((lineF L s.m 3).2 + 1) 2 2 rfl W h (by omega) (by omega) (by omega)
        have h3 := fun W h => next_any b pn cn L ((lineF L s.m 3).2 + 1) 3 3 rfl W h (by omega) (by omega) (by omega)
        have H2 := Lib.hid h2; have H3 := Lib.hid h3; clear h2 h3
        rcases hc8 with rfl | rfl | rfl | rfl | rfl | rfl | rfl | rfl
        · have hk3 := nx_lt L ((lineF L s.m 3).2 + 1) 3 (by omega)
          have HN := Lib.hid (nextG_slot L tags nested s.o s.id s.m (by have := HC.out; omega))
          clear HL HC
          go_wp2_with fail
          refine (H3.out _ (hR4.alloc _).nums).mono ?_
          rintro e w5 ⟨rfl, hg5, hN5⟩
          have hrow := pick_row ((hg5.block w3.heap.size (by simp) (fun e => by injection e; omega)).trans (heap_alloc_new w3 _)) slotL rfl _ (nx_lt L ((lineF L s.m 3).2 + 1) 3 (by omega))
          have hB5 := (hg5.block B (by simp; omega) (fun e => by injection e; omega)).trans ((Lib.alloc_old w3 _ B zB).trans hB3)
          have hR5 := (hR4.alloc _).next hg5 hN5
          obtain ⟨_, _, _, f0, f1, f2⟩ := cells_item hB5
          have HB5 := Lib.hid hB5
          have zB5 : B < w5.heap.size := (Array.getElem?_eq_some_iff.1 hB5).1
          clear hB5
          go_wp2_with fail
          go_meet
          exact ⟨⟨5, pickB slotL (nx L ((lineF L s.m 3).2 + 1) 3), 0⟩, s.o, s.id, (lineF L s.m 3).2 + 1 + 1, HN, rfl, ⟨_, _, rfl⟩, hR5.set3 B hsz2 hfB hoB _ _ _, heap_set3 HB5.out⟩
        · have hk3 := nx_lt L ((lineF L s.m 3).2 + 1) 3 (by omega)
          have HN := Lib.hid (nextG_slot L tags nested s.o s.id s.m (by have := HC.out; omega))
          clear HL HC
          go_wp2_with fail
          refine (H3.out _ (hR4.alloc _).nums).mono ?_
          rintro e w5 ⟨rfl, hg5, hN5⟩
          have hrow := pick_row ((hg5.block w3.heap.size (by simp) (fun e => by injection e; omega)).trans (heap_alloc_new w3 _)) slotL rfl _ (nx_lt L ((lineF L s.m 3).2 + 1) 3 (by omega))
          have hB5 := (hg5.block B (by simp; omega) (fun e => by injection e; omega)).trans ((Lib.alloc_old w3 _ B zB).trans hB3)
          have hR5 := (hR4.alloc _).next hg5 hN5
          obtain ⟨_, _, _, f0, f1, f2⟩ := cells_item hB5
          have HB5 := Lib.hid hB5
          have zB5 : B < w5.heap.size := (Array.getElem?_eq_some_iff.1 hB5).1
          clear hB5
          go_wp2_with fail
          go_meet
          exact ⟨⟨5, pickB slotL (nx L ((lineF L s.m 3).2 + 1) 3), 0⟩, s.o, s.id, (lineF L s.m 3).2 + 1 + 1, HN, rfl, ⟨_, _, rfl⟩, hR5.set3 B hsz2 hfB hoB _ _ _, heap_set3 HB5.out⟩
        · cases tags
          · have HN := Lib.hid (nextG_text L false nested s.o s.id s.m (by have := HC.out; exact Or.inr (Or.inl ⟨by omega, by omega, rfl⟩)))
            clear HL HC
            go_wp2_with fail
            go_meet
            exact ⟨⟨1, (lineF L s.m 3).1, 0⟩, s.o, s.id, (lineF L s.m 3).2 + 1, HN, rfl, ⟨_, _, rfl⟩, hR4, hB3⟩
          have hk3 := nx_lt L ((lineF L s.m 3).2 + 1) 2 (by omega)
          have HN := Lib.hid (nextG_empty L true nested s.o s.id s.m (by have := HC.out; omega) rfl)
          clear HL HC
          go_wp2_with fail
          refine (H2.out _ (hR4.alloc _).nums).mono ?_
          rintro e w5 ⟨rfl, hg5, hN5⟩
          have hrow := pick_row ((hg5.block w3.heap.size (by simp) (fun e => by injection e; omega)).trans (heap_alloc_new w3 _)) emptyL rfl _ (nx_lt L ((lineF L s.m 3).2 + 1) 2 (by omega))
          have hB5 := (hg5.block B (by simp; omega) (fun e => by injection e; omega)).trans ((Lib.alloc_old w3 _ B zB).trans hB3)
          have hR5 := (hR4.alloc _).next hg5 hN5
          obtain ⟨_, _, _, f0, f1, f2⟩ := cells_item hB5
          have HB5 := Lib.hid hB5
          have zB5 : B < w5.heap.size := (Array.getElem?_eq_some_iff.1 hB5).1
          clear hB5
          go_wp2_with fail
          go_meet
          exact ⟨⟨4, pickB emptyL (nx L ((lineF L s.m 3).2 + 1) 2), (s.id + 1 : Nat)⟩, s.o, s.id + 1, (lineF L s.m 3).2 + 1 + 1, HN, rfl, ⟨_, _, rfl⟩, hR5.set3 B hsz2 hfB hoB _ _ _, heap_set3 HB5.out⟩
        · cases tags
          · have HN := Lib.hid (nextG_text L false nested s.o s.id s.m (by have := HC.out; exact Or.inr (Or.inl ⟨by omega, by omega, rfl⟩)))
            clear HL HC
            go_wp2_with fail
            go_meet
            exact ⟨⟨1, (lineF L s.m 3).1, 0⟩, s.o, s.id, (lineF L s.m 3).2 + 1, HN, rfl, ⟨_, _, rfl⟩, hR4, hB3⟩
          have hk3 := nx_lt L ((lineF L s.m 3).2 + 1) 3 (by omega)
          have HN := Lib.hid (nextG_open L true nested s.o s.id s.m (by have := HC.out; omega) rfl)
          clear HL HC
          go_wp2_with fail
          refine (H3.out _ (hR4.alloc _).nums).mono ?_
          rintro e w5 ⟨rfl, hg5, hN5⟩
          have hrow := pick_row ((hg5.block w3.heap.size (by simp) (fun e => by injection e; omega)).trans (heap_alloc_new w3 _)) openL rfl _ (nx_lt L ((lineF L s.m 3).2 + 1) 3 (by omega))
          have hB5 := (hg5.block B (by simp; omega) (fun e => by injection e; omega)).trans ((Lib.alloc_old w3 _ B zB).trans hB3)
          have hR5 := (hR4.alloc _).next hg5 hN5
          obtain ⟨_, _, _, f0, f1, f2⟩ := cells_item hB5
          have HB5 := Lib.hid hB5
          have zB5 : B < w5.heap.size := (Array.getElem?_eq_some_iff.1 hB5).1
          clear hB5
          have hR6 := hR5.set3 B hsz2 hfB hoB (.int .i64 2) (.string (pickB openL (nx L ((lineF L s.m 3).2 + 1) 3))) (.int .i64 ((s.id : Int) + 1))
          have HB6 := Lib.hid (heap_set3 (a' := .int .i64 2) (b' := .string (pickB openL (nx L ((lineF L s.m 3).2 + 1) 3))) (c' := .int .i64 ((s.id : Int) + 1)) HB5.out)
          have hR7 := hR6.alloc (.cells #[.int .i64 2, .string (pickB openL (nx L ((lineF L s.m 3).2 + 1) 3)), .int .i64 ((s.id : Int) + 1)] 43)
          have hsz7 := hR7.chg.size
          have hnew7 := heap_alloc_new (((w5.setCell ⟨B, 0, none⟩ (.int .i64 2)).setCell ⟨B, 1, none⟩ (.string (pickB openL (nx L ((lineF L s.m 3).2 + 1) 3)))).setCell ⟨B, 2, none⟩ (.int .i64 ((s.id : Int) + 1))) (.cells #[.int .i64 2, .string (pickB openL (nx L ((lineF L s.m 3).2 + 1) 3)), .int .i64 ((s.id : Int) + 1)] 43)
          rw [set3_size] at hnew7
          have HN7 := Lib.hid hnew7; clear hnew7
          go_wp2_with (at_builtin; refine wpl_app eI _ rfl _ _ rfl w.heap.size s.o _ rfl hR7.o hsz7 ⟨2, pickB openL (nx L ((lineF L s.m 3).2 + 1) 3), (s.id : Int) + 1⟩ w5.heap.size _ rfl HN7.out rfl (by omega) (by unfold maxLen; omega) ?_; intro g2 cp w8 hown8 hgr8 hloc8)
          have hR8 := hR7.push hown8 hgr8 hloc8
          have hB8 := (hgr8.block B (by simp; omega) (fun e => hoB e.symm)).trans ((Lib.alloc_old _ _ B (by simp; omega)).trans HB6.out)
          go_wp2_with fail
          go_meet
          exact ⟨⟨2, pickB openL (nx L ((lineF L s.m 3).2 + 1) 3), (s.id + 1 : Nat)⟩, s.o ++ [⟨2, pickB openL (nx L ((lineF L s.m 3).2 + 1) 3), (s.id + 1 : Nat)⟩], s.id + 1, (lineF L s.m 3).2 + 1 + 1, HN, rfl, ⟨_, _, by rw [List.length_append]; rfl⟩, hR8, hB8⟩
        · cases tags
          · have HN := Lib.hid (nextG_text L false nested s.o s.id s.m (by have := HC.out; exact Or.inr (Or.inl ⟨by omega, by omega, rfl⟩)))
            clear HL HC
            go_wp2_with fail
            go_meet
            exact ⟨⟨1, (lineF L s.m 3).1, 0⟩, s.o, s.id, (lineF L s.m 3).2 + 1, HN, rfl, ⟨_, _, rfl⟩, hR4, hB3⟩
          have hk3 := nx_lt L ((lineF L s.m 3).2 + 1) 3 (by omega)
          have HN := Lib.hid (nextG_open L true nested s.o s.id s.m (by have := HC.out; omega) rfl)
          clear HL HC
          go_wp2_with fail
          refine (H3.out _ (hR4.alloc _).nums).mono ?_
          rintro e w5 ⟨rfl, hg5, hN5⟩
          have hrow := pick_row ((hg5.block w3.heap.size (by simp) (fun e => by injection e; omega)).trans (heap_alloc_new w3 _)) openL rfl _ (nx_lt L ((lineF L s.m 3).2 + 1) 3 (by omega))
          have hB5 := (hg5.block B (by simp; omega) (fun e => by injection e; omega)).trans ((Lib.alloc_old w3 _ B zB).trans hB3)
          have hR5 := (hR4.alloc _).next hg5 hN5
          obtain ⟨_, _, _, f0, f1, f2⟩ := cells_item hB5
          have HB5 := Lib.hid hB5
          have zB5 : B < w5.heap.size := (Array.getElem?_eq_some_iff.1 hB5).1
          clear hB5
          have hR6 := hR5.set3 B hsz2 hfB hoB (.int .i64 2) (.string (pickB openL (nx L ((lineF L s.m 3).2 + 1) 3))) (.int .i64 ((s.id : Int) + 1))
          have HB6 := Lib.hid (heap_set3 (a' := .int .i64 2) (b' := .string (pickB openL (nx L ((lineF L s.m 3).2 + 1) 3))) (c' := .int .i64 ((s.id : Int) + 1)) HB5.out)
          have hR7 := hR6.alloc (.cells #[.int .i64 2, .string (pickB openL (nx L ((lineF L s.m 3).2 + 1) 3)), .int .i64 ((s.id : Int) + 1)] 43)
          have hsz7 := hR7.chg.size
          have hnew7 := heap_alloc_new (((w5.setCell ⟨B, 0, none⟩ (.int .i64 2)).setCell ⟨B, 1, none⟩ (.string (pickB openL (nx L ((lineF L s.m 3).2 + 1) 3)))).setCell ⟨B, 2, none⟩ (.int .i64 ((s.id : Int) + 1))) (.cells #[.int .i64 2, .string (pickB openL (nx L ((lineF L s.m 3).2 + 1) 3)), .int .i64 ((s.id : Int) + 1)] 43)
          rw [set3_size] at hnew7
          have HN7 := Lib.hid hnew7; clear hnew7
          go_wp2_with (at_builtin; refine wpl_app eI _ rfl _ _ rfl w.heap.size s.o _ rfl hR7.o hsz7 ⟨2, pickB openL (nx L ((lineF L s.m 3).2 + 1) 3), (s.id : Int) + 1⟩ w5.heap.size _ rfl HN7.out rfl (by omega) (by unfold maxLen; omega) ?_; intro g2 cp w8 hown8 hgr8 hloc8)
          have hR8 := hR7.push hown8 hgr8 hloc8
          have hB8 := (hgr8.block B (by simp; omega) (fun e => hoB e.symm)).trans ((Lib.alloc_old _ _ B (by simp; omega)).trans HB6.out)
          go_wp2_with fail
          go_meet
          exact ⟨⟨2, pickB openL (nx L ((lineF L s.m 3).2 + 1) 3), (s.id + 1 : Nat)⟩, s.o ++ [⟨2, pickB openL (nx L ((lineF L s.m 3).2 + 1) 3), (s.id + 1 : Nat)⟩], s.id + 1, (lineF L s.m 3).2 + 1 + 1, HN, rfl, ⟨_, _, by rw [List.length_append]; rfl⟩, hR8, hB8⟩
        · by_cases ho : 0 < s.o.length
          · obtain ⟨j0, hj0⟩ : ∃ j0, s.o.length = j0 + 1 := ⟨s.o.length - 1, by omega⟩
            obtain ⟨go, rfl⟩ := hR4.atO ho
            cases nested
            · have hnj : ∀ W, NumsAt W b pn cn L ((lineF L s.m 3).2 + 1) → _ := fun W h => next_any b pn cn L ((lineF L s.m 3).2 + 1) ((j0 : Int) + 1) (j0 + 1) (by omega) W h (by omega) (by omega) (by omega)
              have hkj := nx_lt L ((lineF L s.m 3).2 + 1) (j0 + 1) (by omega)
              obtain ⟨kk, hkk⟩ : ∃ kk, kk = nx L ((lineF L s.m 3).2 + 1) (j0 + 1) := ⟨_, rfl⟩
              rw [← hkk] at hnj hkj
              have HNJ := Lib.hid hnj; clear hnj
              have HN := Lib.hid (nextG_close L tags false s.o s.id s.m (by have := HC.out; omega) ho (kk, (lineF L s.m 3).2 + 1 + 1) (by unfold pickK; rw [if_neg (by decide), hj0, hkk]))
              clear hkk
              obtain ⟨_, hco, hcm, hI⟩ := hR4.itsO
              rw [hj0] at hco hzol ⊢
              have HR4 := Lib.hid hR4
              clear HL HC hI hR4
              go_upto_region 43 with fail
              go_wp2_with fail
              refine (HNJ.out _ HR4.out.nums).mono ?_
              rintro e w5 ⟨rfl, hg5, hN5⟩
              have hR4 := HR4.out.next hg5 hN5
              have hB5 := (hg5.block B zB (fun e => by injection e; omega)).trans hB3
              have zB5 : B < w5.heap.size := (Array.getElem?_eq_some_iff.1 hB5).1
              obtain ⟨_, _, _, hI⟩ := hR4.itsO
              obtain ⟨g0, d0, d1, d2⟩ := its_at hI kk (by omega)
              have hT := its_take hI kk
              have hy : s.o.getD kk ⟨0, .empty, 0⟩ = s.o[kk]'(by omega) := by rw [List.getD_eq_getElem?_getD, List.getElem?_eq_getElem (by omega)]; rfl
              have hyt : (s.o[kk]'(by omega)).t.size ≤ 5 := hz.ot _ (List.getElem_mem _)
              have lT0 : (s.o.take kk).length = kk := by rw [List.length_take]; omega
              have lD0 : (s.o.drop (kk + 1)).length = j0 - kk := by rw [List.length_drop]; omega
              obtain ⟨A, hA, hAD⟩ : ∃ A, (if co = kk + 1 then some (⟨go, 0, none⟩ : Addr) else some ⟨go, (kk + 1) * 3, none⟩) = some ⟨go, A, none⟩ ∧ (co ≠ kk + 1 → A = (kk + 1) * 3) := by
                by_cases hc : co = kk + 1
                · exact ⟨0, if_pos hc, fun h => absurd hc h⟩
                · exact ⟨_, if_neg hc, fun _ => rfl⟩
              have hA := Lib.hid hA
              have hD : Its w5 (some ⟨go, A, none⟩) (s.o.drop (kk + 1)) := by
                by_cases hc : co = kk + 1
                · exact its_empty (by omega)
                · rw [hAD hc]; exact its_drop hI (kk + 1)
              have hoB2 : ∀ a, some (⟨go, A, none⟩ : Addr) = some a → a.block ≠ B := fun a e => by cases e; exact fun e2 => hoB (by simpa [Value.ownBlock] using e2)
              rw [hy] at HN
              generalize s.o[kk]'(by omega) = y at *
              generalize s.o.take kk = T at *
              generalize s.o.drop (kk + 1) = D at *
              rw [hj0] at hR4 hoB
              obtain ⟨_, _, _, f0, f1, f2⟩ := cells_item hB5
              have HB5 := Lib.hid hB5
              unfold maxLen at hcm
              have hb1 : (kk : Int) < (j0 : Int) + 1 := by omega
              have hb2 : (kk : Int) < ((j0 + 1 : Nat) : Int) := by omega
              have hb0 : (0 : Int) ≤ (kk : Int) := by omega
              have lT := Lib.hid lT0; have lD := Lib.hid lD0
              clear lT0 lD0 hB3 hB5 hj0 ho hy hI hAD HR4 HNJ
              have hnm := fun W => rname_any y.t W (by unfold maxLen; omega)
              have HNM := Lib.hid hnm; clear hnm
              go_upto_region 27 with fail
              go_still_tail 12, (by kernel_rfl)
              still_call ((HNM.out _).mono (fun e w' h => ⟨h.1, h.2.symm⟩))
              repeat still_step
              refine wpStill_nil ?_
              change wpList _ _ _ _ _ w5.drew
              go_wp2_with fail
              have hR6 := ((hR4.set3 B hsz2 hfB hoB (.int .i64 3) (.string (nameB y.t)) (.int .i64 y.id)).drewN 1).drewN 1
              have hT6 := (its_set3 hT B (own_ne hoB) (.int .i64 3) (.string (nameB y.t)) (.int .i64 y.id)).two
              have hD6 := (its_set3 hD B hoB2 (.int .i64 3) (.string (nameB y.t)) (.int .i64 y.id)).two
              have HB6 := Lib.hid (heap_set3 (a' := .int .i64 3) (b' := .string (nameB y.t)) (c' := .int .i64 y.id) HB5.out)
              have hA := hA.out
              have hs1 : kk ≤ co := by omega
              have hs2 : kk ≤ j0 := by omega
              have hlT := lT.out; have hlD := lD.out
              have bl1 : (([] : List It).length + T.length) * 32 ≤ 140737488355328 := by simp; omega
              have bl2 : (T.length + D.length) * 32 ≤ 140737488355328 := by omega
              clear hlT hlD
              have hw1 : IntKind.i64.wrap ((kk : Int) + 1) = (kk : Int) + 1 := IntWalk.i64_in _ ⟨by omega, by omega⟩
              have hw2 : (0 : Int) ≤ (kk : Int) + 1 := by omega
              have hw3 : ((kk : Int) + 1).toNat = kk + 1 := by omega
              refine wp_region_any (by kernel_rfl) ?_
              try (change wpAny _ _ _ _ _ _ _ (World.drew _))
              refine wpAny_take (i := 0) (v := ?_) rfl (by kernel_rfl) (by kernel_rfl) (by kernel_rfl) (fun _ _ _ h => h) (Or.inl ⟨by rfl, ?_⟩) ?_
              rotate_left
              · (intro w; go_simp; try with_reducible rfl)
              try simp only [Act.put, List.getElem_toArray, List.getElem_cons_zero, List.getElem_cons_succ, List.setIfInBounds_toArray, List.set_cons_zero, List.set_cons_succ]
              refine wpAny_take (i := 1) (v := ?_) rfl (by kernel_rfl) (by kernel_rfl) (by kernel_rfl) (fun _ _ _ h => h) (Or.inl ⟨by rfl, ?_⟩) ?_
              rotate_left
              · (intro w; go_simp; try with_reducible rfl)
              try simp only [Act.put, List.getElem_toArray, List.getElem_cons_zero, List.getElem_cons_succ, List.setIfInBounds_toArray, List.set_cons_zero, List.set_cons_succ]
              refine wpAny_take (i := 2) (v := ?_) rfl (by kernel_rfl) (by kernel_rfl) (by kernel_rfl) (fun _ _ _ h => h) (Or.inl ⟨by rfl, ?_⟩) ?_
              rotate_left
              · (intro w; go_simp; try with_reducible rfl)
              try simp only [Act.put, List.getElem_toArray, List.getElem_cons_zero, List.getElem_cons_succ, List.setIfInBounds_toArray, List.set_cons_zero, List.set_cons_succ]
              refine wpAny_take (i := 4) (v := ?_) rfl (by kernel_rfl) (by kernel_rfl) (by kernel_rfl) (fun _ _ _ h => h) (Or.inl ⟨by rfl, ?_⟩) ?_
              rotate_left
              · (intro w; go_simp; try with_reducible rfl)
              try simp only [Act.put, List.getElem_toArray, List.getElem_cons_zero, List.getElem_cons_succ, List.setIfInBounds_toArray, List.set_cons_zero, List.set_cons_succ]
              refine wpAny_take (i := 5) (v := ?_) rfl (by kernel_rfl) (by kernel_rfl) (by kernel_rfl) (fun _ _ _ h => h) (Or.inl ⟨by rfl, ?_⟩) ?_
              rotate_left
              · (intro w; go_simp; try with_reducible rfl)
              try simp only [Act.put, List.getElem_toArray, List.getElem_cons_zero, List.getElem_cons_succ, List.setIfInBounds_toArray, List.set_cons_zero, List.set_cons_succ]
              refine wpAny_take (i := 6) (v := ?_) rfl (by kernel_rfl) (by kernel_rfl) (by kernel_rfl) (fun _ _ _ h => h) (Or.inl ⟨by rfl, ?_⟩) ?_
              rotate_left
              · (intro w; go_simp; try with_reducible rfl)
              try simp only [Act.put, List.getElem_toArray, List.getElem_cons_zero, List.getElem_cons_succ, List.setIfInBounds_toArray, List.set_cons_zero, List.set_cons_succ]
              refine wpAny_take (i := 7) (v := ?_) rfl (by kernel_rfl) (by kernel_rfl) (by kernel_rfl) (fun _ _ _ h => h) (Or.inl ⟨by rfl, ?_⟩) ?_
              rotate_left
              · (intro w; go_simp; try with_reducible rfl)
              try simp only [Act.put, List.getElem_toArray, List.getElem_cons_zero, List.getElem_cons_succ, List.setIfInBounds_toArray, List.set_cons_zero, List.set_cons_succ]
              refine wpAny_ready (rs := [3]) (by kernel_rfl) (by simp) ?_
              refine AllReady.cons rfl (fun K hK => ?_) AllReady.nil
              refine step_cat _ (by rfl) _ _ (by rfl) _ [] T _ (by rfl) (Acc.start _) (some ⟨go, 0, none⟩) kk co (by rfl) lT.out.symm hT6 bl1 ?_
              intro v1 w8 hA8
              rw [List.nil_append] at hA8
              obtain ⟨p8, c8, hv8, _⟩ := hA8.own.its
              rw [lT.out] at hv8
              subst hv8
              try go_simp
              refine hK _ _ ?_; clear hK K
              try simp only [Act.put, List.getElem_toArray, List.getElem_cons_zero, List.getElem_cons_succ, List.setIfInBounds_toArray, List.set_cons_zero, List.set_cons_succ]
              refine wpAny_ready (rs := [8]) (by kernel_rfl) (by simp) ?_
              refine AllReady.cons rfl (fun K hK => ?_) AllReady.nil
              refine step_cat _ (by rfl) _ _ (by rfl) _ T D _ (by rfl) hA8 (some ⟨go, A, none⟩) (j0 - kk) (co - (kk + 1)) (by rfl) lD.out.symm (hD6.call hA8.below) bl2 ?_
              intro v9 w9 hA9
              try go_simp
              refine hK _ _ ?_; clear hK K
              try simp only [Act.put, List.getElem_toArray, List.getElem_cons_zero, List.getElem_cons_succ, List.setIfInBounds_toArray, List.set_cons_zero, List.set_cons_succ]
              refine wpAny_take (i := 9) (v := ?_) rfl (by kernel_rfl) (by kernel_rfl) (by kernel_rfl) (fun _ _ _ h => h) (Or.inl ⟨by rfl, ?_⟩) ?_
              rotate_left
              · (intro w; go_simp; try with_reducible rfl)
              try simp only [Act.put, List.getElem_toArray, List.getElem_cons_zero, List.getElem_cons_succ, List.setIfInBounds_toArray, List.set_cons_zero, List.set_cons_succ]
              refine wpAny_done (by kernel_rfl) ?_ _
              have hR9 := hR6.madeO hA9
              obtain ⟨p9, c9, rfl, _⟩ := hA9.own.its
              have hBw := hA9.below.block B (by show B < ((((w5.setCell ⟨B, 0, none⟩ _).setCell ⟨B, 1, none⟩ _).setCell ⟨B, 2, none⟩ _)).heap.size; rw [set3_size]; exact zB5)
              go_wp2_with fail
              go_meet
              exact ⟨closeI y, _, s.id, (lineF L s.m 3).2 + 1 + 1, HN, rfl, ⟨_, _, rfl⟩, hR9, hBw.trans HB6.out⟩
            · have HN := Lib.hid (nextG_close L tags true s.o s.id s.m (by have := HC.out; omega) ho (j0, (lineF L s.m 3).2 + 1) (by unfold pickK; rw [if_pos rfl, hj0]; rfl))
              obtain ⟨_, hco, hcm, hI⟩ := hR4.itsO
              obtain ⟨g0, d0, d1, d2⟩ := its_at hI j0 (by omega)
              have hT := its_take hI j0
              have hy : s.o.getD j0 ⟨0, .empty, 0⟩ = s.o[j0]'(by omega) := by rw [List.getD_eq_getElem?_getD, List.getElem?_eq_getElem (by omega)]; rfl
              have hyt : (s.o[j0]'(by omega)).t.size ≤ 5 := hz.ot _ (List.getElem_mem _)
              have lT0 : (s.o.take j0).length = j0 := by rw [List.length_take]; omega
              have lD0 : (s.o.drop (j0 + 1)).length = 0 := by rw [List.length_drop]; omega
              obtain ⟨A, hA, hAD⟩ : ∃ A, (if co = j0 + 1 then some (⟨go, 0, none⟩ : Addr) else some ⟨go, (j0 + 1) * 3, none⟩) = some ⟨go, A, none⟩ ∧ (co ≠ j0 + 1 → A = (j0 + 1) * 3) := by
                by_cases hc : co = j0 + 1
                · exact ⟨0, if_pos hc, fun h => absurd hc h⟩
                · exact ⟨_, if_neg hc, fun _ => rfl⟩
              have hA := Lib.hid hA
              have hD : Its w3 (some ⟨go, A, none⟩) (s.o.drop (j0 + 1)) := by
                by_cases hc : co = j0 + 1
                · exact its_empty (by omega)
                · rw [hAD hc]; exact its_drop hI (j0 + 1)
              have hoB2 : ∀ a, some (⟨go, A, none⟩ : Addr) = some a → a.block ≠ B := fun a e => by cases e; exact fun e2 => hoB (by simpa [Value.ownBlock] using e2)
              rw [hy] at HN
              generalize s.o[j0]'(by omega) = y at *
              generalize s.o.take j0 = T at *
              generalize s.o.drop (j0 + 1) = D at *
              rw [hj0] at hR4 hoB hco hzol ⊢
              obtain ⟨_, _, _, f0, f1, f2⟩ := cells_item hB3
              have HB3 := Lib.hid hB3
              unfold maxLen at hcm
              have hb1 : (j0 : Int) < (j0 : Int) + 1 := by omega
              have hb2 : (j0 : Int) < ((j0 + 1 : Nat) : Int) := by omega
              have hb0 : (0 : Int) ≤ (j0 : Int) := by omega
              have lT := Lib.hid lT0; have lD := Lib.hid lD0
              clear lT0 lD0 HL HC hB3 hj0 ho hy hI hAD
              have hnm := fun W => rname_any y.t W (by unfold maxLen; omega)
              have HNM := Lib.hid hnm; clear hnm
              go_upto_region 27 with fail
              go_still_tail 12, (by kernel_rfl)
              still_call ((HNM.out _).mono (fun e w' h => ⟨h.1, h.2.symm⟩))
              repeat still_step
              refine wpStill_nil ?_
              change wpList _ _ _ _ _ w3.drew
              go_wp2_with fail
              have hR6 := ((hR4.set3 B hsz2 hfB hoB (.int .i64 3) (.string (nameB y.t)) (.int .i64 y.id)).drewN 1).drewN 1
              have hT6 := (its_set3 hT B (own_ne hoB) (.int .i64 3) (.string (nameB y.t)) (.int .i64 y.id)).two
              have hD6 := (its_set3 hD B hoB2 (.int .i64 3) (.string (nameB y.t)) (.int .i64 y.id)).two
              have HB6 := Lib.hid (heap_set3 (a' := .int .i64 3) (b' := .string (nameB y.t)) (c' := .int .i64 y.id) HB3.out)
              have hA := hA.out
              have hs1 : j0 ≤ co := by omega
              have hs2 : j0 ≤ j0 := by omega
              have hlT := lT.out; have hlD := lD.out
              have bl1 : (([] : List It).length + T.length) * 32 ≤ 140737488355328 := by simp; omega
              have bl2 : (T.length + D.length) * 32 ≤ 140737488355328 := by omega
              clear hlT hlD
              have hw1 : IntKind.i64.wrap ((j0 : Int) + 1) = (j0 : Int) + 1 := IntWalk.i64_in _ ⟨by omega, by omega⟩
              have hw2 : (0 : Int) ≤ (j0 : Int) + 1 := by omega
              have hw3 : ((j0 : Int) + 1).toNat = j0 + 1 := by omega
              refine wp_region_any (by kernel_rfl) ?_
              try (change wpAny _ _ _ _ _ _ _ (World.drew _))
              refine wpAny_take (i := 0) (v := ?_) rfl (by kernel_rfl) (by kernel_rfl) (by kernel_rfl) (fun _ _ _ h => h) (Or.inl ⟨by rfl, ?_⟩) ?_
              rotate_left
              · (intro w; go_simp; try with_reducible rfl)
              try simp only [Act.put, List.getElem_toArray, List.getElem_cons_zero, List.getElem_cons_succ, List.setIfInBounds_toArray, List.set_cons_zero, List.set_cons_succ]
              refine wpAny_take (i := 1) (v := ?_) rfl (by kernel_rfl) (by kernel_rfl) (by kernel_rfl) (fun _ _ _ h => h) (Or.inl ⟨by rfl, ?_⟩) ?_
              rotate_left
              · (intro w; go_simp; try with_reducible rfl)
              try simp only [Act.put, List.getElem_toArray, List.getElem_cons_zero, List.getElem_cons_succ, List.setIfInBounds_toArray, List.set_cons_zero, List.set_cons_succ]
              refine wpAny_take (i := 2) (v := ?_) rfl (by kernel_rfl) (by kernel_rfl) (by kernel_rfl) (fun _ _ _ h => h) (Or.inl ⟨by rfl, ?_⟩) ?_
              rotate_left
              · (intro w; go_simp; try with_reducible rfl)
              try simp only [Act.put, List.getElem_toArray, List.getElem_cons_zero, List.getElem_cons_succ, List.setIfInBounds_toArray, List.set_cons_zero, List.set_cons_succ]
              refine wpAny_take (i := 4) (v := ?_) rfl (by kernel_rfl) (by kernel_rfl) (by kernel_rfl) (fun _ _ _ h => h) (Or.inl ⟨by rfl, ?_⟩) ?_
              rotate_left
              · (intro w; go_simp; try with_reducible rfl)
              try simp only [Act.put, List.getElem_toArray, List.getElem_cons_zero, List.getElem_cons_succ, List.setIfInBounds_toArray, List.set_cons_zero, List.set_cons_succ]
              refine wpAny_take (i := 5) (v := ?_) rfl (by kernel_rfl) (by kernel_rfl) (by kernel_rfl) (fun _ _ _ h => h) (Or.inl ⟨by rfl, ?_⟩) ?_
              rotate_left
              · (intro w; go_simp; try with_reducible rfl)
              try simp only [Act.put, List.getElem_toArray, List.getElem_cons_zero, List.getElem_cons_succ, List.setIfInBounds_toArray, List.set_cons_zero, List.set_cons_succ]
              refine wpAny_take (i := 6) (v := ?_) rfl (by kernel_rfl) (by kernel_rfl) (by kernel_rfl) (fun _ _ _ h => h) (Or.inl ⟨by rfl, ?_⟩) ?_
              rotate_left
              · (intro w; go_simp; try with_reducible rfl)
              try simp only [Act.put, List.getElem_toArray, List.getElem_cons_zero, List.getElem_cons_succ, List.setIfInBounds_toArray, List.set_cons_zero, List.set_cons_succ]
              refine wpAny_take (i := 7) (v := ?_) rfl (by kernel_rfl) (by kernel_rfl) (by kernel_rfl) (fun _ _ _ h => h) (Or.inl ⟨by rfl, ?_⟩) ?_
              rotate_left
              · (intro w; go_simp; try with_reducible rfl)
              try simp only [Act.put, List.getElem_toArray, List.getElem_cons_zero, List.getElem_cons_succ, List.setIfInBounds_toArray, List.set_cons_zero, List.set_cons_succ]
              refine wpAny_ready (rs := [3]) (by kernel_rfl) (by simp) ?_
              refine AllReady.cons rfl (fun K hK => ?_) AllReady.nil
              refine step_cat _ (by rfl) _ _ (by rfl) _ [] T _ (by rfl) (Acc.start _) (some ⟨go, 0, none⟩) j0 co (by rfl) lT.out.symm hT6 bl1 ?_
              intro v1 w8 hA8
              rw [List.nil_append] at hA8
              obtain ⟨p8, c8, hv8, _⟩ := hA8.own.its
              rw [lT.out] at hv8
              subst hv8
              try go_simp
              refine hK _ _ ?_; clear hK K
              try simp only [Act.put, List.getElem_toArray, List.getElem_cons_zero, List.getElem_cons_succ, List.setIfInBounds_toArray, List.set_cons_zero, List.set_cons_succ]
              refine wpAny_ready (rs := [8]) (by kernel_rfl) (by simp) ?_
              refine AllReady.cons rfl (fun K hK => ?_) AllReady.nil
              refine step_cat _ (by rfl) _ _ (by rfl) _ T D _ (by rfl) hA8 (some ⟨go, A, none⟩) (0) (co - (j0 + 1)) (by rfl) lD.out.symm (hD6.call hA8.below) bl2 ?_
              intro v9 w9 hA9
              try go_simp
              refine hK _ _ ?_; clear hK K
              try simp only [Act.put, List.getElem_toArray, List.getElem_cons_zero, List.getElem_cons_succ, List.setIfInBounds_toArray, List.set_cons_zero, List.set_cons_succ]
              refine wpAny_take (i := 9) (v := ?_) rfl (by kernel_rfl) (by kernel_rfl) (by kernel_rfl) (fun _ _ _ h => h) (Or.inl ⟨by rfl, ?_⟩) ?_
              rotate_left
              · (intro w; go_simp; try with_reducible rfl)
              try simp only [Act.put, List.getElem_toArray, List.getElem_cons_zero, List.getElem_cons_succ, List.setIfInBounds_toArray, List.set_cons_zero, List.set_cons_succ]
              refine wpAny_done (by kernel_rfl) ?_ _
              have hR9 := hR6.madeO hA9
              obtain ⟨p9, c9, rfl, _⟩ := hA9.own.its
              have hBw := hA9.below.block B (by show B < ((((w3.setCell ⟨B, 0, none⟩ _).setCell ⟨B, 1, none⟩ _).setCell ⟨B, 2, none⟩ _)).heap.size; rw [set3_size]; exact zB)
              go_wp2_with fail
              go_meet
              exact ⟨closeI y, _, s.id, (lineF L s.m 3).2 + 1, HN, rfl, ⟨_, _, rfl⟩, hR9, hBw.trans HB6.out⟩
          · have hol : s.o.length = 0 := by omega
            have q0 : decide ((0 : Int) ≤ (s.o.length : Int) - 1) = false := decide_eq_false (by omega)
            have q1 : decide ((1 : Int) ≤ (s.o.length : Int)) = false := decide_eq_false (by omega)
            have q2 : decide (1 ≤ s.o.length) = false := decide_eq_false (by omega)
            have q3 : decide (0 < s.o.length) = false := decide_eq_false (by omega)
            have HO := Lib.hid ho
            clear ho hol
            cases tags
            · have HN := Lib.hid (nextG_text L false nested s.o s.id s.m (by have := HC.out; have := HO.out; right; right; exact ⟨by omega, by omega, HO.out, by simp⟩))
              clear HL HC
              go_wp2_with fail
              go_meet
              exact ⟨⟨1, (lineF L s.m 3).1, 0⟩, s.o, s.id, (lineF L s.m 3).2 + 1, HN, rfl, ⟨_, _, rfl⟩, hR4, hB3⟩
            cases nested
            · have HN := Lib.hid (nextG_alone L true false s.o s.id s.m (by have := HC.out; omega) HO.out ⟨rfl, rfl⟩)
              obtain ⟨_, _, _, f0, f1, f2⟩ := cells_item hB3
              have HB3 := Lib.hid hB3
              clear HL HC hB3
              go_wp2_with fail
              go_meet
              exact ⟨⟨3, ⟨#[98]⟩, (s.id + 1 : Nat)⟩, s.o, s.id + 1, (lineF L s.m 3).2 + 1, HN, rfl, ⟨_, _, rfl⟩, hR4.set3 B hsz2 hfB hoB _ _ _, heap_set3 HB3.out⟩
            · have HN := Lib.hid (nextG_text L true true s.o s.id s.m (by have := HC.out; have := HO.out; right; right; exact ⟨by omega, by omega, HO.out, by simp⟩))
              clear HL HC
              go_wp2_with fail
              go_meet
              exact ⟨⟨1, (lineF L s.m 3).1, 0⟩, s.o, s.id, (lineF L s.m 3).2 + 1, HN, rfl, ⟨_, _, rfl⟩, hR4, hB3⟩
        · by_cases ho : 0 < s.o.length
          · obtain ⟨j0, hj0⟩ : ∃ j0, s.o.length = j0 + 1 := ⟨s.o.length - 1, by omega⟩
            obtain ⟨go, rfl⟩ := hR4.atO ho
            cases nested
            · have hnj : ∀ W, NumsAt W b pn cn L ((lineF L s.m 3).2 + 1) → _ := fun W h => next_any b pn cn L ((lineF L s.m 3).2 + 1) ((j0 : Int) + 1) (j0 + 1) (by omega) W h (by omega) (by omega) (by omega)
              have hkj := nx_lt L ((lineF L s.m 3).2 + 1) (j0 + 1) (by omega)
              obtain ⟨kk, hkk⟩ : ∃ kk, kk = nx L ((lineF L s.m 3).2 + 1) (j0 + 1) := ⟨_, rfl⟩
              rw [← hkk] at hnj hkj
              have HNJ := Lib.hid hnj; clear hnj
              have HN := Lib.hid (nextG_close L tags false s.o s.id s.m (by have := HC.out; omega) ho (kk, (lineF L s.m 3).2 + 1 + 1) (by unfold pickK; rw [if_neg (by decide), hj0, hkk]))
              clear hkk
              obtain ⟨_, hco, hcm, hI⟩ := hR4.itsO
              rw [hj0] at hco hzol ⊢
              have HR4 := Lib.hid hR4
              clear HL HC hI hR4
              go_upto_region 43 with fail
              go_wp2_with fail
              refine (HNJ.out _ HR4.out.nums).mono ?_
              rintro e w5 ⟨rfl, hg5, hN5⟩
              have hR4 := HR4.out.next hg5 hN5
              have hB5 := (hg5.block B zB (fun e => by injection e; omega)).trans hB3
              have zB5 : B < w5.heap.size := (Array.getElem?_eq_some_iff.1 hB5).1
              obtain ⟨_, _, _, hI⟩ := hR4.itsO
              obtain ⟨g0, d0, d1, d2⟩ := its_at hI kk (by omega)
              have hT := its_take hI kk
              have hy : s.o.getD kk ⟨0, .empty, 0⟩ = s.o[kk]'(by omega) := by rw [List.getD_eq_getElem?_getD, List.getElem?_eq_getElem (by omega)]; rfl
              have hyt : (s.o[kk]'(by omega)).t.size ≤ 5 := hz.ot _ (List.getElem_mem _)
              have lT0 : (s.o.take kk).length = kk := by rw [List.length_take]; omega
              have lD0 : (s.o.drop (kk + 1)).length = j0 - kk := by rw [List.length_drop]; omega
              obtain ⟨A, hA, hAD⟩ : ∃ A, (if co = kk + 1 then some (⟨go, 0, none⟩ : Addr) else some ⟨go, (kk + 1) * 3, none⟩) = some ⟨go, A, none⟩ ∧ (co ≠ kk + 1 → A = (kk + 1) * 3) := by
                by_cases hc : co = kk + 1
                · exact ⟨0, if_pos hc, fun h => absurd hc h⟩
                · exact ⟨_, if_neg hc, fun _ => rfl⟩
              have hA := Lib.hid hA
              have hD : Its w5 (some ⟨go, A, none⟩) (s.o.drop (kk + 1)) := by
                by_cases hc : co = kk + 1
                · exact its_empty (by omega)
                · rw [hAD hc]; exact its_drop hI (kk + 1)
              have hoB2 : ∀ a, some (⟨go, A, none⟩ : Addr) = some a → a.block ≠ B := fun a e => by cases e; exact fun e2 => hoB (by simpa [Value.ownBlock] using e2)
              rw [hy] at HN
              generalize s.o[kk]'(by omega) = y at *
              generalize s.o.take kk = T at *
              generalize s.o.drop (kk + 1) = D at *
              rw [hj0] at hR4 hoB
              obtain ⟨_, _, _, f0, f1, f2⟩ := cells_item hB5
              have HB5 := Lib.hid hB5
              unfold maxLen at hcm
              have hb1 : (kk : Int) < (j0 : Int) + 1 := by omega
              have hb2 : (kk : Int) < ((j0 + 1 : Nat) : Int) := by omega
              have hb0 : (0 : Int) ≤ (kk : Int) := by omega
              have lT := Lib.hid lT0; have lD := Lib.hid lD0
              clear lT0 lD0 hB3 hB5 hj0 ho hy hI hAD HR4 HNJ
              have hnm := fun W => rname_any y.t W (by unfold maxLen; omega)
              have HNM := Lib.hid hnm; clear hnm
              go_upto_region 27 with fail
              go_still_tail 12, (by kernel_rfl)
              still_call ((HNM.out _).mono (fun e w' h => ⟨h.1, h.2.symm⟩))
              repeat still_step
              refine wpStill_nil ?_
              change wpList _ _ _ _ _ w5.drew
              go_wp2_with fail
              have hR6 := ((hR4.set3 B hsz2 hfB hoB (.int .i64 3) (.string (nameB y.t)) (.int .i64 y.id)).drewN 1).drewN 1
              have hT6 := (its_set3 hT B (own_ne hoB) (.int .i64 3) (.string (nameB y.t)) (.int .i64 y.id)).two
              have hD6 := (its_set3 hD B hoB2 (.int .i64 3) (.string (nameB y.t)) (.int .i64 y.id)).two
              have HB6 := Lib.hid (heap_set3 (a' := .int .i64 3) (b' := .string (nameB y.t)) (c' := .int .i64 y.id) HB5.out)
              have hA := hA.out
              have hs1 : kk ≤ co := by omega
              have hs2 : kk ≤ j0 := by omega
              have hlT := lT.out; have hlD := lD.out
              have bl1 : (([] : List It).length + T.length) * 32 ≤ 140737488355328 := by simp; omega
              have bl2 : (T.length + D.length) * 32 ≤ 140737488355328 := by omega
              clear hlT hlD
              have hw1 : IntKind.i64.wrap ((kk : Int) + 1) = (kk : Int) + 1 := IntWalk.i64_in _ ⟨by omega, by omega⟩
              have hw2 : (0 : Int) ≤ (kk : Int) + 1 := by omega
              have hw3 : ((kk : Int) + 1).toNat = kk + 1 := by omega
              refine wp_region_any (by kernel_rfl) ?_
              try (change wpAny _ _ _ _ _ _ _ (World.drew _))
              refine wpAny_take (i := 0) (v := ?_) rfl (by kernel_rfl) (by kernel_rfl) (by kernel_rfl) (fun _ _ _ h => h) (Or.inl ⟨by rfl, ?_⟩) ?_
              rotate_left
              · (intro w; go_simp; try with_reducible rfl)
              try simp only [Act.put, List.getElem_toArray, List.getElem_cons_zero, List.getElem_cons_succ, List.setIfInBounds_toArray, List.set_cons_zero, List.set_cons_succ]
              refine wpAny_take (i := 1) (v := ?_) rfl (by kernel_rfl) (by kernel_rfl) (by kernel_rfl) (fun _ _ _ h => h) (Or.inl ⟨by rfl, ?_⟩) ?_
              rotate_left
              · (intro w; go_simp; try with_reducible rfl)
              try simp only [Act.put, List.getElem_toArray, List.getElem_cons_zero, List.getElem_cons_succ, List.setIfInBounds_toArray, List.set_cons_zero, List.set_cons_succ]
              refine wpAny_take (i := 2) (v := ?_) rfl (by kernel_rfl) (by kernel_rfl) (by kernel_rfl) (fun _ _ _ h => h) (Or.inl ⟨by rfl, ?_⟩) ?_
              rotate_left
              · (intro w; go_simp; try with_reducible rfl)
              try simp only [Act.put, List.getElem_toArray, List.getElem_cons_zero, List.getElem_cons_succ, List.setIfInBounds_toArray, List.set_cons_zero, List.set_cons_succ]
              refine wpAny_take (i := 4) (v := ?_) rfl (by kernel_rfl) (by kernel_rfl) (by kernel_rfl) (fun _ _ _ h => h) (Or.inl ⟨by rfl, ?_⟩) ?_
              rotate_left
              · (intro w; go_simp; try with_reducible rfl)
              try simp only [Act.put, List.getElem_toArray, List.getElem_cons_zero, List.getElem_cons_succ, List.setIfInBounds_toArray, List.set_cons_zero, List.set_cons_succ]
              refine wpAny_take (i := 5) (v := ?_) rfl (by kernel_rfl) (by kernel_rfl) (by kernel_rfl) (fun _ _ _ h => h) (Or.inl ⟨by rfl, ?_⟩) ?_
              rotate_left
              · (intro w; go_simp; try with_reducible rfl)
              try simp only [Act.put, List.getElem_toArray, List.getElem_cons_zero, List.getElem_cons_succ, List.setIfInBounds_toArray, List.set_cons_zero, List.set_cons_succ]
              refine wpAny_take (i := 6) (v := ?_) rfl (by kernel_rfl) (by kernel_rfl) (by kernel_rfl) (fun _ _ _ h => h) (Or.inl ⟨by rfl, ?_⟩) ?_
              rotate_left
              · (intro w; go_simp; try with_reducible rfl)
              try simp only [Act.put, List.getElem_toArray, List.getElem_cons_zero, List.getElem_cons_succ, List.setIfInBounds_toArray, List.set_cons_zero, List.set_cons_succ]
              refine wpAny_take (i := 7) (v := ?_) rfl (by kernel_rfl) (by kernel_rfl) (by kernel_rfl) (fun _ _ _ h => h) (Or.inl ⟨by rfl, ?_⟩) ?_
              rotate_left
              · (intro w; go_simp; try with_reducible rfl)
              try simp only [Act.put, List.getElem_toArray, List.getElem_cons_zero, List.getElem_cons_succ, List.setIfInBounds_toArray, List.set_cons_zero, List.set_cons_succ]
              refine wpAny_ready (rs := [3]) (by kernel_rfl) (by simp) ?_
              refine AllReady.cons rfl (fun K hK => ?_) AllReady.nil
              refine step_cat _ (by rfl) _ _ (by rfl) _ [] T _ (by rfl) (Acc.start _) (some ⟨go, 0, none⟩) kk co (by rfl) lT.out.symm hT6 bl1 ?_
              intro v1 w8 hA8
              rw [List.nil_append] at hA8
              obtain ⟨p8, c8, hv8, _⟩ := hA8.own.its
              rw [lT.out] at hv8
              subst hv8
              try go_simp
              refine hK _ _ ?_; clear hK K
              try simp only [Act.put, List.getElem_toArray, List.getElem_cons_zero, List.getElem_cons_succ, List.setIfInBounds_toArray, List.set_cons_zero, List.set_cons_succ]
              refine wpAny_ready (rs := [8]) (by kernel_rfl) (by simp) ?_
              refine AllReady.cons rfl (fun K hK => ?_) AllReady.nil
              refine step_cat _ (by rfl) _ _ (by rfl) _ T D _ (by rfl) hA8 (some ⟨go, A, none⟩) (j0 - kk) (co - (kk + 1)) (by rfl) lD.out.symm (hD6.call hA8.below) bl2 ?_
              intro v9 w9 hA9
              try go_simp
              refine hK _ _ ?_; clear hK K
              try simp only [Act.put, List.getElem_toArray, List.getElem_cons_zero, List.getElem_cons_succ, List.setIfInBounds_toArray, List.set_cons_zero, List.set_cons_succ]
              refine wpAny_take (i := 9) (v := ?_) rfl (by kernel_rfl) (by kernel_rfl) (by kernel_rfl) (fun _ _ _ h => h) (Or.inl ⟨by rfl, ?_⟩) ?_
              rotate_left
              · (intro w; go_simp; try with_reducible rfl)
              try simp only [Act.put, List.getElem_toArray, List.getElem_cons_zero, List.getElem_cons_succ, List.setIfInBounds_toArray, List.set_cons_zero, List.set_cons_succ]
              refine wpAny_done (by kernel_rfl) ?_ _
              have hR9 := hR6.madeO hA9
              obtain ⟨p9, c9, rfl, _⟩ := hA9.own.its
              have hBw := hA9.below.block B (by show B < ((((w5.setCell ⟨B, 0, none⟩ _).setCell ⟨B, 1, none⟩ _).setCell ⟨B, 2, none⟩ _)).heap.size; rw [set3_size]; exact zB5)
              go_wp2_with fail
              go_meet
              exact ⟨closeI y, _, s.id, (lineF L s.m 3).2 + 1 + 1, HN, rfl, ⟨_, _, rfl⟩, hR9, hBw.trans HB6.out⟩
            · have HN := Lib.hid (nextG_close L tags true s.o s.id s.m (by have := HC.out; omega) ho (j0, (lineF L s.m 3).2 + 1) (by unfold pickK; rw [if_pos rfl, hj0]; rfl))
              obtain ⟨_, hco, hcm, hI⟩ := hR4.itsO
              obtain ⟨g0, d0, d1, d2⟩ := its_at hI j0 (by omega)
              have hT := its_take hI j0
              have hy : s.o.getD j0 ⟨0, .empty, 0⟩ = s.o[j0]'(by omega) := by rw [List.getD_eq_getElem?_getD, List.getElem?_eq_getElem (by omega)]; rfl
              have hyt : (s.o[j0]'(by omega)).t.size ≤ 5 := hz.ot _ (List.getElem_mem _)
              have lT0 : (s.o.take j0).length = j0 := by rw [List.length_take]; omega
              have lD0 : (s.o.drop (j0 + 1)).length = 0 := by rw [List.length_drop]; omega
              obtain ⟨A, hA, hAD⟩ : ∃ A, (if co = j0 + 1 then some (⟨go, 0, none⟩ : Addr) else some ⟨go, (j0 + 1) * 3, none⟩) = some ⟨go, A, none⟩ ∧ (co ≠ j0 + 1 → A = (j0 + 1) * 3) := by
                by_cases hc : co = j0 + 1
                · exact ⟨0, if_pos hc, fun h => absurd hc h⟩
                · exact ⟨_, if_neg hc, fun _ => rfl⟩
              have hA := Lib.hid hA
              have hD : Its w3 (some ⟨go, A, none⟩) (s.o.drop (j0 + 1)) := by
                by_cases hc : co = j0 + 1
                · exact its_empty (by omega)
                · rw [hAD hc]; exact its_drop hI (j0 + 1)
              have hoB2 : ∀ a, some (⟨go, A, none⟩ : Addr) = some a → a.block ≠ B := fun a e => by cases e; exact fun e2 => hoB (by simpa [Value.ownBlock] using e2)
              rw [hy] at HN
              generalize s.o[j0]'(by omega) = y at *
              generalize s.o.take j0 = T at *
              generalize s.o.drop (j0 + 1) = D at *
              rw [hj0] at hR4 hoB hco hzol ⊢
              obtain ⟨_, _, _, f0, f1, f2⟩ := cells_item hB3
              have HB3 := Lib.hid hB3
              unfold maxLen at hcm
              have hb1 : (j0 : Int) < (j0 : Int) + 1 := by omega
              have hb2 : (j0 : Int) < ((j0 + 1 : Nat) : Int) := by omega
              have hb0 : (0 : Int) ≤ (j0 : Int) := by omega
              have lT := Lib.hid lT0; have lD := Lib.hid lD0
              clear lT0 lD0 HL HC hB3 hj0 ho hy hI hAD
              have hnm := fun W => rname_any y.t W (by unfold maxLen; omega)
              have HNM := Lib.hid hnm; clear hnm
              go_upto_region 27 with fail
              go_still_tail 12, (by kernel_rfl)
              still_call ((HNM.out _).mono (fun e w' h => ⟨h.1, h.2.symm⟩))
              repeat still_step
              refine wpStill_nil ?_
              change wpList _ _ _ _ _ w3.drew
              go_wp2_with fail
              have hR6 := ((hR4.set3 B hsz2 hfB hoB (.int .i64 3) (.string (nameB y.t)) (.int .i64 y.id)).drewN 1).drewN 1
              have hT6 := (its_set3 hT B (own_ne hoB) (.int .i64 3) (.string (nameB y.t)) (.int .i64 y.id)).two
              have hD6 := (its_set3 hD B hoB2 (.int .i64 3) (.string (nameB y.t)) (.int .i64 y.id)).two
              have HB6 := Lib.hid (heap_set3 (a' := .int .i64 3) (b' := .string (nameB y.t)) (c' := .int .i64 y.id) HB3.out)
              have hA := hA.out
              have hs1 : j0 ≤ co := by omega
              have hs2 : j0 ≤ j0 := by omega
              have hlT := lT.out; have hlD := lD.out
              have bl1 : (([] : List It).length + T.length) * 32 ≤ 140737488355328 := by simp; omega
              have bl2 : (T.length + D.length) * 32 ≤ 140737488355328 := by omega
              clear hlT hlD
              have hw1 : IntKind.i64.wrap ((j0 : Int) + 1) = (j0 : Int) + 1 := IntWalk.i64_in _ ⟨by omega, by omega⟩
              have hw2 : (0 : Int) ≤ (j0 : Int) + 1 := by omega
              have hw3 : ((j0 : Int) + 1).toNat = j0 + 1 := by omega
              refine wp_region_any (by kernel_rfl) ?_
              try (change wpAny _ _ _ _ _ _ _ (World.drew _))
              refine wpAny_take (i := 0) (v := ?_) rfl (by kernel_rfl) (by kernel_rfl) (by kernel_rfl) (fun _ _ _ h => h) (Or.inl ⟨by rfl, ?_⟩) ?_
              rotate_left
              · (intro w; go_simp; try with_reducible rfl)
              try simp only [Act.put, List.getElem_toArray, List.getElem_cons_zero, List.getElem_cons_succ, List.setIfInBounds_toArray, List.set_cons_zero, List.set_cons_succ]
              refine wpAny_take (i := 1) (v := ?_) rfl (by kernel_rfl) (by kernel_rfl) (by kernel_rfl) (fun _ _ _ h => h) (Or.inl ⟨by rfl, ?_⟩) ?_
              rotate_left
              · (intro w; go_simp; try with_reducible rfl)
              try simp only [Act.put, List.getElem_toArray, List.getElem_cons_zero, List.getElem_cons_succ, List.setIfInBounds_toArray, List.set_cons_zero, List.set_cons_succ]
              refine wpAny_take (i := 2) (v := ?_) rfl (by kernel_rfl) (by kernel_rfl) (by kernel_rfl) (fun _ _ _ h => h) (Or.inl ⟨by rfl, ?_⟩) ?_
              rotate_left
              · (intro w; go_simp; try with_reducible rfl)
              try simp only [Act.put, List.getElem_toArray, List.getElem_cons_zero, List.getElem_cons_succ, List.setIfInBounds_toArray, List.set_cons_zero, List.set_cons_succ]
              refine wpAny_take (i := 4) (v := ?_) rfl (by kernel_rfl) (by kernel_rfl) (by kernel_rfl) (fun _ _ _ h => h) (Or.inl ⟨by rfl, ?_⟩) ?_
              rotate_left
              · (intro w; go_simp; try with_reducible rfl)
              try simp only [Act.put, List.getElem_toArray, List.getElem_cons_zero, List.getElem_cons_succ, List.setIfInBounds_toArray, List.set_cons_zero, List.set_cons_succ]
              refine wpAny_take (i := 5) (v := ?_) rfl (by kernel_rfl) (by kernel_rfl) (by kernel_rfl) (fun _ _ _ h => h) (Or.inl ⟨by rfl, ?_⟩) ?_
              rotate_left
              · (intro w; go_simp; try with_reducible rfl)
              try simp only [Act.put, List.getElem_toArray, List.getElem_cons_zero, List.getElem_cons_succ, List.setIfInBounds_toArray, List.set_cons_zero, List.set_cons_succ]
              refine wpAny_take (i := 6) (v := ?_) rfl (by kernel_rfl) (by kernel_rfl) (by kernel_rfl) (fun _ _ _ h => h) (Or.inl ⟨by rfl, ?_⟩) ?_
              rotate_left
              · (intro w; go_simp; try with_reducible rfl)
              try simp only [Act.put, List.getElem_toArray, List.getElem_cons_zero, List.getElem_cons_succ, List.setIfInBounds_toArray, List.set_cons_zero, List.set_cons_succ]
              refine wpAny_take (i := 7) (v := ?_) rfl (by kernel_rfl) (by kernel_rfl) (by kernel_rfl) (fun _ _ _ h => h) (Or.inl ⟨by rfl, ?_⟩) ?_
              rotate_left
              · (intro w; go_simp; try with_reducible rfl)
              try simp only [Act.put, List.getElem_toArray, List.getElem_cons_zero, List.getElem_cons_succ, List.setIfInBounds_toArray, List.set_cons_zero, List.set_cons_succ]
              refine wpAny_ready (rs := [3]) (by kernel_rfl) (by simp) ?_
              refine AllReady.cons rfl (fun K hK => ?_) AllReady.nil
              refine step_cat _ (by rfl) _ _ (by rfl) _ [] T _ (by rfl) (Acc.start _) (some ⟨go, 0, none⟩) j0 co (by rfl) lT.out.symm hT6 bl1 ?_
              intro v1 w8 hA8
              rw [List.nil_append] at hA8
              obtain ⟨p8, c8, hv8, _⟩ := hA8.own.its
              rw [lT.out] at hv8
              subst hv8
              try go_simp
              refine hK _ _ ?_; clear hK K
              try simp only [Act.put, List.getElem_toArray, List.getElem_cons_zero, List.getElem_cons_succ, List.setIfInBounds_toArray, List.set_cons_zero, List.set_cons_succ]
              refine wpAny_ready (rs := [8]) (by kernel_rfl) (by simp) ?_
              refine AllReady.cons rfl (fun K hK => ?_) AllReady.nil
              refine step_cat _ (by rfl) _ _ (by rfl) _ T D _ (by rfl) hA8 (some ⟨go, A, none⟩) (0) (co - (j0 + 1)) (by rfl) lD.out.symm (hD6.call hA8.below) bl2 ?_
              intro v9 w9 hA9
              try go_simp
              refine hK _ _ ?_; clear hK K
              try simp only [Act.put, List.getElem_toArray, List.getElem_cons_zero, List.getElem_cons_succ, List.setIfInBounds_toArray, List.set_cons_zero, List.set_cons_succ]
              refine wpAny_take (i := 9) (v := ?_) rfl (by kernel_rfl) (by kernel_rfl) (by kernel_rfl) (fun _ _ _ h => h) (Or.inl ⟨by rfl, ?_⟩) ?_
              rotate_left
              · (intro w; go_simp; try with_reducible rfl)
              try simp only [Act.put, List.getElem_toArray, List.getElem_cons_zero, List.getElem_cons_succ, List.setIfInBounds_toArray, List.set_cons_zero, List.set_cons_succ]
              refine wpAny_done (by kernel_rfl) ?_ _
              have hR9 := hR6.madeO hA9
              obtain ⟨p9, c9, rfl, _⟩ := hA9.own.its
              have hBw := hA9.below.block B (by show B < ((((w3.setCell ⟨B, 0, none⟩ _).setCell ⟨B, 1, none⟩ _).setCell ⟨B, 2, none⟩ _)).heap.size; rw [set3_size]; exact zB)
              go_wp2_with fail
              go_meet
              exact ⟨closeI y, _, s.id, (lineF L s.m 3).2 + 1, HN, rfl, ⟨_, _, rfl⟩, hR9, hBw.trans HB6.out⟩
          · have hol : s.o.length = 0 := by omega
            have q0 : decide ((0 : Int) ≤ (s.o.length : Int) - 1) = false := decide_eq_false (by omega)
            have q1 : decide ((1 : Int) ≤ (s.o.length : Int)) = false := decide_eq_false (by omega)
            have q2 : decide (1 ≤ s.o.length) = false := decide_eq_false (by omega)
            have q3 : decide (0 < s.o.length) = false := decide_eq_false (by omega)
            have HO := Lib.hid ho
            clear ho hol
            cases tags
            · have HN := Lib.hid (nextG_text L false nested s.o s.id s.m (by have := HC.out; have := HO.out; right; right; exact ⟨by omega, by omega, HO.out, by simp⟩))
              clear HL HC
              go_wp2_with fail
              go_meet
              exact ⟨⟨1, (lineF L s.m 3).1, 0⟩, s.o, s.id, (lineF L s.m 3).2 + 1, HN, rfl, ⟨_, _, rfl⟩, hR4, hB3⟩
            cases nested
            · have HN := Lib.hid (nextG_alone L true false s.o s.id s.m (by have := HC.out; omega) HO.out ⟨rfl, rfl⟩)
              obtain ⟨_, _, _, f0, f1, f2⟩ := cells_item hB3
              have HB3 := Lib.hid hB3
              clear HL HC hB3
              go_wp2_with fail
              go_meet
              exact ⟨⟨3, ⟨#[98]⟩, (s.id + 1 : Nat)⟩, s.o, s.id + 1, (lineF L s.m 3).2 + 1, HN, rfl, ⟨_, _, rfl⟩, hR4.set3 B hsz2 hfB hoB _ _ _, heap_set3 HB3.out⟩
            · have HN := Lib.hid (nextG_text L true true s.o s.id s.m (by have := HC.out; have := HO.out; right; right; exact ⟨by omega, by omega, HO.out, by simp⟩))
              clear HL HC
              go_wp2_with fail
              go_meet
              exact ⟨⟨1, (lineF L s.m 3).1, 0⟩, s.o, s.id, (lineF L s.m 3).2 + 1, HN, rfl, ⟨_, _, rfl⟩, hR4, hB3⟩
        · have HN := Lib.hid (nextG_text L tags nested s.o s.id s.m (by have := HC.out; omega))
          clear HL HC
          go_wp2_with fail
          go_meet
          exact ⟨⟨1, (lineF L s.m 3).1, 0⟩, s.o, s.id, (lineF L s.m 3).2 + 1, HN, rfl, ⟨_, _, rfl⟩, hR4, hB3⟩
      case rest =>
        obtain ⟨x, o', id', m', HX, rfl, ⟨p1, c1, rfl⟩, hR5, hB5⟩ := hcut
        obtain ⟨y0, y1, y2, _, _, _⟩ := cells_item hB5
        have hstp : stepG L tags nested s = ⟨norm (s.f ++ [x]), o', id', m'⟩ := by unfold stepG; rw [HX.out]
        rw [hstp] at hz'
        have hrun : runG L tags nested k ⟨norm (s.f ++ [x]), o', id', m'⟩ = F := by rw [← hstp]; exact HL.out
        have hz5 := hz.fl; have hz6 := hz.ft
        have hx5 := next_ok L tags nested s.o s.id s.m hz.ot
        rw [HX.out] at hx5
        have hx6 : x.t.size ≤ 18 := hx5.x
        have htx : txtI [x] = x.t.size := by simp [txtI]
        have hcat := fun W q (hR : Its W pf s.f) (hS : Its W q [x]) => rconcat_any pf q cf 1 s.f [x] W hR hS (by simp; omega) (by rw [htx]; omega)
        have HCat := Lib.hid hcat; have HRun := Lib.hid hrun
        clear hcat hrun hstp htx hx5 hx6 hz5 hz6
        have hR6 := hR5.alloc (.cells #[.int .i64 x.k, .string x.t, .int .i64 x.id] 43)
        have hS6 := its_one (heap_alloc_new wc (.cells #[.int .i64 x.k, .string x.t, .int .i64 x.id] 43))
        go_wp2_with fail
        refine (HCat.out _ _ hR6.itsF.2.2.2 hS6).mono ?_
        rintro e w7 ⟨v7, rfl, hA7⟩
        have hR7 := hR6.made hA7
        obtain ⟨p7, c7, rfl, _⟩ := hR7.f.its
        go_wp2_with fail
        go_roundw
        case rel => exact ⟨k, j + 1, ⟨norm (s.f ++ [x]), o', id', m'⟩, rfl, rfl, ⟨_, _, rfl⟩, ⟨_, _, rfl⟩, by omega, hz', hR7, HRun⟩
        case measure => simp [intOf]
    · obtain rfl : k = 0 := by omega
      have hfin : s = F := HL.out
      subst hfin
      have hzf := hz.fl; have hzo := hz.ol
      go_wp2_with fail
      go_loopw [9, 15] (fun vf z wr' => ∃ (i : Nat) (zi : Int), i ≤ s.o.length ∧ z = .int .i64 zi ∧ zi = (i : Int) - 1 ∧ (∃ p c, vf = .slice p (closeF s.f s.o i).length c) ∧ (nested = false → i = s.o.length) ∧ GRel b pn cn L w (closeF s.f s.o i) s.o s.m vf (.slice po s.o.length co) wr') (fun _ z _ => (intOf z + 1).toNat)
      case atStart => exact ⟨s.o.length, _, Nat.le_refl _, rfl, rfl, ⟨pf, cf, by rw [closeF_all]⟩, fun _ => rfl, by rw [closeF_all]; exact hR⟩
      case round =>
        obtain ⟨i, zi, hi, rfl, hzi, ⟨pf2, cf2, rfl⟩, hns, hR2⟩ := hrel
        have hlen := closeF_len s.f s.o i
        by_cases hgo : 0 < i ∧ nested = true
        · obtain ⟨h0, rfl⟩ := hgo
          obtain ⟨j, rfl⟩ : ∃ j, i = j + 1 := ⟨i - 1, by omega⟩
          obtain rfl : zi = (j : Int) := by omega
          have q1 : decide ((0 : Int) ≤ (j : Int)) = true := decide_eq_true (by omega)
          have ho : 0 < s.o.length := by omega
          obtain ⟨go, rfl⟩ := hR2.atO ho
          obtain ⟨_, hco, hcm, hI⟩ := hR2.itsO
          obtain ⟨g0, d0, d1, d2⟩ := its_at hI j (by omega)
          have hnx := closeF_next s.f s.o j (by omega)
          have hyt : (s.o[j]'(by omega)).t.size ≤ 5 := hz.ot _ (List.getElem_mem _)
          generalize s.o[j]'(by omega) = y at *
          generalize closeF s.f s.o (j + 1) = M at *
          have HX := Lib.hid hnx; clear hnx hzi
          unfold maxLen at hcm
          have hb1 : (j : Int) < (s.o.length : Int) := by omega
          have hb0 : (0 : Int) ≤ (j : Int) := by omega
          have hb2 : j < s.o.length := by omega
          have hnm := fun W => rname_any y.t W (by unfold maxLen; omega)
          have HNM := Lib.hid hnm; clear hnm
          go_wp2_with fail
          refine wp_region_held_drew (S := fun W => W.cell? ⟨go, j * 3 + 1, none⟩ = some (.string y.t) ∧ W.cell? ⟨go, j * 3 + 2, none⟩ = some (.int .i64 y.id)) (by kernel_rfl) (⟨d1, d2⟩) (fun hHeld => ?_)
          refine wpAnyH_take (i := 0) (v := ?_) rfl (by kernel_rfl) (by kernel_rfl) (by kernel_rfl) (fun _ _ _ h => h) (Or.inl ⟨by rfl, ?_⟩) hHeld ?_
          rotate_left
          · (intro w hSw; (try dsimp only at hSw); go_simp; try with_reducible rfl)
          try simp only [Act.put, List.getElem_toArray, List.getElem_cons_zero, List.getElem_cons_succ, List.setIfInBounds_toArray, List.set_cons_zero, List.set_cons_succ]
          refine wpAnyH_take (i := 1) (v := ?_) rfl (by kernel_rfl) (by kernel_rfl) (by kernel_rfl) (fun _ _ _ h => h) (Or.inl ⟨by rfl, ?_⟩) hHeld ?_
          rotate_left
          · (intro w hSw; (try dsimp only at hSw); go_simp; try with_reducible rfl)
          try simp only [Act.put, List.getElem_toArray, List.getElem_cons_zero, List.getElem_cons_succ, List.setIfInBounds_toArray, List.set_cons_zero, List.set_cons_succ]
          refine wpAnyH_take (i := 2) (v := ?_) rfl (by kernel_rfl) (by kernel_rfl) (by kernel_rfl) (fun _ _ _ h => h) (Or.inl ⟨by rfl, ?_⟩) hHeld ?_
          rotate_left
          · (intro w hSw; (try dsimp only at hSw); go_simp; try with_reducible rfl)
          try simp only [Act.put, List.getElem_toArray, List.getElem_cons_zero, List.getElem_cons_succ, List.setIfInBounds_toArray, List.set_cons_zero, List.set_cons_succ]
          refine wpAnyH_take (i := 3) (v := ?_) rfl (by kernel_rfl) (by kernel_rfl) (by kernel_rfl) (fun _ _ _ h => h) (Or.inl ⟨by rfl, ?_⟩) hHeld ?_
          rotate_left
          · (intro w hSw; (try dsimp only at hSw); go_simp; try with_reducible rfl)
          try simp only [Act.put, List.getElem_toArray, List.getElem_cons_zero, List.getElem_cons_succ, List.setIfInBounds_toArray, List.set_cons_zero, List.set_cons_succ]
          refine wpAnyH_take (i := 4) (v := ?_) rfl (by kernel_rfl) (by kernel_rfl) (by kernel_rfl) (fun _ _ _ h => h) (Or.inl ⟨by rfl, ?_⟩) hHeld ?_
          rotate_left
          · (intro w hSw; (try dsimp only at hSw); go_simp; try with_reducible rfl)
          try simp only [Act.put, List.getElem_toArray, List.getElem_cons_zero, List.getElem_cons_succ, List.setIfInBounds_toArray, List.set_cons_zero, List.set_cons_succ]
          refine wpAnyH_take (i := 5) (v := ?_) rfl (by kernel_rfl) (by kernel_rfl) (by kernel_rfl) (fun _ _ _ h => h) (Or.inl ⟨by rfl, ?_⟩) hHeld ?_
          rotate_left
          · (intro w hSw; (try dsimp only at hSw); go_simp; try with_reducible rfl)
          try simp only [Act.put, List.getElem_toArray, List.getElem_cons_zero, List.getElem_cons_succ, List.setIfInBounds_toArray, List.set_cons_zero, List.set_cons_succ]
          refine wpAnyH_take (i := 7) (v := ?_) rfl (by kernel_rfl) (by kernel_rfl) (by kernel_rfl) (fun _ _ _ h => h) (Or.inl ⟨by rfl, ?_⟩) hHeld ?_
          rotate_left
          · (intro w hSw; (try dsimp only at hSw); go_simp; try with_reducible rfl)
          try simp only [Act.put, List.getElem_toArray, List.getElem_cons_zero, List.getElem_cons_succ, List.setIfInBounds_toArray, List.set_cons_zero, List.set_cons_succ]
          refine wpAnyH_take (i := 8) (v := ?_) rfl (by kernel_rfl) (by kernel_rfl) (by kernel_rfl) (fun _ _ _ h => h) (Or.inl ⟨by rfl, ?_⟩) hHeld ?_
          rotate_left
          · (intro w hSw; (try dsimp only at hSw); go_simp; try with_reducible rfl)
          try simp only [Act.put, List.getElem_toArray, List.getElem_cons_zero, List.getElem_cons_succ, List.setIfInBounds_toArray, List.set_cons_zero, List.set_cons_succ]
          refine wpAnyH_take (i := 9) (v := ?_) rfl (by kernel_rfl) (by kernel_rfl) (by kernel_rfl) (fun _ _ _ h => h) (Or.inl ⟨by rfl, ?_⟩) hHeld ?_
          rotate_left
          · (intro w hSw; (try dsimp only at hSw); go_simp; try with_reducible rfl)
          try simp only [Act.put, List.getElem_toArray, List.getElem_cons_zero, List.getElem_cons_succ, List.setIfInBounds_toArray, List.set_cons_zero, List.set_cons_succ]
          refine wpAnyH_take (i := 10) (v := ?_) rfl (by kernel_rfl) (by kernel_rfl) (by kernel_rfl) (fun _ _ _ h => h) (Or.inl ⟨by rfl, ?_⟩) hHeld ?_
          rotate_left
          · (intro w hSw; (try dsimp only at hSw); go_simp; try with_reducible rfl)
          try simp only [Act.put, List.getElem_toArray, List.getElem_cons_zero, List.getElem_cons_succ, List.setIfInBounds_toArray, List.set_cons_zero, List.set_cons_succ]
          refine wpAnyH_take (i := 11) (v := ?_) rfl (by kernel_rfl) (by kernel_rfl) (by kernel_rfl) (fun _ _ _ h => h) (Or.inl ⟨by rfl, ?_⟩) hHeld ?_
          rotate_left
          · (intro w hSw; (try dsimp only at hSw); go_simp; try with_reducible rfl)
          try simp only [Act.put, List.getElem_toArray, List.getElem_cons_zero, List.getElem_cons_succ, List.setIfInBounds_toArray, List.set_cons_zero, List.set_cons_succ]
          refine wpAnyH_ready (rs := [6]) (by kernel_rfl) (by simp) ?_
          refine AllReadyH.cons rfl (fun K hK => ?_) (AllReadyH.nil)
          go_simp
          refine (HNM.out _).mono ?_; rintro e w3 ⟨rfl, rfl⟩
          go_wp2_with fail
          refine hK.out _ _ (hHeld) (fun hHeld => ?_)
          clear hK K
          try simp only [Act.put, List.getElem_toArray, List.getElem_cons_zero, List.getElem_cons_succ, List.setIfInBounds_toArray, List.set_cons_zero, List.set_cons_succ]
          refine wpAnyH_take (i := 12) (v := ?_) rfl (by kernel_rfl) (by kernel_rfl) (by kernel_rfl) (fun _ _ _ h => h) (Or.inl ⟨by rfl, ?_⟩) hHeld ?_
          rotate_left
          · (intro w hSw; (try dsimp only at hSw); go_simp; try with_reducible rfl)
          try simp only [Act.put, List.getElem_toArray, List.getElem_cons_zero, List.getElem_cons_succ, List.setIfInBounds_toArray, List.set_cons_zero, List.set_cons_succ]
          have hR3 := (hR2.drewN 1).alloc (.cells #[.int .i64 3, .string (nameB y.t), .int .i64 y.id] 43)
          refine wpAnyH_ready (rs := [13]) (by kernel_rfl) (by simp) ?_
          refine AllReadyH.cons rfl (fun K hK => ?_) (AllReadyH.nil)
          go_simp
          refine hK.out _ _ (its_held2 hHeld _) (fun hHeld => ?_)
          clear hK K
          try simp only [Act.put, List.getElem_toArray, List.getElem_cons_zero, List.getElem_cons_succ, List.setIfInBounds_toArray, List.set_cons_zero, List.set_cons_succ]
          refine wpAnyH_ready (rs := [14]) (by kernel_rfl) (by simp) ?_
          refine AllReadyH.cons rfl (fun K hK => ?_) (AllReadyH.nil)
          refine step_app eI _ (by rfl) _ _ (by rfl) w.heap.size M _ (by rfl) hR3.f hR3.chg.size (closeI y) wr.heap.size #[.int .i64 3, .string (nameB y.t), .int .i64 y.id] (by rfl) (heap_alloc_new _ _) (by rfl) (by omega) (by unfold maxLen; omega) ?_
          intro g2 cp w4 hown4 hgr4 hloc4
          have hR4 := hR3.pushF hown4 hgr4 hloc4
          have hk4 := hgr4.block go (Nat.lt_of_lt_of_le g0 (blw (Below.refl _ wr) _).size) (fun e => hR3.ne _ e.symm rfl)
          refine hK.out _ _ (⟨(World.cell?_of_block hk4).trans hHeld.1, (World.cell?_of_block hk4).trans hHeld.2⟩) (fun hHeld => ?_)
          clear hK K
          try simp only [Act.put, List.getElem_toArray, List.getElem_cons_zero, List.getElem_cons_succ, List.setIfInBounds_toArray, List.set_cons_zero, List.set_cons_succ]
          refine wpAnyH_take (i := 15) (v := ?_) rfl (by kernel_rfl) (by kernel_rfl) (by kernel_rfl) (fun _ _ _ h => h) (Or.inl ⟨by rfl, ?_⟩) hHeld ?_
          rotate_left
          · (intro w hSw; (try dsimp only at hSw); go_simp; try with_reducible rfl)
          try simp only [Act.put, List.getElem_toArray, List.getElem_cons_zero, List.getElem_cons_succ, List.setIfInBounds_toArray, List.set_cons_zero, List.set_cons_succ]
          refine wpAnyH_done (by kernel_rfl) ?_ _
          go_wp2_with fail
          go_roundw
          case rel =>
            (repeat apply Exists.intro)
            exact ⟨⟨j, (j : Int) - 1, by omega, rfl, rfl, ⟨_, _, by rw [HX.out, List.length_append]; rfl⟩, (fun h => by cases h), by rw [HX.out]; exact hR4⟩, rfl⟩
          case measure => simp [intOf]
        · cases nested
          · have hil := hns rfl
            subst hil
            rw [closeF_all] at hR2
            have HX := Lib.hid (closeF_all s.f s.o)
            have hgf := HG.out
            rw [if_neg (by decide)] at hgf
            rw [closeF_all]
            obtain ⟨_, _, _, hIf⟩ := hR2.itsF
            have HGf := Lib.hid hgf
            clear hzi hgf hgo hns hIf
            by_cases hz0 : 0 ≤ zi
            · have q1 : decide (0 ≤ zi) = true := decide_eq_true hz0
              go_wp2_with fail
              go_ret
              rw [← HGf.out]
              exact ⟨_, rfl, hR2.chg, hR2.nums, hR2.f⟩
            · have q1 : decide (0 ≤ zi) = false := decide_eq_false hz0
              go_wp2_with fail
              go_ret
              rw [← HGf.out]
              exact ⟨_, rfl, hR2.chg, hR2.nums, hR2.f⟩
          · obtain rfl : i = 0 := by rcases Nat.eq_zero_or_pos i with h | h; exact h; exact absurd ⟨h, rfl⟩ hgo
            obtain rfl : zi = -1 := by omega
            rw [closeF_none] at hR2 ⊢
            have hgf := HG.out
            rw [if_pos rfl] at hgf
            generalize s.f ++ s.o.reverse.map closeI = M at *
            have HGf := Lib.hid hgf
            clear hzi hgf hgo hns
            go_wp2_with fail
            go_ret
            rw [← HGf.out]
            exact ⟨_, rfl, hR2.chg, hR2.nums, hR2.f⟩
end Go.Proofs.YtdbbjhbkhimbfaaGreatDoor
namespace Go.Proofs.YtdbbjhbkhimbfaaGreatDoor
open Go.ChangeShapes Go.WideShapes Go.ChangeAt Go.RowKit
set_option linter.unusedVariables false
set_option maxRecDepth 100000

theorem int_last (o : List Int) (h : 0 < o.length) : ∃ L y, o = L ++ [y] ∧ o.getLast? = some y := by
  have hne : o ≠ [] := by intro e; rw [e] at h; cases h
  exact ⟨o.dropLast, o.getLast hne, (List.dropLast_concat_getLast hne).symm, List.getLast?_eq_some_getLast hne⟩
/-- A slice of numbers that is not empty, as it lies. -/
theorem OwnN.at {base : Nat} {L : List Int} {v : Value} {w : World} (h : OwnN base L v w) (h0 : 0 < L.length) : ∃ g cap, v = .slice (some ⟨g, 0, none⟩) L.length cap ∧ L.length ≤ cap ∧ cap ≤ maxLen ∧ ∀ i (hi : i < L.length), w.cell? ⟨g, i, none⟩ = some (.int .i64 (L[i]'hi)) := by
  obtain ⟨p, c, hv, h1, h2, hI⟩ := h.ints
  rcases h.2 with ⟨_, hz⟩ | ⟨g, cap, cur, hv2, _⟩
  · omega
  · rw [hv] at hv2
    injection hv2 with e1 e2 e3
    subst e1; subst e3
    refine ⟨g, c, hv, h1, h2, fun i hi => ?_⟩
    obtain ⟨a, e, _, hc⟩ := hI h0
    cases e
    have := hc i hi
    rwa [show (⟨g, 0, none⟩ : Addr).add i = ⟨g, i, none⟩ by unfold Addr.add; split <;> simp_all] at this
theorem OwnN.form {base : Nat} {L : List Int} {v : Value} {w : World} (h : OwnN base L v w) : ∃ p cap, v = .slice p L.length cap := by
  obtain ⟨p, c, hv, _⟩ := h.ints; exact ⟨p, c, hv⟩

end Go.Proofs.YtdbbjhbkhimbfaaGreatDoor
namespace Go.Proofs.YtdbbjhbkhimbfaaGreatDoor
open Go.ChangeShapes Go.WideShapes Go.ChangeAt Go.RowKit
set_option linter.unusedVariables false
set_option maxRecDepth 100000

/-- The fragment of a law. -/
def mk (l : List Int) (tags nested : Bool) : List It := (fragG l tags nested 0 8).1
theorem mk_ok (l : List Int) (tags nested : Bool) : FragOk 8 (mk l tags nested) := (frag_ok l tags nested 0 8 (by decide)).1
theorem mk_sm (l : List Int) (tags nested : Bool) : Sm 1 (mk l tags nested) := ⟨by have := (mk_ok l tags nested).len; omega, by have := (mk_ok l tags nested).txt; omega⟩
/-- The address of numbers: of an empty slice it is not looked at. -/
theorem ones_any {w : World} {p : Option Addr} {L : List Int} (hL : Ones w (Value.int .i64) p L) (h0 : 0 < L.length) : ∀ a, p = some a → a.block < w.heap.size := fun a ha => by
  obtain ⟨b, e, hlt, _⟩ := hL h0
  rw [ha] at e; injection e with e; rw [e]; exact hlt

theorem NumsAt.made {p : Option Addr} {cap : Nat} {L : List Int} {w : World} (hL : Ones w (Value.int .i64) p L) (hw : ∀ i (h : i < L.length), (Lit.int .i64 (L[i]'h)).wf = true) (hc : L.length ≤ cap) (hm : cap ≤ maxLen) :
    NumsAt (w.alloc (.cells #[.slice p L.length cap, .int .i64 0] 27)) w.heap.size p cap L 0 :=
  ⟨heap_alloc_new w _, hL.call (blw (Below.refl _ _) _), fun h0 a ha => by have := ones_any hL h0 a ha; omega, hw, hc, hm⟩
def shC (st : Option (List Int × List Int)) : List Int := match st with | some (c, _) => c | none => []
def shO (st : Option (List Int × List Int)) : List Int := match st with | some (_, o) => o | none => []
/-- What Shape answers, whether it fails or not. -/
def EndShU (st : Option (List Int × List Int)) (w : World) (e : Ending) (w' : World) : Prop := ∃ p1 c1 p2 c2, e = .returned (.tuple #[.slice p1 (shC st).length c1, .slice p2 (shO st).length c2, .bool st.isSome]) ∧
  (shC st).length ≤ c1 ∧ c1 ≤ maxLen ∧ Ones w' (Value.int .i64) p1 (shC st) ∧ (shO st).length ≤ c2 ∧ c2 ≤ maxLen ∧ Ones w' (Value.int .i64) p2 (shO st) ∧ Below w.heap.size w w'
theorem EndSh.u {st : Option (List Int × List Int)} {w w' : World} {e : Ending} (h : EndSh st w e w') : EndShU st w e w' := by
  cases st with
  | none => exact ⟨none, 0, none, 0, h.1, Nat.le_refl _, Nat.zero_le _, Ones.nil _ _ _, Nat.le_refl _, Nat.zero_le _, Ones.nil _ _ _, h.2⟩
  | some x =>
    obtain ⟨c, o⟩ := x
    obtain ⟨vc, vo, rfl, hT⟩ := h
    obtain ⟨p1, c1, rfl, a1, a2, a3⟩ := hT.c.ints
    obtain ⟨p2, c2, rfl, b1, b2, b3⟩ := hT.o.ints
    exact ⟨p1, c1, p2, c2, rfl, a1, a2, a3, b1, b2, b3, hT.below⟩
end Go.Proofs.YtdbbjhbkhimbfaaGreatDoor
namespace Go.Proofs.YtdbbjhbkhimbfaaGreatDoor
open Go.ChangeShapes Go.WideShapes Go.ChangeAt Go.RowKit
set_option linter.unusedVariables false
set_option maxRecDepth 100000

/-- The number that a list of pairs gives a number. -/
def nmF (ps : List (Int × Int)) (id : Int) : Option Int := (ps.find? fun q => q.1 == id).map (·.2)
theorem nm_snoc (ps : List (Int × Int)) (a b id : Int) : nmF (ps ++ [(a, b)]) id = match nmF ps id with | some v => some v | none => if a = id then some b else none := by
  unfold nmF
  rw [List.find?_append]
  cases h : ps.find? fun q => q.1 == id with
  | some v => rfl
  | none =>
    by_cases e : a = id
    · simp [e]
    · simp [e]
theorem nm_have (ps : List (Int × Int)) (a b c : Int) (h : nmF ps a = some c) (id : Int) : nmF (ps ++ [(a, b)]) id = nmF ps id := by
  rw [nm_snoc]
  cases h2 : nmF ps id with
  | some v => rfl
  | none =>
    show (if a = id then _ else _) = none
    rw [if_neg (fun e => by rw [e, h2] at h; cases h)]
theorem nm_new (ps : List (Int × Int)) (a b : Int) (h : nmF ps a = none) (id : Int) : (if id = a then some b else nmF ps id) = nmF (ps ++ [(a, b)]) id := by
  rw [nm_snoc]
  by_cases e : id = a
  · rw [if_pos e, e, h]; simp
  · rw [if_neg e]
    cases h2 : nmF ps id with
    | some v => rfl
    | none => show none = if a = id then _ else _; rw [if_neg (fun c => e c.symm)]
def ren1 (ps : List (Int × Int)) (x : It) : List It := if isT x.k = true then (match nmF ps x.id with | some n => [⟨x.k, x.t, n⟩] | none => []) else [x]
def renL (ps : List (Int × Int)) (l : List It) : List It := l.flatMap (ren1 ps)
theorem ren_next (ps : List (Int × Int)) (l : List It) (k : Nat) (h : k < l.length) : renL ps (l.take (k + 1)) = renL ps (l.take k) ++ ren1 ps (l[k]'h) := by
  rw [List.take_succ_eq_append_getElem h]; unfold renL; rw [List.flatMap_append]; simp
theorem ren1_len (ps : List (Int × Int)) (x : It) : (ren1 ps x).length ≤ 1 := by unfold ren1; split; split <;> simp; simp
theorem ren_len (ps : List (Int × Int)) (l : List It) : ∀ k, k ≤ l.length → (renL ps (l.take k)).length ≤ k := by
  intro k
  induction k with
  | zero => intro _; simp [renL]
  | succ j ih =>
    intro hj
    rw [ren_next ps l j hj, List.length_append]
    have := ren1_len ps l[j]; have := ih (by omega); omega
theorem ren1_txt (ps : List (Int × Int)) (x : It) : txtI (ren1 ps x) ≤ x.t.size := by unfold ren1 txtI; split; split <;> simp; simp
theorem ren_txt (ps : List (Int × Int)) (l : List It) : txtI (renL ps l) ≤ txtI l := by
  induction l with
  | nil => exact Nat.le_refl _
  | cons x t ih =>
    have e1 : renL ps (x :: t) = ren1 ps x ++ renL ps t := rfl
    have e2 : txtI (x :: t) = x.t.size + txtI t := rfl
    rw [e1, txtI_append, e2]
    have := ren1_txt ps x; omega
end Go.Proofs.YtdbbjhbkhimbfaaGreatDoor
namespace Go.Proofs.YtdbbjhbkhimbfaaGreatDoor
open Go.ChangeShapes Go.WideShapes Go.ChangeAt Go.RowKit
set_option linter.unusedVariables false
set_option maxRecDepth 100000

theorem nmr_one (P : List (Int × Int)) (a b id : Int) (h : nmF P id = none) : nmF (P ++ [(a, b)]) id = if a = id then some b else none := by rw [nm_snoc, h]
theorem nm_some (P Q : List (Int × Int)) (id n : Int) (h : nmF P id = some n) : nmF (P ++ Q) id = some n := by
  unfold nmF at *
  rw [List.find?_append]
  cases h2 : P.find? fun q => q.1 == id with
  | some v => rw [h2] at h; exact h
  | none => rw [h2] at h; cases h
theorem nm_take (P : List (Int × Int)) (j : Nat) (id n : Int) (h : nmF (P.take j) id = some n) : nmF P id = some n := by
  rw [← List.take_append_drop j P]; exact nm_some _ _ _ _ h

end Go.Proofs.YtdbbjhbkhimbfaaGreatDoor
namespace Go.Proofs.YtdbbjhbkhimbfaaGreatDoor
open Go.ChangeShapes Go.WideShapes Go.ChangeAt Go.RowKit
set_option linter.unusedVariables false
set_option maxRecDepth 100000

def EndF2 (L : List It) (w : World) (e : Ending) (w' : World) : Prop := ∃ p c, e = .returned (.slice p L.length c) ∧ L.length ≤ c ∧ c ≤ maxLen ∧ Its w' p L ∧ Below w.heap.size w w'
theorem EndI.f2 {L : List It} {w w' : World} {e : Ending} (h : EndI L w e w') : EndF2 L w e w' := by
  obtain ⟨v, rfl, hA⟩ := h
  obtain ⟨p, c, rfl, h1, h2, hI⟩ := hA.own.its
  exact ⟨p, c, rfl, h1, h2, hI, hA.below⟩
def EndNF (L : List Int) (w : World) (e : Ending) (w' : World) : Prop := ∃ p c, e = .returned (.slice p L.length c) ∧ L.length ≤ c ∧ c ≤ maxLen ∧ Ones w' (Value.int .i64) p L ∧ Below w.heap.size w w'
theorem EndN.f {L : List Int} {w w' : World} {e : Ending} (h : EndN L w e w') : EndNF L w e w' := by
  obtain ⟨v, rfl, hA⟩ := h
  obtain ⟨p, c, rfl, h1, h2, hI⟩ := hA.own.ints
  exact ⟨p, c, rfl, h1, h2, hI, hA.below⟩
theorem nums_wf (l : List It) (hO : Oks l) : ∀ i (h : i < (numsL l).length), (Lit.int .i64 ((numsL l)[i]'h)).wf = true := by
  have : ∀ (l : List It) (out : List Int), (∀ x ∈ l, x.ok) → (∀ n ∈ out, (Lit.int .i64 n).wf = true) → ∀ n ∈ l.foldl numS out, (Lit.int .i64 n).wf = true := by
    intro l
    induction l with
    | nil => intro out _ h; exact h
    | cons x t ih =>
      intro out h1 h2
      rw [List.foldl_cons]
      refine ih _ (fun y hy => h1 y (by simp [hy])) ?_
      intro n hn
      unfold numS at hn
      split at hn
      · rcases List.mem_append.1 hn with hn | hn
        · exact h2 n hn
        · rw [List.mem_singleton.1 hn]; exact (h1 x (by simp)).id
      · exact h2 n hn
  intro i h
  exact this l [] (fun x hx => by obtain ⟨j, hj, e⟩ := List.getElem_of_mem hx; rw [← e]; exact hO j hj) (fun n hn => by cases hn) _ (List.getElem_mem h)
theorem nums_le (l : List It) : (numsL l).length ≤ l.length := by
  have h := nums_len l _ (Nat.le_refl _)
  rwa [List.take_length] at h
/-- The pairs of Renumber. -/
def upPairs (ns : List Int) : List (Int × Int) := ns.zip (upL ns.length)

def EndFF (L M : List It) (w : World) (e : Ending) (w' : World) : Prop := ∃ p c q d, e = .returned (.tuple #[.slice p L.length c, .slice q M.length d]) ∧ L.length ≤ c ∧ c ≤ maxLen ∧ M.length ≤ d ∧ d ≤ maxLen ∧ Its w' p L ∧ Its w' q M ∧ Below w.heap.size w w'
theorem Oks.append {l m : List It} (h : Oks l) (k : Oks m) : Oks (l ++ m) := fun i hi => by
  rcases List.mem_append.1 (List.getElem_mem hi) with hx | hx
  · obtain ⟨j, hj, e⟩ := List.getElem_of_mem hx; rw [← e]; exact h j hj
  · obtain ⟨j, hj, e⟩ := List.getElem_of_mem hx; rw [← e]; exact k j hj

end Go.Proofs.YtdbbjhbkhimbfaaGreatDoor
namespace Go.Proofs.YtdbbjhbkhimbfaaGreatDoor
open Go.ChangeShapes Go.WideShapes Go.ChangeAt Go.RowKit
set_option linter.unusedVariables false
set_option linter.unusedSimpArgs false
set_option maxRecDepth 100000

theorem upto_free (c : UInt8) (l : List UInt8) (h : ∀ x ∈ l, x ≠ c) : upto c l = l := by
  unfold upto
  induction l with
  | nil => rfl
  | cons x t ih =>
    rw [List.takeWhile_cons, if_pos (by simpa using h x (List.mem_cons_self ..)), ih (fun y hy => h y (List.mem_cons_of_mem _ hy))]
theorem byR_idx (c : UInt8) : (∃ (n : Nat) (h : n < 6) (x : UInt8), Lib.indexByte [10, 9, 32, 13, 92, 123] c = (n : Int) ∧ c ≠ 32 ∧ (⟨#[110, 116, 115, 114, 92, 123]⟩ : ByteArray)[n]'(by exact h) = x ∧ byR c = [92, x]) ∨ ((Lib.indexByte [10, 9, 32, 13, 92, 123] c = -1 ∨ (Lib.indexByte [10, 9, 32, 13, 92, 123] c = 2 ∧ c = 32)) ∧ byR c = [c]) := by
  by_cases h10 : c = 10
  · subst h10; exact .inl ⟨0, by decide, 110, by decide, by decide, rfl, by decide⟩
  by_cases h9 : c = 9
  · subst h9; exact .inl ⟨1, by decide, 116, by decide, by decide, rfl, by decide⟩
  by_cases h13 : c = 13
  · subst h13; exact .inl ⟨3, by decide, 114, by decide, by decide, rfl, by decide⟩
  by_cases h92 : c = 92
  · subst h92; exact .inl ⟨4, by decide, 92, by decide, by decide, rfl, by decide⟩
  by_cases h123 : c = 123
  · subst h123; exact .inl ⟨5, by decide, 123, by decide, by decide, rfl, by decide⟩
  refine .inr ⟨?_, by unfold byR; rw [if_neg h10, if_neg h9, if_neg h13, if_neg (by simp [h92, h123])]⟩
  by_cases h32 : c = 32
  · subst h32; exact .inr ⟨by decide, rfl⟩
  · left
    rw [indexByte_upto]
    have : hasU c [10, 9, 32, 13, 92, 123] = false := by
      have h : upto c [10, 9, 32, 13, 92, 123] = [10, 9, 32, 13, 92, 123] := upto_free c _ (fun x hx => by
        simp only [List.mem_cons, List.not_mem_nil, or_false] at hx
        rcases hx with rfl | rfl | rfl | rfl | rfl | rfl
        · exact fun e => h10 e.symm
        · exact fun e => h9 e.symm
        · exact fun e => h32 e.symm
        · exact fun e => h13 e.symm
        · exact fun e => h92 e.symm
        · exact fun e => h123 e.symm)
      unfold hasU; rw [h]; simp
    rw [this]; rfl
def encT (l : List UInt8) : List UInt8 := l.flatMap byR
theorem encT_next (s : ByteArray) (k : Nat) (h : k < s.size) : encT (s.data.toList.take (k + 1)) = encT (s.data.toList.take k) ++ byR s[k] := by
  unfold encT
  rw [List.take_succ_eq_append_getElem (by simpa using h), List.flatMap_append]; simp; rfl
theorem byR_len (c : UInt8) : (byR c).length ≤ 2 := by unfold byR; repeat' split
                                                       all_goals simp
theorem encT_len (l : List UInt8) : (encT l).length ≤ 2 * l.length := by
  unfold encT
  induction l with
  | nil => simp
  | cons x t ih => rw [List.flatMap_cons, List.length_append, List.length_cons]; have := byR_len x; omega
theorem encT_take (s : ByteArray) (k : Nat) (h : k ≤ s.size) : (encT (s.data.toList.take k)).length ≤ 2 * s.size := by
  have := encT_len (s.data.toList.take k)
  have h2 : (s.data.toList.take k).length ≤ s.size := by simp; omega
  omega
end Go.Proofs.YtdbbjhbkhimbfaaGreatDoor
namespace Go.Proofs.YtdbbjhbkhimbfaaGreatDoor
open Go.ChangeShapes Go.WideShapes Go.ChangeAt Go.RowKit
set_option linter.unusedVariables false
set_option linter.unusedSimpArgs false
set_option maxRecDepth 100000

theorem etxt_small {x : It} (hp : properB x = true) (hw : wid x ≤ 1024) : x.t.size ≤ 1024 := by
  rcases proper_kinds hp with h | h | h
  · have : wid x = x.t.size := if_pos h
    omega
  · obtain ⟨_, _, h3, h4⟩ := isT_proper h hp
    unfold isT at h; simp at h
    by_cases hk : x.k = 3
    · have := (isNm_bytes _ (h3 hk)).2.1; omega
    · have := ((isCon_iff _).1 (h4 (by omega))).size; omega
  · rw [slot_proper h] at hp
    simp at hp
    have := (isNm_bytes _ hp.1).2.1; omega
theorem ewid_len (l : List It) (k : Nat) (h : k < l.length) : wid (l[k]'h) ≤ lenI l := by
  have h1 := lenI_next l k h
  have h2 := lenI_take l (k + 1)
  omega
theorem eitem_small {f : List It} (h : valE f = 0) (k : Nat) (hk : k < f.length) : properB (f[k]'hk) = true ∧ (f[k]'hk).t.size ≤ 1024 := by
  obtain ⟨h1, h2, h3⟩ := valE_zero h
  have hp := errL_proper f h3 _ (List.getElem_mem hk)
  have := ewid_len f k hk
  exact ⟨hp, etxt_small hp (by omega)⟩
theorem encR_next (l : List It) (k : Nat) (h : k < l.length) : encR (l.take (k + 1)) = encR (l.take k) ++ e1R (l[k]'h) := by
  rw [List.take_succ_eq_append_getElem h]; unfold encR; rw [List.flatMap_append]; simp
theorem e1R_text {x : It} (h : x.k = 1) : e1R x = encT x.t.data.toList := if_pos h
theorem e1R_slot {x : It} (h : x.k = 5) : e1R x = (⟨#[123]⟩ ++ x.t ++ ⟨#[125]⟩ : ByteArray).data.toList := by
  unfold e1R; rw [if_neg (by omega)]; simp
theorem e1R_len {x : It} (h : x.t.size ≤ 1024) : (e1R x).length ≤ 3000 := by
  have hs : x.t.data.toList.length = x.t.size := by simp
  unfold e1R
  split
  · have := encT_len x.t.data.toList
    unfold encT at this; omega
  · simp only [List.length_cons, List.length_append, List.length_nil, hs]; omega
theorem enc_len {f : List It} (h : valE f = 0) : ∀ k, k ≤ f.length → (encR (f.take k)).length ≤ 3000 * k := by
  intro k
  induction k with
  | zero => intro _; simp [encR]
  | succ j ih =>
    intro hj
    obtain ⟨h1, h2⟩ := eitem_small h j (by omega)
    have := ih (by omega)
    have := e1R_len h2
    rw [encR_next f j (by omega), List.length_append]
    omega
theorem econv_nil (w : World) : (convert 50 9 (.slice none 0 0)).run Tryz.prog w = .ok (.string .empty) w := by kernel_rfl
/-- string(row) -/
theorem econv_own {base : Nat} {l : List UInt8} {v : Value} {w : World} (h : OwB base l v w) : (convert 50 9 v).run Tryz.prog w = .ok (.string (bsL l)) w := by
  rcases h.2 with ⟨hv, h0⟩ | ⟨g, cap, cur, hv, hg, hh, r⟩
  · have : l = [] := List.length_eq_zero_iff.1 h0
    subst this
    rw [hv]
    exact econv_nil w
  · have hc := World.ownsRow.cells h (g := g) (by rw [hv]; rfl)
    have hw := Lib.run_convert_whole (P := Tryz.prog) w 50 5 9 Tryz.underlying50 Tryz.underlying5 Tryz.underlying9 g 0 (bsL l) (fun i hi => by
      rw [bsL_size] at hi
      have hcell := hc i (.int .u8 ((l[i]'hi).toNat : Int)) (by unfold Lib.byteCells; rw [List.getElem?_map, List.getElem?_eq_getElem hi]; rfl)
      have ea : ((⟨g, 0, none⟩ : Addr).add i) = ⟨g, 0 + i, none⟩ := by unfold Addr.add; split <;> simp_all
      rw [ea] at hcell
      rw [hcell]; rfl) cap
    rw [bsL_size] at hw
    rw [hv]; exact hw
/-- What Encode answers. -/
def encE (f : List It) : ByteArray × Int := if valE f = 0 then (if (tagsL f).length = 0 then (bsL (encR f), 0) else (.empty, 7)) else (.empty, valE f)
theorem encE_bad {f : List It} (h : valE f ≠ 0) : encE f = (.empty, valE f) := if_neg h
theorem encE_tag {f : List It} (h : valE f = 0) (h2 : (tagsL f).length ≠ 0) : encE f = (.empty, 7) := by unfold encE; rw [if_pos h, if_neg h2]
theorem encE_ok {f : List It} (h : valE f = 0) (h2 : (tagsL f).length = 0) : encE f = (bsL (encR f), 0) := by unfold encE; rw [if_pos h, if_pos h2]
theorem no_tags {f : List It} (h : (tagsL f).length = 0) (k : Nat) (hk : k < f.length) : isT (f[k]'hk).k = false := by
  have h0 : tagsL f = [] := List.length_eq_zero_iff.1 h
  unfold tagsL at h0
  rw [List.filter_eq_nil_iff] at h0
  have := h0 _ (List.getElem_mem hk)
  simpa using this
theorem item_flat {f : List It} (h : valE f = 0) (h2 : (tagsL f).length = 0) (k : Nat) (hk : k < f.length) : ((f[k]'hk).k = 1 ∨ (f[k]'hk).k = 5) ∧ (f[k]'hk).t.size ≤ 1024 := by
  obtain ⟨hp, hs⟩ := eitem_small h k hk
  refine ⟨?_, hs⟩
  rcases proper_kinds hp with q | q | q
  · exact .inl q
  · rw [no_tags h2 k hk] at q; cases q
  · exact .inr q
end Go.Proofs.YtdbbjhbkhimbfaaGreatDoor
namespace Go.Proofs.YtdbbjhbkhimbfaaGreatDoor
open Go.ChangeShapes Go.WideShapes Go.ChangeAt Go.RowKit
set_option linter.unusedVariables false
set_option linter.unusedSimpArgs false
set_option maxRecDepth 100000

/-- Items without tags. -/
def NoT (l : List It) : Prop := tagsL l = []
theorem step_flat {s : St} (L : List Int) (nested : Bool) (hn : nested = true) (ho : s.o = []) (ht : NoT s.f) : (stepG L false nested s).o = [] ∧ NoT (stepG L false nested s).f := by
  obtain ⟨f, o, id, m⟩ := s
  dsimp only at ho ht
  subst ho
  have key : ∀ x : It, isT x.k = false → NoT (norm (f ++ [x])) := fun x hx => by
    unfold NoT; rw [tags_add, hx]; rw [show tagsL f = [] from ht]; rfl
  unfold stepG
  have hc := nx_lt L (lineF L m 3).2 8 (by decide)
  by_cases c1 : nx L (lineF L m 3).2 8 = 0 ∨ nx L (lineF L m 3).2 8 = 1
  · dsimp only
    rw [nextG_slot L false nested [] id m c1]
    exact ⟨rfl, key _ rfl⟩
  · dsimp only
    rw [nextG_text L false nested [] id m (by
      by_cases c7 : nx L (lineF L m 3).2 8 = 7
      · exact .inl c7
      · by_cases c4 : nx L (lineF L m 3).2 8 ≤ 4
        · exact .inr (.inl ⟨by omega, c4, rfl⟩)
        · exact .inr (.inr ⟨by omega, by omega, by simp, by simp⟩))]
    exact ⟨rfl, key _ rfl⟩
theorem run_flat (L : List Int) : ∀ (k : Nat) (s : St), s.o = [] → NoT s.f → (runG L false true k s).o = [] ∧ NoT (runG L false true k s).f := by
  intro k
  induction k with
  | zero => intro s h1 h2; exact ⟨h1, h2⟩
  | succ j ih =>
    intro s h1 h2
    obtain ⟨a, b⟩ := step_flat L true rfl h1 h2
    exact ih _ a b
theorem mk_flat (L : List Int) : NoT (mk L false true) := by
  unfold mk fragG startG
  obtain ⟨a, b⟩ := run_flat L (nx L 0 (8 + 1)) ⟨[], [], 0, 0 + 1⟩ rfl rfl
  dsimp only
  rw [if_pos rfl, a]
  unfold NoT at b ⊢
  simpa using b
/-- A made fragment with a text behind it. -/
def mkT (L : List Int) (s : ByteArray) : List It := norm (mk L false true ++ [⟨1, s, 0⟩])
theorem mkT_err (L : List Int) (s : ByteArray) : errL [] (mkT L s) = 0 := err_text _ _ (mk_ok L false true).e
theorem mkT_flat (L : List Int) (s : ByteArray) : NoT (mkT L s) := by
  unfold NoT mkT; rw [tags_add, if_neg (show ¬ isT (1 : Int) = true by decide), List.append_nil]; exact mk_flat L
theorem mkT_valid (L : List Int) (s : ByteArray) (hs : s.size ≤ 200) : valE (mkT L s) = 0 := by
  have h1 := (mk_ok L false true).len
  have h2 := (mk_ok L false true).lenI
  have h3 := norm_len (mk L false true ++ [⟨1, s, 0⟩])
  have h4 := len_norm (mk L false true ++ [⟨1, s, 0⟩])
  rw [List.length_append] at h3
  rw [lenI_snoc] at h4
  have hw : wid ⟨1, s, 0⟩ = s.size := if_pos rfl
  rw [hw] at h4
  simp only [List.length_cons, List.length_nil] at h3
  exact valE_of (by unfold mkT; omega) (by unfold mkT; omega) (mkT_err L s)
/-- What is encoded is read again. -/
theorem dec_enc {f : List It} (h : valE f = 0) (ht : NoT f) : dec elR (encR f) = (f, offs 0 (wsG e1R (expI f)), 0, 0) := by
  obtain ⟨h1, h2, h3⟩ := valE_zero h
  have hfl : ∀ x ∈ expI f, One x ∧ Flat x := fun x hx => by
    refine ⟨exp_ok h3 x hx, ?_⟩
    unfold expI at hx
    rw [List.mem_flatMap] at hx
    obtain ⟨y, hy, hx⟩ := hx
    by_cases hk : y.k = 1
    · rw [expX_text hk, List.mem_map] at hx
      obtain ⟨c, _, rfl⟩ := hx
      exact .inl rfl
    · rw [expX_other hk] at hx
      obtain rfl := List.mem_singleton.1 hx
      rcases proper_kinds (errL_proper f h3 _ hy) with q | q | q
      · exact .inl q
      · have : x ∈ tagsL f := mem_tags.2 ⟨hy, q⟩
        rw [show tagsL f = [] from ht] at this; cases this
      · exact .inr q
  have hw := ws_e1 (expI f) hfl
  have he : encR f = flatW (wsG e1R (expI f)) ++ [] := by
    rw [List.append_nil, wsG_flat, ← encR_exp]; rfl
  rw [he]
  exact mixed elR_ok hw (Tail.nil _) (by rw [wsG_it, norm_exp]; exact norm_valid f h3) h1 (by unfold wsG; rw [List.length_map, expI_len]; exact h2)
theorem nums_flat {f : List It} (h : NoT f) : numsL f = [] := by
  rw [← nums_firsts]
  unfold firsts
  rw [show tagsL f = [] from h]; rfl
theorem ren_flat (ps : List (Int × Int)) {f : List It} (h : NoT f) : renL ps f = f := by
  have ht : ∀ x ∈ f, isT x.k = false := fun x hx => by
    cases q : isT x.k
    · rfl
    · have : x ∈ tagsL f := mem_tags.2 ⟨hx, q⟩
      rw [show tagsL f = [] from h] at this; cases this
  clear h
  unfold renL
  induction f with
  | nil => rfl
  | cons x t ih =>
    rw [List.flatMap_cons, ih (fun y hy => ht y (List.mem_cons_of_mem _ hy))]
    unfold ren1
    rw [ht x (List.mem_cons_self ..)]; rfl
theorem renum_flat {f : List It} (h : valE f = 0) (ht : NoT f) : norm (renL (upPairs (numsL f)) f) = f := by
  rw [ren_flat _ ht]; exact norm_valid f (valE_zero h).2.2
theorem enc_bytes {f : List It} (h : valE f = 0) : (encR f).length ≤ 3000 * 512 := by
  have h1 := enc_len h f.length (Nat.le_refl _)
  rw [List.take_length] at h1
  have := (valE_zero h).1
  omega
end Go.Proofs.YtdbbjhbkhimbfaaGreatDoor
namespace Go.Proofs.YtdbbjhbkhimbfaaGreatDoor
set_option linter.unusedVariables false
open Go.Lib

/-- Bytes that end no raw value. -/
def Safe (u : List UInt8) : Prop := ∀ r, rawL (u ++ r) = u.length + rawL r
theorem Safe.nil : Safe [] := fun r => by simp
theorem Safe.append {u v : List UInt8} (hu : Safe u) (hv : Safe v) : Safe (u ++ v) := fun r => by
  rw [List.append_assoc, hu, hv, List.length_append]; omega
theorem Safe.one {c : UInt8} (h1 : c ≠ 10) (h2 : c ≠ 92) : Safe [c] := fun r => by
  show rawL (c :: r) = 1 + rawL r
  exact rawL_c c r h1 h2
theorem Safe.esc (d : UInt8) : Safe [92, d] := fun r => rawL_92 d r
theorem Safe.all {u : List UInt8} (h : ∀ c ∈ u, c ≠ 10 ∧ c ≠ 92) : Safe u := by
  induction u with
  | nil => exact Safe.nil
  | cons c t ih => exact Safe.append (u := [c]) (Safe.one (h c (List.mem_cons_self ..)).1 (h c (List.mem_cons_self ..)).2) (ih (fun x hx => h x (List.mem_cons_of_mem _ hx)))
theorem Safe.flat {α : Type} (f : α → List UInt8) (l : List α) (h : ∀ x ∈ l, Safe (f x)) : Safe (l.flatMap f) := by
  induction l with
  | nil => exact Safe.nil
  | cons x t ih => rw [List.flatMap_cons]; exact (h x (List.mem_cons_self ..)).append (ih (fun y hy => h y (List.mem_cons_of_mem _ hy)))
theorem byR_safe (c : UInt8) : Safe (byR c) := by
  unfold byR
  split
  · exact Safe.esc _
  · split
    · exact Safe.esc _
    · split
      · exact Safe.esc _
      · split
        · exact Safe.esc _
        · rename_i h1 h2 h3 h4
          exact Safe.one h1 (fun e => h4 (.inl e))
/-- The bytes of a name are none that a line means. -/
theorem nm_safe {s : ByteArray} (h : isNm s = true) : Safe s.data.toList := Safe.all (fun c hc => by
  have := nm_mem h hc
  unfold nmB at this; simp at this
  exact ⟨(nm_ne h hc).2.2.1, u8_ne (by rw [show (((92 : UInt8).toNat : Nat) : Int) = 92 from rfl]; omega)⟩)
theorem e1R_safe {x : It} (h : One x) (hf : Flat x) : Safe (e1R x) := by
  by_cases hk : x.k = 1
  · obtain ⟨c, rfl⟩ := one_bT h hk
    rw [e1R_byte]; exact byR_safe c
  · have h5 : x.k = 5 := hf.resolve_left hk
    have hp : properB x = true := by rcases h with ⟨h1, _⟩ | ⟨_, h2⟩; exact absurd h1 hk; exact h2
    rw [slot_proper h5] at hp
    simp only [Bool.and_eq_true, decide_eq_true_eq] at hp
    unfold e1R
    rw [if_neg hk]
    exact Safe.append (u := [123]) (Safe.one (by decide) (by decide)) ((nm_safe hp.1).append (Safe.one (by decide) (by decide)))
theorem exp_flat {f : List It} (h3 : errL [] f = 0) (ht : NoT f) : ∀ x ∈ expI f, One x ∧ Flat x := fun x hx => by
  refine ⟨exp_ok h3 x hx, ?_⟩
  unfold expI at hx
  rw [List.mem_flatMap] at hx
  obtain ⟨y, hy, hx⟩ := hx
  by_cases hk : y.k = 1
  · rw [expX_text hk, List.mem_map] at hx
    obtain ⟨c, _, rfl⟩ := hx
    exact .inl rfl
  · rw [expX_other hk] at hx
    obtain rfl := List.mem_singleton.1 hx
    rcases proper_kinds (errL_proper f h3 _ hy) with q | q | q
    · exact .inl q
    · have : x ∈ tagsL f := mem_tags.2 ⟨hy, q⟩
      rw [show tagsL f = [] from ht] at this; cases this
    · exact .inr q
theorem enc_safe {f : List It} (h3 : errL [] f = 0) (ht : NoT f) : Safe (encR f) := by
  rw [← encR_exp]
  exact Safe.flat _ _ (fun x hx => e1R_safe (exp_flat h3 ht x hx).1 (exp_flat h3 ht x hx).2)
/-- A backslash, a line feed, spaces. -/
def gapL (k : Nat) : List UInt8 := 92 :: 10 :: List.replicate k 32
/-- A space in front, escaped. -/
def esc1 : List UInt8 → List UInt8
  | [] => []
  | c :: t => if c = 32 then 92 :: 115 :: t else c :: t
theorem gap_safe (k : Nat) : Safe (gapL k) := Safe.append (u := [92, 10]) (Safe.esc 10) (Safe.all (fun c hc => by rw [(List.mem_replicate.1 hc).2]; decide))
theorem byR_head (c : UInt8) : ∃ h t, byR c = h :: t ∧ h ≠ 9 ∧ h ≠ 10 ∧ (h = 32 → t = [] ∧ c = 32) := by
  unfold byR
  split
  · exact ⟨_, _, rfl, by decide, by decide, fun e => by cases e⟩
  · split
    · exact ⟨_, _, rfl, by decide, by decide, fun e => by cases e⟩
    · split
      · exact ⟨_, _, rfl, by decide, by decide, fun e => by cases e⟩
      · split
        · exact ⟨_, _, rfl, by decide, by decide, fun e => by cases e⟩
        · rename_i h1 h2 h3 h4
          exact ⟨c, [], rfl, h2, h1, fun e => ⟨rfl, e⟩⟩
theorem e1_head {x : It} (h : One x) (hf : Flat x) : ∃ a t, e1R x = a :: t ∧ a ≠ 9 ∧ a ≠ 10 ∧ (a = 32 → t = [] ∧ x = bT 32) := by
  by_cases hk : x.k = 1
  · obtain ⟨c, rfl⟩ := one_bT h hk
    rw [e1R_byte]
    obtain ⟨a, t, h1, h2, h3, h4⟩ := byR_head c
    exact ⟨a, t, h1, h2, h3, fun e => ⟨(h4 e).1, by rw [(h4 e).2]⟩⟩
  · exact ⟨123, x.t.data.toList ++ [125], by unfold e1R; rw [if_neg hk], by decide, by decide, fun e => by cases e⟩
theorem word_gap (k : Nat) {w : List UInt8} {x : It} (hw : Word elR w x) (hd : ∃ a t, w = a :: t ∧ blB a = false) : Word elR (gapL k ++ w) x := by
  obtain ⟨hne, h1, h2⟩ := hw
  refine ⟨by simp [gapL], h1, fun f cs p d r l1 l2 => ?_⟩
  obtain ⟨a, t, rfl, ha⟩ := hd
  have hb : blanks (List.replicate k 32 ++ (a :: t ++ r)) = List.replicate k 32 := blanks_app _ _ (fun c hc => by rw [(List.mem_replicate.1 hc).2]; decide) (fun c hc => by
    have : c = a := by simpa using hc.symm
    rw [this]; exact ha)
  have he : elR ((gapL k ++ (a :: t)) ++ r) = some (none, 2 + k) := by
    show elR (92 :: 10 :: ((List.replicate k 32 ++ (a :: t)) ++ r)) = _
    rw [elR_cont, List.append_assoc, hb, List.length_replicate]
  rw [decG_cont elR_ok f cs p d _ he]
  have hdr : ((gapL k ++ (a :: t)) ++ r).drop (2 + k) = (a :: t) ++ r := by
    have : (gapL k).length = 2 + k := by simp [gapL]; omega
    rw [List.append_assoc, ← this, List.drop_left]
  rw [hdr, h2 f cs (p + (2 + k)) d r l1 l2, List.length_append]
  have : (gapL k).length = 2 + k := by simp [gapL]; omega
  rw [this, Nat.add_assoc]
theorem tail_gap (k : Nat) : Tail elR (gapL k) := fun f cs p d => by
  have hb : blanks (List.replicate k 32 ++ []) = List.replicate k 32 := blanks_app _ _ (fun c hc => by rw [(List.mem_replicate.1 hc).2]; decide) (fun c hc => by cases hc)
  rw [List.append_nil] at hb
  have he : elR (gapL k) = some (none, 2 + k) := by
    show elR (92 :: 10 :: List.replicate k 32) = _
    rw [elR_cont, hb, List.length_replicate]
  rw [decG_cont elR_ok f cs p d _ he, List.drop_of_length_le (by simp [gapL]; omega)]
  exact decG_nil _ _ _ _ _
theorem word_s : Word elR [92, 115] (bT 32) := word_el elR_ok (by decide) (fun r => elR_esc 115 32 r (by decide) rfl)
/-- Two fragments with a continuation between them. -/
theorem dec_lines {F G : List It} (hF : errL [] F = 0) (tF : NoT F) (hG : errL [] G = 0) (tG : NoT G) (k : Nat) (hl : (norm (F ++ G)).length ≤ 512) (hn : lenI F + lenI G ≤ 1024) :
    (∃ o, dec elR (encR F ++ (gapL k ++ esc1 (encR G))) = (norm (F ++ G), o, 0, 0)) ∧ Safe (encR F ++ (gapL k ++ esc1 (encR G))) := by
  have wF := ws_e1 (expI F) (exp_flat hF tF)
  have sF := enc_safe hF tF
  have eF : encR F = flatW (wsG e1R (expI F)) := by rw [wsG_flat, ← encR_exp]; rfl
  have hfl := exp_flat hG tG
  have eG : encR G = (expI G).flatMap e1R := by rw [← encR_exp]; rfl
  have hnorm : norm (expI F ++ expI G) = norm (F ++ G) := by rw [← expI_append, norm_exp]
  have hlen : (expI F).length + (expI G).length ≤ 1024 := by rw [expI_len, expI_len]; exact hn
  cases hX : expI G with
  | nil =>
    rw [hX] at eG hnorm
    rw [eG]
    have hm := mixed elR_ok wF (tail_gap k) (f := norm (F ++ G)) (by rw [wsG_it]; rw [List.append_nil] at hnorm; exact hnorm) hl (by unfold wsG; rw [List.length_map]; omega)
    rw [← eF] at hm
    exact ⟨⟨_, by show dec elR (encR F ++ (gapL k ++ [])) = _; rw [List.append_nil]; exact hm⟩, sF.append ((gap_safe k).append Safe.nil)⟩
  | cons x xs =>
    rw [hX] at eG hnorm hfl hlen
    obtain ⟨ox, fx⟩ := hfl x (List.mem_cons_self ..)
    have wx := word_e1 x ox fx
    have sx := e1R_safe ox fx
    have wR : AllW elR (wsG e1R xs) := ws_e1 xs (fun y hy => hfl y (List.mem_cons_of_mem _ hy))
    have sR : Safe (xs.flatMap e1R) := Safe.flat _ _ (fun y hy => e1R_safe (hfl y (List.mem_cons_of_mem _ hy)).1 (hfl y (List.mem_cons_of_mem _ hy)).2)
    -- the first word of G, with a space escaped
    have hw : ∃ w, Word elR w x ∧ Safe w ∧ (∃ a t, w = a :: t ∧ blB a = false) ∧ esc1 (encR G) = w ++ xs.flatMap e1R := by
      obtain ⟨a, t, h1, h2, h3, h4⟩ := e1_head ox fx
      rw [eG, List.flatMap_cons, h1]
      by_cases h32 : a = 32
      · obtain ⟨rfl, rfl⟩ := h4 h32
        subst h32
        exact ⟨[92, 115], word_s, Safe.esc 115, ⟨92, [115], rfl, by decide⟩, rfl⟩
      · refine ⟨a :: t, by rw [← h1]; exact wx, by rw [← h1]; exact sx, ⟨a, t, rfl, ?_⟩, ?_⟩
        · unfold blB; simp [h32, h2]
        · show (if a = 32 then _ else _) = _
          rw [if_neg h32]; rfl
    obtain ⟨w, hw1, hw2, hw3, hw4⟩ := hw
    rw [hw4]
    have e : encR F ++ (gapL k ++ (w ++ xs.flatMap e1R)) = flatW (wsG e1R (expI F) ++ (gapL k ++ w, x) :: wsG e1R xs) ++ [] := by
      rw [List.append_nil, flatW_append, flatW_cons, wsG_flat e1R xs, eF, ← List.append_assoc (gapL k)]
    have hA : AllW elR (wsG e1R (expI F) ++ (gapL k ++ w, x) :: wsG e1R xs) := by
      intro y hy
      rcases List.mem_append.1 hy with hy | hy
      · exact wF y hy
      · rcases List.mem_cons.1 hy with rfl | hy
        · exact word_gap k hw1 hw3
        · exact wR y hy
    have hI : norm (itW (wsG e1R (expI F) ++ (gapL k ++ w, x) :: wsG e1R xs)) = norm (F ++ G) := by
      rw [← hnorm]
      congr 1
      unfold itW
      rw [List.map_append, List.map_cons]
      have h1 := wsG_it e1R (expI F)
      have h2 := wsG_it e1R xs
      unfold itW at h1 h2
      rw [h1, h2]
    have hm := mixed elR_ok hA (Tail.nil _) hI hl (by
      rw [List.length_append, List.length_cons]
      unfold wsG
      rw [List.length_map, List.length_map]
      simp only [List.length_cons] at hlen
      omega)
    rw [← e] at hm
    exact ⟨⟨_, hm⟩, sF.append ((gap_safe k).append (hw2.append sR))⟩
end Go.Proofs.YtdbbjhbkhimbfaaGreatDoor
namespace Go.Proofs.YtdbbjhbkhimbfaaGreatDoor
set_option linter.unusedVariables false
open Go.Lib

theorem one_small {x : It} (h : One x) : x.t.size ≤ 1024 ∧ x.k ≠ 0 := by
  rcases h with ⟨h1, h2, h3⟩ | ⟨h1, h2⟩
  · exact ⟨by omega, by omega⟩
  · refine ⟨etxt_small h2 (by unfold wid; split <;> omega), ?_⟩
    rcases proper_kinds h2 with q | q | q
    · exact absurd q h1
    · intro e; rw [e] at q; cases q
    · omega
/-- A space at the beginning is written otherwise. -/
def shR (w : List UInt8) : List UInt8 := if w.head? = some 32 then 92 :: 115 :: w.tail else w
def GapR (g : List UInt8) : Prop := g = [] ∨ g = [32] ∨ g = [9, 32]
theorem GapR.blank {g : List UInt8} (h : GapR g) : ∀ c ∈ g, blB c = true := by
  rcases h with rfl | rfl | rfl <;> decide
theorem GapR.len {g : List UInt8} (h : GapR g) : g.length ≤ 2 := by
  rcases h with rfl | rfl | rfl <;> decide
/-- What a position may be written as. -/
def PieR (x : It) (t : List UInt8) : Prop := t = e1R x ∨ (x = bT 32 ∧ t = [92, 115]) ∨ ∃ g, GapR g ∧ t = 92 :: 10 :: (g ++ shR (e1R x))
theorem word_cont {w : List UInt8} {x : It} (h : Word elR w x) (hw : ∀ c, w.head? = some c → blB c = false) (g : List UInt8) (hg : ∀ c ∈ g, blB c = true) : Word elR (92 :: 10 :: (g ++ w)) x := by
  refine ⟨by simp, h.2.1, fun f cs p d r h1 h2 => ?_⟩
  have hne := h.1
  have hb : blanks (g ++ (w ++ r)) = g := blanks_app g (w ++ r) hg (fun c hc => by
    cases hw1 : w with
    | nil => exact absurd hw1 hne
    | cons a b => rw [hw1] at hc; exact hw c (by rw [hw1]; exact hc))
  have he : elR (92 :: 10 :: (g ++ w) ++ r) = some (none, 2 + g.length) := by
    show elR (92 :: 10 :: (g ++ w ++ r)) = _
    rw [elR_cont, List.append_assoc, hb]
  have hd : (92 :: 10 :: (g ++ w) ++ r).drop (2 + g.length) = w ++ r := by
    rw [Nat.add_comm]
    show (g ++ w ++ r).drop g.length = _
    rw [List.append_assoc, List.drop_append_of_le_length (Nat.le_refl _), List.drop_length, List.nil_append]
  rw [decG_cont elR_ok f cs p d _ he, hd, h.2.2 f cs _ d r h1 h2]
  have hl : (92 :: 10 :: (g ++ w)).length = 2 + g.length + w.length := by simp; omega
  rw [hl, Nat.add_assoc]
theorem shR_word (x : It) (h : One x) (hf : Flat x) : Word elR (shR (e1R x)) x ∧ ∀ c, (shR (e1R x)).head? = some c → blB c = false := by
  by_cases hk : x.k = 1
  · obtain ⟨c, rfl⟩ := one_bT h hk
    by_cases h32 : c = 32
    · subst h32
      have e : shR (e1R (bT 32)) = [92, 115] := by rw [e1R_byte]; decide
      rw [e]
      exact ⟨word_el elR_ok (by simp) (fun r => elR_esc 115 32 r (by decide) (by decide)), fun c hc => by injection hc with hc; subst hc; decide⟩
    · have hh : ∀ d, (e1R (bT c)).head? = some d → blB d = false := by
        rw [e1R_byte]
        intro d hd
        unfold byR at hd
        by_cases h1 : c = 10
        · rw [if_pos h1] at hd; injection hd with hd; subst hd; decide
        by_cases h2 : c = 9
        · rw [if_neg h1, if_pos h2] at hd; injection hd with hd; subst hd; decide
        by_cases h3 : c = 13
        · rw [if_neg h1, if_neg h2, if_pos h3] at hd; injection hd with hd; subst hd; decide
        rw [if_neg h1, if_neg h2, if_neg h3] at hd
        by_cases h4 : c = 92 ∨ c = 123
        · rw [if_pos h4] at hd; injection hd with hd; subst hd; decide
        · rw [if_neg h4] at hd; injection hd with hd; subst hd
          unfold blB
          rw [beq_eq_false_iff_ne.2 h32, beq_eq_false_iff_ne.2 h2]; rfl
      have e : shR (e1R (bT c)) = e1R (bT c) := if_neg (fun e => absurd (hh _ e) (by decide))
      rw [e]
      exact ⟨word_e1 _ h hf, hh⟩
  · have e0 : e1R x = 123 :: (x.t.data.toList ++ [125]) := if_neg hk
    have e : shR (e1R x) = e1R x := by rw [e0]; exact if_neg (by simp)
    rw [e]
    exact ⟨word_e1 x h hf, fun c hc => by rw [e0] at hc; injection hc with hc; subst hc; decide⟩
theorem pie_word (x : It) (h : One x) (hf : Flat x) {t : List UInt8} (ht : PieR x t) : Word elR t x := by
  rcases ht with rfl | ⟨rfl, rfl⟩ | ⟨g, hg, rfl⟩
  · exact word_e1 x h hf
  · exact word_el elR_ok (by simp) (fun r => elR_esc 115 32 r (by decide) (by decide))
  · have := shR_word x h hf
    exact word_cont this.1 this.2 g hg.blank
theorem shR_len (w : List UInt8) : (shR w).length ≤ w.length + 1 := by
  unfold shR
  split
  · cases w with
    | nil => rename_i h; cases h
    | cons a b => simp
  · omega
theorem pie_len {x : It} (hx : x.t.size ≤ 1024) {t : List UInt8} (ht : PieR x t) : t.length ≤ 3010 := by
  have h1 := e1R_len hx
  rcases ht with rfl | ⟨rfl, rfl⟩ | ⟨g, hg, rfl⟩
  · omega
  · decide
  · have h2 := hg.len
    have h3 := shR_len (e1R x)
    simp only [List.length_cons, List.length_append]; omega
/-- Bytes that are the positions, one behind the other, each in one of its forms. -/
def RawsR (xs : List It) (raw : List UInt8) : Prop := ∃ ws : Ws, raw = flatW ws ∧ itW ws = xs ∧ ∀ w ∈ ws, PieR w.2 w.1
theorem RawsR.nil : RawsR [] [] := ⟨[], rfl, rfl, fun w h => by cases h⟩
theorem RawsR.snoc {xs : List It} {raw : List UInt8} (h : RawsR xs raw) {x : It} {t : List UInt8} (ht : PieR x t) : RawsR (xs ++ [x]) (raw ++ t) := by
  obtain ⟨ws, e1, e2, e3⟩ := h
  refine ⟨ws ++ [(t, x)], ?_, ?_, fun w hw => ?_⟩
  · rw [flatW_append, ← e1, flatW_cons, flatW_nil, List.append_nil]
  · show (ws ++ [(t, x)]).map Prod.snd = _
    rw [List.map_append]; show itW ws ++ [x] = _; rw [e2]
  · rcases List.mem_append.1 hw with hw | hw
    · exact e3 w hw
    · obtain rfl := List.mem_singleton.1 hw; exact ht
/-- The words of a raw content of a fragment. -/
theorem raws_words {f : List It} (h : valE f = 0) (ht : NoT f) {raw : List UInt8} (hr : RawsR (expI f) raw) : ∃ ws : Ws, raw = flatW ws ∧ itW ws = expI f ∧ AllW elR ws ∧ dec elR raw = (f, offs 0 ws, 0, 0) := by
  obtain ⟨ws, e1, e2, e3⟩ := hr
  have hone : ∀ x ∈ expI f, One x ∧ Flat x := exp_flat (valE_zero h).2.2 ht
  have hall : AllW elR ws := fun w hw => by
    have hm : w.2 ∈ expI f := by rw [← e2]; exact List.mem_map.2 ⟨w, hw, rfl⟩
    exact pie_word w.2 (hone _ hm).1 (hone _ hm).2 (e3 w hw)
  refine ⟨ws, e1, e2, hall, ?_⟩
  have hlen : ws.length = lenI f := by rw [← expI_len, ← e2]; unfold itW; rw [List.length_map]
  obtain ⟨h1, h2, h3⟩ := valE_zero h
  have := mixed elR_ok hall (Tail.nil elR) (f := f) (by rw [e2, norm_exp]; exact norm_valid f h3) h1 (by rw [hlen]; exact h2)
  rw [List.append_nil] at this
  rw [e1]; exact this
end Go.Proofs.YtdbbjhbkhimbfaaGreatDoor
namespace Go.Proofs.YtdbbjhbkhimbfaaGreatDoor
open Go.ChangeShapes Go.WideShapes Go.ChangeAt Go.RowKit
set_option linter.unusedVariables false
set_option linter.unusedSimpArgs false
set_option maxRecDepth 100000

theorem rconv_byte (w : World) (c : UInt8) : (convert 50 9 (.slice (some ⟨w.heap.size, 0, none⟩) 1 1)).run Tryz.prog (w.alloc (.cells #[.int .u8 (c.toNat : Int)] 5)) = .ok (.string ⟨#[c]⟩) (w.alloc (.cells #[.int .u8 (c.toNat : Int)] 5)) :=
  Lib.run_convert_whole (P := Tryz.prog) _ 50 5 9 Tryz.underlying50 Tryz.underlying5 Tryz.underlying9 w.heap.size 0 ⟨#[c]⟩ (fun i hi => by
    have hi' : i < 1 := hi
    obtain rfl : i = 0 := by omega
    rw [Nat.zero_add, Lib.cell_of_heap (heap_alloc_new w _)]; rfl) 1
theorem byR_10 {c : UInt8} (h : ((c.toNat : Int) == 10) = true) : bsL (byR c) = ⟨#[92, 110]⟩ := by
  rw [beq_iff_eq] at h
  obtain rfl : c = 10 := UInt8.toNat_inj.1 (by show _ = 10; omega)
  rfl
theorem byR_9 {c : UInt8} (h : ((c.toNat : Int) == 9) = true) : bsL (byR c) = ⟨#[92, 116]⟩ := by
  rw [beq_iff_eq] at h
  obtain rfl : c = 9 := UInt8.toNat_inj.1 (by show _ = 9; omega)
  rfl
theorem byR_13 {c : UInt8} (h : ((c.toNat : Int) == 13) = true) : bsL (byR c) = ⟨#[92, 114]⟩ := by
  rw [beq_iff_eq] at h
  obtain rfl : c = 13 := UInt8.toNat_inj.1 (by show _ = 13; omega)
  rfl
theorem byR_92 {c : UInt8} (h : ((c.toNat : Int) == 92) = true) : bsL (byR c) = ⟨#[92]⟩ ++ ⟨#[c]⟩ := by
  rw [beq_iff_eq] at h
  obtain rfl : c = 92 := UInt8.toNat_inj.1 (by show _ = 92; omega)
  show bsL ([92] ++ [92]) = bsL [92] ++ bsL [92]
  rw [bsL_append]
theorem byR_123 {c : UInt8} (h : ((c.toNat : Int) == 123) = true) : bsL (byR c) = ⟨#[92]⟩ ++ ⟨#[c]⟩ := by
  rw [beq_iff_eq] at h
  obtain rfl : c = 123 := UInt8.toNat_inj.1 (by show _ = 123; omega)
  show bsL ([92] ++ [123]) = bsL [92] ++ bsL [123]
  rw [bsL_append]
theorem byR_else {c : UInt8} (h1 : ((c.toNat : Int) == 10) = false) (h2 : ((c.toNat : Int) == 9) = false) (h3 : ((c.toNat : Int) == 13) = false) (h4 : ((c.toNat : Int) == 92) = false) (h5 : ((c.toNat : Int) == 123) = false) : bsL (byR c) = ⟨#[c]⟩ := by
  have hn : ∀ k : UInt8, ((c.toNat : Int) == (k.toNat : Int)) = false → c ≠ k := fun k hk e => by subst e; simp at hk
  have e : byR c = [c] := by
    unfold byR
    rw [if_neg (hn 10 h1), if_neg (hn 9 h2), if_neg (hn 13 h3), if_neg (by rintro (e | e); exact hn 92 h4 e; exact hn 123 h5 e)]
  rw [e]; rfl
set_option maxHeartbeats 1600000 in
theorem byteof_ref (c : UInt8) (w : World) : Calls Tryz.prog 61 #[.int .i64 2, .int .u8 (c.toNat : Int)] w fun e w' => e = .returned (.string (bsL (byR c))) ∧ Below w.heap.size w w' := by
  have b0 : (0 : Int) ≤ (c.toNat : Int) := by omega
  have b1 : (c.toNat : Int) ≤ 255 := by have := c.toNat_lt; omega
  have hcv := rconv_byte w c
  have hB : Below w.heap.size w (w.alloc (.cells #[.int .u8 (c.toNat : Int)] 5)) := blw (Below.refl _ _) _
  have hz : ¬ (9223372036854775807 < 1 + (⟨#[c]⟩ : ByteArray).size) := by show ¬ (9223372036854775807 < 1 + 1); omega
  cases h10 : ((c.toNat : Int) == 10)
  case true =>
    have he := Lib.hid (byR_10 h10)
    go_enter Tryz.func61, Tryz.ntmps61
    go_wp2_with fail
    go_ret
    exact ⟨by rw [he.out]; rfl, hB⟩
  cases h9 : ((c.toNat : Int) == 9)
  case true =>
    have he := Lib.hid (byR_9 h9)
    go_enter Tryz.func61, Tryz.ntmps61
    go_wp2_with fail
    go_ret
    exact ⟨by rw [he.out]; rfl, hB⟩
  cases h13 : ((c.toNat : Int) == 13)
  case true =>
    have he := Lib.hid (byR_13 h13)
    go_enter Tryz.func61, Tryz.ntmps61
    go_wp2_with fail
    go_ret
    exact ⟨by rw [he.out]; rfl, hB⟩
  cases h92 : ((c.toNat : Int) == 92)
  case true =>
    have he := Lib.hid (byR_92 h92)
    go_enter Tryz.func61, Tryz.ntmps61
    go_wp2_with fail
    go_ret
    exact ⟨by rw [he.out]; rfl, hB⟩
  cases h123 : ((c.toNat : Int) == 123)
  case true =>
    have he := Lib.hid (byR_123 h123)
    go_enter Tryz.func61, Tryz.ntmps61
    go_wp2_with fail
    go_ret
    exact ⟨by rw [he.out]; rfl, hB⟩
  have he := Lib.hid (byR_else h10 h9 h13 h92 h123)
  go_enter Tryz.func61, Tryz.ntmps61
  go_wp2_with fail
  go_ret
  exact ⟨by rw [he.out]; rfl, hB⟩
end Go.Proofs.YtdbbjhbkhimbfaaGreatDoor
namespace Go.Proofs.YtdbbjhbkhimbfaaGreatDoor
open Go.ChangeShapes Go.WideShapes Go.ChangeAt Go.RowKit
set_option linter.unusedVariables false
set_option linter.unusedSimpArgs false
set_option maxRecDepth 100000

theorem tag_some {f : List It} {k : Nat} (hk : k < f.length) (h : isT (f[k]'hk).k = true) : (tagsL f).length ≠ 0 := fun e => by
  rw [no_tags e k hk] at h; cases h
theorem proper_flat {x : It} (hp : properB x = true) (h : isT x.k = false) : x.k = 1 ∨ x.k = 5 := by
  rcases proper_kinds hp with q | q | q
  · exact .inl q
  · rw [h] at q; cases q
  · exact .inr q
theorem bs_e1 (L : List UInt8) {x : It} (h : x.k = 5) : bsL L ++ (⟨#[123]⟩ ++ x.t ++ ⟨#[125]⟩) = bsL (L ++ e1R x) := by
  rw [e1R_slot h, ← bsL_append, bsL_of]
theorem bs_t (L : List UInt8) {x : It} (h : x.k = 1) : bsL (L ++ encT x.t.data.toList) = bsL (L ++ e1R x) := by rw [e1R_text h]
theorem bs_next (L : List UInt8) (s : ByteArray) (j : Nat) (h : j < s.size) : bsL (L ++ encT (s.data.toList.take j)) ++ bsL (byR s[j]) = bsL (L ++ encT (s.data.toList.take (j + 1))) := by
  rw [bsL_append, encT_next s j h, List.append_assoc]
set_option maxHeartbeats 3200000 in
theorem refencode_any (p : Option Addr) (cap : Nat) (f : List It) (w : World) (hR : Its w p f) (hO : Oks f) (hc : f.length ≤ cap) (hm : cap ≤ maxLen) :
    Calls Tryz.prog 30 #[.int .i64 2, .slice p f.length cap] w fun e w' => e = .returned (.tuple #[.string (encE f).1, .int .i64 (encE f).2]) ∧ Below w.heap.size w w' := by
  have hv := fun w hR => rvalidate_any p cap f w hR hO hc hm
  by_cases h : valE f = 0
  · have h512 := (valE_zero h).1
    have hit := fun k hk => eitem_small h k hk
    have hln := fun k hk => enc_len h k hk
    have hok : (tagsL f).length = 0 → encE f = (bsL (encR f), 0) := encE_ok h
    have hbad : (tagsL f).length ≠ 0 → encE f = (.empty, 7) := encE_tag h
    have hnt : (∀ k (hk : k < f.length), isT (f[k]'hk).k = false) → (tagsL f).length = 0 := fun hh => by
      unfold tagsL
      rw [List.length_eq_zero_iff, List.filter_eq_nil_iff]
      intro x hx
      obtain ⟨i, hi, rfl⟩ := List.mem_iff_getElem.1 hx
      simp [hh i hi]
    rw [h] at hv
    have HV := Lib.hid hv; have HI := Lib.hid hit; have HL := Lib.hid hln; have HOK := Lib.hid hok; have HBD := Lib.hid hbad; have HNT := Lib.hid hnt
    clear hv hit hln hok hbad hnt h
    unfold maxLen at hm
    go_enter Tryz.func30, Tryz.ntmps30
    go_wp2_with fail
    refine (HV.out _ hR).mono ?_; rintro e w1 ⟨rfl, hb⟩
    go_wp2_with fail
    go_loopw [7, 18] (fun v i wr => ∃ (k : Nat), k ≤ f.length ∧ i = .int .i64 k ∧ v = .string (bsL (encR (f.take k))) ∧ (∀ j (hj : j < f.length), j < k → isT (f[j]'hj).k = false) ∧ Below w.heap.size w wr) (fun _ i _ => f.length - (intOf i).toNat)
    case atStart => exact ⟨0, Nat.zero_le _, rfl, rfl, fun j _ h => absurd h (Nat.not_lt_zero j), hb⟩
    case round =>
      obtain ⟨k, hk, rfl, rfl, hNo, hB⟩ := hrel
      have hNO := Lib.hid hNo
      clear hNo
      by_cases hlt : k < f.length
      · obtain ⟨ad, rfl, had, c0, c1, c2⟩ := (hR.call hB).row k hlt
        obtain ⟨hp, hts⟩ := HI.out k hlt
        have hl := HL.out k hk
        have hn := encR_next f k hlt
        have htg : isT (f[k]'hlt).k = true → encE f = (.empty, 7) := fun q => HBD.out (tag_some hlt q)
        have hno2 : isT (f[k]'hlt).k = false → ∀ j (hj : j < f.length), j < k + 1 → isT (f[j]'hj).k = false := fun q j hj hjk => by
          by_cases e : j = k
          · subst e; exact q
          · exact hNO.out j hj (by omega)
        generalize f[k] = x at *
        generalize encR (f.take k) = L at *
        have hfl : isT x.k = false → x.k = 1 ∨ x.k = 5 := proper_flat hp
        have HN := Lib.hid hn; have HTG := Lib.hid htg; have HNO2 := Lib.hid hno2; have HFL := Lib.hid hfl
        clear hn htg hno2 hp hfl
        have V := Var3.new wr x.k x.t x.id
        have hB1 := blw hB (.cells #[.int .i64 x.k, .string x.t, .int .i64 x.id] 43)
        obtain ⟨v0, v1, v2, vl⟩ := id V
        have ht := fun W => ristag_any x.k x.t x.id W
        cases hq : isT x.k
        case true =>
          have he := HTG.out hq
          have HE := Lib.hid he
          rw [hq] at ht
          have HT := Lib.hid ht
          clear he ht hq V
          go_wp2_with fail
          refine (HT.out _).mono ?_; rintro e w2 ⟨rfl, hb2⟩
          go_wp2_with fail
          go_ret2
          exact ⟨by rw [HE.out]; rfl, BelowOn hB1 hb2⟩
        case false =>
          have hkd := HFL.out hq
          have hno3 := HNO2.out hq
          have HN3 := Lib.hid hno3
          rw [hq] at ht
          have HT := Lib.hid ht
          clear ht hq hno3
          rcases hkd with h1 | h5
          · have q1 : (x.k == 1) = true := by rw [h1]; rfl
            have hfin := bs_t L h1
            have HF := Lib.hid hfin
            clear hfin h1
            go_wp2_with fail
            refine (HT.out _).mono ?_; rintro e w2 ⟨rfl, hb2⟩
            have V2 := V.call hb2
            have hB2 := BelowOn hB1 hb2
            clear V v0 v1 v2 vl
            obtain ⟨v0, v1, v2, vl⟩ := id V2
            go_wp2_with fail
            go_loopw [7, 10] (fun v i wi => ∃ (j : Nat), j ≤ x.t.size ∧ i = .int .i64 j ∧ v = .string (bsL (L ++ encT (x.t.data.toList.take j))) ∧ Var3 wi wr.heap.size x.k x.t x.id ∧ Below w.heap.size w wi) (fun _ i _ => x.t.size - (intOf i).toNat)
            case atStart => exact ⟨0, Nat.zero_le _, rfl, by simp [encT], V2, hB2⟩
            case round =>
              obtain ⟨j, hj, rfl, rfl, V3, hB3⟩ := hrel
              obtain ⟨v0, v1, v2, vl⟩ := id V3
              by_cases hjl : j < x.t.size
              · have hnx := bs_next L x.t j hjl
                have htl := encT_take x.t j (by omega)
                have hbl := byR_len x.t[j]
                have hz : ¬ (9223372036854775807 < (bsL (L ++ encT (x.t.data.toList.take j))).size + (bsL (byR x.t[j])).size) := by
                  rw [bsL_size, bsL_size, List.length_append]; omega
                have hbo := fun W => byteof_ref x.t[j] W
                have HB0 := Lib.hid hbo; have HX := Lib.hid hnx
                clear hbo hnx htl hbl
                generalize bsL (L ++ encT (x.t.data.toList.take j)) = S at *
                generalize hU : bsL (byR x.t[j]) = U at *
                clear hU
                go_wp2_with fail
                refine (HB0.out _).mono ?_; rintro e w4 ⟨rfl, hb4⟩
                go_wp2_with fail
                go_roundw
                case rel => exact ⟨j + 1, hjl, by go_num, by rw [← HX.out], V3.call hb4, BelowOn hB3 hb4⟩
                case measure => simp [intOf]; omega
              · have hj' : x.t.data.toList.take j = x.t.data.toList := List.take_of_length_le (by simp; omega)
                rw [hj', HF.out]
                go_wp2_with fail
                go_roundw
                case rel => exact ⟨k + 1, hlt, by go_num, by rw [HN.out], fun j hj hjk => HN3.out j hj hjk, hB3⟩
                case measure => simp [intOf]; omega
          · have q5 : (x.k == 5) = true := by rw [h5]; rfl
            have q1 : (x.k == 1) = false := by rw [h5]; rfl
            have q2 : (x.k == 2) = false := by rw [h5]; rfl
            have q3 : (x.k == 3) = false := by rw [h5]; rfl
            have q4 : (x.k == 4) = false := by rw [h5]; rfl
            have hfin := bs_e1 L h5
            have HF := Lib.hid hfin
            have s1 : (⟨#[123]⟩ : ByteArray).size = 1 := rfl
            have s2 : (⟨#[125]⟩ : ByteArray).size = 1 := rfl
            have z0 : (bsL L).size = L.length := bsL_size L
            have z1 : ¬ (9223372036854775807 < 1 + x.t.size) := by omega
            have z2 : ¬ (9223372036854775807 < (⟨#[123]⟩ ++ x.t : ByteArray).size + 1) := by
              rw [ByteArray.size_append, s1]; omega
            have z3 : ¬ (9223372036854775807 < (bsL L).size + ((⟨#[123]⟩ ++ x.t ++ ⟨#[125]⟩ : ByteArray)).size) := by
              rw [ByteArray.size_append, ByteArray.size_append, s1, s2]; omega
            clear hfin h5 s1 s2 z0
            generalize bsL L = S at *
            go_wp2_with fail
            refine (HT.out _).mono ?_; rintro e w2 ⟨rfl, hb2⟩
            have V2 := V.call hb2
            have hB2 := BelowOn hB1 hb2
            clear V v0 v1 v2 vl
            obtain ⟨v0, v1, v2, vl⟩ := id V2
            go_wp2_with fail
            go_roundw
            case rel => exact ⟨k + 1, hlt, by go_num, by rw [HN.out, ← HF.out], fun j hj hjk => HN3.out j hj hjk, hB2⟩
            case measure => simp [intOf]; omega
      · obtain rfl : k = f.length := by omega
        have he := HOK.out (HNT.out (fun j hj => hNO.out j hj hj))
        have HE := Lib.hid he
        clear he
        rw [List.take_length]
        go_wp2_with fail
        go_ret2
        exact ⟨by rw [HE.out]; rfl, hB⟩
  · rw [encE_bad h]
    have q : (valE f == 0) = false := by simpa using h
    have HV := Lib.hid hv
    clear hv h
    generalize valE f = E at *
    go_enter Tryz.func30, Tryz.ntmps30
    go_wp2_with fail
    refine (HV.out _ hR).mono ?_; rintro e w1 ⟨rfl, hb⟩
    go_wp2_with fail
    go_ret2
    exact ⟨rfl, hb⟩
end Go.Proofs.YtdbbjhbkhimbfaaGreatDoor
namespace Go.Proofs.YtdbbjhbkhimbfaaGreatDoor
open Go.ChangeShapes Go.WideShapes Go.ChangeAt Go.RowKit
set_option linter.unusedVariables false
theorem Its.past {W w1 : World} {p : Option Addr} {l : List It} {row : Option Nat} (h : Its W p l) (hg : W.grownBy w1 row) (hn : ∀ a, p = some a → row ≠ some a.block) : Its w1 p l := fun h0 => by
  obtain ⟨a, ha, hlt, _⟩ := h h0
  refine (h.keep hg.size (fun b hb => ?_)) h0
  refine hg.block _ ?_ (fun e => hn b hb e.symm)
  rw [ha] at hb; injection hb with hb; subst hb; exact hlt
end Go.Proofs.YtdbbjhbkhimbfaaGreatDoor
namespace Go.Proofs.YtdbbjhbkhimbfaaGreatDoor
set_option linter.unusedVariables false

section
variable {P : Program} {ops : Array Oper} {Q : Exit → Act → World → Prop} {md : Region.Mode} {S : World → Prop}
/-- In this state the operation calls a function that answers v and leaves every world that meets S as it was. -/
def QuietAt (P : Program) (ops : Array Oper) (S : World → Prop) (o : Oper) (v : Value) (a : Act) : Prop :=
  Region.wanted o (yielded ops a.tmps) = true ∧ ∀ w, S w → ∃ f args, (execOp a.eval o).run P w = .ok (.enter f args) w ∧ Calls P f args w (fun e w' => e = .returned v ∧ w' = w)
theorem eval_of_tmps {a b : Act} (h : a.tmps = b.tmps) : a.eval = b.eval := by
  funext x
  cases x <;> simp [Act.eval, h]
/-- Behind an operation the state has turned in its own temporary alone. -/
theorem wpOp_shape {j : Nat} {oj : Oper} (hj : ops[j]? = some oj) {K : Act → World → Prop} {a : Act} {w : World} (h : wpOp P ops Q j K a w) : wpOp P ops Q j (fun a' w' => (∃ u, a'.tmps = (a.put oj.dst u).tmps) ∧ K a' w') a w := by
  unfold wpOp at h ⊢
  simp only [hj] at h ⊢
  by_cases hw : Region.wanted oj (yielded ops a.tmps) = true
  · rw [if_pos hw] at h ⊢
    refine h.imp (fun h => ?_) id
    unfold Oper.wp at h ⊢
    generalize (execOp a.eval oj).run P w = r at h ⊢
    cases r with
    | halt x w' => cases x <;> simp only [Oper.upon] at h ⊢ <;> exact h
    | ok n w' =>
      cases n <;> simp only [Oper.upon] at h ⊢
      case value u => exact ⟨⟨u, rfl⟩, h⟩
      case skip => exact ⟨⟨undef, rfl⟩, h⟩
      case defer d => exact ⟨⟨undef, by cases hd : oj.dst <;> simp [Act.put]⟩, h⟩
      case enter f args =>
        refine Calls.mono h fun e w'' he => ?_
        cases e with
        | returned u => exact ⟨⟨u, rfl⟩, he⟩
        | panicked c => exact he
        | outgrown => exact he
      case row r args => exact Rows.mono h fun u w'' he => ⟨⟨u, rfl⟩, he⟩
  · rw [if_neg hw] at h ⊢
    exact ⟨⟨undef, rfl⟩, h⟩
theorem QuietAt.run {i : Nat} {o : Oper} {v : Value} {a : Act} (hi : ops[i]? = some o) (hy : QuietAt P ops S o v a) {K : Act → World → Prop} {w : World} (hS : S w) (h : K (a.put o.dst v) w) : wpOp P ops Q i K a w := by
  obtain ⟨hw, hv⟩ := hy
  obtain ⟨f, args, hr, hc⟩ := hv w hS
  unfold wpOp
  simp only [hi]
  rw [if_pos hw]
  refine .inl ?_
  unfold Oper.wp
  rw [hr]
  exact Calls.mono hc fun e w' ⟨he, hw'⟩ => by subst he; subst hw'; exact h
theorem wpAnyH_quiet0 {i : Nat} {oi : Oper} {v : Value} (hi : ops[i]? = some oi) (hsel : ∀ (j : Nat) (o : Oper) cs b, ops[j]? = some o → o.op ≠ .select cs b) (hQ : ∀ c a w, Q (.panic c) (a.put oi.dst v) w → Q (.panic c) a w) :
    ∀ (fuel : Nat) (listed : Array Bool) (a : Act) (w : World), (∀ j oj, ops[j]? = some oj → j ≠ i → listed.getD j true = false → (∀ e ∈ oj.after, Region.binds md e = true → e.on ≠ i) → oi.apart ops oj = true) →
      i ∈ Region.ready md ops listed → QuietAt P ops S oi v a → S w → wpAnyH P md ops Q S fuel (listed.setIfInBounds i true) (a.put oi.dst v) w → wpAnyH P md ops Q S (fuel + 1) listed a w := by
  intro fuel
  induction fuel with
  | zero =>
    intro listed a w _ hr hy hS H
    refine ⟨fun h => by rw [h] at hr; (cases hr), fun j hj => ?_⟩
    by_cases e : j = i
    · subst e; exact hy.run hi hS ⟨hS, H⟩
    · have hj' := ready_mono hj e
      rw [H.1] at hj'; cases hj'
  | succ fuel ih =>
    intro listed a w hfree hr hy hS H
    refine ⟨fun h => by rw [h] at hr; (cases hr), fun j hj => ?_⟩
    by_cases e : j = i
    · subst e; exact hy.run hi hS ⟨hS, H⟩
    obtain ⟨hun, oj, hoj, hall⟩ := mem_ready.1 hj
    have hno : ∀ e ∈ oj.after, Region.binds md e = true → e.on ≠ i := fun x hx hb he => by
      have h1 := hall x hx hb
      have h0 := (mem_ready.1 hr).1
      rw [he] at h1
      rcases Nat.lt_or_ge i listed.size with hlt | hge
      · simp [hlt] at h0 h1; rw [h0] at h1; cases h1
      · simp [Array.getElem?_eq_none hge] at h1
    have hap := hfree j oj hoj e hun hno
    obtain ⟨_, _, h3⟩ := Oper.apart_spec hap
    have h1 := wpOp_putIf (S := fun _ => False) hoj hap (fun cs b => hsel i oi cs b hi) (fun cs b => hsel j oj cs b hoj) hQ (.inl ⟨hy.1, fun _ h => h.elim⟩) (H.2 j (ready_mono hj e))
    refine wpOp_mono (fun a' w' h => ?_) (wpOp_shape hoj h1)
    obtain ⟨⟨u, hu⟩, _, hS', hW⟩ := h
    have hq : QuietAt P ops S oi v a' := by
      unfold QuietAt at hy ⊢
      rw [hu, wanted_put oi a oj.dst u h3, eval_of_tmps hu, execOp_put oi (fun cs b => hsel i oi cs b hi) a oj.dst u h3]
      exact hy
    refine ⟨hS', ih (listed.setIfInBounds j true) a' w' (fun k ok hk hki hku hkn => hfree k ok hk hki ?_ hkn) (ready_mono hr (Ne.symm e)) hq hS' ?_⟩
    · by_cases hjk : j = k
      · subst hjk; exact hun
      · rw [getD_set_ne true hjk] at hku; exact hku
    · rw [Array.setIfInBounds_comm _ _ e]; exact hW
/-- Take a quiet call first. -/
theorem wpAnyH_quiet {i : Nat} {oi : Oper} {v : Value} {fuel : Nat} {listed : Array Bool} {a : Act} {w : World} (hi : ops[i]? = some oi) (hs : Region.noSelect ops = true) (hf : Region.free md ops listed i = true) (hr : (Region.ready md ops listed).contains i = true)
    (hQ : ∀ c a w, Q (.panic c) (a.put oi.dst v) w → Q (.panic c) a w) (hy : QuietAt P ops S oi v a) (hS : S w) (h : wpAnyH P md ops Q S fuel (listed.setIfInBounds i true) (a.put oi.dst v) w) : wpAnyH P md ops Q S (fuel + 1) listed a w :=
  wpAnyH_quiet0 hi (Region.noSelect_spec hs) hQ fuel listed a w (Region.free_spec hi hf) (by simpa using hr) hy hS h
end
open Go.ChangeShapes Go.WideShapes Go.ChangeAt Go.RowKit
theorem wpAnyH_mono {P : Program} {md : Region.Mode} {ops : Array Oper} {Q : Exit → Act → World → Prop} {S S' : World → Prop} (hS : ∀ w, S' w → S w) : ∀ (fuel : Nat) (listed : Array Bool) (a : Act) (w : World), wpAnyH P md ops Q S' fuel listed a w → wpAnyH P md ops Q S fuel listed a w
  | 0, _, _, _, h => h
  | fuel + 1, _, _, _, h => ⟨h.1, fun i hi => wpOp_mono (fun a' w' h' => ⟨hS _ h'.1, wpAnyH_mono hS fuel _ a' w' h'.2⟩) (h.2 i hi)⟩
theorem carry_next {W W' : World} {a b : Nat} {o : Obj} (h : W.heap[a]? = some o) (hg : W.grownBy W' (some b)) (hne : a ≠ b) : W'.heap[a]? = some o := (hg.block a (Array.getElem?_eq_some_iff.1 h).1 (fun e => hne (Option.some.inj e))).trans h
theorem carry_alloc {W : World} {a : Nat} {o : Obj} (h : W.heap[a]? = some o) (o' : Obj) : (W.alloc o').heap[a]? = some o := (Lib.alloc_old W o' a (Array.getElem?_eq_some_iff.1 h).1).trans h
theorem heap_at {W : World} {n : Nat} (h : W.heap.size = n) (o : Obj) : (W.alloc o).heap[n]? = some o := by rw [← h]; exact heap_alloc_new W o
end Go.Proofs.YtdbbjhbkhimbfaaGreatDoor
namespace Go.Proofs.YtdbbjhbkhimbfaaGreatDoor
open Go.ChangeShapes Go.WideShapes Go.ChangeAt Go.RowKit
set_option linter.unusedVariables false
set_option linter.unusedSimpArgs false
set_option maxRecDepth 100000

theorem refkeybyte_any (c : UInt8) (w : World) : Calls Tryz.prog 48 #[.int .u8 (c.toNat : Int)] w fun e w' => e = .returned (.bool (keyB c)) ∧ w = w' := by
  have hlt := c.toNat_lt
  have h0 : (0 : Int) ≤ (c.toNat : Int) := by omega
  have h1 : (c.toNat : Int) ≤ 255 := by omega
  have hk : keyB c = decide ((97 ≤ (c.toNat : Int) ∧ (c.toNat : Int) ≤ 122) ∨ (48 ≤ (c.toNat : Int) ∧ (c.toNat : Int) ≤ 57) ∨ (c.toNat : Int) = 46 ∨ (c.toNat : Int) = 95 ∨ (c.toNat : Int) = 45) := by
    unfold keyB
    rw [Bool.eq_iff_iff]
    simp only [Bool.or_eq_true, decide_eq_true_eq]
    omega
  rw [hk]
  generalize (c.toNat : Int) = n at *
  clear hk hlt
  go_enter Tryz.func48, Tryz.ntmps48
  go_wp2
  all_goals go_ret
  all_goals refine ⟨ret_bool ?_, rfl⟩
  all_goals first | (rw [Bool.eq_iff_iff]; simp <;> omega) | (symm; simp <;> omega) | (simp <;> omega)

theorem upto_self (c : UInt8) (r : List UInt8) : upto c (c :: r) = [] := by unfold upto; rw [List.takeWhile_cons, if_neg (by simp)]
theorem upto_cons (c d : UInt8) (r : List UInt8) (h : d ≠ c) : upto c (d :: r) = d :: upto c r := by unfold upto; rw [List.takeWhile_cons, if_pos (by simpa using h)]
theorem key_ne {a b : ByteArray} (h : ¬ a = b) : (a.toList == b.toList) = false := by
  rw [beq_eq_false_iff_ne, Go.ByteArray.toList_eq, Go.ByteArray.toList_eq]
  intro e; exact h (by rw [← bsL_of a, e, bsL_of])
theorem hasK_cons (p : Pt) (ps : List Pt) (key : ByteArray) : hasK (p :: ps) key = ((p.u && decide (p.key = key)) || hasK ps key) := by unfold hasK; rw [List.any_cons]
theorem hasK_drop (ps : List Pt) (key : ByteArray) (k : Nat) (h : k < ps.length) : hasK (ps.drop k) key = (((ps[k]'h).u && decide ((ps[k]'h).key = key)) || hasK (ps.drop (k + 1)) key) := by
  rw [List.drop_eq_getElem_cons h, hasK_cons]
set_option maxHeartbeats 1600000 in
theorem refhaskey_any (p : Option Addr) (cap : Nat) (l : List Pt) (key : ByteArray) (w : World) (hR : Pts w p l) (hc : l.length ≤ cap) (hm : cap ≤ maxLen) :
    Calls Tryz.prog 49 #[.slice p l.length cap, .string key] w fun e w' => e = .returned (.bool (hasK l key)) ∧ w = w' := by
  unfold maxLen at hm
  obtain ⟨R, hRR⟩ : ∃ R, hasK l key = R := ⟨_, rfl⟩
  have h0 : hasK (l.drop 0) key = R := hRR
  have HR := Lib.hid h0
  rw [hRR]
  clear hRR h0
  go_enter Tryz.func49, Tryz.ntmps49
  go_wp2_with fail
  go_loop [8] (fun i => ∃ k : Nat, k ≤ l.length ∧ i = .int .i64 k ∧ Hid (hasK (l.drop k) key = R)) (fun i => l.length - (intOf i).toNat)
  case atStart => exact ⟨0, Nat.zero_le _, rfl, HR⟩
  case round =>
    obtain ⟨k, hk, rfl, HK⟩ := hrel
    by_cases hlt : k < l.length
    · obtain ⟨a, rfl, ha, c0, c1, c2⟩ := hR.row k hlt
      have hd := hasK_drop l key k hlt
      generalize l[k]'hlt = x at *
      cases hu : x.u
      · rw [hu] at c0 hd
        have HD := Lib.hid (show hasK (l.drop (k + 1)) key = R by rw [← HK.out, hd]; simp)
        clear hd
        go_wp2_with fail
        go_round
        case rel => exact ⟨k + 1, hlt, by go_num, HD⟩
        case measure => simp [intOf]; omega
      · rw [hu] at c0 hd
        by_cases hkk : x.key = key
        · have hR1 : R = true := by rw [← HK.out, hd, decide_eq_true hkk]; rfl
          rw [hkk] at c1
          clear hd
          go_wp2_with fail
          go_ret
          first | exact ⟨rfl, rfl⟩ | exact ⟨ret_bool hR1.symm, rfl⟩
        · have HD := Lib.hid (show hasK (l.drop (k + 1)) key = R by rw [← HK.out, hd, decide_eq_false hkk]; simp)
          have q := key_ne hkk
          clear hd
          go_wp2_with fail
          go_round
          case rel => exact ⟨k + 1, hlt, by go_num, HD⟩
          case measure => simp [intOf]; omega
    · obtain rfl : k = l.length := by omega
      have hR1 : R = false := by rw [← HK.out, List.drop_length]; rfl
      go_wp2_with fail
      go_ret
      first | exact ⟨rfl, rfl⟩ | exact ⟨ret_bool hR1.symm, rfl⟩

/-- The end of a line, with backslashes that take a byte along. -/
theorem rawL_step (s : ByteArray) (k : Nat) (h : k < s.size) : (s[k] = 10 → rawL (restD s k) = 0) ∧ (s[k] = 92 → min k s.size + rawL (restD s k) = min (k + 2) s.size + rawL (restD s (k + 2))) ∧ (s[k] ≠ 10 → s[k] ≠ 92 → rawL (restD s k) = 1 + rawL (restD s (k + 1))) := by
  have hd : restD s k = s[k] :: restD s (k + 1) := by unfold restD; exact drop_get s k h
  refine ⟨fun e => by rw [hd, e, rawL_10], fun e => ?_, fun e1 e2 => by rw [hd, rawL_c _ _ e1 e2]⟩
  rw [hd, e]
  by_cases h1 : k + 1 < s.size
  · have hd1 : restD s (k + 1) = s[k + 1] :: restD s (k + 2) := by unfold restD; exact drop_get s (k + 1) h1
    rw [hd1, rawL_92]; omega
  · have hd1 : restD s (k + 1) = [] := by unfold restD; exact List.drop_of_length_le (by simp; omega)
    have hd2 : restD s (k + 2) = [] := by unfold restD; exact List.drop_of_length_le (by simp; omega)
    rw [hd1, hd2, rawL_92e, rawL_nil]; omega
set_option maxHeartbeats 1600000 in
theorem reflineend_raw (s : ByteArray) (p : Nat) (w : World) (hs : s.size ≤ 1000000000000) (hp : p ≤ s.size) :
    Calls Tryz.prog 47 #[.string s, .int .i64 p, .bool true] w fun e w' => e = .returned (.int .i64 ((p + rawL (restD s p) : Nat) : Int)) ∧ w = w' := by
  obtain ⟨T, hT⟩ : ∃ T, p + rawL (restD s p) = T := ⟨_, rfl⟩
  have h0 : min p s.size + rawL (restD s p) = T := by rw [Nat.min_eq_left hp]; exact hT
  have hst := fun k h => rawL_step s k h
  have HT := Lib.hid h0; have HS := Lib.hid hst
  rw [hT]
  clear hT h0 hst
  go_enter Tryz.func47, Tryz.ntmps47
  go_wp2_with fail
  go_loop [1] (fun i => ∃ k : Nat, k ≤ s.size + 1 ∧ i = .int .i64 k ∧ Hid (min k s.size + rawL (restD s k) = T)) (fun i => s.size + 1 - (intOf i).toNat)
  case atStart => exact ⟨p, by omega, rfl, HT⟩
  case round =>
    obtain ⟨k, hk, rfl, HK⟩ := hrel
    have i0 : (0 : Int) ≤ (k : Int) := by omega
    by_cases hlt : k < s.size
    · obtain ⟨s1, s2, s3⟩ := HS.out k hlt
      have i2 : (k : Int) < (s.size : Int) := by omega
      by_cases h10 : s[k] = 10
      · have hTk : T = k := by rw [← HK.out, s1 h10]; omega
        have q : ((s[k].toNat : Int) != 10) = false := by rw [h10]; rfl
        have q' : ((s[k].toNat : Int) == 10) = true := by rw [h10]; rfl
        have hmn : min (k : Int) (s.size : Int) = (k : Int) := by omega
        clear s1 s2 s3
        go_wp2_with fail
        go_ret
        exact ⟨ret_int (by omega), rfl⟩
      · have q : ((s[k].toNat : Int) != 10) = true := by simp; exact fun e => h10 (UInt8.toNat_inj.1 (by show _ = 10; omega))
        have q' : ((s[k].toNat : Int) == 10) = false := u8_int_ne h10
        by_cases h92 : s[k] = 92
        · have q2 : ((s[k].toNat : Int) == 92) = true := by rw [h92]; rfl
          have HD := Lib.hid ((s2 h92).symm.trans HK.out)
          clear s1 s2 s3
          go_wp2_with fail
          go_round
          case rel => exact ⟨k + 2, by omega, by go_num, HD⟩
          case measure => simp [intOf]; omega
        · have q2 : ((s[k].toNat : Int) == 92) = false := u8_int_ne h92
          have HD := Lib.hid (show min (k + 1) s.size + rawL (restD s (k + 1)) = T by rw [← HK.out, s3 h10 h92]; omega)
          clear s1 s2 s3
          go_wp2_with fail
          go_round
          case rel => exact ⟨k + 1, by omega, by go_num, HD⟩
          case measure => simp [intOf]; omega
    · have hTk : T = s.size := by
        have : restD s k = [] := by unfold restD; exact List.drop_of_length_le (by simp; omega)
        rw [← HK.out, this, rawL_nil]; omega
      have hmn : min (k : Int) (s.size : Int) = (s.size : Int) := by omega
      have i1 : ¬ (k : Int) < (s.size : Int) := by omega
      go_wp2_with fail
      go_ret
      exact ⟨ret_int (by omega), rfl⟩
set_option maxHeartbeats 1600000 in
theorem reflineend_line (s : ByteArray) (p : Nat) (w : World) (hs : s.size ≤ 1000000000000) (hp : p ≤ s.size) :
    Calls Tryz.prog 47 #[.string s, .int .i64 p, .bool false] w fun e w' => e = .returned (.int .i64 ((p + (upto 10 (restD s p)).length : Nat) : Int)) ∧ w = w' := by
  obtain ⟨T, hT⟩ : ∃ T, p + (upto 10 (restD s p)).length = T := ⟨_, rfl⟩
  have hst : ∀ k (h : k < s.size), (s[k] = 10 → (upto 10 (restD s k)).length = 0) ∧ (s[k] ≠ 10 → (upto 10 (restD s k)).length = 1 + (upto 10 (restD s (k + 1))).length) := fun k h => by
    have hd : restD s k = s[k] :: restD s (k + 1) := by unfold restD; exact drop_get s k h
    rw [hd]
    refine ⟨fun e => by rw [e, upto_self]; rfl, fun e => by rw [upto_cons _ _ _ e]; simp; omega⟩
  have HT := Lib.hid hT; have HS := Lib.hid hst
  rw [hT]
  clear hT hst
  go_enter Tryz.func47, Tryz.ntmps47
  go_wp2_with fail
  go_loop [1] (fun i => ∃ k : Nat, k ≤ s.size ∧ i = .int .i64 k ∧ Hid (k + (upto 10 (restD s k)).length = T)) (fun i => s.size - (intOf i).toNat)
  case atStart => exact ⟨p, by omega, rfl, HT⟩
  case round =>
    obtain ⟨k, hk, rfl, HK⟩ := hrel
    have i0 : (0 : Int) ≤ (k : Int) := by omega
    by_cases hlt : k < s.size
    · obtain ⟨s1, s3⟩ := HS.out k hlt
      have i2 : (k : Int) < (s.size : Int) := by omega
      by_cases h10 : s[k] = 10
      · have hTk : T = k := by rw [← HK.out, s1 h10]; omega
        have q : ((s[k].toNat : Int) != 10) = false := by rw [h10]; rfl
        have q' : ((s[k].toNat : Int) == 10) = true := by rw [h10]; rfl
        have hmn : min (k : Int) (s.size : Int) = (k : Int) := by omega
        clear s1 s3
        go_wp2_with fail
        go_ret
        exact ⟨ret_int (by omega), rfl⟩
      · have q : ((s[k].toNat : Int) != 10) = true := by simp; exact fun e => h10 (UInt8.toNat_inj.1 (by show _ = 10; omega))
        have q' : ((s[k].toNat : Int) == 10) = false := u8_int_ne h10
        have HD := Lib.hid (show k + 1 + (upto 10 (restD s (k + 1))).length = T by rw [← HK.out, s3 h10]; omega)
        clear s1 s3
        go_wp2_with fail
        go_round
        case rel => exact ⟨k + 1, by omega, by go_num, HD⟩
        case measure => simp [intOf]; omega
    · obtain rfl : k = s.size := by omega
      have hTk : T = s.size := by
        have : restD s s.size = [] := by unfold restD; exact List.drop_of_length_le (by simp)
        rw [← HK.out, this]; rfl
      have hmn : min (s.size : Int) (s.size : Int) = (s.size : Int) := by omega
      go_wp2_with fail
      go_ret
      exact ⟨ret_int (by omega), rfl⟩
end Go.Proofs.YtdbbjhbkhimbfaaGreatDoor
namespace Go.Proofs.YtdbbjhbkhimbfaaGreatDoor
open Go.ChangeShapes Go.WideShapes Go.ChangeAt Go.RowKit
set_option linter.unusedVariables false
set_option linter.unusedSimpArgs false
set_option maxRecDepth 100000

theorem bs_drop1 (c : UInt8) (t : List UInt8) : (bsL (c :: t)).extract 1 (bsL (c :: t)).size = bsL t := by
  rw [← bsL_of ((bsL (c :: t)).extract 1 _), extract_drop, bsL_list, bsL_list]; rfl
set_option maxHeartbeats 1600000 in
theorem shield_any (T : List UInt8) (w : World) (hs : T.length ≤ 1000000) : Calls Tryz.prog 62 #[.string (bsL T)] w fun e w' => e = .returned (.string (bsL (shR T))) ∧ w = w' := by
  cases T with
  | nil =>
    show Calls Tryz.prog 62 #[.string ⟨#[]⟩] w fun e w' => e = .returned (.string ⟨#[]⟩) ∧ w = w'
    go_enter Tryz.func62, Tryz.ntmps62
    go_wp2_with fail
    go_ret
    exact ⟨rfl, rfl⟩
  | cons c t =>
    have hpos : 0 < (bsL (c :: t)).size := by rw [bsL_size]; simp
    have hne : (bsL (c :: t)).toList.isEmpty = false := by rw [Go.ByteArray.toList_eq]; rfl
    have h0 : (bsL (c :: t))[0]'hpos = c := rfl
    have hsz : (bsL (c :: t)).size ≤ 1000000 := by rw [bsL_size]; exact hs
    by_cases h32 : c = 32
    · subst h32
      have hes : bsL (shR (32 :: t)) = (⟨#[92, 115]⟩ : ByteArray) ++ (bsL (32 :: t)).extract 1 (bsL (32 :: t)).size := by
        rw [bs_drop1]
        show bsL ([92, 115] ++ t) = _
        rw [← bsL_append]; rfl
      have q32 : ((((bsL (32 :: t))[0]'hpos).toNat : Int) == 32) = true := by rw [h0]; rfl
      have HES := Lib.hid hes
      clear hes h0
      have hz5 : ¬ (9223372036854775807 < 2 + ((bsL (32 :: t)).extract 1 (bsL (32 :: t)).size).size) := by simp; omega
      have h1s : (1 : Int) ≤ ((bsL (32 :: t)).size : Int) := by omega
      generalize hSE : bsL (shR (32 :: t)) = SB at *
      clear hSE
      generalize bsL (32 :: t) = S2 at *
      go_enter Tryz.func62, Tryz.ntmps62
      go_wp2_with fail
      go_ret
      exact ⟨ret_str HES.out.symm, rfl⟩
    · have hes : bsL (shR (c :: t)) = bsL (c :: t) := by
        unfold shR; rw [if_neg (by simpa using h32)]
      have q32 : ((((bsL (c :: t))[0]'hpos).toNat : Int) == 32) = false := by
        rw [h0, beq_eq_false_iff_ne]; intro e; apply h32; apply UInt8.toNat_inj.1; show _ = 32; omega
      rw [hes]
      clear hes h0 h32
      generalize bsL (c :: t) = SB at *
      go_enter Tryz.func62, Tryz.ntmps62
      go_wp2_with fail
      go_ret
      exact ⟨rfl, rfl⟩
def gapB : List ByteArray := [⟨#[]⟩, ⟨#[32]⟩, ⟨#[9, 32]⟩]
theorem gapB_any (k : Nat) (hk : k < 3) : ∃ g, GapR g ∧ pickB gapB k = bsL g := by
  have : k = 0 ∨ k = 1 ∨ k = 2 := by omega
  rcases this with rfl | rfl | rfl
  · exact ⟨[], .inl rfl, rfl⟩
  · exact ⟨[32], .inr (.inl rfl), rfl⟩
  · exact ⟨[9, 32], .inr (.inr rfl), rfl⟩
/-- What longer makes of an item's bytes. -/
def LngR (y : It) (T t : List UInt8) : Prop := (y.k = 1 ∧ y.t = ⟨#[32]⟩ ∧ t = [92, 115]) ∨ ∃ g, GapR g ∧ t = 92 :: 10 :: (g ++ shR T)
def EndL (b : Nat) (p : Option Addr) (cap : Nat) (L : List Int) (m : Nat) (P : List UInt8 → Prop) (w : World) (e : Ending) (w' : World) : Prop := ∃ t m', e = .returned (.string (bsL t)) ∧ P t ∧ m' ≤ m + 1 ∧ w.grownBy w' (some b) ∧ NumsAt w' b p cap L m'
set_option maxHeartbeats 3200000 in
theorem longer_any (b : Nat) (p : Option Addr) (cap : Nat) (L : List Int) (m : Nat) (y : It) (T : List UInt8) (w : World) (h : NumsAt w b p cap L m) (hm : m ≤ 900000) (hT : T.length ≤ 100000) :
    Calls Tryz.prog 31 #[.pointer (some ⟨b, 0, none⟩), .int .i64 2, .agg #[.int .i64 y.k, .string y.t, .int .i64 y.id], .string (bsL T)] w (EndL b p cap L m (LngR y T) w) := by
  obtain ⟨yk, yt, yi⟩ := y
  obtain ⟨v0, v1, v2, v3⟩ := Var3.new w yk yt yi
  have hal := h.call (blw (Below.refl _ _) (.cells #[.int .i64 yk, .string yt, .int .i64 yi] 43))
  have hca := chg_below (b := b) (blw (Below.refl w.heap.size w) (.cells #[.int .i64 yk, .string yt, .int .i64 yi] 43))
  by_cases hsp : yt = ⟨#[32]⟩ ∧ yk = 1
  · obtain ⟨rfl, rfl⟩ := hsp
    have HR := Lib.hid (show LngR ⟨1, ⟨#[32]⟩, yi⟩ T [92, 115] from .inl ⟨rfl, rfl, rfl⟩)
    dsimp only
    go_enter Tryz.func31, Tryz.ntmps31
    go_wp2_with fail
    go_ret
    exact ⟨[92, 115], m, rfl, HR.out, by omega, hca, hal⟩
  · have hn := fun W h => next_any b p cap L m 3 3 rfl W h (by omega) (by omega) (by omega)
    have hk := nx_lt L m 3 (by omega)
    obtain ⟨g, hgr, hpk⟩ := gapB_any (nx L m 3) hk
    generalize nx L m 3 = k at *
    have hk3 : (k : Int) < 3 := by omega
    have hsh := fun W => shield_any T W (by omega)
    have hsl := shR_len T
    have hs1 : (bsL (shR T)).size ≤ 100001 := by rw [bsL_size]; omega
    have hgl := hgr.len
    have hs2 : (bsL g).size ≤ 2 := by rw [bsL_size]; exact hgl
    have hout : (⟨#[92, 10]⟩ : ByteArray) ++ bsL g ++ bsL (shR T) = bsL (92 :: 10 :: (g ++ shR T)) := by
      show bsL [92, 10] ++ bsL g ++ bsL (shR T) = _
      rw [bsL_append, bsL_append]; rfl
    have HR := Lib.hid (show LngR ⟨yk, yt, yi⟩ T (92 :: 10 :: (g ++ shR T)) from .inr ⟨g, hgr, rfl⟩)
    have HN := Lib.hid hn; have HSH := Lib.hid hsh; have HOUT := Lib.hid hout; have HPK := Lib.hid hpk
    have z1 : ¬ (9223372036854775807 < 2 + (bsL g).size) := by omega
    have z3 : ¬ (9223372036854775807 < ((⟨#[92, 10]⟩ : ByteArray) ++ bsL g).size + (bsL (shR T)).size) := by rw [ByteArray.size_append, show (⟨#[92, 10]⟩ : ByteArray).size = 2 from rfl]; omega
    have z2 : ¬ (9223372036854775807 < 2 + (bsL g).size + (bsL (shR T)).size) := by omega
    clear hn hsh hout hpk hgr hsl hgl
    generalize shR T = T2 at *
    go_enter Tryz.func31, Tryz.ntmps31
    by_cases ht : yt = ⟨#[32]⟩
    · have hk1 : (yk == 1) = false := by rw [beq_eq_false_iff_ne]; exact fun e => hsp ⟨ht, e⟩
      subst ht
      have hlt := h.lt
      clear hsp
      go_upto_region 8 with fail
      have hal2 : NumsAt ((w.alloc (.cells #[.int .i64 yk, .string ⟨#[32]⟩, .int .i64 yi] 43)).drew) b p cap L m := hal.call ((Below.refl _ _).drew)
      have nn : ((w.alloc (.cells #[.int .i64 yk, .string ⟨#[32]⟩, .int .i64 yi] 43)).drew).heap.size = w.heap.size + 1 := by simp [World.drew]
      have hca2 : w.grownBy ((w.alloc (.cells #[.int .i64 yk, .string ⟨#[32]⟩, .int .i64 yi] 43)).drew) (some b) := chg_below ((blw (Below.refl w.heap.size w) _).drew)
      refine wp_region_held_drew (S := fun _ => True) (by kernel_rfl) trivial (fun hHeld => ?_)
      refine wpAnyH_take (i := 1) (v := ?_) rfl (by kernel_rfl) (by kernel_rfl) (by kernel_rfl) (fun _ _ _ h => h) (Or.inl ⟨by rfl, ?_⟩) hHeld ?_
      rotate_left
      · (intro w hSw; (try dsimp only at hSw); go_simp; try with_reducible rfl)
      try simp only [Act.put, List.getElem_toArray, List.getElem_cons_zero, List.getElem_cons_succ, List.setIfInBounds_toArray, List.set_cons_zero, List.set_cons_succ]
      refine wpAnyH_take (i := 6) (v := ?_) rfl (by kernel_rfl) (by kernel_rfl) (by kernel_rfl) (fun _ _ _ h => h) (Or.inl ⟨by rfl, ?_⟩) hHeld ?_
      rotate_left
      · (intro w hSw; (try dsimp only at hSw); go_simp; try with_reducible rfl)
      try simp only [Act.put, List.getElem_toArray, List.getElem_cons_zero, List.getElem_cons_succ, List.setIfInBounds_toArray, List.set_cons_zero, List.set_cons_succ]
      refine wpAnyH_ready (rs := [0, 2]) (by kernel_rfl) (by simp) ?_
      refine AllReadyH.cons rfl (fun K hK => ?_) (AllReadyH.cons rfl (fun K hK => ?_) (AllReadyH.nil))
      · skip
        have hA := heap_at nn (.cells #[.string ⟨#[]⟩, .string ⟨#[32]⟩, .string ⟨#[9, 32]⟩] 9)
        have hN1 : NumsAt (((w.alloc (.cells #[.int .i64 yk, .string ⟨#[32]⟩, .int .i64 yi] 43)).drew).alloc (.cells #[.string ⟨#[]⟩, .string ⟨#[32]⟩, .string ⟨#[9, 32]⟩] 9)) b p cap L m := hal2.call (blw (Below.refl _ _) _)
        have hC1 := chg_trans hca2 (chg_below (b := b) (blw (Below.refl _ _) (.cells #[.string ⟨#[]⟩, .string ⟨#[32]⟩, .string ⟨#[9, 32]⟩] 9)))
        go_simp
        refine hK.out _ _ trivial (fun hHeld => ?_)
        clear hK K
        try simp only [Act.put, List.getElem_toArray, List.getElem_cons_zero, List.getElem_cons_succ, List.setIfInBounds_toArray, List.set_cons_zero, List.set_cons_succ]
        refine wpAnyH_ready (rs := [2]) (by kernel_rfl) (by simp) ?_
        refine AllReadyH.cons rfl (fun K hK => ?_) (AllReadyH.nil)
        go_simp
        refine (HN.out _ hN1).mono ?_; rintro e w2 ⟨rfl, hg, hN⟩
        have hA := carry_next hA hg (by omega)
        have hC := chg_trans hC1 hg
        clear hN1 hg hC1 hal2 hca2
        go_wp2_with fail
        refine hK.out _ _ trivial (fun hHeld => ?_)
        clear hK K
        try simp only [Act.put, List.getElem_toArray, List.getElem_cons_zero, List.getElem_cons_succ, List.setIfInBounds_toArray, List.set_cons_zero, List.set_cons_succ]
        refine wpAnyH_mono (S' := fun W => W.heap[w.heap.size + 1]? = some (.cells #[.string ⟨#[]⟩, .string ⟨#[32]⟩, .string ⟨#[9, 32]⟩] 9 (0, 0))) (fun _ _ => trivial) _ _ _ _ ?_
        have hHeld := hA
        refine wpAnyH_quiet (i := 7) (v := .string (bsL T2)) rfl (by kernel_rfl) (by kernel_rfl) (by kernel_rfl) (fun _ _ _ h => h) ⟨by rfl, fun w hSw => ⟨62, #[.string (bsL T)], by go_simp, (HSH.out w).mono (fun e w' h => ⟨h.1, h.2.symm⟩)⟩⟩ hHeld ?_
        try simp only [Act.put, List.getElem_toArray, List.getElem_cons_zero, List.getElem_cons_succ, List.setIfInBounds_toArray, List.set_cons_zero, List.set_cons_succ]
        refine wpAnyH_take (i := 3) (v := ?_) rfl (by kernel_rfl) (by kernel_rfl) (by kernel_rfl) (fun _ _ _ h => h) (Or.inl ⟨by rfl, ?_⟩) hHeld ?_
        rotate_left
        · (intro w hSw; (try dsimp only at hSw); go_simp; try with_reducible rfl)
        try simp only [Act.put, List.getElem_toArray, List.getElem_cons_zero, List.getElem_cons_succ, List.setIfInBounds_toArray, List.set_cons_zero, List.set_cons_succ]
        refine wpAnyH_take (i := 4) (v := ?_) rfl (by kernel_rfl) (by kernel_rfl) (by kernel_rfl) (fun _ _ _ h => h) (Or.inl ⟨by rfl, ?_⟩) hHeld ?_
        rotate_left
        · (intro w hSw; have hc := pick_row hSw gapB rfl k hk; rw [HPK.out] at hc; go_simp; try with_reducible rfl)
        try simp only [Act.put, List.getElem_toArray, List.getElem_cons_zero, List.getElem_cons_succ, List.setIfInBounds_toArray, List.set_cons_zero, List.set_cons_succ]
        refine wpAnyH_take (i := 5) (v := ?_) rfl (by kernel_rfl) (by kernel_rfl) (by kernel_rfl) (fun _ _ _ h => h) (Or.inl ⟨by rfl, ?_⟩) hHeld ?_
        rotate_left
        · (intro w hSw; (try dsimp only at hSw); go_simp; try with_reducible rfl)
        try simp only [Act.put, List.getElem_toArray, List.getElem_cons_zero, List.getElem_cons_succ, List.setIfInBounds_toArray, List.set_cons_zero, List.set_cons_succ]
        refine wpAnyH_take (i := 8) (v := ?_) rfl (by kernel_rfl) (by kernel_rfl) (by kernel_rfl) (fun _ _ _ h => h) (Or.inl ⟨by rfl, ?_⟩) hHeld ?_
        rotate_left
        · (intro w hSw; (try dsimp only at hSw); go_simp; try with_reducible rfl)
        try simp only [Act.put, List.getElem_toArray, List.getElem_cons_zero, List.getElem_cons_succ, List.setIfInBounds_toArray, List.set_cons_zero, List.set_cons_succ]
        refine wpAnyH_take (i := 9) (v := ?_) rfl (by kernel_rfl) (by kernel_rfl) (by kernel_rfl) (fun _ _ _ h => h) (Or.inl ⟨by rfl, ?_⟩) hHeld ?_
        rotate_left
        · (intro w hSw; (try dsimp only at hSw); go_simp; try with_reducible rfl)
        try simp only [Act.put, List.getElem_toArray, List.getElem_cons_zero, List.getElem_cons_succ, List.setIfInBounds_toArray, List.set_cons_zero, List.set_cons_succ]
        refine wpAnyH_done (by kernel_rfl) ?_ _
        go_wp2_with fail
        go_ret
        exact ⟨_, m + 1, ret_str HOUT.out, HR.out, Nat.le_refl _, hC, hN⟩
      · skip
        go_simp
        refine (HN.out _ hal2).mono ?_; rintro e w2 ⟨rfl, hg, hN0⟩
        have hA := heap_alloc_new w2 (.cells #[.string ⟨#[]⟩, .string ⟨#[32]⟩, .string ⟨#[9, 32]⟩] 9)
        have hN : NumsAt (w2.alloc (.cells #[.string ⟨#[]⟩, .string ⟨#[32]⟩, .string ⟨#[9, 32]⟩] 9)) b p cap L (m + 1) := hN0.call (blw (Below.refl _ _) _)
        have hC := chg_trans (chg_trans hca2 hg) (chg_below (b := b) (blw (Below.refl _ _) (.cells #[.string ⟨#[]⟩, .string ⟨#[32]⟩, .string ⟨#[9, 32]⟩] 9)))
        clear hg hal2 hca2 hN0
        go_wp2_with fail
        refine hK.out _ _ trivial (fun hHeld => ?_)
        clear hK K
        try simp only [Act.put, List.getElem_toArray, List.getElem_cons_zero, List.getElem_cons_succ, List.setIfInBounds_toArray, List.set_cons_zero, List.set_cons_succ]
        refine wpAnyH_quiet (i := 7) (v := .string (bsL T2)) rfl (by kernel_rfl) (by kernel_rfl) (by kernel_rfl) (fun _ _ _ h => h) ⟨by rfl, fun w hSw => ⟨62, #[.string (bsL T)], by go_simp, (HSH.out w).mono (fun e w' h => ⟨h.1, h.2.symm⟩)⟩⟩ hHeld ?_
        try simp only [Act.put, List.getElem_toArray, List.getElem_cons_zero, List.getElem_cons_succ, List.setIfInBounds_toArray, List.set_cons_zero, List.set_cons_succ]
        refine wpAnyH_ready (rs := [0]) (by kernel_rfl) (by simp) ?_
        refine AllReadyH.cons rfl (fun K hK => ?_) (AllReadyH.nil)
        go_simp
        refine hK.out _ _ trivial (fun hHeld => ?_)
        clear hK K
        try simp only [Act.put, List.getElem_toArray, List.getElem_cons_zero, List.getElem_cons_succ, List.setIfInBounds_toArray, List.set_cons_zero, List.set_cons_succ]
        refine wpAnyH_mono (S' := fun W => W.heap[w2.heap.size]? = some (.cells #[.string ⟨#[]⟩, .string ⟨#[32]⟩, .string ⟨#[9, 32]⟩] 9 (0, 0))) (fun _ _ => trivial) _ _ _ _ ?_
        have hHeld := hA
        refine wpAnyH_take (i := 3) (v := ?_) rfl (by kernel_rfl) (by kernel_rfl) (by kernel_rfl) (fun _ _ _ h => h) (Or.inl ⟨by rfl, ?_⟩) hHeld ?_
        rotate_left
        · (intro w hSw; (try dsimp only at hSw); go_simp; try with_reducible rfl)
        try simp only [Act.put, List.getElem_toArray, List.getElem_cons_zero, List.getElem_cons_succ, List.setIfInBounds_toArray, List.set_cons_zero, List.set_cons_succ]
        refine wpAnyH_take (i := 4) (v := ?_) rfl (by kernel_rfl) (by kernel_rfl) (by kernel_rfl) (fun _ _ _ h => h) (Or.inl ⟨by rfl, ?_⟩) hHeld ?_
        rotate_left
        · (intro w hSw; have hc := pick_row hSw gapB rfl k hk; rw [HPK.out] at hc; go_simp; try with_reducible rfl)
        try simp only [Act.put, List.getElem_toArray, List.getElem_cons_zero, List.getElem_cons_succ, List.setIfInBounds_toArray, List.set_cons_zero, List.set_cons_succ]
        refine wpAnyH_take (i := 5) (v := ?_) rfl (by kernel_rfl) (by kernel_rfl) (by kernel_rfl) (fun _ _ _ h => h) (Or.inl ⟨by rfl, ?_⟩) hHeld ?_
        rotate_left
        · (intro w hSw; (try dsimp only at hSw); go_simp; try with_reducible rfl)
        try simp only [Act.put, List.getElem_toArray, List.getElem_cons_zero, List.getElem_cons_succ, List.setIfInBounds_toArray, List.set_cons_zero, List.set_cons_succ]
        refine wpAnyH_take (i := 8) (v := ?_) rfl (by kernel_rfl) (by kernel_rfl) (by kernel_rfl) (fun _ _ _ h => h) (Or.inl ⟨by rfl, ?_⟩) hHeld ?_
        rotate_left
        · (intro w hSw; (try dsimp only at hSw); go_simp; try with_reducible rfl)
        try simp only [Act.put, List.getElem_toArray, List.getElem_cons_zero, List.getElem_cons_succ, List.setIfInBounds_toArray, List.set_cons_zero, List.set_cons_succ]
        refine wpAnyH_take (i := 9) (v := ?_) rfl (by kernel_rfl) (by kernel_rfl) (by kernel_rfl) (fun _ _ _ h => h) (Or.inl ⟨by rfl, ?_⟩) hHeld ?_
        rotate_left
        · (intro w hSw; (try dsimp only at hSw); go_simp; try with_reducible rfl)
        try simp only [Act.put, List.getElem_toArray, List.getElem_cons_zero, List.getElem_cons_succ, List.setIfInBounds_toArray, List.set_cons_zero, List.set_cons_succ]
        refine wpAnyH_done (by kernel_rfl) ?_ _
        go_wp2_with fail
        go_ret
        exact ⟨_, m + 1, ret_str HOUT.out, HR.out, Nat.le_refl _, hC, hN⟩
    · have hq := key_ne ht
      have hl : ¬ yt.toList = [32] := fun e => by
        rw [beq_eq_false_iff_ne] at hq; exact hq (e.trans (by rw [Go.ByteArray.toList_eq]))
      have HQ := Lib.hid hl
      have hlt := h.lt
      clear hsp
      go_upto_region 8 with fail
      all_goals (first | (exfalso; exact HQ.out (by assumption)) | skip)
      have hal2 : NumsAt ((w.alloc (.cells #[.int .i64 yk, .string yt, .int .i64 yi] 43)).drew) b p cap L m := hal.call ((Below.refl _ _).drew)
      have nn : ((w.alloc (.cells #[.int .i64 yk, .string yt, .int .i64 yi] 43)).drew).heap.size = w.heap.size + 1 := by simp [World.drew]
      have hca2 : w.grownBy ((w.alloc (.cells #[.int .i64 yk, .string yt, .int .i64 yi] 43)).drew) (some b) := chg_below ((blw (Below.refl w.heap.size w) _).drew)
      refine wp_region_held_drew (S := fun _ => True) (by kernel_rfl) trivial (fun hHeld => ?_)
      refine wpAnyH_take (i := 1) (v := ?_) rfl (by kernel_rfl) (by kernel_rfl) (by kernel_rfl) (fun _ _ _ h => h) (Or.inl ⟨by rfl, ?_⟩) hHeld ?_
      rotate_left
      · (intro w hSw; (try dsimp only at hSw); go_simp; try with_reducible rfl)
      try simp only [Act.put, List.getElem_toArray, List.getElem_cons_zero, List.getElem_cons_succ, List.setIfInBounds_toArray, List.set_cons_zero, List.set_cons_succ]
      refine wpAnyH_take (i := 6) (v := ?_) rfl (by kernel_rfl) (by kernel_rfl) (by kernel_rfl) (fun _ _ _ h => h) (Or.inl ⟨by rfl, ?_⟩) hHeld ?_
      rotate_left
      · (intro w hSw; (try dsimp only at hSw); go_simp; try with_reducible rfl)
      try simp only [Act.put, List.getElem_toArray, List.getElem_cons_zero, List.getElem_cons_succ, List.setIfInBounds_toArray, List.set_cons_zero, List.set_cons_succ]
      refine wpAnyH_ready (rs := [0, 2]) (by kernel_rfl) (by simp) ?_
      refine AllReadyH.cons rfl (fun K hK => ?_) (AllReadyH.cons rfl (fun K hK => ?_) (AllReadyH.nil))
      · skip
        have hA := heap_at nn (.cells #[.string ⟨#[]⟩, .string ⟨#[32]⟩, .string ⟨#[9, 32]⟩] 9)
        have hN1 : NumsAt (((w.alloc (.cells #[.int .i64 yk, .string yt, .int .i64 yi] 43)).drew).alloc (.cells #[.string ⟨#[]⟩, .string ⟨#[32]⟩, .string ⟨#[9, 32]⟩] 9)) b p cap L m := hal2.call (blw (Below.refl _ _) _)
        have hC1 := chg_trans hca2 (chg_below (b := b) (blw (Below.refl _ _) (.cells #[.string ⟨#[]⟩, .string ⟨#[32]⟩, .string ⟨#[9, 32]⟩] 9)))
        go_simp
        refine hK.out _ _ trivial (fun hHeld => ?_)
        clear hK K
        try simp only [Act.put, List.getElem_toArray, List.getElem_cons_zero, List.getElem_cons_succ, List.setIfInBounds_toArray, List.set_cons_zero, List.set_cons_succ]
        refine wpAnyH_ready (rs := [2]) (by kernel_rfl) (by simp) ?_
        refine AllReadyH.cons rfl (fun K hK => ?_) (AllReadyH.nil)
        go_simp
        refine (HN.out _ hN1).mono ?_; rintro e w2 ⟨rfl, hg, hN⟩
        have hA := carry_next hA hg (by omega)
        have hC := chg_trans hC1 hg
        clear hN1 hg hC1 hal2 hca2
        go_wp2_with fail
        refine hK.out _ _ trivial (fun hHeld => ?_)
        clear hK K
        try simp only [Act.put, List.getElem_toArray, List.getElem_cons_zero, List.getElem_cons_succ, List.setIfInBounds_toArray, List.set_cons_zero, List.set_cons_succ]
        refine wpAnyH_mono (S' := fun W => W.heap[w.heap.size + 1]? = some (.cells #[.string ⟨#[]⟩, .string ⟨#[32]⟩, .string ⟨#[9, 32]⟩] 9 (0, 0))) (fun _ _ => trivial) _ _ _ _ ?_
        have hHeld := hA
        refine wpAnyH_quiet (i := 7) (v := .string (bsL T2)) rfl (by kernel_rfl) (by kernel_rfl) (by kernel_rfl) (fun _ _ _ h => h) ⟨by rfl, fun w hSw => ⟨62, #[.string (bsL T)], by go_simp, (HSH.out w).mono (fun e w' h => ⟨h.1, h.2.symm⟩)⟩⟩ hHeld ?_
        try simp only [Act.put, List.getElem_toArray, List.getElem_cons_zero, List.getElem_cons_succ, List.setIfInBounds_toArray, List.set_cons_zero, List.set_cons_succ]
        refine wpAnyH_take (i := 3) (v := ?_) rfl (by kernel_rfl) (by kernel_rfl) (by kernel_rfl) (fun _ _ _ h => h) (Or.inl ⟨by rfl, ?_⟩) hHeld ?_
        rotate_left
        · (intro w hSw; (try dsimp only at hSw); go_simp; try with_reducible rfl)
        try simp only [Act.put, List.getElem_toArray, List.getElem_cons_zero, List.getElem_cons_succ, List.setIfInBounds_toArray, List.set_cons_zero, List.set_cons_succ]
        refine wpAnyH_take (i := 4) (v := ?_) rfl (by kernel_rfl) (by kernel_rfl) (by kernel_rfl) (fun _ _ _ h => h) (Or.inl ⟨by rfl, ?_⟩) hHeld ?_
        rotate_left
        · (intro w hSw; have hc := pick_row hSw gapB rfl k hk; rw [HPK.out] at hc; go_simp; try with_reducible rfl)
        try simp only [Act.put, List.getElem_toArray, List.getElem_cons_zero, List.getElem_cons_succ, List.setIfInBounds_toArray, List.set_cons_zero, List.set_cons_succ]
        refine wpAnyH_take (i := 5) (v := ?_) rfl (by kernel_rfl) (by kernel_rfl) (by kernel_rfl) (fun _ _ _ h => h) (Or.inl ⟨by rfl, ?_⟩) hHeld ?_
        rotate_left
        · (intro w hSw; (try dsimp only at hSw); go_simp; try with_reducible rfl)
        try simp only [Act.put, List.getElem_toArray, List.getElem_cons_zero, List.getElem_cons_succ, List.setIfInBounds_toArray, List.set_cons_zero, List.set_cons_succ]
        refine wpAnyH_take (i := 8) (v := ?_) rfl (by kernel_rfl) (by kernel_rfl) (by kernel_rfl) (fun _ _ _ h => h) (Or.inl ⟨by rfl, ?_⟩) hHeld ?_
        rotate_left
        · (intro w hSw; (try dsimp only at hSw); go_simp; try with_reducible rfl)
        try simp only [Act.put, List.getElem_toArray, List.getElem_cons_zero, List.getElem_cons_succ, List.setIfInBounds_toArray, List.set_cons_zero, List.set_cons_succ]
        refine wpAnyH_take (i := 9) (v := ?_) rfl (by kernel_rfl) (by kernel_rfl) (by kernel_rfl) (fun _ _ _ h => h) (Or.inl ⟨by rfl, ?_⟩) hHeld ?_
        rotate_left
        · (intro w hSw; (try dsimp only at hSw); go_simp; try with_reducible rfl)
        try simp only [Act.put, List.getElem_toArray, List.getElem_cons_zero, List.getElem_cons_succ, List.setIfInBounds_toArray, List.set_cons_zero, List.set_cons_succ]
        refine wpAnyH_done (by kernel_rfl) ?_ _
        go_wp2_with fail
        go_ret
        exact ⟨_, m + 1, ret_str HOUT.out, HR.out, Nat.le_refl _, hC, hN⟩
      · skip
        go_simp
        refine (HN.out _ hal2).mono ?_; rintro e w2 ⟨rfl, hg, hN0⟩
        have hA := heap_alloc_new w2 (.cells #[.string ⟨#[]⟩, .string ⟨#[32]⟩, .string ⟨#[9, 32]⟩] 9)
        have hN : NumsAt (w2.alloc (.cells #[.string ⟨#[]⟩, .string ⟨#[32]⟩, .string ⟨#[9, 32]⟩] 9)) b p cap L (m + 1) := hN0.call (blw (Below.refl _ _) _)
        have hC := chg_trans (chg_trans hca2 hg) (chg_below (b := b) (blw (Below.refl _ _) (.cells #[.string ⟨#[]⟩, .string ⟨#[32]⟩, .string ⟨#[9, 32]⟩] 9)))
        clear hg hal2 hca2 hN0
        go_wp2_with fail
        refine hK.out _ _ trivial (fun hHeld => ?_)
        clear hK K
        try simp only [Act.put, List.getElem_toArray, List.getElem_cons_zero, List.getElem_cons_succ, List.setIfInBounds_toArray, List.set_cons_zero, List.set_cons_succ]
        refine wpAnyH_quiet (i := 7) (v := .string (bsL T2)) rfl (by kernel_rfl) (by kernel_rfl) (by kernel_rfl) (fun _ _ _ h => h) ⟨by rfl, fun w hSw => ⟨62, #[.string (bsL T)], by go_simp, (HSH.out w).mono (fun e w' h => ⟨h.1, h.2.symm⟩)⟩⟩ hHeld ?_
        try simp only [Act.put, List.getElem_toArray, List.getElem_cons_zero, List.getElem_cons_succ, List.setIfInBounds_toArray, List.set_cons_zero, List.set_cons_succ]
        refine wpAnyH_ready (rs := [0]) (by kernel_rfl) (by simp) ?_
        refine AllReadyH.cons rfl (fun K hK => ?_) (AllReadyH.nil)
        go_simp
        refine hK.out _ _ trivial (fun hHeld => ?_)
        clear hK K
        try simp only [Act.put, List.getElem_toArray, List.getElem_cons_zero, List.getElem_cons_succ, List.setIfInBounds_toArray, List.set_cons_zero, List.set_cons_succ]
        refine wpAnyH_mono (S' := fun W => W.heap[w2.heap.size]? = some (.cells #[.string ⟨#[]⟩, .string ⟨#[32]⟩, .string ⟨#[9, 32]⟩] 9 (0, 0))) (fun _ _ => trivial) _ _ _ _ ?_
        have hHeld := hA
        refine wpAnyH_take (i := 3) (v := ?_) rfl (by kernel_rfl) (by kernel_rfl) (by kernel_rfl) (fun _ _ _ h => h) (Or.inl ⟨by rfl, ?_⟩) hHeld ?_
        rotate_left
        · (intro w hSw; (try dsimp only at hSw); go_simp; try with_reducible rfl)
        try simp only [Act.put, List.getElem_toArray, List.getElem_cons_zero, List.getElem_cons_succ, List.setIfInBounds_toArray, List.set_cons_zero, List.set_cons_succ]
        refine wpAnyH_take (i := 4) (v := ?_) rfl (by kernel_rfl) (by kernel_rfl) (by kernel_rfl) (fun _ _ _ h => h) (Or.inl ⟨by rfl, ?_⟩) hHeld ?_
        rotate_left
        · (intro w hSw; have hc := pick_row hSw gapB rfl k hk; rw [HPK.out] at hc; go_simp; try with_reducible rfl)
        try simp only [Act.put, List.getElem_toArray, List.getElem_cons_zero, List.getElem_cons_succ, List.setIfInBounds_toArray, List.set_cons_zero, List.set_cons_succ]
        refine wpAnyH_take (i := 5) (v := ?_) rfl (by kernel_rfl) (by kernel_rfl) (by kernel_rfl) (fun _ _ _ h => h) (Or.inl ⟨by rfl, ?_⟩) hHeld ?_
        rotate_left
        · (intro w hSw; (try dsimp only at hSw); go_simp; try with_reducible rfl)
        try simp only [Act.put, List.getElem_toArray, List.getElem_cons_zero, List.getElem_cons_succ, List.setIfInBounds_toArray, List.set_cons_zero, List.set_cons_succ]
        refine wpAnyH_take (i := 8) (v := ?_) rfl (by kernel_rfl) (by kernel_rfl) (by kernel_rfl) (fun _ _ _ h => h) (Or.inl ⟨by rfl, ?_⟩) hHeld ?_
        rotate_left
        · (intro w hSw; (try dsimp only at hSw); go_simp; try with_reducible rfl)
        try simp only [Act.put, List.getElem_toArray, List.getElem_cons_zero, List.getElem_cons_succ, List.setIfInBounds_toArray, List.set_cons_zero, List.set_cons_succ]
        refine wpAnyH_take (i := 9) (v := ?_) rfl (by kernel_rfl) (by kernel_rfl) (by kernel_rfl) (fun _ _ _ h => h) (Or.inl ⟨by rfl, ?_⟩) hHeld ?_
        rotate_left
        · (intro w hSw; (try dsimp only at hSw); go_simp; try with_reducible rfl)
        try simp only [Act.put, List.getElem_toArray, List.getElem_cons_zero, List.getElem_cons_succ, List.setIfInBounds_toArray, List.set_cons_zero, List.set_cons_succ]
        refine wpAnyH_done (by kernel_rfl) ?_ _
        go_wp2_with fail
        go_ret
        exact ⟨_, m + 1, ret_str HOUT.out, HR.out, Nat.le_refl _, hC, hN⟩
theorem lng_pie {y x : It} {t : List UInt8} (hx : expX y = [x]) (h : LngR y (e1R x) t) : PieR x t := by
  rcases h with ⟨h1, h2, h3⟩ | h
  · rw [expX_text h1, h2] at hx
    have : x = bT 32 := by injection hx with hx; exact hx.symm
    exact .inr (.inl ⟨this, h3⟩)
  · exact .inr (.inr h)
/-- The slice of one position, and what it is written as. -/
theorem one_slice {F : List It} (hv : valE F = 0) (ht : NoT F) (i : Nat) (hi : i < lenI F) : ∃ x : It, (expI F).take (i + 1) = (expI F).take i ++ [x] ∧ expI (slI F 0 i (i + 1)) = [x] ∧ valE (slI F 0 i (i + 1)) = 0 ∧ encE (slI F 0 i (i + 1)) = (bsL (e1R x), 0) ∧ x.t.size ≤ 1024 := by
  have hl := expI_len F
  have hi' : i < (expI F).length := by omega
  refine ⟨(expI F)[i], ?_, ?_, sl_valid hv i (i + 1), ?_, ?_⟩
  · rw [List.take_add_one, List.getElem?_eq_getElem hi']; rfl
  · rw [exp_cut F i (i + 1) (by omega) (by omega), Nat.add_sub_cancel_left, List.drop_eq_getElem_cons hi']; rfl
  · have h1 : tagsL (slI F 0 i (i + 1)) = [] := by
      rw [List.eq_nil_iff_forall_not_mem]
      intro y hy
      obtain ⟨h1, h2⟩ := mem_tags.1 hy
      have : y ∈ tagsL F := mem_tags.2 ⟨sl_tags F 0 i (i + 1) y h1 h2, h2⟩
      rw [show tagsL F = [] from ht] at this; cases this
    rw [encE_ok (sl_valid hv i (i + 1)) (by rw [h1]; rfl), ← encR_exp]
    unfold encG
    rw [exp_cut F i (i + 1) (by omega) (by omega), Nat.add_sub_cancel_left, List.drop_eq_getElem_cons hi']
    simp only [List.take_succ_cons, List.take_zero, List.flatMap_cons, List.flatMap_nil, List.append_nil]
  · have := (exp_flat (valE_zero hv).2.2 ht (expI F)[i] (List.getElem_mem _)).1
    exact (one_small this).1

def EndRw (F : List It) (b : Nat) (p : Option Addr) (cap : Nat) (L : List Int) (m : Nat) (w : World) (e : Ending) (w' : World) : Prop := ∃ (raw : List UInt8) (m' : Nat), e = .returned (.string (bsL raw)) ∧ RawsR (expI F) raw ∧ raw.length ≤ 3010 * lenI F ∧ m' ≤ m + 2 * lenI F ∧ w.grownBy w' (some b) ∧ NumsAt w' b p cap L m'
set_option maxHeartbeats 6400000 in
theorem mkraws_any (b : Nat) (p : Option Addr) (cap : Nat) (L : List Int) (m : Nat) (pf : Option Addr) (cf : Nat) (F : List It) (w : World) (h : NumsAt w b p cap L m) (hm : m ≤ 800000) (hF : Its w pf F) (hsep : 0 < F.length → ∀ a, pf = some a → some b ≠ some a.block) (hc : F.length ≤ cf) (hcm : cf ≤ maxLen) (hv : valE F = 0) (ht : NoT F) (htx : txtI F ≤ 140737488355328) :
    Calls Tryz.prog 14 #[.pointer (some ⟨b, 0, none⟩), .int .i64 2, .slice pf F.length cf] w (EndRw F b p cap L m w) := by
  obtain ⟨h1, h2, h3⟩ := valE_zero hv
  have hO := oks_valid h3 htx
  have hlen := fun W i => rlength_any pf cf F W i hc hcm (by omega)
  have hsl := fun k (hk : k < lenI F) W i => rslice_yes pf cf F k (k + 1) W i hO hc hcm (by omega) (by omega) (by omega) (by omega)
  have hone := fun k hk => one_slice hv ht k hk
  have henc := fun k (hk : k < lenI F) q c W (i : Its W q (slI F 0 k (k + 1))) (a : (slI F 0 k (k + 1)).length ≤ c) (b : c ≤ maxLen) => refencode_any q c (slI F 0 k (k + 1)) W i (oks_valid (valE_zero (sl_valid hv k (k + 1))).2.2 (by have := txt_sl F 0 k (k + 1); omega)) a b
  have hnx := fun m (hm : m ≤ 900000) W h => next_any b p cap L m 3 3 rfl W h (by omega) (by omega) (by omega)
  have hlg := fun m (hm : m ≤ 900000) y T (hT : T.length ≤ 100000) W h => longer_any b p cap L m y T W h hm hT
  have hpe : ∀ x : It, x.t.size ≤ 1024 → ∀ t, PieR x t → t.length ≤ 3010 := fun x hx t ht => pie_len hx ht
  have HL := Lib.hid hlen; have HS := Lib.hid hsl; have HO := Lib.hid hone; have HE := Lib.hid henc; have HN := Lib.hid hnx; have HG := Lib.hid hlg; have HP := Lib.hid hsep; have HPE := Lib.hid hpe
  have HX := Lib.hid (expI_len F)
  clear hlen hsl hone henc hnx hlg hsep hpe hO h3 htx hv ht h1
  go_enter Tryz.func14, Tryz.ntmps14
  go_wp2_with fail
  go_loopw [7, 8] (fun v i wr => ∃ (k m' : Nat) (rl : List UInt8), k ≤ lenI F ∧ i = .int .i64 k ∧ v = .string (bsL rl) ∧ Hid (RawsR ((expI F).take k) rl) ∧ rl.length ≤ 3010 * k ∧ m' ≤ m + 2 * k ∧ w.grownBy wr (some b) ∧ NumsAt wr b p cap L m') (fun _ i _ => lenI F - (intOf i).toNat)
  case atStart => exact ⟨0, m, [], Nat.zero_le _, rfl, rfl, Lib.hid RawsR.nil, Nat.zero_le _, Nat.le_refl _, chg_below (Below.refl _ _), h⟩
  case round =>
    obtain ⟨k, m', rl, hk, rfl, rfl, HR, hrl, hm', hgr, hN⟩ := hrel
    have hFr : Its wr pf F := fun h0 => hF.past hgr (HP.out h0) h0
    by_cases hlt : k < lenI F
    · obtain ⟨x, htk, hex, hve, hen, hxs⟩ := HO.out k hlt
      have hS := fun W i => HS.out k hlt W i
      have hE := fun q c W i a b => HE.out k hlt q c W i a b
      rw [hen] at hE
      dsimp only at hE
      have HEX := Lib.hid hex; have HTK := Lib.hid htk
      have el : (e1R x).length ≤ 3000 := e1R_len hxs
      clear hex htk hen hve
      generalize slI F 0 k (k + 1) = X at *
      have hpx := HPE.out x hxs
      have SS := Lib.hid hS; have EE := Lib.hid hE; have PX := Lib.hid hpx
      clear hS hE hpx
      have n1 := fun W h => HN.out m' (by omega) W h
      have g1 := fun y W h => HG.out (m' + 1) (by omega) y (e1R x) (by omega) W h
      have N1 := Lib.hid n1; have G1 := Lib.hid g1; clear n1 g1
      go_wp2_with fail
      refine (HL.out _ hFr).mono ?_; rintro e w1 ⟨rfl, rfl⟩
      go_wp2_with fail
      refine (SS.out _ hFr).mono ?_; rintro e w2 ⟨v, rfl, hA⟩
      obtain ⟨px, cx, rfl, ha, hb, hi⟩ := hA.own.its
      have hadr := OwnL.addr hA.own
      have hsx : ∀ a, px = some a → some b ≠ some a.block := fun a ha e => by
        have h1 := (hadr a ha).1
        have h2 := hN.lt
        injection e with e
        omega
      have HSX := Lib.hid hsx
      clear hsx hadr
      have hN2 := hN.call hA.below
      have hgr2 := chg_trans hgr (chg_below (b := b) hA.below)
      clear hA
      go_wp2_with fail
      refine (EE.out _ _ _ hi ha hb).mono ?_; rintro e w3 ⟨rfl, hb3⟩
      have hN3 := hN2.call hb3
      have hgr3 := chg_trans hgr2 (chg_below (b := b) hb3)
      have hi3 := hi.call hb3
      clear hi hN2 hgr2 hb3 hFr
      have sz : (bsL rl).size + (bsL (e1R x)).size ≤ 100000000 := by rw [bsL_size, bsL_size]; omega
      have sz1 : ¬ (9223372036854775807 < (bsL rl).size + (bsL (e1R x)).size) := by omega
      have hcat : bsL rl ++ bsL (e1R x) = bsL (rl ++ e1R x) := by rw [bsL_append]
      have hfin : ∀ t m2 (W : World), PieR x t → m2 ≤ m' + 2 → w.grownBy W (some b) → NumsAt W b p cap L m2 → ∃ (k1 m1 : Nat) (rl1 : List UInt8), k1 ≤ lenI F ∧ Value.int .i64 ((k : Int) + 1) = .int .i64 k1 ∧ Value.string (bsL (rl ++ t)) = .string (bsL rl1) ∧ Hid (RawsR ((expI F).take k1) rl1) ∧ rl1.length ≤ 3010 * k1 ∧ m1 ≤ m + 2 * k1 ∧ w.grownBy W (some b) ∧ NumsAt W b p cap L m1 := fun t m2 W ht h1 h2 h3 =>
        ⟨k + 1, m2, rl ++ t, hlt, by go_num, rfl, Lib.hid (by rw [HTK.out]; exact HR.out.snoc ht), by rw [List.length_append]; have := PX.out t ht; omega, by omega, h2, h3⟩
      have HFIN := Lib.hid hfin; have HCAT := Lib.hid hcat
      clear hfin hcat
      by_cases hx1 : X.length = 1
      · have q1 : ((X.length : Int) == 1) = true := by rw [hx1]; rfl
        obtain ⟨y, hX⟩ : ∃ y, X = [y] := List.length_eq_one_iff.1 hx1
        have hy : expX y = [x] := by have := HEX.out; rw [hX] at this; unfold expI at this; simpa using this
        have hN0 := N1.out
        have hxy : X[0]'(by omega) = y := by subst hX; rfl
        have hrw : ∀ W, Its W px X → _ := fun W i => i.row 0 (by omega)
        rw [hxy] at hrw
        have HRW := Lib.hid hrw
        have hHY := Lib.hid hy; have g1 := G1.out y
        have GY := Lib.hid g1
        have i0 : (0 : Int) < (X.length : Int) := by omega
        clear hX hxy hy hN0 hrw g1
        have hr := nx_lt L m' 3 (by omega)
        generalize nx L m' 3 = r at *
        go_wp2_with fail
        refine (N1.out _ hN3).mono ?_; rintro e w4 ⟨rfl, hg4, hN4⟩
        by_cases hr0 : r = 0
        · have q2 : ((r : Int) == 0) = true := by rw [hr0]; rfl
          have hgr4 := chg_trans hgr3 hg4
          obtain ⟨ad, rfl, had, c0, c1, c2⟩ := HRW.out _ (hi3.past hg4 HSX.out)
          have k0 : w4.cell? ad = some (.int .i64 y.k) := by simpa [Addr.add] using c0
          have k1 : w4.cell? ⟨ad.block, ad.off + 1, none⟩ = some (.string y.t) := by simpa [Addr.add] using c1
          have k2 : w4.cell? ⟨ad.block, ad.off + 2, none⟩ = some (.int .i64 y.id) := by simpa [Addr.add] using c2
          go_wp2_with fail
          refine (GY.out _ hN4).mono ?_; rintro e w5 ⟨t, m2, rfl, hL, hm2, hg5, hN5⟩
          have hpt := lng_pie hHY.out hL
          have htl := PX.out t hpt
          have hgr5 := chg_trans hgr4 hg5
          have szt : (bsL rl).size + (bsL t).size ≤ 100000000 := by rw [bsL_size, bsL_size]; omega
          have sz2 : ¬ (9223372036854775807 < (bsL rl).size + (bsL t).size) := by omega
          have HCT := Lib.hid (show bsL rl ++ bsL t = bsL (rl ++ t) by rw [bsL_append])
          have HPT := Lib.hid hpt
          clear hL hpt szt hg5
          go_wp2_with fail
          go_roundw
          case rel => rw [HCT.out]; exact HFIN.out _ m2 w5 HPT.out (by omega) hgr5 hN5
          case measure => simp [intOf]; omega
        · have q2 : ((r : Int) == 0) = false := by rw [beq_eq_false_iff_ne]; omega
          have hgr4 := chg_trans hgr3 hg4
          go_wp2_with fail
          go_roundw
          case rel => rw [HCAT.out]; exact HFIN.out _ (m' + 1) w4 (.inl rfl) (by omega) hgr4 hN4
          case measure => simp [intOf]; omega
      · have q1 : ((X.length : Int) == 1) = false := by rw [beq_eq_false_iff_ne]; omega
        go_wp2_with fail
        go_roundw
        case rel => rw [HCAT.out]; exact HFIN.out _ m' w3 (.inl rfl) (by omega) hgr3 hN3
        case measure => simp [intOf]; omega
    · obtain rfl : k = lenI F := by omega
      have hR := HR.out
      rw [List.take_of_length_le (by rw [HX.out]; exact Nat.le_refl _)] at hR
      have HRR := Lib.hid hR
      clear hR HR
      go_wp2_with fail
      refine (HL.out _ hFr).mono ?_; rintro e w1 ⟨rfl, rfl⟩
      go_wp2_with fail
      go_ret
      exact ⟨rl, m', rfl, HRR.out, hrl, hm', hgr, hN⟩
/-- What raws answers. -/
def EndRaw (F : List It) (w : World) (e : Ending) (w' : World) : Prop := ∃ (raw : List UInt8) (p : Option Addr) (c : Nat), e = .returned (.tuple #[.string (bsL raw), .slice p F.length c]) ∧ RawsR (expI F) raw ∧ raw.length ≤ 3010 * lenI F ∧ F.length ≤ c ∧ c ≤ maxLen ∧ Its w' p F ∧ Below w.heap.size w w'
end Go.Proofs.YtdbbjhbkhimbfaaGreatDoor
