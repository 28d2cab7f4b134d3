/- The generator of fragments: the walk. Shape. What the law's own generator answers; what Shape answers, in one form. Rename. The reference's Rename. Renumber and Canonical. Contracts of appendText and Encode. The contract of Encode. What the laws' generator makes without tags; decoding what is encoded. Plain mathematics of encoded contents: no sign in them ends a quoted field. Plain mathematics of raw contents with longer forms: they read as the fragment. Contracts of the reference's byteOf and Encode. The contract of the reference's Encode, at the format of tables. Items that lie elsewhere stay when a row grows. Contracts of the generator's raw contents at the format of tables. -/
import Derived.Test.YteaciofacmbllaaGreatDoorFrg
import Derived.Test.YteaciofacmbllaaGreatDoorTwo
import Derived.Test.YteaciofacmbllaaGreatDoorRnr
import Derived.Test.YteaciofacmbllaaGreatDoorSam
import Derived.Test.YteaciofacmbllaaGreatDoorGvl
import Derived.Test.YteaciofacmbllaaGreatDoorPrt
import Derived.Test.YteaciofacmbllaaGreatDoorFst
import Derived.Test.YteaciofacmbllaaGreatDoorPln
import Derived.Test.YteaciofacmbllaaGreatDoorNrm
import Derived.Test.YteaciofacmbllaaGreatDoorRtC
import Derived.Test.YteaciofacmbllaaGreatDoorTgs
import Derived.Test.YteaciofacmbllaaGreatDoorCcW
import Derived.Lib.SlBytesRow
import Derived.Test.YteaciofacmbllaaGreatDoorNrq
import Derived.Test.YteaciofacmbllaaGreatDoorIt
import Derived.Test.YteaciofacmbllaaGreatDoorAcc
import Derived.Test.YteaciofacmbllaaGreatDoorRtE
import Derived.Test.YteaciofacmbllaaGreatDoorLin
import Derived.Test.YteaciofacmbllaaGreatDoorRsl
import Derived.Test.YteaciofacmbllaaGreatDoorRtA
namespace Go.Proofs.YteaciofacmbllaaGreatDoor
open Go.ChangeShapes Go.WideShapes Go.ChangeAt Go.RowKit
set_option linter.unusedVariables false
set_option linter.unusedSimpArgs false
set_option maxRecDepth 100000

set_option maxHeartbeats 6400000 in
theorem fragment_any (b : Nat) (pn : Option Addr) (cn : Nat) (L : List Int) (m : Nat) (tags nested : Bool) (n : Int) (N : Nat) (hnN : n = (N : Int)) (w : World) (h : NumsAt w b pn cn L m) (hlo : 0 < L.length → ∀ a, pn = some a → a.block < w.heap.size) (hm : m ≤ 100000) (hn : N ≤ 100) :
    Calls Tryz.prog 27 #[.pointer (some ⟨b, 0, none⟩), .int .i64 n, .bool tags, .bool nested] w fun e w' => ∃ v, e = .returned v ∧ w.grownBy w' (some b) ∧ NumsAt w' b pn cn L (fragG L tags nested m N).2 ∧ OwnI w.heap.size (fragG L tags nested m N).1 v w' := by
  subst hnN
  have h1 := fun W h => next_any b pn cn L m ((N : Int) + 1) (N + 1) (by omega) W h (by omega) (by omega) (by omega)
  have hi0 := nx_lt L m (N + 1) (by omega)
  generalize hG : fragG L tags nested m N = G at *
  unfold fragG startG at hG
  generalize nx L m (N + 1) = i0 at *
  generalize hF : runG L tags nested i0 ⟨[], [], 0, m + 1⟩ = F at *
  have H1 := Lib.hid h1; clear h1
  have HG := Lib.hid hG; clear hG
  have HF := Lib.hid hF; clear hF
  have hr0 : GRel b pn cn L w [] [] m (.slice none 0 0) (.slice none 0 0) w := ⟨h.lt, World.grownBy.refl _ _, h, OwnL.nil _ _, OwnL.nil _ _, fun k h => by simp [Value.ownBlock] at h, hlo⟩
  go_enter Tryz.func27, Tryz.ntmps27
  go_wp2_with fail
  refine (H1.out _ h).mono ?_
  rintro e w1 ⟨rfl, hg, hN⟩
  have hr1 := hr0.next hg hN
  clear hr0
  go_wp2_with fail
  go_loopw [9, 10, 11, 12] (fun vf vo vi i wr => ∃ (k n : Nat) (s : St), i = .int .i64 k ∧ vi = .int .i64 s.id ∧ (∃ p c, vf = .slice p s.f.length c) ∧ (∃ p c, vo = .slice p s.o.length c) ∧ k + n = i0 ∧ Sz (m + 1) s n ∧ GRel b pn cn L w s.f s.o s.m vf vo wr ∧ Hid (runG L tags nested k s = F)) (fun _ _ _ i _ => (intOf i).toNat)
  case atStart => exact ⟨i0, 0, ⟨[], [], 0, m + 1⟩, rfl, rfl, ⟨_, _, rfl⟩, ⟨_, _, rfl⟩, rfl, ⟨Nat.le_refl _, Nat.le_refl _, Nat.le_refl _, fun y hy => by (cases hy), Nat.le_refl _, Nat.le_refl _, Nat.le_refl _⟩, hr1, HF⟩
  case round =>
    obtain ⟨k, j, s, rfl, rfl, ⟨pf, cf, rfl⟩, ⟨po, co, rfl⟩, hkj, hz, hR, HL⟩ := hrel
    by_cases hlt : 0 < k
    · have q : decide (0 < (k : Int)) = true := decide_eq_true (by omega)
      obtain ⟨k, rfl⟩ : ∃ j, k = j + 1 := ⟨k - 1, by omega⟩
      have hz' := hz.step L tags nested
      have hzm := hz.m
      have hL := fun W h => line_any b pn cn L s.m 3 3 rfl W h (by omega) (by omega)
      have h8 := fun W h => next_any b pn cn L (lineF L s.m 3).2 8 8 rfl W h (by have := lineF_size L s.m 3; omega) (by omega) (by omega)
      obtain ⟨cI, hcI⟩ : ∃ z : Int, z = (nx L (lineF L s.m 3).2 8 : Int) := ⟨_, rfl⟩
      rw [← hcI] at h8
      have HL3 := Lib.hid hL; have H8 := Lib.hid h8; have HC := Lib.hid hcI
      clear hL h8 hcI
      go_wp2_with fail
      refine (HL3.out _ hR.nums).mono ?_
      rintro e w2 ⟨rfl, hg2, hN2⟩
      have hR2 := hR.next hg2 hN2
      go_wp2_with fail
      have hR3 := hR2.alloc (.cells #[.int .i64 1, .string (lineF L s.m 3).1, .int .i64 0] 54)
      have hbw := hR.base
      have hsz2 : w.heap.size ≤ w2.heap.size := hR2.chg.size
      refine (H8.out _ hR3.nums).mono ?_
      rintro e w3 ⟨rfl, hg3, hN3⟩
      have hR4 := hR3.next hg3 hN3
      have hB3 := (hg3.block w2.heap.size (by simp) (fun e => by injection e with e; omega)).trans (heap_alloc_new w2 _)
      have hfB : (Value.slice pf s.f.length cf).ownBlock ≠ some w2.heap.size := fun e => by have := (hR2.f.lt _ e).2; omega
      have hoB : (Value.slice po s.o.length co).ownBlock ≠ some w2.heap.size := fun e => by have := (hR2.o.lt _ e).2; omega
      have zB : w2.heap.size < w3.heap.size := by have := hg3.size; simp at this; omega
      generalize w2.heap.size = B at *
      clear hR3 hN3 hg3 hR2 hN2 hg2 HL3 H8
      go_upto_block 2 with fail
      go_cut [10, 11, 14] from 20 to 114 (fun vo' vi' _ wx => ∃ (x : It) (o' : List It) (id' m' : Nat), Hid (nextG L tags nested s.o s.id s.m = (x, o', id', m')) ∧ vi' = .int .i64 id' ∧ (∃ p c, vo' = .slice p o'.length c) ∧ GRel b pn cn L w s.f o' m' (.slice pf s.f.length cf) vo' wx ∧ wx.heap[B]? = some (.cells #[.int .i64 x.k, .string x.t, .int .i64 x.id] 54 (0, 0)))
      case first =>
        have hc8 : cI = 0 ∨ cI = 1 ∨ cI = 2 ∨ cI = 3 ∨ cI = 4 ∨ cI = 5 ∨ cI = 6 ∨ cI = 7 := by have := nx_lt L (lineF L s.m 3).2 8 (by omega); have := HC.out; omega
        have hlf := lineF_size L s.m 3
        have hzol := hz.ol
        have hzid := hz.id
        have h2 := fun W h => next_any b pn cn L ((lineF L s.m 3).2 + 1) 2 2 rfl W h (by omega) (by omega) (by omega)
        have h3 := fun W h => next_any b pn cn L ((lineF L s.m 3).2 + 1) 3 3 rfl W h (by omega) (by omega) (by omega)
        have H2 := Lib.hid h2; have H3 := Lib.hid h3; clear h2 h3
        rcases hc8 with rfl | rfl | rfl | rfl | rfl | rfl | rfl | rfl
        · have hk3 := nx_lt L ((lineF L s.m 3).2 + 1) 3 (by omega)
          have HN := Lib.hid (nextG_slot L tags nested s.o s.id s.m (by have := HC.out; omega))
          clear HL HC
          go_wp2_with fail
          refine (H3.out _ (hR4.alloc _).nums).mono ?_
          rintro e w5 ⟨rfl, hg5, hN5⟩
          have hrow := pick_row ((hg5.block w3.heap.size (by simp) (fun e => by injection e; omega)).trans (heap_alloc_new w3 _)) slotL rfl _ (nx_lt L ((lineF L s.m 3).2 + 1) 3 (by omega))
          have hB5 := (hg5.block B (by simp; omega) (fun e => by injection e; omega)).trans ((Lib.alloc_old w3 _ B zB).trans hB3)
          have hR5 := (hR4.alloc _).next hg5 hN5
          obtain ⟨_, _, _, f0, f1, f2⟩ := cells_item hB5
          have HB5 := Lib.hid hB5
          have zB5 : B < w5.heap.size := (Array.getElem?_eq_some_iff.1 hB5).1
          clear hB5
          go_wp2_with fail
          go_meet
          exact ⟨⟨5, pickB slotL (nx L ((lineF L s.m 3).2 + 1) 3), 0⟩, s.o, s.id, (lineF L s.m 3).2 + 1 + 1, HN, rfl, ⟨_, _, rfl⟩, hR5.set3 B hsz2 hfB hoB _ _ _, heap_set3 HB5.out⟩
        · have hk3 := nx_lt L ((lineF L s.m 3).2 + 1) 3 (by omega)
          have HN := Lib.hid (nextG_slot L tags nested s.o s.id s.m (by have := HC.out; omega))
          clear HL HC
          go_wp2_with fail
          refine (H3.out _ (hR4.alloc _).nums).mono ?_
          rintro e w5 ⟨rfl, hg5, hN5⟩
          have hrow := pick_row ((hg5.block w3.heap.size (by simp) (fun e => by injection e; omega)).trans (heap_alloc_new w3 _)) slotL rfl _ (nx_lt L ((lineF L s.m 3).2 + 1) 3 (by omega))
          have hB5 := (hg5.block B (by simp; omega) (fun e => by injection e; omega)).trans ((Lib.alloc_old w3 _ B zB).trans hB3)
          have hR5 := (hR4.alloc _).next hg5 hN5
          obtain ⟨_, _, _, f0, f1, f2⟩ := cells_item hB5
          have HB5 := Lib.hid hB5
          have zB5 : B < w5.heap.size := (Array.getElem?_eq_some_iff.1 hB5).1
          clear hB5
          go_wp2_with fail
          go_meet
          exact ⟨⟨5, pickB slotL (nx L ((lineF L s.m 3).2 + 1) 3), 0⟩, s.o, s.id, (lineF L s.m 3).2 + 1 + 1, HN, rfl, ⟨_, _, rfl⟩, hR5.set3 B hsz2 hfB hoB _ _ _, heap_set3 HB5.out⟩
        · cases tags
          · have HN := Lib.hid (nextG_text L false nested s.o s.id s.m (by have := HC.out; exact Or.inr (Or.inl ⟨by omega, by omega, rfl⟩)))
            clear HL HC
            go_wp2_with fail
            go_meet
            exact ⟨⟨1, (lineF L s.m 3).1, 0⟩, s.o, s.id, (lineF L s.m 3).2 + 1, HN, rfl, ⟨_, _, rfl⟩, hR4, hB3⟩
          have hk3 := nx_lt L ((lineF L s.m 3).2 + 1) 2 (by omega)
          have HN := Lib.hid (nextG_empty L true nested s.o s.id s.m (by have := HC.out; omega) rfl)
          clear HL HC
          go_wp2_with fail
          refine (H2.out _ (hR4.alloc _).nums).mono ?_
          rintro e w5 ⟨rfl, hg5, hN5⟩
          have hrow := pick_row ((hg5.block w3.heap.size (by simp) (fun e => by injection e; omega)).trans (heap_alloc_new w3 _)) emptyL rfl _ (nx_lt L ((lineF L s.m 3).2 + 1) 2 (by omega))
          have hB5 := (hg5.block B (by simp; omega) (fun e => by injection e; omega)).trans ((Lib.alloc_old w3 _ B zB).trans hB3)
          have hR5 := (hR4.alloc _).next hg5 hN5
          obtain ⟨_, _, _, f0, f1, f2⟩ := cells_item hB5
          have HB5 := Lib.hid hB5
          have zB5 : B < w5.heap.size := (Array.getElem?_eq_some_iff.1 hB5).1
          clear hB5
          go_wp2_with fail
          go_meet
          exact ⟨⟨4, pickB emptyL (nx L ((lineF L s.m 3).2 + 1) 2), (s.id + 1 : Nat)⟩, s.o, s.id + 1, (lineF L s.m 3).2 + 1 + 1, HN, rfl, ⟨_, _, rfl⟩, hR5.set3 B hsz2 hfB hoB _ _ _, heap_set3 HB5.out⟩
        · cases tags
          · have HN := Lib.hid (nextG_text L false nested s.o s.id s.m (by have := HC.out; exact Or.inr (Or.inl ⟨by omega, by omega, rfl⟩)))
            clear HL HC
            go_wp2_with fail
            go_meet
            exact ⟨⟨1, (lineF L s.m 3).1, 0⟩, s.o, s.id, (lineF L s.m 3).2 + 1, HN, rfl, ⟨_, _, rfl⟩, hR4, hB3⟩
          have hk3 := nx_lt L ((lineF L s.m 3).2 + 1) 3 (by omega)
          have HN := Lib.hid (nextG_open L true nested s.o s.id s.m (by have := HC.out; omega) rfl)
          clear HL HC
          go_wp2_with fail
          refine (H3.out _ (hR4.alloc _).nums).mono ?_
          rintro e w5 ⟨rfl, hg5, hN5⟩
          have hrow := pick_row ((hg5.block w3.heap.size (by simp) (fun e => by injection e; omega)).trans (heap_alloc_new w3 _)) openL rfl _ (nx_lt L ((lineF L s.m 3).2 + 1) 3 (by omega))
          have hB5 := (hg5.block B (by simp; omega) (fun e => by injection e; omega)).trans ((Lib.alloc_old w3 _ B zB).trans hB3)
          have hR5 := (hR4.alloc _).next hg5 hN5
          obtain ⟨_, _, _, f0, f1, f2⟩ := cells_item hB5
          have HB5 := Lib.hid hB5
          have zB5 : B < w5.heap.size := (Array.getElem?_eq_some_iff.1 hB5).1
          clear hB5
          have hR6 := hR5.set3 B hsz2 hfB hoB (.int .i64 2) (.string (pickB openL (nx L ((lineF L s.m 3).2 + 1) 3))) (.int .i64 ((s.id : Int) + 1))
          have HB6 := Lib.hid (heap_set3 (a' := .int .i64 2) (b' := .string (pickB openL (nx L ((lineF L s.m 3).2 + 1) 3))) (c' := .int .i64 ((s.id : Int) + 1)) HB5.out)
          have hR7 := hR6.alloc (.cells #[.int .i64 2, .string (pickB openL (nx L ((lineF L s.m 3).2 + 1) 3)), .int .i64 ((s.id : Int) + 1)] 54)
          have hsz7 := hR7.chg.size
          have hnew7 := heap_alloc_new (((w5.setCell ⟨B, 0, none⟩ (.int .i64 2)).setCell ⟨B, 1, none⟩ (.string (pickB openL (nx L ((lineF L s.m 3).2 + 1) 3)))).setCell ⟨B, 2, none⟩ (.int .i64 ((s.id : Int) + 1))) (.cells #[.int .i64 2, .string (pickB openL (nx L ((lineF L s.m 3).2 + 1) 3)), .int .i64 ((s.id : Int) + 1)] 54)
          rw [set3_size] at hnew7
          have HN7 := Lib.hid hnew7; clear hnew7
          go_wp2_with (at_builtin; refine wpl_app eI _ rfl _ _ rfl w.heap.size s.o _ rfl hR7.o hsz7 ⟨2, pickB openL (nx L ((lineF L s.m 3).2 + 1) 3), (s.id : Int) + 1⟩ w5.heap.size _ rfl HN7.out rfl (by omega) (by unfold maxLen; omega) ?_; intro g2 cp w8 hown8 hgr8 hloc8)
          have hR8 := hR7.push hown8 hgr8 hloc8
          have hB8 := (hgr8.block B (by simp; omega) (fun e => hoB e.symm)).trans ((Lib.alloc_old _ _ B (by simp; omega)).trans HB6.out)
          go_wp2_with fail
          go_meet
          exact ⟨⟨2, pickB openL (nx L ((lineF L s.m 3).2 + 1) 3), (s.id + 1 : Nat)⟩, s.o ++ [⟨2, pickB openL (nx L ((lineF L s.m 3).2 + 1) 3), (s.id + 1 : Nat)⟩], s.id + 1, (lineF L s.m 3).2 + 1 + 1, HN, rfl, ⟨_, _, by rw [List.length_append]; rfl⟩, hR8, hB8⟩
        · cases tags
          · have HN := Lib.hid (nextG_text L false nested s.o s.id s.m (by have := HC.out; exact Or.inr (Or.inl ⟨by omega, by omega, rfl⟩)))
            clear HL HC
            go_wp2_with fail
            go_meet
            exact ⟨⟨1, (lineF L s.m 3).1, 0⟩, s.o, s.id, (lineF L s.m 3).2 + 1, HN, rfl, ⟨_, _, rfl⟩, hR4, hB3⟩
          have hk3 := nx_lt L ((lineF L s.m 3).2 + 1) 3 (by omega)
          have HN := Lib.hid (nextG_open L true nested s.o s.id s.m (by have := HC.out; omega) rfl)
          clear HL HC
          go_wp2_with fail
          refine (H3.out _ (hR4.alloc _).nums).mono ?_
          rintro e w5 ⟨rfl, hg5, hN5⟩
          have hrow := pick_row ((hg5.block w3.heap.size (by simp) (fun e => by injection e; omega)).trans (heap_alloc_new w3 _)) openL rfl _ (nx_lt L ((lineF L s.m 3).2 + 1) 3 (by omega))
          have hB5 := (hg5.block B (by simp; omega) (fun e => by injection e; omega)).trans ((Lib.alloc_old w3 _ B zB).trans hB3)
          have hR5 := (hR4.alloc _).next hg5 hN5
          obtain ⟨_, _, _, f0, f1, f2⟩ := cells_item hB5
          have HB5 := Lib.hid hB5
          have zB5 : B < w5.heap.size := (Array.getElem?_eq_some_iff.1 hB5).1
          clear hB5
          have hR6 := hR5.set3 B hsz2 hfB hoB (.int .i64 2) (.string (pickB openL (nx L ((lineF L s.m 3).2 + 1) 3))) (.int .i64 ((s.id : Int) + 1))
          have HB6 := Lib.hid (heap_set3 (a' := .int .i64 2) (b' := .string (pickB openL (nx L ((lineF L s.m 3).2 + 1) 3))) (c' := .int .i64 ((s.id : Int) + 1)) HB5.out)
          have hR7 := hR6.alloc (.cells #[.int .i64 2, .string (pickB openL (nx L ((lineF L s.m 3).2 + 1) 3)), .int .i64 ((s.id : Int) + 1)] 54)
          have hsz7 := hR7.chg.size
          have hnew7 := heap_alloc_new (((w5.setCell ⟨B, 0, none⟩ (.int .i64 2)).setCell ⟨B, 1, none⟩ (.string (pickB openL (nx L ((lineF L s.m 3).2 + 1) 3)))).setCell ⟨B, 2, none⟩ (.int .i64 ((s.id : Int) + 1))) (.cells #[.int .i64 2, .string (pickB openL (nx L ((lineF L s.m 3).2 + 1) 3)), .int .i64 ((s.id : Int) + 1)] 54)
          rw [set3_size] at hnew7
          have HN7 := Lib.hid hnew7; clear hnew7
          go_wp2_with (at_builtin; refine wpl_app eI _ rfl _ _ rfl w.heap.size s.o _ rfl hR7.o hsz7 ⟨2, pickB openL (nx L ((lineF L s.m 3).2 + 1) 3), (s.id : Int) + 1⟩ w5.heap.size _ rfl HN7.out rfl (by omega) (by unfold maxLen; omega) ?_; intro g2 cp w8 hown8 hgr8 hloc8)
          have hR8 := hR7.push hown8 hgr8 hloc8
          have hB8 := (hgr8.block B (by simp; omega) (fun e => hoB e.symm)).trans ((Lib.alloc_old _ _ B (by simp; omega)).trans HB6.out)
          go_wp2_with fail
          go_meet
          exact ⟨⟨2, pickB openL (nx L ((lineF L s.m 3).2 + 1) 3), (s.id + 1 : Nat)⟩, s.o ++ [⟨2, pickB openL (nx L ((lineF L s.m 3).2 + 1) 3), (s.id + 1 : Nat)⟩], s.id + 1, (lineF L s.m 3).2 + 1 + 1, HN, rfl, ⟨_, _, by rw [List.length_append]; rfl⟩, hR8, hB8⟩
        · by_cases ho : 0 < s.o.length
          · obtain ⟨j0, hj0⟩ : ∃ j0, s.o.length = j0 + 1 := ⟨s.o.length - 1, by omega⟩
            obtain ⟨go, rfl⟩ := hR4.atO ho
            cases nested
            · have hnj : ∀ W, NumsAt W b pn cn L ((lineF L s.m 3).2 + 1) → _ := fun W h => next_any b pn cn L ((lineF L s.m 3).2 + 1) ((j0 : Int) + 1) (j0 + 1) (by omega) W h (by omega) (by omega) (by omega)
              have hkj := nx_lt L ((lineF L s.m 3).2 + 1) (j0 + 1) (by omega)
              obtain ⟨kk, hkk⟩ : ∃ kk, kk = nx L ((lineF L s.m 3).2 + 1) (j0 + 1) := ⟨_, rfl⟩
              rw [← hkk] at hnj hkj
              have HNJ := Lib.hid hnj; clear hnj
              have HN := Lib.hid (nextG_close L tags false s.o s.id s.m (by have := HC.out; omega) ho (kk, (lineF L s.m 3).2 + 1 + 1) (by unfold pickK; rw [if_neg (by decide), hj0, hkk]))
              clear hkk
              obtain ⟨_, hco, hcm, hI⟩ := hR4.itsO
              rw [hj0] at hco hzol ⊢
              have HR4 := Lib.hid hR4
              clear HL HC hI hR4
              go_upto_region 54 with fail
              go_wp2_with fail
              refine (HNJ.out _ HR4.out.nums).mono ?_
              rintro e w5 ⟨rfl, hg5, hN5⟩
              have hR4 := HR4.out.next hg5 hN5
              have hB5 := (hg5.block B zB (fun e => by injection e; omega)).trans hB3
              have zB5 : B < w5.heap.size := (Array.getElem?_eq_some_iff.1 hB5).1
              obtain ⟨_, _, _, hI⟩ := hR4.itsO
              obtain ⟨g0, d0, d1, d2⟩ := its_at hI kk (by omega)
              have hT := its_take hI kk
              have hy : s.o.getD kk ⟨0, .empty, 0⟩ = s.o[kk]'(by omega) := by rw [List.getD_eq_getElem?_getD, List.getElem?_eq_getElem (by omega)]; rfl
              have hyt : (s.o[kk]'(by omega)).t.size ≤ 5 := hz.ot _ (List.getElem_mem _)
              have lT0 : (s.o.take kk).length = kk := by rw [List.length_take]; omega
              have lD0 : (s.o.drop (kk + 1)).length = j0 - kk := by rw [List.length_drop]; omega
              obtain ⟨A, hA, hAD⟩ : ∃ A, (if co = kk + 1 then some (⟨go, 0, none⟩ : Addr) else some ⟨go, (kk + 1) * 3, none⟩) = some ⟨go, A, none⟩ ∧ (co ≠ kk + 1 → A = (kk + 1) * 3) := by
                by_cases hc : co = kk + 1
                · exact ⟨0, if_pos hc, fun h => absurd hc h⟩
                · exact ⟨_, if_neg hc, fun _ => rfl⟩
              have hA := Lib.hid hA
              have hD : Its w5 (some ⟨go, A, none⟩) (s.o.drop (kk + 1)) := by
                by_cases hc : co = kk + 1
                · exact its_empty (by omega)
                · rw [hAD hc]; exact its_drop hI (kk + 1)
              have hoB2 : ∀ a, some (⟨go, A, none⟩ : Addr) = some a → a.block ≠ B := fun a e => by cases e; exact fun e2 => hoB (by simpa [Value.ownBlock] using e2)
              rw [hy] at HN
              generalize s.o[kk]'(by omega) = y at *
              generalize s.o.take kk = T at *
              generalize s.o.drop (kk + 1) = D at *
              rw [hj0] at hR4 hoB
              obtain ⟨_, _, _, f0, f1, f2⟩ := cells_item hB5
              have HB5 := Lib.hid hB5
              unfold maxLen at hcm
              have hb1 : (kk : Int) < (j0 : Int) + 1 := by omega
              have hb2 : (kk : Int) < ((j0 + 1 : Nat) : Int) := by omega
              have hb0 : (0 : Int) ≤ (kk : Int) := by omega
              have lT := Lib.hid lT0; have lD := Lib.hid lD0
              clear lT0 lD0 hB3 hB5 hj0 ho hy hI hAD HR4 HNJ
              have hnm := fun W => rname_any y.t W (by unfold maxLen; omega)
              have HNM := Lib.hid hnm; clear hnm
              go_upto_region 27 with fail
              go_still_tail 12, (by kernel_rfl)
              still_call ((HNM.out _).mono (fun e w' h => ⟨h.1, h.2.symm⟩))
              repeat still_step
              refine wpStill_nil ?_
              change wpList _ _ _ _ _ w5.drew
              go_wp2_with fail
              have hR6 := ((hR4.set3 B hsz2 hfB hoB (.int .i64 3) (.string (nameB y.t)) (.int .i64 y.id)).drewN 1).drewN 1
              have hT6 := (its_set3 hT B (own_ne hoB) (.int .i64 3) (.string (nameB y.t)) (.int .i64 y.id)).two
              have hD6 := (its_set3 hD B hoB2 (.int .i64 3) (.string (nameB y.t)) (.int .i64 y.id)).two
              have HB6 := Lib.hid (heap_set3 (a' := .int .i64 3) (b' := .string (nameB y.t)) (c' := .int .i64 y.id) HB5.out)
              have hA := hA.out
              have hs1 : kk ≤ co := by omega
              have hs2 : kk ≤ j0 := by omega
              have hlT := lT.out; have hlD := lD.out
              have bl1 : (([] : List It).length + T.length) * 32 ≤ 140737488355328 := by simp; omega
              have bl2 : (T.length + D.length) * 32 ≤ 140737488355328 := by omega
              clear hlT hlD
              have hw1 : IntKind.i64.wrap ((kk : Int) + 1) = (kk : Int) + 1 := IntWalk.i64_in _ ⟨by omega, by omega⟩
              have hw2 : (0 : Int) ≤ (kk : Int) + 1 := by omega
              have hw3 : ((kk : Int) + 1).toNat = kk + 1 := by omega
              refine wp_region_any (by kernel_rfl) ?_
              try (change wpAny _ _ _ _ _ _ _ (World.drew _))
              refine wpAny_take (i := 0) (v := ?_) rfl (by kernel_rfl) (by kernel_rfl) (by kernel_rfl) (fun _ _ _ h => h) (Or.inl ⟨by rfl, ?_⟩) ?_
              rotate_left
              · (intro w; go_simp; try with_reducible rfl)
              try simp only [Act.put, List.getElem_toArray, List.getElem_cons_zero, List.getElem_cons_succ, List.setIfInBounds_toArray, List.set_cons_zero, List.set_cons_succ]
              refine wpAny_take (i := 1) (v := ?_) rfl (by kernel_rfl) (by kernel_rfl) (by kernel_rfl) (fun _ _ _ h => h) (Or.inl ⟨by rfl, ?_⟩) ?_
              rotate_left
              · (intro w; go_simp; try with_reducible rfl)
              try simp only [Act.put, List.getElem_toArray, List.getElem_cons_zero, List.getElem_cons_succ, List.setIfInBounds_toArray, List.set_cons_zero, List.set_cons_succ]
              refine wpAny_take (i := 2) (v := ?_) rfl (by kernel_rfl) (by kernel_rfl) (by kernel_rfl) (fun _ _ _ h => h) (Or.inl ⟨by rfl, ?_⟩) ?_
              rotate_left
              · (intro w; go_simp; try with_reducible rfl)
              try simp only [Act.put, List.getElem_toArray, List.getElem_cons_zero, List.getElem_cons_succ, List.setIfInBounds_toArray, List.set_cons_zero, List.set_cons_succ]
              refine wpAny_take (i := 4) (v := ?_) rfl (by kernel_rfl) (by kernel_rfl) (by kernel_rfl) (fun _ _ _ h => h) (Or.inl ⟨by rfl, ?_⟩) ?_
              rotate_left
              · (intro w; go_simp; try with_reducible rfl)
              try simp only [Act.put, List.getElem_toArray, List.getElem_cons_zero, List.getElem_cons_succ, List.setIfInBounds_toArray, List.set_cons_zero, List.set_cons_succ]
              refine wpAny_take (i := 5) (v := ?_) rfl (by kernel_rfl) (by kernel_rfl) (by kernel_rfl) (fun _ _ _ h => h) (Or.inl ⟨by rfl, ?_⟩) ?_
              rotate_left
              · (intro w; go_simp; try with_reducible rfl)
              try simp only [Act.put, List.getElem_toArray, List.getElem_cons_zero, List.getElem_cons_succ, List.setIfInBounds_toArray, List.set_cons_zero, List.set_cons_succ]
              refine wpAny_take (i := 6) (v := ?_) rfl (by kernel_rfl) (by kernel_rfl) (by kernel_rfl) (fun _ _ _ h => h) (Or.inl ⟨by rfl, ?_⟩) ?_
              rotate_left
              · (intro w; go_simp; try with_reducible rfl)
              try simp only [Act.put, List.getElem_toArray, List.getElem_cons_zero, List.getElem_cons_succ, List.setIfInBounds_toArray, List.set_cons_zero, List.set_cons_succ]
              refine wpAny_take (i := 7) (v := ?_) rfl (by kernel_rfl) (by kernel_rfl) (by kernel_rfl) (fun _ _ _ h => h) (Or.inl ⟨by rfl, ?_⟩) ?_
              rotate_left
              · (intro w; go_simp; try with_reducible rfl)
              try simp only [Act.put, List.getElem_toArray, List.getElem_cons_zero, List.getElem_cons_succ, List.setIfInBounds_toArray, List.set_cons_zero, List.set_cons_succ]
              refine wpAny_ready (rs := [3]) (by kernel_rfl) (by simp) ?_
              refine AllReady.cons rfl (fun K hK => ?_) AllReady.nil
              refine step_cat _ (by rfl) _ _ (by rfl) _ [] T _ (by rfl) (Acc.start _) (some ⟨go, 0, none⟩) kk co (by rfl) lT.out.symm hT6 bl1 ?_
              intro v1 w8 hA8
              rw [List.nil_append] at hA8
              obtain ⟨p8, c8, hv8, _⟩ := hA8.own.its
              rw [lT.out] at hv8
              subst hv8
              try go_simp
              refine hK _ _ ?_; clear hK K
              try simp only [Act.put, List.getElem_toArray, List.getElem_cons_zero, List.getElem_cons_succ, List.setIfInBounds_toArray, List.set_cons_zero, List.set_cons_succ]
              refine wpAny_ready (rs := [8]) (by kernel_rfl) (by simp) ?_
              refine AllReady.cons rfl (fun K hK => ?_) AllReady.nil
              refine step_cat _ (by rfl) _ _ (by rfl) _ T D _ (by rfl) hA8 (some ⟨go, A, none⟩) (j0 - kk) (co - (kk + 1)) (by rfl) lD.out.symm (hD6.call hA8.below) bl2 ?_
              intro v9 w9 hA9
              try go_simp
              refine hK _ _ ?_; clear hK K
              try simp only [Act.put, List.getElem_toArray, List.getElem_cons_zero, List.getElem_cons_succ, List.setIfInBounds_toArray, List.set_cons_zero, List.set_cons_succ]
              refine wpAny_take (i := 9) (v := ?_) rfl (by kernel_rfl) (by kernel_rfl) (by kernel_rfl) (fun _ _ _ h => h) (Or.inl ⟨by rfl, ?_⟩) ?_
              rotate_left
              · (intro w; go_simp; try with_reducible rfl)
              try simp only [Act.put, List.getElem_toArray, List.getElem_cons_zero, List.getElem_cons_succ, List.setIfInBounds_toArray, List.set_cons_zero, List.set_cons_succ]
              refine wpAny_done (by kernel_rfl) ?_ _
              have hR9 := hR6.madeO hA9
              obtain ⟨p9, c9, rfl, _⟩ := hA9.own.its
              have hBw := hA9.below.block B (by show B < ((((w5.setCell ⟨B, 0, none⟩ _).setCell ⟨B, 1, none⟩ _).setCell ⟨B, 2, none⟩ _)).heap.size; rw [set3_size]; exact zB5)
              go_wp2_with fail
              go_meet
              exact ⟨closeI y, _, s.id, (lineF L s.m 3).2 + 1 + 1, HN, rfl, ⟨_, _, rfl⟩, hR9, hBw.trans HB6.out⟩
            · have HN := Lib.hid (nextG_close L tags true s.o s.id s.m (by have := HC.out; omega) ho (j0, (lineF L s.m 3).2 + 1) (by unfold pickK; rw [if_pos rfl, hj0]; rfl))
              obtain ⟨_, hco, hcm, hI⟩ := hR4.itsO
              obtain ⟨g0, d0, d1, d2⟩ := its_at hI j0 (by omega)
              have hT := its_take hI j0
              have hy : s.o.getD j0 ⟨0, .empty, 0⟩ = s.o[j0]'(by omega) := by rw [List.getD_eq_getElem?_getD, List.getElem?_eq_getElem (by omega)]; rfl
              have hyt : (s.o[j0]'(by omega)).t.size ≤ 5 := hz.ot _ (List.getElem_mem _)
              have lT0 : (s.o.take j0).length = j0 := by rw [List.length_take]; omega
              have lD0 : (s.o.drop (j0 + 1)).length = 0 := by rw [List.length_drop]; omega
              obtain ⟨A, hA, hAD⟩ : ∃ A, (if co = j0 + 1 then some (⟨go, 0, none⟩ : Addr) else some ⟨go, (j0 + 1) * 3, none⟩) = some ⟨go, A, none⟩ ∧ (co ≠ j0 + 1 → A = (j0 + 1) * 3) := by
                by_cases hc : co = j0 + 1
                · exact ⟨0, if_pos hc, fun h => absurd hc h⟩
                · exact ⟨_, if_neg hc, fun _ => rfl⟩
              have hA := Lib.hid hA
              have hD : Its w3 (some ⟨go, A, none⟩) (s.o.drop (j0 + 1)) := by
                by_cases hc : co = j0 + 1
                · exact its_empty (by omega)
                · rw [hAD hc]; exact its_drop hI (j0 + 1)
              have hoB2 : ∀ a, some (⟨go, A, none⟩ : Addr) = some a → a.block ≠ B := fun a e => by cases e; exact fun e2 => hoB (by simpa [Value.ownBlock] using e2)
              rw [hy] at HN
              generalize s.o[j0]'(by omega) = y at *
              generalize s.o.take j0 = T at *
              generalize s.o.drop (j0 + 1) = D at *
              rw [hj0] at hR4 hoB hco hzol ⊢
              obtain ⟨_, _, _, f0, f1, f2⟩ := cells_item hB3
              have HB3 := Lib.hid hB3
              unfold maxLen at hcm
              have hb1 : (j0 : Int) < (j0 : Int) + 1 := by omega
              have hb2 : (j0 : Int) < ((j0 + 1 : Nat) : Int) := by omega
              have hb0 : (0 : Int) ≤ (j0 : Int) := by omega
              have lT := Lib.hid lT0; have lD := Lib.hid lD0
              clear lT0 lD0 HL HC hB3 hj0 ho hy hI hAD
              have hnm := fun W => rname_any y.t W (by unfold maxLen; omega)
              have HNM := Lib.hid hnm; clear hnm
              go_upto_region 27 with fail
              go_still_tail 12, (by kernel_rfl)
              still_call ((HNM.out _).mono (fun e w' h => ⟨h.1, h.2.symm⟩))
              repeat still_step
              refine wpStill_nil ?_
              change wpList _ _ _ _ _ w3.drew
              go_wp2_with fail
              have hR6 := ((hR4.set3 B hsz2 hfB hoB (.int .i64 3) (.string (nameB y.t)) (.int .i64 y.id)).drewN 1).drewN 1
              have hT6 := (its_set3 hT B (own_ne hoB) (.int .i64 3) (.string (nameB y.t)) (.int .i64 y.id)).two
              have hD6 := (its_set3 hD B hoB2 (.int .i64 3) (.string (nameB y.t)) (.int .i64 y.id)).two
              have HB6 := Lib.hid (heap_set3 (a' := .int .i64 3) (b' := .string (nameB y.t)) (c' := .int .i64 y.id) HB3.out)
              have hA := hA.out
              have hs1 : j0 ≤ co := by omega
              have hs2 : j0 ≤ j0 := by omega
              have hlT := lT.out; have hlD := lD.out
              have bl1 : (([] : List It).length + T.length) * 32 ≤ 140737488355328 := by simp; omega
              have bl2 : (T.length + D.length) * 32 ≤ 140737488355328 := by omega
              clear hlT hlD
              have hw1 : IntKind.i64.wrap ((j0 : Int) + 1) = (j0 : Int) + 1 := IntWalk.i64_in _ ⟨by omega, by omega⟩
              have hw2 : (0 : Int) ≤ (j0 : Int) + 1 := by omega
              have hw3 : ((j0 : Int) + 1).toNat = j0 + 1 := by omega
              refine wp_region_any (by kernel_rfl) ?_
              try (change wpAny _ _ _ _ _ _ _ (World.drew _))
              refine wpAny_take (i := 0) (v := ?_) rfl (by kernel_rfl) (by kernel_rfl) (by kernel_rfl) (fun _ _ _ h => h) (Or.inl ⟨by rfl, ?_⟩) ?_
              rotate_left
              · (intro w; go_simp; try with_reducible rfl)
              try simp only [Act.put, List.getElem_toArray, List.getElem_cons_zero, List.getElem_cons_succ, List.setIfInBounds_toArray, List.set_cons_zero, List.set_cons_succ]
              refine wpAny_take (i := 1) (v := ?_) rfl (by kernel_rfl) (by kernel_rfl) (by kernel_rfl) (fun _ _ _ h => h) (Or.inl ⟨by rfl, ?_⟩) ?_
              rotate_left
              · (intro w; go_simp; try with_reducible rfl)
              try simp only [Act.put, List.getElem_toArray, List.getElem_cons_zero, List.getElem_cons_succ, List.setIfInBounds_toArray, List.set_cons_zero, List.set_cons_succ]
              refine wpAny_take (i := 2) (v := ?_) rfl (by kernel_rfl) (by kernel_rfl) (by kernel_rfl) (fun _ _ _ h => h) (Or.inl ⟨by rfl, ?_⟩) ?_
              rotate_left
              · (intro w; go_simp; try with_reducible rfl)
              try simp only [Act.put, List.getElem_toArray, List.getElem_cons_zero, List.getElem_cons_succ, List.setIfInBounds_toArray, List.set_cons_zero, List.set_cons_succ]
              refine wpAny_take (i := 4) (v := ?_) rfl (by kernel_rfl) (by kernel_rfl) (by kernel_rfl) (fun _ _ _ h => h) (Or.inl ⟨by rfl, ?_⟩) ?_
              rotate_left
              · (intro w; go_simp; try with_reducible rfl)
              try simp only [Act.put, List.getElem_toArray, List.getElem_cons_zero, List.getElem_cons_succ, List.setIfInBounds_toArray, List.set_cons_zero, List.set_cons_succ]
              refine wpAny_take (i := 5) (v := ?_) rfl (by kernel_rfl) (by kernel_rfl) (by kernel_rfl) (fun _ _ _ h => h) (Or.inl ⟨by rfl, ?_⟩) ?_
              rotate_left
              · (intro w; go_simp; try with_reducible rfl)
              try simp only [Act.put, List.getElem_toArray, List.getElem_cons_zero, List.getElem_cons_succ, List.setIfInBounds_toArray, List.set_cons_zero, List.set_cons_succ]
              refine wpAny_take (i := 6) (v := ?_) rfl (by kernel_rfl) (by kernel_rfl) (by kernel_rfl) (fun _ _ _ h => h) (Or.inl ⟨by rfl, ?_⟩) ?_
              rotate_left
              · (intro w; go_simp; try with_reducible rfl)
              try simp only [Act.put, List.getElem_toArray, List.getElem_cons_zero, List.getElem_cons_succ, List.setIfInBounds_toArray, List.set_cons_zero, List.set_cons_succ]
              refine wpAny_take (i := 7) (v := ?_) rfl (by kernel_rfl) (by kernel_rfl) (by kernel_rfl) (fun _ _ _ h => h) (Or.inl ⟨by rfl, ?_⟩) ?_
              rotate_left
              · (intro w; go_simp; try with_reducible rfl)
              try simp only [Act.put, List.getElem_toArray, List.getElem_cons_zero, List.getElem_cons_succ, List.setIfInBounds_toArray, List.set_cons_zero, List.set_cons_succ]
              refine wpAny_ready (rs := [3]) (by kernel_rfl) (by simp) ?_
              refine AllReady.cons rfl (fun K hK => ?_) AllReady.nil
              refine step_cat _ (by rfl) _ _ (by rfl) _ [] T _ (by rfl) (Acc.start _) (some ⟨go, 0, none⟩) j0 co (by rfl) lT.out.symm hT6 bl1 ?_
              intro v1 w8 hA8
              rw [List.nil_append] at hA8
              obtain ⟨p8, c8, hv8, _⟩ := hA8.own.its
              rw [lT.out] at hv8
              subst hv8
              try go_simp
              refine hK _ _ ?_; clear hK K
              try simp only [Act.put, List.getElem_toArray, List.getElem_cons_zero, List.getElem_cons_succ, List.setIfInBounds_toArray, List.set_cons_zero, List.set_cons_succ]
              refine wpAny_ready (rs := [8]) (by kernel_rfl) (by simp) ?_
              refine AllReady.cons rfl (fun K hK => ?_) AllReady.nil
              refine step_cat _ (by rfl) _ _ (by rfl) _ T D _ (by rfl) hA8 (some ⟨go, A, none⟩) (0) (co - (j0 + 1)) (by rfl) lD.out.symm (hD6.call hA8.below) bl2 ?_
              intro v9 w9 hA9
              try go_simp
              refine hK _ _ ?_; clear hK K
              try simp only [Act.put, List.getElem_toArray, List.getElem_cons_zero, List.getElem_cons_succ, List.setIfInBounds_toArray, List.set_cons_zero, List.set_cons_succ]
              refine wpAny_take (i := 9) (v := ?_) rfl (by kernel_rfl) (by kernel_rfl) (by kernel_rfl) (fun _ _ _ h => h) (Or.inl ⟨by rfl, ?_⟩) ?_
              rotate_left
              · (intro w; go_simp; try with_reducible rfl)
              try simp only [Act.put, List.getElem_toArray, List.getElem_cons_zero, List.getElem_cons_succ, List.setIfInBounds_toArray, List.set_cons_zero, List.set_cons_succ]
              refine wpAny_done (by kernel_rfl) ?_ _
              have hR9 := hR6.madeO hA9
              obtain ⟨p9, c9, rfl, _⟩ := hA9.own.its
              have hBw := hA9.below.block B (by show B < ((((w3.setCell ⟨B, 0, none⟩ _).setCell ⟨B, 1, none⟩ _).setCell ⟨B, 2, none⟩ _)).heap.size; rw [set3_size]; exact zB)
              go_wp2_with fail
              go_meet
              exact ⟨closeI y, _, s.id, (lineF L s.m 3).2 + 1, HN, rfl, ⟨_, _, rfl⟩, hR9, hBw.trans HB6.out⟩
          · have hol : s.o.length = 0 := by omega
            have q0 : decide ((0 : Int) ≤ (s.o.length : Int) - 1) = false := decide_eq_false (by omega)
            have q1 : decide ((1 : Int) ≤ (s.o.length : Int)) = false := decide_eq_false (by omega)
            have q2 : decide (1 ≤ s.o.length) = false := decide_eq_false (by omega)
            have q3 : decide (0 < s.o.length) = false := decide_eq_false (by omega)
            have HO := Lib.hid ho
            clear ho hol
            cases tags
            · have HN := Lib.hid (nextG_text L false nested s.o s.id s.m (by have := HC.out; have := HO.out; right; right; exact ⟨by omega, by omega, HO.out, by simp⟩))
              clear HL HC
              go_wp2_with fail
              go_meet
              exact ⟨⟨1, (lineF L s.m 3).1, 0⟩, s.o, s.id, (lineF L s.m 3).2 + 1, HN, rfl, ⟨_, _, rfl⟩, hR4, hB3⟩
            cases nested
            · have HN := Lib.hid (nextG_alone L true false s.o s.id s.m (by have := HC.out; omega) HO.out ⟨rfl, rfl⟩)
              obtain ⟨_, _, _, f0, f1, f2⟩ := cells_item hB3
              have HB3 := Lib.hid hB3
              clear HL HC hB3
              go_wp2_with fail
              go_meet
              exact ⟨⟨3, ⟨#[98]⟩, (s.id + 1 : Nat)⟩, s.o, s.id + 1, (lineF L s.m 3).2 + 1, HN, rfl, ⟨_, _, rfl⟩, hR4.set3 B hsz2 hfB hoB _ _ _, heap_set3 HB3.out⟩
            · have HN := Lib.hid (nextG_text L true true s.o s.id s.m (by have := HC.out; have := HO.out; right; right; exact ⟨by omega, by omega, HO.out, by simp⟩))
              clear HL HC
              go_wp2_with fail
              go_meet
              exact ⟨⟨1, (lineF L s.m 3).1, 0⟩, s.o, s.id, (lineF L s.m 3).2 + 1, HN, rfl, ⟨_, _, rfl⟩, hR4, hB3⟩
        · by_cases ho : 0 < s.o.length
          · obtain ⟨j0, hj0⟩ : ∃ j0, s.o.length = j0 + 1 := ⟨s.o.length - 1, by omega⟩
            obtain ⟨go, rfl⟩ := hR4.atO ho
            cases nested
            · have hnj : ∀ W, NumsAt W b pn cn L ((lineF L s.m 3).2 + 1) → _ := fun W h => next_any b pn cn L ((lineF L s.m 3).2 + 1) ((j0 : Int) + 1) (j0 + 1) (by omega) W h (by omega) (by omega) (by omega)
              have hkj := nx_lt L ((lineF L s.m 3).2 + 1) (j0 + 1) (by omega)
              obtain ⟨kk, hkk⟩ : ∃ kk, kk = nx L ((lineF L s.m 3).2 + 1) (j0 + 1) := ⟨_, rfl⟩
              rw [← hkk] at hnj hkj
              have HNJ := Lib.hid hnj; clear hnj
              have HN := Lib.hid (nextG_close L tags false s.o s.id s.m (by have := HC.out; omega) ho (kk, (lineF L s.m 3).2 + 1 + 1) (by unfold pickK; rw [if_neg (by decide), hj0, hkk]))
              clear hkk
              obtain ⟨_, hco, hcm, hI⟩ := hR4.itsO
              rw [hj0] at hco hzol ⊢
              have HR4 := Lib.hid hR4
              clear HL HC hI hR4
              go_upto_region 54 with fail
              go_wp2_with fail
              refine (HNJ.out _ HR4.out.nums).mono ?_
              rintro e w5 ⟨rfl, hg5, hN5⟩
              have hR4 := HR4.out.next hg5 hN5
              have hB5 := (hg5.block B zB (fun e => by injection e; omega)).trans hB3
              have zB5 : B < w5.heap.size := (Array.getElem?_eq_some_iff.1 hB5).1
              obtain ⟨_, _, _, hI⟩ := hR4.itsO
              obtain ⟨g0, d0, d1, d2⟩ := its_at hI kk (by omega)
              have hT := its_take hI kk
              have hy : s.o.getD kk ⟨0, .empty, 0⟩ = s.o[kk]'(by omega) := by rw [List.getD_eq_getElem?_getD, List.getElem?_eq_getElem (by omega)]; rfl
              have hyt : (s.o[kk]'(by omega)).t.size ≤ 5 := hz.ot _ (List.getElem_mem _)
              have lT0 : (s.o.take kk).length = kk := by rw [List.length_take]; omega
              have lD0 : (s.o.drop (kk + 1)).length = j0 - kk := by rw [List.length_drop]; omega
              obtain ⟨A, hA, hAD⟩ : ∃ A, (if co = kk + 1 then some (⟨go, 0, none⟩ : Addr) else some ⟨go, (kk + 1) * 3, none⟩) = some ⟨go, A, none⟩ ∧ (co ≠ kk + 1 → A = (kk + 1) * 3) := by
                by_cases hc : co = kk + 1
                · exact ⟨0, if_pos hc, fun h => absurd hc h⟩
                · exact ⟨_, if_neg hc, fun _ => rfl⟩
              have hA := Lib.hid hA
              have hD : Its w5 (some ⟨go, A, none⟩) (s.o.drop (kk + 1)) := by
                by_cases hc : co = kk + 1
                · exact its_empty (by omega)
                · rw [hAD hc]; exact its_drop hI (kk + 1)
              have hoB2 : ∀ a, some (⟨go, A, none⟩ : Addr) = some a → a.block ≠ B := fun a e => by cases e; exact fun e2 => hoB (by simpa [Value.ownBlock] using e2)
              rw [hy] at HN
              generalize s.o[kk]'(by omega) = y at *
              generalize s.o.take kk = T at *
              generalize s.o.drop (kk + 1) = D at *
              rw [hj0] at hR4 hoB
              obtain ⟨_, _, _, f0, f1, f2⟩ := cells_item hB5
              have HB5 := Lib.hid hB5
              unfold maxLen at hcm
              have hb1 : (kk : Int) < (j0 : Int) + 1 := by omega
              have hb2 : (kk : Int) < ((j0 + 1 : Nat) : Int) := by omega
              have hb0 : (0 : Int) ≤ (kk : Int) := by omega
              have lT := Lib.hid lT0; have lD := Lib.hid lD0
              clear lT0 lD0 hB3 hB5 hj0 ho hy hI hAD HR4 HNJ
              have hnm := fun W => rname_any y.t W (by unfold maxLen; omega)
              have HNM := Lib.hid hnm; clear hnm
              go_upto_region 27 with fail
              go_still_tail 12, (by kernel_rfl)
              still_call ((HNM.out _).mono (fun e w' h => ⟨h.1, h.2.symm⟩))
              repeat still_step
              refine wpStill_nil ?_
              change wpList _ _ _ _ _ w5.drew
              go_wp2_with fail
              have hR6 := ((hR4.set3 B hsz2 hfB hoB (.int .i64 3) (.string (nameB y.t)) (.int .i64 y.id)).drewN 1).drewN 1
              have hT6 := (its_set3 hT B (own_ne hoB) (.int .i64 3) (.string (nameB y.t)) (.int .i64 y.id)).two
              have hD6 := (its_set3 hD B hoB2 (.int .i64 3) (.string (nameB y.t)) (.int .i64 y.id)).two
              have HB6 := Lib.hid (heap_set3 (a' := .int .i64 3) (b' := .string (nameB y.t)) (c' := .int .i64 y.id) HB5.out)
              have hA := hA.out
              have hs1 : kk ≤ co := by omega
              have hs2 : kk ≤ j0 := by omega
              have hlT := lT.out; have hlD := lD.out
              have bl1 : (([] : List It).length + T.length) * 32 ≤ 140737488355328 := by simp; omega
              have bl2 : (T.length + D.length) * 32 ≤ 140737488355328 := by omega
              clear hlT hlD
              have hw1 : IntKind.i64.wrap ((kk : Int) + 1) = (kk : Int) + 1 := IntWalk.i64_in _ ⟨by omega, by omega⟩
              have hw2 : (0 : Int) ≤ (kk : Int) + 1 := by omega
              have hw3 : ((kk : Int) + 1).toNat = kk + 1 := by omega
              refine wp_region_any (by kernel_rfl) ?_
              try (change wpAny _ _ _ _ _ _ _ (World.drew _))
              refine wpAny_take (i := 0) (v := ?_) rfl (by kernel_rfl) (by kernel_rfl) (by kernel_rfl) (fun _ _ _ h => h) (Or.inl ⟨by rfl, ?_⟩) ?_
              rotate_left
              · (intro w; go_simp; try with_reducible rfl)
              try simp only [Act.put, List.getElem_toArray, List.getElem_cons_zero, List.getElem_cons_succ, List.setIfInBounds_toArray, List.set_cons_zero, List.set_cons_succ]
              refine wpAny_take (i := 1) (v := ?_) rfl (by kernel_rfl) (by kernel_rfl) (by kernel_rfl) (fun _ _ _ h => h) (Or.inl ⟨by rfl, ?_⟩) ?_
              rotate_left
              · (intro w; go_simp; try with_reducible rfl)
              try simp only [Act.put, List.getElem_toArray, List.getElem_cons_zero, List.getElem_cons_succ, List.setIfInBounds_toArray, List.set_cons_zero, List.set_cons_succ]
              refine wpAny_take (i := 2) (v := ?_) rfl (by kernel_rfl) (by kernel_rfl) (by kernel_rfl) (fun _ _ _ h => h) (Or.inl ⟨by rfl, ?_⟩) ?_
              rotate_left
              · (intro w; go_simp; try with_reducible rfl)
              try simp only [Act.put, List.getElem_toArray, List.getElem_cons_zero, List.getElem_cons_succ, List.setIfInBounds_toArray, List.set_cons_zero, List.set_cons_succ]
              refine wpAny_take (i := 4) (v := ?_) rfl (by kernel_rfl) (by kernel_rfl) (by kernel_rfl) (fun _ _ _ h => h) (Or.inl ⟨by rfl, ?_⟩) ?_
              rotate_left
              · (intro w; go_simp; try with_reducible rfl)
              try simp only [Act.put, List.getElem_toArray, List.getElem_cons_zero, List.getElem_cons_succ, List.setIfInBounds_toArray, List.set_cons_zero, List.set_cons_succ]
              refine wpAny_take (i := 5) (v := ?_) rfl (by kernel_rfl) (by kernel_rfl) (by kernel_rfl) (fun _ _ _ h => h) (Or.inl ⟨by rfl, ?_⟩) ?_
              rotate_left
              · (intro w; go_simp; try with_reducible rfl)
              try simp only [Act.put, List.getElem_toArray, List.getElem_cons_zero, List.getElem_cons_succ, List.setIfInBounds_toArray, List.set_cons_zero, List.set_cons_succ]
              refine wpAny_take (i := 6) (v := ?_) rfl (by kernel_rfl) (by kernel_rfl) (by kernel_rfl) (fun _ _ _ h => h) (Or.inl ⟨by rfl, ?_⟩) ?_
              rotate_left
              · (intro w; go_simp; try with_reducible rfl)
              try simp only [Act.put, List.getElem_toArray, List.getElem_cons_zero, List.getElem_cons_succ, List.setIfInBounds_toArray, List.set_cons_zero, List.set_cons_succ]
              refine wpAny_take (i := 7) (v := ?_) rfl (by kernel_rfl) (by kernel_rfl) (by kernel_rfl) (fun _ _ _ h => h) (Or.inl ⟨by rfl, ?_⟩) ?_
              rotate_left
              · (intro w; go_simp; try with_reducible rfl)
              try simp only [Act.put, List.getElem_toArray, List.getElem_cons_zero, List.getElem_cons_succ, List.setIfInBounds_toArray, List.set_cons_zero, List.set_cons_succ]
              refine wpAny_ready (rs := [3]) (by kernel_rfl) (by simp) ?_
              refine AllReady.cons rfl (fun K hK => ?_) AllReady.nil
              refine step_cat _ (by rfl) _ _ (by rfl) _ [] T _ (by rfl) (Acc.start _) (some ⟨go, 0, none⟩) kk co (by rfl) lT.out.symm hT6 bl1 ?_
              intro v1 w8 hA8
              rw [List.nil_append] at hA8
              obtain ⟨p8, c8, hv8, _⟩ := hA8.own.its
              rw [lT.out] at hv8
              subst hv8
              try go_simp
              refine hK _ _ ?_; clear hK K
              try simp only [Act.put, List.getElem_toArray, List.getElem_cons_zero, List.getElem_cons_succ, List.setIfInBounds_toArray, List.set_cons_zero, List.set_cons_succ]
              refine wpAny_ready (rs := [8]) (by kernel_rfl) (by simp) ?_
              refine AllReady.cons rfl (fun K hK => ?_) AllReady.nil
              refine step_cat _ (by rfl) _ _ (by rfl) _ T D _ (by rfl) hA8 (some ⟨go, A, none⟩) (j0 - kk) (co - (kk + 1)) (by rfl) lD.out.symm (hD6.call hA8.below) bl2 ?_
              intro v9 w9 hA9
              try go_simp
              refine hK _ _ ?_; clear hK K
              try simp only [Act.put, List.getElem_toArray, List.getElem_cons_zero, List.getElem_cons_succ, List.setIfInBounds_toArray, List.set_cons_zero, List.set_cons_succ]
              refine wpAny_take (i := 9) (v := ?_) rfl (by kernel_rfl) (by kernel_rfl) (by kernel_rfl) (fun _ _ _ h => h) (Or.inl ⟨by rfl, ?_⟩) ?_
              rotate_left
              · (intro w; go_simp; try with_reducible rfl)
              try simp only [Act.put, List.getElem_toArray, List.getElem_cons_zero, List.getElem_cons_succ, List.setIfInBounds_toArray, List.set_cons_zero, List.set_cons_succ]
              refine wpAny_done (by kernel_rfl) ?_ _
              have hR9 := hR6.madeO hA9
              obtain ⟨p9, c9, rfl, _⟩ := hA9.own.its
              have hBw := hA9.below.block B (by show B < ((((w5.setCell ⟨B, 0, none⟩ _).setCell ⟨B, 1, none⟩ _).setCell ⟨B, 2, none⟩ _)).heap.size; rw [set3_size]; exact zB5)
              go_wp2_with fail
              go_meet
              exact ⟨closeI y, _, s.id, (lineF L s.m 3).2 + 1 + 1, HN, rfl, ⟨_, _, rfl⟩, hR9, hBw.trans HB6.out⟩
            · have HN := Lib.hid (nextG_close L tags true s.o s.id s.m (by have := HC.out; omega) ho (j0, (lineF L s.m 3).2 + 1) (by unfold pickK; rw [if_pos rfl, hj0]; rfl))
              obtain ⟨_, hco, hcm, hI⟩ := hR4.itsO
              obtain ⟨g0, d0, d1, d2⟩ := its_at hI j0 (by omega)
              have hT := its_take hI j0
              have hy : s.o.getD j0 ⟨0, .empty, 0⟩ = s.o[j0]'(by omega) := by rw [List.getD_eq_getElem?_getD, List.getElem?_eq_getElem (by omega)]; rfl
              have hyt : (s.o[j0]'(by omega)).t.size ≤ 5 := hz.ot _ (List.getElem_mem _)
              have lT0 : (s.o.take j0).length = j0 := by rw [List.length_take]; omega
              have lD0 : (s.o.drop (j0 + 1)).length = 0 := by rw [List.length_drop]; omega
              obtain ⟨A, hA, hAD⟩ : ∃ A, (if co = j0 + 1 then some (⟨go, 0, none⟩ : Addr) else some ⟨go, (j0 + 1) * 3, none⟩) = some ⟨go, A, none⟩ ∧ (co ≠ j0 + 1 → A = (j0 + 1) * 3) := by
                by_cases hc : co = j0 + 1
                · exact ⟨0, if_pos hc, fun h => absurd hc h⟩
                · exact ⟨_, if_neg hc, fun _ => rfl⟩
              have hA := Lib.hid hA
              have hD : Its w3 (some ⟨go, A, none⟩) (s.o.drop (j0 + 1)) := by
                by_cases hc : co = j0 + 1
                · exact its_empty (by omega)
                · rw [hAD hc]; exact its_drop hI (j0 + 1)
              have hoB2 : ∀ a, some (⟨go, A, none⟩ : Addr) = some a → a.block ≠ B := fun a e => by cases e; exact fun e2 => hoB (by simpa [Value.ownBlock] using e2)
              rw [hy] at HN
              generalize s.o[j0]'(by omega) = y at *
              generalize s.o.take j0 = T at *
              generalize s.o.drop (j0 + 1) = D at *
              rw [hj0] at hR4 hoB hco hzol ⊢
              obtain ⟨_, _, _, f0, f1, f2⟩ := cells_item hB3
              have HB3 := Lib.hid hB3
              unfold maxLen at hcm
              have hb1 : (j0 : Int) < (j0 : Int) + 1 := by omega
              have hb2 : (j0 : Int) < ((j0 + 1 : Nat) : Int) := by omega
              have hb0 : (0 : Int) ≤ (j0 : Int) := by omega
              have lT := Lib.hid lT0; have lD := Lib.hid lD0
              clear lT0 lD0 HL HC hB3 hj0 ho hy hI hAD
              have hnm := fun W => rname_any y.t W (by unfold maxLen; omega)
              have HNM := Lib.hid hnm; clear hnm
              go_upto_region 27 with fail
              go_still_tail 12, (by kernel_rfl)
              still_call ((HNM.out _).mono (fun e w' h => ⟨h.1, h.2.symm⟩))
              repeat still_step
              refine wpStill_nil ?_
              change wpList _ _ _ _ _ w3.drew
              go_wp2_with fail
              have hR6 := ((hR4.set3 B hsz2 hfB hoB (.int .i64 3) (.string (nameB y.t)) (.int .i64 y.id)).drewN 1).drewN 1
              have hT6 := (its_set3 hT B (own_ne hoB) (.int .i64 3) (.string (nameB y.t)) (.int .i64 y.id)).two
              have hD6 := (its_set3 hD B hoB2 (.int .i64 3) (.string (nameB y.t)) (.int .i64 y.id)).two
              have HB6 := Lib.hid (heap_set3 (a' := .int .i64 3) (b' := .string (nameB y.t)) (c' := .int .i64 y.id) HB3.out)
              have hA := hA.out
              have hs1 : j0 ≤ co := by omega
              have hs2 : j0 ≤ j0 := by omega
              have hlT := lT.out; have hlD := lD.out
              have bl1 : (([] : List It).length + T.length) * 32 ≤ 140737488355328 := by simp; omega
              have bl2 : (T.length + D.length) * 32 ≤ 140737488355328 := by omega
              clear hlT hlD
              have hw1 : IntKind.i64.wrap ((j0 : Int) + 1) = (j0 : Int) + 1 := IntWalk.i64_in _ ⟨by omega, by omega⟩
              have hw2 : (0 : Int) ≤ (j0 : Int) + 1 := by omega
              have hw3 : ((j0 : Int) + 1).toNat = j0 + 1 := by omega
              refine wp_region_any (by kernel_rfl) ?_
              try (change wpAny _ _ _ _ _ _ _ (World.drew _))
              refine wpAny_take (i := 0) (v := ?_) rfl (by kernel_rfl) (by kernel_rfl) (by kernel_rfl) (fun _ _ _ h => h) (Or.inl ⟨by rfl, ?_⟩) ?_
              rotate_left
              · (intro w; go_simp; try with_reducible rfl)
              try simp only [Act.put, List.getElem_toArray, List.getElem_cons_zero, List.getElem_cons_succ, List.setIfInBounds_toArray, List.set_cons_zero, List.set_cons_succ]
              refine wpAny_take (i := 1) (v := ?_) rfl (by kernel_rfl) (by kernel_rfl) (by kernel_rfl) (fun _ _ _ h => h) (Or.inl ⟨by rfl, ?_⟩) ?_
              rotate_left
              · (intro w; go_simp; try with_reducible rfl)
              try simp only [Act.put, List.getElem_toArray, List.getElem_cons_zero, List.getElem_cons_succ, List.setIfInBounds_toArray, List.set_cons_zero, List.set_cons_succ]
              refine wpAny_take (i := 2) (v := ?_) rfl (by kernel_rfl) (by kernel_rfl) (by kernel_rfl) (fun _ _ _ h => h) (Or.inl ⟨by rfl, ?_⟩) ?_
              rotate_left
              · (intro w; go_simp; try with_reducible rfl)
              try simp only [Act.put, List.getElem_toArray, List.getElem_cons_zero, List.getElem_cons_succ, List.setIfInBounds_toArray, List.set_cons_zero, List.set_cons_succ]
              refine wpAny_take (i := 4) (v := ?_) rfl (by kernel_rfl) (by kernel_rfl) (by kernel_rfl) (fun _ _ _ h => h) (Or.inl ⟨by rfl, ?_⟩) ?_
              rotate_left
              · (intro w; go_simp; try with_reducible rfl)
              try simp only [Act.put, List.getElem_toArray, List.getElem_cons_zero, List.getElem_cons_succ, List.setIfInBounds_toArray, List.set_cons_zero, List.set_cons_succ]
              refine wpAny_take (i := 5) (v := ?_) rfl (by kernel_rfl) (by kernel_rfl) (by kernel_rfl) (fun _ _ _ h => h) (Or.inl ⟨by rfl, ?_⟩) ?_
              rotate_left
              · (intro w; go_simp; try with_reducible rfl)
              try simp only [Act.put, List.getElem_toArray, List.getElem_cons_zero, List.getElem_cons_succ, List.setIfInBounds_toArray, List.set_cons_zero, List.set_cons_succ]
              refine wpAny_take (i := 6) (v := ?_) rfl (by kernel_rfl) (by kernel_rfl) (by kernel_rfl) (fun _ _ _ h => h) (Or.inl ⟨by rfl, ?_⟩) ?_
              rotate_left
              · (intro w; go_simp; try with_reducible rfl)
              try simp only [Act.put, List.getElem_toArray, List.getElem_cons_zero, List.getElem_cons_succ, List.setIfInBounds_toArray, List.set_cons_zero, List.set_cons_succ]
              refine wpAny_take (i := 7) (v := ?_) rfl (by kernel_rfl) (by kernel_rfl) (by kernel_rfl) (fun _ _ _ h => h) (Or.inl ⟨by rfl, ?_⟩) ?_
              rotate_left
              · (intro w; go_simp; try with_reducible rfl)
              try simp only [Act.put, List.getElem_toArray, List.getElem_cons_zero, List.getElem_cons_succ, List.setIfInBounds_toArray, List.set_cons_zero, List.set_cons_succ]
              refine wpAny_ready (rs := [3]) (by kernel_rfl) (by simp) ?_
              refine AllReady.cons rfl (fun K hK => ?_) AllReady.nil
              refine step_cat _ (by rfl) _ _ (by rfl) _ [] T _ (by rfl) (Acc.start _) (some ⟨go, 0, none⟩) j0 co (by rfl) lT.out.symm hT6 bl1 ?_
              intro v1 w8 hA8
              rw [List.nil_append] at hA8
              obtain ⟨p8, c8, hv8, _⟩ := hA8.own.its
              rw [lT.out] at hv8
              subst hv8
              try go_simp
              refine hK _ _ ?_; clear hK K
              try simp only [Act.put, List.getElem_toArray, List.getElem_cons_zero, List.getElem_cons_succ, List.setIfInBounds_toArray, List.set_cons_zero, List.set_cons_succ]
              refine wpAny_ready (rs := [8]) (by kernel_rfl) (by simp) ?_
              refine AllReady.cons rfl (fun K hK => ?_) AllReady.nil
              refine step_cat _ (by rfl) _ _ (by rfl) _ T D _ (by rfl) hA8 (some ⟨go, A, none⟩) (0) (co - (j0 + 1)) (by rfl) lD.out.symm (hD6.call hA8.below) bl2 ?_
              intro v9 w9 hA9
              try go_simp
              refine hK _ _ ?_; clear hK K
              try simp only [Act.put, List.getElem_toArray, List.getElem_cons_zero, List.getElem_cons_succ, List.setIfInBounds_toArray, List.set_cons_zero, List.set_cons_succ]
              refine wpAny_take (i := 9) (v := ?_) rfl (by kernel_rfl) (by kernel_rfl) (by kernel_rfl) (fun _ _ _ h => h) (Or.inl ⟨by rfl, ?_⟩) ?_
              rotate_left
              · (intro w; go_simp; try with_reducible rfl)
              try simp only [Act.put, List.getElem_toArray, List.getElem_cons_zero, List.getElem_cons_succ, List.setIfInBounds_toArray, List.set_cons_zero, List.set_cons_succ]
              refine wpAny_done (by kernel_rfl) ?_ _
              have hR9 := hR6.madeO hA9
              obtain ⟨p9, c9, rfl, _⟩ := hA9.own.its
              have hBw := hA9.below.block B (by show B < ((((w3.setCell ⟨B, 0, none⟩ _).setCell ⟨B, 1, none⟩ _).setCell ⟨B, 2, none⟩ _)).heap.size; rw [set3_size]; exact zB)
              go_wp2_with fail
              go_meet
              exact ⟨closeI y, _, s.id, (lineF L s.m 3).2 + 1, HN, rfl, ⟨_, _, rfl⟩, hR9, hBw.trans HB6.out⟩
          · have hol : s.o.length = 0 := by omega
            have q0 : decide ((0 : Int) ≤ (s.o.length : Int) - 1) = false := decide_eq_false (by omega)
            have q1 : decide ((1 : Int) ≤ (s.o.length : Int)) = false := decide_eq_false (by omega)
            have q2 : decide (1 ≤ s.o.length) = false := decide_eq_false (by omega)
            have q3 : decide (0 < s.o.length) = false := decide_eq_false (by omega)
            have HO := Lib.hid ho
            clear ho hol
            cases tags
            · have HN := Lib.hid (nextG_text L false nested s.o s.id s.m (by have := HC.out; have := HO.out; right; right; exact ⟨by omega, by omega, HO.out, by simp⟩))
              clear HL HC
              go_wp2_with fail
              go_meet
              exact ⟨⟨1, (lineF L s.m 3).1, 0⟩, s.o, s.id, (lineF L s.m 3).2 + 1, HN, rfl, ⟨_, _, rfl⟩, hR4, hB3⟩
            cases nested
            · have HN := Lib.hid (nextG_alone L true false s.o s.id s.m (by have := HC.out; omega) HO.out ⟨rfl, rfl⟩)
              obtain ⟨_, _, _, f0, f1, f2⟩ := cells_item hB3
              have HB3 := Lib.hid hB3
              clear HL HC hB3
              go_wp2_with fail
              go_meet
              exact ⟨⟨3, ⟨#[98]⟩, (s.id + 1 : Nat)⟩, s.o, s.id + 1, (lineF L s.m 3).2 + 1, HN, rfl, ⟨_, _, rfl⟩, hR4.set3 B hsz2 hfB hoB _ _ _, heap_set3 HB3.out⟩
            · have HN := Lib.hid (nextG_text L true true s.o s.id s.m (by have := HC.out; have := HO.out; right; right; exact ⟨by omega, by omega, HO.out, by simp⟩))
              clear HL HC
              go_wp2_with fail
              go_meet
              exact ⟨⟨1, (lineF L s.m 3).1, 0⟩, s.o, s.id, (lineF L s.m 3).2 + 1, HN, rfl, ⟨_, _, rfl⟩, hR4, hB3⟩
        · have HN := Lib.hid (nextG_text L tags nested s.o s.id s.m (by have := HC.out; omega))
          clear HL HC
          go_wp2_with fail
          go_meet
          exact ⟨⟨1, (lineF L s.m 3).1, 0⟩, s.o, s.id, (lineF L s.m 3).2 + 1, HN, rfl, ⟨_, _, rfl⟩, hR4, hB3⟩
      case rest =>
        obtain ⟨x, o', id', m', HX, rfl, ⟨p1, c1, rfl⟩, hR5, hB5⟩ := hcut
        obtain ⟨y0, y1, y2, _, _, _⟩ := cells_item hB5
        have hstp : stepG L tags nested s = ⟨norm (s.f ++ [x]), o', id', m'⟩ := by unfold stepG; rw [HX.out]
        rw [hstp] at hz'
        have hrun : runG L tags nested k ⟨norm (s.f ++ [x]), o', id', m'⟩ = F := by rw [← hstp]; exact HL.out
        have hz5 := hz.fl; have hz6 := hz.ft
        have hx5 := next_ok L tags nested s.o s.id s.m hz.ot
        rw [HX.out] at hx5
        have hx6 : x.t.size ≤ 18 := hx5.x
        have htx : txtI [x] = x.t.size := by simp [txtI]
        have hcat := fun W q (hR : Its W pf s.f) (hS : Its W q [x]) => rconcat_any pf q cf 1 s.f [x] W hR hS (by simp; omega) (by rw [htx]; omega)
        have HCat := Lib.hid hcat; have HRun := Lib.hid hrun
        clear hcat hrun hstp htx hx5 hx6 hz5 hz6
        have hR6 := hR5.alloc (.cells #[.int .i64 x.k, .string x.t, .int .i64 x.id] 54)
        have hS6 := its_one (heap_alloc_new wc (.cells #[.int .i64 x.k, .string x.t, .int .i64 x.id] 54))
        go_wp2_with fail
        refine (HCat.out _ _ hR6.itsF.2.2.2 hS6).mono ?_
        rintro e w7 ⟨v7, rfl, hA7⟩
        have hR7 := hR6.made hA7
        obtain ⟨p7, c7, rfl, _⟩ := hR7.f.its
        go_wp2_with fail
        go_roundw
        case rel => exact ⟨k, j + 1, ⟨norm (s.f ++ [x]), o', id', m'⟩, rfl, rfl, ⟨_, _, rfl⟩, ⟨_, _, rfl⟩, by omega, hz', hR7, HRun⟩
        case measure => simp [intOf]
    · obtain rfl : k = 0 := by omega
      have hfin : s = F := HL.out
      subst hfin
      have hzf := hz.fl; have hzo := hz.ol
      go_wp2_with fail
      go_loopw [9, 15] (fun vf z wr' => ∃ (i : Nat) (zi : Int), i ≤ s.o.length ∧ z = .int .i64 zi ∧ zi = (i : Int) - 1 ∧ (∃ p c, vf = .slice p (closeF s.f s.o i).length c) ∧ (nested = false → i = s.o.length) ∧ GRel b pn cn L w (closeF s.f s.o i) s.o s.m vf (.slice po s.o.length co) wr') (fun _ z _ => (intOf z + 1).toNat)
      case atStart => exact ⟨s.o.length, _, Nat.le_refl _, rfl, rfl, ⟨pf, cf, by rw [closeF_all]⟩, fun _ => rfl, by rw [closeF_all]; exact hR⟩
      case round =>
        obtain ⟨i, zi, hi, rfl, hzi, ⟨pf2, cf2, rfl⟩, hns, hR2⟩ := hrel
        have hlen := closeF_len s.f s.o i
        by_cases hgo : 0 < i ∧ nested = true
        · obtain ⟨h0, rfl⟩ := hgo
          obtain ⟨j, rfl⟩ : ∃ j, i = j + 1 := ⟨i - 1, by omega⟩
          obtain rfl : zi = (j : Int) := by omega
          have q1 : decide ((0 : Int) ≤ (j : Int)) = true := decide_eq_true (by omega)
          have ho : 0 < s.o.length := by omega
          obtain ⟨go, rfl⟩ := hR2.atO ho
          obtain ⟨_, hco, hcm, hI⟩ := hR2.itsO
          obtain ⟨g0, d0, d1, d2⟩ := its_at hI j (by omega)
          have hnx := closeF_next s.f s.o j (by omega)
          have hyt : (s.o[j]'(by omega)).t.size ≤ 5 := hz.ot _ (List.getElem_mem _)
          generalize s.o[j]'(by omega) = y at *
          generalize closeF s.f s.o (j + 1) = M at *
          have HX := Lib.hid hnx; clear hnx hzi
          unfold maxLen at hcm
          have hb1 : (j : Int) < (s.o.length : Int) := by omega
          have hb0 : (0 : Int) ≤ (j : Int) := by omega
          have hb2 : j < s.o.length := by omega
          have hnm := fun W => rname_any y.t W (by unfold maxLen; omega)
          have HNM := Lib.hid hnm; clear hnm
          go_wp2_with fail
          refine wp_region_held_drew (S := fun W => W.cell? ⟨go, j * 3 + 1, none⟩ = some (.string y.t) ∧ W.cell? ⟨go, j * 3 + 2, none⟩ = some (.int .i64 y.id)) (by kernel_rfl) (⟨d1, d2⟩) (fun hHeld => ?_)
          refine wpAnyH_take (i := 0) (v := ?_) rfl (by kernel_rfl) (by kernel_rfl) (by kernel_rfl) (fun _ _ _ h => h) (Or.inl ⟨by rfl, ?_⟩) hHeld ?_
          rotate_left
          · (intro w hSw; (try dsimp only at hSw); go_simp; try with_reducible rfl)
          try simp only [Act.put, List.getElem_toArray, List.getElem_cons_zero, List.getElem_cons_succ, List.setIfInBounds_toArray, List.set_cons_zero, List.set_cons_succ]
          refine wpAnyH_take (i := 1) (v := ?_) rfl (by kernel_rfl) (by kernel_rfl) (by kernel_rfl) (fun _ _ _ h => h) (Or.inl ⟨by rfl, ?_⟩) hHeld ?_
          rotate_left
          · (intro w hSw; (try dsimp only at hSw); go_simp; try with_reducible rfl)
          try simp only [Act.put, List.getElem_toArray, List.getElem_cons_zero, List.getElem_cons_succ, List.setIfInBounds_toArray, List.set_cons_zero, List.set_cons_succ]
          refine wpAnyH_take (i := 2) (v := ?_) rfl (by kernel_rfl) (by kernel_rfl) (by kernel_rfl) (fun _ _ _ h => h) (Or.inl ⟨by rfl, ?_⟩) hHeld ?_
          rotate_left
          · (intro w hSw; (try dsimp only at hSw); go_simp; try with_reducible rfl)
          try simp only [Act.put, List.getElem_toArray, List.getElem_cons_zero, List.getElem_cons_succ, List.setIfInBounds_toArray, List.set_cons_zero, List.set_cons_succ]
          refine wpAnyH_take (i := 3) (v := ?_) rfl (by kernel_rfl) (by kernel_rfl) (by kernel_rfl) (fun _ _ _ h => h) (Or.inl ⟨by rfl, ?_⟩) hHeld ?_
          rotate_left
          · (intro w hSw; (try dsimp only at hSw); go_simp; try with_reducible rfl)
          try simp only [Act.put, List.getElem_toArray, List.getElem_cons_zero, List.getElem_cons_succ, List.setIfInBounds_toArray, List.set_cons_zero, List.set_cons_succ]
          refine wpAnyH_take (i := 4) (v := ?_) rfl (by kernel_rfl) (by kernel_rfl) (by kernel_rfl) (fun _ _ _ h => h) (Or.inl ⟨by rfl, ?_⟩) hHeld ?_
          rotate_left
          · (intro w hSw; (try dsimp only at hSw); go_simp; try with_reducible rfl)
          try simp only [Act.put, List.getElem_toArray, List.getElem_cons_zero, List.getElem_cons_succ, List.setIfInBounds_toArray, List.set_cons_zero, List.set_cons_succ]
          refine wpAnyH_take (i := 5) (v := ?_) rfl (by kernel_rfl) (by kernel_rfl) (by kernel_rfl) (fun _ _ _ h => h) (Or.inl ⟨by rfl, ?_⟩) hHeld ?_
          rotate_left
          · (intro w hSw; (try dsimp only at hSw); go_simp; try with_reducible rfl)
          try simp only [Act.put, List.getElem_toArray, List.getElem_cons_zero, List.getElem_cons_succ, List.setIfInBounds_toArray, List.set_cons_zero, List.set_cons_succ]
          refine wpAnyH_take (i := 7) (v := ?_) rfl (by kernel_rfl) (by kernel_rfl) (by kernel_rfl) (fun _ _ _ h => h) (Or.inl ⟨by rfl, ?_⟩) hHeld ?_
          rotate_left
          · (intro w hSw; (try dsimp only at hSw); go_simp; try with_reducible rfl)
          try simp only [Act.put, List.getElem_toArray, List.getElem_cons_zero, List.getElem_cons_succ, List.setIfInBounds_toArray, List.set_cons_zero, List.set_cons_succ]
          refine wpAnyH_take (i := 8) (v := ?_) rfl (by kernel_rfl) (by kernel_rfl) (by kernel_rfl) (fun _ _ _ h => h) (Or.inl ⟨by rfl, ?_⟩) hHeld ?_
          rotate_left
          · (intro w hSw; (try dsimp only at hSw); go_simp; try with_reducible rfl)
          try simp only [Act.put, List.getElem_toArray, List.getElem_cons_zero, List.getElem_cons_succ, List.setIfInBounds_toArray, List.set_cons_zero, List.set_cons_succ]
          refine wpAnyH_take (i := 9) (v := ?_) rfl (by kernel_rfl) (by kernel_rfl) (by kernel_rfl) (fun _ _ _ h => h) (Or.inl ⟨by rfl, ?_⟩) hHeld ?_
          rotate_left
          · (intro w hSw; (try dsimp only at hSw); go_simp; try with_reducible rfl)
          try simp only [Act.put, List.getElem_toArray, List.getElem_cons_zero, List.getElem_cons_succ, List.setIfInBounds_toArray, List.set_cons_zero, List.set_cons_succ]
          refine wpAnyH_take (i := 10) (v := ?_) rfl (by kernel_rfl) (by kernel_rfl) (by kernel_rfl) (fun _ _ _ h => h) (Or.inl ⟨by rfl, ?_⟩) hHeld ?_
          rotate_left
          · (intro w hSw; (try dsimp only at hSw); go_simp; try with_reducible rfl)
          try simp only [Act.put, List.getElem_toArray, List.getElem_cons_zero, List.getElem_cons_succ, List.setIfInBounds_toArray, List.set_cons_zero, List.set_cons_succ]
          refine wpAnyH_take (i := 11) (v := ?_) rfl (by kernel_rfl) (by kernel_rfl) (by kernel_rfl) (fun _ _ _ h => h) (Or.inl ⟨by rfl, ?_⟩) hHeld ?_
          rotate_left
          · (intro w hSw; (try dsimp only at hSw); go_simp; try with_reducible rfl)
          try simp only [Act.put, List.getElem_toArray, List.getElem_cons_zero, List.getElem_cons_succ, List.setIfInBounds_toArray, List.set_cons_zero, List.set_cons_succ]
          refine wpAnyH_ready (rs := [6]) (by kernel_rfl) (by simp) ?_
          refine AllReadyH.cons rfl (fun K hK => ?_) (AllReadyH.nil)
          go_simp
          refine (HNM.out _).mono ?_; rintro e w3 ⟨rfl, rfl⟩
          go_wp2_with fail
          refine hK.out _ _ (hHeld) (fun hHeld => ?_)
          clear hK K
          try simp only [Act.put, List.getElem_toArray, List.getElem_cons_zero, List.getElem_cons_succ, List.setIfInBounds_toArray, List.set_cons_zero, List.set_cons_succ]
          refine wpAnyH_take (i := 12) (v := ?_) rfl (by kernel_rfl) (by kernel_rfl) (by kernel_rfl) (fun _ _ _ h => h) (Or.inl ⟨by rfl, ?_⟩) hHeld ?_
          rotate_left
          · (intro w hSw; (try dsimp only at hSw); go_simp; try with_reducible rfl)
          try simp only [Act.put, List.getElem_toArray, List.getElem_cons_zero, List.getElem_cons_succ, List.setIfInBounds_toArray, List.set_cons_zero, List.set_cons_succ]
          have hR3 := (hR2.drewN 1).alloc (.cells #[.int .i64 3, .string (nameB y.t), .int .i64 y.id] 54)
          refine wpAnyH_ready (rs := [13]) (by kernel_rfl) (by simp) ?_
          refine AllReadyH.cons rfl (fun K hK => ?_) (AllReadyH.nil)
          go_simp
          refine hK.out _ _ (its_held2 hHeld _) (fun hHeld => ?_)
          clear hK K
          try simp only [Act.put, List.getElem_toArray, List.getElem_cons_zero, List.getElem_cons_succ, List.setIfInBounds_toArray, List.set_cons_zero, List.set_cons_succ]
          refine wpAnyH_ready (rs := [14]) (by kernel_rfl) (by simp) ?_
          refine AllReadyH.cons rfl (fun K hK => ?_) (AllReadyH.nil)
          refine step_app eI _ (by rfl) _ _ (by rfl) w.heap.size M _ (by rfl) hR3.f hR3.chg.size (closeI y) wr.heap.size #[.int .i64 3, .string (nameB y.t), .int .i64 y.id] (by rfl) (heap_alloc_new _ _) (by rfl) (by omega) (by unfold maxLen; omega) ?_
          intro g2 cp w4 hown4 hgr4 hloc4
          have hR4 := hR3.pushF hown4 hgr4 hloc4
          have hk4 := hgr4.block go (Nat.lt_of_lt_of_le g0 (blw (Below.refl _ wr) _).size) (fun e => hR3.ne _ e.symm rfl)
          refine hK.out _ _ (⟨(World.cell?_of_block hk4).trans hHeld.1, (World.cell?_of_block hk4).trans hHeld.2⟩) (fun hHeld => ?_)
          clear hK K
          try simp only [Act.put, List.getElem_toArray, List.getElem_cons_zero, List.getElem_cons_succ, List.setIfInBounds_toArray, List.set_cons_zero, List.set_cons_succ]
          refine wpAnyH_take (i := 15) (v := ?_) rfl (by kernel_rfl) (by kernel_rfl) (by kernel_rfl) (fun _ _ _ h => h) (Or.inl ⟨by rfl, ?_⟩) hHeld ?_
          rotate_left
          · (intro w hSw; (try dsimp only at hSw); go_simp; try with_reducible rfl)
          try simp only [Act.put, List.getElem_toArray, List.getElem_cons_zero, List.getElem_cons_succ, List.setIfInBounds_toArray, List.set_cons_zero, List.set_cons_succ]
          refine wpAnyH_done (by kernel_rfl) ?_ _
          go_wp2_with fail
          go_roundw
          case rel =>
            (repeat apply Exists.intro)
            exact ⟨⟨j, (j : Int) - 1, by omega, rfl, rfl, ⟨_, _, by rw [HX.out, List.length_append]; rfl⟩, (fun h => by cases h), by rw [HX.out]; exact hR4⟩, rfl⟩
          case measure => simp [intOf]
        · cases nested
          · have hil := hns rfl
            subst hil
            rw [closeF_all] at hR2
            have HX := Lib.hid (closeF_all s.f s.o)
            have hgf := HG.out
            rw [if_neg (by decide)] at hgf
            rw [closeF_all]
            obtain ⟨_, _, _, hIf⟩ := hR2.itsF
            have HGf := Lib.hid hgf
            clear hzi hgf hgo hns hIf
            by_cases hz0 : 0 ≤ zi
            · have q1 : decide (0 ≤ zi) = true := decide_eq_true hz0
              go_wp2_with fail
              go_ret
              rw [← HGf.out]
              exact ⟨_, rfl, hR2.chg, hR2.nums, hR2.f⟩
            · have q1 : decide (0 ≤ zi) = false := decide_eq_false hz0
              go_wp2_with fail
              go_ret
              rw [← HGf.out]
              exact ⟨_, rfl, hR2.chg, hR2.nums, hR2.f⟩
          · obtain rfl : i = 0 := by rcases Nat.eq_zero_or_pos i with h | h; exact h; exact absurd ⟨h, rfl⟩ hgo
            obtain rfl : zi = -1 := by omega
            rw [closeF_none] at hR2 ⊢
            have hgf := HG.out
            rw [if_pos rfl] at hgf
            generalize s.f ++ s.o.reverse.map closeI = M at *
            have HGf := Lib.hid hgf
            clear hzi hgf hgo hns
            go_wp2_with fail
            go_ret
            rw [← HGf.out]
            exact ⟨_, rfl, hR2.chg, hR2.nums, hR2.f⟩
end Go.Proofs.YteaciofacmbllaaGreatDoor
namespace Go.Proofs.YteaciofacmbllaaGreatDoor
open Go.ChangeShapes Go.WideShapes Go.ChangeAt Go.RowKit
set_option linter.unusedVariables false
set_option maxRecDepth 100000

theorem int_last (o : List Int) (h : 0 < o.length) : ∃ L y, o = L ++ [y] ∧ o.getLast? = some y := by
  have hne : o ≠ [] := by intro e; rw [e] at h; cases h
  exact ⟨o.dropLast, o.getLast hne, (List.dropLast_concat_getLast hne).symm, List.getLast?_eq_some_getLast hne⟩
/-- A slice of numbers that is not empty, as it lies. -/
theorem OwnN.at {base : Nat} {L : List Int} {v : Value} {w : World} (h : OwnN base L v w) (h0 : 0 < L.length) : ∃ g cap, v = .slice (some ⟨g, 0, none⟩) L.length cap ∧ L.length ≤ cap ∧ cap ≤ maxLen ∧ ∀ i (hi : i < L.length), w.cell? ⟨g, i, none⟩ = some (.int .i64 (L[i]'hi)) := by
  obtain ⟨p, c, hv, h1, h2, hI⟩ := h.ints
  rcases h.2 with ⟨_, hz⟩ | ⟨g, cap, cur, hv2, _⟩
  · omega
  · rw [hv] at hv2
    injection hv2 with e1 e2 e3
    subst e1; subst e3
    refine ⟨g, c, hv, h1, h2, fun i hi => ?_⟩
    obtain ⟨a, e, _, hc⟩ := hI h0
    cases e
    have := hc i hi
    rwa [show (⟨g, 0, none⟩ : Addr).add i = ⟨g, i, none⟩ by unfold Addr.add; split <;> simp_all] at this
theorem OwnN.form {base : Nat} {L : List Int} {v : Value} {w : World} (h : OwnN base L v w) : ∃ p cap, v = .slice p L.length cap := by
  obtain ⟨p, c, hv, _⟩ := h.ints; exact ⟨p, c, hv⟩

end Go.Proofs.YteaciofacmbllaaGreatDoor
namespace Go.Proofs.YteaciofacmbllaaGreatDoor
open Go.ChangeShapes Go.WideShapes Go.ChangeAt Go.RowKit
set_option linter.unusedVariables false
set_option maxRecDepth 100000

/-- The fragment of a law. -/
def mk (l : List Int) (tags nested : Bool) : List It := (fragG l tags nested 0 8).1
theorem mk_ok (l : List Int) (tags nested : Bool) : FragOk 8 (mk l tags nested) := (frag_ok l tags nested 0 8 (by decide)).1
theorem mk_sm (l : List Int) (tags nested : Bool) : Sm 1 (mk l tags nested) := ⟨by have := (mk_ok l tags nested).len; omega, by have := (mk_ok l tags nested).txt; omega⟩
/-- The address of numbers: of an empty slice it is not looked at. -/
theorem ones_any {w : World} {p : Option Addr} {L : List Int} (hL : Ones w (Value.int .i64) p L) (h0 : 0 < L.length) : ∀ a, p = some a → a.block < w.heap.size := fun a ha => by
  obtain ⟨b, e, hlt, _⟩ := hL h0
  rw [ha] at e; injection e with e; rw [e]; exact hlt

theorem NumsAt.made {p : Option Addr} {cap : Nat} {L : List Int} {w : World} (hL : Ones w (Value.int .i64) p L) (hw : ∀ i (h : i < L.length), (Lit.int .i64 (L[i]'h)).wf = true) (hc : L.length ≤ cap) (hm : cap ≤ maxLen) :
    NumsAt (w.alloc (.cells #[.slice p L.length cap, .int .i64 0] 44)) w.heap.size p cap L 0 :=
  ⟨heap_alloc_new w _, hL.call (blw (Below.refl _ _) _), fun h0 a ha => by have := ones_any hL h0 a ha; omega, hw, hc, hm⟩
def shC (st : Option (List Int × List Int)) : List Int := match st with | some (c, _) => c | none => []
def shO (st : Option (List Int × List Int)) : List Int := match st with | some (_, o) => o | none => []
/-- What Shape answers, whether it fails or not. -/
def EndShU (st : Option (List Int × List Int)) (w : World) (e : Ending) (w' : World) : Prop := ∃ p1 c1 p2 c2, e = .returned (.tuple #[.slice p1 (shC st).length c1, .slice p2 (shO st).length c2, .bool st.isSome]) ∧
  (shC st).length ≤ c1 ∧ c1 ≤ maxLen ∧ Ones w' (Value.int .i64) p1 (shC st) ∧ (shO st).length ≤ c2 ∧ c2 ≤ maxLen ∧ Ones w' (Value.int .i64) p2 (shO st) ∧ Below w.heap.size w w'
theorem EndSh.u {st : Option (List Int × List Int)} {w w' : World} {e : Ending} (h : EndSh st w e w') : EndShU st w e w' := by
  cases st with
  | none => exact ⟨none, 0, none, 0, h.1, Nat.le_refl _, Nat.zero_le _, Ones.nil _ _ _, Nat.le_refl _, Nat.zero_le _, Ones.nil _ _ _, h.2⟩
  | some x =>
    obtain ⟨c, o⟩ := x
    obtain ⟨vc, vo, rfl, hT⟩ := h
    obtain ⟨p1, c1, rfl, a1, a2, a3⟩ := hT.c.ints
    obtain ⟨p2, c2, rfl, b1, b2, b3⟩ := hT.o.ints
    exact ⟨p1, c1, p2, c2, rfl, a1, a2, a3, b1, b2, b3, hT.below⟩
end Go.Proofs.YteaciofacmbllaaGreatDoor
namespace Go.Proofs.YteaciofacmbllaaGreatDoor
open Go.ChangeShapes Go.WideShapes Go.ChangeAt Go.RowKit
set_option linter.unusedVariables false
set_option maxRecDepth 100000

/-- The number that a list of pairs gives a number. -/
def nmF (ps : List (Int × Int)) (id : Int) : Option Int := (ps.find? fun q => q.1 == id).map (·.2)
theorem nm_snoc (ps : List (Int × Int)) (a b id : Int) : nmF (ps ++ [(a, b)]) id = match nmF ps id with | some v => some v | none => if a = id then some b else none := by
  unfold nmF
  rw [List.find?_append]
  cases h : ps.find? fun q => q.1 == id with
  | some v => rfl
  | none =>
    by_cases e : a = id
    · simp [e]
    · simp [e]
theorem nm_have (ps : List (Int × Int)) (a b c : Int) (h : nmF ps a = some c) (id : Int) : nmF (ps ++ [(a, b)]) id = nmF ps id := by
  rw [nm_snoc]
  cases h2 : nmF ps id with
  | some v => rfl
  | none =>
    show (if a = id then _ else _) = none
    rw [if_neg (fun e => by rw [e, h2] at h; cases h)]
theorem nm_new (ps : List (Int × Int)) (a b : Int) (h : nmF ps a = none) (id : Int) : (if id = a then some b else nmF ps id) = nmF (ps ++ [(a, b)]) id := by
  rw [nm_snoc]
  by_cases e : id = a
  · rw [if_pos e, e, h]; simp
  · rw [if_neg e]
    cases h2 : nmF ps id with
    | some v => rfl
    | none => show none = if a = id then _ else _; rw [if_neg (fun c => e c.symm)]
def ren1 (ps : List (Int × Int)) (x : It) : List It := if isT x.k = true then (match nmF ps x.id with | some n => [⟨x.k, x.t, n⟩] | none => []) else [x]
def renL (ps : List (Int × Int)) (l : List It) : List It := l.flatMap (ren1 ps)
theorem ren_next (ps : List (Int × Int)) (l : List It) (k : Nat) (h : k < l.length) : renL ps (l.take (k + 1)) = renL ps (l.take k) ++ ren1 ps (l[k]'h) := by
  rw [List.take_succ_eq_append_getElem h]; unfold renL; rw [List.flatMap_append]; simp
theorem ren1_len (ps : List (Int × Int)) (x : It) : (ren1 ps x).length ≤ 1 := by unfold ren1; split; split <;> simp; simp
theorem ren_len (ps : List (Int × Int)) (l : List It) : ∀ k, k ≤ l.length → (renL ps (l.take k)).length ≤ k := by
  intro k
  induction k with
  | zero => intro _; simp [renL]
  | succ j ih =>
    intro hj
    rw [ren_next ps l j hj, List.length_append]
    have := ren1_len ps l[j]; have := ih (by omega); omega
theorem ren1_txt (ps : List (Int × Int)) (x : It) : txtI (ren1 ps x) ≤ x.t.size := by unfold ren1 txtI; split; split <;> simp; simp
theorem ren_txt (ps : List (Int × Int)) (l : List It) : txtI (renL ps l) ≤ txtI l := by
  induction l with
  | nil => exact Nat.le_refl _
  | cons x t ih =>
    have e1 : renL ps (x :: t) = ren1 ps x ++ renL ps t := rfl
    have e2 : txtI (x :: t) = x.t.size + txtI t := rfl
    rw [e1, txtI_append, e2]
    have := ren1_txt ps x; omega
end Go.Proofs.YteaciofacmbllaaGreatDoor
namespace Go.Proofs.YteaciofacmbllaaGreatDoor
open Go.ChangeShapes Go.WideShapes Go.ChangeAt Go.RowKit
set_option linter.unusedVariables false
set_option maxRecDepth 100000

theorem nmr_one (P : List (Int × Int)) (a b id : Int) (h : nmF P id = none) : nmF (P ++ [(a, b)]) id = if a = id then some b else none := by rw [nm_snoc, h]
theorem nm_some (P Q : List (Int × Int)) (id n : Int) (h : nmF P id = some n) : nmF (P ++ Q) id = some n := by
  unfold nmF at *
  rw [List.find?_append]
  cases h2 : P.find? fun q => q.1 == id with
  | some v => rw [h2] at h; exact h
  | none => rw [h2] at h; cases h
theorem nm_take (P : List (Int × Int)) (j : Nat) (id n : Int) (h : nmF (P.take j) id = some n) : nmF P id = some n := by
  rw [← List.take_append_drop j P]; exact nm_some _ _ _ _ h

end Go.Proofs.YteaciofacmbllaaGreatDoor
namespace Go.Proofs.YteaciofacmbllaaGreatDoor
open Go.ChangeShapes Go.WideShapes Go.ChangeAt Go.RowKit
set_option linter.unusedVariables false
set_option maxRecDepth 100000

def EndF2 (L : List It) (w : World) (e : Ending) (w' : World) : Prop := ∃ p c, e = .returned (.slice p L.length c) ∧ L.length ≤ c ∧ c ≤ maxLen ∧ Its w' p L ∧ Below w.heap.size w w'
theorem EndI.f2 {L : List It} {w w' : World} {e : Ending} (h : EndI L w e w') : EndF2 L w e w' := by
  obtain ⟨v, rfl, hA⟩ := h
  obtain ⟨p, c, rfl, h1, h2, hI⟩ := hA.own.its
  exact ⟨p, c, rfl, h1, h2, hI, hA.below⟩
def EndNF (L : List Int) (w : World) (e : Ending) (w' : World) : Prop := ∃ p c, e = .returned (.slice p L.length c) ∧ L.length ≤ c ∧ c ≤ maxLen ∧ Ones w' (Value.int .i64) p L ∧ Below w.heap.size w w'
theorem EndN.f {L : List Int} {w w' : World} {e : Ending} (h : EndN L w e w') : EndNF L w e w' := by
  obtain ⟨v, rfl, hA⟩ := h
  obtain ⟨p, c, rfl, h1, h2, hI⟩ := hA.own.ints
  exact ⟨p, c, rfl, h1, h2, hI, hA.below⟩
theorem nums_wf (l : List It) (hO : Oks l) : ∀ i (h : i < (numsL l).length), (Lit.int .i64 ((numsL l)[i]'h)).wf = true := by
  have : ∀ (l : List It) (out : List Int), (∀ x ∈ l, x.ok) → (∀ n ∈ out, (Lit.int .i64 n).wf = true) → ∀ n ∈ l.foldl numS out, (Lit.int .i64 n).wf = true := by
    intro l
    induction l with
    | nil => intro out _ h; exact h
    | cons x t ih =>
      intro out h1 h2
      rw [List.foldl_cons]
      refine ih _ (fun y hy => h1 y (by simp [hy])) ?_
      intro n hn
      unfold numS at hn
      split at hn
      · rcases List.mem_append.1 hn with hn | hn
        · exact h2 n hn
        · rw [List.mem_singleton.1 hn]; exact (h1 x (by simp)).id
      · exact h2 n hn
  intro i h
  exact this l [] (fun x hx => by obtain ⟨j, hj, e⟩ := List.getElem_of_mem hx; rw [← e]; exact hO j hj) (fun n hn => by cases hn) _ (List.getElem_mem h)
theorem nums_le (l : List It) : (numsL l).length ≤ l.length := by
  have h := nums_len l _ (Nat.le_refl _)
  rwa [List.take_length] at h
/-- The pairs of Renumber. -/
def upPairs (ns : List Int) : List (Int × Int) := ns.zip (upL ns.length)

def EndFF (L M : List It) (w : World) (e : Ending) (w' : World) : Prop := ∃ p c q d, e = .returned (.tuple #[.slice p L.length c, .slice q M.length d]) ∧ L.length ≤ c ∧ c ≤ maxLen ∧ M.length ≤ d ∧ d ≤ maxLen ∧ Its w' p L ∧ Its w' q M ∧ Below w.heap.size w w'
theorem Oks.append {l m : List It} (h : Oks l) (k : Oks m) : Oks (l ++ m) := fun i hi => by
  rcases List.mem_append.1 (List.getElem_mem hi) with hx | hx
  · obtain ⟨j, hj, e⟩ := List.getElem_of_mem hx; rw [← e]; exact h j hj
  · obtain ⟨j, hj, e⟩ := List.getElem_of_mem hx; rw [← e]; exact k j hj

end Go.Proofs.YteaciofacmbllaaGreatDoor
namespace Go.Proofs.YteaciofacmbllaaGreatDoor
open Go.ChangeShapes Go.WideShapes Go.ChangeAt Go.RowKit
set_option linter.unusedVariables false
set_option linter.unusedSimpArgs false
set_option maxRecDepth 100000

def encT (l : List UInt8) : List UInt8 := l.flatMap byS
theorem encT_next (s : ByteArray) (k : Nat) (h : k < s.size) : encT (s.data.toList.take (k + 1)) = encT (s.data.toList.take k) ++ byS s[k] := by
  unfold encT
  rw [List.take_succ_eq_append_getElem (by simpa using h), List.flatMap_append]; simp; rfl
theorem byS_len (c : UInt8) : (byS c).length ≤ 2 := by unfold byS; split <;> simp
theorem encT_len (l : List UInt8) : (encT l).length ≤ 2 * l.length := by
  unfold encT
  induction l with
  | nil => simp
  | cons x t ih => rw [List.flatMap_cons, List.length_append, List.length_cons]; have := byS_len x; omega
theorem encT_take (s : ByteArray) (k : Nat) (h : k ≤ s.size) : (encT (s.data.toList.take k)).length ≤ 2 * s.size := by
  have := encT_len (s.data.toList.take k)
  have h2 : (s.data.toList.take k).length ≤ s.size := by simp; omega
  omega
theorem byS_if (c : UInt8) : byS c = if c = 34 ∨ c = 123 then [c, c] else [c] := rfl
set_option maxHeartbeats 3200000 in
theorem rappendtext_any (base : Nat) (l : List UInt8) (p : Option Addr) (n c : Nat) (t : ByteArray) (w : World) (h : OwB base l (.slice p n c) w) (hb : base ≤ w.heap.size) (hl : l.length + 2 * t.size + 4 ≤ 140737488355328) :
    Calls Tryz.prog 24 #[.slice p n c, .string t] w (EndB base (l ++ encT t.data.toList) w) := by
  have hEnd : ∀ a n c w', OwB base (l ++ encT t.data.toList) (.slice a n c) w' → Below base w w' → EndB base (l ++ encT t.data.toList) w (.returned (.slice a n c)) w' := fun a n c w' h1 h2 => ⟨a, n, c, rfl, h1, h2⟩
  have HE := Lib.hid hEnd; clear hEnd
  go_enter Tryz.func24, Tryz.ntmps24
  go_wp2_with fail
  go_loopw [0, 9] (fun v i wr => ∃ (k : Nat) (a : Option Addr) (n c : Nat), k ≤ t.size ∧ i = .int .i64 k ∧ v = .slice a n c ∧ OwB base (l ++ encT (t.data.toList.take k)) (.slice a n c) wr ∧ Below base w wr) (fun _ i _ => t.size - (intOf i).toNat)
  case atStart => exact ⟨0, p, n, c, Nat.zero_le _, rfl, rfl, by simpa [encT] using h, Below.refl _ _⟩
  case round =>
    obtain ⟨k, a, n, c, hk, rfl, rfl, hO, hB⟩ := hrel
    have hbw : base ≤ wr.heap.size := Nat.le_trans hb hB.size
    have htl := encT_take t k hk
    have hll : (l ++ encT (t.data.toList.take k)).length + 4 ≤ 140737488355328 := by rw [List.length_append]; omega
    by_cases hlt : k < t.size
    · have hn := encT_next t k hlt
      have hx4 := byS_if t[k]
      have HN := Lib.hid hn
      clear hn
      generalize hLL : l ++ encT (t.data.toList.take k) = L at *
      have HL := Lib.hid hLL; clear hLL
      by_cases h34 : t[k] = 34
      · have q0 : ((t[k].toNat : Int) == 34) = true := u8_int_eq (b := 34) h34
        rw [if_pos (.inl h34)] at hx4
        have HW := Lib.hid hx4
        clear hx4 h34
        go_wp2_with (at_builtin; refine wpl_catB _ rfl _ _ rfl base _ _ rfl (hO.call (blw (Below.refl _ _) _)) (by simp; omega) [t[k], t[k]] _ 2 _ rfl (heap_alloc_new _ _) rfl rfl (by omega) (by omega) ?_; intro g cap w2 hO2 hg2 hB2)
        go_roundw
        case rel => exact ⟨k + 1, _, _, _, hlt, by go_num, rfl, by rw [HN.out, HW.out, ← List.append_assoc, HL.out]; exact hO2, (hB.alloc hbw _).trans hB2⟩
        case measure => simp [intOf]; omega
      have q0 : ((t[k].toNat : Int) == 34) = false := u8_int_ne (b := 34) h34
      by_cases h123 : t[k] = 123
      · have q1 : ((t[k].toNat : Int) == 123) = true := u8_int_eq (b := 123) h123
        rw [if_pos (.inr h123)] at hx4
        have HW := Lib.hid hx4
        clear hx4 h34 h123
        go_wp2_with (at_builtin; refine wpl_catB _ rfl _ _ rfl base _ _ rfl (hO.call (blw (Below.refl _ _) _)) (by simp; omega) [t[k], t[k]] _ 2 _ rfl (heap_alloc_new _ _) rfl rfl (by omega) (by omega) ?_; intro g cap w2 hO2 hg2 hB2)
        go_roundw
        case rel => exact ⟨k + 1, _, _, _, hlt, by go_num, rfl, by rw [HN.out, HW.out, ← List.append_assoc, HL.out]; exact hO2, (hB.alloc hbw _).trans hB2⟩
        case measure => simp [intOf]; omega
      · have q1 : ((t[k].toNat : Int) == 123) = false := u8_int_ne (b := 123) h123
        rw [if_neg (by rintro (e | e); exact h34 e; exact h123 e)] at hx4
        have HW := Lib.hid hx4
        clear hx4 h34 h123
        go_wp2_with (at_builtin; refine wpl_catB _ rfl _ _ rfl base _ _ rfl (hO.call (blw (Below.refl _ _) _)) (by simp; omega) [t[k]] _ 1 _ rfl (heap_alloc_new _ _) rfl rfl (by omega) (by omega) ?_; intro g cap w2 hO2 hg2 hB2)
        go_roundw
        case rel => exact ⟨k + 1, _, _, _, hlt, by go_num, rfl, by rw [HN.out, HW.out, ← List.append_assoc, HL.out]; exact hO2, (hB.alloc hbw _).trans hB2⟩
        case measure => simp [intOf]; omega
    · have hk' : t.data.toList.take k = t.data.toList := List.take_of_length_le (by simp; omega)
      rw [hk'] at hO
      go_wp2_with fail
      go_ret
      exact HE.out _ _ _ _ hO hB
end Go.Proofs.YteaciofacmbllaaGreatDoor
namespace Go.Proofs.YteaciofacmbllaaGreatDoor
open Go.ChangeShapes Go.WideShapes Go.ChangeAt Go.RowKit
set_option linter.unusedVariables false
set_option linter.unusedSimpArgs false
set_option maxRecDepth 100000

theorem etxt_small {x : It} (hp : properB x = true) (hw : wid x ≤ 1024) : x.t.size ≤ 1024 := by
  rcases proper_kinds hp with h | h | h
  · have : wid x = x.t.size := if_pos h
    omega
  · obtain ⟨_, _, h3, h4⟩ := isT_proper h hp
    unfold isT at h; simp at h
    by_cases hk : x.k = 3
    · have := (isNm_bytes _ (h3 hk)).2.1; omega
    · have := ((isCon_iff _).1 (h4 (by omega))).size; omega
  · rw [slot_proper h] at hp
    simp at hp
    have := (isNm_bytes _ hp.1).2.1; omega
theorem ewid_len (l : List It) (k : Nat) (h : k < l.length) : wid (l[k]'h) ≤ lenI l := by
  have h1 := lenI_next l k h
  have h2 := lenI_take l (k + 1)
  omega
theorem eitem_small {f : List It} (h : valE f = 0) (k : Nat) (hk : k < f.length) : properB (f[k]'hk) = true ∧ (f[k]'hk).t.size ≤ 1024 := by
  obtain ⟨h1, h2, h3⟩ := valE_zero h
  have hp := errL_proper f h3 _ (List.getElem_mem hk)
  have := ewid_len f k hk
  exact ⟨hp, etxt_small hp (by omega)⟩
theorem encS_next (l : List It) (k : Nat) (h : k < l.length) : encS (l.take (k + 1)) = encS (l.take k) ++ e1S (l[k]'h) := by
  rw [List.take_succ_eq_append_getElem h]; unfold encS; rw [List.flatMap_append]; simp
theorem e1S_text {x : It} (h : x.k = 1) : e1S x = encT x.t.data.toList := if_pos h
theorem e1S_slot {x : It} (h : x.k = 5) : e1S x = (⟨#[123]⟩ ++ x.t ++ ⟨#[125]⟩ : ByteArray).data.toList := by
  unfold e1S; rw [if_neg (by omega)]; simp
theorem e1S_len {x : It} (h : x.t.size ≤ 1024) : (e1S x).length ≤ 3000 := by
  have hs : x.t.data.toList.length = x.t.size := by simp
  unfold e1S
  split
  · have := encT_len x.t.data.toList
    unfold encT at this; omega
  · simp only [List.length_cons, List.length_append, List.length_nil, hs]; omega
theorem enc_len {f : List It} (h : valE f = 0) : ∀ k, k ≤ f.length → (encS (f.take k)).length ≤ 3000 * k := by
  intro k
  induction k with
  | zero => intro _; simp [encS]
  | succ j ih =>
    intro hj
    obtain ⟨h1, h2⟩ := eitem_small h j (by omega)
    have := ih (by omega)
    have := e1S_len h2
    rw [encS_next f j (by omega), List.length_append]
    omega
theorem econv_nil (w : World) : (convert 65 9 (.slice none 0 0)).run Tryz.prog w = .ok (.string .empty) w := by kernel_rfl
/-- string(row) -/
theorem econv_own {base : Nat} {l : List UInt8} {v : Value} {w : World} (h : OwB base l v w) : (convert 65 9 v).run Tryz.prog w = .ok (.string (bsL l)) w := by
  rcases h.2 with ⟨hv, h0⟩ | ⟨g, cap, cur, hv, hg, hh, r⟩
  · have : l = [] := List.length_eq_zero_iff.1 h0
    subst this
    rw [hv]
    exact econv_nil w
  · have hc := World.ownsRow.cells h (g := g) (by rw [hv]; rfl)
    have hw := Lib.run_convert_whole (P := Tryz.prog) w 65 5 9 Tryz.underlying65 Tryz.underlying5 Tryz.underlying9 g 0 (bsL l) (fun i hi => by
      rw [bsL_size] at hi
      have hcell := hc i (.int .u8 ((l[i]'hi).toNat : Int)) (by unfold Lib.byteCells; rw [List.getElem?_map, List.getElem?_eq_getElem hi]; rfl)
      have ea : ((⟨g, 0, none⟩ : Addr).add i) = ⟨g, 0 + i, none⟩ := by unfold Addr.add; split <;> simp_all
      rw [ea] at hcell
      rw [hcell]; rfl) cap
    rw [bsL_size] at hw
    rw [hv]; exact hw
/-- What Encode answers. -/
def encE (f : List It) : ByteArray × Int := if valE f = 0 then (if (tagsL f).length = 0 then (bsL (encS f), 0) else (.empty, 7)) else (.empty, valE f)
theorem encE_bad {f : List It} (h : valE f ≠ 0) : encE f = (.empty, valE f) := if_neg h
theorem encE_tag {f : List It} (h : valE f = 0) (h2 : (tagsL f).length ≠ 0) : encE f = (.empty, 7) := by unfold encE; rw [if_pos h, if_neg h2]
theorem encE_ok {f : List It} (h : valE f = 0) (h2 : (tagsL f).length = 0) : encE f = (bsL (encS f), 0) := by unfold encE; rw [if_pos h, if_pos h2]
theorem no_tags {f : List It} (h : (tagsL f).length = 0) (k : Nat) (hk : k < f.length) : isT (f[k]'hk).k = false := by
  have h0 : tagsL f = [] := List.length_eq_zero_iff.1 h
  unfold tagsL at h0
  rw [List.filter_eq_nil_iff] at h0
  have := h0 _ (List.getElem_mem hk)
  simpa using this
theorem item_flat {f : List It} (h : valE f = 0) (h2 : (tagsL f).length = 0) (k : Nat) (hk : k < f.length) : ((f[k]'hk).k = 1 ∨ (f[k]'hk).k = 5) ∧ (f[k]'hk).t.size ≤ 1024 := by
  obtain ⟨hp, hs⟩ := eitem_small h k hk
  refine ⟨?_, hs⟩
  rcases proper_kinds hp with q | q | q
  · exact .inl q
  · rw [no_tags h2 k hk] at q; cases q
  · exact .inr q
set_option maxHeartbeats 1600000 in
theorem rencode_any (p : Option Addr) (cap : Nat) (f : List It) (w : World) (hR : Its w p f) (hO : Oks f) (hc : f.length ≤ cap) (hm : cap ≤ maxLen) :
    Calls Tryz.prog 11 #[.slice p f.length cap] w fun e w' => e = .returned (.tuple #[.string (encE f).1, .int .i64 (encE f).2]) ∧ Below w.heap.size w w' := by
  have hv := fun w hR => validate_any p cap f w hR hO hc hm
  by_cases h : valE f = 0
  · have h512 := (valE_zero h).1
    have ht := fun W i => (tags_any p cap f W i hc hm (by omega)).mono fun _ _ h => EndI.f h
    unfold EndF at ht
    unfold maxLen at hm ht
    by_cases h2 : (tagsL f).length = 0
    · rw [encE_ok h h2]
      have hfl := fun k hk => item_flat h h2 k hk
      have hln := fun k hk => enc_len h k hk
      rw [h] at hv
      rw [h2] at ht
      have HV := Lib.hid hv; have HT := Lib.hid ht; have HF := Lib.hid hfl; have HL := Lib.hid hln
      clear hv hfl hln h h2 ht
      go_enter Tryz.func11, Tryz.ntmps11
      go_wp2_with fail
      refine (HV.out _ hR).mono ?_; rintro e w1 ⟨rfl, hb⟩
      have hR1 := hR.call hb
      go_wp2_with fail
      refine (HT.out _ hR1).mono ?_; rintro e w2 ⟨pT, cT, rfl, _, _, _, hb2⟩
      have hb := BelowOn hb hb2
      have hR2 := hR.call hb
      go_wp2_with fail
      go_loopw [5, 19] (fun v i wr => ∃ (k : Nat) (a : Option Addr) (n c : Nat), k ≤ f.length ∧ i = .int .i64 k ∧ v = .slice a n c ∧ OwB w.heap.size (encS (f.take k)) (.slice a n c) wr ∧ Below w.heap.size w wr) (fun _ i _ => f.length - (intOf i).toNat)
      case atStart => exact ⟨0, _, _, _, Nat.zero_le _, rfl, rfl, by simpa [encS] using OwB.nil w2 w.heap.size, hb⟩
      case round =>
        obtain ⟨k, a, n, c, hk, rfl, rfl, hW, hB⟩ := hrel
        by_cases hlt : k < f.length
        · obtain ⟨ad, rfl, had, c0, c1, c2⟩ := (hR.call hB).row k hlt
          obtain ⟨hkd, hts⟩ := HF.out k hlt
          have hl := HL.out k hk
          have hn := encS_next f k hlt
          generalize f[k] = x at *
          generalize hLL : encS (f.take k) = L at *
          have HN := Lib.hid hn; clear hn
          have HLL := Lib.hid hLL; clear hLL
          have hW1 := hW.call (blw (Below.refl _ _) (.cells #[.int .i64 x.k, .string x.t, .int .i64 x.id] 54))
          have hB1 := blw hB (.cells #[.int .i64 x.k, .string x.t, .int .i64 x.id] 54)
          obtain ⟨v0, v1, v2, vl⟩ := Var3.new wr x.k x.t x.id
          rcases hkd with h1 | h5
          · have q5 : (x.k == 5) = false := by rw [h1]; rfl
            have he := e1S_text h1
            have HE := Lib.hid he
            have hap := fun W (h1 : OwB w.heap.size L (.slice a n c) W) (h2 : Below w.heap.size w W) => rappendtext_any w.heap.size L a n c x.t W h1 h2.size (by omega)
            have HA := Lib.hid hap
            clear hap he h1
            go_wp2_with fail
            refine (HA.out _ hW1 hB1).mono ?_; rintro e w2 ⟨a2, n2, c2', rfl, hW2, hB2⟩
            go_wp2_with fail
            go_roundw
            case rel => exact ⟨k + 1, _, _, _, hlt, by go_num, rfl, by rw [HN.out, HE.out]; exact hW2, hB1.trans hB2⟩
            case measure => simp [intOf]; omega
          · have q5 : (x.k == 5) = true := by rw [h5]; rfl
            have he := e1S_slot h5
            have hsz : ((⟨#[123]⟩ ++ x.t ++ ⟨#[125]⟩ : ByteArray)).size = x.t.size + 2 := by
              rw [ByteArray.size_append, ByteArray.size_append, show (⟨#[123]⟩ : ByteArray).size = 1 from rfl, show (⟨#[125]⟩ : ByteArray).size = 1 from rfl]; omega
            have HE := Lib.hid he
            have z1 : ¬ (9223372036854775807 < 1 + x.t.size) := by omega
            have z2 : ¬ (9223372036854775807 < (⟨#[123]⟩ ++ x.t : ByteArray).size + 1) := by
              rw [ByteArray.size_append, show (⟨#[123]⟩ : ByteArray).size = 1 from rfl]; omega
            clear he h5
            go_wp2_with (at_builtin; refine wpl_strB _ rfl _ _ rfl w.heap.size L (.slice a n c) rfl hW1 hB1.size (⟨#[123]⟩ ++ x.t ++ ⟨#[125]⟩) rfl (by omega) ?_; intro a2 n2 c2' w2 hW2 hg2 hB2)
            go_roundw
            case rel => exact ⟨k + 1, _, _, _, hlt, by go_num, rfl, by rw [HN.out, HE.out]; exact hW2, hB1.trans hB2⟩
            case measure => simp [intOf]; omega
        · obtain rfl : k = f.length := by omega
          rw [List.take_length] at hW
          have hcv := econv_own hW
          go_wp2_with fail
          go_ret2
          exact ⟨rfl, hB⟩
    · rw [encE_tag h h2]
      rw [h] at hv
      have HV := Lib.hid hv; have HT := Lib.hid ht
      have hle := tags_len f
      have q0 : (0 : Int) < ((tagsL f).length : Int) := by omega
      clear hv ht h
      generalize tagsL f = T at *
      go_enter Tryz.func11, Tryz.ntmps11
      go_wp2_with fail
      refine (HV.out _ hR).mono ?_; rintro e w1 ⟨rfl, hb⟩
      have hR1 := hR.call hb
      go_wp2_with fail
      refine (HT.out _ hR1).mono ?_; rintro e w2 ⟨pT, cT, rfl, _, _, _, hb2⟩
      have hb := BelowOn hb hb2
      go_wp2_with fail
      go_ret2
      exact ⟨rfl, hb⟩
  · rw [encE_bad h]
    have q : (valE f == 0) = false := by simpa using h
    have HV := Lib.hid hv
    clear hv h
    generalize valE f = E at *
    go_enter Tryz.func11, Tryz.ntmps11
    go_wp2_with fail
    refine (HV.out _ hR).mono ?_; rintro e w1 ⟨rfl, hb⟩
    go_wp2_with fail
    go_ret2
    exact ⟨rfl, hb⟩
end Go.Proofs.YteaciofacmbllaaGreatDoor
namespace Go.Proofs.YteaciofacmbllaaGreatDoor
open Go.ChangeShapes Go.WideShapes Go.ChangeAt Go.RowKit
set_option linter.unusedVariables false
set_option linter.unusedSimpArgs false
set_option maxRecDepth 100000

/-- Items without tags. -/
def NoT (l : List It) : Prop := tagsL l = []
theorem step_flat {s : St} (L : List Int) (nested : Bool) (hn : nested = true) (ho : s.o = []) (ht : NoT s.f) : (stepG L false nested s).o = [] ∧ NoT (stepG L false nested s).f := by
  obtain ⟨f, o, id, m⟩ := s
  dsimp only at ho ht
  subst ho
  have key : ∀ x : It, isT x.k = false → NoT (norm (f ++ [x])) := fun x hx => by
    unfold NoT; rw [tags_add, hx]; rw [show tagsL f = [] from ht]; rfl
  unfold stepG
  have hc := nx_lt L (lineF L m 3).2 8 (by decide)
  by_cases c1 : nx L (lineF L m 3).2 8 = 0 ∨ nx L (lineF L m 3).2 8 = 1
  · dsimp only
    rw [nextG_slot L false nested [] id m c1]
    exact ⟨rfl, key _ rfl⟩
  · dsimp only
    rw [nextG_text L false nested [] id m (by
      by_cases c7 : nx L (lineF L m 3).2 8 = 7
      · exact .inl c7
      · by_cases c4 : nx L (lineF L m 3).2 8 ≤ 4
        · exact .inr (.inl ⟨by omega, c4, rfl⟩)
        · exact .inr (.inr ⟨by omega, by omega, by simp, by simp⟩))]
    exact ⟨rfl, key _ rfl⟩
theorem run_flat (L : List Int) : ∀ (k : Nat) (s : St), s.o = [] → NoT s.f → (runG L false true k s).o = [] ∧ NoT (runG L false true k s).f := by
  intro k
  induction k with
  | zero => intro s h1 h2; exact ⟨h1, h2⟩
  | succ j ih =>
    intro s h1 h2
    obtain ⟨a, b⟩ := step_flat L true rfl h1 h2
    exact ih _ a b
theorem mk_flat (L : List Int) : NoT (mk L false true) := by
  unfold mk fragG startG
  obtain ⟨a, b⟩ := run_flat L (nx L 0 (8 + 1)) ⟨[], [], 0, 0 + 1⟩ rfl rfl
  dsimp only
  rw [if_pos rfl, a]
  unfold NoT at b ⊢
  simpa using b
/-- A made fragment with a text behind it. -/
def mkT (L : List Int) (s : ByteArray) : List It := norm (mk L false true ++ [⟨1, s, 0⟩])
theorem mkT_err (L : List Int) (s : ByteArray) : errL [] (mkT L s) = 0 := err_text _ _ (mk_ok L false true).e
theorem mkT_flat (L : List Int) (s : ByteArray) : NoT (mkT L s) := by
  unfold NoT mkT; rw [tags_add, if_neg (show ¬ isT (1 : Int) = true by decide), List.append_nil]; exact mk_flat L
theorem mkT_valid (L : List Int) (s : ByteArray) (hs : s.size ≤ 200) : valE (mkT L s) = 0 := by
  have h1 := (mk_ok L false true).len
  have h2 := (mk_ok L false true).lenI
  have h3 := norm_len (mk L false true ++ [⟨1, s, 0⟩])
  have h4 := len_norm (mk L false true ++ [⟨1, s, 0⟩])
  rw [List.length_append] at h3
  rw [lenI_snoc] at h4
  have hw : wid ⟨1, s, 0⟩ = s.size := if_pos rfl
  rw [hw] at h4
  simp only [List.length_cons, List.length_nil] at h3
  exact valE_of (by unfold mkT; omega) (by unfold mkT; omega) (mkT_err L s)
/-- What is encoded is read again. -/
theorem dec_enc {f : List It} (h : valE f = 0) (ht : NoT f) : dec elS (encS f) = (f, offs 0 (wsG e1S (expI f)), 0, 0) := by
  obtain ⟨h1, h2, h3⟩ := valE_zero h
  have hfl : ∀ x ∈ expI f, One x ∧ Flat x := fun x hx => by
    refine ⟨exp_ok h3 x hx, ?_⟩
    unfold expI at hx
    rw [List.mem_flatMap] at hx
    obtain ⟨y, hy, hx⟩ := hx
    by_cases hk : y.k = 1
    · rw [expX_text hk, List.mem_map] at hx
      obtain ⟨c, _, rfl⟩ := hx
      exact .inl rfl
    · rw [expX_other hk] at hx
      obtain rfl := List.mem_singleton.1 hx
      rcases proper_kinds (errL_proper f h3 _ hy) with q | q | q
      · exact .inl q
      · have : x ∈ tagsL f := mem_tags.2 ⟨hy, q⟩
        rw [show tagsL f = [] from ht] at this; cases this
      · exact .inr q
  have hw := ws_e1 (expI f) hfl
  have he : encS f = flatW (wsG e1S (expI f)) ++ [] := by
    rw [List.append_nil, wsG_flat, ← encS_exp]; rfl
  rw [he]
  exact mixed elS_ok hw (Tail.nil _) (by rw [wsG_it, norm_exp]; exact norm_valid f h3) h1 (by unfold wsG; rw [List.length_map, expI_len]; exact h2)
theorem nums_flat {f : List It} (h : NoT f) : numsL f = [] := by
  rw [← nums_firsts]
  unfold firsts
  rw [show tagsL f = [] from h]; rfl
theorem ren_flat (ps : List (Int × Int)) {f : List It} (h : NoT f) : renL ps f = f := by
  have ht : ∀ x ∈ f, isT x.k = false := fun x hx => by
    cases q : isT x.k
    · rfl
    · have : x ∈ tagsL f := mem_tags.2 ⟨hx, q⟩
      rw [show tagsL f = [] from h] at this; cases this
  clear h
  unfold renL
  induction f with
  | nil => rfl
  | cons x t ih =>
    rw [List.flatMap_cons, ih (fun y hy => ht y (List.mem_cons_of_mem _ hy))]
    unfold ren1
    rw [ht x (List.mem_cons_self ..)]; rfl
theorem renum_flat {f : List It} (h : valE f = 0) (ht : NoT f) : norm (renL (upPairs (numsL f)) f) = f := by
  rw [ren_flat _ ht]; exact norm_valid f (valE_zero h).2.2
theorem enc_bytes {f : List It} (h : valE f = 0) : (encS f).length ≤ 3000 * 512 := by
  have h1 := enc_len h f.length (Nat.le_refl _)
  rw [List.take_length] at h1
  have := (valE_zero h).1
  omega
set_option maxHeartbeats 1600000 in
theorem rmade_any (p : Option Addr) (cap : Nat) (L : List Int) (w : World) (hL : Ones w (Value.int .i64) p L) (hw : ∀ i (h : i < L.length), (Lit.int .i64 (L[i]'h)).wf = true) (hc : L.length ≤ cap) (hm : cap ≤ maxLen) :
    Calls Tryz.prog 19 #[.slice p L.length cap] w (EndF (mk L false true) w) := by
  have hN := NumsAt.made hL hw hc hm
  have hf := fragment_any w.heap.size p cap L 0 false true 8 8 rfl _ hN (fun h0 a ha => by have := ones_any hL h0 a ha; simp; omega) (by omega) (by omega)
  have HF := Lib.hid hf; clear hf hN
  have hend : ∀ v w2, Below w.heap.size w w2 → OwnL 54 3 ienc w.heap.size (mk L false true) v w2 → EndF (mk L false true) w (.returned v) w2 := fun v w2 h1 h2 => EndI.f ⟨v, rfl, h1, h2⟩
  have HEND := Lib.hid hend; clear hend
  unfold maxLen at hm
  go_enter Tryz.func19, Tryz.ntmps19
  go_wp2_with fail
  refine (HF.out).mono ?_
  rintro e w2 ⟨v, rfl, hg, hN2, hown⟩
  have hb : Below w.heap.size w w2 := (blw (Below.refl w.heap.size w) _).trans (grown_below hg (Nat.le_refl _) (by simp))
  have hown2 : OwnL 54 3 ienc w.heap.size (mk L false true) v w2 := ownsRow_base hown (by simp)
  clear hN2 hown hg
  go_wp2_with fail
  go_ret
  exact HEND.out _ _ hb hown2
end Go.Proofs.YteaciofacmbllaaGreatDoor
namespace Go.Proofs.YteaciofacmbllaaGreatDoor
set_option linter.unusedVariables false
open Go.Lib

/-- Bytes that end no quoted field. -/
def Safe (u : List UInt8) : Prop := ∀ r, cloQ (u ++ r) = (cloQ r).map (· + u.length)
theorem Safe.nil : Safe [] := fun r => by cases h : cloQ r <;> simp [h]
theorem Safe.append {u v : List UInt8} (hu : Safe u) (hv : Safe v) : Safe (u ++ v) := fun r => by
  rw [List.append_assoc, hu, hv, List.length_append]
  cases cloQ r with
  | none => rfl
  | some n => show some (n + v.length + u.length) = some (n + (u.length + v.length)); congr 1; omega
theorem Safe.one {c : UInt8} (h1 : c ≠ 34) : Safe [c] := fun r => cloQ_on c r h1
theorem Safe.two : Safe [34, 34] := fun r => cloQ_two r
theorem Safe.all {u : List UInt8} (h : ∀ c ∈ u, c ≠ 34) : Safe u := by
  induction u with
  | nil => exact Safe.nil
  | cons c t ih => exact Safe.append (u := [c]) (Safe.one (h c (List.mem_cons_self ..))) (ih (fun x hx => h x (List.mem_cons_of_mem _ hx)))
theorem Safe.flat {α : Type} (f : α → List UInt8) (l : List α) (h : ∀ x ∈ l, Safe (f x)) : Safe (l.flatMap f) := by
  induction l with
  | nil => exact Safe.nil
  | cons x t ih => rw [List.flatMap_cons]; exact (h x (List.mem_cons_self ..)).append (ih (fun y hy => h y (List.mem_cons_of_mem _ hy)))
theorem byS_safe (c : UInt8) : Safe (byS c) := by
  unfold byS
  split
  · rename_i h
    rcases h with rfl | rfl
    · exact Safe.two
    · exact Safe.all (by decide)
  · rename_i h
    exact Safe.one (fun e => h (.inl e))
/-- The bytes of a name are no signs. -/
theorem nm_safe {s : ByteArray} (h : isNm s = true) : Safe s.data.toList := Safe.all (fun c hc => by
  have := nm_mem h hc
  unfold nmB at this; simp at this
  exact u8_ne (by rw [show (((34 : UInt8).toNat : Nat) : Int) = 34 from rfl]; omega))
theorem e1S_safe {x : It} (h : One x) (hf : Flat x) : Safe (e1S x) := by
  by_cases hk : x.k = 1
  · obtain ⟨c, rfl⟩ := one_bT h hk
    rw [e1S_byte]; exact byS_safe c
  · have h5 : x.k = 5 := hf.resolve_left hk
    have hp : properB x = true := by rcases h with ⟨h1, _⟩ | ⟨_, h2⟩; exact absurd h1 hk; exact h2
    rw [slot_proper h5] at hp
    simp only [Bool.and_eq_true, decide_eq_true_eq] at hp
    unfold e1S
    rw [if_neg hk]
    exact Safe.append (u := [123]) (Safe.one (by decide)) ((nm_safe hp.1).append (Safe.one (by decide)))
theorem exp_flat {f : List It} (h3 : errL [] f = 0) (ht : NoT f) : ∀ x ∈ expI f, One x ∧ Flat x := fun x hx => by
  refine ⟨exp_ok h3 x hx, ?_⟩
  unfold expI at hx
  rw [List.mem_flatMap] at hx
  obtain ⟨y, hy, hx⟩ := hx
  by_cases hk : y.k = 1
  · rw [expX_text hk, List.mem_map] at hx
    obtain ⟨c, _, rfl⟩ := hx
    exact .inl rfl
  · rw [expX_other hk] at hx
    obtain rfl := List.mem_singleton.1 hx
    rcases proper_kinds (errL_proper f h3 _ hy) with q | q | q
    · exact .inl q
    · have : x ∈ tagsL f := mem_tags.2 ⟨hy, q⟩
      rw [show tagsL f = [] from ht] at this; cases this
    · exact .inr q
theorem enc_safe {f : List It} (h3 : errL [] f = 0) (ht : NoT f) : Safe (encS f) := by
  rw [← encS_exp]
  exact Safe.flat _ _ (fun x hx => e1S_safe (exp_flat h3 ht x hx).1 (exp_flat h3 ht x hx).2)
end Go.Proofs.YteaciofacmbllaaGreatDoor
namespace Go.Proofs.YteaciofacmbllaaGreatDoor
set_option linter.unusedVariables false
open Go.Lib

theorem one_small {x : It} (h : One x) : x.t.size ≤ 1024 ∧ x.k ≠ 0 := by
  rcases h with ⟨h1, h2, h3⟩ | ⟨h1, h2⟩
  · exact ⟨by omega, by omega⟩
  · refine ⟨etxt_small h2 (by unfold wid; split <;> omega), ?_⟩
    rcases proper_kinds h2 with q | q | q
    · exact absurd q h1
    · intro e; rw [e] at q; cases q
    · omega
/-- What a position may be written as. -/
def PieR (x : It) (t : List UInt8) : Prop := t = e1S x
theorem pie_word (x : It) (h : One x) (hf : Flat x) {t : List UInt8} (ht : PieR x t) : Word elS t x := by
  obtain rfl : t = e1S x := ht
  exact word_e1 x h hf
theorem pie_len {x : It} (hx : x.t.size ≤ 1024) {t : List UInt8} (ht : PieR x t) : t.length ≤ 3010 := by
  have h1 := e1S_len hx
  obtain rfl : t = e1S x := ht
  omega
/-- Bytes that are the positions, one behind the other, each in one of its forms. -/
def RawsR (xs : List It) (raw : List UInt8) : Prop := ∃ ws : Ws, raw = flatW ws ∧ itW ws = xs ∧ ∀ w ∈ ws, PieR w.2 w.1
theorem RawsR.nil : RawsR [] [] := ⟨[], rfl, rfl, fun w h => by cases h⟩
theorem RawsR.snoc {xs : List It} {raw : List UInt8} (h : RawsR xs raw) {x : It} {t : List UInt8} (ht : PieR x t) : RawsR (xs ++ [x]) (raw ++ t) := by
  obtain ⟨ws, e1, e2, e3⟩ := h
  refine ⟨ws ++ [(t, x)], ?_, ?_, fun w hw => ?_⟩
  · rw [flatW_append, ← e1, flatW_cons, flatW_nil, List.append_nil]
  · show (ws ++ [(t, x)]).map Prod.snd = _
    rw [List.map_append]; show itW ws ++ [x] = _; rw [e2]
  · rcases List.mem_append.1 hw with hw | hw
    · exact e3 w hw
    · obtain rfl := List.mem_singleton.1 hw; exact ht
theorem raws_enc {f : List It} {raw : List UInt8} (hr : RawsR (expI f) raw) : raw = encS f := by
  obtain ⟨ws, e1, e2, e3⟩ := hr
  rw [← encS_exp, e1]
  unfold encG flatW
  rw [← e2]
  unfold itW
  rw [List.flatMap_map]
  clear e1 e2
  induction ws with
  | nil => rfl
  | cons w t ih =>
    rw [List.flatMap_cons, List.flatMap_cons, ih (fun v hv => e3 v (List.mem_cons_of_mem _ hv))]
    congr 1
    exact e3 w (List.mem_cons_self ..)
/-- The words of a raw content of a fragment. -/
theorem raws_words {f : List It} (h : valE f = 0) (ht : NoT f) {raw : List UInt8} (hr : RawsR (expI f) raw) : ∃ ws : Ws, raw = flatW ws ∧ itW ws = expI f ∧ AllW elS ws ∧ dec elS raw = (f, offs 0 ws, 0, 0) := by
  obtain ⟨ws, e1, e2, e3⟩ := hr
  have hone : ∀ x ∈ expI f, One x ∧ Flat x := exp_flat (valE_zero h).2.2 ht
  have hall : AllW elS ws := fun w hw => by
    have hm : w.2 ∈ expI f := by rw [← e2]; exact List.mem_map.2 ⟨w, hw, rfl⟩
    exact pie_word w.2 (hone _ hm).1 (hone _ hm).2 (e3 w hw)
  refine ⟨ws, e1, e2, hall, ?_⟩
  have hlen : ws.length = lenI f := by rw [← expI_len, ← e2]; unfold itW; rw [List.length_map]
  obtain ⟨h1, h2, h3⟩ := valE_zero h
  have := mixed elS_ok hall (Tail.nil elS) (f := f) (by rw [e2, norm_exp]; exact norm_valid f h3) h1 (by rw [hlen]; exact h2)
  rw [List.append_nil] at this
  rw [e1]; exact this
end Go.Proofs.YteaciofacmbllaaGreatDoor
namespace Go.Proofs.YteaciofacmbllaaGreatDoor
open Go.ChangeShapes Go.WideShapes Go.ChangeAt Go.RowKit
set_option linter.unusedVariables false
set_option linter.unusedSimpArgs false
set_option maxRecDepth 100000

theorem rconv_byte (w : World) (c : UInt8) : (convert 65 9 (.slice (some ⟨w.heap.size, 0, none⟩) 1 1)).run Tryz.prog (w.alloc (.cells #[.int .u8 (c.toNat : Int)] 5)) = .ok (.string ⟨#[c]⟩) (w.alloc (.cells #[.int .u8 (c.toNat : Int)] 5)) :=
  Lib.run_convert_whole (P := Tryz.prog) _ 65 5 9 Tryz.underlying65 Tryz.underlying5 Tryz.underlying9 w.heap.size 0 ⟨#[c]⟩ (fun i hi => by
    have hi' : i < 1 := hi
    obtain rfl : i = 0 := by omega
    rw [Nat.zero_add, Lib.cell_of_heap (heap_alloc_new w _)]; rfl) 1
theorem byS_two {c : UInt8} (h : ((c.toNat : Int) == 34) = true ∨ ((c.toNat : Int) == 123) = true) : bsL (byS c) = ⟨#[c]⟩ ++ ⟨#[c]⟩ := by
  have e : c = 34 ∨ c = 123 := by
    rcases h with h | h
    · rw [beq_iff_eq] at h; exact .inl (UInt8.toNat_inj.1 (by show _ = 34; omega))
    · rw [beq_iff_eq] at h; exact .inr (UInt8.toNat_inj.1 (by show _ = 123; omega))
  unfold byS
  rw [if_pos e]
  show bsL ([c] ++ [c]) = bsL [c] ++ bsL [c]
  rw [bsL_append]
theorem byS_else {c : UInt8} (h1 : ((c.toNat : Int) == 34) = false) (h2 : ((c.toNat : Int) == 123) = false) : bsL (byS c) = ⟨#[c]⟩ := by
  have hn : ∀ k : UInt8, ((c.toNat : Int) == (k.toNat : Int)) = false → c ≠ k := fun k hk e => by subst e; simp at hk
  unfold byS
  rw [if_neg (by rintro (e | e); exact hn 34 h1 e; exact hn 123 h2 e)]; rfl
set_option maxHeartbeats 1600000 in
theorem byteof_ref (c : UInt8) (w : World) : Calls Tryz.prog 72 #[.int .i64 3, .int .u8 (c.toNat : Int)] w fun e w' => e = .returned (.string (bsL (byS c))) ∧ Below w.heap.size w w' := by
  have b0 : (0 : Int) ≤ (c.toNat : Int) := by omega
  have b1 : (c.toNat : Int) ≤ 255 := by have := c.toNat_lt; omega
  have hcv := rconv_byte w c
  have hB : Below w.heap.size w (w.alloc (.cells #[.int .u8 (c.toNat : Int)] 5)) := blw (Below.refl _ _) _
  have hz : ¬ (9223372036854775807 < (⟨#[c]⟩ : ByteArray).size + (⟨#[c]⟩ : ByteArray).size) := by show ¬ (9223372036854775807 < 1 + 1); omega
  cases h34 : ((c.toNat : Int) == 34)
  case true =>
    have he := Lib.hid (byS_two (.inl h34))
    go_enter Tryz.func72, Tryz.ntmps72
    go_wp2_with fail
    go_ret
    exact ⟨by rw [he.out]; rfl, hB⟩
  cases h123 : ((c.toNat : Int) == 123)
  case true =>
    have he := Lib.hid (byS_two (.inr h123))
    go_enter Tryz.func72, Tryz.ntmps72
    go_wp2_with fail
    go_ret
    exact ⟨by rw [he.out]; rfl, hB⟩
  have he := Lib.hid (byS_else h34 h123)
  go_enter Tryz.func72, Tryz.ntmps72
  go_wp2_with fail
  go_ret
  exact ⟨by rw [he.out]; rfl, hB⟩
end Go.Proofs.YteaciofacmbllaaGreatDoor
namespace Go.Proofs.YteaciofacmbllaaGreatDoor
open Go.ChangeShapes Go.WideShapes Go.ChangeAt Go.RowKit
set_option linter.unusedVariables false
set_option linter.unusedSimpArgs false
set_option maxRecDepth 100000

theorem tag_some {f : List It} {k : Nat} (hk : k < f.length) (h : isT (f[k]'hk).k = true) : (tagsL f).length ≠ 0 := fun e => by
  rw [no_tags e k hk] at h; cases h
theorem proper_flat {x : It} (hp : properB x = true) (h : isT x.k = false) : x.k = 1 ∨ x.k = 5 := by
  rcases proper_kinds hp with q | q | q
  · exact .inl q
  · rw [h] at q; cases q
  · exact .inr q
theorem bs_e1 (L : List UInt8) {x : It} (h : x.k = 5) : bsL L ++ (⟨#[123]⟩ ++ x.t ++ ⟨#[125]⟩) = bsL (L ++ e1S x) := by
  rw [e1S_slot h, ← bsL_append, bsL_of]
theorem bs_t (L : List UInt8) {x : It} (h : x.k = 1) : bsL (L ++ encT x.t.data.toList) = bsL (L ++ e1S x) := by rw [e1S_text h]
theorem bs_next (L : List UInt8) (s : ByteArray) (j : Nat) (h : j < s.size) : bsL (L ++ encT (s.data.toList.take j)) ++ bsL (byS s[j]) = bsL (L ++ encT (s.data.toList.take (j + 1))) := by
  rw [bsL_append, encT_next s j h, List.append_assoc]
set_option maxHeartbeats 3200000 in
theorem refencode_any (p : Option Addr) (cap : Nat) (f : List It) (w : World) (hR : Its w p f) (hO : Oks f) (hc : f.length ≤ cap) (hm : cap ≤ maxLen) :
    Calls Tryz.prog 37 #[.int .i64 3, .slice p f.length cap] w fun e w' => e = .returned (.tuple #[.string (encE f).1, .int .i64 (encE f).2]) ∧ Below w.heap.size w w' := by
  have hv := fun w hR => rvalidate_any p cap f w hR hO hc hm
  by_cases h : valE f = 0
  · have h512 := (valE_zero h).1
    have hit := fun k hk => eitem_small h k hk
    have hln := fun k hk => enc_len h k hk
    have hok : (tagsL f).length = 0 → encE f = (bsL (encS f), 0) := encE_ok h
    have hbad : (tagsL f).length ≠ 0 → encE f = (.empty, 7) := encE_tag h
    have hnt : (∀ k (hk : k < f.length), isT (f[k]'hk).k = false) → (tagsL f).length = 0 := fun hh => by
      unfold tagsL
      rw [List.length_eq_zero_iff, List.filter_eq_nil_iff]
      intro x hx
      obtain ⟨i, hi, rfl⟩ := List.mem_iff_getElem.1 hx
      simp [hh i hi]
    rw [h] at hv
    have HV := Lib.hid hv; have HI := Lib.hid hit; have HL := Lib.hid hln; have HOK := Lib.hid hok; have HBD := Lib.hid hbad; have HNT := Lib.hid hnt
    clear hv hit hln hok hbad hnt h
    unfold maxLen at hm
    go_enter Tryz.func37, Tryz.ntmps37
    go_wp2_with fail
    refine (HV.out _ hR).mono ?_; rintro e w1 ⟨rfl, hb⟩
    go_wp2_with fail
    go_loopw [7, 18] (fun v i wr => ∃ (k : Nat), k ≤ f.length ∧ i = .int .i64 k ∧ v = .string (bsL (encS (f.take k))) ∧ (∀ j (hj : j < f.length), j < k → isT (f[j]'hj).k = false) ∧ Below w.heap.size w wr) (fun _ i _ => f.length - (intOf i).toNat)
    case atStart => exact ⟨0, Nat.zero_le _, rfl, rfl, fun j _ h => absurd h (Nat.not_lt_zero j), hb⟩
    case round =>
      obtain ⟨k, hk, rfl, rfl, hNo, hB⟩ := hrel
      have hNO := Lib.hid hNo
      clear hNo
      by_cases hlt : k < f.length
      · obtain ⟨ad, rfl, had, c0, c1, c2⟩ := (hR.call hB).row k hlt
        obtain ⟨hp, hts⟩ := HI.out k hlt
        have hl := HL.out k hk
        have hn := encS_next f k hlt
        have htg : isT (f[k]'hlt).k = true → encE f = (.empty, 7) := fun q => HBD.out (tag_some hlt q)
        have hno2 : isT (f[k]'hlt).k = false → ∀ j (hj : j < f.length), j < k + 1 → isT (f[j]'hj).k = false := fun q j hj hjk => by
          by_cases e : j = k
          · subst e; exact q
          · exact hNO.out j hj (by omega)
        generalize f[k] = x at *
        generalize encS (f.take k) = L at *
        have hfl : isT x.k = false → x.k = 1 ∨ x.k = 5 := proper_flat hp
        have HN := Lib.hid hn; have HTG := Lib.hid htg; have HNO2 := Lib.hid hno2; have HFL := Lib.hid hfl
        clear hn htg hno2 hp hfl
        have V := Var3.new wr x.k x.t x.id
        have hB1 := blw hB (.cells #[.int .i64 x.k, .string x.t, .int .i64 x.id] 54)
        obtain ⟨v0, v1, v2, vl⟩ := id V
        have ht := fun W => ristag_any x.k x.t x.id W
        cases hq : isT x.k
        case true =>
          have he := HTG.out hq
          have HE := Lib.hid he
          rw [hq] at ht
          have HT := Lib.hid ht
          clear he ht hq V
          go_wp2_with fail
          refine (HT.out _).mono ?_; rintro e w2 ⟨rfl, hb2⟩
          go_wp2_with fail
          go_ret2
          exact ⟨by rw [HE.out]; rfl, BelowOn hB1 hb2⟩
        case false =>
          have hkd := HFL.out hq
          have hno3 := HNO2.out hq
          have HN3 := Lib.hid hno3
          rw [hq] at ht
          have HT := Lib.hid ht
          clear ht hq hno3
          rcases hkd with h1 | h5
          · have q1 : (x.k == 1) = true := by rw [h1]; rfl
            have hfin := bs_t L h1
            have HF := Lib.hid hfin
            clear hfin h1
            go_wp2_with fail
            refine (HT.out _).mono ?_; rintro e w2 ⟨rfl, hb2⟩
            have V2 := V.call hb2
            have hB2 := BelowOn hB1 hb2
            clear V v0 v1 v2 vl
            obtain ⟨v0, v1, v2, vl⟩ := id V2
            go_wp2_with fail
            go_loopw [7, 10] (fun v i wi => ∃ (j : Nat), j ≤ x.t.size ∧ i = .int .i64 j ∧ v = .string (bsL (L ++ encT (x.t.data.toList.take j))) ∧ Var3 wi wr.heap.size x.k x.t x.id ∧ Below w.heap.size w wi) (fun _ i _ => x.t.size - (intOf i).toNat)
            case atStart => exact ⟨0, Nat.zero_le _, rfl, by simp [encT], V2, hB2⟩
            case round =>
              obtain ⟨j, hj, rfl, rfl, V3, hB3⟩ := hrel
              obtain ⟨v0, v1, v2, vl⟩ := id V3
              by_cases hjl : j < x.t.size
              · have hnx := bs_next L x.t j hjl
                have htl := encT_take x.t j (by omega)
                have hbl := byS_len x.t[j]
                have hz : ¬ (9223372036854775807 < (bsL (L ++ encT (x.t.data.toList.take j))).size + (bsL (byS x.t[j])).size) := by
                  rw [bsL_size, bsL_size, List.length_append]; omega
                have hbo := fun W => byteof_ref x.t[j] W
                have HB0 := Lib.hid hbo; have HX := Lib.hid hnx
                clear hbo hnx htl hbl
                generalize bsL (L ++ encT (x.t.data.toList.take j)) = S at *
                generalize hU : bsL (byS x.t[j]) = U at *
                clear hU
                go_wp2_with fail
                refine (HB0.out _).mono ?_; rintro e w4 ⟨rfl, hb4⟩
                go_wp2_with fail
                go_roundw
                case rel => exact ⟨j + 1, hjl, by go_num, by rw [← HX.out], V3.call hb4, BelowOn hB3 hb4⟩
                case measure => simp [intOf]; omega
              · have hj' : x.t.data.toList.take j = x.t.data.toList := List.take_of_length_le (by simp; omega)
                rw [hj', HF.out]
                go_wp2_with fail
                go_roundw
                case rel => exact ⟨k + 1, hlt, by go_num, by rw [HN.out], fun j hj hjk => HN3.out j hj hjk, hB3⟩
                case measure => simp [intOf]; omega
          · have q5 : (x.k == 5) = true := by rw [h5]; rfl
            have q1 : (x.k == 1) = false := by rw [h5]; rfl
            have q2 : (x.k == 2) = false := by rw [h5]; rfl
            have q3 : (x.k == 3) = false := by rw [h5]; rfl
            have q4 : (x.k == 4) = false := by rw [h5]; rfl
            have hfin := bs_e1 L h5
            have HF := Lib.hid hfin
            have s1 : (⟨#[123]⟩ : ByteArray).size = 1 := rfl
            have s2 : (⟨#[125]⟩ : ByteArray).size = 1 := rfl
            have z0 : (bsL L).size = L.length := bsL_size L
            have z1 : ¬ (9223372036854775807 < 1 + x.t.size) := by omega
            have z2 : ¬ (9223372036854775807 < (⟨#[123]⟩ ++ x.t : ByteArray).size + 1) := by
              rw [ByteArray.size_append, s1]; omega
            have z3 : ¬ (9223372036854775807 < (bsL L).size + ((⟨#[123]⟩ ++ x.t ++ ⟨#[125]⟩ : ByteArray)).size) := by
              rw [ByteArray.size_append, ByteArray.size_append, s1, s2]; omega
            clear hfin h5 s1 s2 z0
            generalize bsL L = S at *
            go_wp2_with fail
            refine (HT.out _).mono ?_; rintro e w2 ⟨rfl, hb2⟩
            have V2 := V.call hb2
            have hB2 := BelowOn hB1 hb2
            clear V v0 v1 v2 vl
            obtain ⟨v0, v1, v2, vl⟩ := id V2
            go_wp2_with fail
            go_roundw
            case rel => exact ⟨k + 1, hlt, by go_num, by rw [HN.out, ← HF.out], fun j hj hjk => HN3.out j hj hjk, hB2⟩
            case measure => simp [intOf]; omega
      · obtain rfl : k = f.length := by omega
        have he := HOK.out (HNT.out (fun j hj => hNO.out j hj hj))
        have HE := Lib.hid he
        clear he
        rw [List.take_length]
        go_wp2_with fail
        go_ret2
        exact ⟨by rw [HE.out]; rfl, hB⟩
  · rw [encE_bad h]
    have q : (valE f == 0) = false := by simpa using h
    have HV := Lib.hid hv
    clear hv h
    generalize valE f = E at *
    go_enter Tryz.func37, Tryz.ntmps37
    go_wp2_with fail
    refine (HV.out _ hR).mono ?_; rintro e w1 ⟨rfl, hb⟩
    go_wp2_with fail
    go_ret2
    exact ⟨rfl, hb⟩
end Go.Proofs.YteaciofacmbllaaGreatDoor
namespace Go.Proofs.YteaciofacmbllaaGreatDoor
open Go.ChangeShapes Go.WideShapes Go.ChangeAt Go.RowKit
set_option linter.unusedVariables false
theorem Its.past {W w1 : World} {p : Option Addr} {l : List It} {row : Option Nat} (h : Its W p l) (hg : W.grownBy w1 row) (hn : ∀ a, p = some a → row ≠ some a.block) : Its w1 p l := fun h0 => by
  obtain ⟨a, ha, hlt, _⟩ := h h0
  refine (h.keep hg.size (fun b hb => ?_)) h0
  refine hg.block _ ?_ (fun e => hn b hb e.symm)
  rw [ha] at hb; injection hb with hb; subst hb; exact hlt
end Go.Proofs.YteaciofacmbllaaGreatDoor
namespace Go.Proofs.YteaciofacmbllaaGreatDoor
open Go.ChangeShapes Go.WideShapes Go.ChangeAt Go.RowKit
set_option linter.unusedVariables false
set_option linter.unusedSimpArgs false
set_option maxRecDepth 100000

/-- What longer makes of an item's bytes: the bytes. -/
def LngR (y : It) (T t : List UInt8) : Prop := t = T
def EndL (b : Nat) (p : Option Addr) (cap : Nat) (L : List Int) (m : Nat) (P : List UInt8 → Prop) (w : World) (e : Ending) (w' : World) : Prop := ∃ t m', e = .returned (.string (bsL t)) ∧ P t ∧ m' ≤ m + 1 ∧ w.grownBy w' (some b) ∧ NumsAt w' b p cap L m'
set_option maxHeartbeats 3200000 in
theorem longer_any (b : Nat) (p : Option Addr) (cap : Nat) (L : List Int) (m : Nat) (y : It) (T : List UInt8) (w : World) (h : NumsAt w b p cap L m) (hm : m ≤ 900000) (hT : T.length ≤ 100000) :
    Calls Tryz.prog 38 #[.pointer (some ⟨b, 0, none⟩), .int .i64 3, .agg #[.int .i64 y.k, .string y.t, .int .i64 y.id], .string (bsL T)] w (EndL b p cap L m (LngR y T) w) := by
  obtain ⟨yk, yt, yi⟩ := y
  obtain ⟨v0, v1, v2, v3⟩ := Var3.new w yk yt yi
  have hal := h.call (blw (Below.refl _ _) (.cells #[.int .i64 yk, .string yt, .int .i64 yi] 54))
  have hca := chg_below (b := b) (blw (Below.refl w.heap.size w) (.cells #[.int .i64 yk, .string yt, .int .i64 yi] 54))
  have HR := Lib.hid (show LngR ⟨yk, yt, yi⟩ T T from rfl)
  dsimp only
  generalize hB : bsL T = B
  have HB := Lib.hid hB
  clear hB
  go_enter Tryz.func38, Tryz.ntmps38
  go_wp2_with fail
  go_ret
  exact ⟨T, m, by rw [HB.out]; rfl, HR.out, by omega, hca, hal⟩
theorem lng_pie {y x : It} {t : List UInt8} (hx : expX y = [x]) (h : LngR y (e1S x) t) : PieR x t := h
/-- The slice of one position, and what it is written as. -/
theorem one_slice {F : List It} (hv : valE F = 0) (ht : NoT F) (i : Nat) (hi : i < lenI F) : ∃ x : It, (expI F).take (i + 1) = (expI F).take i ++ [x] ∧ expI (slI F 0 i (i + 1)) = [x] ∧ valE (slI F 0 i (i + 1)) = 0 ∧ encE (slI F 0 i (i + 1)) = (bsL (e1S x), 0) ∧ x.t.size ≤ 1024 := by
  have hl := expI_len F
  have hi' : i < (expI F).length := by omega
  refine ⟨(expI F)[i], ?_, ?_, sl_valid hv i (i + 1), ?_, ?_⟩
  · rw [List.take_add_one, List.getElem?_eq_getElem hi']; rfl
  · rw [exp_cut F i (i + 1) (by omega) (by omega), Nat.add_sub_cancel_left, List.drop_eq_getElem_cons hi']; rfl
  · have h1 : tagsL (slI F 0 i (i + 1)) = [] := by
      rw [List.eq_nil_iff_forall_not_mem]
      intro y hy
      obtain ⟨h1, h2⟩ := mem_tags.1 hy
      have : y ∈ tagsL F := mem_tags.2 ⟨sl_tags F 0 i (i + 1) y h1 h2, h2⟩
      rw [show tagsL F = [] from ht] at this; cases this
    rw [encE_ok (sl_valid hv i (i + 1)) (by rw [h1]; rfl), ← encS_exp]
    unfold encG
    rw [exp_cut F i (i + 1) (by omega) (by omega), Nat.add_sub_cancel_left, List.drop_eq_getElem_cons hi']
    simp only [List.take_succ_cons, List.take_zero, List.flatMap_cons, List.flatMap_nil, List.append_nil]
  · have := (exp_flat (valE_zero hv).2.2 ht (expI F)[i] (List.getElem_mem _)).1
    exact (one_small this).1

def EndRw (F : List It) (b : Nat) (p : Option Addr) (cap : Nat) (L : List Int) (m : Nat) (w : World) (e : Ending) (w' : World) : Prop := ∃ (raw : List UInt8) (m' : Nat), e = .returned (.string (bsL raw)) ∧ RawsR (expI F) raw ∧ raw.length ≤ 3010 * lenI F ∧ m' ≤ m + 2 * lenI F ∧ w.grownBy w' (some b) ∧ NumsAt w' b p cap L m'
set_option maxHeartbeats 6400000 in
theorem mkraws_any (b : Nat) (p : Option Addr) (cap : Nat) (L : List Int) (m : Nat) (pf : Option Addr) (cf : Nat) (F : List It) (w : World) (h : NumsAt w b p cap L m) (hm : m ≤ 800000) (hF : Its w pf F) (hsep : 0 < F.length → ∀ a, pf = some a → some b ≠ some a.block) (hc : F.length ≤ cf) (hcm : cf ≤ maxLen) (hv : valE F = 0) (ht : NoT F) (htx : txtI F ≤ 140737488355328) :
    Calls Tryz.prog 20 #[.pointer (some ⟨b, 0, none⟩), .int .i64 3, .slice pf F.length cf] w (EndRw F b p cap L m w) := by
  obtain ⟨h1, h2, h3⟩ := valE_zero hv
  have hO := oks_valid h3 htx
  have hlen := fun W i => rlength_any pf cf F W i hc hcm (by omega)
  have hsl := fun k (hk : k < lenI F) W i => rslice_yes pf cf F k (k + 1) W i hO hc hcm (by omega) (by omega) (by omega) (by omega)
  have hone := fun k hk => one_slice hv ht k hk
  have henc := fun k (hk : k < lenI F) q c W (i : Its W q (slI F 0 k (k + 1))) (a : (slI F 0 k (k + 1)).length ≤ c) (b : c ≤ maxLen) => refencode_any q c (slI F 0 k (k + 1)) W i (oks_valid (valE_zero (sl_valid hv k (k + 1))).2.2 (by have := txt_sl F 0 k (k + 1); omega)) a b
  have hnx := fun m (hm : m ≤ 900000) W h => next_any b p cap L m 3 3 rfl W h (by omega) (by omega) (by omega)
  have hlg := fun m (hm : m ≤ 900000) y T (hT : T.length ≤ 100000) W h => longer_any b p cap L m y T W h hm hT
  have hpe : ∀ x : It, x.t.size ≤ 1024 → ∀ t, PieR x t → t.length ≤ 3010 := fun x hx t ht => pie_len hx ht
  have HL := Lib.hid hlen; have HS := Lib.hid hsl; have HO := Lib.hid hone; have HE := Lib.hid henc; have HN := Lib.hid hnx; have HG := Lib.hid hlg; have HP := Lib.hid hsep; have HPE := Lib.hid hpe
  have HX := Lib.hid (expI_len F)
  clear hlen hsl hone henc hnx hlg hsep hpe hO h3 htx hv ht h1
  go_enter Tryz.func20, Tryz.ntmps20
  go_wp2_with fail
  go_loopw [7, 8] (fun v i wr => ∃ (k m' : Nat) (rl : List UInt8), k ≤ lenI F ∧ i = .int .i64 k ∧ v = .string (bsL rl) ∧ Hid (RawsR ((expI F).take k) rl) ∧ rl.length ≤ 3010 * k ∧ m' ≤ m + 2 * k ∧ w.grownBy wr (some b) ∧ NumsAt wr b p cap L m') (fun _ i _ => lenI F - (intOf i).toNat)
  case atStart => exact ⟨0, m, [], Nat.zero_le _, rfl, rfl, Lib.hid RawsR.nil, Nat.zero_le _, Nat.le_refl _, chg_below (Below.refl _ _), h⟩
  case round =>
    obtain ⟨k, m', rl, hk, rfl, rfl, HR, hrl, hm', hgr, hN⟩ := hrel
    have hFr : Its wr pf F := fun h0 => hF.past hgr (HP.out h0) h0
    by_cases hlt : k < lenI F
    · obtain ⟨x, htk, hex, hve, hen, hxs⟩ := HO.out k hlt
      have hS := fun W i => HS.out k hlt W i
      have hE := fun q c W i a b => HE.out k hlt q c W i a b
      rw [hen] at hE
      dsimp only at hE
      have HEX := Lib.hid hex; have HTK := Lib.hid htk
      have el : (e1S x).length ≤ 3000 := e1S_len hxs
      clear hex htk hen hve
      generalize slI F 0 k (k + 1) = X at *
      have hpx := HPE.out x hxs
      have SS := Lib.hid hS; have EE := Lib.hid hE; have PX := Lib.hid hpx
      clear hS hE hpx
      have n1 := fun W h => HN.out m' (by omega) W h
      have g1 := fun y W h => HG.out (m' + 1) (by omega) y (e1S x) (by omega) W h
      have N1 := Lib.hid n1; have G1 := Lib.hid g1; clear n1 g1
      go_wp2_with fail
      refine (HL.out _ hFr).mono ?_; rintro e w1 ⟨rfl, rfl⟩
      go_wp2_with fail
      refine (SS.out _ hFr).mono ?_; rintro e w2 ⟨v, rfl, hA⟩
      obtain ⟨px, cx, rfl, ha, hb, hi⟩ := hA.own.its
      have hadr := OwnL.addr hA.own
      have hsx : ∀ a, px = some a → some b ≠ some a.block := fun a ha e => by
        have h1 := (hadr a ha).1
        have h2 := hN.lt
        injection e with e
        omega
      have HSX := Lib.hid hsx
      clear hsx hadr
      have hN2 := hN.call hA.below
      have hgr2 := chg_trans hgr (chg_below (b := b) hA.below)
      clear hA
      go_wp2_with fail
      refine (EE.out _ _ _ hi ha hb).mono ?_; rintro e w3 ⟨rfl, hb3⟩
      have hN3 := hN2.call hb3
      have hgr3 := chg_trans hgr2 (chg_below (b := b) hb3)
      have hi3 := hi.call hb3
      clear hi hN2 hgr2 hb3 hFr
      have sz : (bsL rl).size + (bsL (e1S x)).size ≤ 100000000 := by rw [bsL_size, bsL_size]; omega
      have sz1 : ¬ (9223372036854775807 < (bsL rl).size + (bsL (e1S x)).size) := by omega
      have hcat : bsL rl ++ bsL (e1S x) = bsL (rl ++ e1S x) := by rw [bsL_append]
      have hfin : ∀ t m2 (W : World), PieR x t → m2 ≤ m' + 2 → w.grownBy W (some b) → NumsAt W b p cap L m2 → ∃ (k1 m1 : Nat) (rl1 : List UInt8), k1 ≤ lenI F ∧ Value.int .i64 ((k : Int) + 1) = .int .i64 k1 ∧ Value.string (bsL (rl ++ t)) = .string (bsL rl1) ∧ Hid (RawsR ((expI F).take k1) rl1) ∧ rl1.length ≤ 3010 * k1 ∧ m1 ≤ m + 2 * k1 ∧ w.grownBy W (some b) ∧ NumsAt W b p cap L m1 := fun t m2 W ht h1 h2 h3 =>
        ⟨k + 1, m2, rl ++ t, hlt, by go_num, rfl, Lib.hid (by rw [HTK.out]; exact HR.out.snoc ht), by rw [List.length_append]; have := PX.out t ht; omega, by omega, h2, h3⟩
      have HFIN := Lib.hid hfin; have HCAT := Lib.hid hcat
      clear hfin hcat
      by_cases hx1 : X.length = 1
      · have q1 : ((X.length : Int) == 1) = true := by rw [hx1]; rfl
        obtain ⟨y, hX⟩ : ∃ y, X = [y] := List.length_eq_one_iff.1 hx1
        have hy : expX y = [x] := by have := HEX.out; rw [hX] at this; unfold expI at this; simpa using this
        have hN0 := N1.out
        have hxy : X[0]'(by omega) = y := by subst hX; rfl
        have hrw : ∀ W, Its W px X → _ := fun W i => i.row 0 (by omega)
        rw [hxy] at hrw
        have HRW := Lib.hid hrw
        have hHY := Lib.hid hy; have g1 := G1.out y
        have GY := Lib.hid g1
        have i0 : (0 : Int) < (X.length : Int) := by omega
        clear hX hxy hy hN0 hrw g1
        have hr := nx_lt L m' 3 (by omega)
        generalize nx L m' 3 = r at *
        go_wp2_with fail
        refine (N1.out _ hN3).mono ?_; rintro e w4 ⟨rfl, hg4, hN4⟩
        by_cases hr0 : r = 0
        · have q2 : ((r : Int) == 0) = true := by rw [hr0]; rfl
          have hgr4 := chg_trans hgr3 hg4
          obtain ⟨ad, rfl, had, c0, c1, c2⟩ := HRW.out _ (hi3.past hg4 HSX.out)
          have k0 : w4.cell? ad = some (.int .i64 y.k) := by simpa [Addr.add] using c0
          have k1 : w4.cell? ⟨ad.block, ad.off + 1, none⟩ = some (.string y.t) := by simpa [Addr.add] using c1
          have k2 : w4.cell? ⟨ad.block, ad.off + 2, none⟩ = some (.int .i64 y.id) := by simpa [Addr.add] using c2
          go_wp2_with fail
          refine (GY.out _ hN4).mono ?_; rintro e w5 ⟨t, m2, rfl, hL, hm2, hg5, hN5⟩
          have hpt := lng_pie hHY.out hL
          have htl := PX.out t hpt
          have hgr5 := chg_trans hgr4 hg5
          have szt : (bsL rl).size + (bsL t).size ≤ 100000000 := by rw [bsL_size, bsL_size]; omega
          have sz2 : ¬ (9223372036854775807 < (bsL rl).size + (bsL t).size) := by omega
          have HCT := Lib.hid (show bsL rl ++ bsL t = bsL (rl ++ t) by rw [bsL_append])
          have HPT := Lib.hid hpt
          clear hL hpt szt hg5
          go_wp2_with fail
          go_roundw
          case rel => rw [HCT.out]; exact HFIN.out _ m2 w5 HPT.out (by omega) hgr5 hN5
          case measure => simp [intOf]; omega
        · have q2 : ((r : Int) == 0) = false := by rw [beq_eq_false_iff_ne]; omega
          have hgr4 := chg_trans hgr3 hg4
          go_wp2_with fail
          go_roundw
          case rel => rw [HCAT.out]; exact HFIN.out _ (m' + 1) w4 rfl (by omega) hgr4 hN4
          case measure => simp [intOf]; omega
      · have q1 : ((X.length : Int) == 1) = false := by rw [beq_eq_false_iff_ne]; omega
        go_wp2_with fail
        go_roundw
        case rel => rw [HCAT.out]; exact HFIN.out _ m' w3 rfl (by omega) hgr3 hN3
        case measure => simp [intOf]; omega
    · obtain rfl : k = lenI F := by omega
      have hR := HR.out
      rw [List.take_of_length_le (by rw [HX.out]; exact Nat.le_refl _)] at hR
      have HRR := Lib.hid hR
      clear hR HR
      go_wp2_with fail
      refine (HL.out _ hFr).mono ?_; rintro e w1 ⟨rfl, rfl⟩
      go_wp2_with fail
      go_ret
      exact ⟨rl, m', rfl, HRR.out, hrl, hm', hgr, hN⟩
/-- What raws answers. -/
def EndRaw (F : List It) (w : World) (e : Ending) (w' : World) : Prop := ∃ (raw : List UInt8) (p : Option Addr) (c : Nat), e = .returned (.tuple #[.string (bsL raw), .slice p F.length c]) ∧ RawsR (expI F) raw ∧ raw.length ≤ 3010 * lenI F ∧ F.length ≤ c ∧ c ≤ maxLen ∧ Its w' p F ∧ Below w.heap.size w w'
set_option maxHeartbeats 1600000 in
theorem raws_any (p0 : Option Addr) (c0 : Nat) (L0 : List Int) (p1 : Option Addr) (c1 : Nat) (L1 : List Int) (w : World) (r0 : Ones w (Value.int .i64) p0 L0) (o0 : ∀ i (h : i < L0.length), (Lit.int .i64 (L0[i]'h)).wf = true) (n0 : L0.length ≤ c0) (m0 : c0 ≤ maxLen)
    (r1 : Ones w (Value.int .i64) p1 L1) (o1 : ∀ i (h : i < L1.length), (Lit.int .i64 (L1[i]'h)).wf = true) (n1 : L1.length ≤ c1) (m1 : c1 ≤ maxLen) :
    Calls Tryz.prog 6 #[.slice p0 L0.length c0, .slice p1 L1.length c1] w (EndRaw (mk L0 false true) w) := by
  have hmd := rmade_any p0 c0 L0 w r0 o0 n0 m0
  unfold EndF at hmd
  have hok := mk_ok L0 false true
  have g1 := hok.len; have g2 := hok.txt
  have hv := hok.valid (by decide)
  have ht := mk_flat L0
  generalize mk L0 false true = F at *
  have hN := fun W (h : Ones W (Value.int .i64) p1 L1) => NumsAt.made (w := W) h o1 n1 m1
  have hmr := fun b pf cf W h i s hc hcm => mkraws_any b p1 c1 L1 0 pf cf F W h (by omega) i s hc hcm hv ht (by omega)
  have HN := Lib.hid hN; have HM := Lib.hid hmr
  clear hN hmr hok hv ht o0 o1
  go_enter Tryz.func6, Tryz.ntmps6
  go_wp2_with fail
  refine hmd.mono ?_; rintro e w2 ⟨p2, c2, rfl, a2, b2, i2, hb⟩
  have r1 := r1.call hb
  go_wp2_with fail
  have hi3 := i2.call (blw (Below.refl _ w2) (.cells #[.slice p1 L1.length c1, .int .i64 0] 44))
  refine (HM.out w2.heap.size p2 c2 _ (HN.out w2 r1) hi3 (fun h0 a ha e => ?_) a2 b2).mono ?_
  · obtain ⟨a', h1, h2, _⟩ := i2 h0
    rw [ha] at h1; injection h1 with h1; injection e with e; rw [h1] at e; omega
  · rintro e w3 ⟨raw, m', rfl, hraw, hlen, hm', hg, hN3⟩
    have hb3 : Below w2.heap.size w2 w3 := (blw (Below.refl w2.heap.size w2) _).trans (grown_below hg (Nat.le_refl _) (by simp))
    have i3 := i2.call hb3
    have hb4 := BelowOn hb hb3
    have HRAW := Lib.hid hraw
    clear hraw hN3 hg hb3 hi3 i2 hmd
    go_wp2_with fail
    go_ret2
    exact ⟨raw, p2, c2, rfl, HRAW.out, hlen, a2, b2, i3, hb4⟩
end Go.Proofs.YteaciofacmbllaaGreatDoor
