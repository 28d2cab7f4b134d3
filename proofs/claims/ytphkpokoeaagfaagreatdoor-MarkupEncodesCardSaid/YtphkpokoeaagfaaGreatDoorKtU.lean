/- Rename. The reference's Rename. Renumber and Canonical. The generator of fragments: the walk. Shape. The reference's Plain, SameInts, SameTexts. What the law's own generator answers; what Shape answers, in one form. Plain mathematics: how positions are written with markup; the generator's nested fragments and their numbers. -/
import Derived.Test.YtphkpokoeaagfaaGreatDoorFst
import Derived.Test.YtphkpokoeaagfaaGreatDoorPln
import Derived.Test.YtphkpokoeaagfaaGreatDoorNrm
import Derived.Test.YtphkpokoeaagfaaGreatDoorFrg
import Derived.Test.YtphkpokoeaagfaaGreatDoorTwo
import Derived.Test.YtphkpokoeaagfaaGreatDoorRnr
import Derived.Test.YtphkpokoeaagfaaGreatDoorSam
import Derived.Test.YtphkpokoeaagfaaGreatDoorNum
import Derived.Test.YtphkpokoeaagfaaGreatDoorGvl
import Derived.Test.YtphkpokoeaagfaaGreatDoorKtA
import Derived.Test.YtphkpokoeaagfaaGreatDoorIgn
namespace Go.Proofs.YtphkpokoeaagfaaGreatDoor
open Go.ChangeShapes Go.WideShapes Go.ChangeAt Go.RowKit
set_option linter.unusedVariables false
set_option maxRecDepth 100000

/-- The number that a list of pairs gives a number. -/
def nmF (ps : List (Int × Int)) (id : Int) : Option Int := (ps.find? fun q => q.1 == id).map (·.2)
theorem nm_snoc (ps : List (Int × Int)) (a b id : Int) : nmF (ps ++ [(a, b)]) id = match nmF ps id with | some v => some v | none => if a = id then some b else none := by
  unfold nmF
  rw [List.find?_append]
  cases h : ps.find? fun q => q.1 == id with
  | some v => rfl
  | none =>
    by_cases e : a = id
    · simp [e]
    · simp [e]
theorem nm_have (ps : List (Int × Int)) (a b c : Int) (h : nmF ps a = some c) (id : Int) : nmF (ps ++ [(a, b)]) id = nmF ps id := by
  rw [nm_snoc]
  cases h2 : nmF ps id with
  | some v => rfl
  | none =>
    show (if a = id then _ else _) = none
    rw [if_neg (fun e => by rw [e, h2] at h; cases h)]
theorem nm_new (ps : List (Int × Int)) (a b : Int) (h : nmF ps a = none) (id : Int) : (if id = a then some b else nmF ps id) = nmF (ps ++ [(a, b)]) id := by
  rw [nm_snoc]
  by_cases e : id = a
  · rw [if_pos e, e, h]; simp
  · rw [if_neg e]
    cases h2 : nmF ps id with
    | some v => rfl
    | none => show none = if a = id then _ else _; rw [if_neg (fun c => e c.symm)]
def ren1 (ps : List (Int × Int)) (x : It) : List It := if isT x.k = true then (match nmF ps x.id with | some n => [⟨x.k, x.t, n⟩] | none => []) else [x]
def renL (ps : List (Int × Int)) (l : List It) : List It := l.flatMap (ren1 ps)
theorem ren_next (ps : List (Int × Int)) (l : List It) (k : Nat) (h : k < l.length) : renL ps (l.take (k + 1)) = renL ps (l.take k) ++ ren1 ps (l[k]'h) := by
  rw [List.take_succ_eq_append_getElem h]; unfold renL; rw [List.flatMap_append]; simp
theorem ren1_len (ps : List (Int × Int)) (x : It) : (ren1 ps x).length ≤ 1 := by unfold ren1; split; split <;> simp; simp
theorem ren_len (ps : List (Int × Int)) (l : List It) : ∀ k, k ≤ l.length → (renL ps (l.take k)).length ≤ k := by
  intro k
  induction k with
  | zero => intro _; simp [renL]
  | succ j ih =>
    intro hj
    rw [ren_next ps l j hj, List.length_append]
    have := ren1_len ps l[j]; have := ih (by omega); omega
theorem ren1_txt (ps : List (Int × Int)) (x : It) : txtI (ren1 ps x) ≤ x.t.size := by unfold ren1 txtI; split; split <;> simp; simp
theorem ren_txt (ps : List (Int × Int)) (l : List It) : txtI (renL ps l) ≤ txtI l := by
  induction l with
  | nil => exact Nat.le_refl _
  | cons x t ih =>
    have e1 : renL ps (x :: t) = ren1 ps x ++ renL ps t := rfl
    have e2 : txtI (x :: t) = x.t.size + txtI t := rfl
    rw [e1, txtI_append, e2]
    have := ren1_txt ps x; omega
end Go.Proofs.YtphkpokoeaagfaaGreatDoor
namespace Go.Proofs.YtphkpokoeaagfaaGreatDoor
open Go.ChangeShapes Go.WideShapes Go.ChangeAt Go.RowKit
set_option linter.unusedVariables false
set_option maxRecDepth 100000

theorem nmr_one (P : List (Int × Int)) (a b id : Int) (h : nmF P id = none) : nmF (P ++ [(a, b)]) id = if a = id then some b else none := by rw [nm_snoc, h]
theorem nm_some (P Q : List (Int × Int)) (id n : Int) (h : nmF P id = some n) : nmF (P ++ Q) id = some n := by
  unfold nmF at *
  rw [List.find?_append]
  cases h2 : P.find? fun q => q.1 == id with
  | some v => rw [h2] at h; exact h
  | none => rw [h2] at h; cases h
theorem nm_take (P : List (Int × Int)) (j : Nat) (id n : Int) (h : nmF (P.take j) id = some n) : nmF P id = some n := by
  rw [← List.take_append_drop j P]; exact nm_some _ _ _ _ h

end Go.Proofs.YtphkpokoeaagfaaGreatDoor
namespace Go.Proofs.YtphkpokoeaagfaaGreatDoor
open Go.ChangeShapes Go.WideShapes Go.ChangeAt Go.RowKit
set_option linter.unusedVariables false
set_option maxRecDepth 100000

def EndF2 (L : List It) (w : World) (e : Ending) (w' : World) : Prop := ∃ p c, e = .returned (.slice p L.length c) ∧ L.length ≤ c ∧ c ≤ maxLen ∧ Its w' p L ∧ Below w.heap.size w w'
theorem EndI.f2 {L : List It} {w w' : World} {e : Ending} (h : EndI L w e w') : EndF2 L w e w' := by
  obtain ⟨v, rfl, hA⟩ := h
  obtain ⟨p, c, rfl, h1, h2, hI⟩ := hA.own.its
  exact ⟨p, c, rfl, h1, h2, hI, hA.below⟩
def EndNF (L : List Int) (w : World) (e : Ending) (w' : World) : Prop := ∃ p c, e = .returned (.slice p L.length c) ∧ L.length ≤ c ∧ c ≤ maxLen ∧ Ones w' (Value.int .i64) p L ∧ Below w.heap.size w w'
theorem EndN.f {L : List Int} {w w' : World} {e : Ending} (h : EndN L w e w') : EndNF L w e w' := by
  obtain ⟨v, rfl, hA⟩ := h
  obtain ⟨p, c, rfl, h1, h2, hI⟩ := hA.own.ints
  exact ⟨p, c, rfl, h1, h2, hI, hA.below⟩
theorem nums_wf (l : List It) (hO : Oks l) : ∀ i (h : i < (numsL l).length), (Lit.int .i64 ((numsL l)[i]'h)).wf = true := by
  have : ∀ (l : List It) (out : List Int), (∀ x ∈ l, x.ok) → (∀ n ∈ out, (Lit.int .i64 n).wf = true) → ∀ n ∈ l.foldl numS out, (Lit.int .i64 n).wf = true := by
    intro l
    induction l with
    | nil => intro out _ h; exact h
    | cons x t ih =>
      intro out h1 h2
      rw [List.foldl_cons]
      refine ih _ (fun y hy => h1 y (by simp [hy])) ?_
      intro n hn
      unfold numS at hn
      split at hn
      · rcases List.mem_append.1 hn with hn | hn
        · exact h2 n hn
        · rw [List.mem_singleton.1 hn]; exact (h1 x (by simp)).id
      · exact h2 n hn
  intro i h
  exact this l [] (fun x hx => by obtain ⟨j, hj, e⟩ := List.getElem_of_mem hx; rw [← e]; exact hO j hj) (fun n hn => by cases hn) _ (List.getElem_mem h)
theorem nums_le (l : List It) : (numsL l).length ≤ l.length := by
  have h := nums_len l _ (Nat.le_refl _)
  rwa [List.take_length] at h
/-- The pairs of Renumber. -/
def upPairs (ns : List Int) : List (Int × Int) := ns.zip (upL ns.length)

def EndFF (L M : List It) (w : World) (e : Ending) (w' : World) : Prop := ∃ p c q d, e = .returned (.tuple #[.slice p L.length c, .slice q M.length d]) ∧ L.length ≤ c ∧ c ≤ maxLen ∧ M.length ≤ d ∧ d ≤ maxLen ∧ Its w' p L ∧ Its w' q M ∧ Below w.heap.size w w'
theorem Oks.append {l m : List It} (h : Oks l) (k : Oks m) : Oks (l ++ m) := fun i hi => by
  rcases List.mem_append.1 (List.getElem_mem hi) with hx | hx
  · obtain ⟨j, hj, e⟩ := List.getElem_of_mem hx; rw [← e]; exact h j hj
  · obtain ⟨j, hj, e⟩ := List.getElem_of_mem hx; rw [← e]; exact k j hj

end Go.Proofs.YtphkpokoeaagfaaGreatDoor
namespace Go.Proofs.YtphkpokoeaagfaaGreatDoor
open Go.ChangeShapes Go.WideShapes Go.ChangeAt Go.RowKit
set_option linter.unusedVariables false
set_option linter.unusedSimpArgs false
set_option maxRecDepth 100000

set_option maxHeartbeats 6400000 in
theorem fragment_any (b : Nat) (pn : Option Addr) (cn : Nat) (L : List Int) (m : Nat) (tags nested : Bool) (n : Int) (N : Nat) (hnN : n = (N : Int)) (w : World) (h : NumsAt w b pn cn L m) (hlo : 0 < L.length → ∀ a, pn = some a → a.block < w.heap.size) (hm : m ≤ 100000) (hn : N ≤ 100) :
    Calls Tryz.prog 16 #[.pointer (some ⟨b, 0, none⟩), .int .i64 n, .bool tags, .bool nested] w fun e w' => ∃ v, e = .returned v ∧ w.grownBy w' (some b) ∧ NumsAt w' b pn cn L (fragG L tags nested m N).2 ∧ OwnI w.heap.size (fragG L tags nested m N).1 v w' := by
  subst hnN
  have h1 := fun W h => next_any b pn cn L m ((N : Int) + 1) (N + 1) (by omega) W h (by omega) (by omega) (by omega)
  have hi0 := nx_lt L m (N + 1) (by omega)
  generalize hG : fragG L tags nested m N = G at *
  unfold fragG startG at hG
  generalize nx L m (N + 1) = i0 at *
  generalize hF : runG L tags nested i0 ⟨[], [], 0, m + 1⟩ = F at *
  have H1 := Lib.hid h1; clear h1
  have HG := Lib.hid hG; clear hG
  have HF := Lib.hid hF; clear hF
  have hr0 : GRel b pn cn L w [] [] m (.slice none 0 0) (.slice none 0 0) w := ⟨h.lt, World.grownBy.refl _ _, h, OwnL.nil _ _, OwnL.nil _ _, fun k h => by simp [Value.ownBlock] at h, hlo⟩
  go_enter Tryz.func16, Tryz.ntmps16
  go_wp2_with fail
  refine (H1.out _ h).mono ?_
  rintro e w1 ⟨rfl, hg, hN⟩
  have hr1 := hr0.next hg hN
  clear hr0
  go_wp2_with fail
  go_loopw [9, 10, 11, 12] (fun vf vo vi i wr => ∃ (k n : Nat) (s : St), i = .int .i64 k ∧ vi = .int .i64 s.id ∧ (∃ p c, vf = .slice p s.f.length c) ∧ (∃ p c, vo = .slice p s.o.length c) ∧ k + n = i0 ∧ Sz (m + 1) s n ∧ GRel b pn cn L w s.f s.o s.m vf vo wr ∧ Hid (runG L tags nested k s = F)) (fun _ _ _ i _ => (intOf i).toNat)
  case atStart => exact ⟨i0, 0, ⟨[], [], 0, m + 1⟩, rfl, rfl, ⟨_, _, rfl⟩, ⟨_, _, rfl⟩, rfl, ⟨Nat.le_refl _, Nat.le_refl _, Nat.le_refl _, fun y hy => by (cases hy), Nat.le_refl _, Nat.le_refl _, Nat.le_refl _⟩, hr1, HF⟩
  case round =>
    obtain ⟨k, j, s, rfl, rfl, ⟨pf, cf, rfl⟩, ⟨po, co, rfl⟩, hkj, hz, hR, HL⟩ := hrel
    by_cases hlt : 0 < k
    · have q : decide (0 < (k : Int)) = true := decide_eq_true (by omega)
      obtain ⟨k, rfl⟩ : ∃ j, k = j + 1 := ⟨k - 1, by omega⟩
      have hz' := hz.step L tags nested
      have hzm := hz.m
      have hL := fun W h => line_any b pn cn L s.m 3 3 rfl W h (by omega) (by omega)
      have h8 := fun W h => next_any b pn cn L (lineF L s.m 3).2 8 8 rfl W h (by have := lineF_size L s.m 3; omega) (by omega) (by omega)
      obtain ⟨cI, hcI⟩ : ∃ z : Int, z = (nx L (lineF L s.m 3).2 8 : Int) := ⟨_, rfl⟩
      rw [← hcI] at h8
      have HL3 := Lib.hid hL; have H8 := Lib.hid h8; have HC := Lib.hid hcI
      clear hL h8 hcI
      go_wp2_with fail
      refine (HL3.out _ hR.nums).mono ?_
      rintro e w2 ⟨rfl, hg2, hN2⟩
      have hR2 := hR.next hg2 hN2
      go_wp2_with fail
      have hR3 := hR2.alloc (.cells #[.int .i64 1, .string (lineF L s.m 3).1, .int .i64 0] 62)
      have hbw := hR.base
      have hsz2 : w.heap.size ≤ w2.heap.size := hR2.chg.size
      refine (H8.out _ hR3.nums).mono ?_
      rintro e w3 ⟨rfl, hg3, hN3⟩
      have hR4 := hR3.next hg3 hN3
      have hB3 := (hg3.block w2.heap.size (by simp) (fun e => by injection e with e; omega)).trans (heap_alloc_new w2 _)
      have hfB : (Value.slice pf s.f.length cf).ownBlock ≠ some w2.heap.size := fun e => by have := (hR2.f.lt _ e).2; omega
      have hoB : (Value.slice po s.o.length co).ownBlock ≠ some w2.heap.size := fun e => by have := (hR2.o.lt _ e).2; omega
      have zB : w2.heap.size < w3.heap.size := by have := hg3.size; simp at this; omega
      generalize w2.heap.size = B at *
      clear hR3 hN3 hg3 hR2 hN2 hg2 HL3 H8
      go_upto_block 2 with fail
      go_cut [10, 11, 14] from 20 to 114 (fun vo' vi' _ wx => ∃ (x : It) (o' : List It) (id' m' : Nat), Hid (nextG L tags nested s.o s.id s.m = (x, o', id', m')) ∧ vi' = .int .i64 id' ∧ (∃ p c, vo' = .slice p o'.length c) ∧ GRel b pn cn L w s.f o' m' (.slice pf s.f.length cf) vo' wx ∧ wx.heap[B]? = some (.cells #[.int .i64 x.k, .string x.t, .int .i64 x.id] 62 (0, 0)))
      case first =>
        have hc8 : cI = 0 ∨ cI = 1 ∨ cI = 2 ∨ cI = 3 ∨ cI = 4 ∨ cI = 5 ∨ cI = 6 ∨ cI = 7 := by have := nx_lt L (lineF L s.m 3).2 8 (by omega); have := HC.out; omega
        have hlf := lineF_size L s.m 3
        have hzol := hz.ol
        have hzid := hz.id
        have h2 := fun W h => next_any b pn cn L ((lineF L s.m 3).2 + 1) 2 2 rfl W h (by omega) (by omega) (by omega)
        have h3 := fun W h => next_any b pn cn L ((lineF L s.m 3).2 + 1) 3 3 rfl W h (by omega) (by omega) (by omega)
        have H2 := Lib.hid h2; have H3 := Lib.hid h3; clear h2 h3
        rcases hc8 with rfl | rfl | rfl | rfl | rfl | rfl | rfl | rfl
        · have hk3 := nx_lt L ((lineF L s.m 3).2 + 1) 3 (by omega)
          have HN := Lib.hid (nextG_slot L tags nested s.o s.id s.m (by have := HC.out; omega))
          clear HL HC
          go_wp2_with fail
          refine (H3.out _ (hR4.alloc _).nums).mono ?_
          rintro e w5 ⟨rfl, hg5, hN5⟩
          have hrow := pick_row ((hg5.block w3.heap.size (by simp) (fun e => by injection e; omega)).trans (heap_alloc_new w3 _)) slotL rfl _ (nx_lt L ((lineF L s.m 3).2 + 1) 3 (by omega))
          have hB5 := (hg5.block B (by simp; omega) (fun e => by injection e; omega)).trans ((Lib.alloc_old w3 _ B zB).trans hB3)
          have hR5 := (hR4.alloc _).next hg5 hN5
          obtain ⟨_, _, _, f0, f1, f2⟩ := cells_item hB5
          have HB5 := Lib.hid hB5
          have zB5 : B < w5.heap.size := (Array.getElem?_eq_some_iff.1 hB5).1
          clear hB5
          go_wp2_with fail
          go_meet
          exact ⟨⟨5, pickB slotL (nx L ((lineF L s.m 3).2 + 1) 3), 0⟩, s.o, s.id, (lineF L s.m 3).2 + 1 + 1, HN, rfl, ⟨_, _, rfl⟩, hR5.set3 B hsz2 hfB hoB _ _ _, heap_set3 HB5.out⟩
        · have hk3 := nx_lt L ((lineF L s.m 3).2 + 1) 3 (by omega)
          have HN := Lib.hid (nextG_slot L tags nested s.o s.id s.m (by have := HC.out; omega))
          clear HL HC
          go_wp2_with fail
          refine (H3.out _ (hR4.alloc _).nums).mono ?_
          rintro e w5 ⟨rfl, hg5, hN5⟩
          have hrow := pick_row ((hg5.block w3.heap.size (by simp) (fun e => by injection e; omega)).trans (heap_alloc_new w3 _)) slotL rfl _ (nx_lt L ((lineF L s.m 3).2 + 1) 3 (by omega))
          have hB5 := (hg5.block B (by simp; omega) (fun e => by injection e; omega)).trans ((Lib.alloc_old w3 _ B zB).trans hB3)
          have hR5 := (hR4.alloc _).next hg5 hN5
          obtain ⟨_, _, _, f0, f1, f2⟩ := cells_item hB5
          have HB5 := Lib.hid hB5
          have zB5 : B < w5.heap.size := (Array.getElem?_eq_some_iff.1 hB5).1
          clear hB5
          go_wp2_with fail
          go_meet
          exact ⟨⟨5, pickB slotL (nx L ((lineF L s.m 3).2 + 1) 3), 0⟩, s.o, s.id, (lineF L s.m 3).2 + 1 + 1, HN, rfl, ⟨_, _, rfl⟩, hR5.set3 B hsz2 hfB hoB _ _ _, heap_set3 HB5.out⟩
        · cases tags
          · have HN := Lib.hid (nextG_text L false nested s.o s.id s.m (by have := HC.out; exact Or.inr (Or.inl ⟨by omega, by omega, rfl⟩)))
            clear HL HC
            go_wp2_with fail
            go_meet
            exact ⟨⟨1, (lineF L s.m 3).1, 0⟩, s.o, s.id, (lineF L s.m 3).2 + 1, HN, rfl, ⟨_, _, rfl⟩, hR4, hB3⟩
          have hk3 := nx_lt L ((lineF L s.m 3).2 + 1) 2 (by omega)
          have HN := Lib.hid (nextG_empty L true nested s.o s.id s.m (by have := HC.out; omega) rfl)
          clear HL HC
          go_wp2_with fail
          refine (H2.out _ (hR4.alloc _).nums).mono ?_
          rintro e w5 ⟨rfl, hg5, hN5⟩
          have hrow := pick_row ((hg5.block w3.heap.size (by simp) (fun e => by injection e; omega)).trans (heap_alloc_new w3 _)) emptyL rfl _ (nx_lt L ((lineF L s.m 3).2 + 1) 2 (by omega))
          have hB5 := (hg5.block B (by simp; omega) (fun e => by injection e; omega)).trans ((Lib.alloc_old w3 _ B zB).trans hB3)
          have hR5 := (hR4.alloc _).next hg5 hN5
          obtain ⟨_, _, _, f0, f1, f2⟩ := cells_item hB5
          have HB5 := Lib.hid hB5
          have zB5 : B < w5.heap.size := (Array.getElem?_eq_some_iff.1 hB5).1
          clear hB5
          go_wp2_with fail
          go_meet
          exact ⟨⟨4, pickB emptyL (nx L ((lineF L s.m 3).2 + 1) 2), (s.id + 1 : Nat)⟩, s.o, s.id + 1, (lineF L s.m 3).2 + 1 + 1, HN, rfl, ⟨_, _, rfl⟩, hR5.set3 B hsz2 hfB hoB _ _ _, heap_set3 HB5.out⟩
        · cases tags
          · have HN := Lib.hid (nextG_text L false nested s.o s.id s.m (by have := HC.out; exact Or.inr (Or.inl ⟨by omega, by omega, rfl⟩)))
            clear HL HC
            go_wp2_with fail
            go_meet
            exact ⟨⟨1, (lineF L s.m 3).1, 0⟩, s.o, s.id, (lineF L s.m 3).2 + 1, HN, rfl, ⟨_, _, rfl⟩, hR4, hB3⟩
          have hk3 := nx_lt L ((lineF L s.m 3).2 + 1) 3 (by omega)
          have HN := Lib.hid (nextG_open L true nested s.o s.id s.m (by have := HC.out; omega) rfl)
          clear HL HC
          go_wp2_with fail
          refine (H3.out _ (hR4.alloc _).nums).mono ?_
          rintro e w5 ⟨rfl, hg5, hN5⟩
          have hrow := pick_row ((hg5.block w3.heap.size (by simp) (fun e => by injection e; omega)).trans (heap_alloc_new w3 _)) openL rfl _ (nx_lt L ((lineF L s.m 3).2 + 1) 3 (by omega))
          have hB5 := (hg5.block B (by simp; omega) (fun e => by injection e; omega)).trans ((Lib.alloc_old w3 _ B zB).trans hB3)
          have hR5 := (hR4.alloc _).next hg5 hN5
          obtain ⟨_, _, _, f0, f1, f2⟩ := cells_item hB5
          have HB5 := Lib.hid hB5
          have zB5 : B < w5.heap.size := (Array.getElem?_eq_some_iff.1 hB5).1
          clear hB5
          have hR6 := hR5.set3 B hsz2 hfB hoB (.int .i64 2) (.string (pickB openL (nx L ((lineF L s.m 3).2 + 1) 3))) (.int .i64 ((s.id : Int) + 1))
          have HB6 := Lib.hid (heap_set3 (a' := .int .i64 2) (b' := .string (pickB openL (nx L ((lineF L s.m 3).2 + 1) 3))) (c' := .int .i64 ((s.id : Int) + 1)) HB5.out)
          have hR7 := hR6.alloc (.cells #[.int .i64 2, .string (pickB openL (nx L ((lineF L s.m 3).2 + 1) 3)), .int .i64 ((s.id : Int) + 1)] 62)
          have hsz7 := hR7.chg.size
          have hnew7 := heap_alloc_new (((w5.setCell ⟨B, 0, none⟩ (.int .i64 2)).setCell ⟨B, 1, none⟩ (.string (pickB openL (nx L ((lineF L s.m 3).2 + 1) 3)))).setCell ⟨B, 2, none⟩ (.int .i64 ((s.id : Int) + 1))) (.cells #[.int .i64 2, .string (pickB openL (nx L ((lineF L s.m 3).2 + 1) 3)), .int .i64 ((s.id : Int) + 1)] 62)
          rw [set3_size] at hnew7
          have HN7 := Lib.hid hnew7; clear hnew7
          go_wp2_with (at_builtin; refine wpl_app eI _ rfl _ _ rfl w.heap.size s.o _ rfl hR7.o hsz7 ⟨2, pickB openL (nx L ((lineF L s.m 3).2 + 1) 3), (s.id : Int) + 1⟩ w5.heap.size _ rfl HN7.out rfl (by omega) (by unfold maxLen; omega) ?_; intro g2 cp w8 hown8 hgr8 hloc8)
          have hR8 := hR7.push hown8 hgr8 hloc8
          have hB8 := (hgr8.block B (by simp; omega) (fun e => hoB e.symm)).trans ((Lib.alloc_old _ _ B (by simp; omega)).trans HB6.out)
          go_wp2_with fail
          go_meet
          exact ⟨⟨2, pickB openL (nx L ((lineF L s.m 3).2 + 1) 3), (s.id + 1 : Nat)⟩, s.o ++ [⟨2, pickB openL (nx L ((lineF L s.m 3).2 + 1) 3), (s.id + 1 : Nat)⟩], s.id + 1, (lineF L s.m 3).2 + 1 + 1, HN, rfl, ⟨_, _, by rw [List.length_append]; rfl⟩, hR8, hB8⟩
        · cases tags
          · have HN := Lib.hid (nextG_text L false nested s.o s.id s.m (by have := HC.out; exact Or.inr (Or.inl ⟨by omega, by omega, rfl⟩)))
            clear HL HC
            go_wp2_with fail
            go_meet
            exact ⟨⟨1, (lineF L s.m 3).1, 0⟩, s.o, s.id, (lineF L s.m 3).2 + 1, HN, rfl, ⟨_, _, rfl⟩, hR4, hB3⟩
          have hk3 := nx_lt L ((lineF L s.m 3).2 + 1) 3 (by omega)
          have HN := Lib.hid (nextG_open L true nested s.o s.id s.m (by have := HC.out; omega) rfl)
          clear HL HC
          go_wp2_with fail
          refine (H3.out _ (hR4.alloc _).nums).mono ?_
          rintro e w5 ⟨rfl, hg5, hN5⟩
          have hrow := pick_row ((hg5.block w3.heap.size (by simp) (fun e => by injection e; omega)).trans (heap_alloc_new w3 _)) openL rfl _ (nx_lt L ((lineF L s.m 3).2 + 1) 3 (by omega))
          have hB5 := (hg5.block B (by simp; omega) (fun e => by injection e; omega)).trans ((Lib.alloc_old w3 _ B zB).trans hB3)
          have hR5 := (hR4.alloc _).next hg5 hN5
          obtain ⟨_, _, _, f0, f1, f2⟩ := cells_item hB5
          have HB5 := Lib.hid hB5
          have zB5 : B < w5.heap.size := (Array.getElem?_eq_some_iff.1 hB5).1
          clear hB5
          have hR6 := hR5.set3 B hsz2 hfB hoB (.int .i64 2) (.string (pickB openL (nx L ((lineF L s.m 3).2 + 1) 3))) (.int .i64 ((s.id : Int) + 1))
          have HB6 := Lib.hid (heap_set3 (a' := .int .i64 2) (b' := .string (pickB openL (nx L ((lineF L s.m 3).2 + 1) 3))) (c' := .int .i64 ((s.id : Int) + 1)) HB5.out)
          have hR7 := hR6.alloc (.cells #[.int .i64 2, .string (pickB openL (nx L ((lineF L s.m 3).2 + 1) 3)), .int .i64 ((s.id : Int) + 1)] 62)
          have hsz7 := hR7.chg.size
          have hnew7 := heap_alloc_new (((w5.setCell ⟨B, 0, none⟩ (.int .i64 2)).setCell ⟨B, 1, none⟩ (.string (pickB openL (nx L ((lineF L s.m 3).2 + 1) 3)))).setCell ⟨B, 2, none⟩ (.int .i64 ((s.id : Int) + 1))) (.cells #[.int .i64 2, .string (pickB openL (nx L ((lineF L s.m 3).2 + 1) 3)), .int .i64 ((s.id : Int) + 1)] 62)
          rw [set3_size] at hnew7
          have HN7 := Lib.hid hnew7; clear hnew7
          go_wp2_with (at_builtin; refine wpl_app eI _ rfl _ _ rfl w.heap.size s.o _ rfl hR7.o hsz7 ⟨2, pickB openL (nx L ((lineF L s.m 3).2 + 1) 3), (s.id : Int) + 1⟩ w5.heap.size _ rfl HN7.out rfl (by omega) (by unfold maxLen; omega) ?_; intro g2 cp w8 hown8 hgr8 hloc8)
          have hR8 := hR7.push hown8 hgr8 hloc8
          have hB8 := (hgr8.block B (by simp; omega) (fun e => hoB e.symm)).trans ((Lib.alloc_old _ _ B (by simp; omega)).trans HB6.out)
          go_wp2_with fail
          go_meet
          exact ⟨⟨2, pickB openL (nx L ((lineF L s.m 3).2 + 1) 3), (s.id + 1 : Nat)⟩, s.o ++ [⟨2, pickB openL (nx L ((lineF L s.m 3).2 + 1) 3), (s.id + 1 : Nat)⟩], s.id + 1, (lineF L s.m 3).2 + 1 + 1, HN, rfl, ⟨_, _, by rw [List.length_append]; rfl⟩, hR8, hB8⟩
        · by_cases ho : 0 < s.o.length
          · obtain ⟨j0, hj0⟩ : ∃ j0, s.o.length = j0 + 1 := ⟨s.o.length - 1, by omega⟩
            obtain ⟨go, rfl⟩ := hR4.atO ho
            cases nested
            · have hnj : ∀ W, NumsAt W b pn cn L ((lineF L s.m 3).2 + 1) → _ := fun W h => next_any b pn cn L ((lineF L s.m 3).2 + 1) ((j0 : Int) + 1) (j0 + 1) (by omega) W h (by omega) (by omega) (by omega)
              have hkj := nx_lt L ((lineF L s.m 3).2 + 1) (j0 + 1) (by omega)
              obtain ⟨kk, hkk⟩ : ∃ kk, kk = nx L ((lineF L s.m 3).2 + 1) (j0 + 1) := ⟨_, rfl⟩
              rw [← hkk] at hnj hkj
              have HNJ := Lib.hid hnj; clear hnj
              have HN := Lib.hid (nextG_close L tags false s.o s.id s.m (by have := HC.out; omega) ho (kk, (lineF L s.m 3).2 + 1 + 1) (by unfold pickK; rw [if_neg (by decide), hj0, hkk]))
              clear hkk
              obtain ⟨_, hco, hcm, hI⟩ := hR4.itsO
              rw [hj0] at hco hzol ⊢
              have HR4 := Lib.hid hR4
              clear HL HC hI hR4
              go_upto_region 62 with fail
              go_wp2_with fail
              refine (HNJ.out _ HR4.out.nums).mono ?_
              rintro e w5 ⟨rfl, hg5, hN5⟩
              have hR4 := HR4.out.next hg5 hN5
              have hB5 := (hg5.block B zB (fun e => by injection e; omega)).trans hB3
              have zB5 : B < w5.heap.size := (Array.getElem?_eq_some_iff.1 hB5).1
              obtain ⟨_, _, _, hI⟩ := hR4.itsO
              obtain ⟨g0, d0, d1, d2⟩ := its_at hI kk (by omega)
              have hT := its_take hI kk
              have hy : s.o.getD kk ⟨0, .empty, 0⟩ = s.o[kk]'(by omega) := by rw [List.getD_eq_getElem?_getD, List.getElem?_eq_getElem (by omega)]; rfl
              have hyt : (s.o[kk]'(by omega)).t.size ≤ 5 := hz.ot _ (List.getElem_mem _)
              have lT0 : (s.o.take kk).length = kk := by rw [List.length_take]; omega
              have lD0 : (s.o.drop (kk + 1)).length = j0 - kk := by rw [List.length_drop]; omega
              obtain ⟨A, hA, hAD⟩ : ∃ A, (if co = kk + 1 then some (⟨go, 0, none⟩ : Addr) else some ⟨go, (kk + 1) * 3, none⟩) = some ⟨go, A, none⟩ ∧ (co ≠ kk + 1 → A = (kk + 1) * 3) := by
                by_cases hc : co = kk + 1
                · exact ⟨0, if_pos hc, fun h => absurd hc h⟩
                · exact ⟨_, if_neg hc, fun _ => rfl⟩
              have hA := Lib.hid hA
              have hD : Its w5 (some ⟨go, A, none⟩) (s.o.drop (kk + 1)) := by
                by_cases hc : co = kk + 1
                · exact its_empty (by omega)
                · rw [hAD hc]; exact its_drop hI (kk + 1)
              have hoB2 : ∀ a, some (⟨go, A, none⟩ : Addr) = some a → a.block ≠ B := fun a e => by cases e; exact fun e2 => hoB (by simpa [Value.ownBlock] using e2)
              rw [hy] at HN
              generalize s.o[kk]'(by omega) = y at *
              generalize s.o.take kk = T at *
              generalize s.o.drop (kk + 1) = D at *
              rw [hj0] at hR4 hoB
              obtain ⟨_, _, _, f0, f1, f2⟩ := cells_item hB5
              have HB5 := Lib.hid hB5
              unfold maxLen at hcm
              have hb1 : (kk : Int) < (j0 : Int) + 1 := by omega
              have hb2 : (kk : Int) < ((j0 + 1 : Nat) : Int) := by omega
              have hb0 : (0 : Int) ≤ (kk : Int) := by omega
              have lT := Lib.hid lT0; have lD := Lib.hid lD0
              clear lT0 lD0 hB3 hB5 hj0 ho hy hI hAD HR4 HNJ
              have hnm := fun W => rname_any y.t W (by unfold maxLen; omega)
              have HNM := Lib.hid hnm; clear hnm
              go_upto_region 27 with fail
              go_still_tail 12, (by kernel_rfl)
              still_call ((HNM.out _).mono (fun e w' h => ⟨h.1, h.2.symm⟩))
              repeat still_step
              refine wpStill_nil ?_
              change wpList _ _ _ _ _ w5.drew
              go_wp2_with fail
              have hR6 := ((hR4.set3 B hsz2 hfB hoB (.int .i64 3) (.string (nameB y.t)) (.int .i64 y.id)).drewN 1).drewN 1
              have hT6 := (its_set3 hT B (own_ne hoB) (.int .i64 3) (.string (nameB y.t)) (.int .i64 y.id)).two
              have hD6 := (its_set3 hD B hoB2 (.int .i64 3) (.string (nameB y.t)) (.int .i64 y.id)).two
              have HB6 := Lib.hid (heap_set3 (a' := .int .i64 3) (b' := .string (nameB y.t)) (c' := .int .i64 y.id) HB5.out)
              have hA := hA.out
              have hs1 : kk ≤ co := by omega
              have hs2 : kk ≤ j0 := by omega
              have hlT := lT.out; have hlD := lD.out
              have bl1 : (([] : List It).length + T.length) * 32 ≤ 140737488355328 := by simp; omega
              have bl2 : (T.length + D.length) * 32 ≤ 140737488355328 := by omega
              clear hlT hlD
              have hw1 : IntKind.i64.wrap ((kk : Int) + 1) = (kk : Int) + 1 := IntWalk.i64_in _ ⟨by omega, by omega⟩
              have hw2 : (0 : Int) ≤ (kk : Int) + 1 := by omega
              have hw3 : ((kk : Int) + 1).toNat = kk + 1 := by omega
              refine wp_region_any (by kernel_rfl) ?_
              try (change wpAny _ _ _ _ _ _ _ (World.drew _))
              refine wpAny_take (i := 0) (v := ?_) rfl (by kernel_rfl) (by kernel_rfl) (by kernel_rfl) (fun _ _ _ h => h) (Or.inl ⟨by rfl, ?_⟩) ?_
              rotate_left
              · (intro w; go_simp; try with_reducible rfl)
              try simp only [Act.put, List.getElem_toArray, List.getElem_cons_zero, List.getElem_cons_succ, List.setIfInBounds_toArray, List.set_cons_zero, List.set_cons_succ]
              refine wpAny_take (i := 1) (v := ?_) rfl (by kernel_rfl) (by kernel_rfl) (by kernel_rfl) (fun _ _ _ h => h) (Or.inl ⟨by rfl, ?_⟩) ?_
              rotate_left
              · (intro w; go_simp; try with_reducible rfl)
              try simp only [Act.put, List.getElem_toArray, List.getElem_cons_zero, List.getElem_cons_succ, List.setIfInBounds_toArray, List.set_cons_zero, List.set_cons_succ]
              refine wpAny_take (i := 2) (v := ?_) rfl (by kernel_rfl) (by kernel_rfl) (by kernel_rfl) (fun _ _ _ h => h) (Or.inl ⟨by rfl, ?_⟩) ?_
              rotate_left
              · (intro w; go_simp; try with_reducible rfl)
              try simp only [Act.put, List.getElem_toArray, List.getElem_cons_zero, List.getElem_cons_succ, List.setIfInBounds_toArray, List.set_cons_zero, List.set_cons_succ]
              refine wpAny_take (i := 4) (v := ?_) rfl (by kernel_rfl) (by kernel_rfl) (by kernel_rfl) (fun _ _ _ h => h) (Or.inl ⟨by rfl, ?_⟩) ?_
              rotate_left
              · (intro w; go_simp; try with_reducible rfl)
              try simp only [Act.put, List.getElem_toArray, List.getElem_cons_zero, List.getElem_cons_succ, List.setIfInBounds_toArray, List.set_cons_zero, List.set_cons_succ]
              refine wpAny_take (i := 5) (v := ?_) rfl (by kernel_rfl) (by kernel_rfl) (by kernel_rfl) (fun _ _ _ h => h) (Or.inl ⟨by rfl, ?_⟩) ?_
              rotate_left
              · (intro w; go_simp; try with_reducible rfl)
              try simp only [Act.put, List.getElem_toArray, List.getElem_cons_zero, List.getElem_cons_succ, List.setIfInBounds_toArray, List.set_cons_zero, List.set_cons_succ]
              refine wpAny_take (i := 6) (v := ?_) rfl (by kernel_rfl) (by kernel_rfl) (by kernel_rfl) (fun _ _ _ h => h) (Or.inl ⟨by rfl, ?_⟩) ?_
              rotate_left
              · (intro w; go_simp; try with_reducible rfl)
              try simp only [Act.put, List.getElem_toArray, List.getElem_cons_zero, List.getElem_cons_succ, List.setIfInBounds_toArray, List.set_cons_zero, List.set_cons_succ]
              refine wpAny_take (i := 7) (v := ?_) rfl (by kernel_rfl) (by kernel_rfl) (by kernel_rfl) (fun _ _ _ h => h) (Or.inl ⟨by rfl, ?_⟩) ?_
              rotate_left
              · (intro w; go_simp; try with_reducible rfl)
              try simp only [Act.put, List.getElem_toArray, List.getElem_cons_zero, List.getElem_cons_succ, List.setIfInBounds_toArray, List.set_cons_zero, List.set_cons_succ]
              refine wpAny_ready (rs := [3]) (by kernel_rfl) (by simp) ?_
              refine AllReady.cons rfl (fun K hK => ?_) AllReady.nil
              refine step_cat _ (by rfl) _ _ (by rfl) _ [] T _ (by rfl) (Acc.start _) (some ⟨go, 0, none⟩) kk co (by rfl) lT.out.symm hT6 bl1 ?_
              intro v1 w8 hA8
              rw [List.nil_append] at hA8
              obtain ⟨p8, c8, hv8, _⟩ := hA8.own.its
              rw [lT.out] at hv8
              subst hv8
              try go_simp
              refine hK _ _ ?_; clear hK K
              try simp only [Act.put, List.getElem_toArray, List.getElem_cons_zero, List.getElem_cons_succ, List.setIfInBounds_toArray, List.set_cons_zero, List.set_cons_succ]
              refine wpAny_ready (rs := [8]) (by kernel_rfl) (by simp) ?_
              refine AllReady.cons rfl (fun K hK => ?_) AllReady.nil
              refine step_cat _ (by rfl) _ _ (by rfl) _ T D _ (by rfl) hA8 (some ⟨go, A, none⟩) (j0 - kk) (co - (kk + 1)) (by rfl) lD.out.symm (hD6.call hA8.below) bl2 ?_
              intro v9 w9 hA9
              try go_simp
              refine hK _ _ ?_; clear hK K
              try simp only [Act.put, List.getElem_toArray, List.getElem_cons_zero, List.getElem_cons_succ, List.setIfInBounds_toArray, List.set_cons_zero, List.set_cons_succ]
              refine wpAny_take (i := 9) (v := ?_) rfl (by kernel_rfl) (by kernel_rfl) (by kernel_rfl) (fun _ _ _ h => h) (Or.inl ⟨by rfl, ?_⟩) ?_
              rotate_left
              · (intro w; go_simp; try with_reducible rfl)
              try simp only [Act.put, List.getElem_toArray, List.getElem_cons_zero, List.getElem_cons_succ, List.setIfInBounds_toArray, List.set_cons_zero, List.set_cons_succ]
              refine wpAny_done (by kernel_rfl) ?_ _
              have hR9 := hR6.madeO hA9
              obtain ⟨p9, c9, rfl, _⟩ := hA9.own.its
              have hBw := hA9.below.block B (by show B < ((((w5.setCell ⟨B, 0, none⟩ _).setCell ⟨B, 1, none⟩ _).setCell ⟨B, 2, none⟩ _)).heap.size; rw [set3_size]; exact zB5)
              go_wp2_with fail
              go_meet
              exact ⟨closeI y, _, s.id, (lineF L s.m 3).2 + 1 + 1, HN, rfl, ⟨_, _, rfl⟩, hR9, hBw.trans HB6.out⟩
            · have HN := Lib.hid (nextG_close L tags true s.o s.id s.m (by have := HC.out; omega) ho (j0, (lineF L s.m 3).2 + 1) (by unfold pickK; rw [if_pos rfl, hj0]; rfl))
              obtain ⟨_, hco, hcm, hI⟩ := hR4.itsO
              obtain ⟨g0, d0, d1, d2⟩ := its_at hI j0 (by omega)
              have hT := its_take hI j0
              have hy : s.o.getD j0 ⟨0, .empty, 0⟩ = s.o[j0]'(by omega) := by rw [List.getD_eq_getElem?_getD, List.getElem?_eq_getElem (by omega)]; rfl
              have hyt : (s.o[j0]'(by omega)).t.size ≤ 5 := hz.ot _ (List.getElem_mem _)
              have lT0 : (s.o.take j0).length = j0 := by rw [List.length_take]; omega
              have lD0 : (s.o.drop (j0 + 1)).length = 0 := by rw [List.length_drop]; omega
              obtain ⟨A, hA, hAD⟩ : ∃ A, (if co = j0 + 1 then some (⟨go, 0, none⟩ : Addr) else some ⟨go, (j0 + 1) * 3, none⟩) = some ⟨go, A, none⟩ ∧ (co ≠ j0 + 1 → A = (j0 + 1) * 3) := by
                by_cases hc : co = j0 + 1
                · exact ⟨0, if_pos hc, fun h => absurd hc h⟩
                · exact ⟨_, if_neg hc, fun _ => rfl⟩
              have hA := Lib.hid hA
              have hD : Its w3 (some ⟨go, A, none⟩) (s.o.drop (j0 + 1)) := by
                by_cases hc : co = j0 + 1
                · exact its_empty (by omega)
                · rw [hAD hc]; exact its_drop hI (j0 + 1)
              have hoB2 : ∀ a, some (⟨go, A, none⟩ : Addr) = some a → a.block ≠ B := fun a e => by cases e; exact fun e2 => hoB (by simpa [Value.ownBlock] using e2)
              rw [hy] at HN
              generalize s.o[j0]'(by omega) = y at *
              generalize s.o.take j0 = T at *
              generalize s.o.drop (j0 + 1) = D at *
              rw [hj0] at hR4 hoB hco hzol ⊢
              obtain ⟨_, _, _, f0, f1, f2⟩ := cells_item hB3
              have HB3 := Lib.hid hB3
              unfold maxLen at hcm
              have hb1 : (j0 : Int) < (j0 : Int) + 1 := by omega
              have hb2 : (j0 : Int) < ((j0 + 1 : Nat) : Int) := by omega
              have hb0 : (0 : Int) ≤ (j0 : Int) := by omega
              have lT := Lib.hid lT0; have lD := Lib.hid lD0
              clear lT0 lD0 HL HC hB3 hj0 ho hy hI hAD
              have hnm := fun W => rname_any y.t W (by unfold maxLen; omega)
              have HNM := Lib.hid hnm; clear hnm
              go_upto_region 27 with fail
              go_still_tail 12, (by kernel_rfl)
              still_call ((HNM.out _).mono (fun e w' h => ⟨h.1, h.2.symm⟩))
              repeat still_step
              refine wpStill_nil ?_
              change wpList _ _ _ _ _ w3.drew
              go_wp2_with fail
              have hR6 := ((hR4.set3 B hsz2 hfB hoB (.int .i64 3) (.string (nameB y.t)) (.int .i64 y.id)).drewN 1).drewN 1
              have hT6 := (its_set3 hT B (own_ne hoB) (.int .i64 3) (.string (nameB y.t)) (.int .i64 y.id)).two
              have hD6 := (its_set3 hD B hoB2 (.int .i64 3) (.string (nameB y.t)) (.int .i64 y.id)).two
              have HB6 := Lib.hid (heap_set3 (a' := .int .i64 3) (b' := .string (nameB y.t)) (c' := .int .i64 y.id) HB3.out)
              have hA := hA.out
              have hs1 : j0 ≤ co := by omega
              have hs2 : j0 ≤ j0 := by omega
              have hlT := lT.out; have hlD := lD.out
              have bl1 : (([] : List It).length + T.length) * 32 ≤ 140737488355328 := by simp; omega
              have bl2 : (T.length + D.length) * 32 ≤ 140737488355328 := by omega
              clear hlT hlD
              have hw1 : IntKind.i64.wrap ((j0 : Int) + 1) = (j0 : Int) + 1 := IntWalk.i64_in _ ⟨by omega, by omega⟩
              have hw2 : (0 : Int) ≤ (j0 : Int) + 1 := by omega
              have hw3 : ((j0 : Int) + 1).toNat = j0 + 1 := by omega
              refine wp_region_any (by kernel_rfl) ?_
              try (change wpAny _ _ _ _ _ _ _ (World.drew _))
              refine wpAny_take (i := 0) (v := ?_) rfl (by kernel_rfl) (by kernel_rfl) (by kernel_rfl) (fun _ _ _ h => h) (Or.inl ⟨by rfl, ?_⟩) ?_
              rotate_left
              · (intro w; go_simp; try with_reducible rfl)
              try simp only [Act.put, List.getElem_toArray, List.getElem_cons_zero, List.getElem_cons_succ, List.setIfInBounds_toArray, List.set_cons_zero, List.set_cons_succ]
              refine wpAny_take (i := 1) (v := ?_) rfl (by kernel_rfl) (by kernel_rfl) (by kernel_rfl) (fun _ _ _ h => h) (Or.inl ⟨by rfl, ?_⟩) ?_
              rotate_left
              · (intro w; go_simp; try with_reducible rfl)
              try simp only [Act.put, List.getElem_toArray, List.getElem_cons_zero, List.getElem_cons_succ, List.setIfInBounds_toArray, List.set_cons_zero, List.set_cons_succ]
              refine wpAny_take (i := 2) (v := ?_) rfl (by kernel_rfl) (by kernel_rfl) (by kernel_rfl) (fun _ _ _ h => h) (Or.inl ⟨by rfl, ?_⟩) ?_
              rotate_left
              · (intro w; go_simp; try with_reducible rfl)
              try simp only [Act.put, List.getElem_toArray, List.getElem_cons_zero, List.getElem_cons_succ, List.setIfInBounds_toArray, List.set_cons_zero, List.set_cons_succ]
              refine wpAny_take (i := 4) (v := ?_) rfl (by kernel_rfl) (by kernel_rfl) (by kernel_rfl) (fun _ _ _ h => h) (Or.inl ⟨by rfl, ?_⟩) ?_
              rotate_left
              · (intro w; go_simp; try with_reducible rfl)
              try simp only [Act.put, List.getElem_toArray, List.getElem_cons_zero, List.getElem_cons_succ, List.setIfInBounds_toArray, List.set_cons_zero, List.set_cons_succ]
              refine wpAny_take (i := 5) (v := ?_) rfl (by kernel_rfl) (by kernel_rfl) (by kernel_rfl) (fun _ _ _ h => h) (Or.inl ⟨by rfl, ?_⟩) ?_
              rotate_left
              · (intro w; go_simp; try with_reducible rfl)
              try simp only [Act.put, List.getElem_toArray, List.getElem_cons_zero, List.getElem_cons_succ, List.setIfInBounds_toArray, List.set_cons_zero, List.set_cons_succ]
              refine wpAny_take (i := 6) (v := ?_) rfl (by kernel_rfl) (by kernel_rfl) (by kernel_rfl) (fun _ _ _ h => h) (Or.inl ⟨by rfl, ?_⟩) ?_
              rotate_left
              · (intro w; go_simp; try with_reducible rfl)
              try simp only [Act.put, List.getElem_toArray, List.getElem_cons_zero, List.getElem_cons_succ, List.setIfInBounds_toArray, List.set_cons_zero, List.set_cons_succ]
              refine wpAny_take (i := 7) (v := ?_) rfl (by kernel_rfl) (by kernel_rfl) (by kernel_rfl) (fun _ _ _ h => h) (Or.inl ⟨by rfl, ?_⟩) ?_
              rotate_left
              · (intro w; go_simp; try with_reducible rfl)
              try simp only [Act.put, List.getElem_toArray, List.getElem_cons_zero, List.getElem_cons_succ, List.setIfInBounds_toArray, List.set_cons_zero, List.set_cons_succ]
              refine wpAny_ready (rs := [3]) (by kernel_rfl) (by simp) ?_
              refine AllReady.cons rfl (fun K hK => ?_) AllReady.nil
              refine step_cat _ (by rfl) _ _ (by rfl) _ [] T _ (by rfl) (Acc.start _) (some ⟨go, 0, none⟩) j0 co (by rfl) lT.out.symm hT6 bl1 ?_
              intro v1 w8 hA8
              rw [List.nil_append] at hA8
              obtain ⟨p8, c8, hv8, _⟩ := hA8.own.its
              rw [lT.out] at hv8
              subst hv8
              try go_simp
              refine hK _ _ ?_; clear hK K
              try simp only [Act.put, List.getElem_toArray, List.getElem_cons_zero, List.getElem_cons_succ, List.setIfInBounds_toArray, List.set_cons_zero, List.set_cons_succ]
              refine wpAny_ready (rs := [8]) (by kernel_rfl) (by simp) ?_
              refine AllReady.cons rfl (fun K hK => ?_) AllReady.nil
              refine step_cat _ (by rfl) _ _ (by rfl) _ T D _ (by rfl) hA8 (some ⟨go, A, none⟩) (0) (co - (j0 + 1)) (by rfl) lD.out.symm (hD6.call hA8.below) bl2 ?_
              intro v9 w9 hA9
              try go_simp
              refine hK _ _ ?_; clear hK K
              try simp only [Act.put, List.getElem_toArray, List.getElem_cons_zero, List.getElem_cons_succ, List.setIfInBounds_toArray, List.set_cons_zero, List.set_cons_succ]
              refine wpAny_take (i := 9) (v := ?_) rfl (by kernel_rfl) (by kernel_rfl) (by kernel_rfl) (fun _ _ _ h => h) (Or.inl ⟨by rfl, ?_⟩) ?_
              rotate_left
              · (intro w; go_simp; try with_reducible rfl)
              try simp only [Act.put, List.getElem_toArray, List.getElem_cons_zero, List.getElem_cons_succ, List.setIfInBounds_toArray, List.set_cons_zero, List.set_cons_succ]
              refine wpAny_done (by kernel_rfl) ?_ _
              have hR9 := hR6.madeO hA9
              obtain ⟨p9, c9, rfl, _⟩ := hA9.own.its
              have hBw := hA9.below.block B (by show B < ((((w3.setCell ⟨B, 0, none⟩ _).setCell ⟨B, 1, none⟩ _).setCell ⟨B, 2, none⟩ _)).heap.size; rw [set3_size]; exact zB)
              go_wp2_with fail
              go_meet
              exact ⟨closeI y, _, s.id, (lineF L s.m 3).2 + 1, HN, rfl, ⟨_, _, rfl⟩, hR9, hBw.trans HB6.out⟩
          · have hol : s.o.length = 0 := by omega
            have q0 : decide ((0 : Int) ≤ (s.o.length : Int) - 1) = false := decide_eq_false (by omega)
            have q1 : decide ((1 : Int) ≤ (s.o.length : Int)) = false := decide_eq_false (by omega)
            have q2 : decide (1 ≤ s.o.length) = false := decide_eq_false (by omega)
            have q3 : decide (0 < s.o.length) = false := decide_eq_false (by omega)
            have HO := Lib.hid ho
            clear ho hol
            cases tags
            · have HN := Lib.hid (nextG_text L false nested s.o s.id s.m (by have := HC.out; have := HO.out; right; right; exact ⟨by omega, by omega, HO.out, by simp⟩))
              clear HL HC
              go_wp2_with fail
              go_meet
              exact ⟨⟨1, (lineF L s.m 3).1, 0⟩, s.o, s.id, (lineF L s.m 3).2 + 1, HN, rfl, ⟨_, _, rfl⟩, hR4, hB3⟩
            cases nested
            · have HN := Lib.hid (nextG_alone L true false s.o s.id s.m (by have := HC.out; omega) HO.out ⟨rfl, rfl⟩)
              obtain ⟨_, _, _, f0, f1, f2⟩ := cells_item hB3
              have HB3 := Lib.hid hB3
              clear HL HC hB3
              go_wp2_with fail
              go_meet
              exact ⟨⟨3, ⟨#[98]⟩, (s.id + 1 : Nat)⟩, s.o, s.id + 1, (lineF L s.m 3).2 + 1, HN, rfl, ⟨_, _, rfl⟩, hR4.set3 B hsz2 hfB hoB _ _ _, heap_set3 HB3.out⟩
            · have HN := Lib.hid (nextG_text L true true s.o s.id s.m (by have := HC.out; have := HO.out; right; right; exact ⟨by omega, by omega, HO.out, by simp⟩))
              clear HL HC
              go_wp2_with fail
              go_meet
              exact ⟨⟨1, (lineF L s.m 3).1, 0⟩, s.o, s.id, (lineF L s.m 3).2 + 1, HN, rfl, ⟨_, _, rfl⟩, hR4, hB3⟩
        · by_cases ho : 0 < s.o.length
          · obtain ⟨j0, hj0⟩ : ∃ j0, s.o.length = j0 + 1 := ⟨s.o.length - 1, by omega⟩
            obtain ⟨go, rfl⟩ := hR4.atO ho
            cases nested
            · have hnj : ∀ W, NumsAt W b pn cn L ((lineF L s.m 3).2 + 1) → _ := fun W h => next_any b pn cn L ((lineF L s.m 3).2 + 1) ((j0 : Int) + 1) (j0 + 1) (by omega) W h (by omega) (by omega) (by omega)
              have hkj := nx_lt L ((lineF L s.m 3).2 + 1) (j0 + 1) (by omega)
              obtain ⟨kk, hkk⟩ : ∃ kk, kk = nx L ((lineF L s.m 3).2 + 1) (j0 + 1) := ⟨_, rfl⟩
              rw [← hkk] at hnj hkj
              have HNJ := Lib.hid hnj; clear hnj
              have HN := Lib.hid (nextG_close L tags false s.o s.id s.m (by have := HC.out; omega) ho (kk, (lineF L s.m 3).2 + 1 + 1) (by unfold pickK; rw [if_neg (by decide), hj0, hkk]))
              clear hkk
              obtain ⟨_, hco, hcm, hI⟩ := hR4.itsO
              rw [hj0] at hco hzol ⊢
              have HR4 := Lib.hid hR4
              clear HL HC hI hR4
              go_upto_region 62 with fail
              go_wp2_with fail
              refine (HNJ.out _ HR4.out.nums).mono ?_
              rintro e w5 ⟨rfl, hg5, hN5⟩
              have hR4 := HR4.out.next hg5 hN5
              have hB5 := (hg5.block B zB (fun e => by injection e; omega)).trans hB3
              have zB5 : B < w5.heap.size := (Array.getElem?_eq_some_iff.1 hB5).1
              obtain ⟨_, _, _, hI⟩ := hR4.itsO
              obtain ⟨g0, d0, d1, d2⟩ := its_at hI kk (by omega)
              have hT := its_take hI kk
              have hy : s.o.getD kk ⟨0, .empty, 0⟩ = s.o[kk]'(by omega) := by rw [List.getD_eq_getElem?_getD, List.getElem?_eq_getElem (by omega)]; rfl
              have hyt : (s.o[kk]'(by omega)).t.size ≤ 5 := hz.ot _ (List.getElem_mem _)
              have lT0 : (s.o.take kk).length = kk := by rw [List.length_take]; omega
              have lD0 : (s.o.drop (kk + 1)).length = j0 - kk := by rw [List.length_drop]; omega
              obtain ⟨A, hA, hAD⟩ : ∃ A, (if co = kk + 1 then some (⟨go, 0, none⟩ : Addr) else some ⟨go, (kk + 1) * 3, none⟩) = some ⟨go, A, none⟩ ∧ (co ≠ kk + 1 → A = (kk + 1) * 3) := by
                by_cases hc : co = kk + 1
                · exact ⟨0, if_pos hc, fun h => absurd hc h⟩
                · exact ⟨_, if_neg hc, fun _ => rfl⟩
              have hA := Lib.hid hA
              have hD : Its w5 (some ⟨go, A, none⟩) (s.o.drop (kk + 1)) := by
                by_cases hc : co = kk + 1
                · exact its_empty (by omega)
                · rw [hAD hc]; exact its_drop hI (kk + 1)
              have hoB2 : ∀ a, some (⟨go, A, none⟩ : Addr) = some a → a.block ≠ B := fun a e => by cases e; exact fun e2 => hoB (by simpa [Value.ownBlock] using e2)
              rw [hy] at HN
              generalize s.o[kk]'(by omega) = y at *
              generalize s.o.take kk = T at *
              generalize s.o.drop (kk + 1) = D at *
              rw [hj0] at hR4 hoB
              obtain ⟨_, _, _, f0, f1, f2⟩ := cells_item hB5
              have HB5 := Lib.hid hB5
              unfold maxLen at hcm
              have hb1 : (kk : Int) < (j0 : Int) + 1 := by omega
              have hb2 : (kk : Int) < ((j0 + 1 : Nat) : Int) := by omega
              have hb0 : (0 : Int) ≤ (kk : Int) := by omega
              have lT := Lib.hid lT0; have lD := Lib.hid lD0
              clear lT0 lD0 hB3 hB5 hj0 ho hy hI hAD HR4 HNJ
              have hnm := fun W => rname_any y.t W (by unfold maxLen; omega)
              have HNM := Lib.hid hnm; clear hnm
              go_upto_region 27 with fail
              go_still_tail 12, (by kernel_rfl)
              still_call ((HNM.out _).mono (fun e w' h => ⟨h.1, h.2.symm⟩))
              repeat still_step
              refine wpStill_nil ?_
              change wpList _ _ _ _ _ w5.drew
              go_wp2_with fail
              have hR6 := ((hR4.set3 B hsz2 hfB hoB (.int .i64 3) (.string (nameB y.t)) (.int .i64 y.id)).drewN 1).drewN 1
              have hT6 := (its_set3 hT B (own_ne hoB) (.int .i64 3) (.string (nameB y.t)) (.int .i64 y.id)).two
              have hD6 := (its_set3 hD B hoB2 (.int .i64 3) (.string (nameB y.t)) (.int .i64 y.id)).two
              have HB6 := Lib.hid (heap_set3 (a' := .int .i64 3) (b' := .string (nameB y.t)) (c' := .int .i64 y.id) HB5.out)
              have hA := hA.out
              have hs1 : kk ≤ co := by omega
              have hs2 : kk ≤ j0 := by omega
              have hlT := lT.out; have hlD := lD.out
              have bl1 : (([] : List It).length + T.length) * 32 ≤ 140737488355328 := by simp; omega
              have bl2 : (T.length + D.length) * 32 ≤ 140737488355328 := by omega
              clear hlT hlD
              have hw1 : IntKind.i64.wrap ((kk : Int) + 1) = (kk : Int) + 1 := IntWalk.i64_in _ ⟨by omega, by omega⟩
              have hw2 : (0 : Int) ≤ (kk : Int) + 1 := by omega
              have hw3 : ((kk : Int) + 1).toNat = kk + 1 := by omega
              refine wp_region_any (by kernel_rfl) ?_
              try (change wpAny _ _ _ _ _ _ _ (World.drew _))
              refine wpAny_take (i := 0) (v := ?_) rfl (by kernel_rfl) (by kernel_rfl) (by kernel_rfl) (fun _ _ _ h => h) (Or.inl ⟨by rfl, ?_⟩) ?_
              rotate_left
              · (intro w; go_simp; try with_reducible rfl)
              try simp only [Act.put, List.getElem_toArray, List.getElem_cons_zero, List.getElem_cons_succ, List.setIfInBounds_toArray, List.set_cons_zero, List.set_cons_succ]
              refine wpAny_take (i := 1) (v := ?_) rfl (by kernel_rfl) (by kernel_rfl) (by kernel_rfl) (fun _ _ _ h => h) (Or.inl ⟨by rfl, ?_⟩) ?_
              rotate_left
              · (intro w; go_simp; try with_reducible rfl)
              try simp only [Act.put, List.getElem_toArray, List.getElem_cons_zero, List.getElem_cons_succ, List.setIfInBounds_toArray, List.set_cons_zero, List.set_cons_succ]
              refine wpAny_take (i := 2) (v := ?_) rfl (by kernel_rfl) (by kernel_rfl) (by kernel_rfl) (fun _ _ _ h => h) (Or.inl ⟨by rfl, ?_⟩) ?_
              rotate_left
              · (intro w; go_simp; try with_reducible rfl)
              try simp only [Act.put, List.getElem_toArray, List.getElem_cons_zero, List.getElem_cons_succ, List.setIfInBounds_toArray, List.set_cons_zero, List.set_cons_succ]
              refine wpAny_take (i := 4) (v := ?_) rfl (by kernel_rfl) (by kernel_rfl) (by kernel_rfl) (fun _ _ _ h => h) (Or.inl ⟨by rfl, ?_⟩) ?_
              rotate_left
              · (intro w; go_simp; try with_reducible rfl)
              try simp only [Act.put, List.getElem_toArray, List.getElem_cons_zero, List.getElem_cons_succ, List.setIfInBounds_toArray, List.set_cons_zero, List.set_cons_succ]
              refine wpAny_take (i := 5) (v := ?_) rfl (by kernel_rfl) (by kernel_rfl) (by kernel_rfl) (fun _ _ _ h => h) (Or.inl ⟨by rfl, ?_⟩) ?_
              rotate_left
              · (intro w; go_simp; try with_reducible rfl)
              try simp only [Act.put, List.getElem_toArray, List.getElem_cons_zero, List.getElem_cons_succ, List.setIfInBounds_toArray, List.set_cons_zero, List.set_cons_succ]
              refine wpAny_take (i := 6) (v := ?_) rfl (by kernel_rfl) (by kernel_rfl) (by kernel_rfl) (fun _ _ _ h => h) (Or.inl ⟨by rfl, ?_⟩) ?_
              rotate_left
              · (intro w; go_simp; try with_reducible rfl)
              try simp only [Act.put, List.getElem_toArray, List.getElem_cons_zero, List.getElem_cons_succ, List.setIfInBounds_toArray, List.set_cons_zero, List.set_cons_succ]
              refine wpAny_take (i := 7) (v := ?_) rfl (by kernel_rfl) (by kernel_rfl) (by kernel_rfl) (fun _ _ _ h => h) (Or.inl ⟨by rfl, ?_⟩) ?_
              rotate_left
              · (intro w; go_simp; try with_reducible rfl)
              try simp only [Act.put, List.getElem_toArray, List.getElem_cons_zero, List.getElem_cons_succ, List.setIfInBounds_toArray, List.set_cons_zero, List.set_cons_succ]
              refine wpAny_ready (rs := [3]) (by kernel_rfl) (by simp) ?_
              refine AllReady.cons rfl (fun K hK => ?_) AllReady.nil
              refine step_cat _ (by rfl) _ _ (by rfl) _ [] T _ (by rfl) (Acc.start _) (some ⟨go, 0, none⟩) kk co (by rfl) lT.out.symm hT6 bl1 ?_
              intro v1 w8 hA8
              rw [List.nil_append] at hA8
              obtain ⟨p8, c8, hv8, _⟩ := hA8.own.its
              rw [lT.out] at hv8
              subst hv8
              try go_simp
              refine hK _ _ ?_; clear hK K
              try simp only [Act.put, List.getElem_toArray, List.getElem_cons_zero, List.getElem_cons_succ, List.setIfInBounds_toArray, List.set_cons_zero, List.set_cons_succ]
              refine wpAny_ready (rs := [8]) (by kernel_rfl) (by simp) ?_
              refine AllReady.cons rfl (fun K hK => ?_) AllReady.nil
              refine step_cat _ (by rfl) _ _ (by rfl) _ T D _ (by rfl) hA8 (some ⟨go, A, none⟩) (j0 - kk) (co - (kk + 1)) (by rfl) lD.out.symm (hD6.call hA8.below) bl2 ?_
              intro v9 w9 hA9
              try go_simp
              refine hK _ _ ?_; clear hK K
              try simp only [Act.put, List.getElem_toArray, List.getElem_cons_zero, List.getElem_cons_succ, List.setIfInBounds_toArray, List.set_cons_zero, List.set_cons_succ]
              refine wpAny_take (i := 9) (v := ?_) rfl (by kernel_rfl) (by kernel_rfl) (by kernel_rfl) (fun _ _ _ h => h) (Or.inl ⟨by rfl, ?_⟩) ?_
              rotate_left
              · (intro w; go_simp; try with_reducible rfl)
              try simp only [Act.put, List.getElem_toArray, List.getElem_cons_zero, List.getElem_cons_succ, List.setIfInBounds_toArray, List.set_cons_zero, List.set_cons_succ]
              refine wpAny_done (by kernel_rfl) ?_ _
              have hR9 := hR6.madeO hA9
              obtain ⟨p9, c9, rfl, _⟩ := hA9.own.its
              have hBw := hA9.below.block B (by show B < ((((w5.setCell ⟨B, 0, none⟩ _).setCell ⟨B, 1, none⟩ _).setCell ⟨B, 2, none⟩ _)).heap.size; rw [set3_size]; exact zB5)
              go_wp2_with fail
              go_meet
              exact ⟨closeI y, _, s.id, (lineF L s.m 3).2 + 1 + 1, HN, rfl, ⟨_, _, rfl⟩, hR9, hBw.trans HB6.out⟩
            · have HN := Lib.hid (nextG_close L tags true s.o s.id s.m (by have := HC.out; omega) ho (j0, (lineF L s.m 3).2 + 1) (by unfold pickK; rw [if_pos rfl, hj0]; rfl))
              obtain ⟨_, hco, hcm, hI⟩ := hR4.itsO
              obtain ⟨g0, d0, d1, d2⟩ := its_at hI j0 (by omega)
              have hT := its_take hI j0
              have hy : s.o.getD j0 ⟨0, .empty, 0⟩ = s.o[j0]'(by omega) := by rw [List.getD_eq_getElem?_getD, List.getElem?_eq_getElem (by omega)]; rfl
              have hyt : (s.o[j0]'(by omega)).t.size ≤ 5 := hz.ot _ (List.getElem_mem _)
              have lT0 : (s.o.take j0).length = j0 := by rw [List.length_take]; omega
              have lD0 : (s.o.drop (j0 + 1)).length = 0 := by rw [List.length_drop]; omega
              obtain ⟨A, hA, hAD⟩ : ∃ A, (if co = j0 + 1 then some (⟨go, 0, none⟩ : Addr) else some ⟨go, (j0 + 1) * 3, none⟩) = some ⟨go, A, none⟩ ∧ (co ≠ j0 + 1 → A = (j0 + 1) * 3) := by
                by_cases hc : co = j0 + 1
                · exact ⟨0, if_pos hc, fun h => absurd hc h⟩
                · exact ⟨_, if_neg hc, fun _ => rfl⟩
              have hA := Lib.hid hA
              have hD : Its w3 (some ⟨go, A, none⟩) (s.o.drop (j0 + 1)) := by
                by_cases hc : co = j0 + 1
                · exact its_empty (by omega)
                · rw [hAD hc]; exact its_drop hI (j0 + 1)
              have hoB2 : ∀ a, some (⟨go, A, none⟩ : Addr) = some a → a.block ≠ B := fun a e => by cases e; exact fun e2 => hoB (by simpa [Value.ownBlock] using e2)
              rw [hy] at HN
              generalize s.o[j0]'(by omega) = y at *
              generalize s.o.take j0 = T at *
              generalize s.o.drop (j0 + 1) = D at *
              rw [hj0] at hR4 hoB hco hzol ⊢
              obtain ⟨_, _, _, f0, f1, f2⟩ := cells_item hB3
              have HB3 := Lib.hid hB3
              unfold maxLen at hcm
              have hb1 : (j0 : Int) < (j0 : Int) + 1 := by omega
              have hb2 : (j0 : Int) < ((j0 + 1 : Nat) : Int) := by omega
              have hb0 : (0 : Int) ≤ (j0 : Int) := by omega
              have lT := Lib.hid lT0; have lD := Lib.hid lD0
              clear lT0 lD0 HL HC hB3 hj0 ho hy hI hAD
              have hnm := fun W => rname_any y.t W (by unfold maxLen; omega)
              have HNM := Lib.hid hnm; clear hnm
              go_upto_region 27 with fail
              go_still_tail 12, (by kernel_rfl)
              still_call ((HNM.out _).mono (fun e w' h => ⟨h.1, h.2.symm⟩))
              repeat still_step
              refine wpStill_nil ?_
              change wpList _ _ _ _ _ w3.drew
              go_wp2_with fail
              have hR6 := ((hR4.set3 B hsz2 hfB hoB (.int .i64 3) (.string (nameB y.t)) (.int .i64 y.id)).drewN 1).drewN 1
              have hT6 := (its_set3 hT B (own_ne hoB) (.int .i64 3) (.string (nameB y.t)) (.int .i64 y.id)).two
              have hD6 := (its_set3 hD B hoB2 (.int .i64 3) (.string (nameB y.t)) (.int .i64 y.id)).two
              have HB6 := Lib.hid (heap_set3 (a' := .int .i64 3) (b' := .string (nameB y.t)) (c' := .int .i64 y.id) HB3.out)
              have hA := hA.out
              have hs1 : j0 ≤ co := by omega
              have hs2 : j0 ≤ j0 := by omega
              have hlT := lT.out; have hlD := lD.out
              have bl1 : (([] : List It).length + T.length) * 32 ≤ 140737488355328 := by simp; omega
              have bl2 : (T.length + D.length) * 32 ≤ 140737488355328 := by omega
              clear hlT hlD
              have hw1 : IntKind.i64.wrap ((j0 : Int) + 1) = (j0 : Int) + 1 := IntWalk.i64_in _ ⟨by omega, by omega⟩
              have hw2 : (0 : Int) ≤ (j0 : Int) + 1 := by omega
              have hw3 : ((j0 : Int) + 1).toNat = j0 + 1 := by omega
              refine wp_region_any (by kernel_rfl) ?_
              try (change wpAny _ _ _ _ _ _ _ (World.drew _))
              refine wpAny_take (i := 0) (v := ?_) rfl (by kernel_rfl) (by kernel_rfl) (by kernel_rfl) (fun _ _ _ h => h) (Or.inl ⟨by rfl, ?_⟩) ?_
              rotate_left
              · (intro w; go_simp; try with_reducible rfl)
              try simp only [Act.put, List.getElem_toArray, List.getElem_cons_zero, List.getElem_cons_succ, List.setIfInBounds_toArray, List.set_cons_zero, List.set_cons_succ]
              refine wpAny_take (i := 1) (v := ?_) rfl (by kernel_rfl) (by kernel_rfl) (by kernel_rfl) (fun _ _ _ h => h) (Or.inl ⟨by rfl, ?_⟩) ?_
              rotate_left
              · (intro w; go_simp; try with_reducible rfl)
              try simp only [Act.put, List.getElem_toArray, List.getElem_cons_zero, List.getElem_cons_succ, List.setIfInBounds_toArray, List.set_cons_zero, List.set_cons_succ]
              refine wpAny_take (i := 2) (v := ?_) rfl (by kernel_rfl) (by kernel_rfl) (by kernel_rfl) (fun _ _ _ h => h) (Or.inl ⟨by rfl, ?_⟩) ?_
              rotate_left
              · (intro w; go_simp; try with_reducible rfl)
              try simp only [Act.put, List.getElem_toArray, List.getElem_cons_zero, List.getElem_cons_succ, List.setIfInBounds_toArray, List.set_cons_zero, List.set_cons_succ]
              refine wpAny_take (i := 4) (v := ?_) rfl (by kernel_rfl) (by kernel_rfl) (by kernel_rfl) (fun _ _ _ h => h) (Or.inl ⟨by rfl, ?_⟩) ?_
              rotate_left
              · (intro w; go_simp; try with_reducible rfl)
              try simp only [Act.put, List.getElem_toArray, List.getElem_cons_zero, List.getElem_cons_succ, List.setIfInBounds_toArray, List.set_cons_zero, List.set_cons_succ]
              refine wpAny_take (i := 5) (v := ?_) rfl (by kernel_rfl) (by kernel_rfl) (by kernel_rfl) (fun _ _ _ h => h) (Or.inl ⟨by rfl, ?_⟩) ?_
              rotate_left
              · (intro w; go_simp; try with_reducible rfl)
              try simp only [Act.put, List.getElem_toArray, List.getElem_cons_zero, List.getElem_cons_succ, List.setIfInBounds_toArray, List.set_cons_zero, List.set_cons_succ]
              refine wpAny_take (i := 6) (v := ?_) rfl (by kernel_rfl) (by kernel_rfl) (by kernel_rfl) (fun _ _ _ h => h) (Or.inl ⟨by rfl, ?_⟩) ?_
              rotate_left
              · (intro w; go_simp; try with_reducible rfl)
              try simp only [Act.put, List.getElem_toArray, List.getElem_cons_zero, List.getElem_cons_succ, List.setIfInBounds_toArray, List.set_cons_zero, List.set_cons_succ]
              refine wpAny_take (i := 7) (v := ?_) rfl (by kernel_rfl) (by kernel_rfl) (by kernel_rfl) (fun _ _ _ h => h) (Or.inl ⟨by rfl, ?_⟩) ?_
              rotate_left
              · (intro w; go_simp; try with_reducible rfl)
              try simp only [Act.put, List.getElem_toArray, List.getElem_cons_zero, List.getElem_cons_succ, List.setIfInBounds_toArray, List.set_cons_zero, List.set_cons_succ]
              refine wpAny_ready (rs := [3]) (by kernel_rfl) (by simp) ?_
              refine AllReady.cons rfl (fun K hK => ?_) AllReady.nil
              refine step_cat _ (by rfl) _ _ (by rfl) _ [] T _ (by rfl) (Acc.start _) (some ⟨go, 0, none⟩) j0 co (by rfl) lT.out.symm hT6 bl1 ?_
              intro v1 w8 hA8
              rw [List.nil_append] at hA8
              obtain ⟨p8, c8, hv8, _⟩ := hA8.own.its
              rw [lT.out] at hv8
              subst hv8
              try go_simp
              refine hK _ _ ?_; clear hK K
              try simp only [Act.put, List.getElem_toArray, List.getElem_cons_zero, List.getElem_cons_succ, List.setIfInBounds_toArray, List.set_cons_zero, List.set_cons_succ]
              refine wpAny_ready (rs := [8]) (by kernel_rfl) (by simp) ?_
              refine AllReady.cons rfl (fun K hK => ?_) AllReady.nil
              refine step_cat _ (by rfl) _ _ (by rfl) _ T D _ (by rfl) hA8 (some ⟨go, A, none⟩) (0) (co - (j0 + 1)) (by rfl) lD.out.symm (hD6.call hA8.below) bl2 ?_
              intro v9 w9 hA9
              try go_simp
              refine hK _ _ ?_; clear hK K
              try simp only [Act.put, List.getElem_toArray, List.getElem_cons_zero, List.getElem_cons_succ, List.setIfInBounds_toArray, List.set_cons_zero, List.set_cons_succ]
              refine wpAny_take (i := 9) (v := ?_) rfl (by kernel_rfl) (by kernel_rfl) (by kernel_rfl) (fun _ _ _ h => h) (Or.inl ⟨by rfl, ?_⟩) ?_
              rotate_left
              · (intro w; go_simp; try with_reducible rfl)
              try simp only [Act.put, List.getElem_toArray, List.getElem_cons_zero, List.getElem_cons_succ, List.setIfInBounds_toArray, List.set_cons_zero, List.set_cons_succ]
              refine wpAny_done (by kernel_rfl) ?_ _
              have hR9 := hR6.madeO hA9
              obtain ⟨p9, c9, rfl, _⟩ := hA9.own.its
              have hBw := hA9.below.block B (by show B < ((((w3.setCell ⟨B, 0, none⟩ _).setCell ⟨B, 1, none⟩ _).setCell ⟨B, 2, none⟩ _)).heap.size; rw [set3_size]; exact zB)
              go_wp2_with fail
              go_meet
              exact ⟨closeI y, _, s.id, (lineF L s.m 3).2 + 1, HN, rfl, ⟨_, _, rfl⟩, hR9, hBw.trans HB6.out⟩
          · have hol : s.o.length = 0 := by omega
            have q0 : decide ((0 : Int) ≤ (s.o.length : Int) - 1) = false := decide_eq_false (by omega)
            have q1 : decide ((1 : Int) ≤ (s.o.length : Int)) = false := decide_eq_false (by omega)
            have q2 : decide (1 ≤ s.o.length) = false := decide_eq_false (by omega)
            have q3 : decide (0 < s.o.length) = false := decide_eq_false (by omega)
            have HO := Lib.hid ho
            clear ho hol
            cases tags
            · have HN := Lib.hid (nextG_text L false nested s.o s.id s.m (by have := HC.out; have := HO.out; right; right; exact ⟨by omega, by omega, HO.out, by simp⟩))
              clear HL HC
              go_wp2_with fail
              go_meet
              exact ⟨⟨1, (lineF L s.m 3).1, 0⟩, s.o, s.id, (lineF L s.m 3).2 + 1, HN, rfl, ⟨_, _, rfl⟩, hR4, hB3⟩
            cases nested
            · have HN := Lib.hid (nextG_alone L true false s.o s.id s.m (by have := HC.out; omega) HO.out ⟨rfl, rfl⟩)
              obtain ⟨_, _, _, f0, f1, f2⟩ := cells_item hB3
              have HB3 := Lib.hid hB3
              clear HL HC hB3
              go_wp2_with fail
              go_meet
              exact ⟨⟨3, ⟨#[98]⟩, (s.id + 1 : Nat)⟩, s.o, s.id + 1, (lineF L s.m 3).2 + 1, HN, rfl, ⟨_, _, rfl⟩, hR4.set3 B hsz2 hfB hoB _ _ _, heap_set3 HB3.out⟩
            · have HN := Lib.hid (nextG_text L true true s.o s.id s.m (by have := HC.out; have := HO.out; right; right; exact ⟨by omega, by omega, HO.out, by simp⟩))
              clear HL HC
              go_wp2_with fail
              go_meet
              exact ⟨⟨1, (lineF L s.m 3).1, 0⟩, s.o, s.id, (lineF L s.m 3).2 + 1, HN, rfl, ⟨_, _, rfl⟩, hR4, hB3⟩
        · have HN := Lib.hid (nextG_text L tags nested s.o s.id s.m (by have := HC.out; omega))
          clear HL HC
          go_wp2_with fail
          go_meet
          exact ⟨⟨1, (lineF L s.m 3).1, 0⟩, s.o, s.id, (lineF L s.m 3).2 + 1, HN, rfl, ⟨_, _, rfl⟩, hR4, hB3⟩
      case rest =>
        obtain ⟨x, o', id', m', HX, rfl, ⟨p1, c1, rfl⟩, hR5, hB5⟩ := hcut
        obtain ⟨y0, y1, y2, _, _, _⟩ := cells_item hB5
        have hstp : stepG L tags nested s = ⟨norm (s.f ++ [x]), o', id', m'⟩ := by unfold stepG; rw [HX.out]
        rw [hstp] at hz'
        have hrun : runG L tags nested k ⟨norm (s.f ++ [x]), o', id', m'⟩ = F := by rw [← hstp]; exact HL.out
        have hz5 := hz.fl; have hz6 := hz.ft
        have hx5 := next_ok L tags nested s.o s.id s.m hz.ot
        rw [HX.out] at hx5
        have hx6 : x.t.size ≤ 18 := hx5.x
        have htx : txtI [x] = x.t.size := by simp [txtI]
        have hcat := fun W q (hR : Its W pf s.f) (hS : Its W q [x]) => rconcat_any pf q cf 1 s.f [x] W hR hS (by simp; omega) (by rw [htx]; omega)
        have HCat := Lib.hid hcat; have HRun := Lib.hid hrun
        clear hcat hrun hstp htx hx5 hx6 hz5 hz6
        have hR6 := hR5.alloc (.cells #[.int .i64 x.k, .string x.t, .int .i64 x.id] 62)
        have hS6 := its_one (heap_alloc_new wc (.cells #[.int .i64 x.k, .string x.t, .int .i64 x.id] 62))
        go_wp2_with fail
        refine (HCat.out _ _ hR6.itsF.2.2.2 hS6).mono ?_
        rintro e w7 ⟨v7, rfl, hA7⟩
        have hR7 := hR6.made hA7
        obtain ⟨p7, c7, rfl, _⟩ := hR7.f.its
        go_wp2_with fail
        go_roundw
        case rel => exact ⟨k, j + 1, ⟨norm (s.f ++ [x]), o', id', m'⟩, rfl, rfl, ⟨_, _, rfl⟩, ⟨_, _, rfl⟩, by omega, hz', hR7, HRun⟩
        case measure => simp [intOf]
    · obtain rfl : k = 0 := by omega
      have hfin : s = F := HL.out
      subst hfin
      have hzf := hz.fl; have hzo := hz.ol
      go_wp2_with fail
      go_loopw [9, 15] (fun vf z wr' => ∃ (i : Nat) (zi : Int), i ≤ s.o.length ∧ z = .int .i64 zi ∧ zi = (i : Int) - 1 ∧ (∃ p c, vf = .slice p (closeF s.f s.o i).length c) ∧ (nested = false → i = s.o.length) ∧ GRel b pn cn L w (closeF s.f s.o i) s.o s.m vf (.slice po s.o.length co) wr') (fun _ z _ => (intOf z + 1).toNat)
      case atStart => exact ⟨s.o.length, _, Nat.le_refl _, rfl, rfl, ⟨pf, cf, by rw [closeF_all]⟩, fun _ => rfl, by rw [closeF_all]; exact hR⟩
      case round =>
        obtain ⟨i, zi, hi, rfl, hzi, ⟨pf2, cf2, rfl⟩, hns, hR2⟩ := hrel
        have hlen := closeF_len s.f s.o i
        by_cases hgo : 0 < i ∧ nested = true
        · obtain ⟨h0, rfl⟩ := hgo
          obtain ⟨j, rfl⟩ : ∃ j, i = j + 1 := ⟨i - 1, by omega⟩
          obtain rfl : zi = (j : Int) := by omega
          have q1 : decide ((0 : Int) ≤ (j : Int)) = true := decide_eq_true (by omega)
          have ho : 0 < s.o.length := by omega
          obtain ⟨go, rfl⟩ := hR2.atO ho
          obtain ⟨_, hco, hcm, hI⟩ := hR2.itsO
          obtain ⟨g0, d0, d1, d2⟩ := its_at hI j (by omega)
          have hnx := closeF_next s.f s.o j (by omega)
          have hyt : (s.o[j]'(by omega)).t.size ≤ 5 := hz.ot _ (List.getElem_mem _)
          generalize s.o[j]'(by omega) = y at *
          generalize closeF s.f s.o (j + 1) = M at *
          have HX := Lib.hid hnx; clear hnx hzi
          unfold maxLen at hcm
          have hb1 : (j : Int) < (s.o.length : Int) := by omega
          have hb0 : (0 : Int) ≤ (j : Int) := by omega
          have hb2 : j < s.o.length := by omega
          have hnm := fun W => rname_any y.t W (by unfold maxLen; omega)
          have HNM := Lib.hid hnm; clear hnm
          go_wp2_with fail
          refine wp_region_held_drew (S := fun W => W.cell? ⟨go, j * 3 + 1, none⟩ = some (.string y.t) ∧ W.cell? ⟨go, j * 3 + 2, none⟩ = some (.int .i64 y.id)) (by kernel_rfl) (⟨d1, d2⟩) (fun hHeld => ?_)
          refine wpAnyH_take (i := 0) (v := ?_) rfl (by kernel_rfl) (by kernel_rfl) (by kernel_rfl) (fun _ _ _ h => h) (Or.inl ⟨by rfl, ?_⟩) hHeld ?_
          rotate_left
          · (intro w hSw; (try dsimp only at hSw); go_simp; try with_reducible rfl)
          try simp only [Act.put, List.getElem_toArray, List.getElem_cons_zero, List.getElem_cons_succ, List.setIfInBounds_toArray, List.set_cons_zero, List.set_cons_succ]
          refine wpAnyH_take (i := 1) (v := ?_) rfl (by kernel_rfl) (by kernel_rfl) (by kernel_rfl) (fun _ _ _ h => h) (Or.inl ⟨by rfl, ?_⟩) hHeld ?_
          rotate_left
          · (intro w hSw; (try dsimp only at hSw); go_simp; try with_reducible rfl)
          try simp only [Act.put, List.getElem_toArray, List.getElem_cons_zero, List.getElem_cons_succ, List.setIfInBounds_toArray, List.set_cons_zero, List.set_cons_succ]
          refine wpAnyH_take (i := 2) (v := ?_) rfl (by kernel_rfl) (by kernel_rfl) (by kernel_rfl) (fun _ _ _ h => h) (Or.inl ⟨by rfl, ?_⟩) hHeld ?_
          rotate_left
          · (intro w hSw; (try dsimp only at hSw); go_simp; try with_reducible rfl)
          try simp only [Act.put, List.getElem_toArray, List.getElem_cons_zero, List.getElem_cons_succ, List.setIfInBounds_toArray, List.set_cons_zero, List.set_cons_succ]
          refine wpAnyH_take (i := 3) (v := ?_) rfl (by kernel_rfl) (by kernel_rfl) (by kernel_rfl) (fun _ _ _ h => h) (Or.inl ⟨by rfl, ?_⟩) hHeld ?_
          rotate_left
          · (intro w hSw; (try dsimp only at hSw); go_simp; try with_reducible rfl)
          try simp only [Act.put, List.getElem_toArray, List.getElem_cons_zero, List.getElem_cons_succ, List.setIfInBounds_toArray, List.set_cons_zero, List.set_cons_succ]
          refine wpAnyH_take (i := 4) (v := ?_) rfl (by kernel_rfl) (by kernel_rfl) (by kernel_rfl) (fun _ _ _ h => h) (Or.inl ⟨by rfl, ?_⟩) hHeld ?_
          rotate_left
          · (intro w hSw; (try dsimp only at hSw); go_simp; try with_reducible rfl)
          try simp only [Act.put, List.getElem_toArray, List.getElem_cons_zero, List.getElem_cons_succ, List.setIfInBounds_toArray, List.set_cons_zero, List.set_cons_succ]
          refine wpAnyH_take (i := 5) (v := ?_) rfl (by kernel_rfl) (by kernel_rfl) (by kernel_rfl) (fun _ _ _ h => h) (Or.inl ⟨by rfl, ?_⟩) hHeld ?_
          rotate_left
          · (intro w hSw; (try dsimp only at hSw); go_simp; try with_reducible rfl)
          try simp only [Act.put, List.getElem_toArray, List.getElem_cons_zero, List.getElem_cons_succ, List.setIfInBounds_toArray, List.set_cons_zero, List.set_cons_succ]
          refine wpAnyH_take (i := 7) (v := ?_) rfl (by kernel_rfl) (by kernel_rfl) (by kernel_rfl) (fun _ _ _ h => h) (Or.inl ⟨by rfl, ?_⟩) hHeld ?_
          rotate_left
          · (intro w hSw; (try dsimp only at hSw); go_simp; try with_reducible rfl)
          try simp only [Act.put, List.getElem_toArray, List.getElem_cons_zero, List.getElem_cons_succ, List.setIfInBounds_toArray, List.set_cons_zero, List.set_cons_succ]
          refine wpAnyH_take (i := 8) (v := ?_) rfl (by kernel_rfl) (by kernel_rfl) (by kernel_rfl) (fun _ _ _ h => h) (Or.inl ⟨by rfl, ?_⟩) hHeld ?_
          rotate_left
          · (intro w hSw; (try dsimp only at hSw); go_simp; try with_reducible rfl)
          try simp only [Act.put, List.getElem_toArray, List.getElem_cons_zero, List.getElem_cons_succ, List.setIfInBounds_toArray, List.set_cons_zero, List.set_cons_succ]
          refine wpAnyH_take (i := 9) (v := ?_) rfl (by kernel_rfl) (by kernel_rfl) (by kernel_rfl) (fun _ _ _ h => h) (Or.inl ⟨by rfl, ?_⟩) hHeld ?_
          rotate_left
          · (intro w hSw; (try dsimp only at hSw); go_simp; try with_reducible rfl)
          try simp only [Act.put, List.getElem_toArray, List.getElem_cons_zero, List.getElem_cons_succ, List.setIfInBounds_toArray, List.set_cons_zero, List.set_cons_succ]
          refine wpAnyH_take (i := 10) (v := ?_) rfl (by kernel_rfl) (by kernel_rfl) (by kernel_rfl) (fun _ _ _ h => h) (Or.inl ⟨by rfl, ?_⟩) hHeld ?_
          rotate_left
          · (intro w hSw; (try dsimp only at hSw); go_simp; try with_reducible rfl)
          try simp only [Act.put, List.getElem_toArray, List.getElem_cons_zero, List.getElem_cons_succ, List.setIfInBounds_toArray, List.set_cons_zero, List.set_cons_succ]
          refine wpAnyH_take (i := 11) (v := ?_) rfl (by kernel_rfl) (by kernel_rfl) (by kernel_rfl) (fun _ _ _ h => h) (Or.inl ⟨by rfl, ?_⟩) hHeld ?_
          rotate_left
          · (intro w hSw; (try dsimp only at hSw); go_simp; try with_reducible rfl)
          try simp only [Act.put, List.getElem_toArray, List.getElem_cons_zero, List.getElem_cons_succ, List.setIfInBounds_toArray, List.set_cons_zero, List.set_cons_succ]
          refine wpAnyH_ready (rs := [6]) (by kernel_rfl) (by simp) ?_
          refine AllReadyH.cons rfl (fun K hK => ?_) (AllReadyH.nil)
          go_simp
          refine (HNM.out _).mono ?_; rintro e w3 ⟨rfl, rfl⟩
          go_wp2_with fail
          refine hK.out _ _ (hHeld) (fun hHeld => ?_)
          clear hK K
          try simp only [Act.put, List.getElem_toArray, List.getElem_cons_zero, List.getElem_cons_succ, List.setIfInBounds_toArray, List.set_cons_zero, List.set_cons_succ]
          refine wpAnyH_take (i := 12) (v := ?_) rfl (by kernel_rfl) (by kernel_rfl) (by kernel_rfl) (fun _ _ _ h => h) (Or.inl ⟨by rfl, ?_⟩) hHeld ?_
          rotate_left
          · (intro w hSw; (try dsimp only at hSw); go_simp; try with_reducible rfl)
          try simp only [Act.put, List.getElem_toArray, List.getElem_cons_zero, List.getElem_cons_succ, List.setIfInBounds_toArray, List.set_cons_zero, List.set_cons_succ]
          have hR3 := (hR2.drewN 1).alloc (.cells #[.int .i64 3, .string (nameB y.t), .int .i64 y.id] 62)
          refine wpAnyH_ready (rs := [13]) (by kernel_rfl) (by simp) ?_
          refine AllReadyH.cons rfl (fun K hK => ?_) (AllReadyH.nil)
          go_simp
          refine hK.out _ _ (its_held2 hHeld _) (fun hHeld => ?_)
          clear hK K
          try simp only [Act.put, List.getElem_toArray, List.getElem_cons_zero, List.getElem_cons_succ, List.setIfInBounds_toArray, List.set_cons_zero, List.set_cons_succ]
          refine wpAnyH_ready (rs := [14]) (by kernel_rfl) (by simp) ?_
          refine AllReadyH.cons rfl (fun K hK => ?_) (AllReadyH.nil)
          refine step_app eI _ (by rfl) _ _ (by rfl) w.heap.size M _ (by rfl) hR3.f hR3.chg.size (closeI y) wr.heap.size #[.int .i64 3, .string (nameB y.t), .int .i64 y.id] (by rfl) (heap_alloc_new _ _) (by rfl) (by omega) (by unfold maxLen; omega) ?_
          intro g2 cp w4 hown4 hgr4 hloc4
          have hR4 := hR3.pushF hown4 hgr4 hloc4
          have hk4 := hgr4.block go (Nat.lt_of_lt_of_le g0 (blw (Below.refl _ wr) _).size) (fun e => hR3.ne _ e.symm rfl)
          refine hK.out _ _ (⟨(World.cell?_of_block hk4).trans hHeld.1, (World.cell?_of_block hk4).trans hHeld.2⟩) (fun hHeld => ?_)
          clear hK K
          try simp only [Act.put, List.getElem_toArray, List.getElem_cons_zero, List.getElem_cons_succ, List.setIfInBounds_toArray, List.set_cons_zero, List.set_cons_succ]
          refine wpAnyH_take (i := 15) (v := ?_) rfl (by kernel_rfl) (by kernel_rfl) (by kernel_rfl) (fun _ _ _ h => h) (Or.inl ⟨by rfl, ?_⟩) hHeld ?_
          rotate_left
          · (intro w hSw; (try dsimp only at hSw); go_simp; try with_reducible rfl)
          try simp only [Act.put, List.getElem_toArray, List.getElem_cons_zero, List.getElem_cons_succ, List.setIfInBounds_toArray, List.set_cons_zero, List.set_cons_succ]
          refine wpAnyH_done (by kernel_rfl) ?_ _
          go_wp2_with fail
          go_roundw
          case rel =>
            (repeat apply Exists.intro)
            exact ⟨⟨j, (j : Int) - 1, by omega, rfl, rfl, ⟨_, _, by rw [HX.out, List.length_append]; rfl⟩, (fun h => by cases h), by rw [HX.out]; exact hR4⟩, rfl⟩
          case measure => simp [intOf]
        · cases nested
          · have hil := hns rfl
            subst hil
            rw [closeF_all] at hR2
            have HX := Lib.hid (closeF_all s.f s.o)
            have hgf := HG.out
            rw [if_neg (by decide)] at hgf
            rw [closeF_all]
            obtain ⟨_, _, _, hIf⟩ := hR2.itsF
            have HGf := Lib.hid hgf
            clear hzi hgf hgo hns hIf
            by_cases hz0 : 0 ≤ zi
            · have q1 : decide (0 ≤ zi) = true := decide_eq_true hz0
              go_wp2_with fail
              go_ret
              rw [← HGf.out]
              exact ⟨_, rfl, hR2.chg, hR2.nums, hR2.f⟩
            · have q1 : decide (0 ≤ zi) = false := decide_eq_false hz0
              go_wp2_with fail
              go_ret
              rw [← HGf.out]
              exact ⟨_, rfl, hR2.chg, hR2.nums, hR2.f⟩
          · obtain rfl : i = 0 := by rcases Nat.eq_zero_or_pos i with h | h; exact h; exact absurd ⟨h, rfl⟩ hgo
            obtain rfl : zi = -1 := by omega
            rw [closeF_none] at hR2 ⊢
            have hgf := HG.out
            rw [if_pos rfl] at hgf
            generalize s.f ++ s.o.reverse.map closeI = M at *
            have HGf := Lib.hid hgf
            clear hzi hgf hgo hns
            go_wp2_with fail
            go_ret
            rw [← HGf.out]
            exact ⟨_, rfl, hR2.chg, hR2.nums, hR2.f⟩
end Go.Proofs.YtphkpokoeaagfaaGreatDoor
namespace Go.Proofs.YtphkpokoeaagfaaGreatDoor
open Go.ChangeShapes Go.WideShapes Go.ChangeAt Go.RowKit
set_option linter.unusedVariables false
set_option maxRecDepth 100000

theorem int_last (o : List Int) (h : 0 < o.length) : ∃ L y, o = L ++ [y] ∧ o.getLast? = some y := by
  have hne : o ≠ [] := by intro e; rw [e] at h; cases h
  exact ⟨o.dropLast, o.getLast hne, (List.dropLast_concat_getLast hne).symm, List.getLast?_eq_some_getLast hne⟩
/-- A slice of numbers that is not empty, as it lies. -/
theorem OwnN.at {base : Nat} {L : List Int} {v : Value} {w : World} (h : OwnN base L v w) (h0 : 0 < L.length) : ∃ g cap, v = .slice (some ⟨g, 0, none⟩) L.length cap ∧ L.length ≤ cap ∧ cap ≤ maxLen ∧ ∀ i (hi : i < L.length), w.cell? ⟨g, i, none⟩ = some (.int .i64 (L[i]'hi)) := by
  obtain ⟨p, c, hv, h1, h2, hI⟩ := h.ints
  rcases h.2 with ⟨_, hz⟩ | ⟨g, cap, cur, hv2, _⟩
  · omega
  · rw [hv] at hv2
    injection hv2 with e1 e2 e3
    subst e1; subst e3
    refine ⟨g, c, hv, h1, h2, fun i hi => ?_⟩
    obtain ⟨a, e, _, hc⟩ := hI h0
    cases e
    have := hc i hi
    rwa [show (⟨g, 0, none⟩ : Addr).add i = ⟨g, i, none⟩ by unfold Addr.add; split <;> simp_all] at this
theorem OwnN.form {base : Nat} {L : List Int} {v : Value} {w : World} (h : OwnN base L v w) : ∃ p cap, v = .slice p L.length cap := by
  obtain ⟨p, c, hv, _⟩ := h.ints; exact ⟨p, c, hv⟩

end Go.Proofs.YtphkpokoeaagfaaGreatDoor
namespace Go.Proofs.YtphkpokoeaagfaaGreatDoor
open Go.ChangeShapes Go.WideShapes Go.ChangeAt Go.RowKit
set_option linter.unusedVariables false
set_option maxRecDepth 100000

def pS (l : List It) : ByteArray := ⟨(plainL l).toArray⟩
theorem pS_text (l : List It) (k : Nat) (h : k < l.length) (hk : (l[k]'h).k = 1) : pS (l.take (k + 1)) = pS (l.take k) ++ (l[k]'h).t := by
  unfold pS; rw [plain_next l k h, show plainB (l[k]'h) = (l[k]'h).t.data.toList from if_pos hk]
  apply ByteArray.ext; simp
theorem pS_slot (l : List It) (k : Nat) (h : k < l.length) (hk : (l[k]'h).k = 5) : pS (l.take (k + 1)) = pS (l.take k) ++ ⟨#[255]⟩ := by
  unfold pS; rw [plain_next l k h, show plainB (l[k]'h) = [255] by unfold plainB; rw [hk]; rfl]
  apply ByteArray.ext; simp
theorem pS_other (l : List It) (k : Nat) (h : k < l.length) (h1 : (l[k]'h).k ≠ 1) (h5 : (l[k]'h).k ≠ 5) : pS (l.take (k + 1)) = pS (l.take k) := by
  unfold pS; rw [plain_next l k h, show plainB (l[k]'h) = [] by unfold plainB; rw [if_neg h1, if_neg h5]]; simp
theorem pS_size (l : List It) (k : Nat) (h : k ≤ l.length) : (pS (l.take k)).size ≤ txtI (l.take k) + k := by
  have h1 := plain_len l k h
  have h2 : (pS (l.take k)).size = (plainL (l.take k)).length := by show (plainL (l.take k)).toArray.size = _; simp
  rw [h2]; exact h1

theorem one_row {α : Type} {en : α → Value} {W : World} {p : Option Addr} {l : List α} (h : Ones W en p l) (i : Nat) (hi : i < l.length) : ∃ a, p = some a ∧ a.block < W.heap.size ∧ W.cell? (a.add i) = some (en (l[i]'hi)) := by
  obtain ⟨a, hp, hlt, hc⟩ := h (by omega)
  exact ⟨a, hp, hlt, hc i hi⟩
theorem ones_eq_at {α : Type} {l m : List α} (hlen : l.length = m.length) (h : ∀ j (hl : j < l.length) (hm : j < m.length), l[j] = m[j]) : l = m := List.ext_getElem hlen h

set_option maxHeartbeats 1600000 in
theorem sameints_any (p q : Option Addr) (c d : Nat) (l m : List Int) (w : World) (hR : Ones w (Value.int .i64) p l) (hS : Ones w (Value.int .i64) q m) (hc : l.length ≤ c) (hd : m.length ≤ d) (hcm : c ≤ maxLen) (hdm : d ≤ maxLen) :
    Calls Tryz.prog 14 #[.slice p l.length c, .slice q m.length d] w fun e w' => e = .returned (.bool (decide (l = m))) ∧ Below w.heap.size w w' := by
  unfold maxLen at hcm hdm
  by_cases hlen : l.length = m.length
  · have qn : ((l.length : Int) != (l.length : Int)) = false := by simp
    have HM := Lib.hid (fun k (h : k < l.length) => (by omega : k < m.length))
    have HLEN := Lib.hid hlen
    rw [← hlen] at hd ⊢
    clear hlen
    have mixed : Tryz.prog.follows .mixedOrders = true := by kernel_rfl
    go_enter Tryz.func14, Tryz.ntmps14
    go_wp2_with fail
    go_loopw [13] (fun i wr => ∃ k : Nat, k ≤ l.length ∧ i = .int .i64 k ∧ Below w.heap.size w wr ∧ Hid (∀ j (hl : j < l.length) (hm : j < m.length), j < k → l[j] = m[j])) (fun i _ => l.length - (intOf i).toNat)
    case atStart => exact ⟨0, Nat.zero_le _, rfl, Below.refl _ _, Lib.hid (fun j _ _ h => by omega)⟩
    case round =>
      obtain ⟨k, hk, rfl, hB, HK⟩ := hrel
      by_cases hlt : k < l.length
      · obtain ⟨a, rfl, ha, c0⟩ := one_row (hR.call hB) k hlt
        obtain ⟨b, rfl, hb, d0⟩ := one_row (hS.call hB) k (HM.out k hlt)
        have hne : l[k] ≠ m[k]'(HM.out k hlt) → l ≠ m := fun h e => by subst e; exact h rfl
        have hnext : l[k] = m[k]'(HM.out k hlt) → ∀ j (hl : j < l.length) (hm : j < m.length), j < k + 1 → l[j] = m[j] := fun h j hl hm hj => by
          by_cases e : j = k
          · subst e; exact h
          · exact HK.out j hl hm (by omega)
        generalize l[k] = x at *
        generalize m[k]'(HM.out k hlt) = y at *
        have HN := Lib.hid hne; have HX := Lib.hid hnext; clear hne hnext
        by_cases hxy : x = y
        · subst hxy
          have HX' := Lib.hid (HX.out rfl)
          clear HX HN
          go_wp2_with fail
          go_quiet (fail)
          go_wp2_with fail
          go_roundw
          case rel => exact ⟨k + 1, hlt, by go_num, bdrN hB _, HX'⟩
          case measure => simp [intOf]; omega
        · clear HX
          have HZ := Lib.hid (HN.out hxy)
          go_wp2_with fail
          go_quiet (fail)
          go_wp2_with fail
          go_ret
          exact ⟨ret_bool (decide_eq_false HZ.out).symm, bdrN hB _⟩
      · obtain rfl : k = l.length := by omega
        have HZ := Lib.hid (ones_eq_at HLEN.out (fun j hl hm => HK.out j hl hm hl))
        go_wp2_with fail
        go_ret
        exact ⟨ret_bool (decide_eq_true HZ.out).symm, hB⟩
  · have qn : ((l.length : Int) != (m.length : Int)) = true := by simp; omega
    have qn' : (l.length != m.length) = true := by simp; omega
    have HZ := Lib.hid (decide_eq_false (p := l = m) (fun e => hlen (by rw [e])))
    clear hlen
    go_enter Tryz.func14, Tryz.ntmps14
    go_wp2_with fail
    go_ret
    exact ⟨ret_bool HZ.out.symm, Below.refl _ _⟩

end Go.Proofs.YtphkpokoeaagfaaGreatDoor
namespace Go.Proofs.YtphkpokoeaagfaaGreatDoor
open Go.ChangeShapes Go.WideShapes Go.ChangeAt Go.RowKit
set_option linter.unusedVariables false
set_option maxRecDepth 100000

/-- The fragment of a law. -/
def mk (l : List Int) (tags nested : Bool) : List It := (fragG l tags nested 0 8).1
theorem mk_ok (l : List Int) (tags nested : Bool) : FragOk 8 (mk l tags nested) := (frag_ok l tags nested 0 8 (by decide)).1
theorem mk_sm (l : List Int) (tags nested : Bool) : Sm 1 (mk l tags nested) := ⟨by have := (mk_ok l tags nested).len; omega, by have := (mk_ok l tags nested).txt; omega⟩
/-- The address of numbers: of an empty slice it is not looked at. -/
theorem ones_any {w : World} {p : Option Addr} {L : List Int} (hL : Ones w (Value.int .i64) p L) (h0 : 0 < L.length) : ∀ a, p = some a → a.block < w.heap.size := fun a ha => by
  obtain ⟨b, e, hlt, _⟩ := hL h0
  rw [ha] at e; injection e with e; rw [e]; exact hlt

theorem NumsAt.made {p : Option Addr} {cap : Nat} {L : List Int} {w : World} (hL : Ones w (Value.int .i64) p L) (hw : ∀ i (h : i < L.length), (Lit.int .i64 (L[i]'h)).wf = true) (hc : L.length ≤ cap) (hm : cap ≤ maxLen) :
    NumsAt (w.alloc (.cells #[.slice p L.length cap, .int .i64 0] 43)) w.heap.size p cap L 0 :=
  ⟨heap_alloc_new w _, hL.call (blw (Below.refl _ _) _), fun h0 a ha => by have := ones_any hL h0 a ha; omega, hw, hc, hm⟩
def shC (st : Option (List Int × List Int)) : List Int := match st with | some (c, _) => c | none => []
def shO (st : Option (List Int × List Int)) : List Int := match st with | some (_, o) => o | none => []
/-- What Shape answers, whether it fails or not. -/
def EndShU (st : Option (List Int × List Int)) (w : World) (e : Ending) (w' : World) : Prop := ∃ p1 c1 p2 c2, e = .returned (.tuple #[.slice p1 (shC st).length c1, .slice p2 (shO st).length c2, .bool st.isSome]) ∧
  (shC st).length ≤ c1 ∧ c1 ≤ maxLen ∧ Ones w' (Value.int .i64) p1 (shC st) ∧ (shO st).length ≤ c2 ∧ c2 ≤ maxLen ∧ Ones w' (Value.int .i64) p2 (shO st) ∧ Below w.heap.size w w'
theorem EndSh.u {st : Option (List Int × List Int)} {w w' : World} {e : Ending} (h : EndSh st w e w') : EndShU st w e w' := by
  cases st with
  | none => exact ⟨none, 0, none, 0, h.1, Nat.le_refl _, Nat.zero_le _, Ones.nil _ _ _, Nat.le_refl _, Nat.zero_le _, Ones.nil _ _ _, h.2⟩
  | some x =>
    obtain ⟨c, o⟩ := x
    obtain ⟨vc, vo, rfl, hT⟩ := h
    obtain ⟨p1, c1, rfl, a1, a2, a3⟩ := hT.c.ints
    obtain ⟨p2, c2, rfl, b1, b2, b3⟩ := hT.o.ints
    exact ⟨p1, c1, p2, c2, rfl, a1, a2, a3, b1, b2, b3, hT.below⟩
end Go.Proofs.YtphkpokoeaagfaaGreatDoor
namespace Go.Proofs.YtphkpokoeaagfaaGreatDoor
set_option linter.unusedVariables false
set_option maxRecDepth 100000
open Go.Lib

def byM (c : UInt8) : List UInt8 := if c = 60 then [38, 108, 116, 59] else if c = 38 then [38, 97, 109, 112, 59] else if c = 123 then [38, 108, 98, 59] else [c]
/-- How a position is written. -/
def e1M (y : It) : List UInt8 := if y.k = 1 then y.t.data.toList.flatMap byM else if y.k = 2 then 60 :: (y.t.data.toList ++ [62]) else if y.k = 3 then 60 :: (47 :: y.t.data.toList ++ [62]) else if y.k = 4 then 60 :: ((y.t.data.toList ++ [47]) ++ [62]) else 123 :: (y.t.data.toList ++ [125])
def encM (l : List It) : List UInt8 := l.flatMap e1M
theorem encM_exp (l : List It) : encM (expI l) = encM l := by
  induction l with
  | nil => rfl
  | cons x t ih =>
    rw [expI_cons]
    show (expX x ++ expI t).flatMap e1M = e1M x ++ encM t
    rw [List.flatMap_append]
    show _ ++ encM (expI t) = _
    rw [ih]
    congr 1
    by_cases hk : x.k = 1
    · rw [expX_text hk, List.flatMap_map]
      unfold e1M; rw [if_pos hk]
      congr 1
      funext c
      show (if (bT c).k = 1 then (bT c).t.data.toList.flatMap byM else _) = byM c
      rw [if_pos (show (bT c).k = 1 from rfl)]
      show [c].flatMap byM = _
      simp
    · rw [expX_other hk]; simp
theorem encM_append (a b : List It) : encM (a ++ b) = encM a ++ encM b := by unfold encM; rw [List.flatMap_append]
theorem encM_norm (l : List It) : encM (norm l) = encM l := by rw [← encM_exp, exp_norm, encM_exp]
theorem encM_next (l : List It) (k : Nat) (h : k < l.length) : encM (l.take (k + 1)) = encM (l.take k) ++ e1M (l[k]'h) := by
  rw [List.take_succ_eq_append_getElem h, encM_append]; unfold encM; simp
/-- A position without its number. -/
def unN (y : It) : It := if isT y.k = true then ⟨y.k, y.t, 0⟩ else y
theorem con_head {s : ByteArray} (h : isCon s = true) : 0 < s.size ∧ s.data.toList.head? ≠ some 47 := by
  have hn : isNm (nameB s) = true := by unfold isCon at h; simp only [Bool.and_eq_true] at h; exact h.1.1.1.2
  have hs : 1 ≤ (nameB s).size := by unfold isNm at hn; simp only [Bool.and_eq_true, decide_eq_true_eq] at hn; exact hn.1.1
  have hc := nameB_size s
  have hle := cutN_le s
  have h0 : nmAt (nameB s) 0 = true := by
    unfold isNm at hn; simp only [Bool.and_eq_true] at hn
    exact List.all_eq_true.1 hn.2 0 (by simp; omega)
  refine ⟨by omega, fun e => ?_⟩
  rw [nmAt_zero _ (by omega)] at h0
  have hb : byte (nameB s) 0 = byte s 0 := nameB_byte s 0 (by omega)
  rw [byte_at _ 0 (by omega), byte_at s 0 (by omega)] at hb
  rw [hb] at h0
  have he : s[0]'(by omega) = 47 := by
    have : s.data.toList.head? = some (s[0]'(by omega)) := by
      rw [List.head?_eq_getElem?, List.getElem?_eq_getElem (by simpa using (by omega : 0 < s.size))]; rfl
    rw [this] at e; injection e
  rw [he] at h0; revert h0; decide
theorem tg_open (t : ByteArray) (h : isCon t = true) : tgM t.data.toList = ⟨2, t, 0⟩ := by
  unfold tgM; rw [if_neg (con_head h).2, if_neg (con_nolast h), bsL_of]
theorem tg_close (t : ByteArray) : tgM (47 :: t.data.toList) = ⟨3, t, 0⟩ := by
  unfold tgM; rw [if_pos (show (47 :: t.data.toList).head? = some 47 from rfl)]; show (⟨3, bsL t.data.toList, 0⟩ : It) = _; rw [bsL_of]
theorem tg_empty (t : ByteArray) (h : isCon t = true) : tgM (t.data.toList ++ [47]) = ⟨4, t, 0⟩ := by
  obtain ⟨h0, h1⟩ := con_head h
  have hne : t.data.toList ≠ [] := fun e => by have := (bytes_nil t).1 e; omega
  unfold tgM
  rw [if_neg (by rw [head_app hne]; exact h1), if_pos (by simp), List.dropLast_concat, bsL_of]
/-- What is written of a position reads as it, whatever follows. -/
theorem word_enc {y : It} (h : One y) (hb : isT y.k = true → blk y = false) : WordM (e1M y) (unN y) := by
  rcases h with ⟨h1, h2, h3⟩ | ⟨h1, hp⟩
  · obtain ⟨c, rfl⟩ := one_bT (.inl ⟨h1, h2, h3⟩) h1
    have e : e1M (bT c) = byM c := by show [c].flatMap byM = _; simp
    have e2 : unN (bT c) = bT c := rfl
    rw [e, e2]
    unfold byM
    split
    · rename_i hc; subst hc; exact wordM_ref ([108, 116, 59], 60) (by simp [refW])
    · split
      · rename_i hc; subst hc; exact wordM_ref ([97, 109, 112, 59], 38) (by simp [refW])
      · split
        · rename_i hc; subst hc; exact wordM_ref ([108, 98, 59], 123) (by simp [refW])
        · rename_i a1 a2 a3; exact wordM_byte c a1 a3 a2
  · rcases proper_kinds hp with hk | hk | hk
    · exact absurd hk h1
    · obtain ⟨_, _, p3, p2⟩ := isT_proper hk hp
      have hb := hb hk
      have eu : unN y = ⟨y.k, y.t, 0⟩ := if_pos hk
      rw [eu]
      have hk' : y.k = 2 ∨ y.k = 3 ∨ y.k = 4 := by unfold isT at hk; simpa using hk
      rcases hk' with hk | hk | hk
      · have hc := p2 (.inl hk)
        have ew : e1M y = 60 :: (y.t.data.toList ++ [62]) := by unfold e1M; rw [if_neg h1, if_pos hk]
        have := wordM_tag y.t.data.toList (fun c hcm => (con_ne hc hcm).1) (by rw [tg_open _ hc]; exact hc) (by rw [tg_open _ hc]; exact hb)
        rw [tg_open _ hc] at this
        rw [ew, hk]; exact this
      · have hc := p3 hk
        have ew : e1M y = 60 :: (47 :: y.t.data.toList ++ [62]) := by unfold e1M; rw [if_neg h1, if_neg (by omega), if_pos hk]
        have := wordM_tag (47 :: y.t.data.toList) (fun c hcm => by
          rcases List.mem_cons.1 hcm with rfl | hcm
          · decide
          · exact (nm_ne hc hcm).2.1) (by rw [tg_close]; exact hc) (by rw [tg_close]; exact hb)
        rw [tg_close] at this
        rw [ew, hk]; exact this
      · have hc := p2 (.inr hk)
        have ew : e1M y = 60 :: ((y.t.data.toList ++ [47]) ++ [62]) := by unfold e1M; rw [if_neg h1, if_neg (by omega), if_neg (by omega), if_pos hk]
        have := wordM_tag (y.t.data.toList ++ [47]) (fun c hcm => by
          rcases List.mem_append.1 hcm with hcm | hcm
          · exact (con_ne hc hcm).1
          · rw [List.mem_singleton.1 hcm]; decide) (by rw [tg_empty _ hc]; exact hc) (by rw [tg_empty _ hc]; exact hb)
        rw [tg_empty _ hc] at this
        rw [ew, hk]; exact this
    · have hk2 : isT y.k = false := by rw [hk]; decide
      have eu : unN y = y := if_neg (by rw [hk2]; decide)
      rw [slot_proper hk] at hp
      simp only [Bool.and_eq_true, decide_eq_true_eq] at hp
      have ew : e1M y = 123 :: (y.t.data.toList ++ [125]) := by unfold e1M; rw [if_neg h1, if_neg (by omega), if_neg (by omega), if_neg (by omega)]
      have := wordM_slot y.t.data.toList (fun c hcm => (nm_ne hp.1 hcm).1) (by rw [bsL_of]; exact hp.1)
      rw [bsL_of] at this
      have ey : (⟨5, y.t, 0⟩ : It) = y := by
        obtain ⟨k, t, i⟩ := y
        dsimp only at hk hp; rw [hk, hp.2]
      rw [ey] at this
      rw [eu, ew]; exact this
def noBlk (l : List It) : Prop := ∀ x ∈ l, isT x.k = true → blk x = false
/-- The words of a written fragment. -/
def wsE (l : List It) : Ws := (expI l).map fun y => (e1M y, unN y)
theorem wsE_flat (l : List It) : flatW (wsE l) = encM l := by
  unfold wsE flatW; rw [List.flatMap_map]; exact encM_exp l
theorem wsE_it (l : List It) : itW (wsE l) = (expI l).map unN := by unfold wsE itW; rw [List.map_map]; rfl
theorem wsE_len (l : List It) : (wsE l).length = lenI l := by unfold wsE; rw [List.length_map, expI_len]
theorem noBlk_exp {l : List It} (h : noBlk l) : noBlk (expI l) := fun x hx ht => by
  unfold expI at hx
  obtain ⟨y, hy, hx⟩ := List.mem_flatMap.1 hx
  by_cases hk : y.k = 1
  · rw [expX_text hk] at hx
    obtain ⟨c, _, rfl⟩ := List.mem_map.1 hx
    exact absurd ht (by show ¬ isT 1 = true; decide)
  · rw [expX_other hk] at hx
    rw [List.mem_singleton.1 hx] at ht ⊢
    exact h y hy ht
theorem wsE_all {l : List It} (h : errL [] l = 0) (hb : noBlk l) : AllM (wsE l) := fun w hw => by
  unfold wsE at hw
  obtain ⟨y, hy, rfl⟩ := List.mem_map.1 hw
  exact word_enc (exp_ok h y hy) (fun ht => noBlk_exp hb y hy ht)

/-! ### numbers of what is made -/
theorem numL_append (a b : List It) : ∀ op n, numL op n (a ++ b) = match numL op n a with
    | none => none
    | some (ys, o, m) => match numL o m b with
      | none => none
      | some (zs, o', m') => some (ys ++ zs, o', m') := by
  induction a with
  | nil =>
    intro op n
    show numL op n b = match numL op n b with | none => none | some (zs, o', m') => some ([] ++ zs, o', m')
    cases numL op n b <;> rfl
  | cons x a ih =>
    intro op n
    show (match numM op n x with | none => none | some (y, op', n') => match numL op' n' (a ++ b) with | none => none | some (ys, o, m) => some (y :: ys, o, m)) = match (match numM op n x with | none => none | some (y, op', n') => match numL op' n' a with | none => none | some (ys, o, m) => some (y :: ys, o, m)) with | none => none | some (ys, o, m) => _
    cases numM op n x with
    | none => rfl
    | some z =>
      obtain ⟨y, op', n'⟩ := z
      dsimp only
      rw [ih]
      cases numL op' n' a with
      | none => rfl
      | some z =>
        obtain ⟨ys, o, m⟩ := z
        dsimp only
        cases numL o m b with
        | none => rfl
        | some z => rfl
theorem numL_two {a b : List It} {op o o' ys zs : List It} {n m m' : Nat} (h1 : numL op n a = some (ys, o, m)) (h2 : numL o m b = some (zs, o', m')) : numL op n (a ++ b) = some (ys ++ zs, o', m') := by
  rw [numL_append, h1]; dsimp only; rw [h2]
theorem numM_text (op : List It) (n : Nat) (x : It) (h : isT x.k = false) : numM op n x = some (x, op, n) := by
  have : ¬ (x.k = 2 ∨ x.k = 3 ∨ x.k = 4) := by unfold isT at h; simpa using h
  unfold numM
  rw [if_neg (by omega), if_neg (by omega), if_neg (by omega)]
theorem numL_texts (op : List It) (n : Nat) (bs : List UInt8) : numL op n ((bs.map bT).map unN) = some (bs.map bT, op, n) := by
  induction bs with
  | nil => rfl
  | cons c t ih =>
    show (match numM op n (bT c) with | none => none | some (y, op', n') => match numL op' n' ((t.map bT).map unN) with | none => none | some (ys, o, m) => some (y :: ys, o, m)) = _
    rw [numM_text op n (bT c) (show isT 1 = false by decide)]; dsimp only; rw [ih]; rfl
theorem numL_one {op op' : List It} {n n' : Nat} {x y : It} (h : numM op n x = some (y, op', n')) : numL op n [x] = some ([y], op', n') := by
  show (match numM op n x with | none => none | some (y, op', n') => match numL op' n' [] with | none => none | some (ys, o, m) => some (y :: ys, o, m)) = _
  rw [h]; rfl
theorem nums_add (l : List It) (x : It) : numsL (norm (l ++ [x])) = numS (numsL l) x := by
  rw [nums_norm]; unfold numsL; rw [List.foldl_append]; rfl
theorem mem_up (n : Nat) (z : Int) : z ∈ upL n ↔ 1 ≤ z ∧ z ≤ (n : Int) := by
  unfold upL
  rw [List.mem_map]
  constructor
  · rintro ⟨i, hi, rfl⟩; rw [List.mem_range] at hi; omega
  · rintro ⟨h1, h2⟩; exact ⟨(z - 1).toNat, by rw [List.mem_range]; omega, by omega⟩
theorem num_fresh (n : Nat) (x : It) (ht : isT x.k = true) (hi : x.id = ((n + 1 : Nat) : Int)) : numS (upL n) x = upL (n + 1) := by
  unfold numS
  rw [if_pos ⟨ht, by rw [mem_up]; omega⟩, upL_next, hi]; simp
theorem num_old (n : Nat) (x : It) (h : isT x.k = false ∨ (1 ≤ x.id ∧ x.id ≤ (n : Int))) : numS (upL n) x = upL n := by
  unfold numS
  rw [if_neg (fun c => by
    rcases h with h | h
    · rw [h] at c; cases c.1
    · exact c.2 ((mem_up n x.id).2 h))]
/-- What holds of a nested fragment that is being made. -/
structure MInv (s : St) : Prop where
  run : numL [] 0 ((expI s.f).map unN) = some (expI s.f, s.o, s.id)
  nums : numsL s.f = upL s.id
  op : ∀ y ∈ s.o, y.k = 2 ∧ y.t ∈ openL ∧ 1 ≤ y.id ∧ y.id ≤ (s.id : Int)
  nb : noBlk s.f
theorem noBlk_add {f : List It} {x : It} (h : noBlk f) (hx : isT x.k = true → blk x = false) : noBlk (norm (f ++ [x])) := fun y hy ht => by
  have : y ∈ tagsL (norm (f ++ [x])) := mem_tags.2 ⟨hy, ht⟩
  rw [tags_norm] at this
  obtain ⟨hm, _⟩ := mem_tags.1 this
  rcases List.mem_append.1 hm with hm | hm
  · exact h y hm ht
  · rw [List.mem_singleton.1 hm] at ht ⊢; exact hx ht
theorem MInv.add {f o o' : List It} {id id' m m' : Nat} (h : MInv ⟨f, o, id, m⟩) (x : It) (hr : numL o id ((expX x).map unN) = some (expX x, o', id')) (hn : numS (upL id) x = upL id') (hb : isT x.k = true → blk x = false) (ho : ∀ y ∈ o', y.k = 2 ∧ y.t ∈ openL ∧ 1 ≤ y.id ∧ y.id ≤ (id' : Int)) : MInv ⟨norm (f ++ [x]), o', id', m'⟩ where
  run := by
    show numL [] 0 ((expI (norm (f ++ [x]))).map unN) = some (expI (norm (f ++ [x])), o', id')
    rw [exp_norm, expI_snoc, List.map_append]
    exact numL_two h.run hr
  nums := by show numsL (norm (f ++ [x])) = upL id'; rw [nums_add, show numsL f = upL id from h.nums, hn]
  op := ho
  nb := noBlk_add h.nb hb
theorem MInv.text {f o : List It} {id m m' : Nat} (h : MInv ⟨f, o, id, m⟩) (t : ByteArray) : MInv ⟨norm (f ++ [⟨1, t, 0⟩]), o, id, m'⟩ :=
  h.add ⟨1, t, 0⟩ (by rw [expX_text (x := ⟨1, t, 0⟩) rfl]; exact numL_texts o id _) (num_old _ _ (.inl (show isT 1 = false by decide))) (fun c => by cases c) h.op
theorem MInv.slot {f o : List It} {id m m' : Nat} (h : MInv ⟨f, o, id, m⟩) (t : ByteArray) : MInv ⟨norm (f ++ [⟨5, t, 0⟩]), o, id, m'⟩ :=
  h.add ⟨5, t, 0⟩ (numL_one (numM_text o id ⟨5, t, 0⟩ (show isT 5 = false by decide))) (num_old _ _ (.inl (show isT 5 = false by decide))) (fun c => by cases c) h.op
theorem open_nb : ∀ t ∈ openL, blkN (nameB t) = false ∧ blkN (nameB (nameB t)) = false := by decide +kernel
theorem empty_nb : ∀ t ∈ emptyL, blkN (nameB t) = false := by decide +kernel
theorem pick_mem (wl : List ByteArray) (k : Nat) (hk : k < wl.length) : pickB wl k ∈ wl := by
  unfold pickB; rw [List.getD_eq_getElem?_getD, List.getElem?_eq_getElem hk]; exact List.getElem_mem hk
theorem closeNum {O : List It} {y : It} (n : Nat) : numM (O ++ [y]) n (unN (closeI y)) = some (closeI y, O, n) := by
  have e : unN (closeI y) = ⟨3, nameB y.t, 0⟩ := rfl
  rw [e]
  unfold numM
  rw [if_neg (by show ¬ (3 : Int) = 2; decide), if_neg (by show ¬ (3 : Int) = 4; decide), if_pos rfl, List.getLast?_concat]
  dsimp only
  rw [if_pos rfl, List.dropLast_concat]; rfl
theorem MInv.step {s : St} (h : MInv s) (L : List Int) : MInv (stepG L true true s) := by
  obtain ⟨f, o, id, m⟩ := s
  unfold stepG
  dsimp only
  have hc := nx_lt L (lineF L m 3).2 8 (by decide)
  by_cases c1 : nx L (lineF L m 3).2 8 = 0 ∨ nx L (lineF L m 3).2 8 = 1
  · rw [nextG_slot L true true o id m c1]; exact h.slot _
  by_cases c2 : nx L (lineF L m 3).2 8 = 2
  · rw [nextG_empty L true true o id m c2 rfl]
    dsimp only
    have hm := pick_mem emptyL (nx L ((lineF L m 3).2 + 1) 2) (nx_lt L _ 2 (by decide))
    generalize pickB emptyL (nx L ((lineF L m 3).2 + 1) 2) = t at *
    refine h.add ⟨4, t, ((id + 1 : Nat) : Int)⟩ (numL_one ?_) (num_fresh _ _ (show isT 4 = true by decide) rfl) (fun _ => empty_nb t hm) (fun y hy => ?_)
    · show numM o id ⟨4, t, 0⟩ = _
      unfold numM
      rw [if_neg (by show ¬ (4 : Int) = 2; decide), if_pos rfl]
    · obtain ⟨a, b, c, d⟩ := h.op y hy
      exact ⟨a, b, c, by have d : y.id ≤ (id : Int) := d; omega⟩
  by_cases c3 : nx L (lineF L m 3).2 8 = 3 ∨ nx L (lineF L m 3).2 8 = 4
  · rw [nextG_open L true true o id m c3 rfl]
    dsimp only
    have hm := pick_mem openL (nx L ((lineF L m 3).2 + 1) 3) (nx_lt L _ 3 (by decide))
    generalize pickB openL (nx L ((lineF L m 3).2 + 1) 3) = t at *
    refine h.add ⟨2, t, ((id + 1 : Nat) : Int)⟩ (numL_one ?_) (num_fresh _ _ (show isT 2 = true by decide) rfl) (fun _ => (open_nb t hm).1) (fun y hy => ?_)
    · show numM o id ⟨2, t, 0⟩ = _
      unfold numM
      rw [if_pos rfl]
    · rcases List.mem_append.1 hy with hy | hy
      · obtain ⟨a, b, c, d⟩ := h.op y hy
        exact ⟨a, b, c, by have d : y.id ≤ (id : Int) := d; omega⟩
      · rw [List.mem_singleton.1 hy]; exact ⟨rfl, hm, by show (1 : Int) ≤ ((id + 1 : Nat) : Int); omega, Int.le_refl _⟩
  by_cases c5 : nx L (lineF L m 3).2 8 = 5 ∨ nx L (lineF L m 3).2 8 = 6
  · by_cases ho : 0 < o.length
    · rw [nextG_close L true true o id m c5 ho _ rfl]
      unfold pickK
      rw [if_pos rfl]
      dsimp only
      obtain ⟨O, y, e, hl⟩ := out_last o ho
      subst e
      have e1 : (O ++ [y]).length - 1 = O.length := by simp
      rw [e1]
      have e2 : (O ++ [y]).getD O.length ⟨0, .empty, 0⟩ = y := by rw [List.getD_eq_getElem?_getD]; simp
      have e3 : List.take O.length (O ++ [y]) ++ List.drop (O.length + 1) (O ++ [y]) = O := by simp
      rw [e2, e3]
      obtain ⟨a, b, c, d⟩ := h.op y (by simp)
      refine h.add (closeI y) (numL_one (closeNum id)) (num_old _ _ (.inr ⟨c, d⟩)) (fun _ => (open_nb _ b).2) (fun z hz => h.op z (by simp [hz]))
    · rw [nextG_text L true true o id m (.inr (.inr ⟨by omega, by omega, ho, fun hh => by cases hh.2⟩))]
      exact h.text _
  · rw [nextG_text L true true o id m (.inl (by omega))]
    exact h.text _
theorem run_m (L : List Int) : ∀ (k : Nat) (s : St), MInv s → MInv (runG L true true k s) := by
  intro k
  induction k with
  | zero => intro s h; exact h
  | succ k ih => intro s h; exact ih _ (h.step L)
theorem close_m (o : List It) : ∀ n, numL o n ((o.reverse.map closeI).map unN) = some (o.reverse.map closeI, [], n) := by
  refine list_rev (P := fun o => ∀ n, numL o n ((o.reverse.map closeI).map unN) = some (o.reverse.map closeI, [], n)) (fun n => rfl) (fun l x ih n => ?_) o
  rw [List.reverse_append]
  show numL (l ++ [x]) n (unN (closeI x) :: (l.reverse.map closeI).map unN) = some (closeI x :: l.reverse.map closeI, [], n)
  show (match numM (l ++ [x]) n (unN (closeI x)) with | none => none | some (y, op', n') => match numL op' n' ((l.reverse.map closeI).map unN) with | none => none | some (ys, o, m) => some (y :: ys, o, m)) = _
  rw [closeNum]; dsimp only; rw [ih]
theorem exp_others (l : List It) (h : ∀ x ∈ l, x.k ≠ 1) : expI l = l := by
  induction l with
  | nil => rfl
  | cons x t ih => rw [expI_cons, expX_other (h x (by simp)), ih (fun y hy => h y (by simp [hy]))]; rfl
/-- A nested fragment is numbered as it is read. -/
structure MadeOk (f : List It) : Prop where
  run : ∃ n, numL [] 0 ((expI f).map unN) = some (expI f, [], n)
  nums : ∃ n, numsL f = upL n
  nb : noBlk f
theorem frag_m (L : List Int) (m n : Nat) : MadeOk (fragG L true true m n).1 := by
  unfold fragG startG
  have h := run_m L (nx L m (n + 1)) ⟨[], [], 0, m + 1⟩ ⟨rfl, rfl, (fun y hy => by cases hy), (fun y hy => by cases hy)⟩
  generalize runG L true true (nx L m (n + 1)) ⟨[], [], 0, m + 1⟩ = s at *
  dsimp only
  rw [if_pos rfl]
  have hcl : ∀ x ∈ s.o.reverse.map closeI, x.k ≠ 1 := fun x hx => by
    obtain ⟨y, _, rfl⟩ := List.mem_map.1 hx
    show (3 : Int) ≠ 1; decide
  refine ⟨⟨s.id, ?_⟩, ⟨s.id, ?_⟩, fun x hx ht => ?_⟩
  · rw [expI_append, exp_others _ hcl, List.map_append]
    exact numL_two h.run (close_m s.o s.id)
  · unfold numsL
    rw [List.foldl_append]
    have hb : s.f.foldl numS [] = upL s.id := h.nums
    rw [hb]
    have : ∀ l : List It, (∀ y ∈ l, 1 ≤ y.id ∧ y.id ≤ (s.id : Int)) → (l.map closeI).foldl numS (upL s.id) = upL s.id := by
      intro l
      induction l with
      | nil => intro _; rfl
      | cons y t ih =>
        intro hl
        rw [List.map_cons, List.foldl_cons, num_old _ (closeI y) (.inr (hl y (by simp))), ih (fun z hz => hl z (by simp [hz]))]
    exact this _ (fun y hy => (h.op y (List.mem_reverse.1 hy)).2.2)
  · rcases List.mem_append.1 hx with hx | hx
    · exact h.nb x hx ht
    · obtain ⟨y, hy, rfl⟩ := List.mem_map.1 hx
      exact (open_nb _ (h.op y (List.mem_reverse.1 hy)).2.1).2
theorem nm_same (l : List Int) (z : Int) (h : z ∈ l) : nmF (l.zip l) z = some z := by
  unfold nmF
  induction l with
  | nil => cases h
  | cons a t ih =>
    rw [List.zip_cons_cons, List.find?_cons]
    by_cases e : a = z
    · subst e; simp
    · have : (a == z) = false := by simpa using e
      rw [this]
      exact ih (by rcases List.mem_cons.1 h with h | h; exact absurd h.symm e; exact h)
theorem ren_same (l : List Int) (f : List It) (h : ∀ x ∈ f, isT x.k = true → x.id ∈ l) : renL (l.zip l) f = f := by
  induction f with
  | nil => rfl
  | cons x t ih =>
    show ren1 (l.zip l) x ++ renL (l.zip l) t = _
    rw [ih (fun y hy => h y (by simp [hy]))]
    unfold ren1
    split
    · rename_i ht
      rw [nm_same l x.id (h x (by simp) ht)]; rfl
    · rfl
theorem mem_numsM (l : List It) : ∀ x ∈ l, isT x.k = true → x.id ∈ numsL l := by
  refine list_rev (P := fun l => ∀ x ∈ l, isT x.k = true → x.id ∈ numsL l) (fun x hx => by cases hx) (fun l y ih x hx ht => ?_) l
  unfold numsL
  rw [List.foldl_append]
  show x.id ∈ numS (numsL l) y
  unfold numS
  rcases List.mem_append.1 hx with hx | hx
  · have := ih x hx ht
    split
    · exact List.mem_append_left _ this
    · exact this
  · rw [List.mem_singleton.1 hx] at ht ⊢
    by_cases hm : y.id ∈ numsL l
    · rw [if_neg (fun c => c.2 hm)]; exact hm
    · rw [if_pos ⟨ht, hm⟩]; simp
/-- What is numbered in order is not turned by Renumber. -/
theorem renum_made {f : List It} (h : ∃ n, numsL f = upL n) (hn : norm f = f) : norm (renL (upPairs (numsL f)) f) = f := by
  obtain ⟨n, hn2⟩ := h
  have hm := mem_numsM f
  unfold upPairs
  rw [hn2] at hm ⊢
  rw [upL_len, ren_same _ _ hm, hn]
/-- A written fragment reads as itself. -/
theorem dec_encM {f : List It} (hv : errL [] f = 0) (hm : MadeOk f) (hl : f.length ≤ 512) (hc : lenI f ≤ 1024) : dcM (encM f) = (f, offs 0 (wsE f), 0, 0) := by
  obtain ⟨n, hr⟩ := hm.run
  have h := dcM_words (wsE_all hv hm.nb) (by rw [wsE_it]; exact hr) (by rw [norm_exp, norm_valid f hv]; exact hl) (by rw [wsE_len]; exact hc)
  rw [wsE_flat, norm_exp, norm_valid f hv] at h
  exact h
end Go.Proofs.YtphkpokoeaagfaaGreatDoor
