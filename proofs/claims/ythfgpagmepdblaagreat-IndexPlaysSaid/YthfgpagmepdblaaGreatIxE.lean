/- Index: contract of Candidates. Shingle: small, made; what a law's lists bear. Index: the fixed example. -/
import Derived.Test.YthfgpagmepdblaaGreatIxD
import Derived.Test.YthfgpagmepdblaaGreatSgC
import Derived.Test.YthfgpagmepdblaaGreatItD
import Derived.Test.YthfgpagmepdblaaGreatScA
import Derived.Test.YthfgpagmepdblaaGreatSgR
import Derived.Test.YthfgpagmepdblaaGreatSgD
import Derived.Test.YthfgpagmepdblaaGreatDtU
import Derived.Test.YthfgpagmepdblaaGreatDtK
namespace Go.Proofs.YthfgpagmepdblaaGreat
open Go.ChangeShapes Go.WideShapes Go.ChangeAt Go.RowKit Go.Maps Go.Sort
set_option linter.unusedVariables false
set_option linter.unusedSimpArgs false
set_option maxRecDepth 100000

theorem putCells_int (off : Nat) (d : Array Int) (c : Array Value) : putCells (Value.int .i64) off d c = putCells id off (d.map (Value.int .i64)) c := by
  apply Array.ext
  · simp [putCells]
  · intro i h1 h2
    simp only [putCells, Array.getElem_mapIdx, Array.size_map]
    split
    · rename_i h
      rw [getElem!_pos d (i - off) (by omega), getElem!_pos (d.map (Value.int .i64)) (i - off) (by simp; omega)]
      simp
    · rfl
theorem putRow_int (w : World) (g : Nat) (d : Array Int) : putRow (Value.int .i64) w g 0 d = putRow id w g 0 (d.map (Value.int .i64)) := by
  unfold putRow
  rw [show putCells (Value.int .i64) 0 d = putCells id 0 (d.map (Value.int .i64)) from funext fun c => putCells_int 0 d c]
theorem cellsN (L : List Int) : cellsOf nenc L = L.map (Value.int .i64) := by
  unfold cellsOf
  induction L with
  | nil => rfl
  | cons x L ih => rw [List.flatMap_cons, ih]; rfl
/-- The numbers of a slice that the call owns are sorted. -/
theorem sortN_any {base : Nat} (v : Value) (L : List Int) (w : World) (h : OwnL 3 1 nenc base L v w) (hn : L.length ≤ 1000000) :
    Calls Tryz.prog 25 #[v] w fun e w' => e = .returned (.tuple #[]) ∧ OwnL 3 1 nenc base (L.mergeSort fun x y => decide (x ≤ y)) v w' ∧ w.grownBy w' v.ownBlock := by
  rcases h.2 with ⟨hv, h0⟩ | ⟨g, cap, cur, hv, hg, hh, hle, hm, hs, ht⟩
  · have : L = [] := List.length_eq_zero_iff.1 h0
    subst this; subst hv
    exact (Tryz.slices_Sort_int_none none 0 w).mono fun e w' ⟨a, b⟩ => ⟨a, by subst b; simpa using h, by subst b; exact World.grownBy.refl _ _⟩
  · subst hv
    rw [Nat.mul_one] at ht
    rw [cellsN] at ht
    have hH : Holds (Value.int .i64) w g 0 L.toArray := fun j hj => by
      have hj' : j < L.length := by simpa using hj
      refine ⟨?_, by simp [World.frozen?, hh]⟩
      have h1 : (cur.toList.take L.length)[j]? = (L.map (Value.int .i64))[j]? := by rw [ht]
      rw [List.getElem?_take_of_lt hj'] at h1
      simp only [World.cell?, hh, Nat.zero_add]
      simp only [Option.isSome_none, Bool.false_eq_true, if_false]
      rw [← Array.getElem?_toList, h1]
      simp [hj']
    have hblk := (Array.getElem?_eq_some_iff.1 hh).1
    refine (Tryz.slices_Sort_int g 0 cap L w hH hblk (by omega)).mono ?_
    rintro e w' ⟨rfl, n, os, rfl⟩
    have hl : (L.mergeSort fun x y => decide (x ≤ y)).length = L.length := List.length_mergeSort _
    generalize hL2 : (L.mergeSort fun x y => decide (x ≤ y)) = L2 at *
    rw [putRow_int]
    refine ⟨rfl, ?_, grownBy_sortedG _⟩
    refine ⟨by rw [cellsN]; simp, .inr ⟨g, cap, _, by rw [hl], hg, heap_sortedG _ hh, by omega, hm, by simp [putCells, hs], ?_⟩⟩
    have hz : (L2.toArray.map (Value.int .i64)).size ≤ cur.size := by simp; omega
    have := take_putCellsG cur (L2.toArray.map (Value.int .i64)) hz
    rw [Nat.mul_one, cellsN, show L2.length = (L2.toArray.map (Value.int .i64)).size by simp, this]; simp

/-! ### the lists that are still to come -/
theorem perm_dl {S : List Sto} (hn : (S.map (·.id)).Nodup) {s : Sto} (h : s ∈ S) : S.Perm (s :: dlS S s.id) := by
  induction S with
  | nil => cases h
  | cons x S ih =>
    rw [List.map_cons, List.nodup_cons] at hn
    have e : dlS (x :: S) s.id = if x.id = s.id then dlS S s.id else x :: dlS S s.id := by
      unfold dlS; rw [List.filter_cons]
      by_cases hx : x.id = s.id
      · rw [if_neg (by simpa using hx), if_pos hx]
      · rw [if_pos (by simpa using hx), if_neg hx]
    rw [e]
    rcases List.mem_cons.1 h with rfl | h
    · rw [if_pos rfl, dlS_none ((lkS_none _ _).2 fun t ht c => hn.1 (by rw [← c]; exact List.mem_map_of_mem ht))]
    · have hx : x.id ≠ s.id := fun c => hn.1 (c ▸ List.mem_map_of_mem h)
      rw [if_neg hx]
      exact ((ih hn.2 h).cons x).trans (List.Perm.swap _ _ _)
structure CRem (P : List It → Bool) (S : List Sto) (left : Lit → Bool) (L : List Int) (rem : List Sto) : Prop where
  nd : (rem.map (·.id)).Nodup
  sub : ∀ s ∈ rem, s ∈ S
  left : ∀ i, (Lit.int .i64 i).wf = true → (left (.int .i64 i) = true ↔ lkS rem i ≠ none)
  perm : (L ++ (rem.filter fun s => P s.l).map (·.id)).Perm ((S.filter fun s => P s.l).map (·.id))
  len : L.length + rem.length ≤ S.length
theorem CRem.next {P : List It → Bool} {S : List Sto} {left : Lit → Bool} {L : List Int} {rem : List Sto} (h : CRem P S left L rem) (hS : (S.map (·.id)).Nodup) {y : Int} {l : List It} (hw : (Lit.int .i64 y).wf = true) (hl : left (.int .i64 y) = true) (hy : lkS S y = some l) :
    CRem P S (fun z => left z && !z.sameKey (.int .i64 y)) (if P l = true then L ++ [y] else L) (dlS rem y) ∧ L.length < S.length := by
  have h1 := (h.left y hw).1 hl
  cases hr : lkS rem y with
  | none => exact absurd hr h1
  | some l2 =>
    have hm := lkS_mem hr
    have hm2 := lkS_of hS (h.sub _ hm)
    have : l2 = l := by rw [show lkS S y = some l2 from hm2] at hy; injection hy
    subst this
    have hp := perm_dl h.nd hm
    have hlen := hp.length_eq
    rw [List.length_cons] at hlen
    have hl2 : (dlS rem y).length = rem.length - 1 := del_len h.nd y h1
    have hlen3 := h.len
    refine ⟨⟨del_nodup h.nd y, fun s hs => h.sub s (List.mem_filter.1 hs).1, fun i hi => ?_, ?_, ?_⟩, by omega⟩
    · rw [same_int y i hw, Bool.and_eq_true, h.left i hi, lkS_del]
      by_cases e : i = y
      · simp [e]
      · simp [e]
    · refine List.Perm.trans ?_ h.perm
      have h2 := ((hp.filter fun s => P s.l).map (·.id)).symm
      rw [List.filter_cons] at h2
      cases hP : P l2 with
      | true =>
        rw [if_pos rfl, List.append_assoc]
        simp only [hP, if_true, List.map_cons] at h2
        exact List.Perm.append_left L h2
      | false =>
        rw [if_neg (by simp)]
        simp only [hP, Bool.false_eq_true, if_false] at h2
        exact List.Perm.append_left L h2
    · split
      · rw [List.length_append]; simp; omega
      · omega
theorem CRem.done {P : List It → Bool} {S : List Sto} {left : Lit → Bool} {L : List Int} {rem : List Sto} (h : CRem P S left L rem) (hw : ∀ s ∈ S, (Lit.int .i64 s.id).wf = true) (hl : ∀ z, left z = false) : (L.mergeSort fun x y => decide (x ≤ y)) = cand P S := by
  have h0 : rem = [] := by
    cases rem with
    | nil => rfl
    | cons s rem =>
      have := (h.left s.id (hw s (h.sub s (List.mem_cons_self ..)))).2 (fun c => (lkS_none _ _).1 c s (List.mem_cons_self ..) rfl)
      rw [hl] at this; cases this
  have hp := h.perm
  rw [h0] at hp
  simp only [List.filter_nil, List.map_nil, List.append_nil] at hp
  refine cand_unique P S _ ?_ ((List.mergeSort_perm L _).trans hp)
  have := List.pairwise_mergeSort (le := fun x y : Int => decide (x ≤ y)) (fun a b c h1 h2 => by simp only [decide_eq_true_eq] at *; omega) (fun a b => by simp only [Bool.or_eq_true, decide_eq_true_eq]; omega) L
  exact this.imp fun h => by simpa using h
theorem CRem.start (P : List It → Bool) {S : List Sto} (hS : (S.map (·.id)).Nodup) {left : Lit → Bool} (hl : ∀ i, (Lit.int .i64 i).wf = true → (left (.int .i64 i) = true ↔ lkS S i ≠ none)) : CRem P S left [] S := ⟨hS, fun s h => h, hl, List.Perm.refl _, by simp⟩
set_option maxHeartbeats 25600000 in
theorem cand_any {w : World} {X N : Nat} {R : Nat → Prop} {S : List Sto} (h : Ix w X R N S) {p : Option Addr} {c : Nat} {q : List It} (hI : Its w p q) (hc : q.length ≤ c) (hm : c ≤ maxLen) (hl : LOk q) (pc : Int) (hN : N ≤ 1000000000) (hSl : S.length ≤ 100000) :
    Calls Tryz.prog 12 #[.pointer (some ⟨X, 0, none⟩), .slice p q.length c, .int .i64 pc] w (EndN (cand (isCand q pc) S) w) := by
  have HGR := Lib.hid (gramsof_any p c q w hI hc hm hl)
  have HNL := Lib.hid (fun W (h : Its W p q) q2 d2 hg h1 h2 => newlist_any p q2 c d2 q W h hc hm (Nat.le_trans hl.len (by omega)) hg h1 h2)
  have HIX := Lib.hid h; have HI := Lib.hid hI; have HL := Lib.hid hl
  have hl100 := hl.len
  have hwq := wtL_le q
  clear h hI hl
  go_enter Tryz.func12, Tryz.ntmps12
  go_wp2_with fail
  refine (HGR.out).mono ?_; rintro e w1 ⟨v, rfl, hA⟩
  obtain ⟨gq, gd, hv, g1, g2, g3⟩ := OwnG.gs hA.own
  have hb1 := hA.below
  subst hv
  have HI1 := Lib.hid (HI.out.call hb1); have HG1 := Lib.hid g3; have HB1 := Lib.hid hb1
  clear hA hb1 g3 HGR
  go_wp2_with fail
  refine (HNL.out _ HI1.out _ _ HG1.out g1 g2).mono ?_; rintro e w2 ⟨rfl, hb2⟩
  have HB2 := Lib.hid (BelowOn HB1.out hb2)
  have HI2 := Lib.hid (HI1.out.call hb2); have HG2 := Lib.hid (HG1.out.call hb2)
  clear HNL hb2 HI1 HG1 HB1
  have hVV : LV.v ⟨p, c, q⟩ = .agg #[.slice p q.length c, .int .i64 (wtL q : Nat), .int .i64 ((pw q).length : Nat)] := rfl
  rw [hVV]
  have hv8 := heap_alloc_new w2 (.cells #[.slice p q.length c, .int .i64 (wtL q : Nat), .int .i64 ((pw q).length : Nat)] 61)
  have hb3 : Below w2.heap.size w2 (w2.alloc (.cells #[.slice p q.length c, .int .i64 (wtL q : Nat), .int .i64 ((pw q).length : Nat)] 61)) := blw (Below.refl _ _) _
  have HV8 := Lib.hid (And.intro hv8 hb3)
  clear hv8 hb3 hVV
  go_wp2_with fail
  generalize (w2.alloc (.cells #[.slice p q.length c, .int .i64 (wtL q : Nat), .int .i64 ((pw q).length : Nat)] 61)) = w3 at *
  obtain ⟨hv8, hb3⟩ := HV8.out
  have hB3 := BelowOn HB2.out hb3
  have hG3 := HG2.out.call hb3
  have hI3 := HI2.out.call hb3
  have hX3 := HIX.out.call hB3
  have hlt3 : w2.heap.size < w3.heap.size := (Array.getElem?_eq_some_iff.1 hv8).1
  have HSH := Lib.hid (shared_any hX3 q hG3 g1 g2 HL.out hN)
  have H3 := Lib.hid (And.intro hv8 (And.intro hB3 (And.intro hI3 hX3)))
  clear hv8 hB3 hG3 hI3 hX3 HV8 HB2 HG2 HI2 hb3
  refine (HSH.out).mono ?_; rintro e w4 ⟨B, M, f, rfl, hM4, hF, hb4⟩
  obtain ⟨hv8, hB3, hI3, hX3⟩ := H3.out
  have hv84 : w4.heap[w2.heap.size]? = _ := (hb4.block _ hlt3).trans hv8
  have hB4 := BelowOn hB3 hb4
  have hI4 := hI3.call hb4
  obtain ⟨b1, b2, G, LS, HH, h1, h2⟩ := hX3.call hb4
  have hx0 := h1.x0
  obtain ⟨D, ⟨o1, s1, t1⟩, hzD⟩ := h1.map
  have HST := Lib.hid (And.intro s1 t1)
  have HLF := Lib.hid (show ∀ i, (Lit.int .i64 i).wf = true → (Maps.has D (.int .i64 i) = true ↔ lkS S i ≠ none) from fun i hi => by
    have e1 := s1 i _ (key_int hi)
    have e2 := h1.eq i
    cases hL : LS i with
    | none => rw [hL] at e1 e2; rw [show Maps.has D (.int .i64 i) = false from e1.1, ← e2]; simp
    | some u => rw [hL] at e1 e2; rw [show Maps.has D (.int .i64 i) = true from e1.1, ← e2]; simp)
  have HIL := Lib.hid h1
  have HF := Lib.hid hF; have HM4 := Lib.hid hM4; have HI4 := Lib.hid hI4
  have hlt4 : w2.heap.size < w4.heap.size := Nat.lt_of_lt_of_le hlt3 hb4.size
  have hblt : b1 < w4.heap.size := h1.map.lt
  clear hv8 hB3 hI3 hX3 H3 HSH hb4 s1 t1 h1 h2 hF hM4 hI4 HIX
  generalize hGV : w2.heap.size = gv at *
  go_wp2_with (first
    | (at_range; refine wpList_range_own _ rfl _ 48 rfl 3 61 k3 Tryz.underlying48 rawE b1 S.length _ rfl o1 ?_; intro w0 hrg0 hg0 hs0)
    | go_in)
  go_frame
  have hB0 : Below w4.heap.size w4 w0 := (Below.refl _ _).grown hg0 (Nat.le_refl _) (fun j hj => by cases hj)
  have hC0 : CRem (isCand q pc) S (Maps.has D) [] S := CRem.start _ HIL.out.nd HLF.out
  have hO0 : OwnL 3 1 nenc w4.heap.size [] (.slice none 0 0) w0 := OwnL.nil _ _
  clear hg0 hs0 o1 hx0
  generalize hr0 : w4.heap.size = r0 at *
  go_loopw [10] (fun v wr => ∃ (left : Lit → Bool) (cnt : Nat) (L : List Int) (rem : List Sto), wr.ranges Tryz.prog 3 rawE b1 r0 S.length D left cnt ∧ Below r0 w4 wr ∧ OwnL 3 1 nenc r0 L v wr ∧ Aside (CRem (isCand q pc) S left L rem))
    (fun _ wr => wr.rangeLeft b1 r0)
  case atStart => exact ⟨_, _, [], S, hrg0, hB0, hO0, hC0⟩
  case round =>
    clear hrg0 hB0 hO0 hC0
    obtain ⟨left, cnt, L, rem, hrg, hB, hO, G2⟩ := hrel
    have hleft := hrg.left_eq
    go_wp2_with (first
      | (at_next; refine wpList_next_ranges _ rfl _ rfl 3 k3 rawE id id (fun key _ _ => ⟨key, rfl⟩) (fun v _ _ => ⟨v, rfl⟩) b1 r0 S.length _ _ _ rfl hrg ?_ ?_)
      | go_in)
    · intro _ hl0
      have hd := G2.out.done (fun s hs => (HIL.out.ok s hs).2) hl0
      have hS := sortN_any u10 L wr hO (by have := G2.out.len; omega)
      rw [hd] at hS
      have HS := Lib.hid hS; have HB4 := Lib.hid hB4; have HBr := Lib.hid (And.intro hB hO)
      clear hd hS hB4 hB hO hrg G2 hleft
      go_wp2_with fail
      refine HS.out.mono ?_; rintro e w9 ⟨rfl, hO9, hg9⟩
      have HO9 := Lib.hid (And.intro hO9 hg9)
      clear hO9 hg9
      go_wp2_with fail
      go_ret
      obtain ⟨hO9, hg9⟩ := HO9.out
      obtain ⟨hBr, hOr⟩ := HBr.out
      have hs4 : w.heap.size ≤ r0 := by rw [← hr0]; exact HB4.out.size
      have hsr : r0 ≤ wr.heap.size := by rw [← hr0]; exact hBr.size
      exact ⟨_, rfl, (HB4.out.trans (hBr.mono hs4)).trans ((Below.refl r0 wr).grown hg9 hsr (fun j hj => (hOr.lt j hj).1) |>.mono hs4), ownsRow_base hO9 hs4⟩
    · intro x0 cc kl yd yp w5 cnt1 hkey hlx hv hat hrg1 hlt1 hg1 hs1 hen
      obtain ⟨s1, t1⟩ := HST.out
      have hh := has_true_of_atKey hat
      obtain ⟨y, hyk⟩ := t1 kl hh
      have hxy : x0 = vInt y := k3.inj hkey hyk
      have hsy := s1 y kl hyk
      cases hf : LS y with
      | none => rw [hf] at hsy; rw [show Maps.has _ _ = false from hsy.1] at hh; cases hh
      | some u =>
        rw [hf] at hsy
        have hcc : cc = u.v := by
          have h1 := hat .nil
          rw [hsy.2 .nil] at h1
          have h2 : some (DataW.held cc, ([] : List MemPlace)) = some (yd, yp) := hv
          injection h2 with h2
          injection h2 with h2 _
          rw [← h2] at h1
          injection h1 with h1
          exact h1.symm
        subst hcc; subst hxy
        have hlk : lkS S y = some u.l := by rw [← HIL.out.eq y, hf]; rfl
        obtain ⟨hok, hwf⟩ := HIL.out.ok _ (lkS_mem hlk)
        have hwf' : (Lit.int .i64 y).wf = true := hwf
        have hkl : kl = .int .i64 y := by
          have e := key_int hwf'
          rw [e] at hyk; injection hyk with e; exact e.symm
        subst hkl
        obtain ⟨hnx, hLl⟩ := G2.out.next HIL.out.nd hwf' hlx hlk
        obtain ⟨i1, i2, i3, _⟩ := HIL.out.its y u hf
        have hsr : r0 ≤ wr.heap.size := by rw [← hr0]; exact hB.size
        have hB5 : Below r0 w4 w5 := hB.grown hg1 hsr (fun j hj => by cases hj; exact Nat.le_refl _)
        have hO5 : OwnL 3 1 nenc r0 L u10 w5 := OwnL.keepAt hO (fun k hk => hg1.block k (World.ownsRow.lt hO k hk).2 (fun e => row_ne_iter hO hrg (by rw [hk]; exact e.symm)))
        have hB5' : Below w4.heap.size w4 w5 := by rw [hr0]; exact hB5
        have hen' : (Instr.entry (.pointer (some ⟨r0, 0, none⟩))).run Tryz.prog w5 = .ok (.tuple #[.int .i64 y, .agg #[.slice u.p u.l.length u.c, .int .i64 (wtL u.l : Nat), .int .i64 ((pw u.l).length : Nat)]]) w5 := hen
        have hFy := HF.out y hwf'
        rw [shK_all, hlk] at hFy
        have hFy' : numT (f y) = ((shN (pw q) (pw u.l) : Nat) : Int) := hFy
        have hM5 := HM4.out.call hB5'
        have hcd : isCand q pc u.l = decide (((bouN q u.l : Nat) : Int) ≤ alw (max (wtL q : Int) (wtL u.l : Int)) pc) := by
          unfold isCand tot; rw [show ((max (wtL q) (wtL u.l) : Nat) : Int) = max (wtL q : Int) (wtL u.l : Int) by omega]
        have hv5 : w5.heap[gv]? = _ := (hB5'.block _ (by omega)).trans hv84
        have hI5 := HI4.out.call hB5'
        have hS5 := i1.call hB5'
        have hvn := heap_alloc_new w5 (.cells #[.slice u.p u.l.length u.c, .int .i64 (wtL u.l : Nat), .int .i64 ((pw u.l).length : Nat)] 61)
        have hb6 : Below w5.heap.size w5 (w5.alloc (.cells #[.slice u.p u.l.length u.c, .int .i64 (wtL u.l : Nat), .int .i64 ((pw u.l).length : Nat)] 61)) := blw (Below.refl _ _) _
        have hlt5 : gv < w5.heap.size := (Array.getElem?_eq_some_iff.1 hv5).1
        have hv6 : (w5.alloc (.cells #[.slice u.p u.l.length u.c, .int .i64 (wtL u.l : Nat), .int .i64 ((pw u.l).length : Nat)] 61)).heap[gv]? = _ := (hb6.block _ hlt5).trans hv5
        have hrg6 := hrg1.alloc (.cells #[.slice u.p u.l.length u.c, .int .i64 (wtL u.l : Nat), .int .i64 ((pw u.l).length : Nat)] 61)
        have hB6 : Below r0 w4 (w5.alloc (.cells #[.slice u.p u.l.length u.c, .int .i64 (wtL u.l : Nat), .int .i64 ((pw u.l).length : Nat)] 61)) := hB5.trans (hb6.mono (by rw [← hr0]; exact hB5'.size))
        have hO6 : OwnL 3 1 nenc r0 L u10 (w5.alloc (.cells #[.slice u.p u.l.length u.c, .int .i64 (wtL u.l : Nat), .int .i64 ((pw u.l).length : Nat)] 61)) := World.ownsRow.alloc hO5 _
        have hM6 := hM5.call hb6
        have HY := Lib.hid (And.intro hrg6 (And.intro hB6 (And.intro hO6 (And.intro hM6 (And.intro (hI5.call hb6) (hS5.call hb6))))))
        have HVN := Lib.hid (And.intro hvn hv6); have HV5 := Lib.hid hv5
        have HNX := Lib.hid (And.intro hnx hLl)
        have HCD := Lib.hid hcd; have HOK := Lib.hid hok; have HFY := Lib.hid hFy'; have HW := Lib.hid hwf'
        have HB4 := Lib.hid hB4
        have hwu := wtL_le u.l
        have hul := hok.len
        clear hv hen hat hsy hg1 hrg1 hrg hs1 s1 t1 hh hkey hyk hlx hlk hnx hO hB hB5 hB5' hO5 hM5 hv5 hI5 hS5 hvn hb6 hv6 hrg6 hB6 hO6 hM6 hcd hok hFy hFy' hwf hwf' hf G2 i1 hB4 hv84 hLl
        have z0 : w5.cell? ⟨gv, 0, none⟩ = some (.slice p q.length c) := by rw [Lib.cell_of_heap HV5.out]; rfl
        have z1 : w5.cell? ⟨gv, 1, none⟩ = some (.int .i64 (wtL q : Nat)) := by rw [Lib.cell_of_heap HV5.out]; rfl
        have z2 : w5.cell? ⟨gv, 2, none⟩ = some (.int .i64 ((pw q).length : Nat)) := by rw [Lib.cell_of_heap HV5.out]; rfl
        have HWI := Lib.hid (fun W h1 h2 al => within_any p u.p c u.c q u.l W h1 h2 hc i2 hm i3 HL.out HOK.out al)
        go_wp2_with fail
        refine (allowed_any _ _ _).mono ?_; rintro e w7 ⟨rfl, rfl⟩
        obtain ⟨hvn, hv6⟩ := HVN.out
        obtain ⟨hrg6, hB6, hO6, hM6, hI6, hS6⟩ := HY.out
        clear z0 z1 z2 HVN HY HV5
        generalize (w5.alloc (.cells #[.slice u.p u.l.length u.c, .int .i64 (wtL u.l : Nat), .int .i64 ((pw u.l).length : Nat)] 61)) = w6 at *
        have z0 : w6.cell? ⟨gv, 0, none⟩ = some (.slice p q.length c) := by rw [Lib.cell_of_heap hv6]; rfl
        have z1 : w6.cell? ⟨gv, 1, none⟩ = some (.int .i64 (wtL q : Nat)) := by rw [Lib.cell_of_heap hv6]; rfl
        have z2 : w6.cell? ⟨gv, 2, none⟩ = some (.int .i64 ((pw q).length : Nat)) := by rw [Lib.cell_of_heap hv6]; rfl
        have y0 : w6.cell? ⟨w5.heap.size, 0, none⟩ = some (.slice u.p u.l.length u.c) := by rw [Lib.cell_of_heap hvn]; rfl
        have y1 : w6.cell? ⟨w5.heap.size, 1, none⟩ = some (.int .i64 (wtL u.l : Nat)) := by rw [Lib.cell_of_heap hvn]; rfl
        have y2 : w6.cell? ⟨w5.heap.size, 2, none⟩ = some (.int .i64 ((pw u.l).length : Nat)) := by rw [Lib.cell_of_heap hvn]; rfl
        have hl1 := hM6.look (T := 63) k3 Tryz.underlying63 (z := vInt 0) (zeroT _) (key_int HW.out)
        rw [pick_num, HFY.out] at hl1
        have hl2 : (Instr.lookup 63 (.map (some B)) (.int .i64 y) false).run Tryz.prog w6 = .ok (.int .i64 ((shN (pw q) (pw u.l) : Nat) : Int)) w6 := hl1
        have HZ := Lib.hid (And.intro hrg6 (And.intro hB6 hO6))
        have HW6 := Lib.hid (HWI.out w6 hI6 hS6 (alw (max (wtL q : Int) (wtL u.l : Int)) pc))
        clear hvn hv6 hrg6 hB6 hO6 hM6 hI6 hS6 hl1 HWI
        generalize w5.heap.size = nv at *
        go_wp2_with fail
        refine HW6.out.mono ?_; rintro e w8 ⟨rfl, hb8⟩
        rw [← HCD.out]
        obtain ⟨hrg6, hB6, hO6⟩ := HZ.out
        have hrg8 := hrg6.kept (grow_below hb8 none) (by simp) (by simp)
        have hB8 : Below r0 w4 w8 := hB6.trans (hb8.mono (by have := hB6.size; omega))
        have hO8 : OwnL 3 1 nenc r0 L u10 w8 := OwnL.call hO6 hb8
        have hs8 : r0 ≤ w8.heap.size := by have := hB8.size; omega
        have HZ8 := Lib.hid (And.intro hrg8 (And.intro hB8 hO8))
        clear hrg6 hB6 hO6 hrg8 hB8 hO8 HZ z0 z1 z2 y0 y1 y2 hl2 hb8 HW6
        cases hq : isCand q pc u.l with
        | true =>
          obtain ⟨hrg8, hB8, hO8⟩ := HZ8.out
          obtain ⟨hnx, hLl⟩ := HNX.out
          rw [hq, if_pos rfl] at hnx
          have hlo := hO8.lt
          have HLL := Lib.hid (show L.length ≤ 100000 by omega)
          have HN2 := Lib.hid hnx
          clear hnx HNX hLl HZ8
          go_wp2_with (at_builtin; refine wpl_app eN _ rfl _ _ rfl r0 L _ rfl (World.ownsRow.alloc hO8 _) (by simp; omega) y _ _ rfl (heap_alloc_new _ _) rfl (by have := HLL.out; omega) (by have := HLL.out; unfold maxLen; omega) ?_; intro g9 cap9 w9 hown9 hg9 hloc9)
          have hrg9 := (hrg8.alloc _).kept hg9 (row_ne_low hO8 (by omega)) (fun e => row_ne_iter hO8 hrg8 e)
          have hB9 : Below r0 w4 w9 := (hB8.trans ((Below.refl r0 w8).alloc hs8 _)).grown hg9 (by simp; omega) (fun j hj => (hlo j hj).1)
          have HY9 := Lib.hid (And.intro hrg9 (And.intro hB9 hown9))
          clear hrg9 hB9 hown9 hg9 hloc9 hrg8 hB8 hO8 hlo
          go_wp2_with fail
          obtain ⟨hrg9, hB9, hown9⟩ := HY9.out
          refine ⟨⟨_, cnt1, L ++ [y], dlS rem y, hrg9, hB9, ?_, HN2.out⟩, ?_⟩
          · exact hown9
          · rw [hrg9.left_eq, hleft]; exact hlt1
        | false =>
          obtain ⟨hnx, hLl⟩ := HNX.out
          rw [hq, if_neg (by simp)] at hnx
          have HN2 := Lib.hid hnx
          clear hnx HNX hLl
          go_wp2_with fail
          obtain ⟨hrg8, hB8, hO8⟩ := HZ8.out
          refine ⟨⟨_, cnt1, L, dlS rem y, hrg8, hB8, hO8, HN2.out⟩, ?_⟩
          rw [hrg8.left_eq, hleft]; exact hlt1
end Go.Proofs.YthfgpagmepdblaaGreat
namespace Go.Proofs.YthfgpagmepdblaaGreat
open Go.ChangeShapes Go.WideShapes Go.ChangeAt Go.RowKit Go.Sort
set_option linter.unusedVariables false
set_option linter.unusedSimpArgs false
set_option maxRecDepth 100000

/-- A short list of tokens with all that the bounds ask. -/
structure Br (W : World) (p : Option Addr) (c : Nat) (A : List It) : Prop where
  its : Its W p A
  le : A.length ≤ c
  cm : c ≤ maxLen
  len : A.length ≤ 100
  ok : ∀ x ∈ A, (Lit.int .i64 x.k).wf = true ∧ x.t.size ≤ 1000
theorem Br.call {W W' : World} {p : Option Addr} {c : Nat} {A : List It} (h : Br W p c A) (hb : RowKit.Below W.heap.size W W') : Br W' p c A := ⟨h.its.call hb, h.le, h.cm, h.len, h.ok⟩
theorem Br.txt {W : World} {p : Option Addr} {c : Nat} {A : List It} (h : Br W p c A) : txtsB A := fun x hx => (h.ok x hx).2
theorem wf_kind {k : Int} (h : 2 ≤ k ∧ k ≤ 9) : (Lit.int .i64 k).wf = true := by
  have : k = 2 ∨ k = 3 ∨ k = 4 ∨ k = 5 ∨ k = 6 ∨ k = 7 ∨ k = 8 ∨ k = 9 := by omega
  rcases this with rfl | rfl | rfl | rfl | rfl | rfl | rfl | rfl <;> decide
theorem br_made {w w' : World} {L : List Int} {n : Nat} (hn : n ≤ 40) {e : Ending} (h : EndT (mkD L n) w e w') : ∃ p c, e = .returned (.slice p (mkD L n).length c) ∧ Br w' p c (mkD L n) ∧ RowKit.Below w.heap.size w w' := by
  obtain ⟨p, c, he, h1, h2, h3, h4⟩ := h.f
  exact ⟨p, c, he, ⟨h3, h1, h2, Nat.le_trans (mkD_len L n) (by omega), fun x hx => ⟨wf_kind (mkD_kind L n x hx), mkD_txt L n x hx⟩⟩, h4⟩
theorem br_near {w w' : World} {M : List Int} {l : List It} (hl : l.length ≤ 40) (hx : ∀ x ∈ l, x.t.size ≤ 900) (hk : kindV l) {e : Ending} (h : EndT (nearL M l) w e w') : ∃ p c, e = .returned (.slice p (nearL M l).length c) ∧ Br w' p c (nearL M l) ∧ RowKit.Below w.heap.size w w' := by
  obtain ⟨p, c, he, h1, h2, h3, h4⟩ := h.f
  exact ⟨p, c, he, ⟨h3, h1, h2, Nat.le_trans (nearL_len M l) (by omega), fun x hx2 => ⟨wf_kind (nearL_kind M l hk x hx2), nearL_txt M l hx x hx2⟩⟩, h4⟩
end Go.Proofs.YthfgpagmepdblaaGreat
namespace Go.Proofs.YthfgpagmepdblaaGreat
open Go.ChangeShapes Go.WideShapes Go.ChangeAt Go.RowKit Go.Maps
set_option linter.unusedVariables false
set_option linter.unusedSimpArgs false
set_option maxRecDepth 100000

theorem lok_of (l : List It) (hl : l.length ≤ 100) (h : l.all (fun x => (Lit.int .i64 x.k).wf && decide (x.t.size ≤ 1000)) = true) : LOk l := ⟨hl, fun x hx => by
  have := List.all_eq_true.1 h x hx
  simpa using this⟩
theorem ones_litN {W : World} {B : Nat} {cs : Array Value} {fr : Nat × Nat} {l : List Int} (h : W.heap[B]? = some (.cells cs 3 fr)) (hc : cs.toList = l.map (Value.int .i64)) : Ones W (Value.int .i64) (some ⟨B, 0, none⟩) l := fun h0 => by
  refine ⟨_, rfl, (Array.getElem?_eq_some_iff.1 h).1, fun i hi => ?_⟩
  rw [addr0, Lib.cell_of_heap h]
  show cs[i]? = _
  rw [← Array.getElem?_toList, hc, List.getElem?_map, List.getElem?_eq_getElem hi]; rfl
theorem kCand : cand (isCand rcsT 44) [⟨7, rcT⟩] = [7] := by decide +kernel
theorem kCand2 : cand (isCand rcsT 101) [⟨7, rcT⟩] = [] := by decide +kernel
theorem EndT.g {L : List It} {w w' : World} {e : Ending} (h : EndT L w e w') : ∃ p c, e = .returned (.slice p L.length c) ∧ L.length ≤ c ∧ c ≤ maxLen ∧ Its w' p L ∧ Below w.heap.size w w' ∧ ∀ a, p = some a → w.heap.size ≤ a.block ∧ a.block < w'.heap.size := by
  obtain ⟨v, rfl, hA⟩ := h
  have hlt := hA.own.lt
  obtain ⟨p, c, rfl, h1, h2, h3⟩ := OwnT.its hA.own
  exact ⟨p, c, rfl, h1, h2, h3, hA.below, fun a ha => hlt a.block (by rw [ha]; rfl)⟩
theorem Kept.belowR {R : Nat → Prop} {w w' : World} {B : Nat} (h : Kept R w w') (hB : B ≤ w.heap.size) (hf : ∀ k, R k → B ≤ k) : Below B w w' := h.toBelow hB hf
set_option maxHeartbeats 6400000 in
theorem iknown_any (w : World) : Calls Tryz.prog 5 #[] w fun e w' => e = .returned (.bool true) ∧ Below w.heap.size w w' := by
  have t1 : ∀ W a, Its W a rc → Calls Tryz.prog 14 #[.slice a 1 1] W fun e w' => ∃ p c, e = .returned (.slice p 3 c) ∧ 3 ≤ c ∧ c ≤ maxLen ∧ Its w' p rcT ∧ Below W.heap.size W w' ∧ ∀ a, p = some a → W.heap.size ≤ a.block ∧ a.block < w'.heap.size := fun W a h => by
    have := rtokens_any a 1 rc W h (by decide) (by decide) (by decide)
    rw [rc_toks] at this
    exact this.mono fun _ _ x => EndT.g x
  have t2 : ∀ W a, Its W a rcs → Calls Tryz.prog 14 #[.slice a 1 1] W fun e w' => ∃ p c, e = .returned (.slice p 3 c) ∧ 3 ≤ c ∧ c ≤ maxLen ∧ Its w' p rcsT ∧ Below W.heap.size W w' ∧ ∀ a, p = some a → W.heap.size ≤ a.block ∧ a.block < w'.heap.size := fun W a h => by
    have := rtokens_any a 1 rcs W h (by decide) (by decide) (by decide)
    rw [rcs_toks] at this
    exact this.mono fun _ _ x => EndT.g x
  have l1 : LOk rcT := lok_of _ (by decide) (by decide +kernel)
  have l2 : LOk rcsT := lok_of _ (by decide) (by decide +kernel)
  have a1 : ∀ (W : World) (X : Nat) (R : Nat → Prop), Ix W X R 0 [] → ∀ p c, Its W p rcT → 3 ≤ c → c ≤ maxLen → Calls Tryz.prog 15 #[.pointer (some ⟨X, 0, none⟩), .int .i64 7, .slice p 3 c] W fun e w' => e = .returned (.bool true) ∧ IxEnd W X 1000 R [⟨7, rcT⟩] w' := fun W X R h p c hI hc hm => add_any h (by decide) hI hc hm l1 (by omega)
  have a2 : ∀ (W : World) (X : Nat) (R : Nat → Prop), Ix W X R 1000 [⟨7, rcT⟩] → ∀ p c, Its W p rcsT → 3 ≤ c → c ≤ maxLen → Calls Tryz.prog 15 #[.pointer (some ⟨X, 0, none⟩), .int .i64 7, .slice p 3 c] W fun e w' => e = .returned (.bool false) ∧ IxEnd W X 2000 R [⟨7, rcT⟩] w' := fun W X R h p c hI hc hm => add_any h (by decide) hI hc hm l2 (by omega)
  have k1 : ∀ (W : World) (X : Nat) (R : Nat → Prop), Ix W X R 2000 [⟨7, rcT⟩] → ∀ p c, Its W p rcsT → 3 ≤ c → c ≤ maxLen → Calls Tryz.prog 12 #[.pointer (some ⟨X, 0, none⟩), .slice p 3 c, .int .i64 44] W fun e w' => ∃ p c, e = .returned (.slice p 1 c) ∧ 1 ≤ c ∧ c ≤ maxLen ∧ Ones w' (Value.int .i64) p [7] ∧ Below W.heap.size W w' := fun W X R h p c hI hc hm => by
    have := cand_any h hI hc hm l2 44 (by omega) (by simp)
    rw [kCand] at this
    exact this.mono fun _ _ x => EndN.f x
  have k2 : ∀ (W : World) (X : Nat) (R : Nat → Prop), Ix W X R 2000 [⟨7, rcT⟩] → ∀ p c, Its W p rcsT → 3 ≤ c → c ≤ maxLen → Calls Tryz.prog 12 #[.pointer (some ⟨X, 0, none⟩), .slice p 3 c, .int .i64 101] W fun e w' => ∃ p c, e = .returned (.slice p 0 c) ∧ 0 ≤ c ∧ c ≤ maxLen ∧ Ones w' (Value.int .i64) p [] ∧ Below W.heap.size W w' := fun W X R h p c hI hc hm => by
    have := cand_any h hI hc hm l2 101 (by omega) (by simp)
    rw [kCand2] at this
    exact this.mono fun _ _ x => EndN.f x
  have T1 := Lib.hid t1; have T2 := Lib.hid t2
  have A1 := Lib.hid a1; have A2 := Lib.hid a2; have K1 := Lib.hid k1; have K2 := Lib.hid k2
  clear t1 t2 a1 a2 k1 k2 l1 l2
  go_enter Tryz.func5, Tryz.ntmps5
  go_wp2_with fail
  refine (new_any w).mono ?_; rintro e w1 ⟨rfl, hX, hb1⟩
  generalize hXE : w.heap.size + 2 = X at *
  have HX1 := Lib.hid hX; have HB1 := Lib.hid hb1
  clear hX hb1
  go_wp2_with fail
  have hb2 : Below w1.heap.size w1 _ := blw (Below.refl _ _) (.cells (icells rc).toArray 45)
  have hI2 : Its _ _ rc := Its.lit (heap_alloc_new w1 (.cells (icells rc).toArray 45)) rfl
  refine (T1.out _ _ hI2).mono ?_; rintro e w2 ⟨p2, c2, rfl, hc2, hm2, hI2, hb3, hp2⟩
  have HX2 := Lib.hid ((HX1.out.call hb2).call hb3); have HB2 := Lib.hid (BelowOn (BelowOn HB1.out hb2) hb3); have HT2 := Lib.hid hI2
  have hs2 : w1.heap.size ≤ w2.heap.size := (BelowOn hb2 hb3).size
  clear hb2 hb3 hI2
  go_wp2_with fail
  have hb4 : Below w2.heap.size w2 _ := blw (Below.refl _ _) (.cells (icells rcs).toArray 45)
  have hI3 : Its _ _ rcs := Its.lit (heap_alloc_new w2 (.cells (icells rcs).toArray 45)) rfl
  refine (T2.out _ _ hI3).mono ?_; rintro e w3 ⟨p3, c3, rfl, hc3, hm3, hI3, hb5, hp3⟩
  replace hp3 : ∀ a, p3 = some a → w2.heap.size ≤ a.block ∧ a.block < w3.heap.size := fun a ha => ⟨Nat.le_trans hb4.size (hp3 a ha).1, (hp3 a ha).2⟩
  have HX3 := Lib.hid ((HX2.out.call hb4).call hb5); have HB3 := Lib.hid (BelowOn (BelowOn HB2.out hb4) hb5)
  have HT3 := Lib.hid ((HT2.out.call hb4).call hb5); have HT4 := Lib.hid hI3
  have hs3 : w2.heap.size ≤ w3.heap.size := (BelowOn hb4 hb5).size
  clear hb4 hb5 hI3
  go_wp2_with fail
  have HP3 := Lib.hid hp3
  have HLT := Lib.hid HX1.out.lt
  have hs1 : w.heap.size ≤ w1.heap.size := HB1.out.size
  refine (A1.out _ _ _ HX3.out _ _ HT3.out hc2 hm2).mono ?_; rintro e w4 ⟨rfl, R4, hX4, hR4, hK4⟩
  have hn4 : ∀ k, R4 k → w.heap.size ≤ k ∧ ∀ a, p3 = some a → k ≠ a.block := fun k hk => by
    rcases hR4 k hk with c | c
    · exact ⟨c.1, fun a ha e => by have := (HP3.out a ha).1; have := c.2; omega⟩
    · exact ⟨by omega, fun a ha e => by have := (HP3.out a ha).2; omega⟩
  have hT5 := HT4.out.kept hK4 (fun _ a ha c => by have := (HP3.out a ha).1; have := c.2; omega)
  have HB4 := Lib.hid (HB3.out.trans (hK4.toBelow (B := w.heap.size) (by omega) (fun k hk => hk.1)))
  have HX4 := Lib.hid hX4; have HN4 := Lib.hid hn4; have HT5 := Lib.hid hT5
  have hs4 : w3.heap.size ≤ w4.heap.size := hK4.size
  clear hX4 hR4 hK4 hn4 hT5 hp2 hp3 HX3 HT3 HT4 HX2 HX1 HT2
  go_wp2_with fail
  refine (A2.out _ _ _ HX4.out _ _ HT5.out hc3 hm3).mono ?_; rintro e w5 ⟨rfl, R5, hX5, hR5, hK5⟩
  have hT6 := HT5.out.kept hK5 (fun _ a ha c => (HN4.out _ c).2 a ha rfl)
  have HB5 := Lib.hid (HB4.out.trans (hK5.toBelow (B := w.heap.size) (by omega) (fun k hk => (HN4.out k hk).1)))
  have HX5 := Lib.hid hX5; have HT6 := Lib.hid hT6
  clear hX5 hR5 hK5 hT6 HX4 HT5
  go_wp2_with fail
  refine (len_any HX5.out).mono ?_; rintro e w6 ⟨rfl, rfl⟩
  go_wp2_with fail
  refine (K1.out _ _ _ HX5.out _ _ HT6.out hc3 hm3).mono ?_; rintro e w7 ⟨p7, c7, rfl, hc7, hm7, hO7, hb7⟩
  have HX7 := Lib.hid (HX5.out.call hb7); have HB7 := Lib.hid (HB5.out.trans (hb7.mono HB5.out.size)); have HT7 := Lib.hid (HT6.out.call hb7)
  have HO7 := Lib.hid hO7
  clear hO7 hb7 HX5 HT6
  go_wp2_with fail
  have hb8 : Below w7.heap.size w7 _ := blw (Below.refl _ _) (.cells #[.int .i64 7] 3)
  have hO8 : Ones _ (Value.int .i64) _ [7] := ones_litN (l := [7]) (heap_alloc_new w7 (.cells #[.int .i64 7] 3)) rfl
  have hS := sameints_any p7 (some ⟨w7.heap.size, 0, none⟩) c7 1 [7] [7] _ (HO7.out.call hb8) hO8 hc7 (by decide) hm7 (by decide)
  have hS2 : Calls Tryz.prog 11 #[.slice p7 1 c7, .slice (some ⟨w7.heap.size, 0, none⟩) 1 1] _ fun e w' => e = .returned (.bool true) ∧ _ := hS
  refine hS2.mono ?_; rintro e w8 ⟨rfl, hb9⟩
  have HX8 := Lib.hid ((HX7.out.call hb8).call hb9); have HB8 := Lib.hid (HB7.out.trans ((BelowOn hb8 hb9).mono HB7.out.size)); have HT8 := Lib.hid ((HT7.out.call hb8).call hb9)
  clear hS hS2 hb8 hb9 hO8 HX7 HT7
  go_wp2_with fail
  refine (K2.out _ _ _ HX8.out _ _ HT8.out hc3 hm3).mono ?_; rintro e w9 ⟨p9, c9, rfl, hc9, hm9, hO9, hb10⟩
  have HB9 := Lib.hid (HB8.out.trans (hb10.mono HB8.out.size))
  clear hO9 hb10
  go_wp2_with fail
  go_ret
  exact ⟨rfl, HB9.out⟩
end Go.Proofs.YthfgpagmepdblaaGreat
