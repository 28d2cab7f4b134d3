/- addMember. -/
import Derived.Test.YtdnofpllmhnacaaRnd
namespace Go.Proofs.Ytdnofpllmhnacaa
open Go.ChangeShapes Go.WideShapes Go.ChangeAt Go.RowKit Go.Sort
set_option linter.unusedVariables false
set_option linter.unusedSimpArgs false
set_option maxRecDepth 100000

theorem or_range (S : BSet) (a z : Nat) : orS S (rangeS emptyS a z) = rangeS S a z := by
  funext c; unfold orS rangeS emptyS; simp
/-- What addMember answers. -/
def MbEnd (R B : Nat) (s : ByteArray) (S : BSet) (w : World) (r : Option BSet × Nat) (e : Ending) (w' : World) : Prop :=
  e = .returned (.bool r.1.isSome) ∧ Gr [R, B] w w' ∧ RD R s r.2 w' ∧ SAtT 55 B (match r.1 with | some U => orS S U | none => S) w'
theorem Gr.mono {l m : List Nat} {w w' : World} (h : Gr l w w') (hs : ∀ x, x ∈ l → x ∈ m) : Gr m w w' := ⟨h.os, h.tape, h.output, h.size, fun k hk hn => h.block k hk (fun hx => hn (hs k hx))⟩
theorem Gr.ofR {R B : Nat} {w w' : World} (h : Gr [R] w w') : Gr [R, B] w w' := h.mono (by simp)
/-- What holds on the way: the reader, the set, the rest as it was. -/
structure MW (R B : Nat) (s : ByteArray) (S : BSet) (w : World) (m : Nat) (W : World) : Prop where
  rd : RD R s m W
  st : SAtT 55 B S W
  gr : Gr [R, B] w W
  ne : R ≠ B
theorem MW.call {R B m k : Nat} {s : ByteArray} {S : BSet} {w W W' : World} (h : MW R B s S w m W) (g : Gr [R] W W') (r : RD R s k W') : MW R B s S w k W' :=
  ⟨r, h.st.gr g (by simp; exact fun e => h.ne e.symm), h.gr.trans g.ofR, h.ne⟩
theorem MW.below {R B m : Nat} {s : ByteArray} {S : BSet} {w W W' : World} (h : MW R B s S w m W) (g : Below W.heap.size W W') : MW R B s S w m W' :=
  ⟨h.rd.call g, h.st.call g, h.gr.below g, h.ne⟩
theorem MW.other {R B m k : Nat} {s : ByteArray} {S : BSet} {w W W' : World} (h : MW R B s S w m W) (g : W.grownBy W' (some k)) (hk : w.heap.size ≤ k) (hR : R < w.heap.size) (hB : B < w.heap.size) : MW R B s S w m W' :=
  ⟨h.rd.keep (Gr.of (l := [k]) g (Or.inl (by simp))) (by simp; omega), h.st.gr (Gr.of (l := [k]) g (Or.inl (by simp))) (by simp; omega), h.gr.set g (Or.inr hk), h.ne⟩
theorem MW.set {R B m : Nat} {s : ByteArray} {S T : BSet} {w W W' : World} (h : MW R B s S w m W) (g : W.grownBy W' (some B)) (hs : SAtT 55 B T W') : MW R B s T w m W' :=
  ⟨h.rd.keep (Gr.of (l := [B]) g (Or.inl (by simp))) (by simp; exact h.ne), hs, h.gr.set g (Or.inl (by simp)), h.ne⟩
theorem MW.sizes {R B m : Nat} {s : ByteArray} {S : BSet} {w W : World} (h : MW R B s S w m W) : w.heap.size ≤ W.heap.size := h.gr.size

set_option maxHeartbeats 1600000 in
theorem mb_A (R B : Nat) (s : ByteArray) (S : BSet) (n : Nat) (T : BSet) (w : World) (h : MW R B s S w n w) (hd : ndF s n = some T) :
    Calls Try.prog 60 #[.pointer (some ⟨R, 0, none⟩), .pointer (some ⟨B, 0, none⟩)] w (MbEnd R B s S w (some T, n + 2)) := by
  have hR := h.rd.lt; have hB := h.st.lt
  have hN := fun W h => rdnamed_any R s n W h
  rw [hd] at hN
  rw [show ndN s n = n + 2 by unfold ndN; rw [hd]; rfl] at hN
  have HN := Lib.hid hN; have H := Lib.hid h; clear hN h hd
  go_enter Try.func60, Try.ntmps60
  go_wp2_with fail
  refine (HN.out _ H.out.rd).mono ?_; rintro e w1 ⟨rfl, g1, r1⟩
  have m1 := H.out.call g1 r1
  have hsz := m1.sizes
  have m2 := m1.below (blw (Below.refl _ _) (.cells (List.replicate 32 (Value.int .u8 0)).toArray 55))
  have k2 := SAtT.new 55 w1
  have H2 := Lib.hid (And.intro m2 k2); clear m1 m2 k2 g1 r1
  simp only [Option.getD_some, Option.getD_none, Option.isSome_some, Option.isSome_none]
  go_upto_region 2 with (refine wpl_storeSet (by rfl) 55 (Or.inl rfl) _ _ (by rfl) w1.heap.size emptyS (T) (by rfl) (by rfl) H2.out.2 ?_; intro w2 h2 g2)
  have H3 := Lib.hid (And.intro (H2.out.1.other g2 hsz hR hB) h2); clear H2 h2 g2
  go_upto_region 3 with fail
  go_wp2_with (refine wpl_loadSet (by rfl) 55 (Or.inl rfl) _ (by rfl) w1.heap.size T (by rfl) H3.out.2 ?_)
  refine (addall_any B S T _ H3.out.1.st).mono ?_; rintro e w4 ⟨rfl, g4, h4⟩
  have m4 := H3.out.1.set (T := orS S T) g4 h4
  have H4 := Lib.hid m4; clear m4 g4 h4 H3
  go_wp2_with fail
  go_ret
  exact ⟨rfl, H4.out.gr, H4.out.rd, H4.out.st⟩
set_option maxHeartbeats 1600000 in
theorem mb_B (R B : Nat) (s : ByteArray) (S : BSet) (n : Nat) (m : Nat) (w : World) (h : MW R B s S w n w) (hd : ndF s n = none) (hr1 : rbF sgI s n = (none, m)) :
    Calls Try.prog 60 #[.pointer (some ⟨R, 0, none⟩), .pointer (some ⟨B, 0, none⟩)] w (MbEnd R B s S w (none, m)) := by
  have hR := h.rd.lt; have hB := h.st.lt
  have hN := fun W h => rdnamed_any R s n W h
  rw [hd] at hN
  rw [show ndN s n = n by unfold ndN; rw [hd]; rfl] at hN
  have hr := fun W h => rdbyte_any R s _ sgI in_in n W h
  rw [hr1] at hr
  have HN := Lib.hid hN; have H := Lib.hid h; have HR := Lib.hid hr; clear hN h hd hr
  clear hr1
  go_enter Try.func60, Try.ntmps60
  go_wp2_with fail
  refine (HN.out _ H.out.rd).mono ?_; rintro e w1 ⟨rfl, g1, r1⟩
  have m1 := H.out.call g1 r1
  have hsz := m1.sizes
  have m2 := m1.below (blw (Below.refl _ _) (.cells (List.replicate 32 (Value.int .u8 0)).toArray 55))
  have k2 := SAtT.new 55 w1
  have H2 := Lib.hid (And.intro m2 k2); clear m1 m2 k2 g1 r1
  simp only [Option.getD_some, Option.getD_none, Option.isSome_some, Option.isSome_none]
  go_upto_region 2 with (refine wpl_storeSet (by rfl) 55 (Or.inl rfl) _ _ (by rfl) w1.heap.size emptyS (emptyS) (by rfl) (by rfl) H2.out.2 ?_; intro w2 h2 g2)
  have H3 := Lib.hid (And.intro (H2.out.1.other g2 hsz hR hB) h2); clear H2 h2 g2
  go_wp2_with fail
  refine (HR.out _ H3.out.1.rd).mono ?_; rintro e w4 ⟨rfl, g4, r4⟩
  have m4 := H3.out.1.call (Gr.of (l := [R]) g4 (Or.inl (by simp))) r4
  have H4 := Lib.hid m4; clear m4 g4 r4 H3
  simp only [Option.getD_some, Option.getD_none, Option.isSome_some, Option.isSome_none]
  go_wp2_with fail
  go_ret
  exact ⟨rfl, H4.out.gr, H4.out.rd, H4.out.st⟩
set_option maxHeartbeats 1600000 in
theorem mb_C (R B : Nat) (s : ByteArray) (S : BSet) (n : Nat) (m x : Nat) (w : World) (h : MW R B s S w n w) (hd : ndF s n = none) (hr1 : rbF sgI s n = (some x, m)) (hm : pk s m ≠ 45) :
    Calls Try.prog 60 #[.pointer (some ⟨R, 0, none⟩), .pointer (some ⟨B, 0, none⟩)] w (MbEnd R B s S w (some (rangeS emptyS x x), m)) := by
  have hR := h.rd.lt; have hB := h.st.lt
  have hN := fun W h => rdnamed_any R s n W h
  rw [hd] at hN
  rw [show ndN s n = n by unfold ndN; rw [hd]; rfl] at hN
  have hr := fun W h => rdbyte_any R s _ sgI in_in n W h
  rw [hr1] at hr
  have HN := Lib.hid hN; have H := Lib.hid h; have HR := Lib.hid hr; clear hN h hd hr
  have hk := fun W h => rskip_any R s m 45 W h (by decide) (by decide)
  rw [decide_eq_false hm, show skN s m 45 = m from if_neg hm] at hk
  have HK := Lib.hid hk
  have hx := (rb_some hr1).2.2.1
  clear hk hr1 hm
  go_enter Try.func60, Try.ntmps60
  go_wp2_with fail
  refine (HN.out _ H.out.rd).mono ?_; rintro e w1 ⟨rfl, g1, r1⟩
  have m1 := H.out.call g1 r1
  have hsz := m1.sizes
  have m2 := m1.below (blw (Below.refl _ _) (.cells (List.replicate 32 (Value.int .u8 0)).toArray 55))
  have k2 := SAtT.new 55 w1
  have H2 := Lib.hid (And.intro m2 k2); clear m1 m2 k2 g1 r1
  simp only [Option.getD_some, Option.getD_none, Option.isSome_some, Option.isSome_none]
  go_upto_region 2 with (refine wpl_storeSet (by rfl) 55 (Or.inl rfl) _ _ (by rfl) w1.heap.size emptyS (emptyS) (by rfl) (by rfl) H2.out.2 ?_; intro w2 h2 g2)
  have H3 := Lib.hid (And.intro (H2.out.1.other g2 hsz hR hB) h2); clear H2 h2 g2
  go_wp2_with fail
  refine (HR.out _ H3.out.1.rd).mono ?_; rintro e w4 ⟨rfl, g4, r4⟩
  have m4 := H3.out.1.call (Gr.of (l := [R]) g4 (Or.inl (by simp))) r4
  have H4 := Lib.hid m4; clear m4 g4 r4 H3
  simp only [Option.getD_some, Option.getD_none, Option.isSome_some, Option.isSome_none]
  go_wp2_with fail
  refine (HK.out _ H4.out.rd).mono ?_; rintro e w5 ⟨rfl, g5, r5⟩
  have m5 := H4.out.call (Gr.of (l := [R]) g5 (Or.inl (by simp))) r5
  have H5 := Lib.hid m5; clear m5 g5 r5 H4
  go_wp2_with fail
  refine (addrange_any B S x x hx hx (Nat.le_refl _) _ H5.out.st).mono ?_; rintro e w6 ⟨rfl, g6, h6⟩
  have m6 := H5.out.set (T := rangeS S x x) g6 h6
  rw [← or_range] at m6
  have H6 := Lib.hid m6; clear m6 g6 h6 H5
  go_wp2_with fail
  go_ret
  exact ⟨rfl, H6.out.gr, H6.out.rd, H6.out.st⟩
set_option maxHeartbeats 1600000 in
theorem mb_D (R B : Nat) (s : ByteArray) (S : BSet) (n : Nat) (m x k : Nat) (w : World) (h : MW R B s S w n w) (hd : ndF s n = none) (hr1 : rbF sgI s n = (some x, m)) (hm : pk s m = 45) (hr2 : rbF sgI s (m + 1) = (none, k)) :
    Calls Try.prog 60 #[.pointer (some ⟨R, 0, none⟩), .pointer (some ⟨B, 0, none⟩)] w (MbEnd R B s S w (none, k)) := by
  have hR := h.rd.lt; have hB := h.st.lt
  have hN := fun W h => rdnamed_any R s n W h
  rw [hd] at hN
  rw [show ndN s n = n by unfold ndN; rw [hd]; rfl] at hN
  have hr := fun W h => rdbyte_any R s _ sgI in_in n W h
  rw [hr1] at hr
  have HN := Lib.hid hN; have H := Lib.hid h; have HR := Lib.hid hr; clear hN h hd hr
  have hk := fun W h => rskip_any R s m 45 W h (by decide) (by decide)
  rw [decide_eq_true hm, show skN s m 45 = m + 1 from if_pos hm] at hk
  have hq := fun W h => rdbyte_any R s _ sgI in_in (m + 1) W h
  rw [hr2] at hq
  have HK := Lib.hid hk; have HQ := Lib.hid hq
  have hx := (rb_some hr1).2.2.1
  clear hk hq hr1 hr2 hm
  go_enter Try.func60, Try.ntmps60
  go_wp2_with fail
  refine (HN.out _ H.out.rd).mono ?_; rintro e w1 ⟨rfl, g1, r1⟩
  have m1 := H.out.call g1 r1
  have hsz := m1.sizes
  have m2 := m1.below (blw (Below.refl _ _) (.cells (List.replicate 32 (Value.int .u8 0)).toArray 55))
  have k2 := SAtT.new 55 w1
  have H2 := Lib.hid (And.intro m2 k2); clear m1 m2 k2 g1 r1
  simp only [Option.getD_some, Option.getD_none, Option.isSome_some, Option.isSome_none]
  go_upto_region 2 with (refine wpl_storeSet (by rfl) 55 (Or.inl rfl) _ _ (by rfl) w1.heap.size emptyS (emptyS) (by rfl) (by rfl) H2.out.2 ?_; intro w2 h2 g2)
  have H3 := Lib.hid (And.intro (H2.out.1.other g2 hsz hR hB) h2); clear H2 h2 g2
  go_wp2_with fail
  refine (HR.out _ H3.out.1.rd).mono ?_; rintro e w4 ⟨rfl, g4, r4⟩
  have m4 := H3.out.1.call (Gr.of (l := [R]) g4 (Or.inl (by simp))) r4
  have H4 := Lib.hid m4; clear m4 g4 r4 H3
  simp only [Option.getD_some, Option.getD_none, Option.isSome_some, Option.isSome_none]
  go_wp2_with fail
  refine (HK.out _ H4.out.rd).mono ?_; rintro e w5 ⟨rfl, g5, r5⟩
  have m5 := H4.out.call (Gr.of (l := [R]) g5 (Or.inl (by simp))) r5
  have c1 := m5.rd.c1
  have H5 := Lib.hid m5; clear m5 g5 r5 H4
  go_wp2_with fail
  refine (HQ.out _ H5.out.rd).mono ?_; rintro e w6 ⟨rfl, g6, r6⟩
  have m6 := H5.out.call (Gr.of (l := [R]) g6 (Or.inl (by simp))) r6
  have H6 := Lib.hid m6; clear m6 g6 r6 H5 c1
  simp only [Option.getD_some, Option.getD_none, Option.isSome_some, Option.isSome_none]
  go_wp2_with fail
  go_ret
  exact ⟨rfl, H6.out.gr, H6.out.rd, H6.out.st⟩
set_option maxHeartbeats 1600000 in
theorem mb_E (R B : Nat) (s : ByteArray) (S : BSet) (n : Nat) (m x y k : Nat) (w : World) (h : MW R B s S w n w) (hd : ndF s n = none) (hr1 : rbF sgI s n = (some x, m)) (hm : pk s m = 45) (hr2 : rbF sgI s (m + 1) = (some y, k)) (hlt : y < x) :
    Calls Try.prog 60 #[.pointer (some ⟨R, 0, none⟩), .pointer (some ⟨B, 0, none⟩)] w (MbEnd R B s S w (none, m + 1)) := by
  have hR := h.rd.lt; have hB := h.st.lt
  have hN := fun W h => rdnamed_any R s n W h
  rw [hd] at hN
  rw [show ndN s n = n by unfold ndN; rw [hd]; rfl] at hN
  have hr := fun W h => rdbyte_any R s _ sgI in_in n W h
  rw [hr1] at hr
  have HN := Lib.hid hN; have H := Lib.hid h; have HR := Lib.hid hr; clear hN h hd hr
  have hk := fun W h => rskip_any R s m 45 W h (by decide) (by decide)
  rw [decide_eq_true hm, show skN s m 45 = m + 1 from if_pos hm] at hk
  have hq := fun W h => rdbyte_any R s _ sgI in_in (m + 1) W h
  rw [hr2] at hq
  have HK := Lib.hid hk; have HQ := Lib.hid hq
  have hx := (rb_some hr1).2.2.1
  have hm1 : m + 1 ≤ s.size := pk_in (by omega)
  clear hk hq hr1 hr2 hm
  have ql2 : decide (y < x) = true := decide_eq_true hlt
  go_enter Try.func60, Try.ntmps60
  go_wp2_with fail
  refine (HN.out _ H.out.rd).mono ?_; rintro e w1 ⟨rfl, g1, r1⟩
  have m1 := H.out.call g1 r1
  have hsz := m1.sizes
  have m2 := m1.below (blw (Below.refl _ _) (.cells (List.replicate 32 (Value.int .u8 0)).toArray 55))
  have k2 := SAtT.new 55 w1
  have H2 := Lib.hid (And.intro m2 k2); clear m1 m2 k2 g1 r1
  simp only [Option.getD_some, Option.getD_none, Option.isSome_some, Option.isSome_none]
  go_upto_region 2 with (refine wpl_storeSet (by rfl) 55 (Or.inl rfl) _ _ (by rfl) w1.heap.size emptyS (emptyS) (by rfl) (by rfl) H2.out.2 ?_; intro w2 h2 g2)
  have H3 := Lib.hid (And.intro (H2.out.1.other g2 hsz hR hB) h2); clear H2 h2 g2
  go_wp2_with fail
  refine (HR.out _ H3.out.1.rd).mono ?_; rintro e w4 ⟨rfl, g4, r4⟩
  have m4 := H3.out.1.call (Gr.of (l := [R]) g4 (Or.inl (by simp))) r4
  have H4 := Lib.hid m4; clear m4 g4 r4 H3
  simp only [Option.getD_some, Option.getD_none, Option.isSome_some, Option.isSome_none]
  go_wp2_with fail
  refine (HK.out _ H4.out.rd).mono ?_; rintro e w5 ⟨rfl, g5, r5⟩
  have m5 := H4.out.call (Gr.of (l := [R]) g5 (Or.inl (by simp))) r5
  have c1 := m5.rd.c1
  have H5 := Lib.hid m5; clear m5 g5 r5 H4
  go_wp2_with fail
  refine (HQ.out _ H5.out.rd).mono ?_; rintro e w6 ⟨rfl, g6, r6⟩
  have m6 := H5.out.call (Gr.of (l := [R]) g6 (Or.inl (by simp))) r6
  have H6 := Lib.hid m6; clear m6 g6 r6 H5 c1
  simp only [Option.getD_some, Option.getD_none, Option.isSome_some, Option.isSome_none]
  have c1 := H6.out.rd.c1
  have fr := Lib.frozen_of_heap H6.out.rd.var 1
  have hz := setCell_at _ R 1 _ 54 (.int .i64 ((m : Int) + 1)) H6.out.rd.var
  have g7 := grow_cell w6 R 1 (.int .i64 ((m : Int) + 1))
  have H7 := Lib.hid (And.intro hz g7); clear hz g7
  go_wp2_with fail
  go_ret
  have r7 : RD R s (m + 1) (w6.setCell ⟨R, 1, none⟩ (.int .i64 ((m : Int) + 1))) := ⟨H7.out.1, hm1, H6.out.rd.sm⟩
  have m7 := H6.out.call (Gr.of (l := [R]) H7.out.2 (Or.inl (by simp))) r7
  exact ⟨rfl, m7.gr, m7.rd, m7.st⟩
set_option maxHeartbeats 1600000 in
theorem mb_F (R B : Nat) (s : ByteArray) (S : BSet) (n : Nat) (m x y k : Nat) (w : World) (h : MW R B s S w n w) (hd : ndF s n = none) (hr1 : rbF sgI s n = (some x, m)) (hm : pk s m = 45) (hr2 : rbF sgI s (m + 1) = (some y, k)) (hge : x ≤ y) :
    Calls Try.prog 60 #[.pointer (some ⟨R, 0, none⟩), .pointer (some ⟨B, 0, none⟩)] w (MbEnd R B s S w (some (rangeS emptyS x y), k)) := by
  have hR := h.rd.lt; have hB := h.st.lt
  have hN := fun W h => rdnamed_any R s n W h
  rw [hd] at hN
  rw [show ndN s n = n by unfold ndN; rw [hd]; rfl] at hN
  have hr := fun W h => rdbyte_any R s _ sgI in_in n W h
  rw [hr1] at hr
  have HN := Lib.hid hN; have H := Lib.hid h; have HR := Lib.hid hr; clear hN h hd hr
  have hk := fun W h => rskip_any R s m 45 W h (by decide) (by decide)
  rw [decide_eq_true hm, show skN s m 45 = m + 1 from if_pos hm] at hk
  have hq := fun W h => rdbyte_any R s _ sgI in_in (m + 1) W h
  rw [hr2] at hq
  have HK := Lib.hid hk; have HQ := Lib.hid hq
  have hx := (rb_some hr1).2.2.1
  have hy := (rb_some hr2).2.2.1
  clear hk hq hr1 hr2 hm
  have ql2 : decide (y < x) = false := decide_eq_false (by omega)
  go_enter Try.func60, Try.ntmps60
  go_wp2_with fail
  refine (HN.out _ H.out.rd).mono ?_; rintro e w1 ⟨rfl, g1, r1⟩
  have m1 := H.out.call g1 r1
  have hsz := m1.sizes
  have m2 := m1.below (blw (Below.refl _ _) (.cells (List.replicate 32 (Value.int .u8 0)).toArray 55))
  have k2 := SAtT.new 55 w1
  have H2 := Lib.hid (And.intro m2 k2); clear m1 m2 k2 g1 r1
  simp only [Option.getD_some, Option.getD_none, Option.isSome_some, Option.isSome_none]
  go_upto_region 2 with (refine wpl_storeSet (by rfl) 55 (Or.inl rfl) _ _ (by rfl) w1.heap.size emptyS (emptyS) (by rfl) (by rfl) H2.out.2 ?_; intro w2 h2 g2)
  have H3 := Lib.hid (And.intro (H2.out.1.other g2 hsz hR hB) h2); clear H2 h2 g2
  go_wp2_with fail
  refine (HR.out _ H3.out.1.rd).mono ?_; rintro e w4 ⟨rfl, g4, r4⟩
  have m4 := H3.out.1.call (Gr.of (l := [R]) g4 (Or.inl (by simp))) r4
  have H4 := Lib.hid m4; clear m4 g4 r4 H3
  simp only [Option.getD_some, Option.getD_none, Option.isSome_some, Option.isSome_none]
  go_wp2_with fail
  refine (HK.out _ H4.out.rd).mono ?_; rintro e w5 ⟨rfl, g5, r5⟩
  have m5 := H4.out.call (Gr.of (l := [R]) g5 (Or.inl (by simp))) r5
  have c1 := m5.rd.c1
  have H5 := Lib.hid m5; clear m5 g5 r5 H4
  go_wp2_with fail
  refine (HQ.out _ H5.out.rd).mono ?_; rintro e w6 ⟨rfl, g6, r6⟩
  have m6 := H5.out.call (Gr.of (l := [R]) g6 (Or.inl (by simp))) r6
  have H6 := Lib.hid m6; clear m6 g6 r6 H5 c1
  simp only [Option.getD_some, Option.getD_none, Option.isSome_some, Option.isSome_none]
  go_wp2_with fail
  refine (addrange_any B S x y hx hy hge _ H6.out.st).mono ?_; rintro e w7 ⟨rfl, g7, h7⟩
  have m7 := H6.out.set (T := rangeS S x y) g7 h7
  rw [← or_range] at m7
  have H7 := Lib.hid m7; clear m7 g7 h7 H6
  go_wp2_with fail
  go_ret
  exact ⟨rfl, H7.out.gr, H7.out.rd, H7.out.st⟩
theorem addmember_any (R B : Nat) (s : ByteArray) (S : BSet) (n : Nat) (w : World) (h : MW R B s S w n w) :
    Calls Try.prog 60 #[.pointer (some ⟨R, 0, none⟩), .pointer (some ⟨B, 0, none⟩)] w (MbEnd R B s S w (mbF s n)) := by
  unfold mbF
  cases hd : ndF s n with
  | some T => exact mb_A R B s S n T w h hd
  | none =>
    dsimp only
    cases hr1 : rbF sgI s n with
    | mk x m =>
      cases x with
      | none => exact mb_B R B s S n m w h hd hr1
      | some x =>
        dsimp only
        by_cases hm : pk s m = 45
        · rw [if_pos hm]
          cases hr2 : rbF sgI s (m + 1) with
          | mk y k =>
            cases y with
            | none => exact mb_D R B s S n m x k w h hd hr1 hm hr2
            | some y =>
              dsimp only
              by_cases hlt : y < x
              · rw [if_pos hlt]; exact mb_E R B s S n m x y k w h hd hr1 hm hr2 hlt
              · rw [if_neg hlt]; exact mb_F R B s S n m x y k w h hd hr1 hm hr2 (by omega)
        · rw [if_neg hm]; exact mb_C R B s S n m x w h hd hr1 hm
end Go.Proofs.Ytdnofpllmhnacaa
