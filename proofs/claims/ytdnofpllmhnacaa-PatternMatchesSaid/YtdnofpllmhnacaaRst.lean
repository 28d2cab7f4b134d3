/- readSet. -/
import Derived.Test.YtdnofpllmhnacaaMbs
namespace Go.Proofs.Ytdnofpllmhnacaa
open Go.ChangeShapes Go.WideShapes Go.ChangeAt Go.RowKit Go.Sort
set_option linter.unusedVariables false
set_option linter.unusedSimpArgs false
set_option maxRecDepth 100000
theorem not_empty : notS emptyS = allS := by funext c; rfl

set_option maxHeartbeats 1600000 in
theorem st_A (R : Nat) (s : ByteArray) (n : Nat)  (w : World) (h : RD R s n w) (he : pk s n = 46) :
    Calls Try.prog 33 #[.pointer (some ⟨R, 0, none⟩)] w (NdEnd R s w (some allS) (n + 1)) := by
  have hR := h.lt
  have ho := blw (Below.refl w.heap.size w) (.cells (List.replicate 32 (Value.int .u8 0)).toArray 55)
  have h0 : MW R w.heap.size s emptyS (w.alloc (.cells (List.replicate 32 (Value.int .u8 0)).toArray 55)) n (w.alloc (.cells (List.replicate 32 (Value.int .u8 0)).toArray 55)) :=
    ⟨h.call ho, SAtT.new 55 w, Gr.refl _ _, by omega⟩
  have hback : ∀ W, Gr [R, w.heap.size] (w.alloc (.cells (List.replicate 32 (Value.int .u8 0)).toArray 55)) W → Gr [R] w W := fun W g =>
    ((Gr.ofB (l := [R]) ho).less (x := w.heap.size) (g.mono (by simp)) (Nat.le_refl _))
  have hk := fun W h => rskip_any R s n 46 W h (by decide) (by decide)
  rw [decide_eq_true he, show skN s n 46 = n + 1 from if_pos he] at hk
  have HI := Lib.hid (fun W => inverse_any emptyS W)
  rw [not_empty] at HI
  have HK := Lib.hid hk; have H0 := Lib.hid h0; have HB := Lib.hid hback; clear hk h0 hback ho he
  go_enter Try.func33, Try.ntmps33
  go_wp2_with fail
  refine (HK.out _ H0.out.rd).mono ?_; rintro e w1 ⟨rfl, g1, r1⟩
  have m1 := H0.out.call (Gr.of (l := [R]) g1 (Or.inl (by simp))) r1
  have H1 := Lib.hid m1; clear m1 g1 r1 H0
  generalize w.alloc (.cells (List.replicate 32 (Value.int .u8 0)).toArray 55) = wz at *
  go_upto_region 2 with fail
  go_wp2_with (refine wpl_loadSet (by rfl) 55 (Or.inl rfl) _ (by rfl) w.heap.size emptyS (by rfl) H1.out.st ?_)
  refine (HI.out _).mono ?_; rintro e w3 ⟨rfl, hb3⟩
  have H3 := Lib.hid (H1.out.below hb3); clear hb3 H1
  go_wp2_with (refine wpl_storeSet (by rfl) 55 (Or.inl rfl) _ _ (by rfl) w.heap.size emptyS allS (by rfl) (by rfl) H3.out.st ?_; intro w5 h5 g5)
  have hld := SAtT.read (Or.inl rfl) h5
  have m5 := H3.out.set g5 h5
  (try simp only [Exit.inBlock, Exit.then])
  refine bodyPost_ret (v := .tuple #[.agg (setC allS).toArray, .bool true]) (by simp [results, Try.results33, asAddr, Result.andThen, hld, Act.put]) rfl ⟨rfl, HB.out _ m5.gr, m5.rd⟩
set_option maxHeartbeats 1600000 in
theorem st_B (R : Nat) (s : ByteArray) (n : Nat)  (w : World) (h : RD R s n w) (he : ¬ pk s n = 46) (he2 : pk s n = 91) :
    Calls Try.prog 33 #[.pointer (some ⟨R, 0, none⟩)] w (NdEnd R s w (brF s (n + 1)).1 (brF s (n + 1)).2) := by
  have hR := h.lt
  have ho := blw (Below.refl w.heap.size w) (.cells (List.replicate 32 (Value.int .u8 0)).toArray 55)
  have h0 : MW R w.heap.size s emptyS (w.alloc (.cells (List.replicate 32 (Value.int .u8 0)).toArray 55)) n (w.alloc (.cells (List.replicate 32 (Value.int .u8 0)).toArray 55)) :=
    ⟨h.call ho, SAtT.new 55 w, Gr.refl _ _, by omega⟩
  have hback : ∀ W, Gr [R, w.heap.size] (w.alloc (.cells (List.replicate 32 (Value.int .u8 0)).toArray 55)) W → Gr [R] w W := fun W g =>
    ((Gr.ofB (l := [R]) ho).less (x := w.heap.size) (g.mono (by simp)) (Nat.le_refl _))
  have hk := fun W h => rskip_any R s n 46 W h (by decide) (by decide)
  rw [decide_eq_false he, show skN s n 46 = n from if_neg he] at hk
  have hk2 := fun W h => rskip_any R s n 91 W h (by decide) (by decide)
  rw [decide_eq_true he2, show skN s n 91 = n + 1 from if_pos he2] at hk2
  have hm := fun W h => members_any R s (n + 1) W h
  generalize brF s (n + 1) = res at *
  obtain ⟨o, m⟩ := res
  have HK2 := Lib.hid hk2; have HM := Lib.hid hm
  have HK := Lib.hid hk; have H0 := Lib.hid h0; have HB := Lib.hid hback; clear hk h0 hback ho he he2 hk2 hm
  go_enter Try.func33, Try.ntmps33
  go_wp2_with fail
  refine (HK.out _ H0.out.rd).mono ?_; rintro e w1 ⟨rfl, g1, r1⟩
  have m1 := H0.out.call (Gr.of (l := [R]) g1 (Or.inl (by simp))) r1
  have H1 := Lib.hid m1; clear m1 g1 r1 H0
  generalize w.alloc (.cells (List.replicate 32 (Value.int .u8 0)).toArray 55) = wz at *
  go_wp2_with fail
  refine (HK2.out _ H1.out.rd).mono ?_; rintro e w2 ⟨rfl, g2, r2⟩
  have m2 := H1.out.call (Gr.of (l := [R]) g2 (Or.inl (by simp))) r2
  have H2 := Lib.hid m2; clear m2 g2 r2 H1
  go_wp2_with fail
  refine (HM.out _ H2.out.rd).mono ?_; rintro e w3 ⟨rfl, g3, r3⟩
  have H3 := Lib.hid (H2.out.call g3 r3); clear g3 r3 H2
  dsimp only
  generalize hok : o.isSome = ok
  generalize hS : o.getD emptyS = S
  have HOK := Lib.hid hok; have HS := Lib.hid hS; clear hok hS
  go_wp2_with (refine wpl_storeSet (by rfl) 55 (Or.inl rfl) _ _ (by rfl) w.heap.size emptyS S (by rfl) (by rfl) H3.out.st ?_; intro w5 h5 g5)
  have hld := SAtT.read (Or.inl rfl) h5
  have m5 := H3.out.set g5 h5
  (try simp only [Exit.inBlock, Exit.then])
  refine bodyPost_ret (v := .tuple #[.agg (setC S).toArray, .bool ok]) (by simp [results, Try.results33, asAddr, Result.andThen, hld, Act.put]) rfl ⟨by rw [HOK.out, HS.out], HB.out _ m5.gr, m5.rd⟩
set_option maxHeartbeats 1600000 in
theorem st_C (R : Nat) (s : ByteArray) (n : Nat) (T : BSet) (w : World) (h : RD R s n w) (he : ¬ pk s n = 46) (he2 : ¬ pk s n = 91) (hd : ndF s n = some T) :
    Calls Try.prog 33 #[.pointer (some ⟨R, 0, none⟩)] w (NdEnd R s w (some T) (n + 2)) := by
  have hR := h.lt
  have ho := blw (Below.refl w.heap.size w) (.cells (List.replicate 32 (Value.int .u8 0)).toArray 55)
  have h0 : MW R w.heap.size s emptyS (w.alloc (.cells (List.replicate 32 (Value.int .u8 0)).toArray 55)) n (w.alloc (.cells (List.replicate 32 (Value.int .u8 0)).toArray 55)) :=
    ⟨h.call ho, SAtT.new 55 w, Gr.refl _ _, by omega⟩
  have hback : ∀ W, Gr [R, w.heap.size] (w.alloc (.cells (List.replicate 32 (Value.int .u8 0)).toArray 55)) W → Gr [R] w W := fun W g =>
    ((Gr.ofB (l := [R]) ho).less (x := w.heap.size) (g.mono (by simp)) (Nat.le_refl _))
  have hk := fun W h => rskip_any R s n 46 W h (by decide) (by decide)
  rw [decide_eq_false he, show skN s n 46 = n from if_neg he] at hk
  have hk2 := fun W h => rskip_any R s n 91 W h (by decide) (by decide)
  rw [decide_eq_false he2, show skN s n 91 = n from if_neg he2] at hk2
  have hn := fun W h => rdnamed_any R s n W h
  rw [hd] at hn
  rw [show ndN s n = n + 2 by unfold ndN; rw [hd]; rfl] at hn
  have HK2 := Lib.hid hk2; have HN := Lib.hid hn
  have HK := Lib.hid hk; have H0 := Lib.hid h0; have HB := Lib.hid hback; clear hk h0 hback ho he he2 hk2 hn hd
  go_enter Try.func33, Try.ntmps33
  go_wp2_with fail
  refine (HK.out _ H0.out.rd).mono ?_; rintro e w1 ⟨rfl, g1, r1⟩
  have m1 := H0.out.call (Gr.of (l := [R]) g1 (Or.inl (by simp))) r1
  have H1 := Lib.hid m1; clear m1 g1 r1 H0
  generalize w.alloc (.cells (List.replicate 32 (Value.int .u8 0)).toArray 55) = wz at *
  go_wp2_with fail
  refine (HK2.out _ H1.out.rd).mono ?_; rintro e w2 ⟨rfl, g2, r2⟩
  have m2 := H1.out.call (Gr.of (l := [R]) g2 (Or.inl (by simp))) r2
  have H2 := Lib.hid m2; clear m2 g2 r2 H1
  go_wp2_with fail
  refine (HN.out _ H2.out.rd).mono ?_; rintro e w3 ⟨rfl, g3, r3⟩
  have H3 := Lib.hid (H2.out.call g3 r3); clear g3 r3 H2
  simp only [Option.getD_some, Option.getD_none, Option.isSome_some, Option.isSome_none]
  go_upto_region 6 with (refine wpl_storeSet (by rfl) 55 (Or.inl rfl) _ _ (by rfl) w.heap.size emptyS T (by rfl) (by rfl) H3.out.st ?_; intro w4 h4 g4)
  have H4 := Lib.hid (H3.out.set g4 h4); clear g4 h4 H3
  go_upto_region 7 with fail
  go_wp2_with (first | (refine wpl_loadSet (by rfl) 55 (Or.inl rfl) _ (by rfl) w.heap.size T (by rfl) H4.out.st ?_) | (refine wpl_storeSet (by rfl) 55 (Or.inl rfl) _ _ (by rfl) w.heap.size T T (by rfl) (by rfl) H4.out.st ?_; intro w5 h5 g5))
  have hld := SAtT.read (Or.inl rfl) h5
  have m5 := H4.out.set g5 h5
  (try simp only [Exit.inBlock, Exit.then])
  refine bodyPost_ret (v := .tuple #[.agg (setC T).toArray, .bool true]) (by simp [results, Try.results33, asAddr, Result.andThen, hld, Act.put]) rfl ⟨rfl, HB.out _ m5.gr, m5.rd⟩
set_option maxHeartbeats 1600000 in
theorem st_D (R : Nat) (s : ByteArray) (n : Nat) (m : Nat) (w : World) (h : RD R s n w) (he : ¬ pk s n = 46) (he2 : ¬ pk s n = 91) (hd : ndF s n = none) (hr1 : rbF sgO s n = (none, m)) :
    Calls Try.prog 33 #[.pointer (some ⟨R, 0, none⟩)] w (NdEnd R s w none m) := by
  have hR := h.lt
  have ho := blw (Below.refl w.heap.size w) (.cells (List.replicate 32 (Value.int .u8 0)).toArray 55)
  have h0 : MW R w.heap.size s emptyS (w.alloc (.cells (List.replicate 32 (Value.int .u8 0)).toArray 55)) n (w.alloc (.cells (List.replicate 32 (Value.int .u8 0)).toArray 55)) :=
    ⟨h.call ho, SAtT.new 55 w, Gr.refl _ _, by omega⟩
  have hback : ∀ W, Gr [R, w.heap.size] (w.alloc (.cells (List.replicate 32 (Value.int .u8 0)).toArray 55)) W → Gr [R] w W := fun W g =>
    ((Gr.ofB (l := [R]) ho).less (x := w.heap.size) (g.mono (by simp)) (Nat.le_refl _))
  have hk := fun W h => rskip_any R s n 46 W h (by decide) (by decide)
  rw [decide_eq_false he, show skN s n 46 = n from if_neg he] at hk
  have hk2 := fun W h => rskip_any R s n 91 W h (by decide) (by decide)
  rw [decide_eq_false he2, show skN s n 91 = n from if_neg he2] at hk2
  have hn := fun W h => rdnamed_any R s n W h
  rw [hd] at hn
  rw [show ndN s n = n by unfold ndN; rw [hd]; rfl] at hn
  have hr := fun W h => rdbyte_any R s _ sgO in_out n W h
  rw [hr1] at hr
  have HK2 := Lib.hid hk2; have HN := Lib.hid hn; have HR := Lib.hid hr
  have HK := Lib.hid hk; have H0 := Lib.hid h0; have HB := Lib.hid hback; clear hk h0 hback ho he he2 hk2 hn hd hr hr1
  go_enter Try.func33, Try.ntmps33
  go_wp2_with fail
  refine (HK.out _ H0.out.rd).mono ?_; rintro e w1 ⟨rfl, g1, r1⟩
  have m1 := H0.out.call (Gr.of (l := [R]) g1 (Or.inl (by simp))) r1
  have H1 := Lib.hid m1; clear m1 g1 r1 H0
  generalize w.alloc (.cells (List.replicate 32 (Value.int .u8 0)).toArray 55) = wz at *
  go_wp2_with fail
  refine (HK2.out _ H1.out.rd).mono ?_; rintro e w2 ⟨rfl, g2, r2⟩
  have m2 := H1.out.call (Gr.of (l := [R]) g2 (Or.inl (by simp))) r2
  have H2 := Lib.hid m2; clear m2 g2 r2 H1
  go_wp2_with fail
  refine (HN.out _ H2.out.rd).mono ?_; rintro e w3 ⟨rfl, g3, r3⟩
  have H3 := Lib.hid (H2.out.call g3 r3); clear g3 r3 H2
  simp only [Option.getD_some, Option.getD_none, Option.isSome_some, Option.isSome_none]
  go_upto_region 6 with (refine wpl_storeSet (by rfl) 55 (Or.inl rfl) _ _ (by rfl) w.heap.size emptyS emptyS (by rfl) (by rfl) H3.out.st ?_; intro w4 h4 g4)
  have H4 := Lib.hid (H3.out.set g4 h4); clear g4 h4 H3
  go_wp2_with fail
  refine (HR.out _ H4.out.rd).mono ?_; rintro e w5 ⟨rfl, g5, r5⟩
  have H5 := Lib.hid (H4.out.call (Gr.of (l := [R]) g5 (Or.inl (by simp))) r5); clear g5 r5 H4
  simp only [Option.getD_some, Option.getD_none, Option.isSome_some, Option.isSome_none]
  go_upto_region 11 with fail
  go_wp2_with (first | (refine wpl_loadSet (by rfl) 55 (Or.inl rfl) _ (by rfl) w.heap.size emptyS (by rfl) H5.out.st ?_) | (refine wpl_storeSet (by rfl) 55 (Or.inl rfl) _ _ (by rfl) w.heap.size emptyS emptyS (by rfl) (by rfl) H5.out.st ?_; intro w5 h5 g5))
  have hld := SAtT.read (Or.inl rfl) h5
  have m5 := H5.out.set g5 h5
  (try simp only [Exit.inBlock, Exit.then])
  refine bodyPost_ret (v := .tuple #[.agg (setC emptyS).toArray, .bool false]) (by simp [results, Try.results33, asAddr, Result.andThen, hld, Act.put]) rfl ⟨rfl, HB.out _ m5.gr, m5.rd⟩
set_option maxHeartbeats 1600000 in
theorem st_E (R : Nat) (s : ByteArray) (n : Nat) (m b : Nat) (w : World) (h : RD R s n w) (he : ¬ pk s n = 46) (he2 : ¬ pk s n = 91) (hd : ndF s n = none) (hr1 : rbF sgO s n = (some b, m)) :
    Calls Try.prog 33 #[.pointer (some ⟨R, 0, none⟩)] w (NdEnd R s w (some (addS emptyS b)) m) := by
  have hR := h.lt
  have ho := blw (Below.refl w.heap.size w) (.cells (List.replicate 32 (Value.int .u8 0)).toArray 55)
  have h0 : MW R w.heap.size s emptyS (w.alloc (.cells (List.replicate 32 (Value.int .u8 0)).toArray 55)) n (w.alloc (.cells (List.replicate 32 (Value.int .u8 0)).toArray 55)) :=
    ⟨h.call ho, SAtT.new 55 w, Gr.refl _ _, by omega⟩
  have hback : ∀ W, Gr [R, w.heap.size] (w.alloc (.cells (List.replicate 32 (Value.int .u8 0)).toArray 55)) W → Gr [R] w W := fun W g =>
    ((Gr.ofB (l := [R]) ho).less (x := w.heap.size) (g.mono (by simp)) (Nat.le_refl _))
  have hk := fun W h => rskip_any R s n 46 W h (by decide) (by decide)
  rw [decide_eq_false he, show skN s n 46 = n from if_neg he] at hk
  have hk2 := fun W h => rskip_any R s n 91 W h (by decide) (by decide)
  rw [decide_eq_false he2, show skN s n 91 = n from if_neg he2] at hk2
  have hn := fun W h => rdnamed_any R s n W h
  rw [hd] at hn
  rw [show ndN s n = n by unfold ndN; rw [hd]; rfl] at hn
  have hr := fun W h => rdbyte_any R s _ sgO in_out n W h
  rw [hr1] at hr
  have hb := (rb_some hr1).2.2.1
  have HK2 := Lib.hid hk2; have HN := Lib.hid hn; have HR := Lib.hid hr
  have HK := Lib.hid hk; have H0 := Lib.hid h0; have HB := Lib.hid hback; clear hk h0 hback ho he he2 hk2 hn hd hr hr1
  go_enter Try.func33, Try.ntmps33
  go_wp2_with fail
  refine (HK.out _ H0.out.rd).mono ?_; rintro e w1 ⟨rfl, g1, r1⟩
  have m1 := H0.out.call (Gr.of (l := [R]) g1 (Or.inl (by simp))) r1
  have H1 := Lib.hid m1; clear m1 g1 r1 H0
  generalize w.alloc (.cells (List.replicate 32 (Value.int .u8 0)).toArray 55) = wz at *
  go_wp2_with fail
  refine (HK2.out _ H1.out.rd).mono ?_; rintro e w2 ⟨rfl, g2, r2⟩
  have m2 := H1.out.call (Gr.of (l := [R]) g2 (Or.inl (by simp))) r2
  have H2 := Lib.hid m2; clear m2 g2 r2 H1
  go_wp2_with fail
  refine (HN.out _ H2.out.rd).mono ?_; rintro e w3 ⟨rfl, g3, r3⟩
  have H3 := Lib.hid (H2.out.call g3 r3); clear g3 r3 H2
  simp only [Option.getD_some, Option.getD_none, Option.isSome_some, Option.isSome_none]
  go_upto_region 6 with (refine wpl_storeSet (by rfl) 55 (Or.inl rfl) _ _ (by rfl) w.heap.size emptyS emptyS (by rfl) (by rfl) H3.out.st ?_; intro w4 h4 g4)
  have H4 := Lib.hid (H3.out.set g4 h4); clear g4 h4 H3
  go_wp2_with fail
  refine (HR.out _ H4.out.rd).mono ?_; rintro e w5 ⟨rfl, g5, r5⟩
  have H5 := Lib.hid (H4.out.call (Gr.of (l := [R]) g5 (Or.inl (by simp))) r5); clear g5 r5 H4
  simp only [Option.getD_some, Option.getD_none, Option.isSome_some, Option.isSome_none]
  go_wp2_with fail
  refine (add_any w.heap.size emptyS b hb _ H5.out.st).mono ?_; rintro e w6 ⟨rfl, g6, h6⟩
  have H6 := Lib.hid (H5.out.set (T := addS emptyS b) g6 h6); clear g6 h6 H5
  generalize addS emptyS b = S at *
  go_upto_region 11 with fail
  go_wp2_with (first | (refine wpl_loadSet (by rfl) 55 (Or.inl rfl) _ (by rfl) w.heap.size S (by rfl) H6.out.st ?_) | (refine wpl_storeSet (by rfl) 55 (Or.inl rfl) _ _ (by rfl) w.heap.size S S (by rfl) (by rfl) H6.out.st ?_; intro w5 h5 g5))
  have hld := SAtT.read (Or.inl rfl) h5
  have m5 := H6.out.set g5 h5
  (try simp only [Exit.inBlock, Exit.then])
  refine bodyPost_ret (v := .tuple #[.agg (setC S).toArray, .bool true]) (by simp [results, Try.results33, asAddr, Result.andThen, hld, Act.put]) rfl ⟨rfl, HB.out _ m5.gr, m5.rd⟩
theorem rdset_any (R : Nat) (s : ByteArray) (n : Nat) (w : World) (h : RD R s n w) :
    Calls Try.prog 33 #[.pointer (some ⟨R, 0, none⟩)] w (NdEnd R s w (stF s n).1 (stF s n).2) := by
  unfold stF
  by_cases he : pk s n = 46
  · rw [if_pos he]; exact st_A R s n w h he
  · rw [if_neg he]
    by_cases he2 : pk s n = 91
    · rw [if_pos he2]; exact st_B R s n w h he he2
    · rw [if_neg he2]
      cases hd : ndF s n with
      | some T => exact st_C R s n T w h he he2 hd
      | none =>
        dsimp only
        cases hr1 : rbF sgO s n with
        | mk x m =>
          cases x with
          | none => exact st_D R s n m w h he he2 hd hr1
          | some b => exact st_E R s n m b w h he he2 hd hr1
end Go.Proofs.Ytdnofpllmhnacaa
