/- The walk of ItemParts. -/
import Derived.Test.YtnfapcfajoboaaaCan
import Derived.Test.YtnfapcfajoboaaaCcW
import Derived.Test.YtnfapcfajoboaaaSlt
import Derived.Test.YtnfapcfajoboaaaSam
namespace Go.Proofs.Ytnfapcfajoboaaa
open Go.ChangeShapes Go.WideShapes Go.ChangeAt Go.RowKit
set_option linter.unusedVariables false
set_option maxRecDepth 100000

def EndSF (L : List ByteArray) (w : World) (e : Ending) (w' : World) : Prop := ∃ p c, e = .returned (.slice p L.length c) ∧ L.length ≤ c ∧ c ≤ maxLen ∧ Ones w' Value.string p L ∧ Below w.heap.size w w'
theorem EndS.f {L : List ByteArray} {w w' : World} {e : Ending} (h : EndS L w e w') : EndSF L w e w' := by
  obtain ⟨v, rfl, hA⟩ := h
  obtain ⟨p, c, rfl, h1, h2, hI⟩ := hA.own.strs
  exact ⟨p, c, rfl, h1, h2, hI, hA.below⟩

set_option maxHeartbeats 6400000 in
theorem parts_few (p q : Option Addr) (c d : Nat) (f g : List It) (w : World) (rf : Its w p f) (rg : Its w q g) (of : Oks f)
    (nf : f.length ≤ c) (mf : c ≤ maxLen) (ng : g.length ≤ d) (mg : d ≤ maxLen)
    (h0 : Calls Try.prog 22 #[.slice p f.length c] w fun e w' => e = .returned (.bool true) ∧ w = w')
    (h1 : Calls Try.prog 22 #[.slice q g.length d] w fun e w' => e = .returned (.bool true) ∧ w = w')
    (sf : Sm 1 f) (sg : Sm 1 g) :
    Calls Try.prog 7 #[.slice p f.length c, .slice q g.length d] w fun e w' => e = .returned (.bool true) ∧ Below w.heap.size w w' := by
  have f1 := sf.len; have f2 := sf.txt; have g1 := sg.len; have g2 := sg.txt; have f3 := sf.lenI
  have a25 := fun W i => length_any p c f W i nf mf (by omega)
  have a26 := fun W i => rlength_any p c f W i nf mf (by omega)
  have a28 := fun W i => normalize_f p c f W i nf mf sf (by decide)
  have a29 := fun W i => (rnormalize_any p c f W i nf mf (by omega) (by omega)).mono fun _ _ x => EndI.f x
  have a30 : ∀ W, Its W p f → Calls Try.prog 30 #[.slice p f.length c] W fun e w' => e = .returned (.string (pS f)) ∧ Below W.heap.size W w' := fun W i => plain_any p c f W i nf mf (by omega)
  have a31 := fun W i => rplain_any p c f W i nf mf (by omega)
  have a32 := fun W i => (tags_any p c f W i nf mf (by omega)).mono fun _ _ x => EndI.f x
  have a33 := fun W i => (rtags_any p c f W i nf mf (by omega)).mono fun _ _ x => EndI.f x
  have a35 := fun W i => (slots_any p c f W i nf mf (by omega)).mono fun _ _ x => EndS.f x
  have a36 := fun W i => (rslots_any p c f W i nf mf (by omega)).mono fun _ _ x => EndS.f x
  have a38 := fun W i => (numbers_any p c f W i of nf mf (by omega)).mono fun _ _ x => EndN.f x
  have a39 := fun W i => (rnumbers_any p c f W i nf mf (by omega)).mono fun _ _ x => EndN.f x
  have a40 := fun W i => renumber_any p c f W i of nf mf (by omega) (by omega)
  have a41 := fun W i => rrenumber_any p c f W i nf mf (by omega) (by omega)
  have a42 := fun W i j => same_any p q c d f g W i j nf ng mf mg
  have a27 := fun W i j => rsame_any p q c d f g W i j nf ng mf mg
  have a42' := fun W i => same_any p p c c f f W i i nf nf mf mf
  have a43 := fun W i j => concat_f p q c d f g W i j sf sg (by decide)
  have a44 := fun W i j => (rconcat_any p q c d f g W i j (by omega) (by omega)).mono fun _ _ x => EndI.f x
  rw [decide_eq_true rfl] at a42'
  generalize decide (f = g) = bb at *
  have t1 := fun W x x' y y' i i' a a' m m' => rsame_any x x' y y' (norm f) (norm f) W i i' a a' m m'
  have t2 := fun W x x' y y' i i' a a' m m' => rsame_any x x' y y' (tagsL f) (tagsL f) W i i' a a' m m'
  have t3 := fun W x x' y y' i i' a a' m m' => sametexts_any x x' y y' (slS f) (slS f) W i i' a a' m m'
  have t4 := fun W x x' y y' i i' a a' m m' => sameints_any x x' y y' (numsL f) (numsL f) W i i' a a' m m'
  have t5 := fun W x x' y y' i i' a a' m m' => rsame_any x x' y y' (norm (renL (upPairs (numsL f)) f)) (norm (renL (upPairs (numsL f)) f)) W i i' a a' m m'
  have t6 := fun W x x' y y' i i' a a' m m' => rsame_any x x' y y' (norm (f ++ g)) (norm (f ++ g)) W i i' a a' m m'
  rw [decide_eq_true rfl] at t1 t2 t3 t4 t5 t6
  generalize norm (renL (upPairs (numsL f)) f) = X5 at *
  generalize norm (f ++ g) = X6 at *
  generalize norm f = X1 at *
  generalize tagsL f = X2 at *
  generalize slS f = X3 at *
  generalize numsL f = X4 at *
  generalize pS f = S at *
  generalize lenI f = nl at *
  have Ha25 := Lib.hid a25; have Ha26 := Lib.hid a26; have Ha28 := Lib.hid a28; have Ha29 := Lib.hid a29; have Ha30 := Lib.hid a30; have Ha31 := Lib.hid a31; have Ha32 := Lib.hid a32; have Ha33 := Lib.hid a33; have Ha35 := Lib.hid a35; have Ha36 := Lib.hid a36; have Ha38 := Lib.hid a38; have Ha39 := Lib.hid a39; have Ha40 := Lib.hid a40; have Ha41 := Lib.hid a41; have Ha42 := Lib.hid a42; have Ha27 := Lib.hid a27; have Ha42x := Lib.hid a42'; have Ha43 := Lib.hid a43; have Ha44 := Lib.hid a44; have Ht1 := Lib.hid t1; have Ht2 := Lib.hid t2; have Ht3 := Lib.hid t3; have Ht4 := Lib.hid t4; have Ht5 := Lib.hid t5; have Ht6 := Lib.hid t6; have Hh0 := Lib.hid h0; have Hh1 := Lib.hid h1
  clear a25 a26 a28 a29 a30 a31 a32 a33 a35 a36 a38 a39 a40 a41 a42 a27 a42' a43 a44 t1 t2 t3 t4 t5 t6 h0 h1 sf sg f1 f2 g1 g2 of
  go_enter Try.func7, Try.ntmps7
  go_wp2_with fail
  refine (Hh0.out).mono ?_; rintro e w1 ⟨rfl, rfl⟩
  go_wp2_with fail
  refine (Hh1.out).mono ?_; rintro e w1 ⟨rfl, rfl⟩
  have bl := Below.refl w.heap.size w
  go_wp2_with fail
  refine (Ha25.out _ rf).mono ?_; rintro e w2 ⟨rfl, hb⟩
  have rf := rf.call hb; have rg := rg.call hb;  have bl := BelowOn bl hb
  go_wp2_with fail
  refine (Ha26.out _ rf).mono ?_; rintro e w0 ⟨rfl, rfl⟩
  go_wp2_with fail
  refine (Ha28.out _ rf).mono ?_; rintro e w3 ⟨px, cx, rfl, vx, mx, ix, hb⟩
  have rf := rf.call hb; have rg := rg.call hb;  have bl := BelowOn bl hb
  go_wp2_with fail
  refine (Ha29.out _ rf).mono ?_; rintro e w4 ⟨py, cy, rfl, vy, my, iy, hb⟩
  have rf := rf.call hb; have rg := rg.call hb; have ix := ix.call hb; have bl := BelowOn bl hb
  go_wp2_with fail
  refine (Ht1.out _ _ _ _ _ ix iy vx vy mx my).mono ?_; rintro e w5 ⟨rfl, hb⟩
  have rf := rf.call hb; have rg := rg.call hb;  have bl := BelowOn bl hb
  go_wp2_with fail
  refine (Ha30.out _ rf).mono ?_; rintro e w6 ⟨rfl, hb⟩
  have rf := rf.call hb; have rg := rg.call hb;  have bl := BelowOn bl hb
  go_wp2_with fail
  refine (Ha31.out _ rf).mono ?_; rintro e w0 ⟨rfl, rfl⟩
  go_wp2_with fail
  refine (Ha32.out _ rf).mono ?_; rintro e w7 ⟨px, cx, rfl, vx, mx, ix, hb⟩
  have rf := rf.call hb; have rg := rg.call hb;  have bl := BelowOn bl hb
  go_wp2_with fail
  refine (Ha33.out _ rf).mono ?_; rintro e w8 ⟨py, cy, rfl, vy, my, iy, hb⟩
  have rf := rf.call hb; have rg := rg.call hb; have ix := ix.call hb; have bl := BelowOn bl hb
  go_wp2_with fail
  refine (Ht2.out _ _ _ _ _ ix iy vx vy mx my).mono ?_; rintro e w9 ⟨rfl, hb⟩
  have rf := rf.call hb; have rg := rg.call hb;  have bl := BelowOn bl hb
  go_wp2_with fail
  refine (Ha35.out _ rf).mono ?_; rintro e w10 ⟨px, cx, rfl, vx, mx, ix, hb⟩
  have rf := rf.call hb; have rg := rg.call hb;  have bl := BelowOn bl hb
  go_wp2_with fail
  refine (Ha36.out _ rf).mono ?_; rintro e w11 ⟨py, cy, rfl, vy, my, iy, hb⟩
  have rf := rf.call hb; have rg := rg.call hb; have ix := ix.call hb; have bl := BelowOn bl hb
  go_wp2_with fail
  refine (Ht3.out _ _ _ _ _ ix iy vx vy mx my).mono ?_; rintro e w12 ⟨rfl, hb⟩
  have rf := rf.call hb; have rg := rg.call hb;  have bl := BelowOn bl hb
  go_wp2_with fail
  refine (Ha38.out _ rf).mono ?_; rintro e w13 ⟨px, cx, rfl, vx, mx, ix, hb⟩
  have rf := rf.call hb; have rg := rg.call hb;  have bl := BelowOn bl hb
  go_wp2_with fail
  refine (Ha39.out _ rf).mono ?_; rintro e w14 ⟨py, cy, rfl, vy, my, iy, hb⟩
  have rf := rf.call hb; have rg := rg.call hb; have ix := ix.call hb; have bl := BelowOn bl hb
  go_wp2_with fail
  refine (Ht4.out _ _ _ _ _ ix iy vx vy mx my).mono ?_; rintro e w15 ⟨rfl, hb⟩
  have rf := rf.call hb; have rg := rg.call hb;  have bl := BelowOn bl hb
  go_wp2_with fail
  refine (Ha40.out _ rf).mono ?_; rintro e w16 ⟨px, cx, rfl, vx, mx, ix, hb⟩
  have rf := rf.call hb; have rg := rg.call hb;  have bl := BelowOn bl hb
  go_wp2_with fail
  refine (Ha41.out _ rf).mono ?_; rintro e w17 ⟨py, cy, rfl, vy, my, iy, hb⟩
  have rf := rf.call hb; have rg := rg.call hb; have ix := ix.call hb; have bl := BelowOn bl hb
  go_wp2_with fail
  refine (Ht5.out _ _ _ _ _ ix iy vx vy mx my).mono ?_; rintro e w18 ⟨rfl, hb⟩
  have rf := rf.call hb; have rg := rg.call hb;  have bl := BelowOn bl hb
  go_wp2_with fail
  refine (Ha42.out _ rf rg).mono ?_; rintro e w19 ⟨rfl, hb⟩
  have rf := rf.call hb; have rg := rg.call hb;  have bl := BelowOn bl hb
  go_wp2_with fail
  refine (Ha27.out _ rf rg).mono ?_; rintro e w20 ⟨rfl, hb⟩
  have rf := rf.call hb; have rg := rg.call hb;  have bl := BelowOn bl hb
  go_wp2_with fail
  refine (Ha42x.out _ rf).mono ?_; rintro e w21 ⟨rfl, hb⟩
  have rf := rf.call hb; have rg := rg.call hb;  have bl := BelowOn bl hb
  go_wp2_with fail
  refine (Ha43.out _ rf rg).mono ?_; rintro e w22 ⟨px, cx, rfl, vx, mx, ix, hb⟩
  have rf := rf.call hb; have rg := rg.call hb;  have bl := BelowOn bl hb
  go_wp2_with fail
  refine (Ha44.out _ rf rg).mono ?_; rintro e w23 ⟨py, cy, rfl, vy, my, iy, hb⟩
  have rf := rf.call hb; have rg := rg.call hb; have ix := ix.call hb; have bl := BelowOn bl hb
  go_wp2_with fail
  refine (Ht6.out _ _ _ _ _ ix iy vx vy mx my).mono ?_; rintro e w24 ⟨rfl, hb⟩
  have rf := rf.call hb; have rg := rg.call hb;  have bl := BelowOn bl hb
  go_wp2_with fail
  refine (known_any _).mono ?_; rintro e w17 ⟨rfl, hb⟩
  have bl := BelowOn bl hb
  go_wp2_with fail
  go_ret
  exact ⟨rfl, bl⟩

theorem parts_any (p : Option Addr) (c : Nat) (f : List It) (q : Option Addr) (d : Nat) (g : List It) (w : World)
    (rf : Its w p f) (of : Oks f) (nf : f.length ≤ c) (mf : c ≤ maxLen) (rg : Its w q g) (og : Oks g) (ng : g.length ≤ d) (mg : d ≤ maxLen) :
    Calls Try.prog 7 #[.slice p f.length c, .slice q g.length d] w fun e w' => e = .returned (.bool true) ∧ Below w.heap.size w w' := by
  have h0 := few_any p c f w rf of nf mf
  have h1 := few_any q d g w rg og ng mg
  cases e0 : fewB f
  · rw [e0] at h0
    have H0 := Lib.hid h0; clear h0 h1 e0
    go_enter Try.func7, Try.ntmps7
    go_wp2_with fail
    refine (H0.out).mono ?_; rintro e w1 ⟨rfl, rfl⟩
    go_wp2_with fail
    refine (known_any _).mono ?_; rintro e w17 ⟨rfl, hb⟩
    go_wp2_with fail
    go_ret
    exact ⟨rfl, hb⟩
  cases e1 : fewB g
  · rw [e0] at h0; rw [e1] at h1
    have H0 := Lib.hid h0; have H1 := Lib.hid h1; clear h0 h1 e0 e1
    go_enter Try.func7, Try.ntmps7
    go_wp2_with fail
    refine (H0.out).mono ?_; rintro e w1 ⟨rfl, rfl⟩
    go_wp2_with fail
    refine (H1.out).mono ?_; rintro e w1 ⟨rfl, rfl⟩
    go_wp2_with fail
    refine (known_any _).mono ?_; rintro e w17 ⟨rfl, hb⟩
    go_wp2_with fail
    go_ret
    exact ⟨rfl, hb⟩
  · rw [e0] at h0; rw [e1] at h1
    exact parts_few p q c d f g w rf rg of nf mf ng mg h0 h1 (Sm.of e0) (Sm.of e1)
end Go.Proofs.Ytnfapcfajoboaaa
