/- The walk of ItemConcats. -/
import Derived.Test.YtnfapcfajoboaaaKno
import Derived.Test.YtnfapcfajoboaaaPln
import Derived.Test.YtnfapcfajoboaaaNrq
namespace Go.Proofs.Ytnfapcfajoboaaa
open Go.ChangeShapes Go.WideShapes Go.ChangeAt Go.RowKit
set_option linter.unusedVariables false
set_option maxRecDepth 100000

/-- A fragment of at most n times what is few. -/
structure Sm (n : Nat) (l : List It) : Prop where
  len : l.length ≤ 60 * n
  txt : txtI l ≤ 2000 * n
theorem Sm.of {l : List It} (h : fewB l = true) : Sm 1 l := by
  unfold fewB at h; rw [Bool.and_eq_true] at h
  exact ⟨by have := of_decide_eq_true h.1; omega, by have := of_decide_eq_true h.2; omega⟩
theorem lenI_txt (l : List It) : lenI l ≤ txtI l + l.length := by
  induction l with
  | nil => exact Nat.le_refl _
  | cons x t ih =>
    show wid x + lenI t ≤ x.t.size + txtI t + (t.length + 1)
    have : wid x ≤ x.t.size + 1 := by unfold wid; split <;> omega
    omega
theorem Sm.lenI {n : Nat} {l : List It} (h : Sm n l) : lenI l ≤ 2060 * n := by have := lenI_txt l; have := h.len; have := h.txt; omega
theorem txt_normed (l : List It) : txtI (norm l) ≤ txtI l := by
  have := txt_norms l l.length (Nat.le_refl _)
  rwa [List.take_length] at this
theorem Sm.norm {n : Nat} {l : List It} (h : Sm n l) : Sm n (Ytnfapcfajoboaaa.norm l) := ⟨by have := norm_len l; have := h.len; omega, by have := txt_normed l; have := h.txt; omega⟩
theorem Sm.cat {a b : Nat} {l m : List It} (h : Sm a l) (k : Sm b m) : Sm (a + b) (Ytnfapcfajoboaaa.norm (l ++ m)) :=
  Sm.norm ⟨by have := h.len; have := k.len; rw [List.length_append]; omega, by have := h.txt; have := k.txt; rw [txtI_append]; omega⟩
theorem Sm.nil : Sm 0 [] := ⟨by simp, by simp [txtI]⟩

/-- What a call that answers a fragment says. -/
def EndF (L : List It) (w : World) (e : Ending) (w' : World) : Prop := ∃ p c, e = .returned (.slice p L.length c) ∧ L.length ≤ c ∧ c ≤ maxLen ∧ Its w' p L ∧ Below w.heap.size w w'
theorem EndI.f {L : List It} {w w' : World} {e : Ending} (h : EndI L w e w') : EndF L w e w' := by
  obtain ⟨v, rfl, hA⟩ := h
  obtain ⟨p, c, rfl, h1, h2, hI⟩ := hA.own.its
  exact ⟨p, c, rfl, h1, h2, hI, hA.below⟩
theorem concat_f {a b : Nat} (p q : Option Addr) (c d : Nat) (l m : List It) (w : World) (hR : Its w p l) (hS : Its w q m) (h : Sm a l) (k : Sm b m) (hab : a + b ≤ 100) :
    Calls Try.prog 43 #[.slice p l.length c, .slice q m.length d] w (EndF (norm (l ++ m)) w) :=
  (concat_any p q c d l m w hR hS (by have := h.len; have := k.len; omega) (by have := h.txt; have := k.txt; omega)).mono fun _ _ x => EndI.f x
theorem normalize_f {a : Nat} (p : Option Addr) (c : Nat) (l : List It) (w : World) (hR : Its w p l) (hc : l.length ≤ c) (hm : c ≤ maxLen) (h : Sm a l) (ha : a ≤ 100) :
    Calls Try.prog 28 #[.slice p l.length c] w (EndF (norm l) w) :=
  (normalize_any p c l w hR hc hm (by have := h.len; omega) (by have := h.txt; omega)).mono fun _ _ x => EndI.f x

theorem plain_size {n : Nat} {l : List It} (h : Sm n l) : (⟨(plainL l).toArray⟩ : ByteArray).size ≤ 2060 * n := by
  have h1 := plain_len l l.length (Nat.le_refl _)
  rw [List.take_length] at h1
  have h2 : (⟨(plainL l).toArray⟩ : ByteArray).size = (plainL l).length := by show (plainL l).toArray.size = _; simp
  rw [h2]; have := h.len; have := h.txt; omega

set_option maxHeartbeats 3200000 in
theorem concats_few (p q r : Option Addr) (c d b : Nat) (f g h : List It) (w : World) (if0 : Its w p f) (ig0 : Its w q g) (ih0 : Its w r h)
    (nf : f.length ≤ c) (mf : c ≤ maxLen) (ng : g.length ≤ d) (mg : d ≤ maxLen) (nh : h.length ≤ b) (mh : b ≤ maxLen)
    (h0 : Calls Try.prog 22 #[.slice p f.length c] w fun e w' => e = .returned (.bool true) ∧ w = w')
    (h1 : Calls Try.prog 22 #[.slice q g.length d] w fun e w' => e = .returned (.bool true) ∧ w = w')
    (h2 : Calls Try.prog 22 #[.slice r h.length b] w fun e w' => e = .returned (.bool true) ∧ w = w')
    (sf : Sm 1 f) (sg : Sm 1 g) (sh : Sm 1 h) :
    Calls Try.prog 9 #[.slice p f.length c, .slice q g.length d, .slice r h.length b] w fun e w' => e = .returned (.bool true) ∧ Below w.heap.size w w' := by
  have k1 := fun W i j => concat_f p q c d f g W i j sf sg (by decide)
  have k2 := fun W x y i j => concat_f x r y b (norm (f ++ g)) h W i j (sf.cat sg) sh (by decide)
  have k3 := fun W i j => concat_f q r d b g h W i j sg sh (by decide)
  have k4 := fun W x y i j => concat_f p x c y f (norm (g ++ h)) W i j sf (sg.cat sh) (by decide)
  have k5 := fun W i j => concat_f p none c 0 f [] W i j sf Sm.nil (by decide)
  have k6 := fun W i => normalize_f p c f W i nf mf sf (by decide)
  have s2 : Sm 3 (norm (norm (f ++ g) ++ h)) := (sf.cat sg).cat sh
  have e1 := norm_assoc f g h
  rw [← e1] at k4
  rw [List.append_nil] at k5
  have l1 : lenI (norm (norm (f ++ g) ++ h)) = lenI f + lenI g + lenI h := by rw [len_norm, lenI_append, len_norm, lenI_append]
  have t1 : plainL (norm (norm (f ++ g) ++ h)) = plainL f ++ plainL g ++ plainL h := by rw [plain_norm, plainL_append, plain_norm, plainL_append]
  have b0 := sf.lenI; have b1 := sg.lenI; have b2 := sh.lenI; have b3 := s2.lenI
  have y0 := fun W i => length_any p c f W i nf mf (by omega)
  have y1 := fun W i => length_any q d g W i ng mg (by omega)
  have y2 := fun W i => length_any r b h W i nh mh (by omega)
  have y3 := fun W x y i a m => length_any x y (norm (norm (f ++ g) ++ h)) W i a m (by omega)
  have z0 := fun W i => plain_any p c f W i nf mf (by have := sf.len; have := sf.txt; omega)
  have z1 := fun W i => plain_any q d g W i ng mg (by have := sg.len; have := sg.txt; omega)
  have z2 := fun W i => plain_any r b h W i nh mh (by have := sh.len; have := sh.txt; omega)
  have z3 := fun W x y i a m => plain_any x y (norm (norm (f ++ g) ++ h)) W i a m (by have := s2.len; have := s2.txt; omega)
  have S1 := fun W x x' y y' i i' a a' m m' => rsame_any x x' y y' (norm (norm (f ++ g) ++ h)) (norm (norm (f ++ g) ++ h)) W i i' a a' m m'
  have S2 := fun W x x' y y' i i' a a' m m' => rsame_any x x' y y' (norm f) (norm f) W i i' a a' m m'
  rw [decide_eq_true rfl] at S1 S2
  rw [l1] at y3
  rw [t1] at z3
  rw [show (⟨(plainL f ++ plainL g ++ plainL h).toArray⟩ : ByteArray) = ⟨(plainL f).toArray⟩ ++ ⟨(plainL g).toArray⟩ ++ ⟨(plainL h).toArray⟩ by apply ByteArray.ext; simp] at z3
  have u0 := plain_size sf; have u1 := plain_size sg; have u2 := plain_size sh
  generalize (⟨(plainL f).toArray⟩ : ByteArray) = tf at *
  generalize (⟨(plainL g).toArray⟩ : ByteArray) = tg at *
  generalize (⟨(plainL h).toArray⟩ : ByteArray) = th at *
  clear t1 l1 s2 e1
  generalize hX : norm (norm (f ++ g) ++ h) = X at *
  generalize hY : norm (f ++ g) = Y at *
  generalize hZ : norm (g ++ h) = Z at *
  generalize hV : norm f = V at *
  clear hX hY hZ hV sf sg sh b3
  generalize lenI f = lf at *
  generalize lenI g = lg at *
  generalize lenI h = lh at *
  have K1 := Lib.hid k1; have K2 := Lib.hid k2; have K3 := Lib.hid k3; have K4 := Lib.hid k4; have K5 := Lib.hid k5; have K6 := Lib.hid k6
  have Y0 := Lib.hid y0; have Y1 := Lib.hid y1; have Y2 := Lib.hid y2; have Y3 := Lib.hid y3
  have Z0 := Lib.hid z0; have Z1 := Lib.hid z1; have Z2 := Lib.hid z2; have Z3 := Lib.hid z3
  have Q1 := Lib.hid S1; have Q2 := Lib.hid S2
  have H0 := Lib.hid h0; have H1 := Lib.hid h1; have H2 := Lib.hid h2
  clear k1 k2 k3 k4 k5 k6 y0 y1 y2 y3 z0 z1 z2 z3 S1 S2 h0 h1 h2
  go_enter Try.func9, Try.ntmps9
  go_wp2_with fail
  refine (H0.out).mono ?_; rintro e w1 ⟨rfl, rfl⟩
  go_wp2_with fail
  refine (H1.out).mono ?_; rintro e w1 ⟨rfl, rfl⟩
  go_wp2_with fail
  refine (H2.out).mono ?_; rintro e w1 ⟨rfl, rfl⟩
  go_wp2_with fail
  have bl := Below.refl w.heap.size w
  refine (K1.out _ if0 ig0).mono ?_; rintro e w1 ⟨p1, c1, rfl, v1, m1, i1, hb⟩
  have if1 := if0.call hb; have ig1 := ig0.call hb; have ih1 := ih0.call hb; have bl := BelowOn bl hb
  go_wp2_with fail
  refine (K2.out _ _ _ i1 ih1).mono ?_; rintro e w2 ⟨p2, c2, rfl, v2, m2, i2, hb⟩
  have if1 := if1.call hb; have ig1 := ig1.call hb; have ih1 := ih1.call hb; have bl := BelowOn bl hb
  go_wp2_with fail
  refine (K3.out _ ig1 ih1).mono ?_; rintro e w3 ⟨p3, c3, rfl, v3, m3, i3, hb⟩
  have if1 := if1.call hb; have ig1 := ig1.call hb; have ih1 := ih1.call hb; have i2 := i2.call hb; have bl := BelowOn bl hb
  go_wp2_with fail
  refine (K4.out _ _ _ if1 i3).mono ?_; rintro e w4 ⟨p4, c4, rfl, v4, m4, i4, hb⟩
  have if1 := if1.call hb; have ig1 := ig1.call hb; have ih1 := ih1.call hb; have i2 := i2.call hb; have bl := BelowOn bl hb
  go_wp2_with fail
  refine (Q1.out _ _ _ _ _ i2 i4 v2 v4 m2 m4).mono ?_; rintro e w5 ⟨rfl, hb⟩
  have if1 := if1.call hb; have ig1 := ig1.call hb; have ih1 := ih1.call hb; have i2 := i2.call hb; have i4 := i4.call hb; have bl := BelowOn bl hb
  go_wp2_with fail
  refine (K5.out _ if1 (Its.nil _ _)).mono ?_; rintro e w6 ⟨p6, c6, rfl, v6, m6, i6, hb⟩
  have if1 := if1.call hb; have ig1 := ig1.call hb; have ih1 := ih1.call hb; have i2 := i2.call hb; have i4 := i4.call hb; have bl := BelowOn bl hb
  go_wp2_with fail
  refine (K6.out _ if1).mono ?_; rintro e w7 ⟨p7, c7, rfl, v7, m7, i7, hb⟩
  have if1 := if1.call hb; have ig1 := ig1.call hb; have ih1 := ih1.call hb; have i2 := i2.call hb; have i4 := i4.call hb; have i6 := i6.call hb; have bl := BelowOn bl hb
  go_wp2_with fail
  refine (Q2.out _ _ _ _ _ i6 i7 v6 v7 m6 m7).mono ?_; rintro e w8 ⟨rfl, hb⟩
  have if1 := if1.call hb; have ig1 := ig1.call hb; have ih1 := ih1.call hb; have i2 := i2.call hb; have i4 := i4.call hb; have bl := BelowOn bl hb
  go_wp2_with fail
  refine (Y3.out _ _ _ i2 v2 m2).mono ?_; rintro e w9 ⟨rfl, hb⟩
  have if1 := if1.call hb; have ig1 := ig1.call hb; have ih1 := ih1.call hb; have i2 := i2.call hb; have i4 := i4.call hb; have bl := BelowOn bl hb
  go_wp2_with fail
  refine (Y0.out _ if1).mono ?_; rintro e w10 ⟨rfl, hb⟩
  have if1 := if1.call hb; have ig1 := ig1.call hb; have ih1 := ih1.call hb; have i2 := i2.call hb; have i4 := i4.call hb; have bl := BelowOn bl hb
  go_wp2_with fail
  refine (Y1.out _ ig1).mono ?_; rintro e w11 ⟨rfl, hb⟩
  have if1 := if1.call hb; have ig1 := ig1.call hb; have ih1 := ih1.call hb; have i2 := i2.call hb; have i4 := i4.call hb; have bl := BelowOn bl hb
  go_wp2_with fail
  refine (Y2.out _ ih1).mono ?_; rintro e w12 ⟨rfl, hb⟩
  have if1 := if1.call hb; have ig1 := ig1.call hb; have ih1 := ih1.call hb; have i2 := i2.call hb; have i4 := i4.call hb; have bl := BelowOn bl hb
  go_wp2_with fail
  refine (Z3.out _ _ _ i2 v2 m2).mono ?_; rintro e w13 ⟨rfl, hb⟩
  have if1 := if1.call hb; have ig1 := ig1.call hb; have ih1 := ih1.call hb; have i2 := i2.call hb; have i4 := i4.call hb; have bl := BelowOn bl hb
  go_wp2_with fail
  refine (Z0.out _ if1).mono ?_; rintro e w14 ⟨rfl, hb⟩
  have if1 := if1.call hb; have ig1 := ig1.call hb; have ih1 := ih1.call hb; have i2 := i2.call hb; have i4 := i4.call hb; have bl := BelowOn bl hb
  go_wp2_with fail
  refine (Z1.out _ ig1).mono ?_; rintro e w15 ⟨rfl, hb⟩
  have if1 := if1.call hb; have ig1 := ig1.call hb; have ih1 := ih1.call hb; have i2 := i2.call hb; have i4 := i4.call hb; have bl := BelowOn bl hb
  go_wp2_with fail
  refine (Z2.out _ ih1).mono ?_; rintro e w16 ⟨rfl, hb⟩
  have if1 := if1.call hb; have ig1 := ig1.call hb; have ih1 := ih1.call hb; have i2 := i2.call hb; have i4 := i4.call hb; have bl := BelowOn bl hb
  go_wp2_with fail
  refine (known_any _).mono ?_; rintro e w17 ⟨rfl, hb⟩
  have bl := BelowOn bl hb
  go_wp2_with fail
  go_ret
  exact ⟨rfl, bl⟩

theorem concats_any (p : Option Addr) (c : Nat) (f : List It) (q : Option Addr) (d : Nat) (g : List It) (r : Option Addr) (b : Nat) (h : List It) (w : World)
    (rf : Its w p f) (of : Oks f) (nf : f.length ≤ c) (mf : c ≤ maxLen) (rg : Its w q g) (og : Oks g) (ng : g.length ≤ d) (mg : d ≤ maxLen) (rh : Its w r h) (oh : Oks h) (nh : h.length ≤ b) (mh : b ≤ maxLen) :
    Calls Try.prog 9 #[.slice p f.length c, .slice q g.length d, .slice r h.length b] w fun e w' => e = .returned (.bool true) ∧ Below w.heap.size w w' := by
  have h0 := few_any p c f w rf of nf mf
  have h1 := few_any q d g w rg og ng mg
  have h2 := few_any r b h w rh oh nh mh
  cases e0 : fewB f
  · rw [e0] at h0
    have H0 := Lib.hid h0; clear h0 h1 h2 e0
    go_enter Try.func9, Try.ntmps9
    go_wp2_with fail
    refine (H0.out).mono ?_; rintro e w1 ⟨rfl, rfl⟩
    go_wp2_with fail
    refine (known_any _).mono ?_; rintro e w17 ⟨rfl, hb⟩
    go_wp2_with fail
    go_ret
    exact ⟨rfl, hb⟩
  cases e1 : fewB g
  · rw [e0] at h0; rw [e1] at h1
    have H0 := Lib.hid h0; have H1 := Lib.hid h1; clear h0 h1 h2 e0 e1
    go_enter Try.func9, Try.ntmps9
    go_wp2_with fail
    refine (H0.out).mono ?_; rintro e w1 ⟨rfl, rfl⟩
    go_wp2_with fail
    refine (H1.out).mono ?_; rintro e w1 ⟨rfl, rfl⟩
    go_wp2_with fail
    refine (known_any _).mono ?_; rintro e w17 ⟨rfl, hb⟩
    go_wp2_with fail
    go_ret
    exact ⟨rfl, hb⟩
  cases e2 : fewB h
  · rw [e0] at h0; rw [e1] at h1; rw [e2] at h2
    have H0 := Lib.hid h0; have H1 := Lib.hid h1; have H2 := Lib.hid h2; clear h0 h1 h2 e0 e1 e2
    go_enter Try.func9, Try.ntmps9
    go_wp2_with fail
    refine (H0.out).mono ?_; rintro e w1 ⟨rfl, rfl⟩
    go_wp2_with fail
    refine (H1.out).mono ?_; rintro e w1 ⟨rfl, rfl⟩
    go_wp2_with fail
    refine (H2.out).mono ?_; rintro e w1 ⟨rfl, rfl⟩
    go_wp2_with fail
    refine (known_any _).mono ?_; rintro e w17 ⟨rfl, hb⟩
    go_wp2_with fail
    go_ret
    exact ⟨rfl, hb⟩
  · rw [e0] at h0; rw [e1] at h1; rw [e2] at h2
    exact concats_few p q r c d b f g h w rf rg rh nf mf ng mg nh mh h0 h1 h2 (Sm.of e0) (Sm.of e1) (Sm.of e2)
end Go.Proofs.Ytnfapcfajoboaaa
