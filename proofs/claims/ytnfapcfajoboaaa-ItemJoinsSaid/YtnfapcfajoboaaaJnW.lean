/- The walk of ItemJoins. -/
import Derived.Test.YtnfapcfajoboaaaCpt
import Derived.Test.YtnfapcfajoboaaaKno
import Derived.Test.YtnfapcfajoboaaaCcW
namespace Go.Proofs.Ytnfapcfajoboaaa
open Go.ChangeShapes Go.WideShapes Go.ChangeAt Go.RowKit
set_option linter.unusedVariables false
set_option maxRecDepth 100000

/-- What Slice answers, and where it lies. -/
def EndSlA (L : List It) (b : Bool) (w : World) (e : Ending) (w' : World) : Prop := ∃ p c, e = .returned (.tuple #[.slice p L.length c, .bool b]) ∧ L.length ≤ c ∧ c ≤ maxLen ∧ Its w' p L ∧ (∀ a, p = some a → w.heap.size ≤ a.block) ∧ Below w.heap.size w w'
theorem EndSl.yesA {l : List It} {x y : Int} {a b : Nat} {w w' : World} {e : Ending} (h : EndSl (sliceI l x y) (sliceOk l x y) w e w') (hx : x = (a : Int) ∧ y = (b : Int)) (hab : a ≤ b ∧ b ≤ lenI l) : EndSlA (slI l 0 a b) true w e w' := by
  obtain ⟨rfl, rfl⟩ := hx
  have hok : sliceOk l (a : Int) (b : Int) = true := by unfold sliceOk; exact decide_eq_true (by omega)
  have hs : sliceI l (a : Int) (b : Int) = slI l 0 a b := by unfold sliceI; rw [hok]; rfl
  rw [hok, hs] at h
  obtain ⟨v, rfl, hA⟩ := h
  obtain ⟨p, c, rfl, h1, h2, hI⟩ := hA.own.its
  exact ⟨p, c, rfl, h1, h2, hI, fun a ha => (OwnL.addr hA.own a ha).1, hA.below⟩
theorem target_h (pn : Option Addr) (cn : Nat) (L : List Int) (m : Nat) (p : Option Addr) (cap : Nat) (l : List It) (W : World) {b : Nat} (hN : NumsAt W b pn cn L m) (hm : m ≤ 100000)
    (hI : Its W p l) (hpb : ∀ a, p = some a → a.block ≠ b) (hc : l.length ≤ cap) (hcm : cap ≤ maxLen) (hl : l.length ≤ 1000) (ht : txtI l ≤ 1000000) :
    Calls Try.prog 49 #[.pointer (some ⟨b, 0, none⟩), .slice p l.length cap] W fun e w' => ∃ p' c', e = .returned (.slice p' (tarL L m l).1.length c') ∧ (tarL L m l).1.length ≤ c' ∧ c' ≤ maxLen ∧ Its w' p' (tarL L m l).1 ∧ (∀ a, p' = some a → W.heap.size ≤ a.block) ∧ NumsAt w' b pn cn L (tarL L m l).2 ∧ W.grownBy w' (some b) :=
  target_g b pn cn L m p cap l W hN (fun a ha h0 => ones_any hN.ones h0 a ha) hm hI hpb hc hcm hl ht

set_option maxHeartbeats 3200000 in
theorem joins_few (r : Option Addr) (e : Nat) (l : List Int) (s : Option Addr) (h : Nat) (m : List Int) (u : Int) (w : World)
    (rl : Ones w (Value.int .i64) r l) (ol : ∀ i (h : i < l.length), (Lit.int .i64 (l[i]'h)).wf = true) (nl : l.length ≤ e) (ml : e ≤ maxLen)
    (rm : Ones w (Value.int .i64) s m) (om : ∀ i (h : i < m.length), (Lit.int .i64 (m[i]'h)).wf = true) (nm : m.length ≤ h) (mm : h ≤ maxLen)
    (wu : (Lit.int .i64 u).wf = true)
    (ll : l.length ≤ 100)
    (lm : m.length ≤ 100) :
    Calls Try.prog 12 #[.slice r l.length e, .slice s m.length h, .int .i64 u] w fun e w' => e = .returned (.bool true) ∧ Below w.heap.size w w' := by
  have m1 := fun W i => made_fa r e l true true W i ol nl ml
  have gok := mk_ok l true true
  have gsh : shL (mk l true true) = some ([], []) := frag_shape l true 0 8
  have g1 := gok.len; have g2 := gok.txt; have g3 := gok.lenI
  have go := oks_valid gok.e (by omega)
  unfold EndFA at m1
  generalize mk l true true = G at *
  have l1 := fun W x y i a m => rlength_any x y G W i a m (by omega)
  have hn1 : lenI G ≤ 200 := g3
  generalize hn : lenI G = n at *
  have p1 := fun W => place_any u ((n : Int) + 1) W (by omega) (by omega) wu
  have e0 := Int.emod_nonneg u (show (n : Int) + 1 ≠ 0 by omega)
  have e1 := Int.emod_lt_of_pos u (show (0 : Int) < (n : Int) + 1 by omega)
  generalize u % ((n : Int) + 1) = I at *
  obtain ⟨i, rfl⟩ := Int.eq_ofNat_of_zero_le e0
  have k3 := fun W x y h a m => (slice_any x y G 0 (i : Int) W h go a m (by omega) (by omega)).mono fun _ _ x => EndSl.yesA (a := 0) (b := i) x (by omega) (by omega)
  have k4 := fun W x y h a m => (slice_any x y G (i : Int) (n : Int) W h go a m (by omega) (by omega)).mono fun _ _ x => EndSl.yesA (a := i) (b := n) x (by omega) (by omega)
  unfold EndSlA at k3 k4
  have lk := like_slices G i n (by omega) (by omega)
  have xA := txt_sl G 0 0 i; have xD := txt_sl G 0 i n
  have yA := slI_len G 0 0 i; have yD := slI_len G 0 i n
  have oA : Oks (slI G 0 0 i) := oks_valid (err_sl G 0 i gok.e).1 (by omega)
  have oD : Oks (slI G 0 i n) := oks_valid (err_sl G i n gok.e).1 (by omega)
  generalize slI G 0 0 i = A at *
  generalize slI G 0 i n = D at *
  have tA := tar_size m 0 A
  have lA := like_tar m 0 A
  have kA := kid_tar m 0 A oA.kid
  have ta := fun W b x y a b2 c d e => target_h s h m 0 x y A W a (by omega) (b := b) b2 c d e (by omega) (by omega)
  generalize hst : tarL m 0 A = st at *
  obtain ⟨S, mu⟩ := st
  dsimp only at tA lA kA ta
  have tD := tar_size m mu D
  have lD := like_tar m mu D
  have kD := kid_tar m mu D oD.kid
  have tb := fun W b x y a b2 c d e => target_h s h m mu x y D W a (by omega) (b := b) b2 c d e (by omega) (by omega)
  generalize hst2 : tarL m mu D = st2 at *
  obtain ⟨T, mv⟩ := st2
  dsimp only at tD lD kD tb
  have oS := oks_kid kA (by omega)
  have oT := oks_kid kD (by omega)
  have hAD : (shL (A ++ D)).isSome = true := by rw [lk.sh, gsh]; rfl
  obtain ⟨hA1, hD1⟩ := sh_parts A D hAD
  have lY : Like (norm (S ++ T)) G := (like_norm _).trans ((lA.append lD).trans lk)
  have cA : compL A S = true := by rw [lA.comp', lA.sh, hA1]
  have cD : compL D T = true := by rw [lD.comp', lD.sh, hD1]
  have cG : compL G (norm (S ++ T)) = true := by rw [lY.comp', lY.sh, gsh]; rfl
  have smS : Sm 1 S := ⟨by omega, by omega⟩
  have smT : Sm 1 T := ⟨by omega, by omega⟩
  have smY := smS.cat smT
  have y1 := smY.len; have y2 := smY.txt
  have oY : Oks (norm (S ++ T)) := oks_kid (kid_norm _ (fun z hz => (List.mem_append.1 hz).elim (kA z) (kD z))) (by omega)
  have cc := fun W x y x' y' h h' => concat_f x x' y y' S T W h h' smS smT (by decide)
  unfold EndF at cc
  have c1 := fun W x y x' y' i j a a' b b' => compat_any x x' y y' A S W i j oA oS a a' b b' (by omega) (by omega)
  have c2 := fun W x y x' y' i j a a' b b' => compat_any x x' y y' D T W i j oD oT a a' b b' (by omega) (by omega)
  generalize norm (S ++ T) = Y at *
  have c3 := fun W x y x' y' i j a a' b b' => compat_any x x' y y' G Y W i j go oY a a' b b' (by omega) (by omega)
  rw [cA] at c1; rw [cD] at c2; rw [cG] at c3
  have C1 := Lib.hid c1; have C2 := Lib.hid c2; have C3 := Lib.hid c3; have CC := Lib.hid cc; have M1 := Lib.hid m1; have TA := Lib.hid ta; have TB := Lib.hid tb
  have L1 := Lib.hid l1; have P1 := Lib.hid p1; have K3 := Lib.hid k3; have K4 := Lib.hid k4
  have OM := Lib.hid om; have NM := Lib.hid nm; have MM := Lib.hid mm
  clear c1 c2 c3 cc m1 ta tb l1 p1 k3 k4 cA cD cG lY hA1 hD1 hAD oS oT oY smS smT smY y1 y2 tA lA kA tD lD kD hst hst2 oA oD xA xD yA yD lk gok gsh g1 g2 g3 go hn ol om wu
  have ql : decide (100 < l.length) = false := decide_eq_false (by omega)
  have qm : decide (100 < m.length) = false := decide_eq_false (by omega)
  go_enter Try.func12, Try.ntmps12
  go_wp2_with fail
  refine (M1.out _ rl).mono ?_; rintro e w1 ⟨p1, c1, rfl, a1, b1, i1, j1, hb⟩
  have rm := rm.call hb; have bl := hb
  have sw := bl.size
  have nn : NumsAt (w1.alloc (.cells #[.slice s m.length h, .int .i64 0] 38)) w1.heap.size s h m 0 := NumsAt.made rm OM.out NM.out MM.out
  have i1 := i1.call (blw (Below.refl _ _) (.cells #[.slice s m.length h, .int .i64 0] 38))
  have bl := blw bl (.cells #[.slice s m.length h, .int .i64 0] 38)
  have j1 : ∀ a, p1 = some a → a.block ≠ w1.heap.size := fun a ha => by have := j1 a ha; omega
  go_wp2_with fail
  refine (L1.out _ _ _ i1 a1 b1).mono ?_; rintro e w2 ⟨rfl, rfl⟩
  go_wp2_with fail
  refine (P1.out _).mono ?_; rintro e w3 ⟨rfl, rfl⟩
  have lt2 := nn.lt
  go_wp2_with fail
  refine (K3.out _ _ _ i1 a1 b1).mono ?_; rintro e w4 ⟨p2, c2, rfl, a2, b2, i2, j2, hb⟩
  have i1 := i1.call hb; have nn := nn.call hb; have bl := BelowOn bl hb
  have j2 : ∀ a, p2 = some a → a.block ≠ w1.heap.size := fun a ha => by have := j2 a ha; omega
  go_wp2_with fail
  refine (L1.out _ _ _ i1 a1 b1).mono ?_; rintro e w5 ⟨rfl, rfl⟩
  have lt3 := nn.lt
  go_wp2_with fail
  refine (K4.out _ _ _ i1 a1 b1).mono ?_; rintro e w6 ⟨p3, c3, rfl, a3, b3, i3, j3, hb⟩
  have i1 := i1.call hb; have nn := nn.call hb; have i2 := i2.call hb; have bl := BelowOn bl hb
  have j3 : ∀ a, p3 = some a → a.block ≠ w1.heap.size := fun a ha => by have := j3 a ha; omega
  go_wp2_with fail
  have ltN := nn.lt
  refine (TA.out _ _ _ _ nn i2 j2 a2 b2).mono ?_; rintro e w7 ⟨p4, c4, rfl, a4, b4, i4, j4, nn, hg⟩
  have j4 : ∀ a, p4 = some a → a.block ≠ w1.heap.size := fun a ha => by have := j4 a ha; omega
  have i1 := i1.other hg j1
  have i2 := i2.other hg j2
  have i3 := i3.other hg j3
  have bl := bl.grown hg bl.size (fun j hj => by cases hj; exact sw)
  go_wp2_with fail
  have ltN := nn.lt
  refine (TB.out _ _ _ _ nn i3 j3 a3 b3).mono ?_; rintro e w8 ⟨p5, c5, rfl, a5, b5, i5, j5, nn, hg⟩
  have j5 : ∀ a, p5 = some a → a.block ≠ w1.heap.size := fun a ha => by have := j5 a ha; omega
  have i1 := i1.other hg j1
  have i2 := i2.other hg j2
  have i3 := i3.other hg j3
  have i4 := i4.other hg j4
  have bl := bl.grown hg bl.size (fun j hj => by cases hj; exact sw)
  go_wp2_with fail
  refine (C1.out _ _ _ _ _ i2 i4 a2 a4 b2 b4).mono ?_; rintro e w9 ⟨rfl, hb⟩
  have i1 := i1.call hb; have i3 := i3.call hb; have i4 := i4.call hb; have i5 := i5.call hb; have bl := BelowOn bl hb
  go_wp2_with fail
  refine (C2.out _ _ _ _ _ i3 i5 a3 a5 b3 b5).mono ?_; rintro e w10 ⟨rfl, hb⟩
  have i1 := i1.call hb; have i4 := i4.call hb; have i5 := i5.call hb; have bl := BelowOn bl hb
  go_wp2_with fail
  refine (CC.out _ _ _ _ _ i4 i5).mono ?_; rintro e w11 ⟨p6, c6, rfl, a6, b6, i6, hb⟩
  have i1 := i1.call hb; have bl := BelowOn bl hb
  go_wp2_with fail
  refine (C3.out _ _ _ _ _ i1 i6 a1 a6 b1 b6).mono ?_; rintro e w12 ⟨rfl, hb⟩
  have bl := BelowOn bl hb
  go_wp2_with fail
  refine (known_any _).mono ?_; rintro e w13 ⟨rfl, hb⟩
  have bl := BelowOn bl hb
  go_wp2_with fail
  go_ret
  exact ⟨rfl, bl⟩

set_option maxHeartbeats 3200000 in
theorem joins_any (r : Option Addr) (e : Nat) (l : List Int) (s : Option Addr) (h : Nat) (m : List Int) (u : Int) (w : World)
    (rl : Ones w (Value.int .i64) r l) (ol : ∀ i (h : i < l.length), (Lit.int .i64 (l[i]'h)).wf = true) (nl : l.length ≤ e) (ml : e ≤ maxLen)
    (rm : Ones w (Value.int .i64) s m) (om : ∀ i (h : i < m.length), (Lit.int .i64 (m[i]'h)).wf = true) (nm : m.length ≤ h) (mm : h ≤ maxLen)
    (wu : (Lit.int .i64 u).wf = true) :
    Calls Try.prog 12 #[.slice r l.length e, .slice s m.length h, .int .i64 u] w fun e w' => e = .returned (.bool true) ∧ Below w.heap.size w w' := by
  by_cases ll : l.length ≤ 100
  case neg =>
    have zl : 100 < l.length := by omega
    go_enter Try.func12, Try.ntmps12
    go_wp2_with fail
    refine (known_any _).mono ?_; rintro e w17 ⟨rfl, hb⟩
    go_wp2_with fail
    go_ret
    exact ⟨rfl, hb⟩
  by_cases lm : m.length ≤ 100
  case neg =>
    have zm : 100 < m.length := by omega
    go_enter Try.func12, Try.ntmps12
    go_wp2_with fail
    refine (known_any _).mono ?_; rintro e w17 ⟨rfl, hb⟩
    go_wp2_with fail
    go_ret
    exact ⟨rfl, hb⟩
  exact joins_few r e l s h m u w rl ol nl ml rm om nm mm wu ll lm
end Go.Proofs.Ytnfapcfajoboaaa
