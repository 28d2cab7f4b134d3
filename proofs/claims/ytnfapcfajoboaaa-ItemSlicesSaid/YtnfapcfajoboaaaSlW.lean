/- The walk of ItemSlices. -/
import Derived.Test.YtnfapcfajoboaaaMad
import Derived.Test.YtnfapcfajoboaaaKno
import Derived.Test.YtnfapcfajoboaaaSlm
import Derived.Test.YtnfapcfajoboaaaRsl
import Derived.Test.YtnfapcfajoboaaaCcW
namespace Go.Proofs.Ytnfapcfajoboaaa
open Go.ChangeShapes Go.WideShapes Go.ChangeAt Go.RowKit
set_option linter.unusedVariables false
set_option maxRecDepth 100000

/-- What Slice answers, as a slice and a bool. -/
def EndSlF (L : List It) (b : Bool) (w : World) (e : Ending) (w' : World) : Prop := ∃ p c, e = .returned (.tuple #[.slice p L.length c, .bool b]) ∧ L.length ≤ c ∧ c ≤ maxLen ∧ Its w' p L ∧ Below w.heap.size w w'
theorem EndSl.f {L : List It} {b : Bool} {w w' : World} {e : Ending} (h : EndSl L b w e w') : EndSlF L b w e w' := by
  obtain ⟨v, rfl, hA⟩ := h
  obtain ⟨p, c, rfl, h1, h2, hI⟩ := hA.own.its
  exact ⟨p, c, rfl, h1, h2, hI, hA.below⟩
theorem EndSl.yes {l : List It} {x y : Int} {a b : Nat} {w w' : World} {e : Ending} (h : EndSl (sliceI l x y) (sliceOk l x y) w e w') (hx : x = (a : Int) ∧ y = (b : Int)) (hab : a ≤ b ∧ b ≤ lenI l) : EndSlF (slI l 0 a b) true w e w' := by
  obtain ⟨rfl, rfl⟩ := hx
  have hok : sliceOk l (a : Int) (b : Int) = true := by unfold sliceOk; exact decide_eq_true (by omega)
  have hs : sliceI l (a : Int) (b : Int) = slI l 0 a b := by unfold sliceI; rw [hok]; rfl
  rw [hok, hs] at h
  exact EndSl.f h

set_option maxHeartbeats 3200000 in
theorem slices_few (p : Option Addr) (c : Nat) (f : List It) (q : Option Addr) (d : Nat) (l : List Int) (u : Int) (v : Int) (w : World)
    (rf : Its w p f) (of : Oks f) (nf : f.length ≤ c) (mf : c ≤ maxLen)
    (rl : Ones w (Value.int .i64) q l) (ol : ∀ i (h : i < l.length), (Lit.int .i64 (l[i]'h)).wf = true) (nl : l.length ≤ d) (ml : d ≤ maxLen)
    (wu : (Lit.int .i64 u).wf = true)
    (wv : (Lit.int .i64 v).wf = true)
    (ll : l.length ≤ 100)
    (hf : Calls Try.prog 22 #[.slice p f.length c] w fun e w' => e = .returned (.bool true) ∧ w = w') (sf : Sm 1 f) :
    Calls Try.prog 8 #[.slice p f.length c, .slice q l.length d, .int .i64 u, .int .i64 v] w fun e w' => e = .returned (.bool true) ∧ Below w.heap.size w w' := by
  have f1 := sf.len; have f2 := sf.txt
  have f3 := sf.lenI
  have k1 := fun W i => (slice_any p c f u v W i of nf mf (by omega) (by omega)).mono fun _ _ x => EndSl.f x
  have k2 := fun W i => (rslice_any p c f u v W i of nf mf (by omega) (by omega)).mono fun _ _ x => EndSl.f x
  unfold EndSlF at k1 k2
  generalize sliceI f u v = X at *
  generalize sliceOk f u v = B at *
  have q1 := fun W x x' y y' i i' a a' m m' => rsame_any x x' y y' X X W i i' a a' m m'
  rw [decide_eq_true rfl] at q1
  have m1 := fun W i => made_f q d l true false W i ol nl ml
  have gok := mk_ok l true false
  have gv := gok.valid (by decide)
  have g1 := gok.len; have g2 := gok.txt; have g3 := gok.lenI
  have go := oks_valid gok.e (by omega)
  have gn := norm_valid _ gok.e
  unfold EndF at m1
  generalize mk l true false = G at *
  have l1 := fun W x y i a m => length_any x y G W i a m (by omega)
  have hn1 : lenI G ≤ 200 := g3
  generalize hn : lenI G = n at *
  have p1 := fun W => place_any u ((n : Int) + 1) W (by omega) (by omega) wu
  have e0 := Int.emod_nonneg u (show (n : Int) + 1 ≠ 0 by omega)
  have e1 := Int.emod_lt_of_pos u (show (0 : Int) < (n : Int) + 1 by omega)
  generalize u % ((n : Int) + 1) = I at *
  obtain ⟨i, rfl⟩ := Int.eq_ofNat_of_zero_le e0
  have p2 := fun W => place_any v ((n : Int) - (i : Int) + 1) W (by omega) (by omega) wv
  have e2 := Int.emod_nonneg v (show (n : Int) - (i : Int) + 1 ≠ 0 by omega)
  have e3 := Int.emod_lt_of_pos v (show (0 : Int) < (n : Int) - (i : Int) + 1 by omega)
  generalize v % ((n : Int) - (i : Int) + 1) = J at *
  obtain ⟨j, rfl⟩ := Int.eq_ofNat_of_zero_le e2
  have k3 := fun W x y h a m => (slice_any x y G 0 (i : Int) W h go a m (by omega) (by omega)).mono fun _ _ x => EndSl.yes (a := 0) (b := i) x (by omega) (by omega)
  have k4 := fun W x y h a m => (slice_any x y G (i : Int) ((i : Int) + (j : Int)) W h go a m (by omega) (by omega)).mono fun _ _ x => EndSl.yes (a := i) (b := i + j) x (by omega) (by omega)
  have k5 := fun W x y h a m => (slice_any x y G ((i : Int) + (j : Int)) (n : Int) W h go a m (by omega) (by omega)).mono fun _ _ x => EndSl.yes (a := i + j) (b := n) x (by omega) (by omega)
  unfold EndSlF at k3 k4 k5
  have t0 := norm_three G i (i + j) n (by omega) (by omega) (by omega)
  have t1 := plain_three G i (i + j) n (by omega) (by omega) (by omega)
  have t2 := lenI_sl G 0 i (i + j)
  have vA := sl_valid gv 0 i; have vB := sl_valid gv i (i + j); have vC := sl_valid gv (i + j) n
  have xA := txt_sl G 0 0 i; have xB := txt_sl G 0 i (i + j); have xC := txt_sl G 0 (i + j) n
  have yA := slI_len G 0 0 i; have yB := slI_len G 0 i (i + j); have yC := slI_len G 0 (i + j) n
  have sA := lenI_sl G 0 0 i; have sC := lenI_sl G 0 (i + j) n
  have oA : Oks (slI G 0 0 i) := oks_valid (err_sl G 0 i gok.e).1 (by omega)
  have oB : Oks (slI G 0 i (i + j)) := oks_valid (err_sl G i (i + j) gok.e).1 (by omega)
  have oC : Oks (slI G 0 (i + j) n) := oks_valid (err_sl G (i + j) n gok.e).1 (by omega)
  generalize slI G 0 0 i = A at *
  generalize slI G 0 i (i + j) = D at *
  generalize slI G 0 (i + j) n = E at *
  have smA : Sm 1 A := ⟨by omega, by omega⟩
  have smD : Sm 1 D := ⟨by omega, by omega⟩
  have smE : Sm 1 E := ⟨by omega, by omega⟩
  have v1 := fun W x y h a m => validate_any x y A W h oA a m
  have v2 := fun W x y h a m => validate_any x y D W h oB a m
  have v3 := fun W x y h a m => validate_any x y E W h oC a m
  rw [vA] at v1; rw [vB] at v2; rw [vC] at v3
  have l2 := fun W x y i a m => length_any x y D W i a m (by omega)
  rw [show lenI D = j by omega] at l2
  have c1 := fun W x y x' y' h h' => concat_f x x' y y' A D W h h' smA smD (by decide)
  have c2 := fun W x y x' y' h h' => concat_f x x' y y' (norm (A ++ D)) E W h h' (smA.cat smD) smE (by decide)
  rw [t0, gn] at c2
  unfold EndF at c1 c2
  have q2 := fun W x x' y y' i i' a a' m m' => rsame_any x x' y y' G G W i i' a a' m m'
  rw [decide_eq_true rfl] at q2
  have z1 := fun W x y i a m => plain_any x y A W i a m (by omega)
  have z2 := fun W x y i a m => plain_any x y D W i a m (by omega)
  have z3 := fun W x y i a m => plain_any x y E W i a m (by omega)
  have z4 := fun W x y i a m => plain_any x y G W i a m (by omega)
  rw [← t1, show (⟨(plainL A ++ plainL D ++ plainL E).toArray⟩ : ByteArray) = ⟨(plainL A).toArray⟩ ++ ⟨(plainL D).toArray⟩ ++ ⟨(plainL E).toArray⟩ by apply ByteArray.ext; simp] at z4
  have u0 := plain_size smA; have u1 := plain_size smD; have u2 := plain_size smE
  generalize (⟨(plainL A).toArray⟩ : ByteArray) = tA at *
  generalize (⟨(plainL D).toArray⟩ : ByteArray) = tD at *
  generalize (⟨(plainL E).toArray⟩ : ByteArray) = tE at *
  generalize norm (A ++ D) = Y at *
  have K1 := Lib.hid k1; have K2 := Lib.hid k2; have K3 := Lib.hid k3; have K4 := Lib.hid k4; have K5 := Lib.hid k5; have M1 := Lib.hid m1
  have Q1 := Lib.hid q1; have Q2 := Lib.hid q2; have L1 := Lib.hid l1; have L2 := Lib.hid l2; have P1 := Lib.hid p1; have P2 := Lib.hid p2
  have V1 := Lib.hid v1; have V2 := Lib.hid v2; have V3 := Lib.hid v3; have C1 := Lib.hid c1; have C2 := Lib.hid c2
  have Z1 := Lib.hid z1; have Z2 := Lib.hid z2; have Z3 := Lib.hid z3; have Z4 := Lib.hid z4
  clear k1 k2 k3 k4 k5 m1 q1 q2 l1 l2 p1 p2 v1 v2 v3 c1 c2 z1 z2 z3 z4 t0 t1 t2 vA vB vC gn gv gok go hn sA sC smA smD smE ol of f1 f2 f3 wu wv g1 g2 g3 xA xB xC yA yB yC oA oB oC
  have ql : decide (100 < l.length) = false := decide_eq_false (by omega)
  have Hf := Lib.hid hf
  clear hf sf
  go_enter Try.func8, Try.ntmps8
  go_wp2_with fail
  refine (Hf.out).mono ?_; rintro e w0 ⟨rfl, rfl⟩
  go_wp2_with fail
  refine (K1.out _ rf).mono ?_; rintro e w1 ⟨p1, c1, rfl, a1, b1, i1, hb⟩
  have rf := rf.call hb; have rl := rl.call hb; have bl := hb
  go_wp2_with fail
  refine (K2.out _ rf).mono ?_; rintro e w2 ⟨p2, c2, rfl, a2, b2, i2, hb⟩
  have rl := rl.call hb; have i1 := i1.call hb; have bl := BelowOn bl hb
  go_wp2_with fail
  refine (Q1.out _ _ _ _ _ i1 i2 a1 a2 b1 b2).mono ?_; rintro e w3 ⟨rfl, hb⟩
  have rl := rl.call hb; have bl := BelowOn bl hb
  go_wp2_with fail
  refine (M1.out _ rl).mono ?_; rintro e w4 ⟨p3, c3, rfl, a3, b3, i3, hb⟩
  have bl := BelowOn bl hb
  go_wp2_with fail
  refine (L1.out _ _ _ i3 a3 b3).mono ?_; rintro e w5 ⟨rfl, hb⟩
  have i3 := i3.call hb; have bl := BelowOn bl hb
  go_wp2_with fail
  refine (P1.out _).mono ?_; rintro e w6 ⟨rfl, rfl⟩
  go_wp2_with fail
  refine (P2.out _).mono ?_; rintro e w7 ⟨rfl, rfl⟩
  go_wp2_with fail
  refine (K3.out _ _ _ i3 a3 b3).mono ?_; rintro e w8 ⟨p4, c4, rfl, a4, b4, i4, hb⟩
  have i3 := i3.call hb; have bl := BelowOn bl hb
  go_wp2_with fail
  refine (K4.out _ _ _ i3 a3 b3).mono ?_; rintro e w9 ⟨p5, c5, rfl, a5, b5, i5, hb⟩
  have i3 := i3.call hb; have i4 := i4.call hb; have bl := BelowOn bl hb
  go_wp2_with fail
  refine (K5.out _ _ _ i3 a3 b3).mono ?_; rintro e w10 ⟨p6, c6, rfl, a6, b6, i6, hb⟩
  have i3 := i3.call hb; have i4 := i4.call hb; have i5 := i5.call hb; have bl := BelowOn bl hb
  go_wp2_with fail
  refine (V1.out _ _ _ i4 a4 b4).mono ?_; rintro e w11 ⟨rfl, hb⟩
  have i3 := i3.call hb; have i4 := i4.call hb; have i5 := i5.call hb; have i6 := i6.call hb; have bl := BelowOn bl hb
  go_wp2_with fail
  refine (V2.out _ _ _ i5 a5 b5).mono ?_; rintro e w12 ⟨rfl, hb⟩
  have i3 := i3.call hb; have i4 := i4.call hb; have i5 := i5.call hb; have i6 := i6.call hb; have bl := BelowOn bl hb
  go_wp2_with fail
  refine (V3.out _ _ _ i6 a6 b6).mono ?_; rintro e w13 ⟨rfl, hb⟩
  have i3 := i3.call hb; have i4 := i4.call hb; have i5 := i5.call hb; have i6 := i6.call hb; have bl := BelowOn bl hb
  go_wp2_with fail
  refine (L2.out _ _ _ i5 a5 b5).mono ?_; rintro e w14 ⟨rfl, hb⟩
  have i3 := i3.call hb; have i4 := i4.call hb; have i5 := i5.call hb; have i6 := i6.call hb; have bl := BelowOn bl hb
  go_wp2_with fail
  refine (C1.out _ _ _ _ _ i4 i5).mono ?_; rintro e w15 ⟨p7, c7, rfl, a7, b7, i7, hb⟩
  have i3 := i3.call hb; have i4 := i4.call hb; have i5 := i5.call hb; have i6 := i6.call hb; have bl := BelowOn bl hb
  go_wp2_with fail
  refine (C2.out _ _ _ _ _ i7 i6).mono ?_; rintro e w16 ⟨p8, c8, rfl, a8, b8, i8, hb⟩
  have i3 := i3.call hb; have i4 := i4.call hb; have i5 := i5.call hb; have i6 := i6.call hb; have bl := BelowOn bl hb
  go_wp2_with fail
  refine (Q2.out _ _ _ _ _ i8 i3 a8 a3 b8 b3).mono ?_; rintro e w17 ⟨rfl, hb⟩
  have i3 := i3.call hb; have i4 := i4.call hb; have i5 := i5.call hb; have i6 := i6.call hb; have bl := BelowOn bl hb
  go_wp2_with fail
  refine (Z1.out _ _ _ i4 a4 b4).mono ?_; rintro e w18 ⟨rfl, hb⟩
  have i3 := i3.call hb; have i5 := i5.call hb; have i6 := i6.call hb; have bl := BelowOn bl hb
  go_wp2_with fail
  refine (Z2.out _ _ _ i5 a5 b5).mono ?_; rintro e w19 ⟨rfl, hb⟩
  have i3 := i3.call hb; have i6 := i6.call hb; have bl := BelowOn bl hb
  go_wp2_with fail
  refine (Z3.out _ _ _ i6 a6 b6).mono ?_; rintro e w20 ⟨rfl, hb⟩
  have i3 := i3.call hb; have bl := BelowOn bl hb
  go_wp2_with fail
  refine (Z4.out _ _ _ i3 a3 b3).mono ?_; rintro e w21 ⟨rfl, hb⟩
  have bl := BelowOn bl hb
  go_wp2_with fail
  refine (known_any _).mono ?_; rintro e w22 ⟨rfl, hb⟩
  have bl := BelowOn bl hb
  go_wp2_with fail
  go_ret
  exact ⟨rfl, bl⟩

set_option maxHeartbeats 3200000 in
theorem slices_any (p : Option Addr) (c : Nat) (f : List It) (q : Option Addr) (d : Nat) (l : List Int) (u : Int) (v : Int) (w : World)
    (rf : Its w p f) (of : Oks f) (nf : f.length ≤ c) (mf : c ≤ maxLen)
    (rl : Ones w (Value.int .i64) q l) (ol : ∀ i (h : i < l.length), (Lit.int .i64 (l[i]'h)).wf = true) (nl : l.length ≤ d) (ml : d ≤ maxLen)
    (wu : (Lit.int .i64 u).wf = true)
    (wv : (Lit.int .i64 v).wf = true) :
    Calls Try.prog 8 #[.slice p f.length c, .slice q l.length d, .int .i64 u, .int .i64 v] w fun e w' => e = .returned (.bool true) ∧ Below w.heap.size w w' := by
  have hf := few_any p c f w rf of nf mf
  cases ef : fewB f
  · rw [ef] at hf
    have Hf := Lib.hid hf
    clear hf ef
    go_enter Try.func8, Try.ntmps8
    go_wp2_with fail
    refine (Hf.out).mono ?_; rintro e w0 ⟨rfl, rfl⟩
    go_wp2_with fail
    refine (known_any _).mono ?_; rintro e w17 ⟨rfl, hb⟩
    go_wp2_with fail
    go_ret
    exact ⟨rfl, hb⟩
  rw [ef] at hf
  by_cases ll : l.length ≤ 100
  case neg =>
    have zl : 100 < l.length := by omega
    have Hf := Lib.hid hf
    clear hf  ef ll
    go_enter Try.func8, Try.ntmps8
    go_wp2_with fail
    refine (Hf.out).mono ?_; rintro e w0 ⟨rfl, rfl⟩
    go_wp2_with fail
    refine (known_any _).mono ?_; rintro e w17 ⟨rfl, hb⟩
    go_wp2_with fail
    go_ret
    exact ⟨rfl, hb⟩
  exact slices_few p c f q d l u v w rf of nf mf rl ol nl ml wu wv ll hf (Sm.of ef)
end Go.Proofs.Ytnfapcfajoboaaa
