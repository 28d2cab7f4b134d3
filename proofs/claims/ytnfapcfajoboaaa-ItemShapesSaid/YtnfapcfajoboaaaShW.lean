/- The walk of ItemShapes. -/
import Derived.Test.YtnfapcfajoboaaaMad
import Derived.Test.YtnfapcfajoboaaaKno
namespace Go.Proofs.Ytnfapcfajoboaaa
open Go.ChangeShapes Go.WideShapes Go.ChangeAt Go.RowKit
set_option linter.unusedVariables false
set_option maxRecDepth 100000

theorem EndSh.zero {l : List It} {w w' : World} {e : Ending} (hl : shL l = some ([], [])) (h : EndSh (shL l) w e w') : ∃ p1 c1 p2 c2, e = .returned (.tuple #[.slice p1 0 c1, .slice p2 0 c2, .bool true]) ∧ Below w.heap.size w w' := by
  rw [hl] at h
  obtain ⟨p1, c1, p2, c2, he, _, _, _, _, _, _, hb⟩ := EndSh.u h
  exact ⟨p1, c1, p2, c2, he, hb⟩

set_option maxHeartbeats 3200000 in
theorem shapes_few (p : Option Addr) (c : Nat) (f : List It) (q : Option Addr) (d : Nat) (l : List Int) (w : World)
    (rf : Its w p f) (of : Oks f) (nf : f.length ≤ c) (mf : c ≤ maxLen)
    (rl : Ones w (Value.int .i64) q l) (ol : ∀ i (h : i < l.length), (Lit.int .i64 (l[i]'h)).wf = true) (nl : l.length ≤ d) (ml : d ≤ maxLen)
    (ll : l.length ≤ 100)
    (hf : Calls Try.prog 22 #[.slice p f.length c] w fun e w' => e = .returned (.bool true) ∧ w = w') (sf : Sm 1 f) :
    Calls Try.prog 10 #[.slice p f.length c, .slice q l.length d] w fun e w' => e = .returned (.bool true) ∧ Below w.heap.size w w' := by
  have f1 := sf.len; have f2 := sf.txt
  have k1 := fun W i => (shape_any p c f W i nf mf (by omega)).mono fun _ _ x => EndSh.u x
  have k2 := fun W i => (rshape_any p c f W i nf mf (by omega)).mono fun _ _ x => EndSh.u x
  have m1 := fun W i => made_f q d l true true W i ol nl ml
  have m2 := fun W i => made_f q d l true false W i ol nl ml
  have z1 := (mk_sm l true true).len; have z2 := (mk_sm l true false).len
  have k3 := fun W x y i a m => (shape_any x y (mk l true true) W i a m (by omega)).mono fun _ _ x => EndSh.zero (frag_shape l true 0 8) x
  have k4 := fun W x y i a m => (shape_any x y (mk l true false) W i a m (by omega)).mono fun _ _ x => EndSh.u x
  have k5 := fun W x y i a m => (rshape_any x y (mk l true false) W i a m (by omega)).mono fun _ _ x => EndSh.u x
  unfold EndShU at k1 k2 k4 k5
  generalize mk l true true = X at *
  generalize mk l true false = Y at *
  generalize shC (shL f) = C1 at *; generalize shO (shL f) = O1 at *; generalize (shL f).isSome = B1 at *
  generalize shC (shL Y) = C2 at *; generalize shO (shL Y) = O2 at *; generalize (shL Y).isSome = B2 at *
  have SC := fun W x x' y y' i i' a a' m m' => sameints_any x x' y y' C1 C1 W i i' a a' m m'
  have SO := fun W x x' y y' i i' a a' m m' => sameints_any x x' y y' O1 O1 W i i' a a' m m'
  have SD := fun W x x' y y' i i' a a' m m' => sameints_any x x' y y' C2 C2 W i i' a a' m m'
  have SP := fun W x x' y y' i i' a a' m m' => sameints_any x x' y y' O2 O2 W i i' a a' m m'
  rw [decide_eq_true rfl] at SC SO SD SP
  have K1 := Lib.hid k1; have K2 := Lib.hid k2; have K3 := Lib.hid k3; have K4 := Lib.hid k4; have K5 := Lib.hid k5; have M1 := Lib.hid m1; have M2 := Lib.hid m2
  have QC := Lib.hid SC; have QO := Lib.hid SO; have QD := Lib.hid SD; have QP := Lib.hid SP
  clear k1 k2 k3 k4 k5 m1 m2 SC SO SD SP ol f1 f2 z1 z2
  have ql : decide (100 < l.length) = false := decide_eq_false (by omega)
  have Hf := Lib.hid hf
  clear hf sf
  go_enter Try.func10, Try.ntmps10
  go_wp2_with fail
  refine (Hf.out).mono ?_; rintro e w0 ⟨rfl, rfl⟩
  go_wp2_with fail
  refine (K1.out _ rf).mono ?_; rintro e w1 ⟨p1, c1, p2, c2, rfl, a1, b1, i1, a2, b2, i2, hb⟩
  have rf := rf.call hb; have rl := rl.call hb; have bl := hb
  go_wp2_with fail
  refine (K2.out _ rf).mono ?_; rintro e w2 ⟨p3, c3, p4, c4, rfl, a3, b3, i3, a4, b4, i4, hb⟩
  have rl := rl.call hb; have i1 := i1.call hb; have i2 := i2.call hb; have bl := BelowOn bl hb
  go_wp2_with fail
  refine (QC.out _ _ _ _ _ i1 i3 a1 a3 b1 b3).mono ?_; rintro e w3 ⟨rfl, hb⟩
  have rl := rl.call hb; have i2 := i2.call hb; have i4 := i4.call hb; have bl := BelowOn bl hb
  go_wp2_with fail
  refine (QO.out _ _ _ _ _ i2 i4 a2 a4 b2 b4).mono ?_; rintro e w4 ⟨rfl, hb⟩
  have rl := rl.call hb; have bl := BelowOn bl hb
  go_wp2_with fail
  refine (M1.out _ rl).mono ?_; rintro e w5 ⟨p5, c5, rfl, a5, b5, i5, hb⟩
  have rl := rl.call hb; have bl := BelowOn bl hb
  go_wp2_with fail
  refine (K3.out _ _ _ i5 a5 b5).mono ?_; rintro e w6 ⟨p6, c6, p7, c7, rfl, hb⟩
  have rl := rl.call hb; have bl := BelowOn bl hb
  go_wp2_with fail
  refine (M2.out _ rl).mono ?_; rintro e w7 ⟨p8, c8, rfl, a8, b8, i8, hb⟩
  have bl := BelowOn bl hb
  go_wp2_with fail
  refine (K4.out _ _ _ i8 a8 b8).mono ?_; rintro e w8 ⟨p9, c9, p10, c10, rfl, a9, b9, i9, a10, b10, i10, hb⟩
  have i8 := i8.call hb; have bl := BelowOn bl hb
  go_wp2_with fail
  refine (K5.out _ _ _ i8 a8 b8).mono ?_; rintro e w9 ⟨p11, c11, p12, c12, rfl, a11, b11, i11, a12, b12, i12, hb⟩
  have i9 := i9.call hb; have i10 := i10.call hb; have bl := BelowOn bl hb
  go_wp2_with fail
  refine (QD.out _ _ _ _ _ i9 i11 a9 a11 b9 b11).mono ?_; rintro e w10 ⟨rfl, hb⟩
  have i10 := i10.call hb; have i12 := i12.call hb; have bl := BelowOn bl hb
  go_wp2_with fail
  refine (QP.out _ _ _ _ _ i10 i12 a10 a12 b10 b12).mono ?_; rintro e w11 ⟨rfl, hb⟩
  have bl := BelowOn bl hb
  go_wp2_with fail
  refine (known_any _).mono ?_; rintro e w12 ⟨rfl, hb⟩
  have bl := BelowOn bl hb
  go_wp2_with fail
  go_ret
  exact ⟨rfl, bl⟩

set_option maxHeartbeats 3200000 in
theorem shapes_any (p : Option Addr) (c : Nat) (f : List It) (q : Option Addr) (d : Nat) (l : List Int) (w : World)
    (rf : Its w p f) (of : Oks f) (nf : f.length ≤ c) (mf : c ≤ maxLen)
    (rl : Ones w (Value.int .i64) q l) (ol : ∀ i (h : i < l.length), (Lit.int .i64 (l[i]'h)).wf = true) (nl : l.length ≤ d) (ml : d ≤ maxLen) :
    Calls Try.prog 10 #[.slice p f.length c, .slice q l.length d] w fun e w' => e = .returned (.bool true) ∧ Below w.heap.size w w' := by
  have hf := few_any p c f w rf of nf mf
  cases ef : fewB f
  · rw [ef] at hf
    have Hf := Lib.hid hf
    clear hf ef
    go_enter Try.func10, Try.ntmps10
    go_wp2_with fail
    refine (Hf.out).mono ?_; rintro e w0 ⟨rfl, rfl⟩
    go_wp2_with fail
    refine (known_any _).mono ?_; rintro e w17 ⟨rfl, hb⟩
    go_wp2_with fail
    go_ret
    exact ⟨rfl, hb⟩
  rw [ef] at hf
  by_cases ll : l.length ≤ 100
  case neg =>
    have zl : 100 < l.length := by omega
    have Hf := Lib.hid hf
    clear hf  ef ll
    go_enter Try.func10, Try.ntmps10
    go_wp2_with fail
    refine (Hf.out).mono ?_; rintro e w0 ⟨rfl, rfl⟩
    go_wp2_with fail
    refine (known_any _).mono ?_; rintro e w17 ⟨rfl, hb⟩
    go_wp2_with fail
    go_ret
    exact ⟨rfl, hb⟩
  exact shapes_few p c f q d l w rf of nf mf rl ol nl ml ll hf (Sm.of ef)
end Go.Proofs.Ytnfapcfajoboaaa
