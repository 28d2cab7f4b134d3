/- The walk of ItemRenames. -/
import Derived.Test.YtnfapcfajoboaaaCan
import Derived.Test.YtnfapcfajoboaaaCcW
namespace Go.Proofs.Ytnfapcfajoboaaa
open Go.ChangeShapes Go.WideShapes Go.ChangeAt Go.RowKit
set_option linter.unusedVariables false
set_option maxRecDepth 100000

set_option maxHeartbeats 3200000 in
theorem renames_few (p q r s : Option Addr) (c d b e : Nat) (f g : List It) (fr to : List Int) (w : World) (rf : Its w p f) (rg : Its w q g) (of : Oks f) (og : Oks g) (rr : Ones w (Value.int .i64) r fr) (rt : Ones w (Value.int .i64) s to)
    (hw : ∀ i (h : i < fr.length), (Lit.int .i64 (fr[i]'h)).wf = true)
    (nf : f.length ≤ c) (mf : c ≤ maxLen) (ng : g.length ≤ d) (mg : d ≤ maxLen) (nr : fr.length ≤ b) (mr : b ≤ maxLen) (nt : to.length ≤ e) (mt : e ≤ maxLen) (l1 : fr.length ≤ 60) (l2 : to.length ≤ 60)
    (h0 : Calls Try.prog 22 #[.slice p f.length c] w fun e w' => e = .returned (.bool true) ∧ w = w')
    (h1 : Calls Try.prog 22 #[.slice q g.length d] w fun e w' => e = .returned (.bool true) ∧ w = w')
    (sf : Sm 1 f) (sg : Sm 1 g) :
    Calls Try.prog 13 #[.slice p f.length c, .slice q g.length d, .slice r fr.length b, .slice s to.length e] w fun e w' => e = .returned (.bool true) ∧ Below w.heap.size w w' := by
  have f1 := sf.len; have f2 := sf.txt; have g1 := sg.len; have g2 := sg.txt
  have k1 := fun W i j => canonical_any p c f q d g W i j of og nf mf ng mg (by omega) (by omega)
  have k2 := fun W i j => rcanonical_any p c f q d g W i j nf mf ng mg (by omega) (by omega)
  have k3 := fun W i j k => rename_f p r s c b e f fr to W i j k of hw nf mf nr mr nt mt (by omega) (by omega) (by omega)
  have k4 := fun W i j k => rrename_f p r s c b e f fr to W i j k nf mf nr mr nt mt (by omega) (by omega) (by omega)
  generalize norm (renL (upPairs (numsL (f ++ g))) f) = X at *
  generalize norm (renL (upPairs (numsL (f ++ g))) g) = Y at *
  generalize norm (renL (fr.zip to) f) = Z at *
  have S1 := fun W x x' y y' i i' a a' m m' => rsame_any x x' y y' X X W i i' a a' m m'
  have S2 := fun W x x' y y' i i' a a' m m' => rsame_any x x' y y' Y Y W i i' a a' m m'
  have S3 := fun W x x' y y' i i' a a' m m' => rsame_any x x' y y' Z Z W i i' a a' m m'
  rw [decide_eq_true rfl] at S1 S2 S3
  have q1 : decide (60 < fr.length) = false := decide_eq_false (by omega)
  have q2 : decide (60 < to.length) = false := decide_eq_false (by omega)
  have H0 := Lib.hid h0; have H1 := Lib.hid h1
  have K1 := Lib.hid k1; have K2 := Lib.hid k2; have K3 := Lib.hid k3; have K4 := Lib.hid k4
  have Q1 := Lib.hid S1; have Q2 := Lib.hid S2; have Q3 := Lib.hid S3
  clear h0 h1 k1 k2 k3 k4 S1 S2 S3 hw sf sg f1 f2 g1 g2
  go_enter Try.func13, Try.ntmps13
  go_wp2_with fail
  refine (H0.out).mono ?_; rintro e w1 ⟨rfl, rfl⟩
  go_wp2_with fail
  refine (H1.out).mono ?_; rintro e w1 ⟨rfl, rfl⟩
  go_wp2_with fail
  refine (K1.out _ rf rg).mono ?_; rintro e w1 ⟨p1, c1, p2, c2, rfl, a1, b1, a2, b2, i1, i2, hb⟩
  have rf := rf.call hb; have rg := rg.call hb; have rr := rr.call hb; have rt := rt.call hb; have bl := hb
  go_wp2_with fail
  refine (K2.out _ rf rg).mono ?_; rintro e w2 ⟨p3, c3, p4, c4, rfl, a3, b3, a4, b4, i3, i4, hb⟩
  have rf := rf.call hb; have rr := rr.call hb; have rt := rt.call hb; have i1 := i1.call hb; have i2 := i2.call hb; have bl := BelowOn bl hb
  go_wp2_with fail
  refine (K3.out _ rf rr rt).mono ?_; rintro e w3 ⟨p5, c5, rfl, a5, b5, i5, hb⟩
  have rf := rf.call hb; have rr := rr.call hb; have rt := rt.call hb; have i1 := i1.call hb; have i2 := i2.call hb; have i3 := i3.call hb; have i4 := i4.call hb; have bl := BelowOn bl hb
  go_wp2_with fail
  refine (K4.out _ rf rr rt).mono ?_; rintro e w4 ⟨p6, c6, rfl, a6, b6, i6, hb⟩
  have i1 := i1.call hb; have i2 := i2.call hb; have i3 := i3.call hb; have i4 := i4.call hb; have i5 := i5.call hb; have bl := BelowOn bl hb
  go_wp2_with fail
  refine (Q3.out _ _ _ _ _ i5 i6 a5 a6 b5 b6).mono ?_; rintro e w5 ⟨rfl, hb⟩
  have i1 := i1.call hb; have i2 := i2.call hb; have i3 := i3.call hb; have i4 := i4.call hb; have bl := BelowOn bl hb
  go_wp2_with fail
  refine (Q1.out _ _ _ _ _ i1 i3 a1 a3 b1 b3).mono ?_; rintro e w6 ⟨rfl, hb⟩
  have i2 := i2.call hb; have i4 := i4.call hb; have bl := BelowOn bl hb
  go_wp2_with fail
  refine (Q2.out _ _ _ _ _ i2 i4 a2 a4 b2 b4).mono ?_; rintro e w7 ⟨rfl, hb⟩
  have bl := BelowOn bl hb
  go_wp2_with fail
  refine (known_any _).mono ?_; rintro e w8 ⟨rfl, hb⟩
  have bl := BelowOn bl hb
  go_wp2_with fail
  go_ret
  exact ⟨rfl, bl⟩

theorem renames_any (p : Option Addr) (c : Nat) (f : List It) (q : Option Addr) (d : Nat) (g : List It) (r : Option Addr) (b : Nat) (fr : List Int) (s : Option Addr) (e : Nat) (to : List Int) (w : World)
    (rf : Its w p f) (of : Oks f) (nf : f.length ≤ c) (mf : c ≤ maxLen) (rg : Its w q g) (og : Oks g) (ng : g.length ≤ d) (mg : d ≤ maxLen)
    (rr : Ones w (Value.int .i64) r fr) (hw : ∀ i (h : i < fr.length), (Lit.int .i64 (fr[i]'h)).wf = true) (nr : fr.length ≤ b) (mr : b ≤ maxLen) (rt : Ones w (Value.int .i64) s to) (nt : to.length ≤ e) (mt : e ≤ maxLen) :
    Calls Try.prog 13 #[.slice p f.length c, .slice q g.length d, .slice r fr.length b, .slice s to.length e] w fun e w' => e = .returned (.bool true) ∧ Below w.heap.size w w' := by
  have h0 := few_any p c f w rf of nf mf
  have h1 := few_any q d g w rg og ng mg
  cases e0 : fewB f
  · rw [e0] at h0
    have H0 := Lib.hid h0; clear h0 h1 e0
    go_enter Try.func13, Try.ntmps13
    go_wp2_with fail
    refine (H0.out).mono ?_; rintro e w1 ⟨rfl, rfl⟩
    go_wp2_with fail
    refine (known_any _).mono ?_; rintro e w17 ⟨rfl, hb⟩
    go_wp2_with fail
    go_ret
    exact ⟨rfl, hb⟩
  cases e1 : fewB g
  · rw [e0] at h0; rw [e1] at h1
    have H0 := Lib.hid h0; have H1 := Lib.hid h1; clear h0 h1 e0 e1
    go_enter Try.func13, Try.ntmps13
    go_wp2_with fail
    refine (H0.out).mono ?_; rintro e w1 ⟨rfl, rfl⟩
    go_wp2_with fail
    refine (H1.out).mono ?_; rintro e w1 ⟨rfl, rfl⟩
    go_wp2_with fail
    refine (known_any _).mono ?_; rintro e w17 ⟨rfl, hb⟩
    go_wp2_with fail
    go_ret
    exact ⟨rfl, hb⟩
  rw [e0] at h0; rw [e1] at h1
  by_cases l1 : fr.length ≤ 60
  · by_cases l2 : to.length ≤ 60
    · exact renames_few p q r s c d b e f g fr to w rf rg of og rr rt hw nf mf ng mg nr mr nt mt l1 l2 h0 h1 (Sm.of e0) (Sm.of e1)
    · have l3 : 60 < to.length := by omega
      have H0 := Lib.hid h0; have H1 := Lib.hid h1; clear h0 h1 e0 e1 l2
      go_enter Try.func13, Try.ntmps13
      go_wp2_with fail
      refine (H0.out).mono ?_; rintro e w1 ⟨rfl, rfl⟩
      go_wp2_with fail
      refine (H1.out).mono ?_; rintro e w1 ⟨rfl, rfl⟩
      go_wp2_with fail
      refine (known_any _).mono ?_; rintro e w17 ⟨rfl, hb⟩
      go_wp2_with fail
      go_ret
      exact ⟨rfl, hb⟩
  · have l3 : 60 < fr.length := by omega
    have H0 := Lib.hid h0; have H1 := Lib.hid h1; clear h0 h1 e0 e1 l1
    go_enter Try.func13, Try.ntmps13
    go_wp2_with fail
    refine (H0.out).mono ?_; rintro e w1 ⟨rfl, rfl⟩
    go_wp2_with fail
    refine (H1.out).mono ?_; rintro e w1 ⟨rfl, rfl⟩
    go_wp2_with fail
    refine (known_any _).mono ?_; rintro e w17 ⟨rfl, hb⟩
    go_wp2_with fail
    go_ret
    exact ⟨rfl, hb⟩
end Go.Proofs.Ytnfapcfajoboaaa
