/- The walk of ItemFits. -/
import Derived.Test.YtnfapcfajoboaaaCpt
import Derived.Test.YtnfapcfajoboaaaKno
import Derived.Test.YtnfapcfajoboaaaCcW
namespace Go.Proofs.Ytnfapcfajoboaaa
open Go.ChangeShapes Go.WideShapes Go.ChangeAt Go.RowKit
set_option linter.unusedVariables false
set_option maxRecDepth 100000

set_option maxHeartbeats 3200000 in
theorem fits_few (p : Option Addr) (c : Nat) (f : List It) (q : Option Addr) (d : Nat) (g : List It) (r : Option Addr) (e : Nat) (l : List Int) (s : Option Addr) (h : Nat) (m : List Int) (w : World)
    (rf : Its w p f) (of : Oks f) (nf : f.length ≤ c) (mf : c ≤ maxLen)
    (rg : Its w q g) (og : Oks g) (ng : g.length ≤ d) (mg : d ≤ maxLen)
    (rl : Ones w (Value.int .i64) r l) (ol : ∀ i (h : i < l.length), (Lit.int .i64 (l[i]'h)).wf = true) (nl : l.length ≤ e) (ml : e ≤ maxLen)
    (rm : Ones w (Value.int .i64) s m) (om : ∀ i (h : i < m.length), (Lit.int .i64 (m[i]'h)).wf = true) (nm : m.length ≤ h) (mm : h ≤ maxLen)
    (ll : l.length ≤ 100)
    (lm : m.length ≤ 100)
    (hf : Calls Try.prog 22 #[.slice p f.length c] w fun e w' => e = .returned (.bool true) ∧ w = w') (sf : Sm 1 f)
    (hg : Calls Try.prog 22 #[.slice q g.length d] w fun e w' => e = .returned (.bool true) ∧ w = w') (sg : Sm 1 g) :
    Calls Try.prog 11 #[.slice p f.length c, .slice q g.length d, .slice r l.length e, .slice s m.length h] w fun e w' => e = .returned (.bool true) ∧ Below w.heap.size w w' := by
  have f1 := sf.len; have f2 := sg.len
  have c1 := fun W i j => compat_any p q c d f g W i j of og nf ng mf mg (by omega) (by omega)
  have c2 := fun W i j => rcompat_any p q c d f g W i j nf ng mf mg (by omega) (by omega)
  generalize compL f g = r1 at *
  have m1 := fun W i => made_fa r e l true false W i ol nl ml
  have gok := mk_ok l true false
  have g1 := gok.len; have g2 := gok.txt
  have go := oks_valid gok.e (by omega)
  generalize mk l true false = G at *
  have tsz := tar_size m 0 G
  have tg := fun W x y i j a b k => target_f s h m x y G W i om nm mm j a b k (by omega) (by omega)
  have like := like_tar m 0 G
  have tk := oks_kid (kid_tar m 0 G go.kid) (by omega)
  have hT1 := like.comp; have hT2 := like.comp'
  rw [like.sh] at hT1 hT2
  generalize (tarL m 0 G).1 = T at *
  have c3 := fun W x y x' y' i j a a' b b' => compat_any x x' y y' G T W i j go tk a a' b b' (by omega) (by omega)
  have c4 := fun W x y x' y' i j a a' b b' => compat_any x x' y y' T G W i j tk go a a' b b' (by omega) (by omega)
  rw [hT2] at c3; rw [hT1] at c4
  have sh := fun W x y i a b => (rshape_any x y G W i a b (by omega)).mono fun _ _ x => EndSh.u x
  unfold EndShU at sh
  unfold EndFA at m1
  generalize (shL G).isSome = B at *
  generalize shC (shL G) = C9 at *; generalize shO (shL G) = O9 at *
  have C1 := Lib.hid c1; have C2 := Lib.hid c2; have C3 := Lib.hid c3; have C4 := Lib.hid c4; have M1 := Lib.hid m1; have TG := Lib.hid tg; have SH := Lib.hid sh
  clear c1 c2 c3 c4 m1 tg sh hT1 hT2 like tk go gok g1 g2 tsz of og ol om f1 f2
  have ql : decide (100 < l.length) = false := decide_eq_false (by omega)
  have qm : decide (100 < m.length) = false := decide_eq_false (by omega)
  have Hf := Lib.hid hf
  have Hg := Lib.hid hg
  clear hf sf hg sg
  go_enter Try.func11, Try.ntmps11
  go_wp2_with fail
  refine (Hf.out).mono ?_; rintro e w0 ⟨rfl, rfl⟩
  go_wp2_with fail
  refine (Hg.out).mono ?_; rintro e w0 ⟨rfl, rfl⟩
  go_wp2_with fail
  refine (M1.out _ rl).mono ?_; rintro e w1 ⟨p1, c1, rfl, a1, b1, i1, j1, hb⟩
  have rf := rf.call hb; have rg := rg.call hb; have rm := rm.call hb; have bl := hb
  go_wp2_with fail
  refine (TG.out _ _ _ rm i1 j1 a1 b1).mono ?_; rintro e w2 ⟨p2, c2, rfl, a2, b2, i2, hb⟩
  have rf := rf.call hb; have rg := rg.call hb; have i1 := i1.call hb; have bl := BelowOn bl hb
  go_wp2_with fail
  refine (SH.out _ _ _ i1 a1 b1).mono ?_; rintro e w3 ⟨q1, d1, q2, d2, rfl, x1, x2, x3, x4, x5, x6, hb⟩
  have rf := rf.call hb; have rg := rg.call hb; have i1 := i1.call hb; have i2 := i2.call hb; have bl := BelowOn bl hb
  go_wp2_with fail
  refine (C1.out _ rf rg).mono ?_; rintro e w4 ⟨rfl, hb⟩
  have rf := rf.call hb; have rg := rg.call hb; have i1 := i1.call hb; have i2 := i2.call hb; have bl := BelowOn bl hb
  go_wp2_with fail
  refine (C2.out _ rf rg).mono ?_; rintro e w5 ⟨rfl, hb⟩
  have i1 := i1.call hb; have i2 := i2.call hb; have bl := BelowOn bl hb
  go_wp2_with fail
  refine (C3.out _ _ _ _ _ i1 i2 a1 a2 b1 b2).mono ?_; rintro e w6 ⟨rfl, hb⟩
  have i1 := i1.call hb; have i2 := i2.call hb; have bl := BelowOn bl hb
  go_wp2_with fail
  refine (C4.out _ _ _ _ _ i2 i1 a2 a1 b2 b1).mono ?_; rintro e w7 ⟨rfl, hb⟩
  have bl := BelowOn bl hb
  go_wp2_with fail
  refine (known_any _).mono ?_; rintro e w8 ⟨rfl, hb⟩
  have bl := BelowOn bl hb
  go_wp2_with fail
  go_ret
  exact ⟨rfl, bl⟩

set_option maxHeartbeats 3200000 in
theorem fits_any (p : Option Addr) (c : Nat) (f : List It) (q : Option Addr) (d : Nat) (g : List It) (r : Option Addr) (e : Nat) (l : List Int) (s : Option Addr) (h : Nat) (m : List Int) (w : World)
    (rf : Its w p f) (of : Oks f) (nf : f.length ≤ c) (mf : c ≤ maxLen)
    (rg : Its w q g) (og : Oks g) (ng : g.length ≤ d) (mg : d ≤ maxLen)
    (rl : Ones w (Value.int .i64) r l) (ol : ∀ i (h : i < l.length), (Lit.int .i64 (l[i]'h)).wf = true) (nl : l.length ≤ e) (ml : e ≤ maxLen)
    (rm : Ones w (Value.int .i64) s m) (om : ∀ i (h : i < m.length), (Lit.int .i64 (m[i]'h)).wf = true) (nm : m.length ≤ h) (mm : h ≤ maxLen) :
    Calls Try.prog 11 #[.slice p f.length c, .slice q g.length d, .slice r l.length e, .slice s m.length h] w fun e w' => e = .returned (.bool true) ∧ Below w.heap.size w w' := by
  have hf := few_any p c f w rf of nf mf
  have hg := few_any q d g w rg og ng mg
  cases ef : fewB f
  · rw [ef] at hf
    have Hf := Lib.hid hf
    clear hf hg ef
    go_enter Try.func11, Try.ntmps11
    go_wp2_with fail
    refine (Hf.out).mono ?_; rintro e w0 ⟨rfl, rfl⟩
    go_wp2_with fail
    refine (known_any _).mono ?_; rintro e w17 ⟨rfl, hb⟩
    go_wp2_with fail
    go_ret
    exact ⟨rfl, hb⟩
  rw [ef] at hf
  cases eg : fewB g
  · rw [eg] at hg
    have Hf := Lib.hid hf
    have Hg := Lib.hid hg
    clear hf hg ef eg
    go_enter Try.func11, Try.ntmps11
    go_wp2_with fail
    refine (Hf.out).mono ?_; rintro e w0 ⟨rfl, rfl⟩
    go_wp2_with fail
    refine (Hg.out).mono ?_; rintro e w0 ⟨rfl, rfl⟩
    go_wp2_with fail
    refine (known_any _).mono ?_; rintro e w17 ⟨rfl, hb⟩
    go_wp2_with fail
    go_ret
    exact ⟨rfl, hb⟩
  rw [eg] at hg
  by_cases ll : l.length ≤ 100
  case neg =>
    have zl : 100 < l.length := by omega
    have Hf := Lib.hid hf
    have Hg := Lib.hid hg
    clear hf hg  ef eg ll
    go_enter Try.func11, Try.ntmps11
    go_wp2_with fail
    refine (Hf.out).mono ?_; rintro e w0 ⟨rfl, rfl⟩
    go_wp2_with fail
    refine (Hg.out).mono ?_; rintro e w0 ⟨rfl, rfl⟩
    go_wp2_with fail
    refine (known_any _).mono ?_; rintro e w17 ⟨rfl, hb⟩
    go_wp2_with fail
    go_ret
    exact ⟨rfl, hb⟩
  by_cases lm : m.length ≤ 100
  case neg =>
    have zm : 100 < m.length := by omega
    have Hf := Lib.hid hf
    have Hg := Lib.hid hg
    clear hf hg  ef eg lm
    go_enter Try.func11, Try.ntmps11
    go_wp2_with fail
    refine (Hf.out).mono ?_; rintro e w0 ⟨rfl, rfl⟩
    go_wp2_with fail
    refine (Hg.out).mono ?_; rintro e w0 ⟨rfl, rfl⟩
    go_wp2_with fail
    refine (known_any _).mono ?_; rintro e w17 ⟨rfl, hb⟩
    go_wp2_with fail
    go_ret
    exact ⟨rfl, hb⟩
  exact fits_few p c f q d g r e l s h m w rf of nf mf rg og ng mg rl ol nl ml rm om nm mm ll lm hf (Sm.of ef) hg (Sm.of eg)
end Go.Proofs.Ytnfapcfajoboaaa
