/- The walk of PatternJoins. -/
import Derived.Test.YtdnofpllmhnacaaApp
namespace Go.Proofs.Ytdnofpllmhnacaa
open Go.ChangeShapes Go.WideShapes Go.ChangeAt Go.RowKit Go.Sort
set_option linter.unusedVariables false
set_option linter.unusedSimpArgs false
set_option maxRecDepth 100000

/-- Two patterns that the law owns, and nothing old has turned. -/
structure Two (w : World) (P Q : List At) (v u : Value) (W : World) : Prop where
  a : OwA w.heap.size P v W
  b : OwA w.heap.size Q u W
  bel : Below w.heap.size w W
theorem Two.call {w : World} {P Q : List At} {v u : Value} {W W' : World} (h : Two w P Q v u W) (g : Below W.heap.size W W') : Two w P Q v u W' := ⟨h.a.call g, h.b.call g, BelowOn h.bel g⟩
theorem ext_le (s : ByteArray) (i j : Nat) (n : Nat) (h : s.size ≤ n) : (s.extract i j).size ≤ n := by
  rw [ByteArray.size_extract]; omega
theorem grow_none {w w' : World} (g : w.grownBy w' none) : Below w.heap.size w w' := ⟨g.os, g.tape, g.output, g.size, fun {i} hi => g.block i hi (by simp)⟩
def JnR (w : World) (P Q : List At) (v u : Value) (s : ByteArray) (x i : Value) (wr : World) : Prop :=
  ∃ k : Nat, k ≤ s.size + 1 ∧ i = .int .i64 k ∧ x = .bool (joinF P Q (byt s) k) ∧ Two w P Q v u wr
theorem tx_size (L : List Int) : (mkB (tx L)).size ≤ 24 := by
  rw [mkB_size]; unfold tx; rw [tx_len]; unfold txN; omega

set_option maxHeartbeats 3200000 in
theorem joins_any (p0 : Option Addr) (c0 : Nat) (a0 : List Int) (p1 : Option Addr) (c1 : Nat) (a1 : List Int) (p2 : Option Addr) (c2 : Nat) (a2 : List Int) (w : World)
    (r0 : Ones w (Value.int .i64) p0 a0) (o0 : wfs a0) (n0 : a0.length ≤ c0) (m0 : c0 ≤ maxLen) (r1 : Ones w (Value.int .i64) p1 a1) (o1 : wfs a1) (n1 : a1.length ≤ c1) (m1 : c1 ≤ maxLen) (r2 : Ones w (Value.int .i64) p2 a2) (o2 : wfs a2) (n2 : a2.length ≤ c2) (m2 : c2 ≤ maxLen) :
    Calls Try.prog 9 #[.slice p0 a0.length c0, .slice p1 a1.length c1, .slice p2 a2.length c2] w fun e w' => e = .returned (.bool true) ∧ Below w.heap.size w w' := by
  have KN := Lib.hid known_any
  by_cases hbig : a0.length ≤ 40 ∧ a1.length ≤ 40
  · obtain ⟨h1, h2⟩ := hbig
    have q1 : decide (40 < a0.length) = false := decide_eq_false (by omega)
    have q2 : decide (40 < a1.length) = false := decide_eq_false (by omega)
    have k0 := fun W h => made_any p0 c0 a0 W h o0 n0 m0
    have k1 := fun W h => made_any p1 c1 a1 W h o1 n1 m1
    have k2 := fun W h => text_any p2 c2 a2 W h o2 n2 m2
    have l0 := mk_len a0; have l1 := mk_len a1; have l2 := tx_size a2
    generalize mkF a0 = P at *
    generalize mkF a1 = Q at *
    generalize mkB (tx a2) = s at *
    unfold maxLen at m0 m1 m2
    have K0 := Lib.hid k0; have K1 := Lib.hid k1; have K2 := Lib.hid k2
    have HR := Lib.hid (And.intro r0 (And.intro r1 r2)); clear k0 k1 k2 r0 r1 r2 o0 o1 o2
    go_enter Try.func9, Try.ntmps9
    go_wp2_with fail
    refine (K0.out _ HR.out.1).mono ?_; rintro e w1 ⟨v1, rfl, ow1, b1⟩
    have O1 := Lib.hid (And.intro ow1 b1); clear ow1 b1
    go_wp2_with fail
    refine (K1.out _ (HR.out.2.1.call O1.out.2)).mono ?_; rintro e w2 ⟨v2, rfl, ow2, b2⟩
    have O2 := Lib.hid (show Two w P Q v1 v2 w2 from ⟨O1.out.1.call b2, ow2.mono O1.out.2.size, BelowOn O1.out.2 b2⟩); clear ow2 b2
    go_wp2_with fail
    refine (K2.out _ (HR.out.2.2.call O2.out.bel)).mono ?_; rintro e w3 ⟨rfl, b3⟩
    have O3 := Lib.hid (O2.out.call b3); clear b3 O2 O1
    go_wp2_with fail
    go_loopw [10, 11] (fun x i wr => JnR w P Q v1 v2 s x i wr) (fun _ i _ => s.size + 1 - (intOf i).toNat)
    case atStart => exact ⟨0, Nat.zero_le _, rfl, rfl, O3.out⟩
    case round =>
      clear O3
      obtain ⟨k, hk, rfl, rfl, hT⟩ := hrel
      have HT := Lib.hid hT; clear hT
      by_cases hle : k ≤ s.size
      · have qk : decide (k ≤ s.size) = true := decide_eq_true hle
        have hnx : joinF P Q (byt s) (k + 1) = (joinF P Q (byt s) k || (matchF P ((byt s).take k) && matchF Q ((byt s).drop k))) := rfl
        have e1 := ext_le s 0 k 24 l2
        have e2 := ext_le s k s.size 24 l2
        have kp := fun W (h : OwA w.heap.size P v1 W) => match_own h (by omega) (s.extract 0 k) (by omega)
        have kq := fun W (h : OwA w.heap.size Q v2 W) => match_own h (by omega) (s.extract k s.size) (by omega)
        rw [byt_to] at kp; rw [byt_from] at kq
        generalize joinF P Q (byt s) k = x at *
        generalize matchF P ((byt s).take k) = y at *
        generalize matchF Q ((byt s).drop k) = z at *
        have HNX := Lib.hid hnx; have KP := Lib.hid kp; have KQ := Lib.hid kq; clear hnx kp kq
        cases x
        · go_wp2_with fail
          refine (KP.out _ HT.out.a).mono ?_; rintro e w4 ⟨rfl, b4⟩
          have H4 := Lib.hid (HT.out.call b4); clear b4 HT
          cases y
          · go_wp2_with fail
            go_roundw
            case rel => exact ⟨k + 1, by omega, by go_num, by rw [HNX.out]; rfl, H4.out⟩
            case measure => simp [intOf]; omega
          · go_wp2_with fail
            refine (KQ.out _ H4.out.b).mono ?_; rintro e w5 ⟨rfl, b5⟩
            have H5 := Lib.hid (H4.out.call b5); clear b5 H4
            go_wp2_with fail
            go_roundw
            case rel => exact ⟨k + 1, by omega, by go_num, by rw [HNX.out]; rfl, H5.out⟩
            case measure => simp [intOf]; omega
        · go_wp2_with fail
          go_roundw
          case rel => exact ⟨k + 1, by omega, by go_num, by rw [HNX.out]; rfl, HT.out⟩
          case measure => simp [intOf]; omega
      · obtain rfl : k = s.size + 1 := by omega
        have qk : decide (s.size + 1 ≤ s.size) = false := decide_eq_false hle
        have hj := join_all P Q (byt s)
        rw [byt_len] at hj
        rw [hj]
        have hlen : (P ++ Q).length ≤ 10 := by rw [List.length_append]; omega
        generalize hPQ : P ++ Q = R at *
        have HPQ := Lib.hid hPQ; clear hPQ hj
        obtain ⟨p, cp, rfl, hcp, hcm, hats, _⟩ := HT.out.a.ats
        obtain ⟨q, cq, rfl, hcq, hcn, hatq, _⟩ := HT.out.b.ats
        have hnil := OwA.nil wr w.heap.size
        have HX := Lib.hid (And.intro hats (And.intro hatq hnil)); clear hats hatq hnil
        have hwz := HT.out.bel.size
        go_upto_region 9 with fail
        go_wp2_with (at_builtin; first | (refine wpl_catA (by rfl) _ _ (by rfl) w.heap.size [] P _ (by rfl) HX.out.2.2 p _ cp (by rfl) (by rfl) HX.out.1 hwz (by simp; omega) ?_; intro v5 w5 o5 g5) | (refine wpl_catA (by rfl) _ _ (by rfl) w.heap.size P Q v5 (by rfl) o5 q _ cq (by rfl) (by rfl) (HX.out.2.1.call (grow_none g5)) (Nat.le_trans hwz g5.size) (by omega) ?_; intro v6 w6 o6 g6))
        rw [HPQ.out] at o6
        have b5 := BelowOn HT.out.bel (grow_none g5)
        have b6 := OwA.below (show OwA w.heap.size P v5 w5 from o5) b5 b5.size g6
        have H6 := Lib.hid (And.intro o6 b6); clear o5 g5 o6 g6 b5 b6
        have km := fun W (h : OwA w.heap.size R v6 W) => match_own h (by omega) s (by omega)
        generalize matchF R (byt s) = y at *
        have KM := Lib.hid km; clear km
        go_wp2_with fail
        refine (KM.out _ H6.out.1).mono ?_; rintro e w7 ⟨rfl, b7⟩
        have B7 := Lib.hid (BelowOn H6.out.2 b7); clear b7
        have qy : (y == y) = true := by simp
        go_wp2_with fail
        refine (KN.out _).mono ?_; rintro e w8 ⟨rfl, b8⟩
        have B8 := Lib.hid (BelowOn B7.out b8); clear b8
        go_wp2_with fail
        go_ret
        exact ⟨rfl, B8.out⟩
  · by_cases h1 : a0.length ≤ 40
    · have q1 : decide (40 < a0.length) = false := decide_eq_false (by omega)
      have q2 : decide (40 < a1.length) = true := decide_eq_true (by omega)
      go_enter Try.func9, Try.ntmps9
      go_wp2_with fail
      refine (KN.out _).mono ?_; rintro e w8 ⟨rfl, b8⟩
      go_wp2_with fail
      go_ret
      exact ⟨rfl, b8⟩
    · have q1 : decide (40 < a0.length) = true := decide_eq_true (by omega)
      go_enter Try.func9, Try.ntmps9
      go_wp2_with fail
      refine (KN.out _).mono ?_; rintro e w8 ⟨rfl, b8⟩
      go_wp2_with fail
      go_ret
      exact ⟨rfl, b8⟩
end Go.Proofs.Ytdnofpllmhnacaa
