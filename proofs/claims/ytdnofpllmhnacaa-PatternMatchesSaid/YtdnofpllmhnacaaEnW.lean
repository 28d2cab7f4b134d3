/- The walks of PatternEnds and PatternReverses. -/
import Derived.Test.YtdnofpllmhnacaaSuf
import Derived.Test.YtdnofpllmhnacaaJnW
namespace Go.Proofs.Ytdnofpllmhnacaa
open Go.ChangeShapes Go.WideShapes Go.ChangeAt Go.RowKit Go.Sort
set_option linter.unusedVariables false
set_option linter.unusedSimpArgs false
set_option maxRecDepth 100000

theorem lng_pos (P : List At) (l : List Nat) (k : Nat) : (0 ≤ lngF P l k) ↔ ∃ i, i < k ∧ matchF P (l.take i) = true := by
  induction k with
  | zero => simp [lngF]
  | succ k ih =>
    rw [lngF]
    by_cases h : matchF P (l.take k) = true
    · rw [if_pos h]; exact ⟨fun _ => ⟨k, by omega, h⟩, fun _ => by omega⟩
    · rw [if_neg h, ih]
      constructor
      · rintro ⟨i, h1, h2⟩; exact ⟨i, by omega, h2⟩
      · rintro ⟨i, h1, h2⟩
        by_cases e : i = k
        · subst e; exact absurd h2 h
        · exact ⟨i, by omega, h2⟩
theorem pref_long (P : List At) (l : List Nat) : prefF P l = decide (0 ≤ longF P l) := by
  rw [Bool.eq_iff_iff, decide_eq_true_iff]
  unfold longF prefF
  rw [lng_pos, List.any_eq_true]
  constructor
  · rintro ⟨i, hi, h⟩; exact ⟨i, List.mem_range.1 hi, h⟩
  · rintro ⟨i, hi, h⟩; exact ⟨i, List.mem_range.2 hi, h⟩
/-- Whether one of the first k suffixes matches. -/
def sufK (P : List At) (l : List Nat) : Nat → Bool
  | 0 => false
  | k + 1 => sufK P l k || matchF P (l.drop k)
theorem sufK_iff (P : List At) (l : List Nat) (k : Nat) : sufK P l k = (List.range k).any fun i => matchF P (l.drop i) := by
  induction k with
  | zero => rfl
  | succ k ih => rw [sufK, ih, List.range_succ, List.any_append]; simp
theorem suf_all (P : List At) (l : List Nat) : sufK P l (l.length + 1) = sufF P l := sufK_iff P l _
/-- A pattern that the law owns, and nothing old has turned. -/
structure One (w : World) (P : List At) (v : Value) (W : World) : Prop where
  a : OwA w.heap.size P v W
  bel : Below w.heap.size w W
theorem One.call {w : World} {P : List At} {v : Value} {W W' : World} (h : One w P v W) (g : Below W.heap.size W W') : One w P v W' := ⟨h.a.call g, BelowOn h.bel g⟩
def EnR (w : World) (P : List At) (v : Value) (s : ByteArray) (lg sf i : Value) (wr : World) : Prop :=
  ∃ k : Nat, k ≤ s.size + 1 ∧ i = .int .i64 k ∧ lg = .int .i64 (lngF P (byt s) k) ∧ sf = .bool (sufK P (byt s) k) ∧ One w P v wr

set_option maxHeartbeats 3200000 in
theorem ends_any (p0 : Option Addr) (c0 : Nat) (a0 : List Int) (p1 : Option Addr) (c1 : Nat) (a1 : List Int) (w : World)
    (r0 : Ones w (Value.int .i64) p0 a0) (o0 : wfs a0) (n0 : a0.length ≤ c0) (m0 : c0 ≤ maxLen) (r1 : Ones w (Value.int .i64) p1 a1) (o1 : wfs a1) (n1 : a1.length ≤ c1) (m1 : c1 ≤ maxLen) :
    Calls Try.prog 10 #[.slice p0 a0.length c0, .slice p1 a1.length c1] w fun e w' => e = .returned (.bool true) ∧ Below w.heap.size w w' := by
  have KN := Lib.hid known_any
  by_cases h1 : a0.length ≤ 60
  · have q1 : decide (60 < a0.length) = false := decide_eq_false (by omega)
    have k0 := fun W h => made_any p0 c0 a0 W h o0 n0 m0
    have k2 := fun W h => text_any p1 c1 a1 W h o1 n1 m1
    have l0 := mk_len a0; have l2 := tx_size a1
    generalize mkF a0 = P at *
    generalize mkB (tx a1) = s at *
    unfold maxLen at m0 m1
    have K0 := Lib.hid k0; have K2 := Lib.hid k2
    have HR := Lib.hid (And.intro r0 r1); clear k0 k2 r0 r1 o0 o1
    go_enter Try.func10, Try.ntmps10
    go_wp2_with fail
    refine (K0.out _ HR.out.1).mono ?_; rintro e w1 ⟨v1, rfl, ow1, b1⟩
    have O1 := Lib.hid (show One w P v1 w1 from ⟨ow1, b1⟩); clear ow1 b1
    go_wp2_with fail
    refine (K2.out _ (HR.out.2.call O1.out.bel)).mono ?_; rintro e w3 ⟨rfl, b3⟩
    have O3 := Lib.hid (O1.out.call b3); clear b3 O1
    go_wp2_with fail
    go_loopw [7, 8, 9] (fun lg sf i wr => EnR w P v1 s lg sf i wr) (fun _ _ i _ => s.size + 1 - (intOf i).toNat)
    case atStart => exact ⟨0, Nat.zero_le _, rfl, rfl, rfl, O3.out⟩
    case round =>
      clear O3
      obtain ⟨k, hk, rfl, rfl, rfl, hT⟩ := hrel
      have HT := Lib.hid hT; clear hT
      by_cases hle : k ≤ s.size
      · have qk : decide (k ≤ s.size) = true := decide_eq_true hle
        have hnx : lngF P (byt s) (k + 1) = if matchF P ((byt s).take k) then (k : Int) else lngF P (byt s) k := rfl
        have hnx2 : sufK P (byt s) (k + 1) = (sufK P (byt s) k || matchF P ((byt s).drop k)) := rfl
        have e1 := ext_le s 0 k 24 l2
        have e2 := ext_le s k s.size 24 l2
        have kp := fun W (h : OwA w.heap.size P v1 W) => match_own h (by omega) (s.extract 0 k) (by omega)
        have kq := fun W (h : OwA w.heap.size P v1 W) => match_own h (by omega) (s.extract k s.size) (by omega)
        rw [byt_to] at kp; rw [byt_from] at kq
        generalize sufK P (byt s) k = x at *
        generalize matchF P ((byt s).take k) = y at *
        generalize matchF P ((byt s).drop k) = z at *
        have HNX := Lib.hid hnx; have HNX2 := Lib.hid hnx2; have KP := Lib.hid kp; have KQ := Lib.hid kq; clear hnx hnx2 kp kq
        go_wp2_with fail
        refine (KP.out _ HT.out.a).mono ?_; rintro e w4 ⟨rfl, b4⟩
        have H4 := Lib.hid (HT.out.call b4); clear b4 HT
        cases y
        all_goals
          cases x
          · go_wp2_with fail
            refine (KQ.out _ H4.out.a).mono ?_; rintro e w5 ⟨rfl, b5⟩
            have H5 := Lib.hid (H4.out.call b5); clear b5 H4
            go_wp2_with fail
            go_roundw
            case rel => exact ⟨k + 1, by omega, by go_num, by rw [HNX.out]; rfl, by rw [HNX2.out]; simp, H5.out⟩
            case measure => simp [intOf]; omega
          · go_wp2_with fail
            go_roundw
            case rel => exact ⟨k + 1, by omega, by go_num, by rw [HNX.out]; rfl, by rw [HNX2.out]; rfl, H4.out⟩
            case measure => simp [intOf]; omega
      · obtain rfl : k = s.size + 1 := by omega
        have qk : decide (s.size + 1 ≤ s.size) = false := decide_eq_false hle
        have hj := suf_all P (byt s)
        rw [byt_len] at hj
        rw [hj]
        have kl := fun W (h : OwA w.heap.size P v1 W) => longest_own h (by omega) s (by omega)
        have kp := fun W (h : OwA w.heap.size P v1 W) => prefix_own h (by omega) s (by omega)
        have ks := fun W (h : OwA w.heap.size P v1 W) => suffix_own h (by omega) s (by omega)
        rw [pref_long] at kp
        rw [show longF P (byt s) = lngF P (byt s) (s.size + 1) by unfold longF; rw [byt_len]] at kl kp
        generalize sufF P (byt s) = x at *
        generalize lngF P (byt s) (s.size + 1) = lg at *
        have KL := Lib.hid kl; have KP := Lib.hid kp; have KS := Lib.hid ks; clear kl kp ks hj
        have ql : (lg == lg) = true := by simp
        have qx : (x == x) = true := by simp
        by_cases hlg : 0 ≤ lg
        all_goals
          first | rw [decide_eq_true hlg] at KP | rw [decide_eq_false hlg] at KP
          go_wp2_with fail
          refine (KL.out _ HT.out.a).mono ?_; rintro e w4 ⟨rfl, b4⟩
          have H4 := Lib.hid (HT.out.call b4); clear b4
          go_wp2_with fail
          refine (KP.out _ H4.out.a).mono ?_; rintro e w5 ⟨rfl, b5⟩
          have H5 := Lib.hid (H4.out.call b5); clear b5
          go_wp2_with fail
          refine (KS.out _ H5.out.a).mono ?_; rintro e w6 ⟨rfl, b6⟩
          have H6 := Lib.hid (H5.out.call b6); clear b6
          go_wp2_with fail
          refine (KN.out _).mono ?_; rintro e w8 ⟨rfl, b8⟩
          have B8 := Lib.hid (BelowOn H6.out.bel b8); clear b8
          go_wp2_with fail
          go_ret
          first | exact ⟨rfl, B8.out⟩ | exact ⟨ret_bool (by rw [decide_eq_false (show ¬ (0 ≤ lg) by omega)]; rfl), B8.out⟩
  · have q1 : decide (60 < a0.length) = true := decide_eq_true (by omega)
    go_enter Try.func10, Try.ntmps10
    go_wp2_with fail
    refine (KN.out _).mono ?_; rintro e w8 ⟨rfl, b8⟩
    go_wp2_with fail
    go_ret
    exact ⟨rfl, b8⟩

/-! ### PatternReverses -/
theorem rev_pref (P : List At) (l : List Nat) : prefF P.reverse l.reverse = sufF P l := pref_rev P l
def RwR (w : World) (P : List At) (v : Value) (s : ByteArray) (t i : Value) (wr : World) : Prop :=
  ∃ k : Nat, k ≤ s.size ∧ i = .int .i64 ((k : Int) - 1) ∧ t = .string (mkB ((byt s).drop k).reverse) ∧ One w P v wr
theorem drop_rev (s : ByteArray) (k : Nat) (h : k < s.size) : ((byt s).drop k).reverse = ((byt s).drop (k + 1)).reverse ++ byt (s.extract k (k + 1)) := by
  have hl : k < (byt s).length := by rw [byt_len]; exact h
  rw [byt_extract, List.drop_eq_getElem_cons hl, List.reverse_cons]
  congr 1
  rw [show k + 1 - k = 1 by omega]; rfl
set_option maxHeartbeats 3200000 in
theorem reverses_any (p0 : Option Addr) (c0 : Nat) (a0 : List Int) (p1 : Option Addr) (c1 : Nat) (a1 : List Int) (w : World)
    (r0 : Ones w (Value.int .i64) p0 a0) (o0 : wfs a0) (n0 : a0.length ≤ c0) (m0 : c0 ≤ maxLen) (r1 : Ones w (Value.int .i64) p1 a1) (o1 : wfs a1) (n1 : a1.length ≤ c1) (m1 : c1 ≤ maxLen) :
    Calls Try.prog 8 #[.slice p0 a0.length c0, .slice p1 a1.length c1] w fun e w' => e = .returned (.bool true) ∧ Below w.heap.size w w' := by
  have KN := Lib.hid known_any
  by_cases h1 : a0.length ≤ 60
  · have q1 : decide (60 < a0.length) = false := decide_eq_false (by omega)
    have k0 := fun W h => made_any p0 c0 a0 W h o0 n0 m0
    have k2 := fun W h => text_any p1 c1 a1 W h o1 n1 m1
    have l0 := mk_len a0; have l2 := tx_size a1
    generalize mkF a0 = P at *
    generalize mkB (tx a1) = s at *
    unfold maxLen at m0 m1
    have K0 := Lib.hid k0; have K2 := Lib.hid k2
    have HR := Lib.hid (And.intro r0 r1); clear k0 k2 r0 r1 o0 o1
    go_enter Try.func8, Try.ntmps8
    go_wp2_with fail
    refine (K0.out _ HR.out.1).mono ?_; rintro e w1 ⟨v1, rfl, ow1, b1⟩
    have O1 := Lib.hid (show One w P v1 w1 from ⟨ow1, b1⟩); clear ow1 b1
    go_wp2_with fail
    refine (K2.out _ (HR.out.2.call O1.out.bel)).mono ?_; rintro e w3 ⟨rfl, b3⟩
    have O3 := Lib.hid (O1.out.call b3); clear b3 O1
    go_wp2_with fail
    go_loopw [7, 8] (fun t i wr => RwR w P v1 s t i wr) (fun _ i _ => (intOf i + 1).toNat)
    case atStart => exact ⟨s.size, Nat.le_refl _, rfl, by rw [List.drop_of_length_le (by rw [byt_len]; exact Nat.le_refl _)]; rfl, O3.out⟩
    case round =>
      clear O3
      obtain ⟨k, hk, rfl, rfl, hT⟩ := hrel
      have HT := Lib.hid hT; clear hT
      cases k with
      | succ k =>
        have hkk : ((k + 1 : Nat) : Int) - 1 = (k : Int) := by omega
        rw [hkk]
        clear hkk
        have qk : decide ((0 : Int) ≤ (k : Int)) = true := by simp
        have hd := drop_rev s k hk
        have hz := ext_le s k (k + 1) 24 l2
        have ht : (mkB ((byt s).drop (k + 1)).reverse).size ≤ 24 := by rw [mkB_size, List.length_reverse, List.length_drop, byt_len]; omega
        have hnx : mkB ((byt s).drop k).reverse = mkB ((byt s).drop (k + 1)).reverse ++ s.extract k (k + 1) := by
          rw [hd, ← mkB_append, mkB_byt]
        have hw : ((k : Int) + 1).toNat = k + 1 := by omega
        have hs1 : (k : Int) ≤ (k : Int) + 1 := by omega
        have hs2 : (k : Int) + 1 ≤ (s.size : Int) := by omega
        have hs3 : (0 : Int) ≤ (k : Int) := by omega
        generalize mkB ((byt s).drop (k + 1)).reverse = t at *
        have HNX := Lib.hid hnx; clear hnx hd
        go_wp2_with fail
        go_roundw
        case rel => exact ⟨k, by omega, rfl, by rw [HNX.out], HT.out⟩
        case measure => (simp [intOf] <;> omega)
      | zero =>
        have qk : decide ((0 : Int) ≤ ((0 : Nat) : Int) - 1) = false := by decide
        rw [List.drop_zero]
        have hb : byt (mkB (byt s).reverse) = (byt s).reverse := byt_mkB _ (fun c hc => byt_lt s c (List.mem_reverse.1 hc))
        have htz : (mkB (byt s).reverse).size ≤ 24 := by rw [mkB_size, List.length_reverse, byt_len]; exact l2
        have kr := fun W (h : OwA w.heap.size P v1 W) => rev_own h (by omega)
        have lr : P.reverse.length ≤ 5 := by rw [List.length_reverse]; exact l0
        have km := fun b v W (h : OwA b P.reverse v W) => match_own h (by omega) (mkB (byt s).reverse) (by omega)
        have km2 := fun W (h : OwA w.heap.size P v1 W) => match_own h (by omega) s (by omega)
        have kp := fun b v W (h : OwA b P.reverse v W) => prefix_own h (by omega) (mkB (byt s).reverse) (by omega)
        have ks := fun W (h : OwA w.heap.size P v1 W) => suffix_own h (by omega) s (by omega)
        rw [hb, match_rev] at km
        rw [hb, pref_rev] at kp
        generalize matchF P (byt s) = x at *
        generalize sufF P (byt s) = y at *
        generalize mkB (byt s).reverse = t at *
        generalize P.reverse = Q at *
        have HKR := Lib.hid kr; have KM := Lib.hid km; have KM2 := Lib.hid km2; have KP := Lib.hid kp; have KS := Lib.hid ks; clear kr km km2 kp ks hb
        have qx : (x == x) = true := by simp
        have qy : (y == y) = true := by simp
        go_wp2_with fail
        refine (HKR.out _ HT.out.a).mono ?_; rintro e w4 ⟨v2, rfl, ow4, b4⟩
        have H4 := Lib.hid (show Two w P Q v1 v2 w4 from ⟨HT.out.a.call b4, ow4.mono HT.out.bel.size, BelowOn HT.out.bel b4⟩); clear b4 ow4 HT
        go_wp2_with fail
        refine (KM.out _ _ _ H4.out.b).mono ?_; rintro e w5 ⟨rfl, b5⟩
        have H5 := Lib.hid (H4.out.call b5); clear b5 H4
        go_wp2_with fail
        refine (KM2.out _ H5.out.a).mono ?_; rintro e w6 ⟨rfl, b6⟩
        have H6 := Lib.hid (H5.out.call b6); clear b6 H5
        go_wp2_with fail
        refine (KP.out _ _ _ H6.out.b).mono ?_; rintro e w7 ⟨rfl, b7⟩
        have H7 := Lib.hid (H6.out.call b7); clear b7 H6
        go_wp2_with fail
        refine (KS.out _ H7.out.a).mono ?_; rintro e w9 ⟨rfl, b9⟩
        have H9 := Lib.hid (H7.out.call b9); clear b9 H7
        go_wp2_with fail
        refine (KN.out _).mono ?_; rintro e w8 ⟨rfl, b8⟩
        have B8 := Lib.hid (BelowOn H9.out.bel b8); clear b8
        go_wp2_with fail
        go_ret
        exact ⟨rfl, B8.out⟩
  · have q1 : decide (60 < a0.length) = true := decide_eq_true (by omega)
    go_enter Try.func8, Try.ntmps8
    go_wp2_with fail
    refine (KN.out _).mono ?_; rintro e w8 ⟨rfl, b8⟩
    go_wp2_with fail
    go_ret
    exact ⟨rfl, b8⟩
end Go.Proofs.Ytdnofpllmhnacaa
