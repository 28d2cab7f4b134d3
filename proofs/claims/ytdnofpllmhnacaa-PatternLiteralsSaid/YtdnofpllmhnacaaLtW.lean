/- The walk of PatternLiterals. -/
import Derived.Test.YtdnofpllmhnacaaLtM
namespace Go.Proofs.Ytdnofpllmhnacaa
open Go.ChangeShapes Go.WideShapes Go.ChangeAt Go.RowKit Go.Sort
set_option linter.unusedVariables false
set_option linter.unusedSimpArgs false
set_option maxRecDepth 100000

theorem strl_eq {a b : ByteArray} (h : a = b) : (a.toList == b.toList) = true := by rw [h]; simp
theorem strl_ne {a b : ByteArray} (h : a ≠ b) : (a.toList == b.toList) = false := by
  rw [beq_eq_false_iff_ne]
  intro e
  apply h
  rw [Go.ByteArray.toList_eq a, Go.ByteArray.toList_eq b] at e
  exact ByteArray.ext (Array.ext' e)
theorem str_ne {a b : ByteArray} (h : a ≠ b) : (a == b) = false := by
  cases hc : (a == b)
  · rfl
  · exact absurd ((MapKept.bytes_beq a b).1 hc) h
theorem str_eq {a b : ByteArray} (h : a = b) : (a == b) = true := (MapKept.bytes_beq a b).2 h
theorem tbl18 : ∀ j : Fin 18, ((⟨#[97, 90, 48, 46, 42, 43, 63, 40, 41, 124, 91, 93, 123, 125, 92, 94, 45, 33]⟩ : ByteArray)[j.val]'(j.isLt)).toNat = ltT[j.val]! := by decide
theorem good18 : ∀ j : Fin 18, good ltT[j.val]! = true := by decide
/-- The first k letters. -/
def lcF (L : List Int) : Nat → List Nat
  | 0 => []
  | k + 1 => lcF L k ++ [ltT[nx L k 18]!]
theorem lcF_len (L : List Int) (k : Nat) : (lcF L k).length = k := by
  induction k with
  | zero => rfl
  | succ k ih => simp [lcF, ih]
theorem lcF_good (L : List Int) (k : Nat) : ∀ c ∈ lcF L k, good c = true := by
  induction k with
  | zero => intro c hc; cases hc
  | succ k ih =>
    intro c hc
    rw [lcF, List.mem_append, List.mem_singleton] at hc
    rcases hc with hc | rfl
    · exact ih c hc
    · exact good18 ⟨nx L k 18, nx_lt L k 18 (by omega)⟩
theorem encL_len (l : List Nat) : (encL l).length ≤ 2 * l.length := by
  induction l with
  | nil => simp [encL]
  | cons c l ih =>
    rw [encL_cons, List.length_append, List.length_cons]
    have : (enc c).length ≤ 2 := by unfold enc; split <;> simp
    omega
theorem good_lt {c : Nat} (h : good c = true) : c < 256 := by
  unfold good at h; simp only [Bool.and_eq_true, decide_eq_true_eq] at h; exact h.1
def LtR (w : World) (L : List Int) (n : Nat) (t u i : Value) (wr : World) : Prop :=
  ∃ k : Nat, k ≤ n ∧ i = .int .i64 k ∧ t = .string (mkB (lcF L k)) ∧ u = .string (mkB (encL (lcF L k))) ∧ Below w.heap.size w wr

set_option maxHeartbeats 6400000 in
theorem literals_any (p0 : Option Addr) (c0 : Nat) (a0 : List Int) (s : ByteArray) (w : World)
    (r0 : Ones w (Value.int .i64) p0 a0) (o0 : wfs a0) (n0 : a0.length ≤ c0) (m0 : c0 ≤ maxLen) (hs0 : s.size ≤ 140737488355328) :
    Calls Try.prog 6 #[.slice p0 a0.length c0, .string s] w fun e w' => e = .returned (.bool true) ∧ Below w.heap.size w w' := by
  have KN := Lib.hid known_any
  unfold maxLen at m0
  by_cases h60 : s.size ≤ 60
  · have q0 : decide (60 < s.size) = false := decide_eq_false (by omega)
    obtain ⟨n, hn⟩ : ∃ n, n = min a0.length 20 := ⟨_, rfl⟩
    have hN : n ≤ a0.length ∧ n ≤ 20 := by omega
    have hN2 : ∀ k, k < a0.length → k < 20 → k < n := fun k h1 h2 => by omega
    have hN3 : ∀ k, k ≤ n → ¬ k < a0.length → k = n := fun k h1 h2 => by omega
    have hN4 : ∀ k, k ≤ n → ¬ k < 20 → k = n := fun k h1 h2 => by omega
    clear hn
    obtain ⟨hn1, hn2⟩ := hN
    have HN2 := Lib.hid hN2; have HN3 := Lib.hid hN3; have HN4 := Lib.hid hN4; clear hN2 hN3 hN4
    have HO := Lib.hid r0; have HW := Lib.hid o0; clear r0 o0
    go_enter Try.func6, Try.ntmps6
    go_wp2_with fail
    go_loopw [5, 6, 7] (fun t u i wr => LtR w a0 n t u i wr) (fun _ _ i _ => n - (intOf i).toNat)
    case atStart => exact ⟨0, Nat.zero_le _, rfl, rfl, rfl, Below.refl _ _⟩
    case round =>
      obtain ⟨k, hk, rfl, rfl, rfl, hB⟩ := hrel
      by_cases hl : k < a0.length ∧ k < 20
      · obtain ⟨hl, h20⟩ := hl
        have q1 : decide (k < a0.length) = true := decide_eq_true hl
        have q2 : decide ((k : Int) < 20) = true := by simp; omega
        have hkn := HN2.out k hl h20
        obtain ⟨a, rfl, ha, d0⟩ := (HO.out.call hB).row k hl
        have hwf := HW.out k hl
        have hx := nx_eq a0 k 18 (by omega)
        rw [List.getD_eq_getElem?_getD, List.getElem?_eq_getElem hl, Option.getD_some] at hx
        have hx4 := nx_lt a0 k 18 (by omega)
        have hnx : lcF a0 (k + 1) = lcF a0 k ++ [ltT[nx a0 k 18]!] := rfl
        have ht := tbl18 ⟨nx a0 k 18, hx4⟩
        have hc8 := good_lt (good18 ⟨nx a0 k 18, hx4⟩)
        dsimp only at ht hc8
        generalize a0[k] = x at *
        have hp := fun W => place_any x 18 W (by omega) (by omega) hwf
        rw [show ((18 : Nat) : Int) = 18 from rfl] at hx
        rw [← hx] at hp
        have HP := Lib.hid hp; clear hp hx
        generalize nx a0 k 18 = x4 at *
        have hnx2 : encL (lcF a0 (k + 1)) = encL (lcF a0 k) ++ enc ltT[x4]! := by rw [hnx, encL_append]; simp [encL]
        generalize ltT[x4]! = c at *
        have htl := lcF_len a0 k
        have hul := encL_len (lcF a0 k)
        have hst : (mkB (lcF a0 k)).size ≤ 20 := by rw [mkB_size]; omega
        have hsu : (mkB (encL (lcF a0 k))).size ≤ 40 := by rw [mkB_size]; omega
        generalize encL (lcF a0 k) = U at *
        generalize lcF a0 k = T at *
        have hnx3 : mkB (encL (lcF a0 (k + 1))) = mkB U ++ mkB (enc c) := by rw [hnx2, mkB_append]
        have hnx4 : mkB (lcF a0 (k + 1)) = mkB T ++ mkB [c] := by rw [hnx, mkB_append]
        have HNX3 := Lib.hid hnx3; have HNX4 := Lib.hid hnx4; clear hnx hnx2 hnx3 hnx4 htl hul
        generalize mkB U = u at *
        generalize mkB T = t at *
        have hsz1 : (mkB [c]).size ≤ 1 := by rw [mkB_size]; simp
        have hcv := conv_one wr c hc8
        have hcv2 := conv_one (wr.alloc (.cells #[.int .u8 (c : Int)] 5)) c hc8
        rw [show (wr.alloc (.cells #[.int .u8 (c : Int)] 5)).heap.size = wr.heap.size + 1 by simp] at hcv2
        have y0 : (0 : Int) ≤ (x4 : Int) := by omega
        have y1 : (x4 : Int) < 18 := by omega
        have hB2 := blw (blw hB (.cells #[.int .u8 (c : Int)] 5)) (.cells #[.int .u8 (c : Int)] 5)
        have HB2 := Lib.hid hB2; clear hB2 hB
        by_cases hbr : bare c = true
        · have he : enc c = [c] := by unfold enc; rw [if_pos hbr]
          rw [he] at HNX3
          have hb3 : c = 97 ∨ c = 90 ∨ c = 48 := by unfold bare at hbr; simp at hbr; omega
          clear he hbr
          rcases hb3 with h | h | h
          · have q3 : ((c : Int) != 97) = false := by rw [h]; rfl
            clear h
            go_wp2_with fail
            refine (HP.out _).mono ?_; rintro e w1 ⟨rfl, rfl⟩
            go_wp2_with fail
            go_roundw
            case rel => exact ⟨k + 1, hkn, by go_num, by rw [HNX4.out], by rw [HNX3.out], HB2.out⟩
            case measure => simp [intOf]; omega
          · have q3 : ((c : Int) != 97) = true := by rw [h]; rfl
            have q4 : ((c : Int) != 90) = false := by rw [h]; rfl
            clear h
            go_wp2_with fail
            refine (HP.out _).mono ?_; rintro e w1 ⟨rfl, rfl⟩
            go_wp2_with fail
            go_roundw
            case rel => exact ⟨k + 1, hkn, by go_num, by rw [HNX4.out], by rw [HNX3.out], HB2.out⟩
            case measure => simp [intOf]; omega
          · have q3 : ((c : Int) != 97) = true := by rw [h]; rfl
            have q4 : ((c : Int) != 90) = true := by rw [h]; rfl
            have q5 : ((c : Int) != 48) = false := by rw [h]; rfl
            clear h
            go_wp2_with fail
            refine (HP.out _).mono ?_; rintro e w1 ⟨rfl, rfl⟩
            go_wp2_with fail
            go_roundw
            case rel => exact ⟨k + 1, hkn, by go_num, by rw [HNX4.out], by rw [HNX3.out], HB2.out⟩
            case measure => simp [intOf]; omega
        · have he : enc c = [92, c] := by unfold enc; rw [if_neg hbr]
          have he2 : mkB (enc c) = ⟨#[92]⟩ ++ mkB [c] := by rw [he, show (⟨#[92]⟩ : ByteArray) = mkB [92] from rfl, mkB_append]; rfl
          rw [he2] at HNX3
          have hb3 : c ≠ 97 ∧ c ≠ 90 ∧ c ≠ 48 := by unfold bare at hbr; simp at hbr; omega
          have q3 : ((c : Int) != 97) = true := by simp; omega
          have q4 : ((c : Int) != 90) = true := by simp; omega
          have q5 : ((c : Int) != 48) = true := by simp; omega
          clear he he2 hbr hb3
          go_wp2_with fail
          refine (HP.out _).mono ?_; rintro e w1 ⟨rfl, rfl⟩
          go_wp2_with fail
          go_roundw
          case rel => exact ⟨k + 1, hkn, by go_num, by rw [HNX4.out], by rw [HNX3.out, ByteArray.append_assoc], HB2.out⟩
          case measure => simp [intOf]; omega
      · have hkn : k = n := by
          by_cases h1 : k < a0.length
          · exact HN4.out k hk (fun h2 => hl ⟨h1, h2⟩)
          · exact HN3.out k hk h1
        subst hkn
        have hg := lcF_good a0 k
        have hle := lcF_len a0 k
        have hel := encL_len (lcF a0 k)
        have hpl := parse_lit (lcF a0 k) hg (by omega)
        have hml := match_lit (lcF a0 k)
        have kp := fun W => parse_any (mkB (encL (lcF a0 k))) W (by rw [mkB_size]; omega)
        rw [hpl] at kp
        have hbt : byt (mkB (lcF a0 k)) = lcF a0 k := byt_mkB _ (fun c hc => good_lt (hg c hc))
        have m1 : matchF ((lcF a0 k).map litA) (lcF a0 k) = true := by rw [hml]; simp
        have m2 := hml (byt s)
        have hsz : (mkB (lcF a0 k)).size = k := by rw [mkB_size, hle]
        have hsl : ((lcF a0 k).map litA).length = k := by rw [List.length_map, hle]
        have hst : s = mkB (lcF a0 k) ↔ byt s = lcF a0 k := ⟨fun h => by rw [h, hbt], fun h => by rw [← h, mkB_byt]⟩
        rw [show (decide (byt s = lcF a0 k)) = decide (s = mkB (lcF a0 k)) by rw [decide_eq_decide]; exact hst.symm] at m2
        generalize (lcF a0 k).map litA = P at *
        have kt := fun b v W (h : OwA b P v W) => match_own h (by omega) (mkB (lcF a0 k)) (by omega)
        have ks := fun b v W (h : OwA b P v W) => match_own h (by omega) s (by omega)
        rw [hbt, m1] at kt
        rw [m2] at ks
        generalize mkB (encL (lcF a0 k)) = u at *
        generalize mkB (lcF a0 k) = t at *
        have q9 : ((P.length : Int) == (t.size : Int)) = true := by rw [hsz, hsl]; simp
        have hk20 : t.size ≤ 20 := by omega
        have HKP := Lib.hid kp; have HKT := Lib.hid kt
        clear hg hle hel hpl hml kp kt hbt m1 m2 hsz hsl hst
        have HB := Lib.hid hB; clear hB
        have hcase : (decide (k < a0.length) = true ∧ decide ((k : Int) < 20) = false) ∨ decide (k < a0.length) = false := by
          by_cases h1 : k < a0.length
          · left; exact ⟨decide_eq_true h1, decide_eq_false (by have : ¬ k < 20 := fun h2 => hl ⟨h1, h2⟩; omega)⟩
          · right; exact decide_eq_false h1
        clear hl
        by_cases hq : s = t
        all_goals
          first
            | (have z1 := strl_eq hq; have z2 := str_eq hq; rw [decide_eq_true hq] at ks)
            | (have z1 := strl_ne hq; have z2 := str_ne hq; rw [decide_eq_false hq] at ks)
          have HKS := Lib.hid ks; clear ks hq
          rcases hcase with ⟨q1, q2⟩ | q1
          all_goals
            go_wp2_with fail
            refine (HKP.out _).mono ?_; rintro e w3 ⟨v, rfl, o3, b3⟩
            obtain ⟨pp, cp, rfl, hpc, _, _, _⟩ := o3.ats
            have H3 := Lib.hid (And.intro o3 (BelowOn HB.out b3)); clear b3 o3
            go_wp2_with fail
            refine (HKT.out _ _ _ H3.out.1).mono ?_; rintro e w4 ⟨rfl, b4⟩
            have H4 := Lib.hid (And.intro (H3.out.1.call b4) (BelowOn H3.out.2 b4)); clear b4
            go_wp2_with fail
            refine (HKS.out _ _ _ H4.out.1).mono ?_; rintro e w5 ⟨rfl, b5⟩
            have H5 := Lib.hid (BelowOn H4.out.2 b5); clear b5
            go_wp2_with fail
            refine (KN.out _).mono ?_; rintro e w9 ⟨rfl, b9⟩
            have B9 := Lib.hid (BelowOn H5.out b9); clear b9
            go_wp2_with fail
            go_ret
            exact ⟨rfl, B9.out⟩
  · have q0 : decide (60 < s.size) = true := decide_eq_true (by omega)
    go_enter Try.func6, Try.ntmps6
    go_wp2_with fail
    refine (KN.out _).mono ?_; rintro e w8 ⟨rfl, b8⟩
    go_wp2_with fail
    go_ret
    exact ⟨rfl, b8⟩
end Go.Proofs.Ytdnofpllmhnacaa
