/- The walks of TokenShapes, TokenCuts and TokenWeighs. -/
import Derived.Test.YtinkejbdlfjjbaaTkz
import Derived.Lib.QuietBelow
import Derived.BigQuiet
import Derived.Deep.QuietTactic
import Derived.Test.YtinkejbdlfjjbaaNxt
import Derived.Test.YtinkejbdlfjjbaaFrg
namespace Go.Proofs.Ytinkejbdlfjjbaa
open Go.ChangeShapes Go.WideShapes Go.ChangeAt Go.RowKit
set_option linter.unusedVariables false
set_option linter.unusedSimpArgs false
set_option maxRecDepth 100000

theorem Var3.newT (W : World) (k : Int) (t : ByteArray) (id : Int) : Var3 (W.alloc (.cells #[.int .i64 k, .string t, .int .i64 id] 33)) W.heap.size k t id := ⟨by simp, by simp, by simp, by simp⟩
/-- Tokens of one text. -/
theorem toks_lit (u : ByteArray) (hu : u.size ≤ 1000) : ∀ W a, Its W a [⟨1, u, 0⟩] → Calls Try.prog 13 #[.slice a 1 1] W (EndF (cutT u.data.toList) W) := fun W a h => by
  have := (tokens_any a 1 [⟨1, u, 0⟩] W h (Nat.le_refl 1) (by unfold maxLen; decide) (by show u.size + 0 + 1 ≤ _; omega)).mono fun _ _ x => EndT.f x
  rwa [toks_one] at this

theorem drop_cons' (L : List It) (n : Nat) (h : n < L.length) : L.drop n = L[n] :: L.drop (n + 1) := List.drop_eq_getElem_cons h
theorem flat_cons (x : It) (r : List It) : flatT (x :: r) = x.t.data.toList ++ flatT r := rfl
theorem add_list (a b : ByteArray) : (a ++ b).data.toList = a.data.toList ++ b.data.toList := by rw [ByteArray.data_append]; simp
set_option maxHeartbeats 12800000 in
theorem shapes_law (s : ByteArray) (w : World) (ws : s.size ≤ 140737488355328) :
    Calls Try.prog 6 #[.string s] w fun e w' => e = .returned (.bool true) ∧ Below w.heap.size w w' := by
  by_cases hs : s.size ≤ 300
  case neg =>
    have z1 : 300 < s.size := by omega
    go_enter Try.func6, Try.ntmps6
    go_wp2_with fail
    refine (known_any _).mono ?_; rintro e w17 ⟨rfl, hb⟩
    go_wp2_with fail
    go_ret
    exact ⟨rfl, hb⟩
  have z1 : ¬ 300 < s.size := by omega
  have kt := toks_lit s (by omega)
  have hfl := flat_cut s.data.toList
  have hch := chain_cut s.data.toList 0 (fun h => by cases h)
  have hsl : s.data.toList.length = s.size := by simp
  generalize cutT s.data.toList = L at *
  have KT := Lib.hid kt; have HF := Lib.hid (show ([] : List UInt8) ++ flatT (L.drop 0) = s.data.toList by rw [List.drop_zero]; exact hfl); have HC := Lib.hid (show chainG 0 (L.drop 0) by rw [List.drop_zero]; exact hch)
  have HS := Lib.hid hsl
  clear kt hfl hch hsl
  go_enter Try.func6, Try.ntmps6
  go_wp2_with fail
  have bl : Below w.heap.size w _ := blw (Below.refl _ _) (.cells (icells [⟨1, s, 0⟩]).toArray 27)
  have it : Its _ _ [⟨1, s, 0⟩] := Its.lit (heap_alloc_new w (.cells (icells [⟨1, s, 0⟩]).toArray 27)) rfl
  refine (KT.out _ _ it).mono ?_; rintro e w1 ⟨p1, c1, rfl, a1, b1, iL, hb⟩
  have bl := BelowOn bl hb
  clear it hb
  unfold maxLen at b1
  go_wp2_with fail
  go_loopw [3, 4, 19] (fun a l i wr => ∃ (n : Nat) (A : ByteArray) (la : Int), n ≤ L.length ∧ i = .int .i64 n ∧ a = .string A ∧ l = .int .i64 la ∧ A.size ≤ 300 ∧ Below w.heap.size w wr ∧ Its wr p1 L ∧ Hid (A.data.toList ++ flatT (L.drop n) = s.data.toList) ∧ Hid (chainG la (L.drop n))) (fun _ _ i _ => L.length - (intOf i).toNat)
  case atStart => exact ⟨0, ByteArray.empty, 0, Nat.zero_le _, rfl, rfl, rfl, by decide, bl, iL, HF, HC⟩
  case round =>
    obtain ⟨n, A, la, hn, rfl, rfl, rfl, hA, hB, iL2, HF2, HC2⟩ := hrel
    by_cases hlt : n < L.length
    · obtain ⟨ad, rfl, had, c0, c1', c2⟩ := iL2.row n hlt
      have hd := drop_cons' L n hlt
      have hg := HC2.out
      rw [hd] at hg
      obtain ⟨hg, hch⟩ := hg
      have hfl := HF2.out
      rw [hd, flat_cons] at hfl
      have hsz : A.size + L[n].t.size ≤ 300 := by
        have := congrArg List.length hfl
        rw [List.length_append, List.length_append, HS.out] at this
        have e1 : A.data.toList.length = A.size := by simp
        have e2 : L[n].t.data.toList.length = L[n].t.size := by simp
        omega
      rw [← List.append_assoc, ← add_list] at hfl
      generalize L[n] = x at *
      obtain ⟨kk, t, id⟩ := x
      obtain ⟨g1, g2, g3, g4, g5, g6⟩ := hg
      dsimp only at c0 c1' c2 g1 g2 g3 g4 g5 g6 hch hfl hsz
      subst g2
      have HF3 := Lib.hid hfl; have HC3 := Lib.hid hch
      have hkr := kindT_range (t[0]'g1)
      rw [g3 g1] at hkr
      have hk0 := fun W => kind_any (t[0]'g1) W
      rw [g3 g1] at hk0
      have hki := fun (i : Nat) (h : i < t.size) W => kind_any (t[i]'h) W
      have K0 := Lib.hid hk0; have KI := Lib.hid hki; have G6 := Lib.hid g6
      have hne := str_some (a := t) (by omega)
      have hg1 : (0 : Int) < (t.size : Int) := by omega
      have V := Var3.newT wr kk t 0
      have hB2 : Below w.heap.size w (wr.alloc (.cells #[.int .i64 kk, .string t, .int .i64 0] 33)) := blw hB _
      have iL3 := iL2.call (blw (Below.refl wr.heap.size wr) (.cells #[.int .i64 kk, .string t, .int .i64 0] 33))
      clear hfl hch hk0 hki g6 g3 hd hB HF2 HC2 iL2
      have hsA : A.size ≤ 300 := hA
      rcases (show kk = 6 ∨ kk = 7 ∨ kk = 8 ∨ kk = 9 by omega) with rfl | rfl | rfl | rfl
      · clear g4 g5
        obtain ⟨v0, v1, v2, vl⟩ := id V
        go_wp2_with fail
        refine (K0.out _).mono ?_; rintro e w4 ⟨rfl, rfl⟩
        go_wp2_with fail
        go_loop [8] (fun j => ∃ i : Nat, i ≤ t.size ∧ j = .int .i64 i) (fun j => t.size - (intOf j).toNat)
        case atStart => exact ⟨0, Nat.zero_le _, rfl⟩
        case round =>
          obtain ⟨i, hi', rfl⟩ := hrel
          by_cases hi : i < t.size
          · have HK := Lib.hid (KI.out i hi)
            have hin : (i : Int) < (t.size : Int) := by omega
            have q8 : (kindT (t[i]'hi) == 8) = false := by
              have h := (G6.out i hi).1
              have : ¬ kindT (t[i]'hi) = 8 := fun e => by have := h e; omega
              simpa using this
            go_wp2_with fail
            refine (HK.out _).mono ?_; rintro e w5 ⟨rfl, rfl⟩
            go_wp2_with fail
            go_round
            case rel => exact ⟨i + 1, hi, by go_num⟩
            case measure => simp [intOf]; omega
          · obtain rfl : i = t.size := by omega
            go_wp2_with fail
            go_roundw
            case rel => exact ⟨n + 1, A ++ t, _, hlt, by go_num, rfl, rfl, by rw [ByteArray.size_append]; omega, hB2, iL3, HF3, HC3⟩
            case measure => simp [intOf]; omega
      · clear g4 g5
        obtain ⟨v0, v1, v2, vl⟩ := id V
        go_wp2_with fail
        refine (K0.out _).mono ?_; rintro e w4 ⟨rfl, rfl⟩
        go_wp2_with fail
        go_loop [8] (fun j => ∃ i : Nat, i ≤ t.size ∧ j = .int .i64 i) (fun j => t.size - (intOf j).toNat)
        case atStart => exact ⟨0, Nat.zero_le _, rfl⟩
        case round =>
          obtain ⟨i, hi', rfl⟩ := hrel
          by_cases hi : i < t.size
          · have HK := Lib.hid (KI.out i hi)
            have hin : (i : Int) < (t.size : Int) := by omega
            have q8 : (kindT (t[i]'hi) == 8) = false := by
              have h := (G6.out i hi).1
              have : ¬ kindT (t[i]'hi) = 8 := fun e => by have := h e; omega
              simpa using this
            have q6 : (kindT (t[i]'hi) == 6) = false := by
              have := (G6.out i hi).2 (by decide)
              simpa using this
            go_wp2_with fail
            refine (HK.out _).mono ?_; rintro e w5 ⟨rfl, rfl⟩
            go_wp2_with fail
            go_round
            case rel => exact ⟨i + 1, hi, by go_num⟩
            case measure => simp [intOf]; omega
          · obtain rfl : i = t.size := by omega
            go_wp2_with fail
            go_roundw
            case rel => exact ⟨n + 1, A ++ t, _, hlt, by go_num, rfl, rfl, by rw [ByteArray.size_append]; omega, hB2, iL3, HF3, HC3⟩
            case measure => simp [intOf]; omega
      · have hla : (la == 8) = false := by simpa using g5 rfl
        clear g4 g5
        obtain ⟨v0, v1, v2, vl⟩ := id V
        go_wp2_with fail
        refine (K0.out _).mono ?_; rintro e w4 ⟨rfl, rfl⟩
        go_wp2_with fail
        go_loop [8] (fun j => ∃ i : Nat, i ≤ t.size ∧ j = .int .i64 i) (fun j => t.size - (intOf j).toNat)
        case atStart => exact ⟨0, Nat.zero_le _, rfl⟩
        case round =>
          obtain ⟨i, hi', rfl⟩ := hrel
          by_cases hi : i < t.size
          · have HK := Lib.hid (KI.out i hi)
            have hin : (i : Int) < (t.size : Int) := by omega
            cases q8 : (kindT (t[i]'hi) == 8)
            · go_wp2_with fail
              refine (HK.out _).mono ?_; rintro e w5 ⟨rfl, rfl⟩
              go_wp2_with fail
              go_round
              case rel => exact ⟨i + 1, hi, by go_num⟩
              case measure => simp [intOf]; omega
            · go_wp2_with fail
              refine (HK.out _).mono ?_; rintro e w5 ⟨rfl, rfl⟩
              go_wp2_with fail
              go_round
              case rel => exact ⟨i + 1, hi, by go_num⟩
              case measure => simp [intOf]; omega
          · obtain rfl : i = t.size := by omega
            go_wp2_with fail
            go_roundw
            case rel => exact ⟨n + 1, A ++ t, _, hlt, by go_num, rfl, rfl, by rw [ByteArray.size_append]; omega, hB2, iL3, HF3, HC3⟩
            case measure => simp [intOf]; omega
      · have hone : t.size = 1 := g4 rfl
        have hone1 : ((t.size : Int) != 1) = false := by rw [hone]; rfl
        clear g4 g5
        obtain ⟨v0, v1, v2, vl⟩ := id V
        go_wp2_with fail
        refine (K0.out _).mono ?_; rintro e w4 ⟨rfl, rfl⟩
        go_wp2_with fail
        go_loop [8] (fun j => ∃ i : Nat, i ≤ t.size ∧ j = .int .i64 i) (fun j => t.size - (intOf j).toNat)
        case atStart => exact ⟨0, Nat.zero_le _, rfl⟩
        case round =>
          obtain ⟨i, hi', rfl⟩ := hrel
          by_cases hi : i < t.size
          · have HK := Lib.hid (KI.out i hi)
            have hin : (i : Int) < (t.size : Int) := by omega
            have q8 : (kindT (t[i]'hi) == 8) = false := by
              have h := (G6.out i hi).1
              have : ¬ kindT (t[i]'hi) = 8 := fun e => by have := h e; omega
              simpa using this
            go_wp2_with fail
            refine (HK.out _).mono ?_; rintro e w5 ⟨rfl, rfl⟩
            go_wp2_with fail
            go_round
            case rel => exact ⟨i + 1, hi, by go_num⟩
            case measure => simp [intOf]; omega
          · obtain rfl : i = t.size := by omega
            go_wp2_with fail
            go_roundw
            case rel => exact ⟨n + 1, A ++ t, _, hlt, by go_num, rfl, rfl, by rw [ByteArray.size_append]; omega, hB2, iL3, HF3, HC3⟩
            case measure => simp [intOf]; omega
    · obtain rfl : n = L.length := by omega
      have he := HF2.out
      rw [List.drop_length] at he
      have hAs : A = s := by
        apply ByteArray.ext; apply Array.ext'
        simpa [flatT] using he
      subst hAs
      clear he
      go_wp2_with fail
      refine (known_any _).mono ?_; rintro e w17 ⟨rfl, hb⟩
      have hB3 := BelowOn hB hb
      go_wp2_with fail
      go_ret
      exact ⟨rfl, hB3⟩

theorem last_at (s : ByteArray) (m : Nat) (hm : s.size = m + 1) (hk : kindT (s[m]'(by omega)) ≠ 8) : lastOk s.data.toList := fun hh => by
  have e : s.data.toList.getLast hh = s[m]'(by omega) := by
    rw [List.getLast_eq_getElem]
    have : s.data.toList.length - 1 = m := by simp [hm]
    simp only [this]; rfl
  rw [e]
  cases hf : fS (s[m]'(by omega))
  · rfl
  · exact absurd ((fS_iff _).1 hf) hk
theorem last_nil (s : ByteArray) (h : s.size = 0) : lastOk s.data.toList := fun hh => absurd ((bytes_nil s).2 h) hh
theorem head_at (s : ByteArray) (h : 0 < s.size) (hk : kindT s[0] ≠ 8) : hdF fS s.data.toList = false := by
  rw [list_at s h]
  show fS s[0] = false
  cases hf : fS s[0]
  · rfl
  · exact absurd ((fS_iff _).1 hf) hk
theorem head_nil (s : ByteArray) (h : s.size = 0) : hdF fS s.data.toList = false := by rw [(bytes_nil s).2 h]; rfl
set_option maxHeartbeats 12800000 in
theorem cutsA (s t : ByteArray) (w : World) (hs : s.size ≤ 150) (ht : t.size ≤ 150) (m : Nat) (hm : s.size = m + 1) (h1 : 0 < t.size) (q1 : (kindT (s[m]'(by omega)) == 8) = false) (q2 : (kindT (t[0]'h1) == 8) = false) :
    Calls Try.prog 7 #[.string s, .string t] w fun e w' => e = .returned (.bool true) ∧ Below w.heap.size w w' := by
  have hlo := last_at s m hm (by simpa using q1)
  have hht := head_at t h1 (by simpa using q2)
  have z1 : ¬ 150 < s.size := by omega
  have z2 : ¬ 150 < t.size := by omega
  have hns := str_some (a := s) (by omega)
  have hi1 : ((s.size : Int) - 1) = (m : Int) := by omega
  have hi2 : wrap64 ((s.size : Int) - 1) = (m : Int) := by rw [hi1]; exact IntWalk.wrap64_in _ ⟨by omega, by omega⟩
  have hms : m < s.size := by omega
  have hks := fun W => kind_any (s[m]'hms) W
  have KS := Lib.hid hks; clear hks
  have hm1 : (m : Int) < (s.size : Int) := by omega
  have q1' : (kindT (s[m]'hms) == 8) = false := q1
  have HM := Lib.hid hm; clear q1 hm
  have hnt := str_some (a := t) (by omega)
  have hkt := fun W => kind_any (t[0]'h1) W
  have KT := Lib.hid hkt; clear hkt
  have ht1 : (0 : Int) < (t.size : Int) := by omega
  have ka := toks_lit s (by omega)
  have kb := toks_lit t (by omega)
  have hsum : (s ++ ⟨#[32]⟩ ++ t).size ≤ 301 := by rw [ByteArray.size_append, ByteArray.size_append]; show s.size + 1 + t.size ≤ 301; omega
  have kc := toks_lit (s ++ ⟨#[32]⟩ ++ t) (by omega)
  have hc : cutT (s ++ ⟨#[32]⟩ ++ t).data.toList = cutT s.data.toList ++ [⟨8, ⟨#[32]⟩, 0⟩] ++ cutT t.data.toList := by
    rw [add_list, add_list, List.append_assoc]
    show cutT (s.data.toList ++ 32 :: t.data.toList) = _
    rw [cut_app _ hht _ hlo, List.append_assoc]; rfl
  rw [hc] at kc
  have l1 := cutT_len s.data.toList; have l2 := cutT_len t.data.toList
  have e1 : s.data.toList.length = s.size := by simp
  have e2 : t.data.toList.length = t.size := by simp
  rw [e1] at l1; rw [e2] at l2
  generalize cutT s.data.toList = X at *
  generalize cutT t.data.toList = Y at *
  have q := fun W x x' y y' i i' a a' b b' => stoks_any x x' y y' (X ++ [⟨8, ⟨#[32]⟩, 0⟩] ++ Y) (X ++ [⟨8, ⟨#[32]⟩, 0⟩] ++ Y) W i i' a a' b b'
  rw [decide_eq_true rfl] at q
  generalize hZ : X ++ [⟨8, ⟨#[32]⟩, 0⟩] ++ Y = Z at *
  have HZ := Lib.hid hZ; clear hZ hc e1 e2 hht hlo
  have KA := Lib.hid ka; have KB := Lib.hid kb; have KC := Lib.hid kc; have Q := Lib.hid q
  clear ka kb kc q
  go_enter Try.func7, Try.ntmps7
  go_wp2_with fail
  refine (KS.out _).mono ?_; rintro e w0 ⟨rfl, rfl⟩
  go_wp2_with fail
  refine (KT.out _).mono ?_; rintro e w0 ⟨rfl, rfl⟩
  go_wp2_with fail
  have bl : Below w.heap.size w _ := blw (Below.refl _ _) (.cells (icells [⟨1, s, 0⟩]).toArray 27)
  have it : Its _ _ [⟨1, s, 0⟩] := Its.lit (heap_alloc_new w (.cells (icells [⟨1, s, 0⟩]).toArray 27)) rfl
  refine (KA.out _ _ it).mono ?_; rintro e w1 ⟨p1, c1, rfl, a1, b1, iX, hb⟩
  have bl := BelowOn bl hb
  clear it hb
  go_wp2_with fail
  have hb2 := blw (Below.refl w1.heap.size w1) (.cells (icells [⟨1, t, 0⟩]).toArray 27)
  have it : Its _ _ [⟨1, t, 0⟩] := Its.lit (heap_alloc_new w1 (.cells (icells [⟨1, t, 0⟩]).toArray 27)) rfl
  have bl := BelowOn bl hb2; have iX := iX.call hb2
  refine (KB.out _ _ it).mono ?_; rintro e w2 ⟨p2, c2, rfl, a2, b2, iY, hb⟩
  have bl := BelowOn bl hb; have iX := iX.call hb
  clear it hb hb2
  go_wp2_with fail
  have hb2 := blw (Below.refl w2.heap.size w2) (.cells (icells [⟨1, s ++ ⟨#[32]⟩ ++ t, 0⟩]).toArray 27)
  have it : Its _ _ [⟨1, s ++ ⟨#[32]⟩ ++ t, 0⟩] := Its.lit (heap_alloc_new w2 (.cells (icells [⟨1, s ++ ⟨#[32]⟩ ++ t, 0⟩]).toArray 27)) rfl
  have bl := BelowOn bl hb2; have iX := iX.call hb2; have iY := iY.call hb2
  refine (KC.out _ _ it).mono ?_; rintro e w3 ⟨p3, c3, rfl, a3, b3, iZ, hb⟩
  have bl := BelowOn bl hb; have iX := iX.call hb; have iY := iY.call hb
  clear it hb hb2
  go_wp2_with (first | (at_builtin; refine wpl_catT rfl _ _ rfl w3 [] X _ rfl (Acc.start w3) p1 _ _ rfl rfl iX (by simp; omega) ?_; intro v4 w4 hA1; rw [List.nil_append] at hA1) | (at_builtin; refine wpl_append eT _ rfl _ _ rfl w3 X _ rfl (hA1.alloc _) ⟨8, ⟨#[32]⟩, 0⟩ w4.heap.size _ rfl (heap_alloc_new _ _) rfl (by omega) (by unfold maxLen; omega) ?_; intro v5 w5 hA2 hb5; have iY5 := iY.call hb5) | (at_builtin; refine wpl_catT rfl _ _ rfl w3 _ Y _ rfl hA2 p2 _ _ rfl rfl iY5 (by simp; omega) ?_; intro v6 w6 hA3; rw [HZ.out] at hA3; obtain ⟨p7, c7, rfl, a7, b7, iZ7⟩ := OwnT.its hA3.own; have hb := hA3.below; have bl := BelowOn bl hb; have iZ8 := iZ.call hb; clear hA1 hA2 hA3 iX iY iZ iY5))
  refine (Q.out _ _ _ _ _ iZ8 iZ7 a3 a7 b3 b7).mono ?_; rintro e w8 ⟨rfl, hb⟩
  have bl := BelowOn bl hb
  go_wp2_with fail
  refine (known_any _).mono ?_; rintro e w17 ⟨rfl, hb⟩
  have bl := BelowOn bl hb
  go_wp2_with fail
  go_ret
  exact ⟨rfl, bl⟩
set_option maxHeartbeats 12800000 in
theorem cutsB (s t : ByteArray) (w : World) (hs : s.size ≤ 150) (ht : t.size ≤ 150) (m : Nat) (hm : s.size = m + 1) (ht0 : t.size = 0) (q1 : (kindT (s[m]'(by omega)) == 8) = false)  :
    Calls Try.prog 7 #[.string s, .string t] w fun e w' => e = .returned (.bool true) ∧ Below w.heap.size w w' := by
  have hlo := last_at s m hm (by simpa using q1)
  have hht := head_nil t ht0
  have z1 : ¬ 150 < s.size := by omega
  have z2 : ¬ 150 < t.size := by omega
  have hns := str_some (a := s) (by omega)
  have hi1 : ((s.size : Int) - 1) = (m : Int) := by omega
  have hi2 : wrap64 ((s.size : Int) - 1) = (m : Int) := by rw [hi1]; exact IntWalk.wrap64_in _ ⟨by omega, by omega⟩
  have hms : m < s.size := by omega
  have hks := fun W => kind_any (s[m]'hms) W
  have KS := Lib.hid hks; clear hks
  have hm1 : (m : Int) < (s.size : Int) := by omega
  have q1' : (kindT (s[m]'hms) == 8) = false := q1
  have HM := Lib.hid hm; clear q1 hm
  have hnt := str_none (a := t) ht0
  have ka := toks_lit s (by omega)
  have kb := toks_lit t (by omega)
  have hsum : (s ++ ⟨#[32]⟩ ++ t).size ≤ 301 := by rw [ByteArray.size_append, ByteArray.size_append]; show s.size + 1 + t.size ≤ 301; omega
  have kc := toks_lit (s ++ ⟨#[32]⟩ ++ t) (by omega)
  have hc : cutT (s ++ ⟨#[32]⟩ ++ t).data.toList = cutT s.data.toList ++ [⟨8, ⟨#[32]⟩, 0⟩] ++ cutT t.data.toList := by
    rw [add_list, add_list, List.append_assoc]
    show cutT (s.data.toList ++ 32 :: t.data.toList) = _
    rw [cut_app _ hht _ hlo, List.append_assoc]; rfl
  rw [hc] at kc
  have l1 := cutT_len s.data.toList; have l2 := cutT_len t.data.toList
  have e1 : s.data.toList.length = s.size := by simp
  have e2 : t.data.toList.length = t.size := by simp
  rw [e1] at l1; rw [e2] at l2
  generalize cutT s.data.toList = X at *
  generalize cutT t.data.toList = Y at *
  have q := fun W x x' y y' i i' a a' b b' => stoks_any x x' y y' (X ++ [⟨8, ⟨#[32]⟩, 0⟩] ++ Y) (X ++ [⟨8, ⟨#[32]⟩, 0⟩] ++ Y) W i i' a a' b b'
  rw [decide_eq_true rfl] at q
  generalize hZ : X ++ [⟨8, ⟨#[32]⟩, 0⟩] ++ Y = Z at *
  have HZ := Lib.hid hZ; clear hZ hc e1 e2 hht hlo
  have KA := Lib.hid ka; have KB := Lib.hid kb; have KC := Lib.hid kc; have Q := Lib.hid q
  clear ka kb kc q
  go_enter Try.func7, Try.ntmps7
  go_wp2_with fail
  refine (KS.out _).mono ?_; rintro e w0 ⟨rfl, rfl⟩
  go_wp2_with fail
  have bl : Below w.heap.size w _ := blw (Below.refl _ _) (.cells (icells [⟨1, s, 0⟩]).toArray 27)
  have it : Its _ _ [⟨1, s, 0⟩] := Its.lit (heap_alloc_new w (.cells (icells [⟨1, s, 0⟩]).toArray 27)) rfl
  refine (KA.out _ _ it).mono ?_; rintro e w1 ⟨p1, c1, rfl, a1, b1, iX, hb⟩
  have bl := BelowOn bl hb
  clear it hb
  go_wp2_with fail
  have hb2 := blw (Below.refl w1.heap.size w1) (.cells (icells [⟨1, t, 0⟩]).toArray 27)
  have it : Its _ _ [⟨1, t, 0⟩] := Its.lit (heap_alloc_new w1 (.cells (icells [⟨1, t, 0⟩]).toArray 27)) rfl
  have bl := BelowOn bl hb2; have iX := iX.call hb2
  refine (KB.out _ _ it).mono ?_; rintro e w2 ⟨p2, c2, rfl, a2, b2, iY, hb⟩
  have bl := BelowOn bl hb; have iX := iX.call hb
  clear it hb hb2
  go_wp2_with fail
  have hb2 := blw (Below.refl w2.heap.size w2) (.cells (icells [⟨1, s ++ ⟨#[32]⟩ ++ t, 0⟩]).toArray 27)
  have it : Its _ _ [⟨1, s ++ ⟨#[32]⟩ ++ t, 0⟩] := Its.lit (heap_alloc_new w2 (.cells (icells [⟨1, s ++ ⟨#[32]⟩ ++ t, 0⟩]).toArray 27)) rfl
  have bl := BelowOn bl hb2; have iX := iX.call hb2; have iY := iY.call hb2
  refine (KC.out _ _ it).mono ?_; rintro e w3 ⟨p3, c3, rfl, a3, b3, iZ, hb⟩
  have bl := BelowOn bl hb; have iX := iX.call hb; have iY := iY.call hb
  clear it hb hb2
  go_wp2_with (first | (at_builtin; refine wpl_catT rfl _ _ rfl w3 [] X _ rfl (Acc.start w3) p1 _ _ rfl rfl iX (by simp; omega) ?_; intro v4 w4 hA1; rw [List.nil_append] at hA1) | (at_builtin; refine wpl_append eT _ rfl _ _ rfl w3 X _ rfl (hA1.alloc _) ⟨8, ⟨#[32]⟩, 0⟩ w4.heap.size _ rfl (heap_alloc_new _ _) rfl (by omega) (by unfold maxLen; omega) ?_; intro v5 w5 hA2 hb5; have iY5 := iY.call hb5) | (at_builtin; refine wpl_catT rfl _ _ rfl w3 _ Y _ rfl hA2 p2 _ _ rfl rfl iY5 (by simp; omega) ?_; intro v6 w6 hA3; rw [HZ.out] at hA3; obtain ⟨p7, c7, rfl, a7, b7, iZ7⟩ := OwnT.its hA3.own; have hb := hA3.below; have bl := BelowOn bl hb; have iZ8 := iZ.call hb; clear hA1 hA2 hA3 iX iY iZ iY5))
  refine (Q.out _ _ _ _ _ iZ8 iZ7 a3 a7 b3 b7).mono ?_; rintro e w8 ⟨rfl, hb⟩
  have bl := BelowOn bl hb
  go_wp2_with fail
  refine (known_any _).mono ?_; rintro e w17 ⟨rfl, hb⟩
  have bl := BelowOn bl hb
  go_wp2_with fail
  go_ret
  exact ⟨rfl, bl⟩
set_option maxHeartbeats 12800000 in
theorem cutsC (s t : ByteArray) (w : World) (hs : s.size ≤ 150) (ht : t.size ≤ 150) (hs0 : s.size = 0) (h1 : 0 < t.size) (q2 : (kindT (t[0]'h1) == 8) = false) :
    Calls Try.prog 7 #[.string s, .string t] w fun e w' => e = .returned (.bool true) ∧ Below w.heap.size w w' := by
  have hlo := last_nil s hs0
  have hht := head_at t h1 (by simpa using q2)
  have z1 : ¬ 150 < s.size := by omega
  have z2 : ¬ 150 < t.size := by omega
  have hns := str_none (a := s) hs0
  have hnt := str_some (a := t) (by omega)
  have hkt := fun W => kind_any (t[0]'h1) W
  have KT := Lib.hid hkt; clear hkt
  have ht1 : (0 : Int) < (t.size : Int) := by omega
  have ka := toks_lit s (by omega)
  have kb := toks_lit t (by omega)
  have hsum : (s ++ ⟨#[32]⟩ ++ t).size ≤ 301 := by rw [ByteArray.size_append, ByteArray.size_append]; show s.size + 1 + t.size ≤ 301; omega
  have kc := toks_lit (s ++ ⟨#[32]⟩ ++ t) (by omega)
  have hc : cutT (s ++ ⟨#[32]⟩ ++ t).data.toList = cutT s.data.toList ++ [⟨8, ⟨#[32]⟩, 0⟩] ++ cutT t.data.toList := by
    rw [add_list, add_list, List.append_assoc]
    show cutT (s.data.toList ++ 32 :: t.data.toList) = _
    rw [cut_app _ hht _ hlo, List.append_assoc]; rfl
  rw [hc] at kc
  have l1 := cutT_len s.data.toList; have l2 := cutT_len t.data.toList
  have e1 : s.data.toList.length = s.size := by simp
  have e2 : t.data.toList.length = t.size := by simp
  rw [e1] at l1; rw [e2] at l2
  generalize cutT s.data.toList = X at *
  generalize cutT t.data.toList = Y at *
  have q := fun W x x' y y' i i' a a' b b' => stoks_any x x' y y' (X ++ [⟨8, ⟨#[32]⟩, 0⟩] ++ Y) (X ++ [⟨8, ⟨#[32]⟩, 0⟩] ++ Y) W i i' a a' b b'
  rw [decide_eq_true rfl] at q
  generalize hZ : X ++ [⟨8, ⟨#[32]⟩, 0⟩] ++ Y = Z at *
  have HZ := Lib.hid hZ; clear hZ hc e1 e2 hht hlo
  have KA := Lib.hid ka; have KB := Lib.hid kb; have KC := Lib.hid kc; have Q := Lib.hid q
  clear ka kb kc q
  go_enter Try.func7, Try.ntmps7
  go_wp2_with fail
  refine (KT.out _).mono ?_; rintro e w0 ⟨rfl, rfl⟩
  go_wp2_with fail
  have bl : Below w.heap.size w _ := blw (Below.refl _ _) (.cells (icells [⟨1, s, 0⟩]).toArray 27)
  have it : Its _ _ [⟨1, s, 0⟩] := Its.lit (heap_alloc_new w (.cells (icells [⟨1, s, 0⟩]).toArray 27)) rfl
  refine (KA.out _ _ it).mono ?_; rintro e w1 ⟨p1, c1, rfl, a1, b1, iX, hb⟩
  have bl := BelowOn bl hb
  clear it hb
  go_wp2_with fail
  have hb2 := blw (Below.refl w1.heap.size w1) (.cells (icells [⟨1, t, 0⟩]).toArray 27)
  have it : Its _ _ [⟨1, t, 0⟩] := Its.lit (heap_alloc_new w1 (.cells (icells [⟨1, t, 0⟩]).toArray 27)) rfl
  have bl := BelowOn bl hb2; have iX := iX.call hb2
  refine (KB.out _ _ it).mono ?_; rintro e w2 ⟨p2, c2, rfl, a2, b2, iY, hb⟩
  have bl := BelowOn bl hb; have iX := iX.call hb
  clear it hb hb2
  go_wp2_with fail
  have hb2 := blw (Below.refl w2.heap.size w2) (.cells (icells [⟨1, s ++ ⟨#[32]⟩ ++ t, 0⟩]).toArray 27)
  have it : Its _ _ [⟨1, s ++ ⟨#[32]⟩ ++ t, 0⟩] := Its.lit (heap_alloc_new w2 (.cells (icells [⟨1, s ++ ⟨#[32]⟩ ++ t, 0⟩]).toArray 27)) rfl
  have bl := BelowOn bl hb2; have iX := iX.call hb2; have iY := iY.call hb2
  refine (KC.out _ _ it).mono ?_; rintro e w3 ⟨p3, c3, rfl, a3, b3, iZ, hb⟩
  have bl := BelowOn bl hb; have iX := iX.call hb; have iY := iY.call hb
  clear it hb hb2
  go_wp2_with (first | (at_builtin; refine wpl_catT rfl _ _ rfl w3 [] X _ rfl (Acc.start w3) p1 _ _ rfl rfl iX (by simp; omega) ?_; intro v4 w4 hA1; rw [List.nil_append] at hA1) | (at_builtin; refine wpl_append eT _ rfl _ _ rfl w3 X _ rfl (hA1.alloc _) ⟨8, ⟨#[32]⟩, 0⟩ w4.heap.size _ rfl (heap_alloc_new _ _) rfl (by omega) (by unfold maxLen; omega) ?_; intro v5 w5 hA2 hb5; have iY5 := iY.call hb5) | (at_builtin; refine wpl_catT rfl _ _ rfl w3 _ Y _ rfl hA2 p2 _ _ rfl rfl iY5 (by simp; omega) ?_; intro v6 w6 hA3; rw [HZ.out] at hA3; obtain ⟨p7, c7, rfl, a7, b7, iZ7⟩ := OwnT.its hA3.own; have hb := hA3.below; have bl := BelowOn bl hb; have iZ8 := iZ.call hb; clear hA1 hA2 hA3 iX iY iZ iY5))
  refine (Q.out _ _ _ _ _ iZ8 iZ7 a3 a7 b3 b7).mono ?_; rintro e w8 ⟨rfl, hb⟩
  have bl := BelowOn bl hb
  go_wp2_with fail
  refine (known_any _).mono ?_; rintro e w17 ⟨rfl, hb⟩
  have bl := BelowOn bl hb
  go_wp2_with fail
  go_ret
  exact ⟨rfl, bl⟩
set_option maxHeartbeats 12800000 in
theorem cutsD (s t : ByteArray) (w : World) (hs : s.size ≤ 150) (ht : t.size ≤ 150) (hs0 : s.size = 0) (ht0 : t.size = 0) :
    Calls Try.prog 7 #[.string s, .string t] w fun e w' => e = .returned (.bool true) ∧ Below w.heap.size w w' := by
  have hlo := last_nil s hs0
  have hht := head_nil t ht0
  have z1 : ¬ 150 < s.size := by omega
  have z2 : ¬ 150 < t.size := by omega
  have hns := str_none (a := s) hs0
  have hnt := str_none (a := t) ht0
  have ka := toks_lit s (by omega)
  have kb := toks_lit t (by omega)
  have hsum : (s ++ ⟨#[32]⟩ ++ t).size ≤ 301 := by rw [ByteArray.size_append, ByteArray.size_append]; show s.size + 1 + t.size ≤ 301; omega
  have kc := toks_lit (s ++ ⟨#[32]⟩ ++ t) (by omega)
  have hc : cutT (s ++ ⟨#[32]⟩ ++ t).data.toList = cutT s.data.toList ++ [⟨8, ⟨#[32]⟩, 0⟩] ++ cutT t.data.toList := by
    rw [add_list, add_list, List.append_assoc]
    show cutT (s.data.toList ++ 32 :: t.data.toList) = _
    rw [cut_app _ hht _ hlo, List.append_assoc]; rfl
  rw [hc] at kc
  have l1 := cutT_len s.data.toList; have l2 := cutT_len t.data.toList
  have e1 : s.data.toList.length = s.size := by simp
  have e2 : t.data.toList.length = t.size := by simp
  rw [e1] at l1; rw [e2] at l2
  generalize cutT s.data.toList = X at *
  generalize cutT t.data.toList = Y at *
  have q := fun W x x' y y' i i' a a' b b' => stoks_any x x' y y' (X ++ [⟨8, ⟨#[32]⟩, 0⟩] ++ Y) (X ++ [⟨8, ⟨#[32]⟩, 0⟩] ++ Y) W i i' a a' b b'
  rw [decide_eq_true rfl] at q
  generalize hZ : X ++ [⟨8, ⟨#[32]⟩, 0⟩] ++ Y = Z at *
  have HZ := Lib.hid hZ; clear hZ hc e1 e2 hht hlo
  have KA := Lib.hid ka; have KB := Lib.hid kb; have KC := Lib.hid kc; have Q := Lib.hid q
  clear ka kb kc q
  go_enter Try.func7, Try.ntmps7
  go_wp2_with fail
  have bl : Below w.heap.size w _ := blw (Below.refl _ _) (.cells (icells [⟨1, s, 0⟩]).toArray 27)
  have it : Its _ _ [⟨1, s, 0⟩] := Its.lit (heap_alloc_new w (.cells (icells [⟨1, s, 0⟩]).toArray 27)) rfl
  refine (KA.out _ _ it).mono ?_; rintro e w1 ⟨p1, c1, rfl, a1, b1, iX, hb⟩
  have bl := BelowOn bl hb
  clear it hb
  go_wp2_with fail
  have hb2 := blw (Below.refl w1.heap.size w1) (.cells (icells [⟨1, t, 0⟩]).toArray 27)
  have it : Its _ _ [⟨1, t, 0⟩] := Its.lit (heap_alloc_new w1 (.cells (icells [⟨1, t, 0⟩]).toArray 27)) rfl
  have bl := BelowOn bl hb2; have iX := iX.call hb2
  refine (KB.out _ _ it).mono ?_; rintro e w2 ⟨p2, c2, rfl, a2, b2, iY, hb⟩
  have bl := BelowOn bl hb; have iX := iX.call hb
  clear it hb hb2
  go_wp2_with fail
  have hb2 := blw (Below.refl w2.heap.size w2) (.cells (icells [⟨1, s ++ ⟨#[32]⟩ ++ t, 0⟩]).toArray 27)
  have it : Its _ _ [⟨1, s ++ ⟨#[32]⟩ ++ t, 0⟩] := Its.lit (heap_alloc_new w2 (.cells (icells [⟨1, s ++ ⟨#[32]⟩ ++ t, 0⟩]).toArray 27)) rfl
  have bl := BelowOn bl hb2; have iX := iX.call hb2; have iY := iY.call hb2
  refine (KC.out _ _ it).mono ?_; rintro e w3 ⟨p3, c3, rfl, a3, b3, iZ, hb⟩
  have bl := BelowOn bl hb; have iX := iX.call hb; have iY := iY.call hb
  clear it hb hb2
  go_wp2_with (first | (at_builtin; refine wpl_catT rfl _ _ rfl w3 [] X _ rfl (Acc.start w3) p1 _ _ rfl rfl iX (by simp; omega) ?_; intro v4 w4 hA1; rw [List.nil_append] at hA1) | (at_builtin; refine wpl_append eT _ rfl _ _ rfl w3 X _ rfl (hA1.alloc _) ⟨8, ⟨#[32]⟩, 0⟩ w4.heap.size _ rfl (heap_alloc_new _ _) rfl (by omega) (by unfold maxLen; omega) ?_; intro v5 w5 hA2 hb5; have iY5 := iY.call hb5) | (at_builtin; refine wpl_catT rfl _ _ rfl w3 _ Y _ rfl hA2 p2 _ _ rfl rfl iY5 (by simp; omega) ?_; intro v6 w6 hA3; rw [HZ.out] at hA3; obtain ⟨p7, c7, rfl, a7, b7, iZ7⟩ := OwnT.its hA3.own; have hb := hA3.below; have bl := BelowOn bl hb; have iZ8 := iZ.call hb; clear hA1 hA2 hA3 iX iY iZ iY5))
  refine (Q.out _ _ _ _ _ iZ8 iZ7 a3 a7 b3 b7).mono ?_; rintro e w8 ⟨rfl, hb⟩
  have bl := BelowOn bl hb
  go_wp2_with fail
  refine (known_any _).mono ?_; rintro e w17 ⟨rfl, hb⟩
  have bl := BelowOn bl hb
  go_wp2_with fail
  go_ret
  exact ⟨rfl, bl⟩
set_option maxHeartbeats 12800000 in
theorem cutsE (s t : ByteArray) (w : World) (hs : s.size ≤ 150) (ht : t.size ≤ 150) (m : Nat) (hm : s.size = m + 1) (h1 : 0 < t.size) (q1 : (kindT (s[m]'(by omega)) == 8) = false) (q2 : (kindT (t[0]'h1) == 8) = true) :
    Calls Try.prog 7 #[.string s, .string t] w fun e w' => e = .returned (.bool true) ∧ Below w.heap.size w w' := by
  have z1 : ¬ 150 < s.size := by omega
  have z2 : ¬ 150 < t.size := by omega
  have hns := str_some (a := s) (by omega)
  have hi1 : ((s.size : Int) - 1) = (m : Int) := by omega
  have hi2 : wrap64 ((s.size : Int) - 1) = (m : Int) := by rw [hi1]; exact IntWalk.wrap64_in _ ⟨by omega, by omega⟩
  have hms : m < s.size := by omega
  have hks := fun W => kind_any (s[m]'hms) W
  have KS := Lib.hid hks; clear hks
  have hm1 : (m : Int) < (s.size : Int) := by omega
  have q1' : (kindT (s[m]'hms) == 8) = false := q1
  have HM := Lib.hid hm; clear q1 hm
  have hnt := str_some (a := t) (by omega)
  have hkt := fun W => kind_any (t[0]'h1) W
  have KT := Lib.hid hkt; clear hkt
  have ht1 : (0 : Int) < (t.size : Int) := by omega
  go_enter Try.func7, Try.ntmps7
  go_wp2_with fail
  refine (KS.out _).mono ?_; rintro e w0 ⟨rfl, rfl⟩
  go_wp2_with fail
  refine (KT.out _).mono ?_; rintro e w0 ⟨rfl, rfl⟩
  go_wp2_with fail
  refine (known_any _).mono ?_; rintro e w17 ⟨rfl, hb⟩
  go_wp2_with fail
  go_ret
  exact ⟨rfl, hb⟩
set_option maxHeartbeats 12800000 in
theorem cutsF (s t : ByteArray) (w : World) (hs : s.size ≤ 150) (ht : t.size ≤ 150) (m : Nat) (hm : s.size = m + 1) (q1 : (kindT (s[m]'(by omega)) == 8) = true)  :
    Calls Try.prog 7 #[.string s, .string t] w fun e w' => e = .returned (.bool true) ∧ Below w.heap.size w w' := by
  have z1 : ¬ 150 < s.size := by omega
  have z2 : ¬ 150 < t.size := by omega
  have hns := str_some (a := s) (by omega)
  have hi1 : ((s.size : Int) - 1) = (m : Int) := by omega
  have hi2 : wrap64 ((s.size : Int) - 1) = (m : Int) := by rw [hi1]; exact IntWalk.wrap64_in _ ⟨by omega, by omega⟩
  have hms : m < s.size := by omega
  have hks := fun W => kind_any (s[m]'hms) W
  have KS := Lib.hid hks; clear hks
  have hm1 : (m : Int) < (s.size : Int) := by omega
  have q1' : (kindT (s[m]'hms) == 8) = true := q1
  have HM := Lib.hid hm; clear q1 hm
  go_enter Try.func7, Try.ntmps7
  go_wp2_with fail
  refine (KS.out _).mono ?_; rintro e w0 ⟨rfl, rfl⟩
  go_wp2_with fail
  refine (known_any _).mono ?_; rintro e w17 ⟨rfl, hb⟩
  go_wp2_with fail
  go_ret
  exact ⟨rfl, hb⟩
set_option maxHeartbeats 12800000 in
theorem cutsG (s t : ByteArray) (w : World) (hs : s.size ≤ 150) (ht : t.size ≤ 150) (hs0 : s.size = 0) (h1 : 0 < t.size) (q2 : (kindT (t[0]'h1) == 8) = true) :
    Calls Try.prog 7 #[.string s, .string t] w fun e w' => e = .returned (.bool true) ∧ Below w.heap.size w w' := by
  have z1 : ¬ 150 < s.size := by omega
  have z2 : ¬ 150 < t.size := by omega
  have hns := str_none (a := s) hs0
  have hnt := str_some (a := t) (by omega)
  have hkt := fun W => kind_any (t[0]'h1) W
  have KT := Lib.hid hkt; clear hkt
  have ht1 : (0 : Int) < (t.size : Int) := by omega
  go_enter Try.func7, Try.ntmps7
  go_wp2_with fail
  refine (KT.out _).mono ?_; rintro e w0 ⟨rfl, rfl⟩
  go_wp2_with fail
  refine (known_any _).mono ?_; rintro e w17 ⟨rfl, hb⟩
  go_wp2_with fail
  go_ret
  exact ⟨rfl, hb⟩
set_option maxHeartbeats 12800000 in
theorem cuts_law (s t : ByteArray) (w : World) (ws : s.size ≤ 140737488355328) (wt : t.size ≤ 140737488355328) :
    Calls Try.prog 7 #[.string s, .string t] w fun e w' => e = .returned (.bool true) ∧ Below w.heap.size w w' := by
  by_cases hs : s.size ≤ 150
  case neg =>
    have z1 : 150 < s.size := by omega
    go_enter Try.func7, Try.ntmps7
    go_wp2_with fail
    refine (known_any _).mono ?_; rintro e w17 ⟨rfl, hb⟩
    go_wp2_with fail
    go_ret
    exact ⟨rfl, hb⟩
  have z1 : ¬ 150 < s.size := by omega
  by_cases ht : t.size ≤ 150
  case neg =>
    have z2 : 150 < t.size := by omega
    go_enter Try.func7, Try.ntmps7
    go_wp2_with fail
    refine (known_any _).mono ?_; rintro e w17 ⟨rfl, hb⟩
    go_wp2_with fail
    go_ret
    exact ⟨rfl, hb⟩
  have z2 : ¬ 150 < t.size := by omega
  by_cases h0 : 0 < s.size
  · obtain ⟨m, hm⟩ : ∃ m, s.size = m + 1 := ⟨s.size - 1, by omega⟩
    cases q1 : (kindT (s[m]'(by omega)) == 8)
    · by_cases h1 : 0 < t.size
      · cases q2 : (kindT (t[0]'h1) == 8)
        · exact cutsA s t w hs ht m hm h1 q1 q2
        · exact cutsE s t w hs ht m hm h1 q1 q2
      · exact cutsB s t w hs ht m hm (by omega) q1
    · exact cutsF s t w hs ht m hm q1
  · by_cases h1 : 0 < t.size
    · cases q2 : (kindT (t[0]'h1) == 8)
      · exact cutsC s t w hs ht (by omega) h1 q2
      · exact cutsG s t w hs ht (by omega) h1 q2
    · exact cutsD s t w hs ht (by omega) (by omega)
end Go.Proofs.Ytinkejbdlfjjbaa
