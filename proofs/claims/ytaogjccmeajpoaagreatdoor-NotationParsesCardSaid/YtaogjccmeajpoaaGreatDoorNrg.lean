/- Contracts of the reference's element and Format. -/
import Derived.Test.YtaogjccmeajpoaaGreatDoorNrf
import Derived.Test.YtaogjccmeajpoaaGreatDoorNtD
import Derived.Deep.RegionHeld3
namespace Go.Proofs.YtaogjccmeajpoaaGreatDoor
open Go.ChangeShapes Go.WideShapes Go.ChangeAt Go.RowKit
open Go.Lib (decDigits)
set_option linter.unusedVariables false
set_option linter.unusedSimpArgs false
set_option maxRecDepth 100000

theorem cat5 (a b c d : List UInt8) (t : ByteArray) : bsL a ++ bsL b ++ bsL c ++ t ++ bsL d = bsL (a ++ b ++ c ++ t.data.toList ++ d) := by
  have e : t = bsL t.data.toList := (bsL_of t).symm
  generalize t.data.toList = l at *
  subst e
  rw [bsL_append, bsL_append, bsL_append, bsL_append]
theorem cat3 (a d : List UInt8) (t : ByteArray) : bsL a ++ t ++ bsL d = bsL (a ++ t.data.toList ++ d) := by
  have e : t = bsL t.data.toList := (bsL_of t).symm
  generalize t.data.toList = l at *
  subst e
  rw [bsL_append, bsL_append]
set_option maxHeartbeats 1600000 in
theorem relement_text (t : ByteArray) (id : Int) (ht : t.size ≤ 1024) (w : World) : Calls Tryz.prog 19 #[.agg #[.int .i64 1, .string t, .int .i64 id]] w fun e w' => e = .returned (.string (bsL (wrL t.data.toList))) ∧ Below w.heap.size w w' := by
  go_enter Tryz.func19, Tryz.ntmps19
  go_wp2_with fail
  go_loopw [3, 4] (fun s i wr => ∃ k : Nat, k ≤ t.size ∧ i = .int .i64 k ∧ s = .string (bsL (wrL (t.data.toList.take k))) ∧ wr.cell? ⟨w.heap.size, 1, none⟩ = some (.string t) ∧ w.heap.size < wr.heap.size ∧ Below w.heap.size w wr) (fun _ i _ => t.size - (intOf i).toNat)
  case atStart => exact ⟨0, Nat.zero_le _, rfl, rfl, by simp [go_sem], by simp, blw (Below.refl _ _) _⟩
  case round =>
    obtain ⟨k, hk, rfl, rfl, c1, hl, hB⟩ := hrel
    by_cases hlt : k < t.size
    · have hn := wrL_next t k hlt
      have hw := fun W => rwritten_any t[k] W
      have h1 : (bsL (wrL (t.data.toList.take k))).size ≤ 4096 := by rw [bsL_size]; have := take_len t k hk; omega
      have h2 : (bsL (wrU t[k])).size ≤ 4 := by rw [bsL_size]; exact (wrU_len _).2
      have hc : bsL (wrL (t.data.toList.take k)) ++ bsL (wrU t[k]) = bsL (wrL (t.data.toList.take (k + 1))) := by rw [hn, bsL_append]
      obtain ⟨S, hS⟩ : ∃ S, S = bsL (wrL (t.data.toList.take k)) := ⟨_, rfl⟩
      obtain ⟨T, hT⟩ : ∃ T, T = bsL (wrU t[k]) := ⟨_, rfl⟩
      rw [← hS] at h1 hc ⊢
      rw [← hT] at h2 hc
      simp only [← hT] at hw
      have hno : ¬ (9223372036854775807 < S.size + T.size) := by omega
      have HW := Lib.hid hw; have HC := Lib.hid hc
      clear hw hc hn hS hT
      go_wp2_with fail
      refine (HW.out _).mono ?_; rintro e w1 ⟨rfl, hb⟩
      have c1' := (hb.cell (p := ⟨w.heap.size, 1, none⟩) hl).trans c1
      have hl' := Nat.lt_of_lt_of_le hl hb.size
      go_wp2_with fail
      go_roundw
      case rel => exact ⟨k + 1, hlt, by go_num, by rw [← HC.out], c1', hl', BelowOn hB hb⟩
      case measure => simp [intOf]; omega
    · have hk' : t.data.toList.take k = t.data.toList := List.take_of_length_le (by simp; omega)
      rw [hk']
      obtain rfl : k = t.size := by omega
      go_wp2_with fail
      go_ret
      exact ⟨rfl, hB⟩
set_option maxHeartbeats 1600000 in
theorem relement_tag2 (t : ByteArray) (N : Nat) (hN : N ≤ 9999) (ht : t.size ≤ 1024) (w : World) : Calls Tryz.prog 19 #[.agg #[.int .i64 2, .string t, .int .i64 (N : Int)]] w fun e w' => e = .returned (.string (bsL ([60] ++ decDigits N ++ [58] ++ t.data.toList ++ [62]))) ∧ Below w.heap.size w w' := by
  have hd := fun W => rDecimal_any N (by omega) W
  have h1 : (bsL (decDigits N)).size ≤ 21 := by rw [bsL_size]; exact dec_len N (by omega)
  have hc : (⟨#[60]⟩ : ByteArray) ++ bsL (decDigits N) ++ ⟨#[58]⟩ ++ t ++ ⟨#[62]⟩ = bsL ([60] ++ decDigits N ++ [58] ++ t.data.toList ++ [62]) := cat5 [60] (decDigits N) [58] [62] t
  rw [← hc]
  generalize bsL (decDigits N) = D at *
  have hR : ∀ W, Below (w.alloc (.cells #[.int .i64 2, .string t, .int .i64 (N : Int)] 43)).heap.size (w.alloc (.cells #[.int .i64 2, .string t, .int .i64 (N : Int)] 43)) W → W.cell? ⟨w.heap.size, 1, none⟩ = some (.string t) ∧ W.cell? ⟨w.heap.size, 2, none⟩ = some (.int .i64 (N : Int)) := fun W hb =>
    ⟨(hb.cell (p := ⟨w.heap.size, 1, none⟩) (by simp)).trans (by simp [go_sem]), (hb.cell (p := ⟨w.heap.size, 2, none⟩) (by simp)).trans (by simp [go_sem])⟩
  have hBd : Below (w.alloc (.cells #[.int .i64 2, .string t, .int .i64 (N : Int)] 43)).heap.size (w.alloc (.cells #[.int .i64 2, .string t, .int .i64 (N : Int)] 43)) (w.alloc (.cells #[.int .i64 2, .string t, .int .i64 (N : Int)] 43)).drew := (Below.refl _ _).drew
  have n1 : ¬ (9223372036854775807 < 1 + D.size) := by omega
  have n2 : ¬ (9223372036854775807 < 1 + D.size + 1) := by omega
  have n3 : ¬ (9223372036854775807 < 1 + D.size + 1 + t.size) := by omega
  have n4 : ¬ (9223372036854775807 < 1 + D.size + 1 + t.size + 1) := by omega
  have HR := Lib.hid hR; have HD := Lib.hid hd
  clear hR hd hc
  go_enter Tryz.func19, Tryz.ntmps19
  go_wp2_with fail
  go_region_held3 (fun w' => w'.cell? ⟨w.heap.size, 1, none⟩ = some (.string t) ∧ w'.cell? ⟨w.heap.size, 2, none⟩ = some (.int .i64 (N : Int)))
    (first | exact HR.out _ hBd | exact HR.out _ (BelowOn hBd hb))
    ((first | (go_at_call 35; refine (HD.out _).mono ?_; rintro e w1 ⟨rfl, hb⟩)))
  all_goals go_wp2_with fail
  all_goals go_ret
  all_goals exact ⟨rfl, BelowOn (blw (Below.refl _ _) _) (BelowOn hBd hb)⟩
set_option maxHeartbeats 1600000 in
theorem relement_tag3 (t : ByteArray) (N : Nat) (hN : N ≤ 9999) (ht : t.size ≤ 1024) (w : World) : Calls Tryz.prog 19 #[.agg #[.int .i64 3, .string t, .int .i64 (N : Int)]] w fun e w' => e = .returned (.string (bsL ([60, 47] ++ decDigits N ++ [58] ++ t.data.toList ++ [62]))) ∧ Below w.heap.size w w' := by
  have hd := fun W => rDecimal_any N (by omega) W
  have h1 : (bsL (decDigits N)).size ≤ 21 := by rw [bsL_size]; exact dec_len N (by omega)
  have hc : (⟨#[60, 47]⟩ : ByteArray) ++ bsL (decDigits N) ++ ⟨#[58]⟩ ++ t ++ ⟨#[62]⟩ = bsL ([60, 47] ++ decDigits N ++ [58] ++ t.data.toList ++ [62]) := cat5 [60, 47] (decDigits N) [58] [62] t
  rw [← hc]
  generalize bsL (decDigits N) = D at *
  have hR : ∀ W, Below (w.alloc (.cells #[.int .i64 3, .string t, .int .i64 (N : Int)] 43)).heap.size (w.alloc (.cells #[.int .i64 3, .string t, .int .i64 (N : Int)] 43)) W → W.cell? ⟨w.heap.size, 1, none⟩ = some (.string t) ∧ W.cell? ⟨w.heap.size, 2, none⟩ = some (.int .i64 (N : Int)) := fun W hb =>
    ⟨(hb.cell (p := ⟨w.heap.size, 1, none⟩) (by simp)).trans (by simp [go_sem]), (hb.cell (p := ⟨w.heap.size, 2, none⟩) (by simp)).trans (by simp [go_sem])⟩
  have hBd : Below (w.alloc (.cells #[.int .i64 3, .string t, .int .i64 (N : Int)] 43)).heap.size (w.alloc (.cells #[.int .i64 3, .string t, .int .i64 (N : Int)] 43)) (w.alloc (.cells #[.int .i64 3, .string t, .int .i64 (N : Int)] 43)).drew := (Below.refl _ _).drew
  have n1 : ¬ (9223372036854775807 < 2 + D.size) := by omega
  have n2 : ¬ (9223372036854775807 < 2 + D.size + 1) := by omega
  have n3 : ¬ (9223372036854775807 < 2 + D.size + 1 + t.size) := by omega
  have n4 : ¬ (9223372036854775807 < 2 + D.size + 1 + t.size + 1) := by omega
  have HR := Lib.hid hR; have HD := Lib.hid hd
  clear hR hd hc
  go_enter Tryz.func19, Tryz.ntmps19
  go_wp2_with fail
  go_region_held3 (fun w' => w'.cell? ⟨w.heap.size, 1, none⟩ = some (.string t) ∧ w'.cell? ⟨w.heap.size, 2, none⟩ = some (.int .i64 (N : Int)))
    (first | exact HR.out _ hBd | exact HR.out _ (BelowOn hBd hb))
    ((first | (go_at_call 35; refine (HD.out _).mono ?_; rintro e w1 ⟨rfl, hb⟩)))
  all_goals go_wp2_with fail
  all_goals go_ret
  all_goals exact ⟨rfl, BelowOn (blw (Below.refl _ _) _) (BelowOn hBd hb)⟩
set_option maxHeartbeats 1600000 in
theorem relement_tag4 (t : ByteArray) (N : Nat) (hN : N ≤ 9999) (ht : t.size ≤ 1024) (w : World) : Calls Tryz.prog 19 #[.agg #[.int .i64 4, .string t, .int .i64 (N : Int)]] w fun e w' => e = .returned (.string (bsL ([60] ++ decDigits N ++ [58] ++ t.data.toList ++ [47, 62]))) ∧ Below w.heap.size w w' := by
  have hd := fun W => rDecimal_any N (by omega) W
  have h1 : (bsL (decDigits N)).size ≤ 21 := by rw [bsL_size]; exact dec_len N (by omega)
  have hc : (⟨#[60]⟩ : ByteArray) ++ bsL (decDigits N) ++ ⟨#[58]⟩ ++ t ++ ⟨#[47, 62]⟩ = bsL ([60] ++ decDigits N ++ [58] ++ t.data.toList ++ [47, 62]) := cat5 [60] (decDigits N) [58] [47, 62] t
  rw [← hc]
  generalize bsL (decDigits N) = D at *
  have hR : ∀ W, Below (w.alloc (.cells #[.int .i64 4, .string t, .int .i64 (N : Int)] 43)).heap.size (w.alloc (.cells #[.int .i64 4, .string t, .int .i64 (N : Int)] 43)) W → W.cell? ⟨w.heap.size, 1, none⟩ = some (.string t) ∧ W.cell? ⟨w.heap.size, 2, none⟩ = some (.int .i64 (N : Int)) := fun W hb =>
    ⟨(hb.cell (p := ⟨w.heap.size, 1, none⟩) (by simp)).trans (by simp [go_sem]), (hb.cell (p := ⟨w.heap.size, 2, none⟩) (by simp)).trans (by simp [go_sem])⟩
  have hBd : Below (w.alloc (.cells #[.int .i64 4, .string t, .int .i64 (N : Int)] 43)).heap.size (w.alloc (.cells #[.int .i64 4, .string t, .int .i64 (N : Int)] 43)) (w.alloc (.cells #[.int .i64 4, .string t, .int .i64 (N : Int)] 43)).drew := (Below.refl _ _).drew
  have n1 : ¬ (9223372036854775807 < 1 + D.size) := by omega
  have n2 : ¬ (9223372036854775807 < 1 + D.size + 1) := by omega
  have n3 : ¬ (9223372036854775807 < 1 + D.size + 1 + t.size) := by omega
  have n4 : ¬ (9223372036854775807 < 1 + D.size + 1 + t.size + 2) := by omega
  have HR := Lib.hid hR; have HD := Lib.hid hd
  clear hR hd hc
  go_enter Tryz.func19, Tryz.ntmps19
  go_wp2_with fail
  go_region_held3 (fun w' => w'.cell? ⟨w.heap.size, 1, none⟩ = some (.string t) ∧ w'.cell? ⟨w.heap.size, 2, none⟩ = some (.int .i64 (N : Int)))
    (first | exact HR.out _ hBd | exact HR.out _ (BelowOn hBd hb))
    ((first | (go_at_call 35; refine (HD.out _).mono ?_; rintro e w1 ⟨rfl, hb⟩)))
  all_goals go_wp2_with fail
  all_goals go_ret
  all_goals exact ⟨rfl, BelowOn (blw (Below.refl _ _) _) (BelowOn hBd hb)⟩
theorem relement_slot (t : ByteArray) (id : Int) (ht : t.size ≤ 1024) (w : World) : Calls Tryz.prog 19 #[.agg #[.int .i64 5, .string t, .int .i64 id]] w fun e w' => e = .returned (.string (bsL ([123] ++ t.data.toList ++ [125]))) ∧ Below w.heap.size w w' := by
  have hc : (⟨#[123]⟩ : ByteArray) ++ t ++ ⟨#[125]⟩ = bsL ([123] ++ t.data.toList ++ [125]) := cat3 [123] [125] t
  rw [← hc]
  clear hc
  go_enter Tryz.func19, Tryz.ntmps19
  go_wp2_with fail
  go_ret
  exact ⟨rfl, blw (Below.refl _ _) _⟩
theorem relement_any (x : It) (hp : properB x = true) (ht : x.t.size ≤ 1024) (w : World) : Calls Tryz.prog 19 #[.agg #[.int .i64 x.k, .string x.t, .int .i64 x.id]] w fun e w' => e = .returned (.string (bsL (elL x))) ∧ Below w.heap.size w w' := by
  obtain ⟨k, t, id⟩ := x
  rcases proper_kinds hp with h | h | h
  · obtain rfl : k = 1 := h
    exact relement_text t id ht w
  · obtain ⟨h1, h2, _, _⟩ := isT_proper h hp
    have h1 : 1 ≤ id := h1
    have h2 : id ≤ 999 := h2
    obtain ⟨N, rfl⟩ := Int.eq_ofNat_of_zero_le (show 0 ≤ id by omega)
    have hk : k = 2 ∨ k = 3 ∨ k = 4 := by unfold isT at h; simpa [or_assoc] using h
    rcases hk with rfl | rfl | rfl
    · exact relement_tag2 t N (by omega) ht w
    · exact relement_tag3 t N (by omega) ht w
    · exact relement_tag4 t N (by omega) ht w
  · obtain rfl : k = 5 := h
    exact relement_slot t id ht w
set_option maxHeartbeats 1600000 in
theorem rformat_any (p : Option Addr) (cap : Nat) (f : List It) (w : World) (hR : Its w p f) (hO : Oks f) (hc : f.length ≤ cap) (hm : cap ≤ maxLen) :
    Calls Tryz.prog 10 #[.slice p f.length cap] w fun e w' => e = .returned (.tuple #[.string (fmtS f), .int .i64 (valE f)]) ∧ Below w.heap.size w w' := by
  have hv := fun w hR => rvalidate_any p cap f w hR hO hc hm
  unfold maxLen at hm
  by_cases h : valE f = 0
  · rw [fmtS_ok h]
    have hsm := fun k hk => item_small h k hk
    have hln := fun k hk => fmt_len h k hk
    have h512 := (valE_zero h).1
    rw [h] at hv ⊢
    have HV := Lib.hid hv; have HS := Lib.hid hsm; have HL := Lib.hid hln
    clear hv hsm hln h
    go_enter Tryz.func10, Tryz.ntmps10
    go_wp2_with fail
    refine (HV.out _ hR).mono ?_; rintro e w1 ⟨rfl, hb⟩
    go_wp2_with fail
    go_loopw [5, 14] (fun v i wr => ∃ k : Nat, k ≤ f.length ∧ i = .int .i64 k ∧ v = .string (bsL (fmtN (f.take k))) ∧ Below w.heap.size w wr) (fun _ i _ => f.length - (intOf i).toNat)
    case atStart => exact ⟨0, Nat.zero_le _, rfl, rfl, hb⟩
    case round =>
      obtain ⟨k, hk, rfl, rfl, hB⟩ := hrel
      by_cases hlt : k < f.length
      · obtain ⟨ad, rfl, had, c0, c1, c2⟩ := (hR.call hB).row k hlt
        obtain ⟨hp, hts⟩ := HS.out k hlt
        have hl := HL.out k hk
        have hn := fmtN_next f k hlt
        have he := el_len hp hts
        generalize f[k] = x at *
        have hel := fun W => relement_any x hp hts W
        have hcc : bsL (fmtN (f.take k)) ++ bsL (elL x) = bsL (fmtN (f.take (k + 1))) := by rw [hn, bsL_append]
        have h1 : (bsL (fmtN (f.take k))).size ≤ 5000 * k := by rw [bsL_size]; exact hl
        have h2 : (bsL (elL x)).size ≤ 5000 := by rw [bsL_size]; exact he
        obtain ⟨S, hS⟩ : ∃ S, S = bsL (fmtN (f.take k)) := ⟨_, rfl⟩
        obtain ⟨T, hT⟩ : ∃ T, T = bsL (elL x) := ⟨_, rfl⟩
        rw [← hS] at h1 hcc ⊢
        rw [← hT] at h2 hcc
        simp only [← hT] at hel
        have hno : ¬ (9223372036854775807 < S.size + T.size) := by omega
        have HE := Lib.hid hel; have HC := Lib.hid hcc
        clear hel hcc hn hS hT he hp
        go_wp2_with fail
        refine (HE.out _).mono ?_; rintro e w2 ⟨rfl, hb2⟩
        go_wp2_with fail
        go_roundw
        case rel => exact ⟨k + 1, hlt, by go_num, by rw [← HC.out], BelowOn hB hb2⟩
        case measure => simp [intOf]; omega
      · obtain rfl : k = f.length := by omega
        rw [List.take_length]
        go_wp2_with fail
        go_ret2
        exact ⟨rfl, hB⟩
  · rw [fmtS_no h]
    have q : (valE f != 0) = true := by simpa using h
    generalize valE f = z at *
    have HV := Lib.hid hv; clear hv h
    go_enter Tryz.func10, Tryz.ntmps10
    go_wp2_with fail
    refine (HV.out _ hR).mono ?_; rintro e w1 ⟨rfl, hb⟩
    go_wp2_with fail
    go_ret2
    exact ⟨rfl, hb⟩
end Go.Proofs.YtaogjccmeajpoaaGreatDoor
