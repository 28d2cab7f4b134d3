/- The generator's words and lines. -/
import Derived.Test.YtphkpokoeaagfaaGreatDoorNxt
namespace Go.Proofs.YtphkpokoeaagfaaGreatDoor
open Go.ChangeShapes Go.WideShapes Go.ChangeAt Go.RowKit
set_option linter.unusedVariables false
set_option maxRecDepth 100000

theorem chg_trans {b : Nat} {w w1 w2 : World} (h : w.grownBy w1 (some b)) (k : w1.grownBy w2 (some b)) : w.grownBy w2 (some b) :=
  ⟨k.os.trans h.os, k.tape.trans h.tape, k.output.trans h.output, Nat.le_trans h.size k.size, fun i hi hne => (k.block i (Nat.lt_of_lt_of_le hi h.size) hne).trans (h.block i hi hne)⟩
theorem chg_below {b : Nat} {w w1 : World} (h : Below w.heap.size w w1) : w.grownBy w1 (some b) := ⟨h.os, h.tape, h.output, h.size, fun i hi _ => h.block i hi⟩
/-- A string out of a row of strings that was just made. -/
theorem pick_row {W : World} {B : Nat} {cs : Array Value} (hB : W.heap[B]? = some (.cells cs 9 (0, 0))) (wl : List ByteArray) (hcs : cs.toList = wl.map Value.string) (k : Nat) (hk : k < wl.length) : W.cell? ⟨B, k, none⟩ = some (.string (pickB wl k)) := by
  rw [Lib.cell_of_heap hB]
  show cs[k]? = _
  rw [← Array.getElem?_toList, hcs, List.getElem?_map, List.getElem?_eq_getElem hk]
  unfold pickB
  rw [List.getD_eq_getElem?_getD, List.getElem?_eq_getElem hk]; rfl

theorem ret_str {a b : ByteArray} (h : a = b) : Ending.returned (.string a) = .returned (.string b) := by rw [h]
set_option maxHeartbeats 1600000 in
theorem word_any (b : Nat) (p : Option Addr) (cap : Nat) (L : List Int) (m : Nat) (w : World) (h : NumsAt w b p cap L m) (hm : m ≤ 1000000) :
    Calls Tryz.prog 66 #[.pointer (some ⟨b, 0, none⟩)] w fun e w' => e = .returned (.string (pickB wordL (nx L m 24))) ∧ w.grownBy w' (some b) ∧ NumsAt w' b p cap L (m + 1) := by
  have hn := fun W h => next_any b p cap L m 24 24 rfl W h hm (by omega) (by omega)
  have hk := nx_lt L m 24 (by omega)
  generalize nx L m 24 = k at *
  have HN := Lib.hid hn; clear hn
  have hlt := h.lt
  go_enter Tryz.func66, Tryz.ntmps66
  go_wp2_with fail
  refine (HN.out _ (h.call (blw (Below.refl _ _) _))).mono ?_
  rintro e w1 ⟨rfl, hg, hN⟩
  have hB := (hg.block w.heap.size (by simp) (fun e => by injection e with e; omega)).trans (heap_alloc_new w _)
  have hc := pick_row hB wordL rfl k hk
  clear hB
  have hfin := chg_trans (chg_below (b := b) (blw (Below.refl w.heap.size w) _)) hg
  clear hg
  obtain ⟨s, hs⟩ : ∃ s, s = pickB wordL k := ⟨_, rfl⟩
  rw [← hs] at hc
  have HS := Lib.hid hs; clear hs
  go_wp2_with fail
  go_ret
  exact ⟨ret_str HS.out, hfin, hN⟩

theorem line0 (L : List Int) (m : Nat) (o : ByteArray) : lineGo L 0 m o = (o, m) := rfl
theorem line1 (L : List Int) (k m : Nat) (o : ByteArray) (h : o.size = 0) : lineGo L (k + 1) m o = lineGo L k (m + 1) (o ++ pickB wordL (nx L m 24)) := by rw [lineGo, if_pos h]
theorem line2 (L : List Int) (k m : Nat) (o : ByteArray) (h : ¬ o.size = 0) (h2 : 0 < nx L (m + 1) 3) : lineGo L (k + 1) m o = lineGo L k (m + 2) (o ++ (⟨#[32]⟩ : ByteArray) ++ pickB wordL (nx L m 24)) := by rw [lineGo, if_neg h, if_pos h2]
theorem line3 (L : List Int) (k m : Nat) (o : ByteArray) (h : ¬ o.size = 0) (h2 : ¬ 0 < nx L (m + 1) 3) : lineGo L (k + 1) m o = lineGo L k (m + 2) (o ++ pickB wordL (nx L m 24)) := by rw [lineGo, if_neg h, if_neg h2]

set_option maxHeartbeats 3200000 in
theorem line_any (b : Nat) (p : Option Addr) (cap : Nat) (L : List Int) (m : Nat) (n : Int) (N : Nat) (hnN : n = (N : Int)) (w : World) (h : NumsAt w b p cap L m) (hm : m ≤ 900000) (hn : N ≤ 100) :
    Calls Tryz.prog 34 #[.pointer (some ⟨b, 0, none⟩), .int .i64 n] w fun e w' => e = .returned (.string (lineF L m N).1) ∧ w.grownBy w' (some b) ∧ NumsAt w' b p cap L (lineF L m N).2 := by
  subst hnN
  have h1 := fun W h => next_any b p cap L m ((N : Int) + 1) (N + 1) (by omega) W h (by omega) (by omega) (by omega)
  have hi0 := nx_lt L m (N + 1) (by omega)
  generalize hF : lineF L m N = F at *
  unfold lineF at hF
  generalize nx L m (N + 1) = i0 at *
  have H1 := Lib.hid h1; clear h1
  have h2 := fun m' (hm' : m' ≤ 1000000) W h => next_any b p cap L m' 3 3 rfl W h hm' (by omega) (by omega)
  have H2 := Lib.hid h2; clear h2
  have h3 := fun m' (hm' : m' ≤ 1000000) W h => word_any b p cap L m' W h hm'
  have H3 := Lib.hid h3; clear h3
  have HF := Lib.hid hF; clear hF
  go_enter Tryz.func34, Tryz.ntmps34
  go_wp2_with fail
  refine (H1.out _ h).mono ?_
  rintro e w1 ⟨rfl, hg, hN⟩
  go_wp2_with fail
  go_loopw [5, 6] (fun s i wr => ∃ (k m' : Nat) (o : ByteArray), k ≤ N ∧ i = .int .i64 k ∧ s = .string o ∧ o.size + 6 * k ≤ 6 * N ∧ w.grownBy wr (some b) ∧ m' + 2 * k ≤ m + 1 + 2 * N ∧ NumsAt wr b p cap L m' ∧ Hid (lineGo L k m' o = F)) (fun _ i _ => (intOf i).toNat)
  case atStart => exact ⟨i0, m + 1, _, by omega, rfl, rfl, by show 0 + _ ≤ _; omega, hg, by omega, hN, HF⟩
  case round =>
    obtain ⟨k, m', o, hk, rfl, rfl, ho, hgr, hm', hN', HL⟩ := hrel
    by_cases hlt : 0 < k
    · have q : decide (0 < (k : Int)) = true := decide_eq_true (by omega)
      obtain ⟨k, rfl⟩ : ∃ j, k = j + 1 := ⟨k - 1, by omega⟩
      have hl1 := line1 L k m' o
      have hl2 := line2 L k m' o
      have hl3 := line3 L k m' o
      obtain ⟨s1, s2⟩ := word_size L m'
      have H3' := Lib.hid (H3.out m' (by omega))
      generalize pickB wordL (nx L m' 24) = s at *
      have HL1 := Lib.hid hl1; have HL2 := Lib.hid hl2; have HL3 := Lib.hid hl3
      clear hl1 hl2 hl3
      go_wp2_with fail
      refine (H3'.out _ hN').mono ?_
      rintro e w2 ⟨rfl, hg2, hN2⟩
      have hgr2 := chg_trans hgr hg2
      have sz1 : o.size + s.size ≤ 9223372036854775807 := by omega
      have sz2 : o.size + 1 ≤ 9223372036854775807 := by omega
      by_cases hz : o.size = 0
      · have q2 := str_none hz
        have sz3 : (o ++ s).size = o.size + s.size := ByteArray.size_append
        have HE := Lib.hid ((HL1.out hz).symm.trans HL.out)
        go_wp2_with fail
        go_roundw
        case rel => exact ⟨k, m' + 1, o ++ s, by omega, by go_num, rfl, by omega, hgr2, by omega, hN2, HE⟩
        case measure => simp [intOf]
      · have q2 := str_some hz
        have H2' := Lib.hid (H2.out (m' + 1) (by omega))
        have HL2 := Lib.hid (HL2.out hz); have HL3 := Lib.hid (HL3.out hz)
        generalize nx L (m' + 1) 3 = r3 at *
        go_wp2_with fail
        refine (H2'.out _ hN2).mono ?_
        rintro e w3 ⟨rfl, hg3, hN3⟩
        have hgr3 := chg_trans hgr2 hg3
        by_cases hr : 0 < r3
        · have q3 : decide (0 < r3) = true := decide_eq_true hr
          have sz3 : (o ++ (⟨#[32]⟩ : ByteArray)).size = o.size + 1 := by rw [ByteArray.size_append]; rfl
          have sz4 : (o ++ (⟨#[32]⟩ : ByteArray) ++ s).size = o.size + 1 + s.size := by rw [ByteArray.size_append, sz3]
          have sz5 : (o ++ (⟨#[32]⟩ : ByteArray)).size + s.size ≤ 9223372036854775807 := by omega
          have HE := Lib.hid ((HL2.out hr).symm.trans HL.out)
          go_wp2_with fail
          go_roundw
          case rel => exact ⟨k, m' + 2, o ++ ⟨#[32]⟩ ++ s, by omega, by go_num, rfl, by omega, hgr3, by omega, hN3, HE⟩
          case measure => simp [intOf]
        · have q3 : decide (0 < r3) = false := decide_eq_false hr
          have sz3 : (o ++ s).size = o.size + s.size := ByteArray.size_append
          have HE := Lib.hid ((HL3.out hr).symm.trans HL.out)
          go_wp2_with fail
          go_roundw
          case rel => exact ⟨k, m' + 2, o ++ s, by omega, by go_num, rfl, by omega, hgr3, by omega, hN3, HE⟩
          case measure => simp [intOf]
    · obtain rfl : k = 0 := by omega
      have hfin := (line0 L m' o).symm.trans HL.out
      subst hfin
      go_wp2_with fail
      go_ret
      exact ⟨rfl, hgr, hN'⟩
end Go.Proofs.YtphkpokoeaagfaaGreatDoor
