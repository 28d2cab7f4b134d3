/- Suffix. -/
import Derived.Test.YtdnofpllmhnacaaRev
namespace Go.Proofs.Ytdnofpllmhnacaa
open Go.ChangeShapes Go.WideShapes Go.ChangeAt Go.RowKit Go.Sort
set_option linter.unusedVariables false
set_option linter.unusedSimpArgs false
set_option maxRecDepth 100000

theorem fold_rev (P : List At) (s : ByteArray) (a : Nat) (h : a < s.size) :
    foldE P ((byt s).reverse.take (s.size - a)) = stepE P (foldE P ((byt s).reverse.take (s.size - (a + 1)))) (s[a]'h).toNat := by
  have hl : (byt s).length = s.size := byt_len s
  have hk : s.size - (a + 1) < (byt s).reverse.length := by rw [List.length_reverse, hl]; omega
  rw [show s.size - a = (s.size - (a + 1)) + 1 by omega, List.take_succ_eq_append_getElem hk, foldE_snoc]
  congr 1
  rw [List.getElem_reverse]
  have e : (byt s).length - 1 - (s.size - (a + 1)) = a := by omega
  simp only [e]
  unfold byt; simp only [List.getElem_map]; rfl
theorem fold_dead' (P : List At) (l : List Nat) (k : Nat) (h : anyE (foldE P (l.take k)) P.length = false) (i : Nat) (hi : k ≤ i) : matchF P (l.take i) = false := by
  have : l.take i = l.take k ++ (l.take i).drop k := by
    rw [show l.take k = (l.take i).take k by rw [List.take_take, Nat.min_eq_left hi], List.take_append_drop]
  rw [this]; exact fold_none h _
/-- Whether a suffix matches. -/
def sufF (P : List At) (l : List Nat) : Bool := (List.range (l.length + 1)).any fun i => matchF P (l.drop i)
theorem match_rev (P : List At) (l : List Nat) : matchF P.reverse l.reverse = matchF P l := by
  rw [Bool.eq_iff_iff, match_iff, match_iff, Mat_reverse]
theorem pref_rev (P : List At) (l : List Nat) : prefF P.reverse l.reverse = sufF P l := by
  unfold prefF sufF
  rw [List.length_reverse, Bool.eq_iff_iff, List.any_eq_true, List.any_eq_true]
  constructor
  · rintro ⟨i, hi, h⟩
    have hi := List.mem_range.1 hi
    refine ⟨l.length - i, List.mem_range.2 (by omega), ?_⟩
    rw [← match_rev]
    rw [List.take_reverse] at h
    exact h
  · rintro ⟨i, hi, h⟩
    have hi := List.mem_range.1 hi
    refine ⟨l.length - i, List.mem_range.2 (by omega), ?_⟩
    rw [List.take_reverse, show l.length - (l.length - i) = i by omega, match_rev]
    exact h

def SfR (s : ByteArray) (R g : Nat) (p : Option Addr) (c : Nat) (P : List At) (w1 : World) (i : Value) (wr : World) : Prop :=
  ∃ a : Nat, a ≤ s.size ∧ i = .int .i64 a ∧ Below w1.heap.size w1 wr ∧ MS R g p c P (foldE P ((byt s).reverse.take (s.size - a))) wr ∧ (∀ j, j < s.size - a → matchF P ((byt s).reverse.take j) = false)
set_option maxHeartbeats 3200000 in
theorem suffix_any (p0 : Option Addr) (c0 : Nat) (P0 : List At) (s : ByteArray) (w : World) (hP0 : Ats w p0 P0) (hc0 : P0.length ≤ c0) (hm0 : c0 ≤ maxLen) (hn0 : P0.length ≤ 1000) (hs : s.size ≤ 4000000000) :
    Calls Try.prog 25 #[.slice p0 P0.length c0, .string s] w fun e w' => e = .returned (.bool (sufF P0 (byt s))) ∧ Below w.heap.size w w' := by
  have hrv := rev_any p0 c0 P0 w hP0 hc0 hm0 hn0
  rw [← pref_rev]
  have hn : P0.reverse.length ≤ 1000 := by rw [List.length_reverse]; exact hn0
  generalize P0.reverse = P at *
  have HRV := Lib.hid hrv; clear hrv
  go_enter Try.func25, Try.ntmps25
  go_wp2_with fail
  refine HRV.out.mono ?_; rintro e w1 ⟨v, rfl, ow1, bw1⟩
  obtain ⟨p, c, rfl, hc, hm, hP, _⟩ := ow1.ats
  have BW := Lib.hid bw1; clear bw1 ow1
  go_wp2_with fail
  refine (begin_any p c P _ hP hc hm (by omega)).mono ?_; rintro e w2 ⟨g, rfl, hB1, hg1, hrow1⟩
  have hMS : MS w2.heap.size g p c P (foldE P ((byt s).reverse.take (s.size - s.size))) _ := MS.start hP hc hm hB1 hg1 (foldE_len P _) (by rw [Nat.sub_self]; exact hrow1)
  have hB2 := blw hB1 (.cells #[.slice p P.length c, .slice (some ⟨g, 0, none⟩) (P.length + 1) (P.length + 1)] 65)
  go_wp2_with fail
  generalize w2.heap.size = R at *
  generalize w2.alloc (.cells #[.slice p P.length c, .slice (some ⟨g, 0, none⟩) (P.length + 1) (P.length + 1)] 65) = w3 at *
  go_loopw [6] (fun i wr => SfR s R g p c P w1 i wr) (fun i _ => (intOf i).toNat)
  case atStart => exact ⟨s.size, Nat.le_refl _, rfl, hB2, hMS, fun i hi => absurd hi (by omega)⟩
  case round =>
    clear hMS hB2 hrow1
    obtain ⟨a, ha, rfl, hB, hM, hno⟩ := hrel
    have hw := whole_any R g p c P _ wr hM (by omega)
    rw [fold_end] at hw
    have HN := Lib.hid hno; clear hno
    have hl : (byt s).reverse.length = s.size := by rw [List.length_reverse, byt_len]
    by_cases hmt : matchF P ((byt s).reverse.take (s.size - a)) = true
    · rw [hmt] at hw
      have hy := pref_yes (P := P) (l := (byt s).reverse) (k := s.size - a) (by rw [hl]; omega) hmt
      have HW := Lib.hid hw; have HY := Lib.hid hy; clear hw hM hy hmt hl
      go_wp2_with fail
      refine HW.out.mono ?_; rintro e w4 ⟨rfl, n, rfl⟩
      go_wp2_with fail
      go_ret
      exact ⟨ret_bool HY.out.symm, BelowOn BW.out (bdrN hB n)⟩
    · have hmt : matchF P ((byt s).reverse.take (s.size - a)) = false := by simpa using hmt
      rw [hmt] at hw
      have HW := Lib.hid hw; clear hw
      have hno2 : ∀ j, j < s.size - a + 1 → matchF P ((byt s).reverse.take j) = false := fun j hj => by
        by_cases e : j = s.size - a
        · rw [e]; exact hmt
        · exact HN.out j (by omega)
      have HN2 := Lib.hid hno2; have HL := Lib.hid hl; clear hno2 hmt HN hl
      cases a with
      | zero =>
        have hd : prefF P (byt s).reverse = false := pref_no fun i hi => HN2.out i (by rw [HL.out] at hi; omega)
        have HD := Lib.hid hd; clear hd hM
        go_wp2_with fail
        refine HW.out.mono ?_; rintro e w4 ⟨rfl, n, rfl⟩
        have hBn := bdrN hB n
        go_wp2_with fail
        go_ret
        exact ⟨ret_bool HD.out.symm, BelowOn BW.out hBn⟩
      | succ a =>
        have hlt : a < s.size := by omega
        have q0 : ((((a + 1 : Nat) : Int)) == 0) = false := by simp; omega
        have x0 : (((a + 1 : Nat) : Int) - 1).toNat = a := by omega
        have x1 : (0 : Int) ≤ ((a + 1 : Nat) : Int) - 1 := by omega
        have x2 : ((a + 1 : Nat) : Int) - 1 < (s.size : Int) := by omega
        have hrd := fun n => read_any R g p c P _ (s[a]'hlt).toNat (s[a]'hlt).toNat_lt _ (hM.drewN n) (by omega)
        rw [← fold_rev P s a hlt] at hrd
        clear hM
        by_cases hae : anyE (foldE P ((byt s).reverse.take (s.size - a))) P.length = true
        · rw [hae] at hrd
          have HR := Lib.hid hrd; clear hae hrd
          go_wp2_with fail
          refine HW.out.mono ?_; rintro e w4 ⟨rfl, n, rfl⟩
          have hBn := bdrN hB n
          go_wp2_with fail
          refine (HR.out n).mono ?_; rintro e w5 ⟨rfl, hg3, hM3⟩
          have hB3 : Below w1.heap.size w1 w5 := hBn.grown hg3 hBn.size (fun j hj => by cases hj; omega)
          go_wp2_with fail
          go_roundw
          case rel => exact ⟨a, by omega, by first | rfl | (congr 1 <;> omega), hB3, hM3, fun j hj => HN2.out j (by omega)⟩
          case measure => (simp [intOf] <;> omega)
        · have hae : anyE (foldE P ((byt s).reverse.take (s.size - a))) P.length = false := by simpa using hae
          rw [hae] at hrd
          have hd : prefF P (byt s).reverse = false := pref_no fun i hi => by
            by_cases e : i < s.size - (a + 1) + 1
            · exact HN2.out i e
            · exact fold_dead' P _ (s.size - a) hae i (by omega)
          have HD := Lib.hid hd
          have HR := Lib.hid hrd; clear hae hrd hd
          go_wp2_with fail
          refine HW.out.mono ?_; rintro e w4 ⟨rfl, n, rfl⟩
          have hBn := bdrN hB n
          go_wp2_with fail
          refine (HR.out n).mono ?_; rintro e w5 ⟨rfl, hg3, hM3⟩
          have hB3 : Below w1.heap.size w1 w5 := hBn.grown hg3 hBn.size (fun j hj => by cases hj; omega)
          go_wp2_with fail
          go_ret
          exact ⟨ret_bool HD.out.symm, BelowOn BW.out hB3⟩
theorem suffix_own {base : Nat} {P : List At} {v : Value} {W : World} (h : OwA base P v W) (hn : P.length ≤ 1000) (s : ByteArray) (hs : s.size ≤ 4000000000) :
    Calls Try.prog 25 #[v, .string s] W fun e w' => e = .returned (.bool (sufF P (byt s))) ∧ Below W.heap.size W w' := by
  obtain ⟨p, c, rfl, hc, hm, ha, _⟩ := h.ats
  exact suffix_any p c P s W ha hc hm hn hs
theorem rev_own {base : Nat} {P : List At} {v : Value} {W : World} (h : OwA base P v W) (hn : P.length ≤ 1000) :
    Calls Try.prog 31 #[v] W (MkEnd P.reverse W) := by
  obtain ⟨p, c, rfl, hc, hm, ha, _⟩ := h.ats
  exact rev_any p c P W ha hc hm hn
end Go.Proofs.Ytdnofpllmhnacaa
