/- Match, Prefix, Longest. -/
import Derived.Test.YtdnofpllmhnacaaRed
namespace Go.Proofs.Ytdnofpllmhnacaa
open Go.ChangeShapes Go.WideShapes Go.ChangeAt Go.RowKit Go.Sort
set_option linter.unusedVariables false
set_option linter.unusedSimpArgs false
set_option maxRecDepth 100000

theorem MS.start {w w1 : World} {g : Nat} {p : Option Addr} {c : Nat} {P : List At} {E : List Bool} (hP : Ats w p P) (hc : P.length ≤ c) (hm : c ≤ maxLen) (hB : Below w.heap.size w w1) (hg : w.heap.size ≤ g) (hE : E.length = P.length + 1)
    (hrow : w1.heap[g]? = some (.cells (E.map Value.bool).toArray 4 (0, 0))) :
    MS w1.heap.size g p c P E (w1.alloc (.cells #[.slice p P.length c, .slice (some ⟨g, 0, none⟩) (P.length + 1) (P.length + 1)] 65)) := by
  have hlt : g < w1.heap.size := (Array.getElem?_eq_some_iff.1 hrow).1
  refine ⟨heap_alloc_new w1 _, (Lib.alloc_old _ _ g hlt).trans hrow, hE, (hP.call hB).call (blw (Below.refl _ _) _), by omega, fun h0 b o hp => ?_, hc, hm⟩
  obtain ⟨b', o', hp', hlt', _⟩ := hP h0
  rw [hp] at hp'; injection hp' with hp'; injection hp' with h1 h2; omega
theorem fold_take (P : List At) (s : ByteArray) (k : Nat) (h : k < s.size) : foldE P ((byt s).take (k + 1)) = stepE P (foldE P ((byt s).take k)) (s[k]'h).toNat := by
  rw [byt_take s k h, foldE_snoc]
theorem fold_all (P : List At) (s : ByteArray) : foldE P ((byt s).take s.size) = foldE P (byt s) := by
  rw [List.take_of_length_le (by rw [byt_len]; exact Nat.le_refl _)]
theorem fold_end (P : List At) (l : List Nat) (h : P.length < (foldE P l).length) : (foldE P l)[P.length] = matchF P l := by
  unfold matchF; exact (getElem!_pos (foldE P l) P.length h).symm
/-- A reach that reads nothing more. -/
theorem fold_dead (P : List At) (s : ByteArray) (k : Nat) (h : anyE (foldE P ((byt s).take k)) P.length = false) (i : Nat) (hi : k ≤ i) : matchF P ((byt s).take i) = false := by
  have : (byt s).take i = (byt s).take k ++ ((byt s).take i).drop k := by
    rw [show (byt s).take k = ((byt s).take i).take k by rw [List.take_take, Nat.min_eq_left hi], List.take_append_drop]
  rw [this]; exact fold_none h _

set_option maxHeartbeats 3200000 in
theorem match_any (p : Option Addr) (c : Nat) (P : List At) (s : ByteArray) (w : World) (hP : Ats w p P) (hc : P.length ≤ c) (hm : c ≤ maxLen) (hn : P.length ≤ 1000000) (hs : s.size ≤ 4000000000) :
    Calls Try.prog 19 #[.slice p P.length c, .string s] w fun e w' => e = .returned (.bool (matchF P (byt s))) ∧ Below w.heap.size w w' := by
  go_enter Try.func19, Try.ntmps19
  go_wp2_with fail
  refine (begin_any p c P _ hP hc hm hn).mono ?_; rintro e w1 ⟨g, rfl, hB1, hg1, hrow1⟩
  have hMS : MS w1.heap.size g p c P (foldE P ((byt s).take 0)) _ := MS.start hP hc hm hB1 hg1 (foldE_len P _) hrow1
  have hB2 := blw hB1 (.cells #[.slice p P.length c, .slice (some ⟨g, 0, none⟩) (P.length + 1) (P.length + 1)] 65)
  go_wp2_with fail
  generalize w1.heap.size = R at *
  generalize w1.alloc (.cells #[.slice p P.length c, .slice (some ⟨g, 0, none⟩) (P.length + 1) (P.length + 1)] 65) = w2 at *
  go_loopw [11] (fun i wr => ∃ k : Nat, k ≤ s.size ∧ i = .int .i64 k ∧ Below w.heap.size w wr ∧ MS R g p c P (foldE P ((byt s).take k)) wr) (fun i _ => s.size - (intOf i).toNat)
  case atStart => exact ⟨0, Nat.zero_le _, rfl, hB2, hMS⟩
  case round =>
    clear hMS hB2 hrow1
    obtain ⟨k, hk, rfl, hB, hM⟩ := hrel
    by_cases hlt : k < s.size
    · have hr := read_any R g p c P _ (s[k]'hlt).toNat (s[k]'hlt).toNat_lt wr hM hn
      rw [← fold_take P s k hlt] at hr
      have HR := Lib.hid hr; clear hr
      by_cases ha : anyE (foldE P ((byt s).take (k + 1))) P.length = true
      · rw [ha] at HR
        have HA := Lib.hid ha; clear ha
        go_wp2_with fail
        refine HR.out.mono ?_; rintro e w3 ⟨rfl, hg3, hM3⟩
        have hB3 : Below w.heap.size w w3 := hB.grown hg3 hB.size (fun j hj => by cases hj; omega)
        go_wp2_with fail
        go_roundw
        case rel => exact ⟨k + 1, hlt, by go_num, hB3, hM3⟩
        case measure => simp [intOf]; omega
      · have ha : anyE (foldE P ((byt s).take (k + 1))) P.length = false := by simpa using ha
        rw [ha] at HR
        have hd := fold_dead P s (k + 1) ha s.size hlt
        rw [List.take_of_length_le (by rw [byt_len]; exact Nat.le_refl _)] at hd
        have HD := Lib.hid hd; clear hd ha
        go_wp2_with fail
        refine HR.out.mono ?_; rintro e w3 ⟨rfl, hg3, hM3⟩
        have hB3 : Below w.heap.size w w3 := hB.grown hg3 hB.size (fun j hj => by cases hj; omega)
        go_wp2_with fail
        go_ret
        exact ⟨ret_bool HD.out.symm, hB3⟩
    · obtain rfl : k = s.size := by omega
      rw [fold_all] at hM
      have hw := whole_any R g p c P _ wr hM (by omega)
      rw [fold_end] at hw
      have HW := Lib.hid hw; clear hw hM
      go_wp2_with fail
      refine HW.out.mono ?_; rintro e w3 ⟨rfl, n, rfl⟩
      go_wp2_with fail
      go_ret
      exact ⟨rfl, bdrN hB n⟩

/-! ### Prefix, Longest -/
def prefF (P : List At) (l : List Nat) : Bool := (List.range (l.length + 1)).any fun i => matchF P (l.take i)
theorem pref_yes {P : List At} {l : List Nat} {k : Nat} (hk : k ≤ l.length) (h : matchF P (l.take k) = true) : prefF P l = true :=
  List.any_eq_true.2 ⟨k, List.mem_range.2 (by omega), h⟩
theorem pref_no {P : List At} {l : List Nat} (h : ∀ i, i ≤ l.length → matchF P (l.take i) = false) : prefF P l = false :=
  List.any_eq_false.2 fun i hi => by rw [h i (by have := List.mem_range.1 hi; omega)]; decide

set_option maxHeartbeats 3200000 in
theorem prefix_any (p : Option Addr) (c : Nat) (P : List At) (s : ByteArray) (w : World) (hP : Ats w p P) (hc : P.length ≤ c) (hm : c ≤ maxLen) (hn : P.length ≤ 1000000) (hs : s.size ≤ 4000000000) :
    Calls Try.prog 23 #[.slice p P.length c, .string s] w fun e w' => e = .returned (.bool (prefF P (byt s))) ∧ Below w.heap.size w w' := by
  go_enter Try.func23, Try.ntmps23
  go_wp2_with fail
  refine (begin_any p c P _ hP hc hm hn).mono ?_; rintro e w1 ⟨g, rfl, hB1, hg1, hrow1⟩
  have hMS : MS w1.heap.size g p c P (foldE P ((byt s).take 0)) _ := MS.start hP hc hm hB1 hg1 (foldE_len P _) hrow1
  have hB2 := blw hB1 (.cells #[.slice p P.length c, .slice (some ⟨g, 0, none⟩) (P.length + 1) (P.length + 1)] 65)
  go_wp2_with fail
  generalize w1.heap.size = R at *
  generalize w1.alloc (.cells #[.slice p P.length c, .slice (some ⟨g, 0, none⟩) (P.length + 1) (P.length + 1)] 65) = w2 at *
  go_loopw [6] (fun i wr => ∃ k : Nat, k ≤ s.size ∧ i = .int .i64 k ∧ Below w.heap.size w wr ∧ MS R g p c P (foldE P ((byt s).take k)) wr ∧ (∀ i, i < k → matchF P ((byt s).take i) = false)) (fun i _ => s.size - (intOf i).toNat)
  case atStart => exact ⟨0, Nat.zero_le _, rfl, hB2, hMS, fun i hi => absurd hi (Nat.not_lt_zero _)⟩
  case round =>
    clear hMS hB2 hrow1
    obtain ⟨k, hk, rfl, hB, hM, hno⟩ := hrel
    have hw := whole_any R g p c P _ wr hM (by omega)
    rw [fold_end] at hw
    have HN := Lib.hid hno; clear hno
    by_cases hmt : matchF P ((byt s).take k) = true
    · rw [hmt] at hw
      have hy := pref_yes (by rw [byt_len]; exact hk) hmt
      have HW := Lib.hid hw; have HY := Lib.hid hy; clear hw hM hy hmt
      go_wp2_with fail
      refine HW.out.mono ?_; rintro e w3 ⟨rfl, n, rfl⟩
      go_wp2_with fail
      go_ret
      exact ⟨ret_bool HY.out.symm, bdrN hB n⟩
    · have hmt : matchF P ((byt s).take k) = false := by simpa using hmt
      rw [hmt] at hw
      have HW := Lib.hid hw; clear hw
      have hno2 : ∀ i, i < k + 1 → matchF P ((byt s).take i) = false := fun i hi => by
        by_cases e : i = k
        · rw [e]; exact hmt
        · exact HN.out i (by omega)
      have HN2 := Lib.hid hno2; clear hno2 hmt HN
      by_cases hlt : k < s.size
      · have q0 : (((k : Int)) == (s.size : Int)) = false := by simp; omega
        by_cases ha : anyE (foldE P ((byt s).take (k + 1))) P.length = true
        · have HR : Hid (∀ n, Calls Try.prog 38 #[.pointer (some ⟨R, 0, none⟩), .int .u8 (s[k]'hlt).toNat] (wr.drewN n) fun e w' => e = .returned (.bool true) ∧ (wr.drewN n).grownBy w' (some g) ∧ MS R g p c P (foldE P ((byt s).take (k + 1))) w') := Lib.hid fun n => by
            have := read_any R g p c P _ (s[k]'hlt).toNat (s[k]'hlt).toNat_lt _ (hM.drewN n) hn
            rwa [← fold_take P s k hlt, ha] at this
          clear ha hM
          go_wp2_with fail
          refine HW.out.mono ?_; rintro e w3 ⟨rfl, n, rfl⟩
          have hBn := bdrN hB n
          go_wp2_with fail
          refine (HR.out n).mono ?_; rintro e w3 ⟨rfl, hg3, hM3⟩
          have hB3 : Below w.heap.size w w3 := hBn.grown hg3 hBn.size (fun j hj => by cases hj; omega)
          go_wp2_with fail
          go_roundw
          case rel => exact ⟨k + 1, hlt, by go_num, hB3, hM3, HN2.out⟩
          case measure => simp [intOf]; omega
        · have ha : anyE (foldE P ((byt s).take (k + 1))) P.length = false := by simpa using ha
          have HR : Hid (∀ n, Calls Try.prog 38 #[.pointer (some ⟨R, 0, none⟩), .int .u8 (s[k]'hlt).toNat] (wr.drewN n) fun e w' => e = .returned (.bool false) ∧ (wr.drewN n).grownBy w' (some g) ∧ MS R g p c P (foldE P ((byt s).take (k + 1))) w') := Lib.hid fun n => by
            have := read_any R g p c P _ (s[k]'hlt).toNat (s[k]'hlt).toNat_lt _ (hM.drewN n) hn
            rwa [← fold_take P s k hlt, ha] at this
          have hd : prefF P (byt s) = false := pref_no fun i hi => by
            by_cases e : i < k + 1
            · exact HN2.out i e
            · exact fold_dead P s (k + 1) ha i (by omega)
          have HD := Lib.hid hd; clear hd ha hM
          go_wp2_with fail
          refine HW.out.mono ?_; rintro e w3 ⟨rfl, n, rfl⟩
          have hBn := bdrN hB n
          go_wp2_with fail
          refine (HR.out n).mono ?_; rintro e w3 ⟨rfl, hg3, hM3⟩
          have hB3 : Below w.heap.size w w3 := hBn.grown hg3 hBn.size (fun j hj => by cases hj; omega)
          go_wp2_with fail
          go_ret
          exact ⟨ret_bool HD.out.symm, hB3⟩
      · obtain rfl : k = s.size := by omega
        have hd : prefF P (byt s) = false := pref_no fun i hi => HN2.out i (by rw [byt_len] at hi; omega)
        have HD := Lib.hid hd; clear hd hM
        go_wp2_with fail
        refine HW.out.mono ?_; rintro e w3 ⟨rfl, n, rfl⟩
        have hBn := bdrN hB n
        go_wp2_with fail
        go_ret
        exact ⟨ret_bool HD.out.symm, hBn⟩

def lngF (P : List At) (l : List Nat) : Nat → Int
  | 0 => -1
  | k + 1 => if matchF P (l.take k) then (k : Int) else lngF P l k
def longF (P : List At) (l : List Nat) : Int := lngF P l (l.length + 1)
theorem lng_same {P : List At} {l : List Nat} {k : Nat} (n : Nat) (h : ∀ i, k ≤ i → matchF P (l.take i) = false) : lngF P l (k + n) = lngF P l k := by
  induction n with
  | zero => rfl
  | succ n ih => rw [← Nat.add_assoc, lngF, h (k + n) (by omega)]; simpa using ih

set_option maxHeartbeats 3200000 in
theorem longest_any (p : Option Addr) (c : Nat) (P : List At) (s : ByteArray) (w : World) (hP : Ats w p P) (hc : P.length ≤ c) (hm : c ≤ maxLen) (hn : P.length ≤ 1000000) (hs : s.size ≤ 4000000000) :
    Calls Try.prog 27 #[.slice p P.length c, .string s] w fun e w' => e = .returned (.int .i64 (longF P (byt s))) ∧ Below w.heap.size w w' := by
  go_enter Try.func27, Try.ntmps27
  go_wp2_with fail
  refine (begin_any p c P _ hP hc hm hn).mono ?_; rintro e w1 ⟨g, rfl, hB1, hg1, hrow1⟩
  have hMS : MS w1.heap.size g p c P (foldE P ((byt s).take 0)) _ := MS.start hP hc hm hB1 hg1 (foldE_len P _) hrow1
  have hB2 := blw hB1 (.cells #[.slice p P.length c, .slice (some ⟨g, 0, none⟩) (P.length + 1) (P.length + 1)] 65)
  go_wp2_with fail
  generalize w1.heap.size = R at *
  generalize w1.alloc (.cells #[.slice p P.length c, .slice (some ⟨g, 0, none⟩) (P.length + 1) (P.length + 1)] 65) = w2 at *
  go_loopw [5, 7] (fun lg i wr => ∃ k : Nat, k ≤ s.size ∧ i = .int .i64 k ∧ lg = .int .i64 (lngF P (byt s) k) ∧ Below w.heap.size w wr ∧ MS R g p c P (foldE P ((byt s).take k)) wr) (fun _ i _ => s.size - (intOf i).toNat)
  case atStart => exact ⟨0, Nat.zero_le _, rfl, rfl, hB2, hMS⟩
  case round =>
    clear hMS hB2 hrow1
    obtain ⟨k, hk, rfl, rfl, hB, hM⟩ := hrel
    have hw := whole_any R g p c P _ wr hM (by omega)
    rw [fold_end] at hw
    have HW := Lib.hid hw; clear hw
    have hnx : lngF P (byt s) (k + 1) = if matchF P ((byt s).take k) then (k : Int) else lngF P (byt s) k := rfl
    by_cases hlt : k < s.size
    · have q0 : (((k : Int)) == (s.size : Int)) = false := by simp; omega
      have hr : ∀ n, Calls Try.prog 38 #[.pointer (some ⟨R, 0, none⟩), .int .u8 (s[k]'hlt).toNat] (wr.drewN n) fun e w' => e = .returned (.bool (anyE (foldE P ((byt s).take (k + 1))) P.length)) ∧ (wr.drewN n).grownBy w' (some g) ∧ MS R g p c P (foldE P ((byt s).take (k + 1))) w' := fun n => by
        have := read_any R g p c P _ (s[k]'hlt).toNat (s[k]'hlt).toNat_lt _ (hM.drewN n) hn
        rwa [← fold_take P s k hlt] at this
      clear hM
      have hdd : anyE (foldE P ((byt s).take (k + 1))) P.length = false → longF P (byt s) = lngF P (byt s) (k + 1) := fun ha => by
        have := lng_same (P := P) (l := byt s) (k := k + 1) (s.size - k) (fun i hi => fold_dead P s (k + 1) ha i hi)
        unfold longF; rw [byt_len]; rw [show k + 1 + (s.size - k) = s.size + 1 by omega] at this; exact this
      have HDD := Lib.hid hdd; clear hdd
      by_cases hmt : matchF P ((byt s).take k) = true
      all_goals
        first | rw [hmt] at HW hnx | (have hmt : matchF P ((byt s).take k) = false := by simpa using hmt
                                      rw [hmt] at HW hnx)
        have HNX := Lib.hid hnx; clear hnx hmt
        by_cases ha : anyE (foldE P ((byt s).take (k + 1))) P.length = true
        · rw [ha] at hr
          have HR := Lib.hid hr; clear ha hr HDD
          go_wp2_with fail
          refine HW.out.mono ?_; rintro e w3 ⟨rfl, n, rfl⟩
          have hBn := bdrN hB n
          go_wp2_with fail
          refine (HR.out n).mono ?_; rintro e w3 ⟨rfl, hg3, hM3⟩
          have hB3 : Below w.heap.size w w3 := hBn.grown hg3 hBn.size (fun j hj => by cases hj; omega)
          go_wp2_with fail
          go_roundw
          case rel => exact ⟨k + 1, hlt, by go_num, by rw [HNX.out]; rfl, hB3, hM3⟩
          case measure => simp [intOf]; omega
        · have ha : anyE (foldE P ((byt s).take (k + 1))) P.length = false := by simpa using ha
          rw [ha] at hr
          have HA := Lib.hid ha
          have HR := Lib.hid hr; clear ha hr
          go_wp2_with fail
          refine HW.out.mono ?_; rintro e w3 ⟨rfl, n, rfl⟩
          have hBn := bdrN hB n
          go_wp2_with fail
          refine (HR.out n).mono ?_; rintro e w3 ⟨rfl, hg3, hM3⟩
          have hB3 : Below w.heap.size w w3 := hBn.grown hg3 hBn.size (fun j hj => by cases hj; omega)
          go_wp2_with fail
          go_ret
          exact ⟨by rw [HDD.out HA.out, HNX.out]; rfl, hB3⟩
    · obtain rfl : k = s.size := by omega
      have hd : longF P (byt s) = lngF P (byt s) (s.size + 1) := by unfold longF; rw [byt_len]
      rw [hnx] at hd
      clear hM hnx
      by_cases hmt : matchF P ((byt s).take s.size) = true
      all_goals
        first | rw [hmt] at HW hd | (have hmt : matchF P ((byt s).take s.size) = false := by simpa using hmt
                                     rw [hmt] at HW hd)
        have HD := Lib.hid hd; clear hd hmt
        go_wp2_with fail
        refine HW.out.mono ?_; rintro e w3 ⟨rfl, n, rfl⟩
        have hBn := bdrN hB n
        go_wp2_with fail
        go_ret
        exact ⟨by rw [HD.out]; rfl, hBn⟩
end Go.Proofs.Ytdnofpllmhnacaa
