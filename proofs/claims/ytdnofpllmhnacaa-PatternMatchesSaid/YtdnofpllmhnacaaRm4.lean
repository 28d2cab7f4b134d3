/- The reference's start, Match, Longest, Prefix, Suffix. -/
import Derived.Test.YtdnofpllmhnacaaRm3
import Derived.Test.YtdnofpllmhnacaaEnW
namespace Go.Proofs.Ytdnofpllmhnacaa
open Go.ChangeShapes Go.WideShapes Go.ChangeAt Go.RowKit Go.Sort
set_option linter.unusedVariables false
set_option linter.unusedSimpArgs false
set_option maxRecDepth 100000

def zF : Nat → Bool := fun j => decide (j = 0)
def uF (k : Nat) : Nat → Bool := fun j => decide (j < k)
theorem fnL_zero (n : Nat) : (fnL n (fun _ => false)).toArray.setIfInBounds 0 (.bool true) = (fnL n zF).toArray :=
  fnL_set n _ _ 0 true (Nat.zero_le _) (fun j _ => by unfold zF; by_cases e : j = 0 <;> simp [e])
theorem fnL_up (n k : Nat) (hk : k ≤ n) : (fnL n (uF k)).toArray.setIfInBounds k (.bool true) = (fnL n (uF (k + 1))).toArray :=
  fnL_set n _ _ k true hk (fun j _ => by
    unfold uF
    by_cases e : j = k
    · subst e; simp
    · rw [if_neg e]; by_cases h : j < k
      · rw [decide_eq_true h, decide_eq_true (by omega)]
      · rw [decide_eq_false h, decide_eq_false (by omega)])
theorem rowcell {W : World} {h n : Nat} {N : Nat → Bool} (r : W.heap[h]? = some (.cells (fnL n N).toArray 4 (0, 0))) (i : Nat) (hi : i ≤ n) : W.cell? ⟨h, i, none⟩ = some (.bool (N i)) := by
  rw [cell_of_row _ _ _ _ _ _ r]; simpa using fnL_at n N i hi

set_option maxHeartbeats 1600000 in
theorem start_any (s : ByteArray) (w : World) (hs : s.size ≤ 100000) : Calls Try.prog 42 #[.string s] w fun e w' => e = .returned (.slice (some ⟨w.heap.size, 0, none⟩) (s.size + 1) (s.size + 1)) ∧ (∀ i, i ≤ s.size → w'.cell? ⟨w.heap.size, i, none⟩ = some (.bool (zF i))) ∧ Below w.heap.size w w' := by
  have hmk := make_bools w s.size (by omega)
  have hh := heap_alloc_new w (.cells (List.replicate (s.size + 1) (Value.bool false)).toArray 4)
  have hB := blw (Below.refl w.heap.size w) (.cells (List.replicate (s.size + 1) (Value.bool false)).toArray 4)
  rw [← fnL_false] at hmk hh hB
  generalize w.alloc (.cells (fnL s.size fun _ => false).toArray 4) = w1 at *
  have hc := rowcell hh 0 (Nat.zero_le _)
  have fr := Lib.frozen_of_heap hh 0
  have hz : (0 : Int) < (s.size : Int) + 1 := by omega
  have hsz2 : (s.size : Int) ≤ 100000 := by omega
  have hset := setCell_at w1 w.heap.size 0 _ 4 (.bool true) hh
  rw [fnL_zero] at hset
  have g := grow_cell w1 w.heap.size 0 (.bool true)
  have hB2 := hB.grown g hB.size (fun k hk => by injection hk with hk; omega)
  have HS := Lib.hid (And.intro hset hB2)
  clear hset hB2 g hB hh
  go_enter Try.func42, Try.ntmps42
  go_wp2_with fail
  go_ret
  exact ⟨rfl, fun i hi => rowcell HS.out.1 i hi, HS.out.2⟩

set_option maxHeartbeats 1600000 in
theorem rmatch_any (p : Option Addr) (c : Nat) (P : List At) (s : ByteArray) (w : World) (hP : Ats w p P) (hc : P.length ≤ c) (hm : c ≤ maxLen) (hn : P.length ≤ 1000000) (hs : s.size ≤ 100000) :
    Calls Try.prog 22 #[.slice p P.length c, .string s] w fun e w' => e = .returned (.bool (matchF P (byt s))) ∧ Below w.heap.size w w' := by
  have hsz2 : (s.size : Int) ≤ 100000 := by omega
  have hz : (s.size : Int) < (s.size : Int) + 1 := by omega
  have HP := Lib.hid hP; clear hP
  go_enter Try.func22, Try.ntmps22
  go_wp2_with fail
  refine (start_any s _ hs).mono ?_; rintro e w1 ⟨rfl, hF, hB1⟩
  have HR := Lib.hid (reach_any p c P s 0 w.heap.size zF (s.size + 1) w1 (HP.out.call hB1) hc hm hn hs hF (Nat.le_refl _))
  have HB := Lib.hid hB1; clear hF hB1
  go_wp2_with fail
  refine HR.out.mono ?_; rintro e w2 ⟨v, rfl, ⟨g, cap, rfl, h1, h2, h3, h4, h5⟩, hB2⟩
  have f := h5 s.size (Nat.le_refl _)
  have he : rcK zF P (byt s) P.length s.size = matchF P (byt s) := by
    have := rc_start P (byt s) s.size (by rw [byt_len]; exact Nat.le_refl _)
    rw [List.take_of_length_le (by rw [byt_len]; exact Nat.le_refl _)] at this
    exact this
  rw [he] at f
  have HB2 := Lib.hid (BelowOn HB.out hB2)
  clear h5 hB2 he
  go_wp2_with fail
  go_ret
  exact ⟨rfl, HB2.out⟩

set_option maxHeartbeats 1600000 in
theorem rlongest_any (p : Option Addr) (c : Nat) (P : List At) (s : ByteArray) (w : World) (hP : Ats w p P) (hc : P.length ≤ c) (hm : c ≤ maxLen) (hn : P.length ≤ 1000000) (hs : s.size ≤ 100000) :
    Calls Try.prog 28 #[.slice p P.length c, .string s] w fun e w' => e = .returned (.int .i64 (longF P (byt s))) ∧ Below w.heap.size w w' := by
  have hsz2 : (s.size : Int) ≤ 100000 := by omega
  have HP := Lib.hid hP; clear hP
  go_enter Try.func28, Try.ntmps28
  go_wp2_with fail
  refine (start_any s _ hs).mono ?_; rintro e w1 ⟨rfl, hF, hB1⟩
  have HR := Lib.hid (reach_any p c P s 0 w.heap.size zF (s.size + 1) w1 (HP.out.call hB1) hc hm hn hs hF (Nat.le_refl _))
  have HB := Lib.hid hB1; clear hF hB1
  go_wp2_with fail
  refine HR.out.mono ?_; rintro e w2 ⟨v, rfl, ⟨g, cap, rfl, h1, h2, h3, h4, h5⟩, hB2⟩
  have f : ∀ i, i ≤ s.size → w2.cell? ⟨g, i, none⟩ = some (.bool (matchF P ((byt s).take i))) := fun i hi => by
    rw [h5 i hi]
    have := rc_start P (byt s) i (by rw [byt_len]; exact hi)
    exact congrArg (fun b => some (Value.bool b)) this
  have HF := Lib.hid f
  have HB2 := Lib.hid (BelowOn HB.out hB2)
  unfold maxLen at h2
  clear h5 hB2 f
  go_wp2_with fail
  go_loopw [5, 14] (fun lg i wr => w2 = wr ∧ ∃ k : Nat, k ≤ s.size + 1 ∧ i = .int .i64 k ∧ lg = .int .i64 (lngF P (byt s) k)) (fun _ i _ => s.size + 1 - (intOf i).toNat)
  case atStart => exact ⟨rfl, 0, Nat.zero_le _, rfl, rfl⟩
  case round =>
    obtain ⟨rfl, k, hk, rfl, rfl⟩ := hrel
    by_cases hlt : k < s.size + 1
    · have q0 : decide ((k : Int) < (s.size : Int) + 1) = true := decide_eq_true (by omega)
      have hnx : lngF P (byt s) (k + 1) = if matchF P ((byt s).take k) then (k : Int) else lngF P (byt s) k := rfl
      have f := HF.out k (by omega)
      have i1 : (k : Int) < (s.size : Int) + 1 := by omega
      have i2 : (0 : Int) ≤ (k : Int) := by omega
      have i3 : (k : Int) < (cap : Int) := by omega
      by_cases hmt : matchF P ((byt s).take k) = true
      all_goals
        first | rw [hmt] at f hnx | (have hmt : matchF P ((byt s).take k) = false := by simpa using hmt
                                     rw [hmt] at f hnx)
        have HNX := Lib.hid hnx; clear hnx hmt
        go_wp2_with fail
        go_roundw
        case rel => exact ⟨trivial, k + 1, hlt, by go_num, by rw [HNX.out]; rfl⟩
        case measure => simp [intOf]; omega
    · obtain rfl : k = s.size + 1 := by omega
      have q0 : decide ((((s.size + 1 : Nat)) : Int) < (s.size : Int) + 1) = false := decide_eq_false (by omega)
      have hd : longF P (byt s) = lngF P (byt s) (s.size + 1) := by unfold longF; rw [byt_len]
      have HD := Lib.hid hd; clear hd
      go_wp2_with fail
      go_ret
      exact ⟨by rw [HD.out]; rfl, HB2.out⟩

set_option maxHeartbeats 1600000 in
theorem rprefix_any (p : Option Addr) (c : Nat) (P : List At) (s : ByteArray) (w : World) (hP : Ats w p P) (hc : P.length ≤ c) (hm : c ≤ maxLen) (hn : P.length ≤ 1000000) (hs : s.size ≤ 100000) :
    Calls Try.prog 24 #[.slice p P.length c, .string s] w fun e w' => e = .returned (.bool (prefF P (byt s))) ∧ Below w.heap.size w w' := by
  have HP := Lib.hid (rlongest_any p c P s w hP hc hm hn hs); clear hP
  go_enter Try.func24, Try.ntmps24
  go_wp2_with fail
  refine HP.out.mono ?_; rintro e w1 ⟨rfl, hB1⟩
  have HE := Lib.hid (pref_long P (byt s))
  have HB := Lib.hid hB1; clear hB1
  go_wp2_with fail
  go_ret
  exact ⟨by rw [HE.out]; rfl, HB.out⟩

set_option maxHeartbeats 1600000 in
theorem rsuffix_any (p : Option Addr) (c : Nat) (P : List At) (s : ByteArray) (w : World) (hP : Ats w p P) (hc : P.length ≤ c) (hm : c ≤ maxLen) (hn : P.length ≤ 1000000) (hs : s.size ≤ 100000) :
    Calls Try.prog 26 #[.slice p P.length c, .string s] w fun e w' => e = .returned (.bool (sufF P (byt s))) ∧ Below w.heap.size w w' := by
  have hsz2 : (s.size : Int) ≤ 100000 := by omega
  have hz : (s.size : Int) < (s.size : Int) + 1 := by omega
  have hmk := make_bools w s.size (by omega)
  have hh := heap_alloc_new w (.cells (List.replicate (s.size + 1) (Value.bool false)).toArray 4)
  have hB := blw (Below.refl w.heap.size w) (.cells (List.replicate (s.size + 1) (Value.bool false)).toArray 4)
  rw [← fnL_false] at hmk hh hB
  generalize w.alloc (.cells (fnL s.size fun _ => false).toArray 4) = w1 at *
  have h0 : fnL s.size (fun _ => false) = fnL s.size (uF 0) := fnL_congr s.size fun j _ => by unfold uF; exact (decide_eq_false (by omega)).symm
  rw [h0] at hh
  have HS := Lib.hid (And.intro hh hB); have HP := Lib.hid hP; clear hh hB hP h0
  go_enter Try.func26, Try.ntmps26
  go_wp2_with fail
  go_loopw [13] (fun i wr => ∃ k : Nat, k ≤ s.size + 1 ∧ i = .int .i64 k ∧ wr.heap[w.heap.size]? = some (.cells (fnL s.size (uF k)).toArray 4 (0, 0)) ∧ Below w.heap.size w wr) (fun i _ => s.size + 1 - (intOf i).toNat)
  case atStart => exact ⟨0, Nat.zero_le _, rfl, HS.out.1, HS.out.2⟩
  case round =>
    clear HS hmk
    obtain ⟨k, hk, rfl, hR, hB⟩ := hrel
    by_cases hlt : k < s.size + 1
    · have q0 : decide ((k : Int) < (s.size : Int) + 1) = true := decide_eq_true (by omega)
      have i1 : (k : Int) < (s.size : Int) + 1 := by omega
      have i2 : (0 : Int) ≤ (k : Int) := by omega
      have hcl := rowcell hR k (by omega)
      have fr := Lib.frozen_of_heap hR k
      have hset := setCell_at wr w.heap.size k _ 4 (.bool true) hR
      rw [fnL_up s.size k (by omega)] at hset
      have g := grow_cell wr w.heap.size k (.bool true)
      have hB2 := hB.grown g hB.size (fun j hj => by injection hj with hj; omega)
      have HS := Lib.hid (And.intro hset hB2)
      clear hset hB2 g hB hR
      go_wp2_with fail
      go_roundw
      case rel => exact ⟨k + 1, hlt, by go_num, HS.out.1, HS.out.2⟩
      case measure => simp [intOf]; omega
    · obtain rfl : k = s.size + 1 := by omega
      have q0 : decide ((((s.size + 1 : Nat)) : Int) < (s.size : Int) + 1) = false := decide_eq_false (by omega)
      have hF : ∀ i, i ≤ s.size → wr.cell? ⟨w.heap.size, i, none⟩ = some (.bool true) := fun i hi => by
        have := rowcell hR i hi
        rwa [show uF (s.size + 1) i = true from decide_eq_true (by omega)] at this
      have HR := Lib.hid (reach_any p c P s 0 w.heap.size (fun _ => true) (s.size + 1) wr (HP.out.call hB) hc hm hn hs hF (Nat.le_refl _))
      have HB := Lib.hid hB; clear hF hB hR
      go_wp2_with fail
      refine HR.out.mono ?_; rintro e w2 ⟨v, rfl, ⟨g, cap, rfl, h1, h2, h3, h4, h5⟩, hB2⟩
      have f := h5 s.size (Nat.le_refl _)
      have he : rcK (fun _ => true) P (byt s) P.length s.size = sufF P (byt s) := by
        have := rc_suffix P (byt s)
        rwa [byt_len] at this
      rw [he] at f
      have HB2 := Lib.hid (BelowOn HB.out hB2)
      clear h5 hB2 he
      go_wp2_with fail
      go_ret
      exact ⟨rfl, HB2.out⟩
end Go.Proofs.Ytdnofpllmhnacaa
