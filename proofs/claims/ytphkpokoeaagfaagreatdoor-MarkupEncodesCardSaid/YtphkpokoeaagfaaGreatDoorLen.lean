/- Contracts of width, Length, few, isTag and their like. -/
import Derived.Test.YtphkpokoeaagfaaGreatDoorIt
import Derived.LoopTactic
import Derived.Outline
namespace Go.Proofs.YtphkpokoeaagfaaGreatDoor
open Go.ChangeShapes Go.WideShapes Go.ChangeAt Go.RowKit
set_option linter.unusedVariables false
set_option maxRecDepth 100000

def wid (x : It) : Nat := if x.k = 1 then x.t.size else 1
def lenI (l : List It) : Nat := (l.map wid).sum
def txtI (l : List It) : Nat := (l.map fun x => x.t.size).sum
def isT (k : Int) : Bool := decide (k = 2 ∨ k = 3 ∨ k = 4)
theorem lenI_snoc (l : List It) (x : It) : lenI (l ++ [x]) = lenI l + wid x := by unfold lenI; simp
theorem txtI_snoc (l : List It) (x : It) : txtI (l ++ [x]) = txtI l + x.t.size := by unfold txtI; simp
theorem lenI_append (l m : List It) : lenI (l ++ m) = lenI l + lenI m := by unfold lenI; simp
theorem lenI_take (l : List It) (k : Nat) : lenI (l.take k) ≤ lenI l := by
  conv => rhs; rw [← List.take_append_drop k l, lenI_append]
  omega
theorem txtI_take (l : List It) (k : Nat) : txtI (l.take k) ≤ txtI l := by
  conv => rhs; rw [← List.take_append_drop k l]; unfold txtI; rw [List.map_append, List.sum_append]
  unfold txtI; omega
theorem lenI_next (l : List It) (k : Nat) (h : k < l.length) : lenI (l.take (k + 1)) = lenI (l.take k) + wid l[k] := by rw [List.take_succ_eq_append_getElem h, lenI_snoc]
theorem txtI_next (l : List It) (k : Nat) (h : k < l.length) : txtI (l.take (k + 1)) = txtI (l.take k) + l[k].t.size := by rw [List.take_succ_eq_append_getElem h, txtI_snoc]

theorem width_any (x : It) (w : World) : Calls Tryz.prog 102 #[.agg #[.int .i64 x.k, .string x.t, .int .i64 x.id]] w fun e w' => e = .returned (.int .i64 (wid x)) ∧ Below w.heap.size w w' := by
  by_cases h : x.k = 1
  · have hw : wid x = x.t.size := if_pos h
    have HW := Lib.hid hw; clear hw
    have q : (x.k == 1) = true := by simpa using h
    clear h
    go_enter Tryz.func102, Tryz.ntmps102
    go_wp2_with fail
    go_ret
    exact ⟨by rw [HW.out]; rfl, blw (Below.refl _ _) _⟩
  · have hw : wid x = 1 := if_neg h
    have HW := Lib.hid hw; clear hw
    have q : (x.k == 1) = false := by simpa using h
    go_enter Tryz.func102, Tryz.ntmps102
    go_wp2_with fail
    go_ret
    exact ⟨by rw [HW.out]; rfl, blw (Below.refl _ _) _⟩

theorem istag_any (k : Int) (t : ByteArray) (id : Int) (w : World) : Calls Tryz.prog 69 #[.agg #[.int .i64 k, .string t, .int .i64 id]] w fun e w' => e = .returned (.bool (isT k)) ∧ Below w.heap.size w w' := by
  go_enter Tryz.func69, Tryz.ntmps69
  go_wp2
  all_goals go_ret
  all_goals refine ⟨ret_bool ?_, blw (Below.refl _ _) _⟩
  all_goals first | (unfold isT; simp_all; done) | (unfold isT; rw [Bool.eq_iff_iff]; simp_all)
theorem ristag_any (k : Int) (t : ByteArray) (id : Int) (w : World) : Calls Tryz.prog 41 #[.agg #[.int .i64 k, .string t, .int .i64 id]] w fun e w' => e = .returned (.bool (isT k)) ∧ Below w.heap.size w w' := by
  go_enter Tryz.func41, Tryz.ntmps41
  go_wp2
  all_goals go_ret
  all_goals refine ⟨ret_bool ?_, blw (Below.refl _ _) _⟩
  all_goals first | (unfold isT; simp_all; done) | (unfold isT; rw [Bool.eq_iff_iff]; simp_all)

theorem length_any (p : Option Addr) (cap : Nat) (l : List It) (w : World) (hR : Its w p l) (hc : l.length ≤ cap) (hm : cap ≤ maxLen) (hl : lenI l < 4611686018427387904) :
    Calls Tryz.prog 67 #[.slice p l.length cap] w fun e w' => e = .returned (.int .i64 (lenI l)) ∧ Below w.heap.size w w' := by
  unfold maxLen at hm
  go_enter Tryz.func67, Tryz.ntmps67
  go_wp2_with fail
  go_loopw [3, 8] (fun v i wr => ∃ k : Nat, k ≤ l.length ∧ i = .int .i64 k ∧ v = .int .i64 (lenI (l.take k)) ∧ Below w.heap.size w wr) (fun _ i _ => l.length - (intOf i).toNat)
  case atStart => exact ⟨0, Nat.zero_le _, rfl, rfl, Below.refl _ _⟩
  case round =>
    obtain ⟨k, hk, rfl, rfl, hB⟩ := hrel
    by_cases hlt : k < l.length
    · obtain ⟨a, rfl, ha, c0, c1, c2⟩ := (hR.call hB).row k hlt
      have hn := lenI_next l k hlt
      have h2 := lenI_take l (k + 1)
      have hw := width_any l[k]
      generalize l[k] = x at *
      generalize hm1 : lenI (l.take (k + 1)) = m1 at *
      generalize lenI (l.take k) = m0 at *
      have HM := Lib.hid hm1; clear hm1
      have HW := Lib.hid hw; clear hw
      go_wp2_with fail
      refine (HW.out _).mono ?_; rintro e w1 ⟨rfl, hb⟩
      go_wp2_with fail
      go_roundw
      case rel => exact ⟨k + 1, hlt, by go_num, by rw [HM.out, hn]; go_num, BelowOn (blw hB _) hb⟩
      case measure => simp [intOf]; omega
    · obtain rfl : k = l.length := by omega
      rw [List.take_length]
      go_wp2_with fail
      go_ret
      exact ⟨rfl, hB⟩

theorem rlength_any (p : Option Addr) (cap : Nat) (l : List It) (w : World) (hR : Its w p l) (hc : l.length ≤ cap) (hm : cap ≤ maxLen) (hl : lenI l < 4611686018427387904) :
    Calls Tryz.prog 19 #[.slice p l.length cap] w fun e w' => e = .returned (.int .i64 (lenI l)) ∧ w = w' := by
  unfold maxLen at hm
  go_enter Tryz.func19, Tryz.ntmps19
  go_wp2_with fail
  go_loop [3, 7] (fun v i => ∃ k : Nat, k ≤ l.length ∧ i = .int .i64 k ∧ v = .int .i64 (lenI (l.take k))) (fun _ i => l.length - (intOf i).toNat)
  case atStart => exact ⟨0, Nat.zero_le _, rfl, rfl⟩
  case round =>
    obtain ⟨k, hk, rfl, rfl⟩ := hrel
    by_cases hlt : k < l.length
    · obtain ⟨a, rfl, ha, c0, c1, c2⟩ := hR.row k hlt
      have hn := lenI_next l k hlt
      have h2 := lenI_take l (k + 1)
      by_cases h : l[k].k = 1
      · have hw : wid l[k] = l[k].t.size := if_pos h
        have q : (l[k].k == 1) = true := by simpa using h
        generalize l[k] = x at *
        generalize hm1 : lenI (l.take (k + 1)) = m1 at *
        generalize lenI (l.take k) = m0 at *
        have HM := Lib.hid hm1; clear hm1
        rw [hw] at hn
        clear hw h
        go_wp2_with fail
        go_round
        case rel => exact ⟨k + 1, hlt, by go_num, by rw [HM.out, hn]; go_num⟩
        case measure => simp [intOf]; omega
      · have hw : wid l[k] = 1 := if_neg h
        have q : (l[k].k == 1) = false := by simpa using h
        generalize l[k] = x at *
        generalize hm1 : lenI (l.take (k + 1)) = m1 at *
        generalize lenI (l.take k) = m0 at *
        have HM := Lib.hid hm1; clear hm1
        rw [hw] at hn
        clear hw
        go_wp2_with fail
        go_round
        case rel => exact ⟨k + 1, hlt, by go_num, by rw [HM.out, hn]; go_num⟩
        case measure => simp [intOf]; omega
    · obtain rfl : k = l.length := by omega
      rw [List.take_length]
      go_wp2_with fail
      go_ret
      exact ⟨rfl, rfl⟩

/-- Is a list short? -/
def fewB (l : List It) : Bool := decide (l.length ≤ 60) && decide (txtI l ≤ 2000)
end Go.Proofs.YtphkpokoeaagfaaGreatDoor
