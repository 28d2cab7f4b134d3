/- Contracts of Weight, Key, Same, Total, Count and of the reference's; of kind; of the fixed example. -/
import Derived.Test.YtpkipdiecnokhaaTku
import Derived.Test.YtpkipdiecnokhaaKno
namespace Go.Proofs.Ytpkipdiecnokhaa
open Go.ChangeShapes Go.WideShapes Go.ChangeAt Go.RowKit
set_option linter.unusedVariables false
set_option linter.unusedSimpArgs false
set_option maxRecDepth 100000

def wtT (k : Int) : Nat := if k = 6 ∨ k = 5 then 4 else if k = 7 ∨ k = 2 ∨ k = 3 ∨ k = 4 then 3 else if k = 9 then 2 else if k = 8 then 1 else 0
theorem wtT_le (k : Int) : wtT k ≤ 4 := by unfold wtT; repeat' split
                                           all_goals omega
def cntT (k : Int) : Nat := if k = 6 ∨ k = 7 then 1 else 0
def wtL (l : List It) : Nat := (l.map fun x => wtT x.k).sum
def cntL (l : List It) : Nat := (l.map fun x => cntT x.k).sum
theorem wtL_snoc (l : List It) (x : It) : wtL (l ++ [x]) = wtL l + wtT x.k := by unfold wtL; simp
theorem cntL_snoc (l : List It) (x : It) : cntL (l ++ [x]) = cntL l + cntT x.k := by unfold cntL; simp
theorem wtL_next (l : List It) (k : Nat) (h : k < l.length) : wtL (l.take (k + 1)) = wtL (l.take k) + wtT l[k].k := by rw [List.take_succ_eq_append_getElem h, wtL_snoc]
theorem cntL_next (l : List It) (k : Nat) (h : k < l.length) : cntL (l.take (k + 1)) = cntL (l.take k) + cntT l[k].k := by rw [List.take_succ_eq_append_getElem h, cntL_snoc]
theorem wtL_append (l m : List It) : wtL (l ++ m) = wtL l + wtL m := by unfold wtL; simp
theorem cntL_append (l m : List It) : cntL (l ++ m) = cntL l + cntL m := by unfold cntL; simp
theorem wtL_le (l : List It) : wtL l ≤ 4 * l.length := by
  induction l with
  | nil => exact Nat.le_refl _
  | cons x t ih => show wtT x.k + wtL t ≤ 4 * (t.length + 1); have := wtT_le x.k; omega
theorem cntL_le (l : List It) : cntL l ≤ l.length := by
  induction l with
  | nil => exact Nat.le_refl _
  | cons x t ih => show cntT x.k + cntL t ≤ t.length + 1; have : cntT x.k ≤ 1 := by unfold cntT; split <;> omega
                   omega

set_option maxHeartbeats 1600000 in
theorem weight_any (k : Int) (t : ByteArray) (id : Int) (w : World) : Calls Try.prog 61 #[.agg #[.int .i64 k, .string t, .int .i64 id]] w fun e w' => e = .returned (.int .i64 (wtT k)) ∧ Below w.heap.size w w' := by
  go_enter Try.func61, Try.ntmps61
  go_wp2
  all_goals go_ret
  all_goals refine ⟨ret_int ?_, blw (Below.refl _ _) _⟩
  all_goals (unfold wtT; simp_all)
set_option maxHeartbeats 1600000 in
theorem total_any (p : Option Addr) (cap : Nat) (l : List It) (w : World) (hR : Its w p l) (hc : l.length ≤ cap) (hm : cap ≤ maxLen) (hl : l.length ≤ 4000000000) :
    Calls Try.prog 40 #[.slice p l.length cap] w fun e w' => e = .returned (.int .i64 (wtL l)) ∧ Below w.heap.size w w' := by
  unfold maxLen at hm
  go_enter Try.func40, Try.ntmps40
  go_wp2_with fail
  go_loopw [3, 8] (fun v i wr => ∃ k : Nat, k ≤ l.length ∧ i = .int .i64 k ∧ v = .int .i64 (wtL (l.take k)) ∧ Below w.heap.size w wr) (fun _ i _ => l.length - (intOf i).toNat)
  case atStart => exact ⟨0, Nat.zero_le _, rfl, rfl, Below.refl _ _⟩
  case round =>
    obtain ⟨k, hk, rfl, rfl, hB⟩ := hrel
    by_cases hlt : k < l.length
    · obtain ⟨a, rfl, ha, c0, c1, c2⟩ := (hR.call hB).row k hlt
      have hn := wtL_next l k hlt
      have h2 := wtL_le (l.take k)
      rw [List.length_take] at h2
      have h4 := wtT_le l[k].k
      have hw := weight_any l[k].k l[k].t l[k].id
      generalize l[k] = x at *
      generalize hm1 : wtL (l.take (k + 1)) = m1 at *
      generalize wtL (l.take k) = m0 at *
      generalize wtT x.k = wt at *
      have hm0 : m0 ≤ 16000000000 := by omega
      have HM := Lib.hid hm1; clear hm1 h2
      have HN := Lib.hid hn; clear hn
      have HW := Lib.hid hw; clear hw
      go_wp2_with fail
      refine (HW.out _).mono ?_; rintro e w1 ⟨rfl, hb⟩
      go_wp2_with fail
      go_roundw
      case rel => exact ⟨k + 1, hlt, by go_num, by rw [HM.out, HN.out]; go_num, BelowOn (blw hB _) hb⟩
      case measure => simp [intOf]; omega
    · obtain rfl : k = l.length := by omega
      rw [List.take_length]
      go_wp2_with fail
      go_ret
      exact ⟨rfl, hB⟩
set_option maxHeartbeats 1600000 in
theorem rweight_any (k : Int) (t : ByteArray) (id : Int) (w : World) : Calls Try.prog 51 #[.agg #[.int .i64 k, .string t, .int .i64 id]] w fun e w' => e = .returned (.int .i64 (wtT k)) ∧ Below w.heap.size w w' := by
  go_enter Try.func51, Try.ntmps51
  go_wp2
  all_goals go_ret
  all_goals refine ⟨ret_int ?_, blw (Below.refl _ _) _⟩
  all_goals (unfold wtT; simp_all)
set_option maxHeartbeats 1600000 in
theorem rtotal_any (p : Option Addr) (cap : Nat) (l : List It) (w : World) (hR : Its w p l) (hc : l.length ≤ cap) (hm : cap ≤ maxLen) (hl : l.length ≤ 4000000000) :
    Calls Try.prog 41 #[.slice p l.length cap] w fun e w' => e = .returned (.int .i64 (wtL l)) ∧ Below w.heap.size w w' := by
  unfold maxLen at hm
  go_enter Try.func41, Try.ntmps41
  go_wp2_with fail
  go_loopw [3, 8] (fun v i wr => ∃ k : Nat, k ≤ l.length ∧ i = .int .i64 k ∧ v = .int .i64 (wtL (l.take k)) ∧ Below w.heap.size w wr) (fun _ i _ => l.length - (intOf i).toNat)
  case atStart => exact ⟨0, Nat.zero_le _, rfl, rfl, Below.refl _ _⟩
  case round =>
    obtain ⟨k, hk, rfl, rfl, hB⟩ := hrel
    by_cases hlt : k < l.length
    · obtain ⟨a, rfl, ha, c0, c1, c2⟩ := (hR.call hB).row k hlt
      have hn := wtL_next l k hlt
      have h2 := wtL_le (l.take k)
      rw [List.length_take] at h2
      have h4 := wtT_le l[k].k
      have hw := rweight_any l[k].k l[k].t l[k].id
      generalize l[k] = x at *
      generalize hm1 : wtL (l.take (k + 1)) = m1 at *
      generalize wtL (l.take k) = m0 at *
      generalize wtT x.k = wt at *
      have hm0 : m0 ≤ 16000000000 := by omega
      have HM := Lib.hid hm1; clear hm1 h2
      have HN := Lib.hid hn; clear hn
      have HW := Lib.hid hw; clear hw
      go_wp2_with fail
      refine (HW.out _).mono ?_; rintro e w1 ⟨rfl, hb⟩
      go_wp2_with fail
      go_roundw
      case rel => exact ⟨k + 1, hlt, by go_num, by rw [HM.out, HN.out]; go_num, BelowOn (blw hB _) hb⟩
      case measure => simp [intOf]; omega
    · obtain rfl : k = l.length := by omega
      rw [List.take_length]
      go_wp2_with fail
      go_ret
      exact ⟨rfl, hB⟩
def kx : List It := [⟨1, ⟨#[68, 111, 110, 39, 116, 32, 112, 97, 121, 32, 49, 44, 48, 48, 48, 46, 53, 48, 32, 110, 111, 119, 33]⟩, 0⟩]
def ky : List It := [⟨6, ⟨#[68, 111, 110, 39, 116]⟩, 0⟩, ⟨8, ⟨#[32]⟩, 0⟩, ⟨6, ⟨#[112, 97, 121]⟩, 0⟩, ⟨8, ⟨#[32]⟩, 0⟩, ⟨7, ⟨#[49, 44, 48, 48, 48, 46, 53, 48]⟩, 0⟩, ⟨8, ⟨#[32]⟩, 0⟩, ⟨6, ⟨#[110, 111, 119]⟩, 0⟩, ⟨9, ⟨#[33]⟩, 0⟩]
theorem kx_toks : toks kx = ky := by decide +kernel
theorem ky_cnt : cntL ky = 4 := by decide +kernel
end Go.Proofs.Ytpkipdiecnokhaa
