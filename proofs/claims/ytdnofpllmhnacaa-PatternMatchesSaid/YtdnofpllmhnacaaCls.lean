/- Classes of bytes; the set of a class. -/
import Derived.Test.YtdnofpllmhnacaaInv
namespace Go.Proofs.Ytdnofpllmhnacaa
open Go.ChangeShapes Go.WideShapes Go.ChangeAt Go.RowKit Go.Sort
set_option linter.unusedVariables false
set_option linter.unusedSimpArgs false
set_option maxRecDepth 100000

def upB (n : Int) : Bool := decide (65 ≤ n ∧ n ≤ 90)
def loB (n : Int) : Bool := decide (97 ≤ n ∧ n ≤ 122)
/-- The class of a byte. -/
def cls (n : Int) : Int := if n = 9 ∨ n = 10 ∨ n = 13 ∨ n = 32 then 2 else if n < 32 ∨ n = 127 then 1 else if 48 ≤ n ∧ n ≤ 57 then 3 else if (65 ≤ n ∧ n ≤ 90) ∨ (97 ≤ n ∧ n ≤ 122) ∨ 128 ≤ n then 4 else 5
theorem ret_int {k : IntKind} {a b : Int} (h : a = b) : Ending.returned (.int k a) = .returned (.int k b) := by rw [h]
theorem upper_any (n : Int) (w : World) (h0 : 0 ≤ n) (h1 : n ≤ 255) :
    Calls Try.prog 69 #[.int .u8 n] w fun e w' => e = .returned (.bool (upB n)) ∧ w = w' := by
  go_enter Try.func69, Try.ntmps69
  go_wp2
  all_goals go_ret
  all_goals refine ⟨ret_bool ?_, rfl⟩
  all_goals (unfold upB; simp; try omega)
theorem lower_any1 (n : Int) (w : World) (h0 : 0 ≤ n) (h1 : n ≤ 255) :
    Calls Try.prog 70 #[.int .u8 n] w fun e w' => e = .returned (.bool (loB n)) ∧ w = w' := by
  go_enter Try.func70, Try.ntmps70
  go_wp2
  all_goals go_ret
  all_goals refine ⟨ret_bool ?_, rfl⟩
  all_goals (unfold loB; simp; try omega)
theorem of_any (n : Int) (w : World) (h0 : 0 ≤ n) (h1 : n ≤ 255) :
    Calls Try.prog 62 #[.int .u8 n] w fun e w' => e = .returned (.int .i64 (cls n)) ∧ w = w' := by
  go_enter Try.func62, Try.ntmps62
  go_wp2
  all_goals go_ret
  all_goals refine ⟨ret_int ?_, rfl⟩
  all_goals (unfold cls; simp_all; try omega)
theorem rof_any (n : Int) (w : World) (h0 : 0 ≤ n) (h1 : n ≤ 255) :
    Calls Try.prog 53 #[.int .u8 n] w fun e w' => e = .returned (.int .i64 (cls n)) ∧ w = w' := by
  go_enter Try.func53, Try.ntmps53
  go_wp2
  all_goals go_ret
  all_goals refine ⟨ret_int ?_, rfl⟩
  all_goals (unfold cls; simp_all; try omega)

/-- The bytes of a class below k. -/
def clsS (num : Int) (k : Nat) : BSet := fun c => decide (c < k) && decide (cls c = num)
theorem cls_zero (num : Int) : clsS num 0 = fun _ => false := by funext c; unfold clsS; simp
theorem cls_yes (num : Int) (k : Nat) (h : cls k = num) : addS (clsS num k) k = clsS num (k + 1) := by
  funext c; unfold addS clsS
  by_cases e : c = k
  · subst e; simp [h]
  · by_cases h1 : c < k
    · rw [decide_eq_true h1, decide_eq_true (show c < k + 1 by omega), decide_eq_false e]; simp
    · rw [decide_eq_false h1, decide_eq_false (show ¬ c < k + 1 by omega), decide_eq_false e]; simp
theorem cls_no (num : Int) (k : Nat) (h : cls k ≠ num) : clsS num k = clsS num (k + 1) := by
  funext c; unfold clsS
  by_cases e : c = k
  · subst e; simp [h]
  · by_cases h1 : c < k
    · rw [decide_eq_true h1, decide_eq_true (show c < k + 1 by omega)]
    · rw [decide_eq_false h1, decide_eq_false (show ¬ c < k + 1 by omega)]
theorem zeros : (setC fun _ => false) = List.replicate 32 (Value.int .u8 0) := by rfl

set_option maxHeartbeats 3200000 in
theorem ofclass_any (num : Int) (w : World) :
    Calls Try.prog 68 #[.int .i64 num] w fun e w' => e = .returned (.agg (setC (clsS num 256)).toArray) ∧ Below w.heap.size w w' := by
  go_enter Try.func68, Try.ntmps68
  go_wp2_with fail
  go_loopw [5] (fun i wr => ∃ k : Nat, k ≤ 256 ∧ i = .int .i64 k ∧ Below w.heap.size w wr ∧ SAt (w.heap.size + 1) (clsS num k) wr ∧ wr.heap[w.heap.size]? = some (.cells (List.replicate 32 (Value.int .u8 0)).toArray 55 (0, 0))) (fun i _ => 256 - (intOf i).toNat)
  case atStart =>
    have hh := heap_alloc_new (w.alloc (.cells (List.replicate 32 (Value.int .u8 0)).toArray 55)) (.cells (List.replicate 32 (Value.int .u8 0)).toArray 55)
    rw [show (w.alloc (.cells (List.replicate 32 (Value.int .u8 0)).toArray 55)).heap.size = w.heap.size + 1 by simp] at hh
    refine ⟨0, Nat.zero_le _, rfl, blw (blw (Below.refl _ _) _) _, ?_, ?_⟩
    · unfold SAt; rw [cls_zero, zeros]; exact hh
    · exact (Lib.alloc_old _ _ w.heap.size (by simp)).trans (heap_alloc_new w (.cells (List.replicate 32 (Value.int .u8 0)).toArray 55))
  case round =>
    obtain ⟨k, hk, rfl, hB, hS, hz⟩ := hrel
    by_cases hlt : k < 256
    · have q0 : decide ((k : Int) < 256) = true := decide_eq_true (by omega)
      have w8 : IntKind.u8.wrap (k : Int) = (k : Int) := wrap8 k hlt
      have hcl := fun W => of_any (k : Int) W (by omega) (by omega)
      have hA := fun W h => add_any (w.heap.size + 1) (clsS num k) k hlt W h
      have HC := Lib.hid hcl; have HA := Lib.hid hA; clear hcl hA
      by_cases he : cls k = num
      · have qe : (cls (k : Int) == num) = true := by simpa using he
        have hy := cls_yes num k he
        have HY := Lib.hid hy; clear hy he
        generalize cls (k : Int) = cc at *
        go_wp2_with fail
        refine (HC.out _).mono ?_; rintro e w1 ⟨rfl, rfl⟩
        go_wp2_with fail
        refine (HA.out _ hS).mono ?_; rintro e w2 ⟨rfl, hg, hS2⟩
        rw [HY.out] at hS2
        have hz2 := (hg.block _ (Array.getElem?_eq_some_iff.1 hz).1 (fun e => by injection e with e; omega)).trans hz
        have hB2 : Below w.heap.size w w2 := hB.grown hg hB.size (fun j hj => by cases hj; omega)
        go_wp2_with fail
        go_roundw
        case rel => exact ⟨k + 1, by omega, by go_num, hB2, hS2, hz2⟩
        case measure => simp [intOf]; omega
      · have qe : (cls (k : Int) == num) = false := by simpa using he
        have hy := cls_no num k he
        rw [hy] at hS
        clear hy he HA
        generalize cls (k : Int) = cc at *
        go_wp2_with fail
        refine (HC.out _).mono ?_; rintro e w1 ⟨rfl, rfl⟩
        go_wp2_with fail
        go_roundw
        case rel => exact ⟨k + 1, by omega, by go_num, hB, hS, hz⟩
        case measure => simp [intOf]; omega
    · have q0 : decide ((k : Int) < 256) = false := decide_eq_false (by omega)
      obtain rfl : k = 256 := by omega
      obtain ⟨d, hu, hd⟩ := und55
      have hr := hS.range
      have hi : (Try.prog.info? 55).map (·.size) = some (setC (clsS num 256)).length := by rw [setC_length]; exact size55
      have hi2 : (Try.prog.info? 55).map (·.size) = some (setC (clsS num 256)).toArray.size := by simpa using hi
      have ht : wr.there w.heap.size 0 (setC (clsS num 256)).toArray.size := there_of hz _ (by simp [setC_length])
      have h1 := set_one (clsS num 256)
      have hB2 := below_setCells (B := w.heap.size) (b := w.heap.size) (Nat.le_refl _) (setC (clsS num 256)) 0 w wr hB
      have hr2 := World.rangeAt_setCells_same wr w.heap.size 0 (setC (clsS num 256)) (by simpa using ht)
      have hld := run_loadVar_mid (P := Try.prog) _ w.heap.size 0 55 (setC (clsS num 256)) d hr2 hu hd hi
      have HX := Lib.hid (And.intro hB2 hld)
      clear hS hz hB hB2 hld hr2
      go_upto_region 8 with fail
      generalize hcs : setC (clsS num 256) = cs at *
      have HCS := Lib.hid hcs; clear hcs
      generalize hb1 : w.heap.size + 1 = b1 at *
      clear hb1
      go_wp2_with (first | (refine wpList_load_mid (by rfl) 55 _ (by rfl) b1 0 (by rfl) cs d hr hu hd hi ?_) | (refine wpList_store_mid (by rfl) 55 _ _ (by rfl) w.heap.size 0 cs.toArray (by rfl) (by rfl) ht hi2 h1 ?_))
      obtain ⟨hB2, hld⟩ := HX.out
      have e1 : cs.toArray.toList = cs := by simp
      try rw [e1]
      (try simp only [Exit.inBlock, Exit.then])
      refine bodyPost_ret (v := .agg cs.toArray) (by simp [results, Try.results68, asAddr, Result.andThen, hld, Act.put]) rfl ⟨by rw [HCS.out], hB2⟩
end Go.Proofs.Ytdnofpllmhnacaa
