/- Sets that a call builds: add, addRange, addAll, inverse. -/
import Derived.Test.YtdnofpllmhnacaaRdr
import Derived.Deep.WholeRow
import Derived.Deep.Cut
import Derived.Shelf.RegionOpenPlain
namespace Go.Proofs.Ytdnofpllmhnacaa
open Go.ChangeShapes Go.WideShapes Go.ChangeAt Go.RowKit Go.Sort
set_option linter.unusedVariables false
set_option linter.unusedSimpArgs false
set_option maxRecDepth 100000

/-- Block B is the set S. -/
def SAt (B : Nat) (S : BSet) (W : World) : Prop := W.heap[B]? = some (.cells (setC S).toArray 55 (0, 0))
theorem SAt.cell {B : Nat} {S : BSet} {W : World} (h : SAt B S W) (i : Nat) (hi : i < 32) : W.cell? ⟨B, i, none⟩ = some (.int .u8 (byteOf S i : Int)) := by
  rw [cell_of_row _ _ _ _ _ _ h]; simpa using setC_at S i hi
theorem SAt.lt {B : Nat} {S : BSet} {W : World} (h : SAt B S W) : B < W.heap.size := (Array.getElem?_eq_some_iff.1 h).1
theorem SAt.call {B : Nat} {S : BSet} {W W' : World} (h : SAt B S W) (hb : Below W.heap.size W W') : SAt B S W' := (hb.block B h.lt).trans h
/-- The sets below 256 are told apart by their cells alone. -/
theorem setC_set (S T : BSet) (i : Nat) (hi : i < 32) (h : ∀ j, j < 32 → j ≠ i → byteOf S j = byteOf T j) : (setC S).toArray.setIfInBounds i (.int .u8 (byteOf T i : Int)) = (setC T).toArray := by
  apply Array.ext'
  rw [Array.toList_setIfInBounds]
  apply List.ext_getElem?
  intro j
  by_cases hj : j < 32
  · rw [List.getElem?_set]
    by_cases e : i = j
    · subst e
      rw [if_pos rfl, if_pos (by simpa [setC_length] using hi)]
      simpa using (setC_at T i hi).symm
    · rw [if_neg e]
      have h1 := setC_at S j hj; have h2 := setC_at T j hj
      rw [show (setC S).toArray.toList = setC S by simp, show (setC T).toArray.toList = setC T by simp, h1, h2, h j hj (Ne.symm e)]
  · rw [List.getElem?_eq_none (by simp [setC_length]; omega), List.getElem?_eq_none (by simp [setC_length]; omega)]
def addS (S : BSet) (b : Nat) : BSet := fun c => S c || decide (c = b)
theorem add_byte (S : BSet) (b : Nat) (hb : b < 256) : bits BinOp.or IntKind.u8 (byteOf S (b / 8) : Int) (2 ^ (b % 8) % 256) = (byteOf (addS S b) (b / 8) : Int) := by
  have h1 : (2 : Int) ^ (b % 8) % 256 = ((2 ^ (b % 8) : Nat) : Int) := by
    have : 2 ^ (b % 8) < 256 := by
      have : b % 8 < 8 := by omega
      calc 2 ^ (b % 8) ≤ 2 ^ 7 := Nat.pow_le_pow_right (by decide) (by omega)
        _ < 256 := by decide
    rw [Int.emod_eq_of_lt (Int.pow_nonneg (by decide)) (by exact_mod_cast this)]
    simp
  have hlt : 2 ^ (b % 8) < 256 := by
    calc 2 ^ (b % 8) ≤ 2 ^ 7 := Nat.pow_le_pow_right (by decide) (by omega)
      _ < 256 := by decide
  rw [h1, or_u8 _ _ (byteOf_lt S _) hlt]
  congr 1
  refine byteOf_eq (Nat.or_lt_two_pow (n := 8) (byteOf_lt S _) hlt) fun j hj => ?_
  rw [Nat.testBit_or, byteOf_bit S _ j hj, Nat.testBit_two_pow]
  unfold addS
  congr 1
  by_cases e : b % 8 = j
  · rw [decide_eq_true e, decide_eq_true (by omega)]
  · rw [decide_eq_false e, decide_eq_false (by omega)]
theorem add_other (S : BSet) (b j : Nat) (h : j ≠ b / 8) : byteOf S j = byteOf (addS S b) j := by
  refine byteOf_eq (byteOf_lt S j) fun i hi => ?_
  rw [byteOf_bit S j i hi]
  unfold addS
  rw [decide_eq_false (by omega), Bool.or_false]

set_option maxHeartbeats 1600000 in
theorem add_any (B : Nat) (S : BSet) (b : Nat) (hb : b < 256) (w : World) (h : SAt B S w) :
    Calls Try.prog 50 #[.pointer (some ⟨B, 0, none⟩), .int .u8 b] w fun e w' => e = .returned (.tuple #[]) ∧ w.grownBy w' (some B) ∧ SAt B (addS S b) w' := by
  have mixed : Try.prog.follows .mixedOrders = true := by kernel_rfl
  have hc := h.cell (b / 8) (by omega)
  have fr := Lib.frozen_of_heap h (b / 8)
  have h1 : (0 : Int) ≤ (b : Int) / 8 := by omega
  have h2 : (b : Int) / 8 < 32 := by omega
  have h3 : ((b : Int) / 8).toNat = b / 8 := by omega
  have HA := Lib.hid (add_byte S b hb)
  have HS := Lib.hid (setC_set S (addS S b) (b / 8) (by omega) (fun j _ hj => add_other S b j hj))
  have hset := setCell_at w B (b / 8) _ 55 (bits BinOp.or IntKind.u8 (byteOf S (b / 8) : Int) (2 ^ (b % 8) % 256) |> Value.int .u8) h
  have hg := grow_cell w B (b / 8) (bits BinOp.or IntKind.u8 (byteOf S (b / 8) : Int) (2 ^ (b % 8) % 256) |> Value.int .u8)
  rw [HA.out] at hset hg
  rw [HS.out] at hset
  have HX := Lib.hid (And.intro hset hg)
  clear hset hg
  go_enter Try.func50, Try.ntmps50
  go_region_o
  go_returns
  obtain ⟨hset, hg⟩ := HX.out
  rw [HA.out]
  exact ⟨rfl, ⟨hg.os, hg.tape, hg.output, hg.size, hg.block⟩, hset⟩

def rangeS (S : BSet) (a z : Nat) : BSet := fun c => S c || decide (a ≤ c ∧ c ≤ z)
theorem range_none (S : BSet) (a z : Nat) (h : z < a) : rangeS S a z = S := by
  funext c; unfold rangeS; rw [decide_eq_false (by omega), Bool.or_false]
theorem range_next (S : BSet) (a z : Nat) (h : a ≤ z + 1) : addS (rangeS S a z) (z + 1) = rangeS S a (z + 1) := by
  funext c; unfold addS rangeS
  by_cases h1 : a ≤ c ∧ c ≤ z
  · rw [decide_eq_true h1, decide_eq_true (show a ≤ c ∧ c ≤ z + 1 by omega)]; simp
  · by_cases h2 : c = z + 1
    · rw [decide_eq_true h2, decide_eq_true (show a ≤ c ∧ c ≤ z + 1 by omega)]; simp
    · rw [decide_eq_false h1, decide_eq_false h2, decide_eq_false (show ¬(a ≤ c ∧ c ≤ z + 1) by omega)]; simp
/-- The set with the bytes from a on, k of them. -/
def fromS (S : BSet) (a k : Nat) : BSet := fun c => S c || decide (a ≤ c ∧ c < a + k)
theorem from_zero (S : BSet) (a : Nat) : fromS S a 0 = S := by funext c; unfold fromS; rw [decide_eq_false (by omega), Bool.or_false]
theorem from_next (S : BSet) (a k : Nat) : addS (fromS S a k) (a + k) = fromS S a (k + 1) := by
  funext c; unfold addS fromS
  by_cases h1 : a ≤ c ∧ c < a + k
  · rw [decide_eq_true h1, decide_eq_true (show a ≤ c ∧ c < a + (k + 1) by omega)]; simp
  · by_cases h2 : c = a + k
    · rw [decide_eq_true h2, decide_eq_true (show a ≤ c ∧ c < a + (k + 1) by omega)]; simp
    · rw [decide_eq_false h1, decide_eq_false h2, decide_eq_false (show ¬(a ≤ c ∧ c < a + (k + 1)) by omega)]; simp
theorem from_all (S : BSet) (a z : Nat) (h : a ≤ z) : fromS S a (z + 1 - a) = rangeS S a z := by
  funext c; unfold fromS rangeS; congr 1
  by_cases h1 : a ≤ c ∧ c ≤ z
  · rw [decide_eq_true h1, decide_eq_true (by omega)]
  · rw [decide_eq_false h1, decide_eq_false (by omega)]

set_option maxHeartbeats 1600000 in
theorem addrange_any (B : Nat) (S : BSet) (a z : Nat) (ha : a < 256) (hz : z < 256) (haz : a ≤ z) (w : World) (h : SAt B S w) :
    Calls Try.prog 67 #[.pointer (some ⟨B, 0, none⟩), .int .u8 a, .int .u8 z] w fun e w' => e = .returned (.tuple #[]) ∧ w.grownBy w' (some B) ∧ SAt B (rangeS S a z) w' := by
  go_enter Try.func67, Try.ntmps67
  go_wp2_with fail
  go_loopw [6] (fun i wr => ∃ k : Nat, k ≤ z + 1 - a ∧ i = .int .i64 ((a : Int) + (k : Int)) ∧ w.grownBy wr (some B) ∧ SAt B (fromS S a k) wr) (fun i _ => z + 1 - (intOf i).toNat)
  case atStart => exact ⟨0, Nat.zero_le _, by simp, World.grownBy.refl _ _, by rw [from_zero]; exact h⟩
  case round =>
    obtain ⟨k, hk, rfl, hg, hS⟩ := hrel
    by_cases hlt : a + k ≤ z
    · have q0 : decide ((a : Int) + (k : Int) ≤ (z : Int)) = true := decide_eq_true (by omega)
      have w8 : IntKind.u8.wrap ((a : Int) + (k : Int)) = (((a + k : Nat)) : Int) := by
        rw [show (a : Int) + (k : Int) = ((a + k : Nat) : Int) by omega]; exact wrap8 _ (by omega)
      have hw : IntKind.i64.wrap ((a : Int) + (k : Int) + 1) = (a : Int) + (k : Int) + 1 := IntWalk.i64_in _ ⟨by omega, by omega⟩
      have hA := fun W h => add_any B (fromS S a k) (a + k) (by omega) W h
      rw [from_next, Int.natCast_add] at hA
      have HA := Lib.hid hA; clear hA
      clear w8
      go_wp2_with fail
      refine (HA.out _ hS).mono ?_; rintro e w1 ⟨rfl, hg1, hS1⟩
      have hgg := grow_then hg hg1
      go_wp2_with fail
      go_roundw
      case rel => exact ⟨k + 1, by omega, by rw [Int.natCast_add]; simp; omega, hgg, hS1⟩
      case measure => simp [intOf]; omega
    · have q0 : decide ((a : Int) + (k : Int) ≤ (z : Int)) = false := decide_eq_false (by omega)
      obtain rfl : k = z + 1 - a := by omega
      rw [from_all S a z haz] at hS
      have HS := Lib.hid hS; clear hS
      go_wp2_with fail
      go_returns
      exact ⟨rfl, hg, HS.out⟩

/-! ### sets together -/
def orS (S T : BSet) : BSet := fun c => S c || T c
/-- The set whose first k bytes of cells are already those of both. -/
def partS (S T : BSet) (k : Nat) : BSet := fun c => S c || (decide (c < 8 * k) && T c)
theorem part_zero (S T : BSet) : partS S T 0 = S := by funext c; unfold partS; simp
theorem part_byte (S T : BSet) (k : Nat) : byteOf (partS S T k) k = byteOf S k := by
  refine (byteOf_eq (byteOf_lt S k) fun j hj => ?_).symm
  rw [byteOf_bit S k j hj]; unfold partS; rw [decide_eq_false (by omega)]; simp
theorem part_next (S T : BSet) (k : Nat) : (byteOf S k ||| byteOf T k) = byteOf (partS S T (k + 1)) k := by
  refine byteOf_eq (Nat.or_lt_two_pow (n := 8) (byteOf_lt S _) (byteOf_lt T _)) fun j hj => ?_
  rw [Nat.testBit_or, byteOf_bit S k j hj, byteOf_bit T k j hj]; unfold partS; rw [decide_eq_true (by omega)]; simp
theorem part_other (S T : BSet) (k j : Nat) (h : j ≠ k) : byteOf (partS S T k) j = byteOf (partS S T (k + 1)) j := by
  refine byteOf_eq (byteOf_lt _ j) fun i hi => ?_
  rw [byteOf_bit _ j i hi]
  unfold partS
  by_cases h1 : 8 * j + i < 8 * k
  · rw [decide_eq_true h1, decide_eq_true (show 8 * j + i < 8 * (k + 1) by omega)]
  · rw [decide_eq_false h1, decide_eq_false (show ¬ 8 * j + i < 8 * (k + 1) by omega)]
theorem part_all (S T : BSet) : setC (partS S T 32) = setC (orS S T) := by
  unfold setC
  refine List.map_congr_left fun i hi => ?_
  have hi := List.mem_range.1 hi
  have : byteOf (partS S T 32) i = byteOf (orS S T) i := byteOf_eq (byteOf_lt _ i) fun j hj => by
    rw [byteOf_bit _ i j hj]; unfold partS orS; rw [decide_eq_true (by omega)]; simp
  rw [this]
theorem index_set (T : BSet) (k : Nat) (hk : k < 32) (w : World) : (Instr.index 55 (.agg (setC T).toArray) (.int .i64 (k : Int))).run Try.prog w = .ok (.int .u8 (byteOf T k : Int)) w := by
  have hT : (setC T)[k]? = some (.int .u8 (byteOf T k : Int)) := setC_at T k hk
  have h1 : (0 : Int) ≤ (k : Int) ∧ (k : Int) < 32 := ⟨by omega, by omega⟩
  have hs : (sizeOf 5).run Try.prog w = .ok 1 w := Try.sizeOf5 w
  simp [Instr.index, run_underlying Try.underlying55, asIntOf, h1, hs, part, hT, Result.andThen, go_sem]
  intro h; omega
theorem indexAt_set (B k : Nat) (hk : k < 32) (W : World) : (Instr.indexAt 55 (.pointer (some ⟨B, 0, none⟩)) (.int .i64 (k : Int))).run Try.prog W = .ok (.pointer (some ⟨B, k, none⟩)) W := by
  have h := run_indexAt_array (P := Try.prog) (w := W) 55 ⟨B, 0, none⟩ .i64 (k : Int) (by kernel_rfl)
  rw [h]
  have e1 : Try.prog.arrayLen 55 = 32 := by kernel_rfl
  have e3 : Try.prog.elem 55 = 5 := by kernel_rfl
  rw [e1, e3, if_pos ⟨by omega, by omega⟩, Try.sizeOf5 W]
  simp [Result.andThen, Addr.add_mid]
theorem und55 : ∃ d, Try.prog.underlying 55 = some d ∧ d.isRow = true := ⟨_, Try.underlying55, rfl⟩
set_option maxHeartbeats 1600000 in
theorem addall_any (B : Nat) (S T : BSet) (w : World) (h : SAt B S w) :
    Calls Try.prog 66 #[.pointer (some ⟨B, 0, none⟩), .agg (setC T).toArray] w fun e w' => e = .returned (.tuple #[]) ∧ w.grownBy w' (some B) ∧ SAt B (orS S T) w' := by
  have mixed : Try.prog.follows .mixedOrders = true := by kernel_rfl
  have hr : (w.alloc (.cells (setC T).toArray 55)).rangeAt w.heap.size 0 (setC T) := fun j v hv => by
    rw [cell_of_row _ _ _ _ _ _ (heap_alloc_new w (.cells (setC T).toArray 55))]; simpa using hv
  obtain ⟨d, hu, hd⟩ := und55
  have hi : (Try.prog.info? 55).map (·.size) = some (setC T).length := by rw [setC_length]; exact size55
  have h0 : SAt B (partS S T 0) (w.alloc (.cells (setC T).toArray 55)) := by rw [part_zero]; exact h.call (blw (Below.refl _ _) _)
  have g0 : w.grownBy (w.alloc (.cells (setC T).toArray 55)) (some B) := grow_below (blw (Below.refl _ _) _) _
  go_enter Try.func66, Try.ntmps66
  go_upto_region 2 with (refine wpList_load_mid (by rfl) 55 _ (by rfl) w.heap.size 0 (by rfl) (setC T) d hr hu hd hi ?_)
  go_loopw [7] (fun i wr => ∃ k : Nat, k ≤ 32 ∧ i = .int .i64 k ∧ w.grownBy wr (some B) ∧ SAt B (partS S T k) wr) (fun i _ => 32 - (intOf i).toNat)
  case atStart => exact ⟨0, Nat.zero_le _, rfl, g0, h0⟩
  case round =>
    obtain ⟨k, hk, rfl, hg, hS⟩ := hrel
    by_cases hlt : k < 32
    · have q0 : decide ((k : Int) < 32) = true := decide_eq_true (by omega)
      have hc := hS.cell k hlt
      rw [part_byte] at hc
      have fr := Lib.frozen_of_heap hS k
      have hT := index_set T k hlt wr
      have hor := or_u8 _ _ (byteOf_lt S k) (byteOf_lt T k)
      rw [part_next] at hor
      have hset := setCell_at wr B k _ 55 (.int .u8 (byteOf (partS S T (k + 1)) k : Int)) hS
      have hgc := grow_then hg (grow_cell wr B k (.int .u8 (byteOf (partS S T (k + 1)) k : Int)))
      rw [setC_set (partS S T k) (partS S T (k + 1)) k hlt (fun j _ hj => part_other S T k j hj)] at hset
      have HX := Lib.hid (And.intro hset hgc)
      have HO := Lib.hid hor
      have k0 : (0 : Int) ≤ (k : Int) := by omega
      have k1 : (k : Int) < 32 := by omega
      have hix := indexAt_set B k hlt
      clear hset hgc hor hS
      go_wp2_with fail
      go_region_o
      have hX := HX.out
      rw [← HO.out] at hX
      obtain ⟨hset, hgc⟩ := hX
      go_wp2_with fail
      go_roundw
      case rel => exact ⟨k + 1, by omega, by go_num, ⟨hgc.os, hgc.tape, hgc.output, hgc.size, hgc.block⟩, hset⟩
      case measure => simp [intOf]; omega
    · have q0 : decide ((k : Int) < 32) = false := decide_eq_false (by omega)
      obtain rfl : k = 32 := by omega
      have hfin : SAt B (orS S T) wr := by unfold SAt at hS ⊢; rw [part_all] at hS; exact hS
      have HF := Lib.hid hfin; clear hS hfin
      go_wp2_with fail
      go_returns
      exact ⟨rfl, hg, HF.out⟩
end Go.Proofs.Ytdnofpllmhnacaa
