/- The complement of a set. -/
import Derived.Test.YtdnofpllmhnacaaSet
namespace Go.Proofs.Ytdnofpllmhnacaa
open Go.ChangeShapes Go.WideShapes Go.ChangeAt Go.RowKit Go.Sort
set_option linter.unusedVariables false
set_option linter.unusedSimpArgs false
set_option maxRecDepth 100000

def notS (S : BSet) : BSet := fun c => !S c
/-- The first k cells are already those of the complement. -/
def invS (S : BSet) (k : Nat) : BSet := fun c => if c < 8 * k then !S c else S c
theorem inv_zero (S : BSet) : invS S 0 = S := by funext c; unfold invS; rw [if_neg (by omega)]
theorem inv_byte (S : BSet) (k : Nat) : byteOf (invS S k) k = byteOf S k := by
  refine (byteOf_eq (byteOf_lt S k) fun j hj => ?_).symm
  rw [byteOf_bit S k j hj]; unfold invS; rw [if_neg (by omega)]
theorem not_eight : ∀ b0 b1 b2 b3 b4 b5 b6 b7 : Bool, (!b0).toNat + 2 * (!b1).toNat + 4 * (!b2).toNat + 8 * (!b3).toNat + 16 * (!b4).toNat + 32 * (!b5).toNat + 64 * (!b6).toNat + 128 * (!b7).toNat = 255 - (b0.toNat + 2 * b1.toNat + 4 * b2.toNat + 8 * b3.toNat + 16 * b4.toNat + 32 * b5.toNat + 64 * b6.toNat + 128 * b7.toNat) := by decide +kernel
theorem not_byte (S : BSet) (k : Nat) : byteOf (notS S) k = 255 - byteOf S k := by
  unfold byteOf notS; exact not_eight _ _ _ _ _ _ _ _
theorem inv_next (S : BSet) (k : Nat) : byteOf (invS S (k + 1)) k = 255 - byteOf S k := by
  rw [← not_byte]
  refine (byteOf_eq (byteOf_lt _ k) fun j hj => ?_).symm
  rw [byteOf_bit _ k j hj]; unfold invS notS; rw [if_pos (by omega)]
theorem inv_other (S : BSet) (k j : Nat) (h : j ≠ k) : byteOf (invS S k) j = byteOf (invS S (k + 1)) j := by
  refine byteOf_eq (byteOf_lt _ j) fun i hi => ?_
  rw [byteOf_bit _ j i hi]
  unfold invS
  by_cases h1 : 8 * j + i < 8 * k
  · rw [if_pos h1, if_pos (by omega)]
  · rw [if_neg h1, if_neg (by omega)]
theorem inv_all (S : BSet) : setC (invS S 32) = setC (notS S) := by
  unfold setC
  refine List.map_congr_left fun i hi => ?_
  have hi := List.mem_range.1 hi
  have : byteOf (invS S 32) i = byteOf (notS S) i := byteOf_eq (byteOf_lt _ i) fun j hj => by
    rw [byteOf_bit _ i j hj]; unfold invS notS; rw [if_pos (by omega)]
  rw [this]

theorem below_setCells {B b : Nat} (hb : B ≤ b) : ∀ (vs : List Value) (o : Nat) (w0 w : World), Below B w0 w → Below B w0 (w.setCells b o vs)
  | [], _, _, _, h => h
  | v :: r, o, w0, w, h => below_setCells hb r (o + 1) w0 _ (h.setCell (p := ⟨b, o, none⟩) hb v)
theorem set_one (S : BSet) : (setC S).toArray.all (·.oneCell') = true := all_oneCell_toArray fun v hv => by
  unfold setC at hv
  obtain ⟨i, _, rfl⟩ := List.mem_map.1 hv; rfl
theorem SAt.range {B : Nat} {S : BSet} {W : World} (h : SAt B S W) : W.rangeAt B 0 (setC S) := fun j v hv => by
  rw [cell_of_row _ _ _ _ _ _ h]; simpa using hv
theorem there_of {W : World} {b : Nat} {cs : List Value} {t : TypeId} (h : W.heap[b]? = some (.cells cs.toArray t (0, 0))) (n : Nat) (hn : n ≤ cs.length) : W.there b 0 n := fun j hj => by
  refine ⟨?_, Lib.frozen_of_heap h _⟩
  rw [cell_of_row _ _ _ _ _ _ h]; simp; omega
theorem xor_fin : ∀ n : Fin 256, bits BinOp.xor IntKind.u8 (if IntKind.u8.signed = true then -1 else IntKind.u8.max) (n.val : Int) = ((255 - n.val : Nat) : Int) := by decide +kernel
theorem xor_byte (S : BSet) (k : Nat) : bits BinOp.xor IntKind.u8 (if IntKind.u8.signed = true then -1 else IntKind.u8.max) (byteOf S k : Int) = (byteOf (invS S (k + 1)) k : Int) := by
  rw [inv_next]; exact xor_fin ⟨byteOf S k, byteOf_lt S k⟩
set_option maxHeartbeats 3200000 in
theorem inverse_any (S : BSet) (w : World) :
    Calls Try.prog 46 #[.agg (setC S).toArray] w fun e w' => e = .returned (.agg (setC (notS S)).toArray) ∧ Below w.heap.size w w' := by
  have h0 : SAt w.heap.size S (w.alloc (.cells (setC S).toArray 55)) := heap_alloc_new w _
  go_enter Try.func46, Try.ntmps46
  go_wp2_with fail
  go_loopw [4] (fun i wr => ∃ k : Nat, k ≤ 32 ∧ i = .int .i64 k ∧ Below w.heap.size w wr ∧ SAt w.heap.size (invS S k) wr ∧ wr.heap[w.heap.size + 1]? = some (.cells (List.replicate 32 (Value.int .u8 0)).toArray 55 (0, 0))) (fun i _ => 32 - (intOf i).toNat)
  case atStart =>
    refine ⟨0, Nat.zero_le _, rfl, blw (blw (Below.refl _ _) _) _, ?_, ?_⟩
    · rw [inv_zero]; exact h0.call (blw (Below.refl _ _) _)
    · have hh := heap_alloc_new (w.alloc (.cells (setC S).toArray 55)) (.cells (List.replicate 32 (Value.int .u8 0)).toArray 55)
      rw [show (w.alloc (.cells (setC S).toArray 55)).heap.size = w.heap.size + 1 by simp] at hh
      exact hh
  case round =>
    obtain ⟨k, hk, rfl, hB, hS, hz⟩ := hrel
    by_cases hlt : k < 32
    · have q0 : decide ((k : Int) < 32) = true := decide_eq_true (by omega)
      have hc := hS.cell k hlt
      rw [inv_byte] at hc
      have fr := Lib.frozen_of_heap hS k
      have hix := indexAt_set w.heap.size k hlt
      have hx := xor_byte S k
      have hset := setCell_at wr w.heap.size k _ 55 (.int .u8 (byteOf (invS S (k + 1)) k : Int)) hS
      rw [setC_set (invS S k) (invS S (k + 1)) k hlt (fun j _ hj => inv_other S k j hj)] at hset
      have hz2 : (wr.setCell ⟨w.heap.size, k, none⟩ (.int .u8 (byteOf (invS S (k + 1)) k : Int))).heap[w.heap.size + 1]? = _ := (Below.heap_setCell _ _ _ _ (by simp)).trans hz
      have hB2 := hB.setCell (p := ⟨w.heap.size, k, none⟩) (Nat.le_refl _) (.int .u8 (byteOf (invS S (k + 1)) k : Int))
      have HX := Lib.hid (And.intro hB2 (And.intro hset hz2)); have HO := Lib.hid hx
      clear hx hset hz2 hB2 hS hz
      go_wp2_with fail
      rw [HO.out]
      go_roundw
      case rel => exact ⟨k + 1, by omega, by go_num, HX.out.1, HX.out.2.1, HX.out.2.2⟩
      case measure => simp [intOf]; omega
    · have q0 : decide ((k : Int) < 32) = false := decide_eq_false (by omega)
      obtain rfl : k = 32 := by omega
      have hS2 : SAt w.heap.size (notS S) wr := by unfold SAt at hS ⊢; rw [inv_all] at hS; exact hS
      obtain ⟨d, hu, hd⟩ := und55
      have hr := hS2.range
      have hi : (Try.prog.info? 55).map (·.size) = some (setC (notS S)).length := by rw [setC_length]; exact size55
      have hi2 : (Try.prog.info? 55).map (·.size) = some (setC (notS S)).toArray.size := by simpa using hi
      have ht : wr.there (w.heap.size + 1) 0 (setC (notS S)).toArray.size := there_of hz _ (by simp [setC_length])
      have h1 := set_one (notS S)
      have hB2 := below_setCells (B := w.heap.size) (b := w.heap.size + 1) (by omega) (setC (notS S)) 0 w wr hB
      have hr2 := World.rangeAt_setCells_same wr (w.heap.size + 1) 0 (setC (notS S)) (by simpa using ht)
      have hld := run_loadVar_mid (P := Try.prog) _ (w.heap.size + 1) 0 55 (setC (notS S)) d hr2 hu hd hi
      have HX := Lib.hid (And.intro hB2 hld)
      clear hS hS2 hz hB hB2 hld hr2
      go_upto_region 6 with fail
      generalize hcs : setC (notS S) = cs at *
      have HCS := Lib.hid hcs; clear hcs
      generalize w.heap.size + 1 = b1 at *
      go_wp2_with (first | (refine wpList_load_mid (by rfl) 55 _ (by rfl) w.heap.size 0 (by rfl) cs d hr hu hd hi ?_) | (refine wpList_store_mid (by rfl) 55 _ _ (by rfl) b1 0 cs.toArray (by rfl) (by rfl) ht hi2 h1 ?_))
      obtain ⟨hB2, hld⟩ := HX.out
      have e1 : cs.toArray.toList = cs := by simp
      try rw [e1]
      (try simp only [Exit.inBlock, Exit.then])
      refine bodyPost_ret (v := .agg cs.toArray) (by simp [results, Try.results46, asAddr, Result.andThen, hld, Act.put]) rfl ⟨by rw [HCS.out], hB2⟩
end Go.Proofs.Ytdnofpllmhnacaa
