/- Sets of bytes as 32 bytes; what lies in memory; contracts of has and Contains. -/
import Derived.Test.YtdnofpllmhnacaaRows
import Derived.WalkKit
import Derived.ProofKit
import Derived.OpenShut
import Derived.ShutString
import Derived.Lib.Hide
import Derived.Deep.Slices
import Derived.Deep.Strs
import Derived.Deep.AppendLies
import Derived.Deep.MidRow
import Derived.BigQuiet
import Derived.Deep.QuietTactic
import Derived.Lib.QuietBelow
namespace Go.Proofs.Ytdnofpllmhnacaa
open Go.ChangeShapes Go.WideShapes Go.ChangeAt Go.RowKit
set_option linter.unusedVariables false
set_option linter.unusedSimpArgs false
set_option maxRecDepth 100000

theorem ret_bool {a b : Bool} (h : a = b) : Ending.returned (.bool a) = .returned (.bool b) := by rw [h]
theorem add_block (a : Addr) (n : Nat) : (a.add n).block = a.block := by unfold Addr.add; split <;> rfl
theorem BelowOn {w a b : World} (h : Below w.heap.size w a) (k : Below a.heap.size a b) : Below w.heap.size w b := h.trans (k.mono h.size)
theorem blw {w a : World} (h : Below w.heap.size w a) (o : Obj) : Below w.heap.size w (a.alloc o) := h.alloc h.size o
theorem bdrN {b : Nat} {w w' : World} (h : Below b w w') (n : Nat) : Below b w (w'.drewN n) := ⟨h.os, h.tape, h.output, h.size, h.block⟩

/-! ### sets -/
abbrev BSet := Nat → Bool
def byteOf (S : BSet) (i : Nat) : Nat := (S (8 * i)).toNat + 2 * (S (8 * i + 1)).toNat + 4 * (S (8 * i + 2)).toNat + 8 * (S (8 * i + 3)).toNat + 16 * (S (8 * i + 4)).toNat + 32 * (S (8 * i + 5)).toNat + 64 * (S (8 * i + 6)).toNat + 128 * (S (8 * i + 7)).toNat
theorem byteOf_lt (S : BSet) (i : Nat) : byteOf S i < 256 := by
  unfold byteOf
  have h : ∀ b : Bool, b.toNat ≤ 1 := fun b => by cases b <;> decide
  have := h (S (8 * i)); have := h (S (8 * i + 1)); have := h (S (8 * i + 2)); have := h (S (8 * i + 3)); have := h (S (8 * i + 4)); have := h (S (8 * i + 5)); have := h (S (8 * i + 6)); have := h (S (8 * i + 7))
  omega
/-- The cells of a set. -/
def setC (S : BSet) : List Value := (List.range 32).map fun i => .int .u8 (byteOf S i : Int)
theorem setC_length (S : BSet) : (setC S).length = 32 := by simp [setC]
theorem setC_at (S : BSet) (i : Nat) (h : i < 32) : (setC S)[i]? = some (.int .u8 (byteOf S i : Int)) := by
  unfold setC; rw [List.getElem?_map, List.getElem?_range h]; rfl
theorem info55 : (Try.prog.info? 55).map (fun i => (i.zero, i.size, i.bytes)) = (Try.prog.info? 35).map (fun i => (i.zero, i.size, i.bytes)) := by kernel_rfl
theorem size55 : (Try.prog.info? 55).map (·.size) = some 32 := by kernel_rfl
theorem size35 : (Try.prog.info? 35).map (·.size) = some 32 := by kernel_rfl
theorem size37 : (Try.prog.info? 37).map (·.size) = some 34 := by kernel_rfl

theorem eight : ∀ b0 b1 b2 b3 b4 b5 b6 b7 : Bool, ∀ j : Fin 8, (b0.toNat + 2 * b1.toNat + 4 * b2.toNat + 8 * b3.toNat + 16 * b4.toNat + 32 * b5.toNat + 64 * b6.toNat + 128 * b7.toNat).testBit j.val = [b0, b1, b2, b3, b4, b5, b6, b7][j.val]! := by decide +kernel
theorem byteOf_bit (S : BSet) (i j : Nat) (hj : j < 8) : (byteOf S i).testBit j = S (8 * i + j) := by
  have h := eight (S (8 * i)) (S (8 * i + 1)) (S (8 * i + 2)) (S (8 * i + 3)) (S (8 * i + 4)) (S (8 * i + 5)) (S (8 * i + 6)) (S (8 * i + 7)) ⟨j, hj⟩
  unfold byteOf
  rw [h]
  match j, hj with
  | 0, _ => rfl | 1, _ => rfl | 2, _ => rfl | 3, _ => rfl | 4, _ => rfl | 5, _ => rfl | 6, _ => rfl | 7, _ => rfl
theorem byteOf_high (S : BSet) (i j : Nat) (hj : 8 ≤ j) : (byteOf S i).testBit j = false :=
  Nat.testBit_lt_two_pow (Nat.lt_of_lt_of_le (byteOf_lt S i) (by rw [show 256 = 2 ^ 8 from rfl]; exact Nat.pow_le_pow_right (by decide) hj))
theorem byteOf_eq {S : BSet} {i n : Nat} (hn : n < 256) (h : ∀ j, j < 8 → n.testBit j = S (8 * i + j)) : n = byteOf S i := by
  refine Nat.eq_of_testBit_eq fun j => ?_
  by_cases hj : j < 8
  · rw [h j hj, byteOf_bit S i j hj]
  · rw [byteOf_high S i j (by omega), Nat.testBit_lt_two_pow (Nat.lt_of_lt_of_le hn (by rw [show 256 = 2 ^ 8 from rfl]; exact Nat.pow_le_pow_right (by decide) (by omega)))]
theorem and_fin : ∀ (n : Fin 256) (j : Fin 8), (bits BinOp.and IntKind.u8 (n.val : Int) (2 ^ j.val % 256) != 0) = n.val.testBit j.val := by decide +kernel
theorem of8 (n : Nat) (h : n < 256) : (BitVec.ofInt 8 (n : Int)).toNat = n := by
  rw [BitVec.toNat_ofInt]; omega
theorem wrap8 (n : Nat) (h : n < 256) : IntKind.u8.wrap (n : Int) = (n : Int) := by
  simp [IntKind.wrap, IntKind.bits, IntKind.signed]; omega
theorem or_u8 (n m : Nat) (hn : n < 256) (hm : m < 256) : bits BinOp.or IntKind.u8 (n : Int) (m : Int) = ((n ||| m : Nat) : Int) := by
  show IntKind.u8.wrap ((BitVec.ofInt 8 (n : Int) ||| BitVec.ofInt 8 (m : Int)).toNat : Int) = _
  rw [BitVec.toNat_or, of8 n hn, of8 m hm]
  exact wrap8 _ (Nat.or_lt_two_pow (n := 8) hn hm)
theorem has_bit (S : BSet) (b : Nat) : (bits BinOp.and IntKind.u8 (byteOf S (b / 8) : Int) (2 ^ (b % 8) % 256) != 0) = S b := by
  have h := and_fin ⟨byteOf S (b / 8), byteOf_lt S _⟩ ⟨b % 8, by omega⟩
  rw [show (bits BinOp.and IntKind.u8 (byteOf S (b / 8) : Int) (2 ^ (b % 8) % 256) != 0) = (byteOf S (b / 8)).testBit (b % 8) from h, byteOf_bit S _ _ (by omega)]
  congr 1; omega

set_option maxHeartbeats 1600000 in
theorem has_any (S : BSet) (b : Nat) (hb : b < 256) (w : World) : Calls Try.prog 36 #[.agg (setC S).toArray, .int .u8 b] w fun e w' => e = .returned (.bool (S b)) ∧ Below w.heap.size w w' := by
  have hcell := heap_alloc_new w (.cells (setC S).toArray 55)
  have hc : (w.alloc (.cells (setC S).toArray 55)).cell? ⟨w.heap.size, b / 8, none⟩ = some (.int .u8 (byteOf S (b / 8) : Int)) := by
    rw [cell_of_row _ _ _ _ _ _ hcell]
    simpa using setC_at S (b / 8) (by omega)
  have h1 : (0 : Int) ≤ (b : Int) / 8 := by omega
  have h2 : (b : Int) / 8 < 32 := by omega
  have h3 : ((b : Int) / 8).toNat = b / 8 := by omega
  clear hcell
  have HB := Lib.hid (has_bit S b)
  go_enter Try.func36, Try.ntmps36
  go_wp2_with fail
  go_ret
  exact ⟨ret_bool HB.out, blw (Below.refl _ _) _⟩

/-! ### atoms -/
structure At where
  s : BSet
  mn : Int
  many : Bool
def At.cs (a : At) : List Value := setC a.s ++ [.int .i64 a.mn, .bool a.many]
theorem At.cs_length (a : At) : a.cs.length = 34 := by simp [At.cs, setC_length]
theorem rangeSet {W : World} {b o : Nat} {a : At} (h : W.rangeAt b o a.cs) : W.rangeAt b o (setC a.s) := fun j v hv => h j v (by
  have : j < (setC a.s).length := (List.getElem?_eq_some_iff.1 hv).1
  unfold At.cs; rw [List.getElem?_append_left this]; exact hv)
theorem rangeMin {W : World} {b o : Nat} {a : At} (h : W.rangeAt b o a.cs) : W.cell? ⟨b, o + 32, none⟩ = some (.int .i64 a.mn) := h 32 _ (by
  unfold At.cs; rw [List.getElem?_append_right (by rw [setC_length]; omega), setC_length]; rfl)
theorem rangeMany {W : World} {b o : Nat} {a : At} (h : W.rangeAt b o a.cs) : W.cell? ⟨b, o + 33, none⟩ = some (.bool a.many) := h 33 _ (by
  unfold At.cs; rw [List.getElem?_append_right (by rw [setC_length]; omega), setC_length]; rfl)
theorem range_new (W : World) (cs : List Value) (t : TypeId) : (W.alloc (.cells cs.toArray t)).rangeAt W.heap.size 0 cs := fun j v hv => by
  rw [cell_of_row _ _ _ _ _ _ (heap_alloc_new W (.cells cs.toArray t))]; simpa using hv
theorem und35 : ∃ d, Try.prog.underlying 35 = some d ∧ d.isRow = true := ⟨_, Try.underlying35, rfl⟩
theorem und37 : ∃ d, Try.prog.underlying 37 = some d ∧ d.isRow = true := ⟨_, Try.underlying37, rfl⟩

set_option maxHeartbeats 1600000 in
theorem contains_any (a : At) (b : Nat) (hb : b < 256) (w : World) : Calls Try.prog 18 #[.agg a.cs.toArray, .int .u8 b] w fun e w' => e = .returned (.bool (a.s b)) ∧ Below w.heap.size w w' := by
  have hr := rangeSet (range_new w a.cs 37)
  have hc := fun W => has_any a.s b hb W
  obtain ⟨d, hu, hd⟩ := und35
  have HC := Lib.hid hc; clear hc
  have hi : (Try.prog.info? 35).map (·.size) = some (setC a.s).length := by rw [setC_length]; exact size35
  go_enter Try.func18, Try.ntmps18
  go_wp2_with (refine wpList_load_mid rfl 35 _ rfl w.heap.size 0 rfl (setC a.s) d hr hu hd hi ?_)
  refine (HC.out _).mono ?_; rintro e w1 ⟨rfl, hb1⟩
  have hB := BelowOn (blw (Below.refl _ _) (.cells a.cs.toArray 37)) hb1
  go_wp2_with fail
  go_ret
  exact ⟨rfl, hB⟩
end Go.Proofs.Ytdnofpllmhnacaa
