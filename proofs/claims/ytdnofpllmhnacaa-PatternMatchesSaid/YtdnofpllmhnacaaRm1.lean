/- The reference's Contains, Reverse. -/
import Derived.Test.YtdnofpllmhnacaaRev
namespace Go.Proofs.Ytdnofpllmhnacaa
open Go.ChangeShapes Go.WideShapes Go.ChangeAt Go.RowKit Go.Sort
set_option linter.unusedVariables false
set_option linter.unusedSimpArgs false
set_option maxRecDepth 100000

theorem shr_fin : ∀ (n : Fin 256) (j : Fin 8), (bits BinOp.and IntKind.u8 ((n.val : Int) / 2 ^ j.val) 1 == 1) = n.val.testBit j.val := by decide +kernel
theorem shr_bit (S : BSet) (b : Nat) : (bits BinOp.and IntKind.u8 ((byteOf S (b / 8) : Int) / 2 ^ (b % 8)) 1 == 1) = S b := by
  have h := shr_fin ⟨byteOf S (b / 8), byteOf_lt S _⟩ ⟨b % 8, by omega⟩
  rw [show (bits BinOp.and IntKind.u8 ((byteOf S (b / 8) : Int) / 2 ^ (b % 8)) 1 == 1) = (byteOf S (b / 8)).testBit (b % 8) from h, byteOf_bit S _ _ (by omega)]
  congr 1; omega
set_option maxHeartbeats 1600000 in
theorem rcontains_any (a : At) (b : Nat) (hb : b < 256) (w : World) : Calls Try.prog 58 #[.agg a.cs.toArray, .int .u8 b] w fun e w' => e = .returned (.bool (a.s b)) ∧ Below w.heap.size w w' := by
  have hav : AV w.heap.size a (w.alloc (.cells a.cs.toArray 37)) := heap_alloc_new w _
  have hc := hav.cell (b / 8) (by omega)
  have h1 : (0 : Int) ≤ (b : Int) / 8 := by omega
  have h2 : (b : Int) / 8 < 32 := by omega
  have h3 : ((b : Int) / 8).toNat = b / 8 := by omega
  clear hav
  have HB := Lib.hid (shr_bit a.s b)
  go_enter Try.func58, Try.ntmps58
  go_wp2_with fail
  go_ret
  exact ⟨ret_bool HB.out, blw (Below.refl _ _) _⟩
set_option maxHeartbeats 3200000 in
theorem rrev_any (p : Option Addr) (c : Nat) (P : List At) (w : World) (hP : Ats w p P) (hc : P.length ≤ c) (hm : c ≤ maxLen) (hn : P.length ≤ 1000) :
    Calls Try.prog 32 #[.slice p P.length c] w (MkEnd P.reverse w) := by
  unfold maxLen at hm
  have HP := Lib.hid hP; clear hP
  go_enter Try.func32, Try.ntmps32
  go_wp2_with fail
  go_loopw [3, 4] (fun v i wr => ∃ k : Nat, k ≤ P.length ∧ i = .int .i64 ((k : Int) - 1) ∧ OwA w.heap.size (P.drop k).reverse v wr ∧ Below w.heap.size w wr) (fun _ i _ => (intOf i + 1).toNat)
  case atStart => exact ⟨P.length, Nat.le_refl _, rfl, by rw [List.drop_of_length_le (Nat.le_refl _)]; exact OwA.nil _ _, Below.refl _ _⟩
  case round =>
    obtain ⟨k, hk, rfl, hO, hB⟩ := hrel
    cases k with
    | succ k =>
      have hkk : ((k + 1 : Nat) : Int) - 1 = (k : Int) := by omega
      rw [hkk]
      clear hkk
      have qk : decide ((0 : Int) ≤ (k : Int)) = true := by simp
      have hlt : k < P.length := hk
      obtain ⟨b, o, rfl, hb, hrow⟩ := HP.out.call hB (by omega)
      have hx := hrow k hlt
      have hd : (P.drop k).reverse = (P.drop (k + 1)).reverse ++ [P[k]] := by rw [List.drop_eq_getElem_cons hlt, List.reverse_cons]
      have hl : ((P.drop (k + 1)).reverse).length ≤ 1000 := by rw [List.length_reverse, List.length_drop]; omega
      generalize P[k] = x at *
      generalize (P.drop (k + 1)).reverse = R at *
      obtain ⟨p1, c1, hv, _, _, _, _⟩ := hO.ats
      have hin : (Try.prog.info? 37).map (·.size) = some x.cs.length := by rw [At.cs_length]; exact size37
      obtain ⟨d, hu, hdd⟩ := und37
      have hc8 := heap_alloc_new wr (.cells x.cs.toArray 37)
      have hO2 := hO.call (blw (Below.refl _ _) (.cells x.cs.toArray 37))
      have hB2 := blw hB (.cells x.cs.toArray 37)
      have hb9 : w.heap.size ≤ (wr.alloc (.cells x.cs.toArray 37)).heap.size := hB2.size
      have HX := Lib.hid (And.intro hx (And.intro hu (And.intro hdd (And.intro hin (And.intro hc8 (And.intro hO2 hB2)))))); have HD := Lib.hid hd
      clear hx hu hdd hin hc8 hO2 hB2 hd hrow hO hv
      go_wp2_with (first | (refine wpList_load_mid (by rfl) 37 _ (by rfl) b (o + k * 34) (by rfl) x.cs d HX.out.1 HX.out.2.1 HX.out.2.2.1 HX.out.2.2.2.1 ?_) | (refine wpl_sliceAt (by rfl) _ (by rfl) x (by rfl) wr.heap.size (by rfl) ?_) | (refine wpl_appendAt _ (by rfl) _ _ (by rfl) w.heap.size R _ (by rfl) HX.out.2.2.2.2.2.1 hb9 x wr.heap.size (by rfl) HX.out.2.2.2.2.1 hl ?_; intro v9 w9 o9 g9))
      have b9 := OwA.below HX.out.2.2.2.2.2.1 HX.out.2.2.2.2.2.2 hb9 g9
      have H9 := Lib.hid (And.intro o9 b9); clear o9 g9 b9
      go_roundw
      case rel => exact ⟨k, by omega, rfl, by rw [HD.out]; exact H9.out.1, H9.out.2⟩
      case measure => (simp [intOf] <;> omega)
    | zero =>
      have qk : decide ((0 : Int) ≤ ((0 : Nat) : Int) - 1) = false := by decide
      rw [List.drop_zero] at hO
      have HO := Lib.hid hO; clear hO
      go_wp2_with fail
      go_ret
      exact ⟨_, rfl, HO.out, hB⟩
end Go.Proofs.Ytdnofpllmhnacaa
