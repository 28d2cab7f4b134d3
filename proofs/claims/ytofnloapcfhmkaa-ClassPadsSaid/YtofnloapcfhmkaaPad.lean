/- Spaces at the ends of a string; the contract of the law's own helper that makes them. -/
import Derived.Test.YtofnloapcfhmkaaTrim
import Derived.Test.YtofnloapcfhmkaaStr
import Derived.Test.YtofnloapcfhmkaaKnown
namespace Go.Proofs.Ytofnloapcfhmkaa
open Go.ChangeShapes Go.WideShapes Go.ChangeAt Go.RowKit
set_option linter.unusedVariables false

theorem spB_append (x y : ByteArray) (i : Nat) : spB (x ++ y) i = if i < x.size then spB x i else spB y (i - x.size) := by
  unfold spB
  rw [ByteArray.data_append, Array.toList_append, List.getD_eq_getElem?_getD, List.getElem?_append]
  have e : x.data.toList.length = x.size := by simp
  rw [e]
  split <;> rw [List.getD_eq_getElem?_getD]
theorem tEnd_eq (sp : Nat → Bool) (n k : Nat) (h1 : k ≤ n) (h2 : k = 0 ∨ sp (k - 1) = false) (h3 : ∀ i, k ≤ i → i < n → sp i = true) : tEnd sp n = k := by
  induction n with
  | zero => unfold tEnd; omega
  | succ n ih =>
    unfold tEnd
    by_cases e : k = n + 1
    · subst e
      rcases h2 with h2 | h2
      · omega
      · rw [if_neg (by simpa using h2)]
    · rw [if_pos (h3 n (by omega) (by omega))]
      exact ih (by omega) (fun i hi hi' => h3 i hi (by omega))
/-- Spaces that stand in front and behind move the result, and nothing else. -/
theorem pad_none (b s a : ByteArray) (hb : ∀ i, i < b.size → spB b i = true) (ha : ∀ i, i < a.size → spB a i = true) (h : tE s = 0) : tE (b ++ s ++ a) = 0 := by
  refine tEnd_eq _ _ _ (Nat.zero_le _) (.inl rfl) (fun i _ hi => ?_)
  rw [ByteArray.size_append, ByteArray.size_append] at hi
  rw [spB_append, spB_append, ByteArray.size_append]
  split
  · split
    · exact hb i (by omega)
    · exact tEnd_after (spB s) s.size _ (by rw [show tEnd (spB s) s.size = tE s from rfl, h]; omega) (by omega)
  · exact ha _ (by omega)
theorem pad_some (b s a : ByteArray) (hb : ∀ i, i < b.size → spB b i = true) (ha : ∀ i, i < a.size → spB a i = true) (h : 0 < tE s) : tE (b ++ s ++ a) = tE s + b.size ∧ tF (b ++ s ++ a) = tF s + b.size := by
  have hle : tE s ≤ s.size := tEnd_le _ _
  have hl := tEnd_last (spB s) s.size h
  rw [show tEnd (spB s) s.size = tE s from rfl] at hl
  obtain ⟨f1, f2, f3⟩ := tF_lt s h
  have e1 : tE (b ++ s ++ a) = tE s + b.size := by
    refine tEnd_eq _ _ _ (by rw [ByteArray.size_append, ByteArray.size_append]; omega) (.inr ?_) (fun i hi hi' => ?_)
    · rw [spB_append, if_pos (by rw [ByteArray.size_append]; omega), spB_append, if_neg (by omega), show tE s + b.size - 1 - b.size = tE s - 1 by omega, hl]
    · rw [ByteArray.size_append, ByteArray.size_append] at hi'
      rw [spB_append, spB_append, ByteArray.size_append]
      split
      · rw [if_neg (by omega)]
        exact tEnd_after (spB s) s.size _ (by rw [show tEnd (spB s) s.size = tE s from rfl]; omega) (by omega)
      · exact ha _ (by omega)
  refine ⟨e1, tF_eq _ _ (by omega) (fun i hi => ?_) (.inr ?_)⟩
  · rw [spB_append, if_pos (by rw [ByteArray.size_append]; omega), spB_append]
    split
    · exact hb i (by omega)
    · exact f3 _ (by omega)
  · rw [spB_append, if_pos (by rw [ByteArray.size_append]; omega), spB_append, if_neg (by omega), show tF s + b.size - b.size = tF s by omega, f2]

/-- The spaces that the law adds: m of them, of four kinds. -/
def spc (m : Nat) (k : Nat) : UInt8 := if (m - k) % 4 = 0 then 9 else if (m - k) % 4 = 1 then 10 else if (m - k) % 4 = 2 then 13 else 32
theorem spc_sp (m n i : Nat) (h : i < n) : spB (str (spc m) n) i = true := by
  rw [spB_at _ i (by rw [str_size]; exact h), str_at _ _ _ h]
  unfold spc
  split
  · decide
  · split
    · decide
    · split <;> decide
theorem str_snoc (f : Nat → UInt8) (n : Nat) (c : Int) (h : c = ((f n).toNat : Int)) : str f n ++ one c = str f (n + 1) := by
  subst h
  unfold str one
  rw [ByteArray.mk_append_mk, List.range_succ, List.map_append]
  simp

theorem idx0 (w : World) : (Instr.index 39 (.agg #[.int .u8 9, .int .u8 10, .int .u8 13, .int .u8 32]) (.int .i64 0)).run Try.prog w = .ok (.int .u8 9) w := by kernel_rfl
theorem idx1 (w : World) : (Instr.index 39 (.agg #[.int .u8 9, .int .u8 10, .int .u8 13, .int .u8 32]) (.int .i64 1)).run Try.prog w = .ok (.int .u8 10) w := by kernel_rfl
theorem idx2 (w : World) : (Instr.index 39 (.agg #[.int .u8 9, .int .u8 10, .int .u8 13, .int .u8 32]) (.int .i64 2)).run Try.prog w = .ok (.int .u8 13) w := by kernel_rfl
theorem idx3 (w : World) : (Instr.index 39 (.agg #[.int .u8 9, .int .u8 10, .int .u8 13, .int .u8 32]) (.int .i64 3)).run Try.prog w = .ok (.int .u8 32) w := by kernel_rfl

theorem spc_val (m k : Nat) : (((spc m k).toNat : Int)) = if (m - k) % 4 = 0 then 9 else if (m - k) % 4 = 1 then 10 else if (m - k) % 4 = 2 then 13 else 32 := by
  unfold spc
  split
  · rfl
  · split
    · rfl
    · split <;> rfl
theorem spaces_of (a : Int) (m : Nat) (hm : m < 10) (he : wrap64 ((IntKind.u64.wrap a).tmod 10) = m) (w : World) :
    Calls Try.prog 20 #[.int .i64 a] w fun e w' => e = .returned (.string (str (spc m) m)) ∧ Below w.heap.size w w' := by
  go_enter Try.func20, Try.ntmps20
  go_wp2_with fail
  rw [he]
  clear he
  go_loopw [3, 4] (fun s i wr => ∃ k : Nat, k ≤ m ∧ i = .int .i64 ((m - k : Nat) : Int) ∧ s = .string (str (spc m) k) ∧ Below w.heap.size w wr) (fun s i _ => (intOf i).toNat)
  case atStart => exact ⟨0, Nat.zero_le _, rfl, rfl, Below.refl _ _⟩
  case round =>
    obtain ⟨k, hk, rfl, rfl, hB⟩ := hrel
    by_cases hlt : k < m
    · have hsz := str_size (spc m) k
      have hs9 : (str (spc m) k).size ≤ 9 := by omega
      clear hsz
      have HB := Lib.hid hB; clear hB
      have HV := Lib.hid (spc_val m k)
      have hq1 : 1 ≤ m - k := by omega
      have hq2 : m - k ≤ 9 := by omega
      have HQ : Hid (m - (k + 1) = m - k - 1) := by show _ = _; omega
      generalize m - k = q at hq1 hq2 HQ HV ⊢
      have g := Lib.hid (str_snoc (spc m) k)
      rcases (show q % 4 = 0 ∨ q % 4 = 1 ∨ q % 4 = 2 ∨ q % 4 = 3 by omega) with e | e | e | e
      · have hv := HV.out
        rw [if_pos e] at hv
        have hc := conv_one wr 9 (by omega) (by omega)
        have ho : (one 9).size ≤ 1 := Nat.le_refl _
        have i0 := idx0
        have e4 : (q : Int) % 4 = 0 := by omega
        have G := Lib.hid (g.out 9 hv.symm)
        have HA := Lib.hid (HB.out.alloc HB.out.size (.cells #[.int .u8 9] 5))
        clear g hv HV e
        go_wp2_with fail
        go_roundw
        case rel => exact ⟨k + 1, by omega, by rw [HQ.out]; go_num, by rw [G.out], HA.out⟩
        case measure => simp [intOf]; omega
      · have hv := HV.out
        rw [if_neg (by omega)] at hv; rw [if_pos e] at hv
        have hc := conv_one wr 10 (by omega) (by omega)
        have ho : (one 10).size ≤ 1 := Nat.le_refl _
        have i0 := idx1
        have e4 : (q : Int) % 4 = 1 := by omega
        have G := Lib.hid (g.out 10 hv.symm)
        have HA := Lib.hid (HB.out.alloc HB.out.size (.cells #[.int .u8 10] 5))
        clear g hv HV e
        go_wp2_with fail
        go_roundw
        case rel => exact ⟨k + 1, by omega, by rw [HQ.out]; go_num, by rw [G.out], HA.out⟩
        case measure => simp [intOf]; omega
      · have hv := HV.out
        rw [if_neg (by omega)] at hv; rw [if_neg (by omega)] at hv; rw [if_pos e] at hv
        have hc := conv_one wr 13 (by omega) (by omega)
        have ho : (one 13).size ≤ 1 := Nat.le_refl _
        have i0 := idx2
        have e4 : (q : Int) % 4 = 2 := by omega
        have G := Lib.hid (g.out 13 hv.symm)
        have HA := Lib.hid (HB.out.alloc HB.out.size (.cells #[.int .u8 13] 5))
        clear g hv HV e
        go_wp2_with fail
        go_roundw
        case rel => exact ⟨k + 1, by omega, by rw [HQ.out]; go_num, by rw [G.out], HA.out⟩
        case measure => simp [intOf]; omega
      · have hv := HV.out
        rw [if_neg (by omega)] at hv; rw [if_neg (by omega)] at hv; rw [if_neg (by omega)] at hv
        have hc := conv_one wr 32 (by omega) (by omega)
        have ho : (one 32).size ≤ 1 := Nat.le_refl _
        have i0 := idx3
        have e4 : (q : Int) % 4 = 3 := by omega
        have G := Lib.hid (g.out 32 hv.symm)
        have HA := Lib.hid (HB.out.alloc HB.out.size (.cells #[.int .u8 32] 5))
        clear g hv HV e
        go_wp2_with fail
        go_roundw
        case rel => exact ⟨k + 1, by omega, by rw [HQ.out]; go_num, by rw [G.out], HA.out⟩
        case measure => simp [intOf]; omega
    · obtain rfl : k = m := by omega
      go_wp2_with fail
      go_ret
      exact ⟨rfl, hB⟩
end Go.Proofs.Ytofnloapcfhmkaa
