/- Strings told by a function, as rows of memory hold them; a number cut down by a remainder. -/
import Derived.Test.YtofnloapcfhmkaaMath
import Derived.Deep.OwnRows
import Derived.Lib.SlBytesRow
namespace Go.Proofs.Ytofnloapcfhmkaa
open Go.RowKit

/-- The string of n bytes f 0, f 1, .. -/
def str (f : Nat → UInt8) (n : Nat) : ByteArray := ⟨((List.range n).map f).toArray⟩
theorem str_size (f : Nat → UInt8) (n : Nat) : (str f n).size = n := by
  show ((List.range n).map f).toArray.size = n
  simp
theorem str_at (f : Nat → UInt8) (n i : Nat) (h : i < n) : (str f n)[i]'(by rw [str_size]; exact h) = f i := by
  show ((List.range n).map f).toArray[i]'(by simpa using h) = f i
  simp
theorem bytes_of_row {w : World} {b : Nat} {t : TypeId} {n : Nat} {g : Nat → Value} (h : w.rowIs b t n g) (f : Nat → UInt8) (hf : ∀ i, i < n → g i = .int .u8 ((f i).toNat : Int)) : Lib.Bytes w b 0 (str f n) := fun i hi => by
  rw [str_size] at hi
  rw [Nat.zero_add, h.cell hi, hf i hi, str_at f n i hi]
theorem mod_small (a : Int) (k : Int) (hk : 1 ≤ k) (hk' : k ≤ 1000) : ∃ m : Nat, (m : Int) < k ∧ wrap64 ((IntKind.u64.wrap a).tmod k) = m := by
  have h0 : 0 ≤ IntKind.u64.wrap a := by simp [IntKind.wrap, IntKind.bits, IntKind.signed]; omega
  have h1 : (IntKind.u64.wrap a).tmod k = (IntKind.u64.wrap a) % k := Int.tmod_eq_emod_of_nonneg h0
  have h2 := Int.emod_nonneg (IntKind.u64.wrap a) (show k ≠ 0 by omega)
  have h3 := Int.emod_lt_of_pos (IntKind.u64.wrap a) (show 0 < k by omega)
  obtain ⟨m, hm⟩ := Int.eq_ofNat_of_zero_le h2
  refine ⟨m, by omega, ?_⟩
  rw [h1, hm]
  exact IntWalk.wrap64_in _ ⟨by omega, by omega⟩
theorem zname (m : Nat) : isNm (str (fun _ => 122) m) = (decide (1 ≤ m) && decide (m ≤ 24)) := by
  by_cases h1 : 1 ≤ m
  · by_cases h2 : m ≤ 24
    · rw [isNm_yes _ (by rw [str_size]; exact h1) (by rw [str_size]; exact h2) (fun i hi => by
        rw [str_size] at hi
        by_cases e : i = 0
        · subst e; rw [nmAt_zero _ (by rw [str_size]; omega), str_at _ _ _ (by omega)]; decide
        · rw [nmAt_pos _ i (by rw [str_size]; omega) (by omega), str_at _ _ _ (by omega)]; decide)]
      simp [h1, h2]
    · rw [isNm_long _ (by rw [str_size]; omega)]; simp; omega
  · rw [isNm_short _ (by rw [str_size]; omega)]; simp; omega
theorem fname (m : Nat) (c : UInt8) (h1 : 1 ≤ m) (h2 : m ≤ 24) : isNm (str (fun i => if i = 0 then c else 122) m) = loB (c.toNat : Int) := by
  cases hl : loB (c.toNat : Int)
  · exact isNm_no _ 0 (by rw [str_size]; omega) (by rw [nmAt_zero _ (by rw [str_size]; omega), str_at _ _ _ (by omega), if_pos rfl, hl])
  · exact isNm_yes _ (by rw [str_size]; omega) (by rw [str_size]; omega) (fun i hi => by
        rw [str_size] at hi
        by_cases e : i = 0
        · subst e; rw [nmAt_zero _ (by rw [str_size]; omega), str_at _ _ _ (by omega), if_pos rfl, hl]
        · rw [nmAt_pos _ i (by rw [str_size]; omega) (by omega), str_at _ _ _ (by omega), if_neg e]; decide)
end Go.Proofs.Ytofnloapcfhmkaa
