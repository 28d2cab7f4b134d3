/- Contracts of class.Of, of what fits a token, of joints and of runs. -/
import Derived.Test.YtpkipdiecnokhaaTkm
import Derived.Test.YtpkipdiecnokhaaLeaf
import Derived.Test.YtpkipdiecnokhaaShelf0
import Derived.LoopTactic
import Derived.Outline
namespace Go.Proofs.Ytpkipdiecnokhaa
open Go.ChangeShapes Go.WideShapes Go.ChangeAt Go.RowKit
set_option linter.unusedVariables false
set_option linter.unusedSimpArgs false
set_option maxRecDepth 100000

theorem byteU_le (b : UInt8) : (b.toNat : Int) ≤ 255 := by have := b.toNat_lt; omega
theorem rof_any (n : Int) (w : World) (h0 : 0 ≤ n) (h1 : n ≤ 255) :
    Calls Try.prog 81 #[.int .u8 n] w fun e w' => e = .returned (.int .i64 (cls n)) ∧ w = w' := by
  go_enter Try.func81, Try.ntmps81
  go_wp2
  all_goals go_ret
  all_goals refine ⟨ret_int ?_, rfl⟩
  all_goals (unfold cls; simp_all; try omega)
theorem drop_cons (s : ByteArray) (k : Nat) (h : k < s.size) : s.data.toList.drop k = s[k] :: s.data.toList.drop (k + 1) := by
  rw [List.drop_eq_getElem_cons (by simpa using h)]; rfl
theorem drop_end (s : ByteArray) (k : Nat) (h : s.size ≤ k) : s.data.toList.drop k = [] := List.drop_eq_nil_iff.2 (by simpa using h)
theorem rest_size (s : ByteArray) (k : Nat) : (s.extract k s.size).size = s.size - k := by rw [ByteArray.size_extract]; omega
theorem rest_list (s : ByteArray) (k : Nat) : (s.extract k s.size).data.toList = s.data.toList.drop k := by
  rw [ByteArray.data_extract, Array.toList_extract, List.extract_eq_take_drop]
  rw [List.take_of_length_le (by simp)]
theorem rest_at (s : ByteArray) (k j : Nat) (h : k + j < s.size) : (s.extract k s.size)[j]'(by rw [rest_size]; omega) = s[k + j] := by
  have e := rest_list s k
  have h1 : (s.extract k s.size).data.toList[j]'(by rw [e]; simp; omega) = (s.data.toList.drop k)[j]'(by simp; omega) := by simp only [e]
  rw [List.getElem_drop] at h1
  exact h1
theorem hd_drop (f : UInt8 → Bool) (s : ByteArray) (k : Nat) (h : k < s.size) : hdF f (s.data.toList.drop k) = f s[k] := by rw [drop_cons s k h]; rfl
theorem hd_end (f : UInt8 → Bool) (s : ByteArray) (k : Nat) (h : s.size ≤ k) : hdF f (s.data.toList.drop k) = false := by rw [drop_end s k h]; rfl

end Go.Proofs.Ytpkipdiecnokhaa
