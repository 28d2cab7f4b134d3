/- The contract of the fixed example. -/
import Derived.Test.YtofnloapcfhmkaaLow
import Derived.Test.YtofnloapcfhmkaaName
namespace Go.Proofs.Ytofnloapcfhmkaa
open Go.ChangeShapes Go.WideShapes Go.ChangeAt Go.RowKit
open Go.ChangeMaps (open_string shut_string)
set_option linter.unusedVariables false

theorem known_of1 (w : World) : Calls Try.prog 12 #[.int .u8 45] w fun e w' => e = .returned (.int .i64 5) ∧ w = w' := of_any 45 w (by omega) (by omega)
theorem known_of2 (w : World) : Calls Try.prog 12 #[.int .u8 200] w fun e w' => e = .returned (.int .i64 4) ∧ w = w' := of_any 200 w (by omega) (by omega)
theorem known_low (w : World) : Calls Try.prog 11 #[.string ⟨#[65, 98]⟩] w fun e w' => e = .returned (.string ⟨#[97, 98]⟩) ∧ Below w.heap.size w w' :=
  (lower_any ⟨#[65, 98]⟩ w (by decide)).mono fun e w' ⟨he, hw⟩ => ⟨by rw [he, show low ⟨#[65, 98]⟩ = ⟨#[97, 98]⟩ from by decide +kernel], hw⟩
theorem known_name (w : World) : Calls Try.prog 16 #[.string ⟨#[104, 45, 49]⟩] w fun e w' => e = .returned (.bool true) ∧ w = w' :=
  (isname_any ⟨#[104, 45, 49]⟩ w (by decide)).mono fun e w' ⟨he, hw⟩ => ⟨by rw [he]; exact ret_bool (by decide), hw⟩
theorem known_any (w : World) : Calls Try.prog 14 #[] w fun e w' => e = .returned (.bool true) ∧ Below w.heap.size w w' := by
  go_enter Try.func14, Try.ntmps14
  go_wp2_with fail
  refine (known_of1 _).mono ?_; rintro e w' ⟨rfl, rfl⟩
  go_wp2_with fail
  refine (known_of2 _).mono ?_; rintro e w' ⟨rfl, rfl⟩
  go_wp2_with fail
  refine (known_low _).mono ?_; rintro e w1 ⟨rfl, hb⟩
  go_wp2_with fail
  refine (known_name _).mono ?_; rintro e w' ⟨rfl, rfl⟩
  go_wp2_with fail
  go_ret
  exact ⟨rfl, hb⟩

/-- What a call leaves alone, and a further call: together. -/
theorem BelowOn {w a b : World} (h : Below w.heap.size w a) (k : Below a.heap.size a b) : Below w.heap.size w b := h.trans (k.mono h.size)

/-- The string of one byte, out of a slice literal. -/
def one (n : Int) : ByteArray := ⟨#[UInt8.ofNat n.toNat]⟩
theorem one_size (n : Int) : (one n).size = 1 := rfl
theorem one_at (n : Int) (h0 : 0 ≤ n) (h1 : n ≤ 255) : ((one n)[0]'(by rw [one_size]; omega)).toNat = n.toNat := by
  show (UInt8.ofNat n.toNat).toNat = _
  rw [UInt8.toNat_ofNat']; omega
theorem conv_one (w : World) (n : Int) (h0 : 0 ≤ n) (h1 : n ≤ 255) :
    (convert 23 9 (.slice (some ⟨w.heap.size, 0, none⟩) 1 1)).run Try.prog (w.alloc (.cells #[.int .u8 n] 5)) = .ok (.string (one n)) (w.alloc (.cells #[.int .u8 n] 5)) := by
  have h := Lib.run_convert_whole (P := Try.prog) (w.alloc (.cells #[.int .u8 n] 5)) 23 5 9 Try.underlying23 Try.underlying5 Try.underlying9 w.heap.size 0 (one n) (fun i hi => by
    obtain rfl : i = 0 := by rw [one_size] at hi; omega
    rw [Nat.add_zero, World.cell?_alloc_mark, one_at n h0 h1]
    simp; omega) 1
  rwa [one_size] at h
theorem low_one (n : Int) (h0 : 0 ≤ n) (h1 : n ≤ 255) : ∃ t : ByteArray, low (one n) = t ∧ t.size = 1 ∧ ∃ h : 0 < t.size, ((t[0]'h).toNat : Int) = if 65 ≤ n ∧ n ≤ 90 then n + 32 else n := by
  refine ⟨low (one n), rfl, by rw [low_size, one_size], by rw [low_size, one_size]; omega, ?_⟩
  rw [low_at (one n) 0 (by rw [one_size]; omega), lowU_toNat, one_at n h0 h1]
  by_cases h : 65 ≤ n ∧ n ≤ 90
  · rw [if_pos (by omega), if_pos h]; omega
  · rw [if_neg (by omega), if_neg h]; omega
theorem cls_lower (n : Int) (h : 65 ≤ n) (h' : n ≤ 90) : cls (n + 32) = cls n := by
  unfold cls
  rw [if_neg (by omega), if_neg (by omega), if_neg (by omega), if_pos (by omega), if_neg (by omega), if_neg (by omega), if_neg (by omega), if_pos (by omega)]
end Go.Proofs.Ytofnloapcfhmkaa
