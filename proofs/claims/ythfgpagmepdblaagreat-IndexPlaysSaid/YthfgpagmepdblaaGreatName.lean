/- Contracts of IsName and of the reference's IsName. -/
import Derived.Test.YthfgpagmepdblaaGreatLeaf
import Derived.LoopTactic
import Derived.Outline
namespace Go.Proofs.YthfgpagmepdblaaGreat
open Go.ChangeShapes Go.WideShapes Go.ChangeAt Go.RowKit
open Go.ChangeMaps (open_string shut_string)
set_option linter.unusedVariables false

theorem byte_le (c : UInt8) : (c.toNat : Int) ≤ 255 := by have := c.toNat_lt; omega
theorem nm_step {s : ByteArray} {k : Nat} (h : Hid (∀ j, j < k → nmAt s j = true)) (hk : nmAt s k = true) {j : Nat} (hj : j < k + 1) : nmAt s j = true := by
  by_cases e : j = k
  · rw [e]; exact hk
  · exact h.out j (by omega)
theorem nm_one {s : ByteArray} (hk : nmAt s 0 = true) {j : Nat} (hj : j < 1) : nmAt s j = true := by
  obtain rfl : j = 0 := by omega
  exact hk
end Go.Proofs.YthfgpagmepdblaaGreat
