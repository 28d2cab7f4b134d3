/- Contracts of Same, and of the reference's Same. -/
import Derived.Test.YthfgpagmepdblaaGreatSli
import Derived.Test.YthfgpagmepdblaaGreatConM
import Derived.BigQuiet
import Derived.Deep.QuietTactic
namespace Go.Proofs.YthfgpagmepdblaaGreat
open Go.ChangeShapes Go.WideShapes Go.ChangeAt Go.RowKit
set_option linter.unusedVariables false
set_option maxRecDepth 100000

instance : DecidableEq It := fun a b => decidable_of_iff (a.k = b.k ∧ a.t = b.t ∧ a.id = b.id) ⟨fun h => It.ext' h.1 h.2.1 h.2.2, fun h => by rw [h]; exact ⟨rfl, rfl, rfl⟩⟩
theorem bdrN {b : Nat} {w w' : World} (h : Below b w w') (n : Nat) : Below b w (w'.drewN n) := ⟨h.os, h.tape, h.output, h.size, h.block⟩
theorem ne_at {l m : List It} (k : Nat) (hl : k < l.length) (hm : k < m.length) (h : l[k] ≠ m[k]) : l ≠ m := fun e => by subst e; exact h rfl
theorem eq_at {l m : List It} (hlen : l.length = m.length) (h : ∀ j (hl : j < l.length) (hm : j < m.length), l[j] = m[j]) : l = m := List.ext_getElem hlen h

end Go.Proofs.YthfgpagmepdblaaGreat
