/- Tags of a fragment. -/
import Derived.Test.YtncdjfgoigaflaaNrw
import Derived.Test.YtncdjfgoigaflaaRnr
import Derived.Test.YtncdjfgoigaflaaArg
namespace Go.Proofs.Ytncdjfgoigaflaa
open Go.ChangeShapes Go.WideShapes Go.ChangeAt Go.RowKit
set_option linter.unusedVariables false
set_option maxRecDepth 100000

def tagsL (l : List It) : List It := l.filter fun x => isT x.k
theorem tags_next (l : List It) (k : Nat) (h : k < l.length) : tagsL (l.take (k + 1)) = tagsL (l.take k) ++ (if isT (l[k]'h).k = true then [l[k]'h] else []) := by
  rw [List.take_succ_eq_append_getElem h]; unfold tagsL; rw [List.filter_append]
  congr 1
  cases hh : isT (l[k]'h).k <;> simp [hh]
theorem tags_len (l : List It) : (tagsL l).length ≤ l.length := List.length_filter_le _ _
theorem txt_filter (p : It → Bool) (l : List It) : txtI (l.filter p) ≤ txtI l := by
  induction l with
  | nil => exact Nat.le_refl _
  | cons x t ih =>
    rw [List.filter_cons]
    have e : txtI (x :: t) = x.t.size + txtI t := rfl
    split
    · have e2 : txtI (x :: t.filter p) = x.t.size + txtI (t.filter p) := rfl
      omega
    · omega

end Go.Proofs.Ytncdjfgoigaflaa
