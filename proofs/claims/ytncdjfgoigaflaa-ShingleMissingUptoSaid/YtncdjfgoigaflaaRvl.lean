/- The contracts of both Validates at any items. -/
import Derived.Test.YtncdjfgoigaflaaChk2
namespace Go.Proofs.Ytncdjfgoigaflaa
open Go.ChangeShapes Go.WideShapes Go.ChangeAt Go.RowKit
set_option linter.unusedVariables false
set_option maxRecDepth 100000

theorem Its.take {W : World} {p : Option Addr} {l : List It} (h : Its W p l) (k : Nat) : Its W p (l.take k) := fun h0 => by
  obtain ⟨a, hp, hlt, hc⟩ := h (by simp at h0; omega)
  refine ⟨a, hp, hlt, fun i hi => ?_⟩
  have hi' : i < l.length := by simp at hi; omega
  simpa using hc i hi'
theorem Oks.take {l : List It} (h : Oks l) (k : Nat) : Oks (l.take k) := fun i hi => by
  have hi' : i < l.length := by simp at hi; omega
  simpa using h i hi'
theorem wid_le (x : It) (h : x.ok) : wid x ≤ 140737488355328 := by unfold wid; have := h.t; split <;> omega
theorem lenI_le (l : List It) (h : Oks l) : lenI l ≤ l.length * 140737488355328 := by
  have : ∀ k, k ≤ l.length → lenI (l.take k) ≤ k * 140737488355328 := by
    intro k
    induction k with
    | zero => intro _; simp [lenI]
    | succ j ih =>
      intro hj
      rw [lenI_next l j (by omega)]
      have := ih (by omega)
      have := wid_le _ (h j (by omega))
      omega
  have := this l.length (Nat.le_refl _)
  rwa [List.take_length] at this

end Go.Proofs.Ytncdjfgoigaflaa
