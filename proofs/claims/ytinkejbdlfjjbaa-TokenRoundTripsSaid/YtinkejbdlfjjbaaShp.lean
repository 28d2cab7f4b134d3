/- Shape. -/
import Derived.Test.YtinkejbdlfjjbaaTwo
import Derived.Test.YtinkejbdlfjjbaaRnr
import Derived.Test.YtinkejbdlfjjbaaSam
namespace Go.Proofs.Ytinkejbdlfjjbaa
open Go.ChangeShapes Go.WideShapes Go.ChangeAt Go.RowKit
set_option linter.unusedVariables false
set_option maxRecDepth 100000

theorem int_last (o : List Int) (h : 0 < o.length) : ∃ L y, o = L ++ [y] ∧ o.getLast? = some y := by
  have hne : o ≠ [] := by intro e; rw [e] at h; cases h
  exact ⟨o.dropLast, o.getLast hne, (List.dropLast_concat_getLast hne).symm, List.getLast?_eq_some_getLast hne⟩
/-- A slice of numbers that is not empty, as it lies. -/
theorem OwnN.at {base : Nat} {L : List Int} {v : Value} {w : World} (h : OwnN base L v w) (h0 : 0 < L.length) : ∃ g cap, v = .slice (some ⟨g, 0, none⟩) L.length cap ∧ L.length ≤ cap ∧ cap ≤ maxLen ∧ ∀ i (hi : i < L.length), w.cell? ⟨g, i, none⟩ = some (.int .i64 (L[i]'hi)) := by
  obtain ⟨p, c, hv, h1, h2, hI⟩ := h.ints
  rcases h.2 with ⟨_, hz⟩ | ⟨g, cap, cur, hv2, _⟩
  · omega
  · rw [hv] at hv2
    injection hv2 with e1 e2 e3
    subst e1; subst e3
    refine ⟨g, c, hv, h1, h2, fun i hi => ?_⟩
    obtain ⟨a, e, _, hc⟩ := hI h0
    cases e
    have := hc i hi
    rwa [show (⟨g, 0, none⟩ : Addr).add i = ⟨g, i, none⟩ by unfold Addr.add; split <;> simp_all] at this
theorem OwnN.form {base : Nat} {L : List Int} {v : Value} {w : World} (h : OwnN base L v w) : ∃ p cap, v = .slice p L.length cap := by
  obtain ⟨p, c, hv, _⟩ := h.ints; exact ⟨p, c, hv⟩

end Go.Proofs.Ytinkejbdlfjjbaa
