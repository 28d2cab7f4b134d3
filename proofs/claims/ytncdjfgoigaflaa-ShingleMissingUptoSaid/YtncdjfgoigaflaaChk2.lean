/- The contract of the reference's Check at every kind, and of its Validate. -/
import Derived.Test.YtncdjfgoigaflaaChk
namespace Go.Proofs.Ytncdjfgoigaflaa
open Go.ChangeShapes Go.WideShapes Go.ChangeAt Go.RowKit
set_option linter.unusedVariables false
set_option linter.unusedSimpArgs false
set_option maxRecDepth 100000

theorem lastText_at (P : List It) (h : 0 < P.length) : lastText P = decide ((P[P.length - 1]'(by omega)).k = 1) := by
  unfold lastText
  rw [List.getLast?_eq_getElem?, List.getElem?_eq_getElem (by omega)]
theorem errAt_1 (P : List It) (x : It) (h : x.k = 1) : errAt P x = if x.t.size = 0 ∨ x.id ≠ 0 ∨ lastText P = true then 1 else 0 := by
  have ht : isT x.k = false := by rw [h]; rfl
  have hp : properB x = (decide (x.t.size ≠ 0) && decide (x.id = 0)) := by unfold properB; rw [if_pos h]
  unfold errAt
  rw [hp]
  by_cases h1 : x.t.size = 0 <;> by_cases h2 : x.id = 0 <;> by_cases h3 : lastText P = true <;> simp [h, h1, h2, h3, ht]
  all_goals (rw [show isT 1 = false from rfl]; simp)
theorem errAt_5 (P : List It) (x : It) (h : x.k = 5) : errAt P x = if (isNm x.t && decide (x.id = 0)) = false then 1 else 0 := by
  have ht : isT x.k = false := by rw [h]; rfl
  have hp : properB x = (isNm x.t && decide (x.id = 0)) := by unfold properB; rw [if_neg (by omega), if_neg (by omega), if_neg (by omega), if_pos h]
  unfold errAt
  rw [hp, ht]
  cases hb : (isNm x.t && decide (x.id = 0))
  · rw [if_pos (.inl rfl)]; rfl
  · rw [if_neg (by rintro (h' | h'); cases h'; omega), if_neg (by simp)]; rfl
theorem errAt_T (P : List It) (x : It) (b : Bool) (h : isT x.k = true) (hp : properB x = b) : errAt P x = chkE b P x := by
  have h1 : x.k ≠ 1 := by intro e; rw [e] at h; cases h
  unfold errAt chkE
  rw [hp, h]
  cases b
  · rw [if_pos (.inl rfl), if_pos rfl]
  · by_cases hb : tagBad P x = true <;> simp [h1, hb]
theorem errAt_0 (P : List It) (x : It) (h1 : x.k ≠ 1) (h2 : x.k ≠ 2) (h3 : x.k ≠ 3) (h4 : x.k ≠ 4) (h5 : x.k ≠ 5) : errAt P x = 1 := by
  have hp : properB x = false := by unfold properB; rw [if_neg h1, if_neg (by omega), if_neg h3, if_neg h5]
  unfold errAt
  rw [if_pos (.inl hp)]

end Go.Proofs.Ytncdjfgoigaflaa
