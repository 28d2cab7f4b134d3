/- Sums of ratios: plain mathematics. -/
import Derived.Test.YtfhppadcaoggeaaMath
namespace Go.Proofs.Ytfhppadcaoggeaa

/-- One step of Sum, and the sum of a list. -/
def stepS (o : Option Rat) (x : Int × Int) : Option Rat :=
  match o with
  | some q => if valB x.1 x.2 = true ∧ fits (q + Rat.divInt x.1 x.2) = true then some (q + Rat.divInt x.1 x.2) else none
  | none => none
def sumS (l : List (Int × Int)) : Option Rat := l.foldl stepS (some 0)
theorem sumS_snoc (l : List (Int × Int)) (x : Int × Int) : sumS (l ++ [x]) = stepS (sumS l) x := by
  unfold sumS; rw [List.foldl_append]; rfl
theorem fold_none (l : List (Int × Int)) : l.foldl stepS none = none := by
  induction l with
  | nil => rfl
  | cons x t ih => exact ih
theorem sumS_fits (l : List (Int × Int)) (q : Rat) (h : sumS l = some q) : fits q = true := by
  have H : ∀ (l : List (Int × Int)) (o : Option Rat), (∀ p, o = some p → fits p = true) → ∀ q, l.foldl stepS o = some q → fits q = true := by
    intro l
    induction l with
    | nil => intro o ho q hq; exact ho q hq
    | cons x t ih =>
      intro o ho q hq
      refine ih (stepS o x) ?_ q hq
      intro p hp
      unfold stepS at hp
      split at hp
      · split at hp
        · rename_i hh; injection hp with e; rw [← e]; exact hh.2
        · cases hp
      · cases hp
  exact H l (some 0) (by intro p hp; injection hp with e; rw [← e]; decide) q h
/-- A sum that has failed on the way has failed. -/
theorem sumS_fail (l : List (Int × Int)) (k : Nat) (h : sumS (l.take k) = none) : sumS l = none := by
  have e : l = l.take k ++ l.drop k := (List.take_append_drop k l).symm
  unfold sumS at h ⊢
  rw [e, List.foldl_append, h, fold_none]
/-- A list with a ratio that is not valid has no sum. -/
theorem sumS_invalid (l : List (Int × Int)) (k : Nat) (hk : k < l.length) (h : valB l[k].1 l[k].2 = false) : sumS l = none := by
  apply sumS_fail l (k + 1)
  rw [List.take_succ_eq_append_getElem hk, sumS_snoc]
  unfold stepS
  split
  · rw [if_neg (by rw [h]; simp)]
  · rfl
end Go.Proofs.Ytfhppadcaoggeaa
