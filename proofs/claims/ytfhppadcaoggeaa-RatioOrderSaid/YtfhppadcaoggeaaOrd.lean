/- The order of ratios, as Compare gives it. -/
import Derived.Test.YtfhppadcaoggeaaKit
namespace Go.Proofs.Ytfhppadcaoggeaa
open Go.ChangeShapes Go.WideShapes Go.ChangeAt Go.RowKit
set_option linter.unusedVariables false

theorem cmp_lt (q p : Rat) (hq : fits q = true) (hp : fits p = true) (h : q < p) (w : World) :
    Calls Try.prog 19 #[.agg #[.int .i64 q.num, .int .i64 (q.den : Int)], .agg #[.int .i64 p.num, .int .i64 (p.den : Int)]] w fun e w' => e = .returned (.int .i64 (-1)) ∧ Below w.heap.size w w' :=
  (cmp_got q p w hq hp).mono fun e w' ⟨he, hb⟩ => ⟨by rw [he]; unfold cmpI; rw [if_pos ((Rat.lt_iff q p).1 h)], hb⟩
theorem cmp_gt (q p : Rat) (hq : fits q = true) (hp : fits p = true) (h : p < q) (w : World) :
    Calls Try.prog 19 #[.agg #[.int .i64 q.num, .int .i64 (q.den : Int)], .agg #[.int .i64 p.num, .int .i64 (p.den : Int)]] w fun e w' => e = .returned (.int .i64 1) ∧ Below w.heap.size w w' :=
  (cmp_got q p w hq hp).mono fun e w' ⟨he, hb⟩ => ⟨by
    have := (Rat.lt_iff p q).1 h
    rw [he]; unfold cmpI; rw [if_neg (by omega), if_pos this], hb⟩
theorem cmp_eq (q : Rat) (hq : fits q = true) (w : World) :
    Calls Try.prog 19 #[.agg #[.int .i64 q.num, .int .i64 (q.den : Int)], .agg #[.int .i64 q.num, .int .i64 (q.den : Int)]] w fun e w' => e = .returned (.int .i64 0) ∧ Below w.heap.size w w' :=
  (cmp_got q q w hq hq).mono fun e w' ⟨he, hb⟩ => ⟨by rw [he]; unfold cmpI; rw [if_neg (by omega), if_neg (by omega)], hb⟩
/-- One of three. -/
theorem rat_tri (q p : Rat) : q < p ∨ q = p ∨ p < q := by
  by_cases h : q < p
  · exact .inl h
  · rcases Rat.le_iff_lt_or_eq.1 (Rat.not_lt.1 h) with k | k
    · exact .inr (.inr k)
    · exact .inr (.inl k.symm)
theorem ne_two {q p : Rat} (h : q ≠ p) : ¬ q.num = p.num ∨ (p.num = q.num ∧ ¬ (q.den : Int) = (p.den : Int)) := by
  by_cases hn : q.num = p.num
  · exact .inr ⟨hn.symm, fun hd => h (Rat.ext hn (by omega))⟩
  · exact .inl hn
theorem lt_add {q p r : Rat} (h : q < p) : q + r < p + r := Rat.add_lt_add_right.2 h
theorem lt_sub {q p : Rat} (h : q < p) : q - p < 0 := by
  have := (lt_add (r := -p) h)
  rw [Rat.add_neg_cancel, ← Rat.sub_eq_add_neg] at this; exact this
theorem gt_sub {q p : Rat} (h : p < q) : 0 < q - p := (Rat.lt_iff_sub_pos p q).1 h
theorem lt_trans' {q p r : Rat} (h : q < p) (k : p < r) : q < r := by
  rcases rat_tri q r with a | a | a
  · exact a
  · subst a; exact absurd (Rat.le_of_lt k) (Rat.not_le.2 h)
  · exact absurd (Rat.le_trans (Rat.le_of_lt k) (Rat.le_of_lt a)) (Rat.not_le.2 h)
end Go.Proofs.Ytfhppadcaoggeaa
