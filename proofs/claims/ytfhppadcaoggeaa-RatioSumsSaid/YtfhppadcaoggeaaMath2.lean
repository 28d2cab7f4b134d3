/- Division that rounds down: plain mathematics. -/
import Derived.Test.YtfhppadcaoggeaaMath
namespace Go.Proofs.Ytfhppadcaoggeaa

theorem tdiv_bd (p d b : Int) (h : -b ≤ p) (h' : p ≤ b) : -b ≤ p.tdiv d ∧ p.tdiv d ≤ b := by
  have : (p.tdiv d).natAbs = p.natAbs / d.natAbs := Int.natAbs_tdiv p d
  have h2 := Nat.div_le_self p.natAbs d.natAbs
  omega
/-- Go's division, and the one that rounds down. -/
theorem floor_pos (p d : Int) (h : 0 ≤ p) : p.tdiv d = p / d := by rw [Int.tdiv_eq_ediv, if_pos (.inl h)]; omega
theorem floor_exact (p d : Int) (h : p.tmod d = 0) : p.tdiv d = p / d := by
  rw [Int.tdiv_eq_ediv, if_pos (.inr (Int.dvd_of_tmod_eq_zero h))]; omega
theorem floor_neg (p d : Int) (hd : 0 < d) (hp : p < 0) (h : p.tmod d ≠ 0) : p / d = p.tdiv d - 1 := by
  rw [Int.tdiv_eq_ediv, if_neg, Int.sign_eq_one_of_pos hd]
  · omega
  · intro hh
    rcases hh with h1 | h1
    · omega
    · exact h (Int.tmod_eq_zero_of_dvd h1)
theorem tmod_sign (p d : Int) (hp : p < 0) : p.tmod d ≤ 0 := by
  have := Int.tmod_nonneg (a := -p) d (by omega)
  rw [Int.neg_tmod] at this
  omega
theorem tmod_pos (p d : Int) (hp : 0 ≤ p) : 0 ≤ p.tmod d := Int.tmod_nonneg d hp
end Go.Proofs.Ytfhppadcaoggeaa
