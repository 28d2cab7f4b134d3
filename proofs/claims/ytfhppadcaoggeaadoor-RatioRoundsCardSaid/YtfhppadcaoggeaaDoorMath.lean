/- Plain mathematics of package ratio: a ratio is a rational number; nothing of the program. -/
import Derived.WalkKit
namespace Go.Proofs.YtfhppadcaoggeaaDoor

/-- Is a rational number within the limits? And what a call hands back of it: its numbers, or none. -/
def fits (q : Rat) : Bool := decide (-1073741824 ≤ q.num ∧ q.num ≤ 1073741824 ∧ (q.den : Int) ≤ 1073741824)
def qN (q : Rat) : Int := if fits q then q.num else 0
def qD (q : Rat) : Int := if fits q then (q.den : Int) else 0
/-- Are two numbers within the limits? Are they a valid ratio? -/
def holdB (n d : Int) : Bool := decide (-1073741824 ≤ n ∧ n ≤ 1073741824 ∧ 1 ≤ d ∧ d ≤ 1073741824)
def valB (n d : Int) : Bool := decide (-1073741824 ≤ n ∧ n ≤ 1073741824 ∧ 1 ≤ d ∧ d ≤ 1073741824 ∧ Int.gcd n d = 1)
/-- Does Make take the numbers? -/
def mkB (n d : Int) : Bool := decide (d ≠ 0 ∧ -2147483648 ≤ n ∧ n ≤ 2147483648 ∧ -2147483648 ≤ d ∧ d ≤ 2147483648)

theorem valB_hold {n d : Int} (h : valB n d = true) : -1073741824 ≤ n ∧ n ≤ 1073741824 ∧ 1 ≤ d ∧ d ≤ 1073741824 ∧ Int.gcd n d = 1 := by
  unfold valB at h; exact of_decide_eq_true h
theorem mkB_hold {n d : Int} (h : mkB n d = true) : d ≠ 0 ∧ -2147483648 ≤ n ∧ n ≤ 2147483648 ∧ -2147483648 ≤ d ∧ d ≤ 2147483648 := by
  unfold mkB at h; exact of_decide_eq_true h

/-- A valid ratio's numbers are those of its rational number. -/
theorem val_num {n d : Int} (h : valB n d = true) : (Rat.divInt n d).num = n := by
  obtain ⟨_, _, h3, _, h5⟩ := valB_hold h
  rw [Rat.num_divInt, Int.sign_eq_one_of_pos (by omega), Int.gcd_comm, h5]; simp
theorem val_den {n d : Int} (h : valB n d = true) : ((Rat.divInt n d).den : Int) = d := by
  obtain ⟨_, _, h3, _, h5⟩ := valB_hold h
  rw [Rat.den_divInt, if_neg (by omega), Int.gcd_comm, h5]; simp; omega
theorem fits_val (q : Rat) (h : fits q = true) : valB q.num q.den = true := by
  unfold fits at h; unfold valB
  have h := of_decide_eq_true h
  have h1 := q.den_pos
  have h2 := q.reduced
  refine decide_eq_true ⟨by omega, by omega, by omega, by omega, ?_⟩
  rw [Int.gcd_eq_natAbs_gcd_natAbs]; exact h2
theorem val_fits {n d : Int} (h : valB n d = true) : fits (Rat.divInt n d) = true := by
  unfold fits; rw [val_num h, val_den h]; obtain ⟨_, _, h3, _, h5⟩ := valB_hold h
  exact decide_eq_true ⟨by omega, by omega, by omega⟩
theorem qN_val {n d : Int} (h : valB n d = true) : qN (Rat.divInt n d) = n := by unfold qN; rw [if_pos (val_fits h), val_num h]
theorem qD_val {n d : Int} (h : valB n d = true) : qD (Rat.divInt n d) = d := by unfold qD; rw [if_pos (val_fits h), val_den h]
theorem q_val (q : Rat) (h : fits q = true) : valB (qN q) (qD q) = true := by
  unfold qN qD; rw [if_pos h, if_pos h]; exact fits_val q h
theorem q_div (q : Rat) (h : fits q = true) : Rat.divInt (qN q) (qD q) = q := by
  unfold qN qD; rw [if_pos h, if_pos h]; exact Rat.num_divInt_den q
theorem qN_bd (q : Rat) : -1073741824 ≤ qN q ∧ qN q ≤ 1073741824 := by
  unfold qN
  by_cases h : fits q = true
  · rw [if_pos h]; unfold fits at h; have := of_decide_eq_true h; omega
  · rw [if_neg h]; omega
theorem qD_bd (q : Rat) : 0 ≤ qD q ∧ qD q ≤ 1073741824 := by
  unfold qD
  by_cases h : fits q = true
  · rw [if_pos h]; unfold fits at h; have := of_decide_eq_true h; omega
  · rw [if_neg h]; omega
theorem qN_no {q : Rat} (h : fits q = false) : qN q = 0 := by unfold qN; rw [h]; rfl
theorem qD_no {q : Rat} (h : fits q = false) : qD q = 0 := by unfold qD; rw [h]; rfl
theorem valB_zero : valB 0 0 = false := by decide

/-- One step of the Euclidean algorithm. -/
theorem gcd_step (a b : Int) (ha : 0 ≤ a) (hb : 0 < b) : Int.gcd b (a % b) = Int.gcd a b := by
  obtain ⟨x, rfl⟩ := Int.eq_ofNat_of_zero_le ha
  obtain ⟨y, rfl⟩ := Int.eq_ofNat_of_zero_le (by omega : 0 ≤ b)
  rw [show ((x : Int) % (y : Int)) = ((x % y : Nat) : Int) from rfl, Int.gcd_natCast_natCast, Int.gcd_natCast_natCast, Nat.gcd_comm x y, Nat.gcd_rec y x, Nat.gcd_comm]
theorem gcd_abs (n d : Int) : Int.gcd (n.natAbs : Int) d = Int.gcd n d := by
  simp [Int.gcd_eq_natAbs_gcd_natAbs]
theorem gcd_pos (n d : Int) (hd : 0 < d) : 1 ≤ (Int.gcd n d : Int) := by
  have := Int.gcd_pos_of_ne_zero_right n (show d ≠ 0 by omega); omega
theorem gcd_le (n d : Int) (hd : 0 < d) : (Int.gcd n d : Int) ≤ d := Int.le_of_dvd hd (Int.gcd_dvd_right n d)

/-- What the divisions by the greatest common divisor give. -/
theorem div_num (n d : Int) (hd : 0 < d) : n.tdiv (Int.gcd n d : Int) = (Rat.divInt n d).num := by
  rw [Rat.num_divInt, Int.sign_eq_one_of_pos hd, Int.one_mul, Int.gcd_comm d n, Int.tdiv_eq_ediv_of_dvd (Int.gcd_dvd_left n d)]
theorem div_den (n d : Int) (hd : 0 < d) : d / (Int.gcd n d : Int) = ((Rat.divInt n d).den : Int) := by
  rw [Rat.den_divInt, if_neg (by omega), Int.gcd_comm d n]
  simp; rw [Int.natAbs_of_nonneg (by omega)]
/-- The numbers of a reduced ratio are no greater than those that were reduced. -/
theorem num_le (n d : Int) (hd : 0 < d) : (Rat.divInt n d).num.natAbs ≤ n.natAbs := by
  rw [← div_num n d hd]
  rw [Int.natAbs_tdiv]; exact Nat.div_le_self _ _
theorem den_le (n d : Int) (hd : 0 < d) : ((Rat.divInt n d).den : Int) ≤ d := by
  rw [← div_den n d hd]
  exact Int.ediv_le_self _ (by omega)
theorem holdB_fits (q : Rat) : holdB q.num q.den = fits q := by
  unfold holdB fits
  have := q.den_pos
  rw [Bool.eq_iff_iff]; simp; omega

/-- What a call hands back that may have no ratio to hand back. -/
def oN : Option Rat → Int
  | some q => qN q
  | none => 0
def oD : Option Rat → Int
  | some q => qD q
  | none => 0
def oB : Option Rat → Bool
  | some q => fits q
  | none => false
def makeQ (n d : Int) : Option Rat := if mkB n d = true then some (Rat.divInt n d) else none
def addQ (n d m c : Int) : Option Rat := if valB n d = true ∧ valB m c = true then some (Rat.divInt n d + Rat.divInt m c) else none
def subQ (n d m c : Int) : Option Rat := if valB n d = true ∧ valB m c = true then some (Rat.divInt n d - Rat.divInt m c) else none
def mulQ (n d m c : Int) : Option Rat := if valB n d = true ∧ valB m c = true then some (Rat.divInt n d * Rat.divInt m c) else none
theorem add_div (n d m c : Int) (hd : d ≠ 0) (hc : c ≠ 0) : Rat.divInt (n * c + m * d) (d * c) = Rat.divInt n d + Rat.divInt m c := (Rat.divInt_add_divInt n m hd hc).symm
theorem sub_div (n d m c : Int) (hd : d ≠ 0) (hc : c ≠ 0) : Rat.divInt (n * c - m * d) (d * c) = Rat.divInt n d - Rat.divInt m c := (Rat.divInt_sub_divInt n m hd hc).symm
theorem mul_div (n d m c : Int) : Rat.divInt (n * m) (d * c) = Rat.divInt n d * Rat.divInt m c := (Rat.divInt_mul_divInt n m).symm
/-- The order of two ratios as -1, 0 or 1. -/
def cmpI (x y : Int) : Int := if x < y then -1 else if y < x then 1 else 0
def cmpQ (n d m c : Int) : Int := if valB n d = true ∧ valB m c = true then cmpI (n * c) (m * d) else 0
/-- The product of two numbers within bounds is within theirs. -/
theorem mul_bd (x y a b : Int) (hx : -a ≤ x) (hx' : x ≤ a) (hy : -b ≤ y) (hy' : y ≤ b) : -(a * b) ≤ x * y ∧ x * y ≤ a * b := by
  have h : (x * y).natAbs ≤ a.natAbs * b.natAbs := by
    rw [Int.natAbs_mul]; exact Nat.mul_le_mul (by omega) (by omega)
  have h2 : ((a.natAbs * b.natAbs : Nat) : Int) = a * b := by
    rw [Int.natCast_mul, Int.natAbs_of_nonneg (by omega), Int.natAbs_of_nonneg (by omega)]
  omega
theorem mul_p (x y a b : Int) (hx : 1 ≤ x) (hx' : x ≤ a) (hy : 1 ≤ y) (hy' : y ≤ b) : 1 ≤ x * y ∧ x * y ≤ a * b := by
  have h1 : (0 : Int) < x * y := Int.mul_pos (by omega) (by omega)
  have := mul_bd x y a b (by omega) hx' (by omega) hy'
  omega
theorem bd30 (x y : Int) (hx : -1073741824 ≤ x) (hx' : x ≤ 1073741824) (hy : -1073741824 ≤ y) (hy' : y ≤ 1073741824) : -1152921504606846976 ≤ x * y ∧ x * y ≤ 1152921504606846976 := by
  have := mul_bd x y 1073741824 1073741824 (by omega) hx' (by omega) hy'; omega
theorem pos30 (x y : Int) (hx : 1 ≤ x) (hx' : x ≤ 1073741824) (hy : 1 ≤ y) (hy' : y ≤ 1073741824) : 1 ≤ x * y ∧ x * y ≤ 1152921504606846976 := by
  have := mul_p x y 1073741824 1073741824 (by omega) hx' (by omega) hy'; omega

theorem valB_neg (m c : Int) : valB (-m) c = valB m c := by
  unfold valB; rw [Int.neg_gcd, Bool.eq_iff_iff]; simp; omega
theorem addQ_neg (n d m c : Int) : addQ n d (-m) c = subQ n d m c := by
  unfold addQ subQ; rw [valB_neg, ← Rat.neg_divInt, Rat.sub_eq_add_neg]
theorem addQ_least (n d c : Int) : addQ n d (-9223372036854775808) c = none := by
  unfold addQ; rw [if_neg]; intro h; have := valB_hold h.2; omega
theorem subQ_least (n d c : Int) : subQ n d (-9223372036854775808) c = none := by
  unfold subQ; rw [if_neg]; intro h; have := valB_hold h.2; omega
theorem cmpI_cases (x y : Int) : (x < y ∧ cmpI x y = -1) ∨ (y < x ∧ cmpI x y = 1) ∨ (x = y ∧ cmpI x y = 0) := by
  unfold cmpI
  rcases Int.lt_trichotomy x y with h | h | h
  · exact .inl ⟨h, by rw [if_pos h]⟩
  · exact .inr (.inr ⟨h, by rw [if_neg (by omega), if_neg (by omega)]⟩)
  · exact .inr (.inl ⟨h, by rw [if_neg (by omega), if_pos h]⟩)
/-- What Floor gives: the numbers and whether there is one. -/
def flB (n d s : Int) : Bool := decide (valB n d = true ∧ -1073741824 ≤ s ∧ s ≤ 1073741824)
def flN (n d s : Int) : Int := if flB n d s = true then n * s / d else 0
end Go.Proofs.YtfhppadcaoggeaaDoor
