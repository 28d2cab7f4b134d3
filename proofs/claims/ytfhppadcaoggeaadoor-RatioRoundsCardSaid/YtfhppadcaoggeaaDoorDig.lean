/- Decimal digits: plain mathematics. -/
import Derived.Test.YtfhppadcaoggeaaDoorMath
import Derived.Lib.ItoaNum
import Derived.Lib.Repeat
namespace Go.Proofs.YtfhppadcaoggeaaDoor
open Go.Lib

/-- The last k digits of n. -/
def pd : Nat → Nat → List UInt8
  | 0, _ => []
  | k + 1, n => pd k (n / 10) ++ [UInt8.ofNat (48 + n % 10)]
def zeros (m : Nat) : List UInt8 := List.replicate m 48
theorem pd_length (k n : Nat) : (pd k n).length = k := by
  induction k generalizing n with
  | zero => rfl
  | succ k ih => show (pd k (n / 10) ++ _).length = _; rw [List.length_append, ih]; rfl
theorem pd_zero (k : Nat) : pd k 0 = zeros k := by
  induction k with
  | zero => rfl
  | succ k ih =>
    show pd k (0 / 10) ++ [UInt8.ofNat (48 + 0 % 10)] = _
    rw [Nat.zero_div, ih]; unfold zeros; rw [List.replicate_succ']; rfl
theorem dec_big {n : Nat} (h : ¬ n < 10) : decDigits n = decDigits (n / 10) ++ [UInt8.ofNat (48 + n % 10)] := by rw [decDigits, dif_neg h]
theorem dec_one {n : Nat} (h : n < 10) : decDigits n = [UInt8.ofNat (48 + n)] := decDigits_one h
theorem dec_pos (n : Nat) : 1 ≤ (decDigits n).length := by rw [decDigits_length]; exact nDigits_pos n
theorem pow_succ10 (k : Nat) : 10 ^ (k + 1) = 10 * 10 ^ k := by rw [Nat.pow_succ, Nat.mul_comm]
/-- The digits of n with zeros ahead, cut before the last k. -/
theorem pad_cut (k : Nat) : ∀ n : Nat, zeros (k + 1 - (decDigits n).length) ++ decDigits n = decDigits (n / 10 ^ k) ++ pd k n := by
  induction k with
  | zero =>
    intro n
    have := dec_pos n
    rw [show 0 + 1 - (decDigits n).length = 0 by omega]
    simp [zeros, pd]
  | succ k ih =>
    intro n
    by_cases h : n < 10
    · rw [dec_one h, pow_succ10, ← Nat.div_div_eq_div_mul, Nat.div_eq_of_lt h, Nat.zero_div, dec_one (by omega)]
      show zeros (k + 1 + 1 - 1) ++ [UInt8.ofNat (48 + n)] = [UInt8.ofNat (48 + 0)] ++ (pd k (n / 10) ++ [UInt8.ofNat (48 + n % 10)])
      rw [Nat.div_eq_of_lt h, pd_zero, Nat.mod_eq_of_lt h, ← List.append_assoc]
      congr 1
    · rw [dec_big h, List.length_append, pow_succ10, ← Nat.div_div_eq_div_mul, ← List.append_assoc]
      show zeros (k + 1 + 1 - ((decDigits (n / 10)).length + 1)) ++ decDigits (n / 10) ++ _ = decDigits (n / 10 / 10 ^ k) ++ (pd k (n / 10) ++ _)
      rw [show k + 1 + 1 - ((decDigits (n / 10)).length + 1) = k + 1 - (decDigits (n / 10)).length by omega, ih, List.append_assoc]
/-- The digits of a number below 10 to the k, with zeros ahead. -/
theorem pad_low (k : Nat) : ∀ n : Nat, n < 10 ^ (k + 1) → zeros (k + 1 - (decDigits n).length) ++ decDigits n = pd (k + 1) n := by
  induction k with
  | zero =>
    intro n h
    have h : n < 10 := by simpa using h
    rw [dec_one h]
    show _ = [] ++ [UInt8.ofNat (48 + n % 10)]
    rw [Nat.mod_eq_of_lt h]; rfl
  | succ k ih =>
    intro n hn
    by_cases h : n < 10
    · rw [dec_one h]
      show zeros (k + 1 + 1 - 1) ++ _ = pd (k + 1) (n / 10) ++ [UInt8.ofNat (48 + n % 10)]
      rw [Nat.div_eq_of_lt h, pd_zero, Nat.mod_eq_of_lt h]; rfl
    · rw [dec_big h, List.length_append, ← List.append_assoc]
      show zeros (k + 1 + 1 - ((decDigits (n / 10)).length + 1)) ++ decDigits (n / 10) ++ _ = pd (k + 1) (n / 10) ++ _
      rw [show k + 1 + 1 - ((decDigits (n / 10)).length + 1) = k + 1 - (decDigits (n / 10)).length by omega, ih (n / 10) (by rw [pow_succ10] at hn; omega)]
theorem pd_mod (k : Nat) : ∀ n : Nat, pd k (n % 10 ^ k) = pd k n := by
  induction k with
  | zero => intro n; rfl
  | succ k ih =>
    intro n
    show pd k (n % 10 ^ (k + 1) / 10) ++ [UInt8.ofNat (48 + n % 10 ^ (k + 1) % 10)] = pd k (n / 10) ++ [UInt8.ofNat (48 + n % 10)]
    have e1 : n % 10 ^ (k + 1) % 10 = n % 10 := Nat.mod_mod_of_dvd n (by rw [pow_succ10]; exact Nat.dvd_mul_right _ _)
    have e2 : n % 10 ^ (k + 1) / 10 = n / 10 % 10 ^ k := by rw [pow_succ10]; exact Nat.mod_mul_right_div_self n 10 (10 ^ k)
    rw [e1, e2, ih]
theorem low_len (k n : Nat) (h : n < 10 ^ (k + 1)) : (decDigits n).length ≤ k + 1 := by
  rw [decDigits_length]
  induction k generalizing n with
  | zero => have h : n < 10 := by simpa using h
            rw [nDigits_small h]; exact Nat.le_refl _
  | succ k ih =>
    by_cases hn : n < 10
    · rw [nDigits_small hn]; omega
    · rw [nDigits_big hn]; have := ih (n / 10) (by rw [pow_succ10] at h; omega); omega

/-- A number in digits with k behind the point. -/
def outS (q k : Nat) : List UInt8 := decDigits (q / 10 ^ k) ++ (if k = 0 then [] else 46 :: pd k q)
/-- A ratio's rounded number, and its text. -/
def rnd (n d : Int) (k : Nat) : Nat := (2 * n.natAbs * 10 ^ k + d.toNat) / (2 * d.toNat)
def fmtL (n d : Int) (k : Nat) : List UInt8 := (if n < 0 ∧ 0 < rnd n d k then [45] else []) ++ outS (rnd n d k) k
def bs (l : List UInt8) : ByteArray := ⟨l.toArray⟩
theorem bs_append (a b : List UInt8) : bs a ++ bs b = bs (a ++ b) := by
  apply ByteArray.ext; unfold bs; rw [ByteArray.data_append]; simp
theorem bs_size (a : List UInt8) : (bs a).size = a.length := by show a.toArray.size = _; simp
theorem bs_list (T : ByteArray) : T = bs T.data.toList := by unfold bs; simp
theorem bs_extract (a : List UInt8) (i j : Nat) : (bs a).extract i j = bs ((a.take j).drop i) := by
  apply ByteArray.ext
  unfold bs
  rw [ByteArray.data_extract]
  show a.toArray.extract i j = ((a.take j).drop i).toArray
  simp [List.drop_take]
/-- How the program cuts its text. -/
theorem cut_out (q k : Nat) (hk : k ≠ 0) (t : List UInt8) (ht : t = decDigits (q / 10 ^ k) ++ pd k q) :
    ((t.take (t.length - k)).drop 0 ++ [46]) ++ (t.take t.length).drop (t.length - k) = outS q k := by
  have e : t.length - k = (decDigits (q / 10 ^ k)).length := by rw [ht, List.length_append, pd_length]; omega
  rw [e, ht, List.take_length, List.take_left, List.drop_left]
  unfold outS; rw [if_neg hk]; simp
end Go.Proofs.YtfhppadcaoggeaaDoor
