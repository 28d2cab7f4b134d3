/- What the digits of a formatted ratio read as: plain mathematics. -/
import Derived.Test.YtfhppadcaoggeaaDoorFmt
namespace Go.Proofs.YtfhppadcaoggeaaDoor
open Go.Lib
set_option linter.unusedVariables false

/-- One byte read: the number, the places behind the point (-1 ahead of it), their power. -/
def stp (s : Nat × Int × Nat) (c : UInt8) : Nat × Int × Nat :=
  if c.toNat = 46 then (s.1, 0, s.2.2)
  else if 48 ≤ c.toNat ∧ c.toNat ≤ 57 then (10 * s.1 + (c.toNat - 48), if 0 ≤ s.2.1 then s.2.1 + 1 else s.2.1, if 0 ≤ s.2.1 then s.2.2 * 10 else s.2.2)
  else s
def prs (l : List UInt8) : Nat × Int × Nat := l.foldl stp (0, -1, 1)
theorem stp_le (s : Nat × Int × Nat) (c : UInt8) (h : -1 ≤ s.2.1) : s.1 ≤ (stp s c).1 ∧ s.2.2 ≤ (stp s c).2.2 ∧ -1 ≤ (stp s c).2.1 ∧ (stp s c).2.1 ≤ max s.2.1 0 + 1 := by
  unfold stp; split
  · exact ⟨Nat.le_refl _, Nat.le_refl _, by show (-1 : Int) ≤ 0; omega, by show (0 : Int) ≤ _; omega⟩
  · split
    · refine ⟨by show s.1 ≤ 10 * s.1 + (c.toNat - 48); omega, ?_, ?_, ?_⟩
      · show s.2.2 ≤ if 0 ≤ s.2.1 then s.2.2 * 10 else s.2.2
        generalize s.2.2 = x; split <;> omega
      · show (-1 : Int) ≤ if 0 ≤ s.2.1 then s.2.1 + 1 else s.2.1
        generalize s.2.1 = x at *; split <;> omega
      · show (if 0 ≤ s.2.1 then s.2.1 + 1 else s.2.1 : Int) ≤ max s.2.1 0 + 1
        generalize s.2.1 = x at *; split <;> omega
    · exact ⟨Nat.le_refl _, Nat.le_refl _, h, by omega⟩
theorem fold_le (l : List UInt8) : ∀ s : Nat × Int × Nat, -1 ≤ s.2.1 → s.1 ≤ (l.foldl stp s).1 ∧ s.2.2 ≤ (l.foldl stp s).2.2 ∧ -1 ≤ (l.foldl stp s).2.1 ∧ (l.foldl stp s).2.1 ≤ max s.2.1 0 + l.length := by
  induction l with
  | nil => intro s h; exact ⟨Nat.le_refl _, Nat.le_refl _, h, by show s.2.1 ≤ _; simp; omega⟩
  | cons c t ih =>
    intro s h
    obtain ⟨a1, a2, a3, a4⟩ := stp_le s c h
    obtain ⟨b1, b2, b3, b4⟩ := ih (stp s c) a3
    rw [List.foldl_cons]
    refine ⟨by omega, by omega, b3, ?_⟩
    rw [List.length_cons]; omega
theorem prs_take (l : List UInt8) (j : Nat) (hj : j ≤ l.length) : (prs (l.take j)).1 ≤ (prs l).1 ∧ 1 ≤ (prs (l.take j)).2.2 ∧ (prs (l.take j)).2.2 ≤ (prs l).2.2 ∧ -1 ≤ (prs (l.take j)).2.1 ∧ (prs (l.take j)).2.1 ≤ j := by
  obtain ⟨c1, c2, c3, c4⟩ := fold_le (l.take j) (0, -1, 1) (by show (-1 : Int) ≤ -1; omega)
  obtain ⟨b1, b2, b3, b4⟩ := fold_le (l.drop j) (prs (l.take j)) c3
  have e : (l.drop j).foldl stp (prs (l.take j)) = prs l := by
    unfold prs; rw [← List.foldl_append, List.take_append_drop]
  rw [e] at b1 b2
  refine ⟨b1, c2, b2, c3, ?_⟩
  have : (prs (l.take j)).2.1 ≤ max (-1 : Int) 0 + ((l.take j).length : Int) := c4
  rw [List.length_take, Nat.min_eq_left hj] at this; omega
theorem prs_succ (l : List UInt8) (j : Nat) (h : j < l.length) : prs (l.take (j + 1)) = stp (prs (l.take j)) l[j] := by
  unfold prs; rw [List.take_succ_eq_append_getElem h, List.foldl_append]; rfl
theorem dig_nat (m : Nat) (h : m < 10) : (UInt8.ofNat (48 + m)).toNat = 48 + m := by rw [UInt8.toNat_ofNat']; omega
theorem stp_dig (s : Nat × Int × Nat) (m : Nat) (h : m < 10) : stp s (UInt8.ofNat (48 + m)) = (10 * s.1 + m, if 0 ≤ s.2.1 then s.2.1 + 1 else s.2.1, if 0 ≤ s.2.1 then s.2.2 * 10 else s.2.2) := by
  unfold stp; rw [dig_nat m h, if_neg (by omega), if_pos ⟨by omega, by omega⟩, Nat.add_sub_cancel_left]
theorem fold_dec (x : Nat) : (decDigits x).foldl stp (0, -1, 1) = (x, -1, 1) := by
  induction x using Nat.strongRecOn with
  | _ x ih =>
    by_cases h : x < 10
    · rw [dec_one h, List.foldl_cons, stp_dig _ x h]
      show (10 * 0 + x, if (0 : Int) ≤ -1 then _ else _, if (0 : Int) ≤ -1 then _ else _) = _
      rw [if_neg (by omega), if_neg (by omega)]; simp
    · rw [dec_big h, List.foldl_append, ih (x / 10) (by omega), List.foldl_cons, stp_dig _ (x % 10) (by omega)]
      show (10 * (x / 10) + x % 10, if (0 : Int) ≤ -1 then _ else _, if (0 : Int) ≤ -1 then _ else _) = _
      rw [if_neg (by omega), if_neg (by omega), Nat.div_add_mod]
theorem fold_pd (k : Nat) : ∀ (n m p : Nat) (b : Int), 0 ≤ b → (pd k n).foldl stp (m, b, p) = (m * 10 ^ k + n % 10 ^ k, b + k, p * 10 ^ k) := by
  induction k with
  | zero => intro n m p b hb; show (m, b, p) = _; simp [Nat.mod_one]
  | succ k ih =>
    intro n m p b hb
    show (pd k (n / 10) ++ [UInt8.ofNat (48 + n % 10)]).foldl stp (m, b, p) = _
    rw [List.foldl_append, ih _ m p b hb, List.foldl_cons, stp_dig _ (n % 10) (by omega)]
    show (10 * (m * 10 ^ k + n / 10 % 10 ^ k) + n % 10, if (0 : Int) ≤ b + k then b + k + 1 else _, if (0 : Int) ≤ b + k then p * 10 ^ k * 10 else _) = _
    rw [if_pos (by omega), if_pos (by omega)]
    have e1 : n % 10 ^ (k + 1) = n % 10 + 10 * (n / 10 % 10 ^ k) := by rw [pow_succ10, Nat.mod_mul]
    have e2 : m * 10 ^ (k + 1) = 10 * (m * 10 ^ k) := by rw [pow_succ10, Nat.mul_left_comm]
    have e3 : p * 10 ^ (k + 1) = p * 10 ^ k * 10 := by rw [pow_succ10, Nat.mul_comm 10, Nat.mul_assoc]
    refine Prod.ext ?_ (Prod.ext ?_ ?_)
    · show _ = m * 10 ^ (k + 1) + n % 10 ^ (k + 1); rw [e1, e2]; show 10 * (m * 10 ^ k + n / 10 % 10 ^ k) + n % 10 = _; omega
    · show b + k + 1 = b + ((k + 1 : Nat) : Int); omega
    · exact e3.symm
theorem fold_out (q k : Nat) : (outS q k).foldl stp (0, -1, 1) = (q, if k = 0 then -1 else (k : Int), 10 ^ k) := by
  unfold outS
  rw [List.foldl_append, fold_dec]
  by_cases h : k = 0
  · subst h; simp
  · rw [if_neg h, if_neg h, List.foldl_cons]
    show (pd k q).foldl stp (q / 10 ^ k, 0, 1) = _
    rw [fold_pd k q _ _ 0 (by omega), Nat.mul_comm, Nat.div_add_mod]
    simp
theorem prs_fmt (n d : Int) (k : Nat) : prs (fmtL n d k) = (rnd n d k, if k = 0 then -1 else (k : Int), 10 ^ k) := by
  unfold prs fmtL
  rw [List.foldl_append]
  split
  · exact fold_out _ _
  · exact fold_out _ _
/-- A byte of a formatted number: a digit or the point. -/
def okc (c : UInt8) : Prop := c.toNat = 46 ∨ 48 ≤ c.toNat ∧ c.toNat ≤ 57
theorem ok_dig (m : Nat) (h : m < 10) : 48 ≤ (UInt8.ofNat (48 + m)).toNat ∧ (UInt8.ofNat (48 + m)).toNat ≤ 57 := by rw [dig_nat m h]; omega
theorem ok_dec (x : Nat) : ∀ c ∈ decDigits x, 48 ≤ c.toNat ∧ c.toNat ≤ 57 := by
  induction x using Nat.strongRecOn with
  | _ x ih =>
    intro c hc
    by_cases h : x < 10
    · rw [dec_one h, List.mem_singleton] at hc; subst hc; exact ok_dig x h
    · rw [dec_big h, List.mem_append, List.mem_singleton] at hc
      rcases hc with hc | hc
      · exact ih (x / 10) (by omega) c hc
      · subst hc; exact ok_dig _ (by omega)
theorem ok_pd (k : Nat) : ∀ n, ∀ c ∈ pd k n, 48 ≤ c.toNat ∧ c.toNat ≤ 57 := by
  induction k with
  | zero => intro n c hc; cases hc
  | succ k ih =>
    intro n c hc
    have hc : c ∈ pd k (n / 10) ++ [UInt8.ofNat (48 + n % 10)] := hc
    rw [List.mem_append, List.mem_singleton] at hc
    rcases hc with hc | hc
    · exact ih _ c hc
    · subst hc; exact ok_dig _ (by omega)
theorem ok_out (q k : Nat) : ∀ c ∈ outS q k, okc c := by
  intro c hc
  unfold outS at hc
  rcases List.mem_append.1 hc with hc | hc
  · exact .inr (ok_dec _ c hc)
  · split at hc
    · cases hc
    · rcases List.mem_cons.1 hc with hc | hc
      · subst hc; exact .inl rfl
      · exact .inr (ok_pd k q c hc)
/-- The bytes of a formatted ratio: digits and points, and at the start the sign, if it is less than zero as rounded. -/
theorem fmt_at (n d : Int) (k j : Nat) (h : j < (fmtL n d k).length) : okc (fmtL n d k)[j] ∨ (j = 0 ∧ (fmtL n d k)[j].toNat = 45) := by
  by_cases hs : n < 0 ∧ 0 < rnd n d k
  · have e : fmtL n d k = 45 :: outS (rnd n d k) k := by unfold fmtL; rw [if_pos hs]; rfl
    cases j with
    | zero => refine .inr ⟨rfl, ?_⟩; simp [e]
    | succ j => refine .inl (ok_out (rnd n d k) k _ ?_); simp [e]
  · have e : fmtL n d k = outS (rnd n d k) k := by unfold fmtL; rw [if_neg hs]; rfl
    refine .inl (ok_out (rnd n d k) k _ ?_); simp [e]
theorem fmt_first (n d : Int) (k : Nat) (h : 0 < (fmtL n d k).length) : ((n < 0 ∧ 0 < rnd n d k) ∧ (fmtL n d k)[0].toNat = 45) ∨ (¬ (n < 0 ∧ 0 < rnd n d k) ∧ (fmtL n d k)[0].toNat ≠ 45) := by
  by_cases hs : n < 0 ∧ 0 < rnd n d k
  · have e : fmtL n d k = 45 :: outS (rnd n d k) k := by unfold fmtL; rw [if_pos hs]; rfl
    exact .inl ⟨hs, by simp [e]⟩
  · have e : fmtL n d k = outS (rnd n d k) k := by unfold fmtL; rw [if_neg hs]; rfl
    refine .inr ⟨hs, ?_⟩
    have := ok_out (rnd n d k) k (fmtL n d k)[0] (by simp [e])
    unfold okc at this; omega
theorem fmt_len (n d : Int) (k : Nat) (hq : rnd n d k ≤ 9223372036854775807) (hk : k ≤ 6) : 1 ≤ (fmtL n d k).length ∧ (fmtL n d k).length ≤ 29 := by
  have := outS_len (rnd n d k) k hq hk
  unfold fmtL; rw [List.length_append]; split <;> simp <;> omega
/-- The rounded number is at most half a unit off. -/
theorem rnd_near (n d : Int) (k : Nat) (hd : 0 < d) : 2 * ((rnd n d k : Int) * d) ≤ 2 * ((n.natAbs : Int) * ((10 ^ k : Nat) : Int)) + d ∧ 2 * ((n.natAbs : Int) * ((10 ^ k : Nat) : Int)) ≤ 2 * ((rnd n d k : Int) * d) + d := by
  have e := rnd_int n d k hd
  rw [Int.mul_assoc] at e
  generalize (n.natAbs : Int) * ((10 ^ k : Nat) : Int) = t at *
  generalize (rnd n d k : Int) = q at *
  have h1 := Int.mul_ediv_add_emod (2 * t + d) (2 * d)
  have h2 := Int.emod_lt_of_pos (2 * t + d) (show 0 < 2 * d by omega)
  have h3 := Int.emod_nonneg (2 * t + d) (show 2 * d ≠ 0 by omega)
  rw [← e] at h1
  have h4 : 2 * d * q = 2 * (q * d) := by rw [Int.mul_assoc, Int.mul_comm d q]
  rw [h4] at h1
  omega
end Go.Proofs.YtfhppadcaoggeaaDoor
