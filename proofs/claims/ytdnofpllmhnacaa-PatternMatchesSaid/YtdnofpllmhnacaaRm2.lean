/- What the reference's matcher reaches. -/
import Derived.Test.YtdnofpllmhnacaaSuf
namespace Go.Proofs.Ytdnofpllmhnacaa
set_option linter.unusedVariables false
set_option linter.unusedSimpArgs false

/-- The bytes from j up to i. -/
def sub (l : List Nat) (j i : Nat) : List Nat := (l.take i).drop j
theorem sub_len (l : List Nat) (j i : Nat) (h : i ≤ l.length) : (sub l j i).length = i - j := by unfold sub; rw [List.length_drop, List.length_take]; omega
theorem sub_snoc (l : List Nat) (j i : Nat) (h : j ≤ i) (hi : i < l.length) : sub l j (i + 1) = sub l j i ++ [l[i]] := by
  unfold sub
  rw [List.take_succ_eq_append_getElem hi, List.drop_append_of_le_length (by rw [List.length_take]; omega)]
theorem sub_split (l : List Nat) (j m i : Nat) (h : j ≤ m) (h2 : m ≤ i) (hi : i ≤ l.length) : sub l j i = sub l j m ++ sub l m i := by
  unfold sub
  have e : (l.take i).take m = l.take m := by rw [List.take_take, Nat.min_eq_left h2]
  have := List.take_append_drop (m - j) ((l.take i).drop j)
  rw [← this]
  congr 1
  · rw [← List.drop_take, e] <;> first | rfl | omega
  · rw [List.drop_drop]; congr 1; omega
/-- What is reached behind the atoms of P, from the offsets F. -/
def RC (F : Nat → Bool) (P : List At) (l : List Nat) (i : Nat) : Prop := ∃ j, j ≤ i ∧ F j = true ∧ Mat P (sub l j i)
theorem RC_nil (F : Nat → Bool) (l : List Nat) (i : Nat) (hi : i ≤ l.length) : RC F [] l i ↔ F i = true := by
  constructor
  · rintro ⟨j, hj, hf, hm⟩
    have hl := sub_len l j i hi
    rw [show sub l j i = [] from hm] at hl
    simp at hl
    obtain rfl : j = i := by omega
    exact hf
  · intro h
    refine ⟨i, Nat.le_refl _, h, ?_⟩
    have hl := sub_len l i i hi
    rw [Nat.sub_self] at hl
    exact List.length_eq_zero_iff.1 hl
theorem RC_snoc (F : Nat → Bool) (P : List At) (a : At) (l : List Nat) (i : Nat) (hi : i ≤ l.length) : RC F (P ++ [a]) l i ↔ ∃ m, m ≤ i ∧ RC F P l m ∧ AM a (sub l m i) := by
  constructor
  · rintro ⟨j, hj, hf, hm⟩
    obtain ⟨x, y, e, hx, hy⟩ := (Mat_snoc P a _).1 hm
    have hl := sub_len l j i hi
    have hxl : x.length ≤ i - j := by rw [← hl, e, List.length_append]; omega
    have hs := sub_split l j (j + x.length) i (by omega) (by omega) hi
    have hx1 : sub l j (j + x.length) = x ∧ sub l (j + x.length) i = y := by
      rw [e] at hs
      have := List.append_inj hs (by rw [sub_len l j _ (by omega)]; omega)
      exact ⟨this.1.symm, this.2.symm⟩
    exact ⟨j + x.length, by omega, ⟨j, by omega, hf, by rw [hx1.1]; exact hx⟩, by rw [hx1.2]; exact hy⟩
  · rintro ⟨m, hm, ⟨j, hj, hf, hP⟩, ha⟩
    refine ⟨j, by omega, hf, (Mat_snoc P a _).2 ⟨sub l j m, sub l m i, sub_split l j m i hj hm hi, hP, ha⟩⟩
/-- The offsets that one atom reaches by at least one byte. -/
def nx1 (a : At) (A : Nat → Bool) (l : List Nat) : Nat → Bool
  | 0 => false
  | i + 1 => (A i || (a.many && nx1 a A l i)) && (match l[i]? with | some c => a.s c | none => false)
def nx2 (a : At) (A : Nat → Bool) (l : List Nat) (i : Nat) : Bool := nx1 a A l i || (decide (a.mn ≤ 0) && A i)
theorem nx1_iff (a : At) (A : Nat → Bool) (l : List Nat) (i : Nat) (hi : i ≤ l.length) : nx1 a A l i = true ↔ ∃ m, m < i ∧ A m = true ∧ (∀ c ∈ sub l m i, a.s c = true) ∧ ((sub l m i).length = 1 ∨ a.many = true) := by
  induction i with
  | zero => simp [nx1]
  | succ i ih =>
    have hlt : i < l.length := hi
    have ih := ih (by omega)
    rw [nx1, List.getElem?_eq_getElem hlt]
    simp only [Bool.and_eq_true, Bool.or_eq_true, ih]
    constructor
    · rintro ⟨h, hs⟩
      rcases h with h | ⟨hm, m, h1, h2, h3, h4⟩
      · refine ⟨i, by omega, h, ?_, Or.inl (by rw [sub_len l i _ hi]; omega)⟩
        rw [sub_snoc l i i (Nat.le_refl _) hlt]
        have : sub l i i = [] := List.length_eq_zero_iff.1 (by rw [sub_len l i i (by omega)]; omega)
        rw [this]; simpa using hs
      · refine ⟨m, by omega, h2, ?_, Or.inr hm⟩
        rw [sub_snoc l m i (by omega) hlt]
        intro c hc
        rcases List.mem_append.1 hc with hc | hc
        · exact h3 c hc
        · simp at hc; subst hc; exact hs
    · rintro ⟨m, h1, h2, h3, h4⟩
      rw [sub_snoc l m i (by omega) hlt] at h3 h4
      refine ⟨?_, h3 _ (by simp)⟩
      by_cases e : m = i
      · left; rw [← e]; exact h2
      · right
        have hmany : a.many = true := by
          rcases h4 with h4 | h4
          · rw [List.length_append, sub_len l m i (by omega)] at h4; simp at h4; omega
          · exact h4
        exact ⟨hmany, m, by omega, h2, fun c hc => h3 c (by simp [hc]), Or.inr hmany⟩
theorem nx2_iff (a : At) (A : Nat → Bool) (l : List Nat) (i : Nat) (hi : i ≤ l.length) : nx2 a A l i = true ↔ ∃ m, m ≤ i ∧ A m = true ∧ AM a (sub l m i) := by
  unfold nx2
  rw [Bool.or_eq_true, nx1_iff a A l i hi]
  constructor
  · rintro (⟨m, h1, h2, h3, h4⟩ | h)
    · refine ⟨m, by omega, h2, h3, Or.inr ?_⟩
      rcases h4 with h4 | h4
      · exact Or.inl h4
      · refine Or.inr ⟨h4, fun e => ?_⟩
        have := sub_len l m i hi
        rw [e] at this; simp at this; omega
    · simp only [Bool.and_eq_true, decide_eq_true_eq] at h
      have : sub l i i = [] := List.length_eq_zero_iff.1 (by rw [sub_len l i i hi]; omega)
      refine ⟨i, Nat.le_refl _, h.2, ?_⟩
      rw [this]; exact (AM_nil a).2 h.1
  · rintro ⟨m, h1, h2, h3, h4⟩
    rcases h4 with ⟨h4, h5⟩ | h4 | ⟨h4, h5⟩
    · have hl := sub_len l m i hi
      rw [h4] at hl
      simp at hl
      obtain rfl : m = i := by omega
      right; simp only [Bool.and_eq_true, decide_eq_true_eq]; exact ⟨h5, h2⟩
    · left
      have hl := sub_len l m i hi
      exact ⟨m, by omega, h2, h3, Or.inl h4⟩
    · left
      refine ⟨m, ?_, h2, h3, Or.inr h4⟩
      rcases Nat.lt_or_ge m i with h | h
      · exact h
      · exfalso; apply h5
        exact List.length_eq_zero_iff.1 (by rw [sub_len l m i hi]; omega)
/-- The offsets behind the first k atoms. -/
def rcK (F : Nat → Bool) (P : List At) (l : List Nat) : Nat → Nat → Bool
  | 0 => F
  | k + 1 => nx2 P[k]! (rcK F P l k) l
theorem rcK_iff (F : Nat → Bool) (P : List At) (l : List Nat) (k : Nat) (hk : k ≤ P.length) : ∀ i, i ≤ l.length → (rcK F P l k i = true ↔ RC F (P.take k) l i) := by
  induction k with
  | zero => intro i hi; rw [List.take_zero, RC_nil F l i hi]; rfl
  | succ k ih =>
    intro i hi
    have ih := ih (by omega)
    rw [rcK, nx2_iff _ _ _ _ hi, take_next P k hk, RC_snoc F (P.take k) _ l i hi]
    constructor
    · rintro ⟨m, h1, h2, h3⟩; exact ⟨m, h1, (ih m (by omega)).1 h2, h3⟩
    · rintro ⟨m, h1, h2, h3⟩; exact ⟨m, h1, (ih m (by omega)).2 h2, h3⟩
theorem rc_all (F : Nat → Bool) (P : List At) (l : List Nat) (i : Nat) (hi : i ≤ l.length) : rcK F P l P.length i = true ↔ ∃ j, j ≤ i ∧ F j = true ∧ Mat P (sub l j i) := by
  have := rcK_iff F P l P.length (Nat.le_refl _) i hi
  rwa [List.take_length] at this
/-- From the beginning. -/
theorem rc_start (P : List At) (l : List Nat) (i : Nat) (hi : i ≤ l.length) : rcK (fun j => decide (j = 0)) P l P.length i = matchF P (l.take i) := by
  rw [Bool.eq_iff_iff, rc_all _ P l i hi, match_iff]
  constructor
  · rintro ⟨j, _, hf, hm⟩
    simp only [decide_eq_true_eq] at hf
    subst hf
    simpa [sub] using hm
  · intro h; exact ⟨0, Nat.zero_le _, by simp, by simpa [sub] using h⟩
theorem rc_suffix (P : List At) (l : List Nat) : rcK (fun _ => true) P l P.length l.length = sufF P l := by
  rw [Bool.eq_iff_iff, rc_all _ P l l.length (Nat.le_refl _)]
  unfold sufF
  rw [List.any_eq_true]
  constructor
  · rintro ⟨j, hj, _, hm⟩
    refine ⟨j, List.mem_range.2 (by omega), (match_iff _ _).2 ?_⟩
    simpa [sub, List.take_of_length_le] using hm
  · rintro ⟨j, hj, hm⟩
    have hj := List.mem_range.1 hj
    refine ⟨j, by omega, rfl, ?_⟩
    have := (match_iff _ _).1 hm
    simpa [sub, List.take_of_length_le] using this
end Go.Proofs.Ytdnofpllmhnacaa
