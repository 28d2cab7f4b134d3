/- The runs of a string lie side by side: plain mathematics. -/
import Derived.Test.YtofnloapcfhmkaaRunMath
namespace Go.Proofs.Ytofnloapcfhmkaa

/-- Where range i of a list begins that lies side by side from 0 on. -/
def bg (l : List (Nat × Nat)) (i : Nat) : Nat := if i = 0 then 0 else (l.getD (i - 1) (0, 0)).2
/-- The class of the range before i. -/
def lastC (s : ByteArray) (l : List (Nat × Nat)) (i : Nat) : Int := if i = 0 then 0 else clA s (l.getD (i - 1) (0, 0)).1
structure Tl (s : ByteArray) (l : List (Nat × Nat)) (e : Nat) : Prop where
  ok : ∀ i (h : i < l.length), (l[i]).1 = bg l i ∧ (l[i]).1 < (l[i]).2 ∧ (l[i]).2 ≤ e ∧ (∀ j, (l[i]).1 ≤ j → j < (l[i]).2 → clA s j = clA s (l[i]).1) ∧ clA s (l[i]).1 ≠ lastC s l i
  fin : bg l l.length = e
theorem clA_pos (s : ByteArray) (i : Nat) : clA s i ≠ 0 := by
  unfold clA cls
  split
  · decide
  · split
    · decide
    · split
      · decide
      · split <;> decide
theorem bg_append (l : List (Nat × Nat)) (p : Nat × Nat) (i : Nat) (h : i ≤ l.length) : bg (l ++ [p]) i = bg l i := by
  unfold bg
  split
  · rfl
  · rw [List.getD_eq_getElem?_getD, List.getElem?_append_left (by omega), List.getD_eq_getElem?_getD]
theorem lastC_append (s : ByteArray) (l : List (Nat × Nat)) (p : Nat × Nat) (i : Nat) (h : i ≤ l.length) : lastC s (l ++ [p]) i = lastC s l i := by
  unfold lastC
  split
  · rfl
  · rw [List.getD_eq_getElem?_getD, List.getElem?_append_left (by omega), List.getD_eq_getElem?_getD]
theorem bg_succ (l : List (Nat × Nat)) (i : Nat) (h : i < l.length) : bg l (i + 1) = (l[i]).2 := by
  unfold bg
  rw [if_neg (by omega), Nat.add_sub_cancel, List.getD_eq_getElem?_getD, List.getElem?_eq_getElem h]; rfl
theorem lastC_succ (s : ByteArray) (l : List (Nat × Nat)) (i : Nat) (h : i < l.length) : lastC s l (i + 1) = clA s (l[i]).1 := by
  unfold lastC
  rw [if_neg (by omega), Nat.add_sub_cancel, List.getD_eq_getElem?_getD, List.getElem?_eq_getElem h]; rfl
theorem bg_end (l : List (Nat × Nat)) (p : Nat × Nat) : bg (l ++ [p]) (l.length + 1) = p.2 := by
  rw [bg_succ _ _ (by simp)]; simp
theorem lastC_end (s : ByteArray) (l : List (Nat × Nat)) (p : Nat × Nat) : lastC s (l ++ [p]) (l.length + 1) = clA s p.1 := by
  rw [lastC_succ _ _ _ (by simp)]; simp
theorem Tl.snoc {s : ByteArray} {l : List (Nat × Nat)} {e e' : Nat} (h : Tl s l e) (he : e < e') (hc : ∀ j, e ≤ j → j < e' → clA s j = clA s e) (hl : clA s e ≠ lastC s l l.length) : Tl s (l ++ [(e, e')]) e' where
  ok := fun i hi => by
    by_cases hi' : i < l.length
    · have := h.ok i hi'
      rw [List.getElem_append_left hi', bg_append _ _ _ (by omega), lastC_append _ _ _ _ (by omega)]
      exact ⟨this.1, this.2.1, by omega, this.2.2.2.1, this.2.2.2.2⟩
    · obtain rfl : i = l.length := by simp at hi; omega
      rw [List.getElem_concat_length rfl, bg_append _ _ _ (Nat.le_refl _), lastC_append _ _ _ _ (Nat.le_refl _)]
      exact ⟨h.fin.symm, he, Nat.le_refl _, hc, hl⟩
  fin := by rw [show (l ++ [(e, e')]).length = l.length + 1 by simp, bg_end]
theorem pf_tile (s : ByteArray) (k : Nat) (hk : 1 ≤ k) : Tl s (pf s k).1 (pf s k).2 ∧ clA s (pf s k).2 ≠ lastC s (pf s k).1 (pf s k).1.length := by
  induction k with
  | zero => omega
  | succ k ih =>
    by_cases h0 : k = 0
    · subst h0
      exact ⟨⟨fun i hi => absurd hi (by show ¬ i < 0; omega), rfl⟩, clA_pos _ _⟩
    · obtain ⟨i1, i2⟩ := ih (by omega)
      by_cases h : clA s k = clA s (k - 1)
      · rw [pf_same s k (by omega) h]; exact ⟨i1, i2⟩
      · obtain ⟨o1, o2⟩ := pf_open s k (by omega)
        have hl := pf_last s k (by omega)
        rw [pf_new s k (by omega) h]
        refine ⟨i1.snoc o1 o2 i2, ?_⟩
        show clA s k ≠ lastC s ((pf s k).1 ++ [((pf s k).2, k)]) ((pf s k).1 ++ [((pf s k).2, k)]).length
        rw [show ((pf s k).1 ++ [((pf s k).2, k)]).length = (pf s k).1.length + 1 by simp, lastC_end, hl]
        exact h
theorem runs_tile (s : ByteArray) : Tl s (runsOf s) s.size := by
  by_cases h : s.size = 0
  · unfold runsOf rn
    rw [if_pos h]
    exact ⟨fun i hi => absurd hi (by show ¬ i < 0; omega), h.symm⟩
  · unfold runsOf rn
    rw [if_neg h]
    obtain ⟨i1, i2⟩ := pf_tile s s.size (by omega)
    obtain ⟨o1, o2⟩ := pf_open s s.size (by omega)
    exact i1.snoc o1 o2 i2
end Go.Proofs.Ytofnloapcfhmkaa
