/- What does not look at texts does not see Normalize: shapes, numbers, tags, placeholders of a normalized fragment. -/
import Derived.Test.YtphkpokoeaagfaaGreatDoorNrq
import Derived.Test.YtphkpokoeaagfaaGreatDoorTwo
import Derived.Test.YtphkpokoeaagfaaGreatDoorPln
namespace Go.Proofs.YtphkpokoeaagfaaGreatDoor
set_option linter.unusedVariables false

theorem ign_step {σ : Type} (f : σ → It → σ) (hf : ∀ s x, x.k = 1 → f s x = s) (out : List It) (x : It) (s : σ) : (normS out x).foldl f s = f (out.foldl f s) x := by
  by_cases hk : x.k = 1
  · rw [hf _ x hk]
    by_cases h : x.t.size = 0
    · rw [norm_skip out x hk h]
    · rcases Nat.lt_or_ge 0 out.length with hlo | hlo
      · obtain ⟨L, y, ho, hl⟩ := out_last out hlo
        by_cases hy : y.k = 1
        · rw [norm_last out x hk h L y ho hy, ho, List.foldl_append, List.foldl_append]
          show f _ _ = f _ _
          rw [hf _ _ rfl, hf _ y hy]
        · rw [norm_fresh out x hk h (by rw [hl]; simpa using hy), List.foldl_append]
          exact hf _ _ rfl
      · have : out = [] := List.length_eq_zero_iff.1 (by omega)
        subst this
        rw [norm_fresh [] x hk h rfl]
        exact hf _ _ rfl
  · rw [norm_other out x hk, List.foldl_append]; rfl
theorem ign_norm {σ : Type} (f : σ → It → σ) (hf : ∀ s x, x.k = 1 → f s x = s) (l : List It) (s : σ) : (norm l).foldl f s = l.foldl f s := by
  have : ∀ k, k ≤ l.length → (norm (l.take k)).foldl f s = (l.take k).foldl f s := by
    intro k
    induction k with
    | zero => intro _; simp [norm]
    | succ j ih =>
      intro hj
      rw [norm_next l j (by omega), ign_step f hf, ih (by omega), List.take_succ_eq_append_getElem (by omega), List.foldl_append]; rfl
  have h := this l.length (Nat.le_refl _)
  rwa [List.take_length] at h
theorem sh_norm (l : List It) : shL (norm l) = shL l := ign_norm shS (fun s x hx => by
  unfold shS
  cases s with
  | none => rfl
  | some st => obtain ⟨c, o⟩ := st; dsimp only; rw [hx]; rfl) l _
theorem nums_norm (l : List It) : numsL (norm l) = numsL l := ign_norm numS (fun s x hx => by
  unfold numS; rw [if_neg (fun h => by rw [hx] at h; exact absurd h.1 (by decide))]) l _
theorem filter_fold (p : It → Bool) (l : List It) : ∀ acc : List It, l.foldl (fun a x => if p x = true then a ++ [x] else a) acc = acc ++ l.filter p := by
  induction l with
  | nil => intro acc; simp
  | cons x t ih =>
    intro acc
    rw [List.foldl_cons, ih, List.filter_cons]
    cases p x <;> simp
theorem filter_norm (p : It → Bool) (hp : ∀ x : It, x.k = 1 → p x = false) (l : List It) : (norm l).filter p = l.filter p := by
  have h := ign_norm (fun (a : List It) x => if p x = true then a ++ [x] else a) (fun s x hx => by rw [hp x hx]; rfl) l []
  rw [filter_fold, filter_fold] at h
  simpa using h
theorem tags_norm (l : List It) : tagsL (norm l) = tagsL l := filter_norm _ (fun x hx => by rw [hx]; rfl) l
end Go.Proofs.YtphkpokoeaagfaaGreatDoor
