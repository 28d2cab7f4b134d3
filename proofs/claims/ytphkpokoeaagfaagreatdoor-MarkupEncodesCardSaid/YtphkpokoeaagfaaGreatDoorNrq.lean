/- Plain mathematics: normalizing twice, joining normalized lists. -/
import Derived.Test.YtphkpokoeaagfaaGreatDoorNrmM
import Derived.Test.YtphkpokoeaagfaaGreatDoorPln
namespace Go.Proofs.YtphkpokoeaagfaaGreatDoor
set_option linter.unusedVariables false

theorem normS_text (o : List It) (t : ByteArray) (id id' : Int) : normS o ⟨1, t, id⟩ = normS o ⟨1, t, id'⟩ := rfl
theorem size_zero (t : ByteArray) (h : t.size = 0) : t = ByteArray.empty := by
  apply ByteArray.ext
  exact Array.eq_empty_of_size_eq_zero h
theorem two_texts (o : List It) (y x : It) (hy : y.k = 1) (hx : x.k = 1) (h : x.t.size ≠ 0) : normS (normS o y) x = normS o ⟨1, y.t ++ x.t, 0⟩ := by
  obtain ⟨ky, ty, iy⟩ := y
  obtain ⟨kx, tx, ix⟩ := x
  dsimp only at hy hx h ⊢
  subst hy; subst hx
  by_cases h0 : ty.size = 0
  · rw [norm_skip o _ rfl h0, size_zero ty h0]
    rw [show ByteArray.empty ++ tx = tx by simp]
    exact normS_text o tx ix 0
  · have hs : (ty ++ tx).size ≠ 0 := by rw [ByteArray.size_append]; omega
    rcases Nat.lt_or_ge 0 o.length with hlo | hlo
    · obtain ⟨L, z, ho, hl⟩ := out_last o hlo
      by_cases hz : z.k = 1
      · rw [norm_last o ⟨1, ty, iy⟩ rfl h0 L z ho hz, norm_last o ⟨1, ty ++ tx, 0⟩ rfl hs L z ho hz]
        rw [norm_last _ ⟨1, tx, ix⟩ rfl h L ⟨1, z.t ++ ty, 0⟩ rfl rfl, ByteArray.append_assoc]
      · have hlf : lastText o = false := by rw [hl]; simpa using hz
        rw [norm_fresh o ⟨1, ty, iy⟩ rfl h0 hlf, norm_fresh o ⟨1, ty ++ tx, 0⟩ rfl hs hlf, norm_last _ ⟨1, tx, ix⟩ rfl h o ⟨1, ty, 0⟩ rfl rfl]
    · have ho : o = [] := List.length_eq_zero_iff.1 (by omega)
      subst ho
      rw [norm_fresh [] ⟨1, ty, iy⟩ rfl h0 rfl, norm_fresh [] ⟨1, ty ++ tx, 0⟩ rfl hs rfl, norm_last _ ⟨1, tx, ix⟩ rfl h [] ⟨1, ty, 0⟩ rfl rfl]
theorem fold_step (o out : List It) (x : It) : (normS out x).foldl normS o = normS (out.foldl normS o) x := by
  by_cases hk : x.k = 1
  · by_cases h : x.t.size = 0
    · rw [norm_skip out x hk h, norm_skip _ x hk h]
    · rcases Nat.lt_or_ge 0 out.length with hlo | hlo
      · obtain ⟨L, z, ho, hl⟩ := out_last out hlo
        by_cases hz : z.k = 1
        · rw [norm_last out x hk h L z ho hz, ho, List.foldl_append, List.foldl_append]
          exact (two_texts _ z x hz hk h).symm
        · rw [norm_fresh out x hk h (by rw [hl]; simpa using hz), List.foldl_append]
          obtain ⟨kx, tx, ix⟩ := x
          dsimp only at hk
          subst hk
          exact normS_text _ _ _ _
      · have ho : out = [] := List.length_eq_zero_iff.1 (by omega)
        subst ho
        rw [norm_fresh [] x hk h rfl]
        obtain ⟨kx, tx, ix⟩ := x
        dsimp only at hk
        subst hk
        exact normS_text _ _ _ _
  · rw [norm_other out x hk, List.foldl_append]; rfl
theorem fold_norm (o m : List It) : (norm m).foldl normS o = m.foldl normS o := by
  have : ∀ k, k ≤ m.length → (norm (m.take k)).foldl normS o = (m.take k).foldl normS o := by
    intro k
    induction k with
    | zero => intro _; simp [norm]
    | succ j ih =>
      intro hj
      rw [norm_next m j (by omega), fold_step, ih (by omega), List.take_succ_eq_append_getElem (by omega), List.foldl_append]; rfl
  have := this m.length (Nat.le_refl _)
  rwa [List.take_length] at this
theorem norm_right (f m : List It) : norm (f ++ norm m) = norm (f ++ m) := by
  unfold norm; rw [List.foldl_append, List.foldl_append]; exact fold_norm _ _
theorem norm_left (l m : List It) : norm (norm l ++ m) = norm (l ++ m) := by
  show (norm l ++ m).foldl normS [] = (l ++ m).foldl normS []
  rw [List.foldl_append, List.foldl_append, fold_norm]
theorem norm_norm (l : List It) : norm (norm l) = norm l := fold_norm [] l
theorem norm_assoc (f g h : List It) : norm (norm (f ++ g) ++ h) = norm (f ++ norm (g ++ h)) := by rw [norm_left, norm_right, List.append_assoc]
theorem len_step (out : List It) (x : It) : lenI (normS out x) = lenI out + wid x := by
  by_cases hk : x.k = 1
  · have hw : wid x = x.t.size := if_pos hk
    rw [hw]
    by_cases h : x.t.size = 0
    · rw [norm_skip out x hk h]; omega
    · rcases Nat.lt_or_ge 0 out.length with hlo | hlo
      · obtain ⟨L, z, ho, hl⟩ := out_last out hlo
        by_cases hz : z.k = 1
        · rw [norm_last out x hk h L z ho hz, ho, lenI_snoc, lenI_snoc]
          have : wid z = z.t.size := if_pos hz
          rw [this]
          show lenI L + (z.t ++ x.t).size = _
          rw [ByteArray.size_append]; omega
        · rw [norm_fresh out x hk h (by rw [hl]; simpa using hz), lenI_snoc]; rfl
      · have ho : out = [] := List.length_eq_zero_iff.1 (by omega)
        subst ho
        rw [norm_fresh [] x hk h rfl, lenI_snoc]; rfl
  · rw [norm_other out x hk, lenI_snoc]
theorem len_norm (l : List It) : lenI (norm l) = lenI l := by
  have : ∀ k, k ≤ l.length → lenI (norm (l.take k)) = lenI (l.take k) := by
    intro k
    induction k with
    | zero => intro _; simp [norm]
    | succ j ih =>
      intro hj
      rw [norm_next l j (by omega), len_step, ih (by omega), lenI_next l j (by omega)]
  have := this l.length (Nat.le_refl _)
  rwa [List.take_length] at this
theorem plainL_snoc (l : List It) (x : It) : plainL (l ++ [x]) = plainL l ++ plainB x := by unfold plainL; rw [List.flatMap_append]; simp
theorem plainL_append (l m : List It) : plainL (l ++ m) = plainL l ++ plainL m := by unfold plainL; rw [List.flatMap_append]
theorem plain_step (out : List It) (x : It) : plainL (normS out x) = plainL out ++ plainB x := by
  by_cases hk : x.k = 1
  · have hw : plainB x = x.t.data.toList := if_pos hk
    rw [hw]
    by_cases h : x.t.size = 0
    · rw [norm_skip out x hk h, (bytes_nil x.t).2 h, List.append_nil]
    · rcases Nat.lt_or_ge 0 out.length with hlo | hlo
      · obtain ⟨L, z, ho, hl⟩ := out_last out hlo
        by_cases hz : z.k = 1
        · rw [norm_last out x hk h L z ho hz, ho, plainL_snoc, plainL_snoc]
          have : plainB z = z.t.data.toList := if_pos hz
          rw [this]
          show plainL L ++ (z.t ++ x.t).data.toList = _
          rw [ByteArray.data_append]; simp
        · rw [norm_fresh out x hk h (by rw [hl]; simpa using hz), plainL_snoc]; rfl
      · have ho : out = [] := List.length_eq_zero_iff.1 (by omega)
        subst ho
        rw [norm_fresh [] x hk h rfl, plainL_snoc]; rfl
  · rw [norm_other out x hk, plainL_snoc]
theorem plain_norm (l : List It) : plainL (norm l) = plainL l := by
  have : ∀ k, k ≤ l.length → plainL (norm (l.take k)) = plainL (l.take k) := by
    intro k
    induction k with
    | zero => intro _; simp [norm]
    | succ j ih =>
      intro hj
      rw [norm_next l j (by omega), plain_step, ih (by omega), plain_next l j (by omega)]
  have := this l.length (Nat.le_refl _)
  rwa [List.take_length] at this
end Go.Proofs.YtphkpokoeaagfaaGreatDoor
