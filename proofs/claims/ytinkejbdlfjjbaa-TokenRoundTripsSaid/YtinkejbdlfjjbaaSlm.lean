/- Plain mathematics of slices of fragments. -/
import Derived.Test.YtinkejbdlfjjbaaGvl
import Derived.Test.YtinkejbdlfjjbaaSli
namespace Go.Proofs.Ytinkejbdlfjjbaa
set_option linter.unusedVariables false

theorem lenI_cons (x : It) (t : List It) : lenI (x :: t) = wid x + lenI t := by simp [lenI]
theorem wid_text {x : It} (h : x.k = 1) : wid x = x.t.size := by unfold wid; rw [if_pos h]
theorem wid_other {x : It} (h : x.k ≠ 1) : wid x = 1 := by unfold wid; rw [if_neg h]
theorem oneI_none {x : It} {s a b : Nat} (h : min b (s + wid x) ≤ max a s) : oneI x s a b = [] := by unfold oneI; rw [if_neg (by omega)]
theorem oneI_some {x : It} {s a b : Nat} (h : max a s < min b (s + wid x)) : oneI x s a b = [cutI x (max a s - s) (min b (s + wid x) - s)] := by unfold oneI; rw [if_pos h]
theorem sl_before (l : List It) : ∀ s a b, b ≤ s → slI l s a b = [] := by
  induction l with
  | nil => intro s a b h; rfl
  | cons x t ih => intro s a b h; rw [slI, oneI_none (by omega), ih _ _ _ (by omega)]; rfl
theorem sl_from (l : List It) : ∀ s a a' b, a ≤ s → a' ≤ s → slI l s a b = slI l s a' b := by
  induction l with
  | nil => intro s a a' b h h'; rfl
  | cons x t ih =>
    intro s a a' b h h'
    rw [slI, slI, ih (s + wid x) a a' b (by omega) (by omega)]
    unfold oneI
    rw [show max a s = max a' s by omega]
theorem sl_behind (l : List It) : ∀ s a b, s + lenI l ≤ a → slI l s a b = [] := by
  induction l with
  | nil => intro s a b h; rfl
  | cons x t ih => intro s a b h; rw [lenI_cons] at h; rw [slI, oneI_none (by omega), ih _ _ _ (by omega)]; rfl
theorem cut_two (t : ByteArray) (id : Int) (o : List It) (u v z : Nat) (h1 : u ≤ v) (h2 : v < z) (h3 : z ≤ t.size) :
    normS (normS o ⟨1, t.extract u v, id⟩) ⟨1, t.extract v z, id⟩ = normS o ⟨1, t.extract u z, id⟩ := by
  rw [two_texts o ⟨1, t.extract u v, id⟩ ⟨1, t.extract v z, id⟩ rfl rfl (by show (t.extract v z).size ≠ 0; rw [ByteArray.size_extract]; omega), normS_text o _ id 0]
  congr 2
  show t.extract u v ++ t.extract v z = t.extract u z
  rw [← ByteArray.extract_eq_extract_append_extract v h1 (by omega)]
/-- Two neighbouring slices are, together, one. -/
theorem sl_two (l : List It) : ∀ (s a b c : Nat) (acc : List It), a ≤ b → b ≤ c → (slI l s a b ++ slI l s b c).foldl normS acc = (slI l s a c).foldl normS acc := by
  induction l with
  | nil => intro s a b c acc h1 h2; rfl
  | cons x t ih =>
    intro s a b c acc h1 h2
    by_cases hb : b ≤ s
    · rw [sl_before (x :: t) s a b hb, List.nil_append, sl_from (x :: t) s b a c hb (by omega)]
    by_cases hw : s + wid x ≤ b
    · rw [slI, slI, slI, oneI_none (x := x) (s := s) (a := b) (b := c) (by omega), List.nil_append]
      rw [show oneI x s a b = oneI x s a c by unfold oneI; rw [show min b (s + wid x) = min c (s + wid x) by omega], List.append_assoc, List.foldl_append, ih (s + wid x) a b c _ h1 h2, ← List.foldl_append]
    · have hk : x.k = 1 := by
        by_cases hk : x.k = 1
        · exact hk
        · have := wid_other hk; omega
      have hws := wid_text hk
      rw [slI, slI, slI, sl_before t (s + wid x) a b (by omega), List.append_nil, sl_from t (s + wid x) b a c (by omega) (by omega), ← List.append_assoc, List.foldl_append, List.foldl_append (l := oneI x s a c)]
      congr 1
      by_cases hab : max a s < b
      · rw [oneI_some (x := x) (s := s) (a := a) (b := b) (by omega), oneI_some (x := x) (s := s) (a := a) (b := c) (by omega)]
        by_cases hbc : b < c
        · rw [oneI_some (x := x) (s := s) (a := b) (b := c) (by omega)]
          unfold cutI
          rw [if_pos hk, if_pos hk, if_pos hk, hk]
          have e1 : min b (s + wid x) - s = b - s := by omega
          have e2 : max b s - s = b - s := by omega
          rw [e1, e2]
          exact cut_two x.t x.id acc _ _ _ (by omega) (by omega) (by omega)
        · rw [oneI_none (x := x) (s := s) (a := b) (b := c) (by omega), List.append_nil, show c = b by omega]
      · rw [oneI_none (x := x) (s := s) (a := a) (b := b) (by omega), List.nil_append]
        unfold oneI
        rw [show max b s = max a s by omega]
theorem sl_all (l : List It) : ∀ (s a c : Nat) (acc : List It), a ≤ s → s + lenI l ≤ c → (slI l s a c).foldl normS acc = l.foldl normS acc := by
  induction l with
  | nil => intro s a c acc h1 h2; rfl
  | cons x t ih =>
    intro s a c acc h1 h2
    rw [lenI_cons] at h2
    rw [slI, List.foldl_append, ih (s + wid x) a c _ (by omega) (by omega), List.foldl_cons]
    congr 1
    by_cases hk : x.k = 1
    · have hw := wid_text hk
      by_cases hz : x.t.size = 0
      · rw [oneI_none (by omega), norm_skip acc x hk hz]; rfl
      · rw [oneI_some (by omega)]
        unfold cutI
        rw [if_pos hk, show max a s - s = 0 by omega, show min c (s + wid x) - s = x.t.size by omega, ByteArray.extract_zero_size]; rfl
    · have hw := wid_other hk
      rw [oneI_some (by omega)]
      unfold cutI
      rw [if_neg hk]; rfl
theorem norm_sl_two (l : List It) (a b c : Nat) (h1 : a ≤ b) (h2 : b ≤ c) : norm (slI l 0 a b ++ slI l 0 b c) = norm (slI l 0 a c) := sl_two l 0 a b c [] h1 h2
theorem norm_sl_all (l : List It) (c : Nat) (h : lenI l ≤ c) : norm (slI l 0 0 c) = norm l := sl_all l 0 0 c [] (Nat.le_refl _) (by omega)
theorem norm_three (l : List It) (i k n : Nat) (h1 : i ≤ k) (h2 : k ≤ n) (h3 : lenI l ≤ n) : norm (norm (slI l 0 0 i ++ slI l 0 i k) ++ slI l 0 k n) = norm l := by
  rw [norm_sl_two l 0 i k (by omega) h1, norm_left, norm_sl_two l 0 k n (by omega) h2, norm_sl_all l n h3]
theorem lenI_sl (l : List It) : ∀ s a b, lenI (slI l s a b) = min b (s + lenI l) - max a s := by
  induction l with
  | nil => intro s a b; show 0 = _; simp [lenI]; omega
  | cons x t ih =>
    intro s a b
    rw [slI, lenI_append, ih, lenI_cons]
    have : lenI (oneI x s a b) = min b (s + wid x) - max a s := by
      by_cases h : max a s < min b (s + wid x)
      · rw [oneI_some h]
        show lenI [cutI x _ _] = _
        rw [show lenI [cutI x (max a s - s) (min b (s + wid x) - s)] = wid (cutI x (max a s - s) (min b (s + wid x) - s)) by simp [lenI]]
        unfold cutI
        by_cases hk : x.k = 1
        · have := wid_text hk
          rw [if_pos hk, wid_text (by exact hk)]
          show (x.t.extract _ _).size = _
          rw [ByteArray.size_extract]; omega
        · have := wid_other hk
          rw [if_neg hk, this]; omega
      · rw [oneI_none (by omega)]
        show 0 = _; omega
    rw [this]; omega
theorem plain_three (l : List It) (i k n : Nat) (h1 : i ≤ k) (h2 : k ≤ n) (h3 : lenI l ≤ n) : plainL (slI l 0 0 i) ++ plainL (slI l 0 i k) ++ plainL (slI l 0 k n) = plainL l := by
  have h := congrArg plainL (norm_three l i k n h1 h2 h3)
  rw [plain_norm, plain_norm, plainL_append, plain_norm, plainL_append] at h
  exact h
theorem proper_kind {x : It} (h : properB x = true) : 1 ≤ x.k ∧ x.k ≤ 5 ∧ 0 ≤ x.id ∧ x.id ≤ 999 := by
  unfold properB numB at h
  split at h
  · simp at h; omega
  · split at h
    · simp at h; omega
    · split at h
      · simp at h; omega
      · split at h
        · simp at h; omega
        · cases h
theorem valid_proper (l : List It) : errL [] l = 0 → ∀ x ∈ l, properB x = true := by
  refine list_rev (P := fun l => errL [] l = 0 → ∀ x ∈ l, properB x = true) (fun _ x hx => by cases hx) (fun l x ih h y hy => ?_) l
  have h0 := errL_left _ _ h
  rw [errL_snoc _ _ h0, errAt_zero] at h
  rcases List.mem_append.1 hy with hy | hy
  · exact ih h0 y hy
  · rw [List.mem_singleton] at hy; subst hy; exact h.1
theorem mem_txt {l : List It} {x : It} (h : x ∈ l) : x.t.size ≤ txtI l := by
  induction l with
  | nil => cases h
  | cons y t ih =>
    have e : txtI (y :: t) = y.t.size + txtI t := rfl
    rcases List.mem_cons.1 h with rfl | h
    · omega
    · have := ih h; omega
theorem oks_valid {l : List It} (h : errL [] l = 0) (ht : txtI l ≤ 140737488355328) : Oks l := fun i hi => by
  have hp := proper_kind (valid_proper l h _ (List.getElem_mem hi))
  have hs := mem_txt (List.getElem_mem hi)
  generalize l[i] = x at *
  have hwf : ∀ n : Int, 0 ≤ n → n ≤ 999 → (Lit.int .i64 n).wf = true := fun n h1 h2 => by
    simp [Lit.wf, IntKind.min, IntKind.max, IntKind.signed, IntKind.bits]; omega
  exact ⟨hwf _ (by omega) (by omega), by omega, hwf _ hp.2.2.1 hp.2.2.2⟩
theorem cut_tag {x : It} (u v : Nat) (h : x.k ≠ 1) : cutI x u v = x := by unfold cutI; rw [if_neg h]
theorem sl_tags (l : List It) : ∀ s a b, ∀ y ∈ slI l s a b, isT y.k = true → y ∈ l := by
  induction l with
  | nil => intro s a b y hy; cases hy
  | cons x t ih =>
    intro s a b y hy ht
    rw [slI] at hy
    rcases List.mem_append.1 hy with hy | hy
    · unfold oneI at hy
      split at hy
      · rw [List.mem_singleton] at hy
        by_cases hk : x.k = 1
        · rw [hy] at ht; unfold cutI at ht; rw [if_pos hk] at ht; rw [hk] at ht; cases ht
        · rw [cut_tag _ _ hk] at hy; rw [hy]; exact .head _
      · cases hy
    · exact .tail _ (ih _ _ _ y hy ht)
/-- A slice of a valid fragment is valid. -/
theorem err_sl (l : List It) (a b : Nat) : errL [] l = 0 → errL [] (slI l 0 a b) = 0 ∧ (lenI l ≤ b → lastText (slI l 0 a b) = true → lastText l = true) := by
  refine list_rev (P := fun l => errL [] l = 0 → errL [] (slI l 0 a b) = 0 ∧ (lenI l ≤ b → lastText (slI l 0 a b) = true → lastText l = true)) (fun _ => ⟨rfl, fun _ h => by cases h⟩) (fun l x ih h => ?_) l
  have h0 := errL_left _ _ h
  obtain ⟨i1, i2⟩ := ih h0
  rw [errL_snoc _ _ h0, errAt_zero] at h
  obtain ⟨hp, ht, hb⟩ := h
  have e : slI (l ++ [x]) 0 a b = slI l 0 a b ++ oneI x (lenI l) a b := by rw [slI_append]; simp [slI]
  have hl : lastText (l ++ [x]) = decide (x.k = 1) := by unfold lastText; simp
  have hlen : lenI (l ++ [x]) = lenI l + wid x := lenI_snoc l x
  have hwp : 0 < wid x := by
    by_cases hk : x.k = 1
    · rw [wid_text hk]; have := ((proper_text hk).1 hp).1; omega
    · rw [wid_other hk]; omega
  rw [e, hl, hlen]
  by_cases hc : max a (lenI l) < min b (lenI l + wid x)
  · rw [oneI_some hc]
    generalize hu : max a (lenI l) - lenI l = u at *
    generalize hv : min b (lenI l + wid x) - lenI l = v at *
    have hkc : (cutI x u v).k = x.k := by unfold cutI; split <;> rfl
    refine ⟨?_, fun _ hh => ?_⟩
    · rw [errL_snoc _ _ i1, errAt_zero]
      by_cases hk : x.k = 1
      · obtain ⟨hs, hi⟩ := (proper_text hk).1 hp
        have hw := wid_text hk
        refine ⟨?_, fun _ => ?_, fun hh => ?_⟩
        · rw [proper_text (by rw [hkc]; exact hk)]
          unfold cutI
          rw [if_pos hk]
          refine ⟨?_, hi⟩
          show (x.t.extract u v).size ≠ 0
          rw [ByteArray.size_extract]; omega
        · cases hq : lastText (slI l 0 a b)
          · rfl
          · rw [i2 (by omega) hq] at ht; exact absurd (ht hk) (by decide)
        · rw [hkc, hk] at hh; cases hh
      · rw [cut_tag _ _ hk]
        refine ⟨hp, fun hh => absurd hh hk, fun hh => ?_⟩
        rw [tagBad_iff]
        intro y hy hyt hyi
        exact (tagBad_iff _ _).1 (hb hh) y (sl_tags l 0 a b y hy hyt) hyt hyi
    · unfold lastText at hh
      simp only [List.getLast?_append, List.getLast?_singleton, Option.some_or, decide_eq_true_eq] at hh
      rw [hkc] at hh; exact decide_eq_true hh
  · rw [oneI_none (by omega), List.append_nil]
    refine ⟨i1, fun hb2 hh => ?_⟩
    have : slI l 0 a b = [] := sl_behind l 0 a b (by omega)
    rw [this] at hh; cases hh
theorem sl_valid {l : List It} (h : valE l = 0) (a b : Nat) : valE (slI l 0 a b) = 0 := by
  unfold valE at h ⊢
  split at h
  · cases h
  · rename_i hn
    have h1 := slI_len l 0 a b
    have h2 := lenI_sl l 0 a b
    rw [if_neg (by omega)]
    exact (err_sl l a b h).1
theorem txt_sl (l : List It) : ∀ s a b, txtI (slI l s a b) ≤ txtI l := by
  induction l with
  | nil => intro s a b; exact Nat.le_refl _
  | cons x t ih =>
    intro s a b
    have e : txtI (x :: t) = x.t.size + txtI t := rfl
    have h1 := ih (s + wid x) a b
    rw [slI, txtI_append, e]
    have : txtI (oneI x s a b) ≤ x.t.size := by
      unfold oneI
      split
      · show (cutI x _ _).t.size + 0 ≤ _
        unfold cutI; split
        · show (x.t.extract _ _).size + 0 ≤ _; rw [ByteArray.size_extract]; omega
        · omega
      · exact Nat.zero_le _
    omega
end Go.Proofs.Ytinkejbdlfjjbaa
