/- What the generator makes is valid; nested, it has an empty shape. -/
import Derived.Test.YtphkpokoeaagfaaGreatDoorGsz
import Derived.Test.YtphkpokoeaagfaaGreatDoorIgn
namespace Go.Proofs.YtphkpokoeaagfaaGreatDoor
set_option linter.unusedVariables false

theorem list_rev {α : Type} {P : List α → Prop} (h0 : P []) (h1 : ∀ l x, P l → P (l ++ [x])) (l : List α) : P l := by
  have : ∀ k, k ≤ l.length → P (l.take k) := by
    intro k
    induction k with
    | zero => intro _; simpa using h0
    | succ j ih => intro hj; rw [List.take_succ_eq_append_getElem hj]; exact h1 _ _ (ih (by omega))
  have h := this l.length (Nat.le_refl _)
  rwa [List.take_length] at h
theorem proper_text {x : It} (hk : x.k = 1) : properB x = true ↔ x.t.size ≠ 0 ∧ x.id = 0 := by unfold properB; rw [if_pos hk]; simp
theorem text_eta {x : It} (hk : x.k = 1) (hi : x.id = 0) : x = ⟨1, x.t, 0⟩ := by cases x; simp_all
/-- A valid fragment is normalized. -/
theorem norm_valid (l : List It) : errL [] l = 0 → norm l = l := by
  refine list_rev (P := fun l => errL [] l = 0 → norm l = l) (fun _ => rfl) (fun l x ih h => ?_) l
  have h0 := errL_left _ _ h
  rw [errL_snoc _ _ h0, errAt_zero] at h
  rw [norm_snoc, ih h0]
  by_cases hk : x.k = 1
  · obtain ⟨h1, h2, _⟩ := h
    obtain ⟨hs, hi⟩ := (proper_text hk).1 h1
    rw [lastText_none l (h2 hk) x hk hs, ← text_eta hk hi]
  · exact norm_other l x hk
/-- A text behind a valid fragment. -/
theorem err_text (l : List It) (t : ByteArray) (h : errL [] l = 0) : errL [] (norm (l ++ [⟨1, t, 0⟩])) = 0 := by
  rw [norm_snoc, norm_valid l h]
  by_cases hz : t.size = 0
  · rw [norm_skip l ⟨1, t, 0⟩ rfl hz]; exact h
  · cases hl : lastText l
    · rw [lastText_none l hl ⟨1, t, 0⟩ rfl hz, errL_snoc _ _ h, errAt_zero]
      exact ⟨(proper_text rfl).2 ⟨hz, rfl⟩, fun _ => hl, fun h => by cases h⟩
    · have hpos : 0 < l.length := by
        rcases Nat.eq_zero_or_pos l.length with h | h
        · rw [List.length_eq_zero_iff.1 h] at hl; cases hl
        · exact h
      obtain ⟨D, y, ho, _⟩ := out_last l hpos
      have hy : y.k = 1 := by rw [ho] at hl; unfold lastText at hl; simpa using hl
      rw [norm_last l ⟨1, t, 0⟩ rfl hz D y ho hy]
      rw [ho] at h
      have h0 := errL_left _ _ h
      rw [errL_snoc _ _ h0, errAt_zero] at h
      rw [errL_snoc _ _ h0, errAt_zero]
      refine ⟨(proper_text rfl).2 ⟨?_, rfl⟩, fun _ => h.2.1 hy, fun h => by cases h⟩
      show (y.t ++ t).size ≠ 0
      rw [ByteArray.size_append]; omega
/-- Another item behind a valid fragment. -/
theorem err_other (l : List It) (x : It) (h : errL [] l = 0) (hk : x.k ≠ 1) (hp : properB x = true) (ht : isT x.k = true → tagBad l x = false) : errL [] (norm (l ++ [x])) = 0 := by
  rw [norm_snoc, norm_valid l h, norm_other l x hk, errL_snoc _ _ h, errAt_zero]
  exact ⟨hp, fun h => absurd h hk, ht⟩
theorem tags_add (l : List It) (x : It) : tagsL (norm (l ++ [x])) = tagsL l ++ (if isT x.k = true then [x] else []) := by
  rw [tags_norm]; unfold tagsL; rw [List.filter_append, List.filter_cons]; simp
theorem mem_tags {l : List It} {x : It} : x ∈ tagsL l ↔ x ∈ l ∧ isT x.k = true := by unfold tagsL; exact List.mem_filter
theorem taken_tags (l : List It) (id : Int) (h : ∀ y ∈ tagsL l, y.id ≠ id) : taken l id = false := by
  unfold taken
  rw [List.any_eq_false]
  intro y hy hc
  simp only [Bool.and_eq_true, decide_eq_true_eq] at hc
  exact h y (mem_tags.2 ⟨hy, hc.1⟩) hc.2
theorem isCon_name {s : ByteArray} (h : isCon s = true) : isNm (nameB s) = true := by
  unfold isCon at h; simp only [Bool.and_eq_true] at h; exact h.1.1.1.2

structure GInv (s : St) : Prop where
  e : errL [] s.f = 0
  ids : ∀ x ∈ tagsL s.f, 1 ≤ x.id ∧ x.id ≤ (s.id : Int)
  op : ∀ y ∈ s.o, y ∈ tagsL s.f ∧ y.k = 2 ∧ isCon y.t = true ∧ ∀ z ∈ tagsL s.f, z.id = y.id → z = y
  dist : s.o.Pairwise (fun a b => a.id ≠ b.id)
theorem GInv.plain {f o : List It} {id m : Nat} (h : GInv ⟨f, o, id, m⟩) (x : It) (m' : Nat) (hk : isT x.k = false) (he : errL [] (norm (f ++ [x])) = 0) : GInv ⟨norm (f ++ [x]), o, id, m'⟩ := by
  have ht : tagsL (norm (f ++ [x])) = tagsL f := by rw [tags_add, if_neg (by simp [hk]), List.append_nil]
  exact ⟨he, by show ∀ y ∈ tagsL (norm (f ++ [x])), _; rw [ht]; exact h.ids, by show ∀ y ∈ o, y ∈ tagsL (norm (f ++ [x])) ∧ _ ∧ _ ∧ ∀ z ∈ tagsL (norm (f ++ [x])), _; rw [ht]; exact h.op, h.dist⟩
theorem GInv.fresh {f o : List It} {id m : Nat} (h : GInv ⟨f, o, id, m⟩) (x : It) (m' : Nat) (hk : isT x.k = true) (hi : x.id = (id + 1 : Nat)) (hp : properB x = true) : GInv ⟨norm (f ++ [x]), o, id + 1, m'⟩ ∧ (x.k = 2 → isCon x.t = true → GInv ⟨norm (f ++ [x]), o ++ [x], id + 1, m'⟩) := by
  have ht : tagsL (norm (f ++ [x])) = tagsL f ++ [x] := by rw [tags_add, if_pos hk]
  have hids : ∀ y ∈ tagsL f, 1 ≤ y.id ∧ y.id ≤ (id : Int) := h.ids
  have hop : ∀ y ∈ o, y ∈ tagsL f ∧ y.k = 2 ∧ isCon y.t = true ∧ ∀ z ∈ tagsL f, z.id = y.id → z = y := h.op
  have h1 : x.k ≠ 1 := by intro e; rw [e] at hk; cases hk
  have he : errL [] (norm (f ++ [x])) = 0 := err_other f x h.e h1 hp (fun _ => tagBad_not f x (taken_tags f x.id (fun y hy e => by have := (hids y hy).2; omega)))
  have hids' : ∀ y ∈ tagsL (norm (f ++ [x])), 1 ≤ y.id ∧ y.id ≤ ((id + 1 : Nat) : Int) := by
    rw [ht]
    intro y hy
    rcases List.mem_append.1 hy with hy | hy
    · have := hids y hy; omega
    · rw [List.mem_singleton] at hy; subst hy; omega
  have hop' : ∀ y ∈ o, y ∈ tagsL (norm (f ++ [x])) ∧ y.k = 2 ∧ isCon y.t = true ∧ ∀ z ∈ tagsL (norm (f ++ [x])), z.id = y.id → z = y := by
    rw [ht]
    intro y hy
    obtain ⟨a, b, c, d⟩ := hop y hy
    refine ⟨List.mem_append_left _ a, b, c, fun z hz e => ?_⟩
    rcases List.mem_append.1 hz with hz | hz
    · exact d z hz e
    · rw [List.mem_singleton] at hz; subst hz; have := (hids y a).2; omega
  refine ⟨⟨he, hids', hop', h.dist⟩, fun hx hc => ⟨he, hids', fun y hy => ?_, ?_⟩⟩
  · rcases List.mem_append.1 hy with hy | hy
    · exact hop' y hy
    · rw [List.mem_singleton] at hy; subst hy
      show y ∈ tagsL (norm (f ++ [y])) ∧ _ ∧ _ ∧ ∀ z ∈ tagsL (norm (f ++ [y])), _
      rw [ht]
      refine ⟨List.mem_append_right _ (List.mem_singleton.2 rfl), hx, hc, fun z hz e => ?_⟩
      rcases List.mem_append.1 hz with hz | hz
      · have := (hids z hz).2; omega
      · exact List.mem_singleton.1 hz
  · show (o ++ [x]).Pairwise _
    rw [List.pairwise_append]
    refine ⟨h.dist, List.pairwise_singleton _ _, fun a ha b hb => ?_⟩
    rw [List.mem_singleton] at hb; subst hb
    have := (hids a (hop a ha).1).2
    omega
theorem pairwise_away {α : Type} {R : α → α → Prop} (hs : ∀ a b, R a b → R b a) (l : List α) (k : Nat) (h : k < l.length) (hp : l.Pairwise R) : (l.take k ++ l.drop (k + 1)).Pairwise R ∧ ∀ y ∈ l.take k ++ l.drop (k + 1), R y (l[k]'h) := by
  have e : l.take k ++ (l[k]'h :: l.drop (k + 1)) = l := by rw [← List.drop_eq_getElem_cons h, List.take_append_drop]
  rw [← e, List.pairwise_append, List.pairwise_cons] at hp
  obtain ⟨h1, ⟨h2, h3⟩, h4⟩ := hp
  refine ⟨List.pairwise_append.2 ⟨h1, h3, fun a ha b hb => h4 a ha b (.tail _ hb)⟩, fun y hy => ?_⟩
  rcases List.mem_append.1 hy with hy | hy
  · exact h4 y hy _ (.head _)
  · exact hs _ _ (h2 y hy)
theorem proper_close {t : ByteArray} {id : Int} (h : isNm t = true) (h1 : 1 ≤ id) (h2 : id ≤ 999) : properB ⟨3, t, id⟩ = true := by
  unfold properB numB; simp [h, h1, h2]
theorem err_close {f : List It} {y : It} (h : errL [] f = 0) (hy : y ∈ tagsL f) (hk : y.k = 2) (hc : isCon y.t = true) (h1 : 1 ≤ y.id) (h2 : y.id ≤ 999) (hu : ∀ z ∈ tagsL f, z.id = y.id → z = y) : errL [] (norm (f ++ [closeI y])) = 0 := by
  refine err_other f (closeI y) h (by show (3 : Int) ≠ 1; decide) (proper_close (isCon_name hc) h1 h2) (fun _ => ?_)
  rw [tagBad_iff]
  intro z hz hzt hzi
  have := hu z (mem_tags.2 ⟨hz, hzt⟩) hzi
  subst this
  exact ⟨rfl, hk, rfl⟩
theorem GInv.close {f o : List It} {id m : Nat} (h : GInv ⟨f, o, id, m⟩) (hid : id ≤ 999) (k : Nat) (hk : k < o.length) (m' : Nat) : GInv ⟨norm (f ++ [closeI (o[k]'hk)]), o.take k ++ o.drop (k + 1), id, m'⟩ := by
  have hids : ∀ y ∈ tagsL f, 1 ≤ y.id ∧ y.id ≤ (id : Int) := h.ids
  have hop : ∀ y ∈ o, y ∈ tagsL f ∧ y.k = 2 ∧ isCon y.t = true ∧ ∀ z ∈ tagsL f, z.id = y.id → z = y := h.op
  obtain ⟨hd1, hd2⟩ := pairwise_away (R := fun a b : It => a.id ≠ b.id) (fun a b h e => h e.symm) o k hk h.dist
  obtain ⟨a, b, c, d⟩ := hop _ (List.getElem_mem hk)
  generalize o[k]'hk = y at *
  have ht : tagsL (norm (f ++ [closeI y])) = tagsL f ++ [closeI y] := by rw [tags_add]; rfl
  have hy := hids y a
  have hsub : ∀ z ∈ o.take k ++ o.drop (k + 1), z ∈ o := fun z hz => by
    rcases List.mem_append.1 hz with hz | hz
    · exact List.mem_of_mem_take hz
    · exact List.mem_of_mem_drop hz
  refine ⟨err_close h.e a b c hy.1 (by omega) d, ?_, ?_, hd1⟩
  · show ∀ z ∈ tagsL (norm (f ++ [closeI y])), _
    rw [ht]
    intro z hz
    rcases List.mem_append.1 hz with hz | hz
    · exact hids z hz
    · rw [List.mem_singleton] at hz; subst hz; exact hy
  · show ∀ z ∈ o.take k ++ o.drop (k + 1), z ∈ tagsL (norm (f ++ [closeI y])) ∧ _ ∧ _ ∧ ∀ x ∈ tagsL (norm (f ++ [closeI y])), _
    rw [ht]
    intro z hz
    obtain ⟨a', b', c', d'⟩ := hop z (hsub z hz)
    refine ⟨List.mem_append_left _ a', b', c', fun x hx e => ?_⟩
    rcases List.mem_append.1 hx with hx | hx
    · exact d' x hx e
    · rw [List.mem_singleton] at hx; subst hx
      exact absurd e.symm (hd2 z hz)
theorem slot_ok : ∀ s ∈ slotL, isNm s = true := by decide
theorem empty_ok : ∀ s ∈ emptyL, isCon s = true := by decide
theorem open_ok : ∀ s ∈ openL, isCon s = true := by decide
theorem b_ok : isNm ⟨#[98]⟩ = true := by decide
theorem proper_content {k : Int} {t : ByteArray} {id : Int} (hk : k = 2 ∨ k = 4) (h : isCon t = true) (h1 : 1 ≤ id) (h2 : id ≤ 999) : properB ⟨k, t, id⟩ = true := by
  unfold properB; rw [if_neg (by show ¬ k = 1; omega), if_pos hk]; unfold numB; simp [h, h1, h2]
theorem proper_slot {t : ByteArray} (h : isNm t = true) : properB ⟨5, t, 0⟩ = true := by
  unfold properB; simp [h]
theorem GInv.step {s : St} (h : GInv s) (hid : s.id ≤ 900) (L : List Int) (tags nested : Bool) : GInv (stepG L tags nested s) := by
  obtain ⟨f, o, id, m⟩ := s
  unfold stepG
  dsimp only
  have hf : errL [] f = 0 := h.e
  have hid' : id ≤ 900 := hid
  have htext : ∀ m', GInv ⟨norm (f ++ [⟨1, (lineF L m 3).1, 0⟩]), o, id, m'⟩ := fun m' => h.plain _ m' rfl (err_text f _ hf)
  have hc := nx_lt L (lineF L m 3).2 8 (by decide)
  by_cases c1 : nx L (lineF L m 3).2 8 = 0 ∨ nx L (lineF L m 3).2 8 = 1
  · rw [nextG_slot L tags nested o id m c1]
    exact h.plain _ _ rfl (err_other f _ hf (by show (5 : Int) ≠ 1; decide) (proper_slot (pickB_all slotL slot_ok _ (nx_lt _ _ _ (by decide)))) (fun h => by cases h))
  by_cases ht : tags = true
  · by_cases c2 : nx L (lineF L m 3).2 8 = 2
    · rw [nextG_empty L tags nested o id m c2 ht]
      exact (h.fresh _ _ rfl rfl (proper_content (.inr rfl) (pickB_all emptyL empty_ok _ (nx_lt _ _ _ (by decide))) (by omega) (by omega))).1
    by_cases c3 : nx L (lineF L m 3).2 8 = 3 ∨ nx L (lineF L m 3).2 8 = 4
    · rw [nextG_open L tags nested o id m c3 ht]
      have hcn := pickB_all openL open_ok _ (nx_lt L ((lineF L m 3).2 + 1) 3 (by decide))
      exact (h.fresh _ _ rfl rfl (proper_content (.inl rfl) hcn (by omega) (by omega))).2 rfl hcn
    by_cases c5 : nx L (lineF L m 3).2 8 = 5 ∨ nx L (lineF L m 3).2 8 = 6
    · by_cases ho : 0 < o.length
      · rw [nextG_close L tags nested o id m c5 ho _ rfl]
        have hk : (pickK L nested o.length ((lineF L m 3).2 + 1)).1 < o.length := by
          unfold pickK; split
          · show o.length - 1 < _; omega
          · exact nx_lt _ _ _ ho
        generalize pickK L nested o.length ((lineF L m 3).2 + 1) = K at *
        have := h.close (by omega) K.1 hk K.2
        rw [List.getD_eq_getElem?_getD, List.getElem?_eq_getElem hk]
        exact this
      · by_cases hn : nested = false
        · rw [nextG_alone L tags nested o id m c5 ho ⟨ht, hn⟩]
          exact (h.fresh _ _ rfl rfl (proper_close b_ok (by omega) (by omega))).1
        · rw [nextG_text L tags nested o id m (.inr (.inr ⟨by omega, by omega, ho, fun hh => hn hh.2⟩))]
          exact htext _
    · rw [nextG_text L tags nested o id m (.inl (by omega))]
      exact htext _
  · have ht' : tags = false := by simpa using ht
    by_cases c5 : nx L (lineF L m 3).2 8 = 5 ∨ nx L (lineF L m 3).2 8 = 6
    · by_cases ho : 0 < o.length
      · rw [nextG_close L tags nested o id m c5 ho _ rfl]
        have hk : (pickK L nested o.length ((lineF L m 3).2 + 1)).1 < o.length := by
          unfold pickK; split
          · show o.length - 1 < _; omega
          · exact nx_lt _ _ _ ho
        generalize pickK L nested o.length ((lineF L m 3).2 + 1) = K at *
        have := h.close (by omega) K.1 hk K.2
        rw [List.getD_eq_getElem?_getD, List.getElem?_eq_getElem hk]
        exact this
      · rw [nextG_text L tags nested o id m (.inr (.inr ⟨by omega, by omega, ho, fun hh => ht hh.1⟩))]
        exact htext _
    · rw [nextG_text L tags nested o id m (by
        by_cases h7 : nx L (lineF L m 3).2 8 = 7
        · exact .inl h7
        · exact .inr (.inl ⟨by omega, by omega, ht'⟩))]
      exact htext _

/-! ### runs -/
theorem run_inv (L : List Int) (tags nested : Bool) (M : Nat) : ∀ (k n : Nat) (s : St), GInv s → Sz M s n → n + k ≤ 900 → GInv (runG L tags nested k s) ∧ Sz M (runG L tags nested k s) (n + k) := by
  intro k
  induction k with
  | zero => intro n s h1 h2 _; exact ⟨h1, h2⟩
  | succ k ih =>
    intro n s h1 h2 hn
    have := ih (n + 1) (stepG L tags nested s) (h1.step (by have := h2.id; omega) L tags nested) (h2.step L tags nested) (by omega)
    rw [show n + (k + 1) = n + 1 + k by omega]
    exact this
theorem Sz.more {M n n' : Nat} {s : St} (h : Sz M s n) (hn : n ≤ n') : Sz M s n' := by
  have h1 := h.fl; have h2 := h.ft; have h3 := h.ol; have h4 := h.id; have h5 := h.m
  exact ⟨by omega, by omega, by omega, h.ot, by omega, h.lo, by omega⟩
theorem start_inv (L : List Int) (tags nested : Bool) (m n : Nat) (hn : n ≤ 800) : GInv (startG L tags nested m n) ∧ Sz (m + 1) (startG L tags nested m n) n := by
  have hi := nx_lt L m (n + 1) (by omega)
  have h0 : GInv ⟨[], [], 0, m + 1⟩ := ⟨rfl, fun x hx => by (cases hx), fun y hy => by (cases hy), List.Pairwise.nil⟩
  have hz : Sz (m + 1) ⟨[], [], 0, m + 1⟩ 0 := ⟨Nat.le_refl _, Nat.le_refl _, Nat.le_refl _, fun y hy => by (cases hy), Nat.le_refl _, Nat.le_refl _, Nat.le_refl _⟩
  have h := run_inv L tags nested (m + 1) (nx L m (n + 1)) 0 _ h0 hz (by omega)
  exact ⟨h.1, h.2.more (by omega)⟩
theorem lenI_tl (l : List It) : lenI l ≤ txtI l + l.length := by
  refine list_rev (P := fun l => lenI l ≤ txtI l + l.length) (Nat.le_refl _) (fun l x ih => ?_) l
  rw [lenI_snoc, txtI_snoc, List.length_append]
  have : wid x ≤ x.t.size + 1 := by unfold wid; split <;> omega
  simp; omega
/-- The closing tags behind a fragment. -/
theorem closers_valid {s : St} (h : GInv s) (hid : s.id ≤ 900) : ∀ d i, d + i = s.o.length → errL [] (s.f ++ (s.o.drop i).reverse.map closeI) = 0 ∧ tagsL (s.f ++ (s.o.drop i).reverse.map closeI) = tagsL s.f ++ (s.o.drop i).reverse.map closeI := by
  intro d
  induction d with
  | zero => intro i hi; rw [show i = s.o.length by omega]; simp [h.e]
  | succ d ih =>
    intro i hi
    have hlt : i < s.o.length := by omega
    obtain ⟨e1, e2⟩ := ih (i + 1) (by omega)
    rw [List.drop_eq_getElem_cons hlt, List.reverse_cons, List.map_append, ← List.append_assoc, ← List.append_assoc, ← e2]
    have hin : ∀ z ∈ s.o.drop (i + 1), (s.o[i]'hlt).id ≠ z.id := by
      have hd := h.dist
      rw [← List.take_append_drop i s.o, List.drop_eq_getElem_cons hlt, List.pairwise_append, List.pairwise_cons] at hd
      exact hd.2.1.1
    obtain ⟨a, b, c, d⟩ := h.op _ (List.getElem_mem hlt)
    have hids := h.ids _ a
    generalize s.o[i]'hlt = y at *
    generalize s.f ++ (s.o.drop (i + 1)).reverse.map closeI = M at *
    have hu : ∀ z ∈ tagsL M, z.id = y.id → z.k = 2 ∧ nameB z.t = nameB y.t := fun z hz e => by
      rw [e2] at hz
      rcases List.mem_append.1 hz with hz | hz
      · have := d z hz e; subst this; exact ⟨b, rfl⟩
      · obtain ⟨x, hx, rfl⟩ := List.mem_map.1 hz
        exact absurd e.symm (hin x (List.mem_reverse.1 hx))
    have hk : (closeI y).k ≠ 1 := by show (3 : Int) ≠ 1; decide
    have hb : isT (closeI y).k = true → tagBad M (closeI y) = false := fun _ => by
      rw [tagBad_iff]
      intro z hz hzt hzi
      exact ⟨rfl, hu z (mem_tags.2 ⟨hz, hzt⟩) hzi⟩
    refine ⟨?_, ?_⟩
    · show errL [] (M ++ [closeI y]) = 0
      rw [errL_snoc _ _ e1, errAt_zero]
      exact ⟨proper_close (isCon_name c) hids.1 (by omega), fun h => absurd h hk, hb⟩
    · show tagsL (M ++ [closeI y]) = tagsL M ++ [closeI y]
      unfold tagsL; rw [List.filter_append]; rfl
theorem txt_close (o : List It) (h : ∀ y ∈ o, y.t.size ≤ 5) : txtI (o.map closeI) ≤ 5 * o.length := by
  induction o with
  | nil => exact Nat.le_refl _
  | cons y t ih =>
    have h1 := ih (fun z hz => h z (.tail _ hz))
    have h2 := h y (.head _)
    have h3 := name_size y.t
    have e : txtI ((y :: t).map closeI) = (nameB y.t).size + txtI (t.map closeI) := rfl
    rw [e, List.length_cons]; omega
structure FragOk (n : Nat) (f : List It) : Prop where
  e : errL [] f = 0
  len : f.length ≤ 2 * n
  txt : txtI f ≤ 23 * n
theorem frag_ok (L : List Int) (tags nested : Bool) (m n : Nat) (hn : n ≤ 800) : FragOk n (fragG L tags nested m n).1 ∧ m + 1 ≤ (fragG L tags nested m n).2 ∧ (fragG L tags nested m n).2 ≤ m + 1 + 10 * n := by
  obtain ⟨hi, hz⟩ := start_inv L tags nested m n hn
  unfold fragG
  generalize startG L tags nested m n = s at *
  have h1 := hz.fl; have h2 := hz.ft; have h3 := hz.ol; have h4 := hz.m; have h5 := hz.lo
  refine ⟨?_, h5, h4⟩
  dsimp only
  by_cases hb : nested = true
  · rw [if_pos hb]
    have hc := (closers_valid hi (by have := hz.id; omega) s.o.length 0 (by omega)).1
    rw [List.drop_zero] at hc
    refine ⟨hc, ?_, ?_⟩
    · rw [List.length_append, List.length_map, List.length_reverse]; omega
    · rw [txtI_append]
      have := txt_close s.o.reverse (fun y hy => hz.ot y (List.mem_reverse.1 hy))
      rw [List.length_reverse] at this; omega
  · rw [if_neg hb]; exact ⟨hi.e, by omega, by omega⟩
theorem FragOk.lenI {n : Nat} {f : List It} (h : FragOk n f) : lenI f ≤ 25 * n := by
  have h1 := h.len; have h2 := h.txt; have := lenI_tl f; omega
theorem FragOk.valid {n : Nat} {f : List It} (h : FragOk n f) (hn : n ≤ 40) : valE f = 0 := by
  unfold valE
  have h1 := h.len; have h2 := h.lenI
  rw [if_neg (by omega)]; exact h.e

/-! ### shapes -/
theorem sh_add (f : List It) (x : It) : shL (norm (f ++ [x])) = shS (shL f) x := by rw [sh_norm]; unfold shL; rw [List.foldl_append]; rfl
theorem shape_step {s : St} (h : shL s.f = some ([], s.o.map It.id)) (L : List Int) (tags : Bool) : shL (stepG L tags true s).f = some ([], (stepG L tags true s).o.map It.id) := by
  obtain ⟨f, o, id, m⟩ := s
  unfold stepG
  dsimp only
  have hf : shL f = some ([], o.map It.id) := h
  have htext : shL (norm (f ++ [⟨1, (lineF L m 3).1, 0⟩])) = some ([], o.map It.id) := by rw [sh_add, hf]; rfl
  have hc := nx_lt L (lineF L m 3).2 8 (by decide)
  by_cases c1 : nx L (lineF L m 3).2 8 = 0 ∨ nx L (lineF L m 3).2 8 = 1
  · rw [nextG_slot L tags true o id m c1]
    dsimp only
    rw [sh_add, hf]; rfl
  have hclose : (nx L (lineF L m 3).2 8 = 5 ∨ nx L (lineF L m 3).2 8 = 6) → 0 < o.length → shL (norm (f ++ [(nextG L tags true o id m).1])) = some ([], (nextG L tags true o id m).2.1.map It.id) := by
    intro c5 ho
    rw [nextG_close L tags true o id m c5 ho _ rfl]
    unfold pickK
    rw [if_pos rfl]
    dsimp only
    obtain ⟨O, y, e, hl⟩ := out_last o ho
    subst e
    have e1 : (O ++ [y]).length - 1 = O.length := by simp
    rw [e1, sh_add, hf]
    have e2 : (O ++ [y]).getD O.length ⟨0, .empty, 0⟩ = y := by rw [List.getD_eq_getElem?_getD]; simp
    have e3 : List.take O.length (O ++ [y]) ++ List.drop (O.length + 1) (O ++ [y]) = O := by simp
    rw [e2, e3]
    unfold shS closeI
    simp
  by_cases ht : tags = true
  · by_cases c2 : nx L (lineF L m 3).2 8 = 2
    · rw [nextG_empty L tags true o id m c2 ht]
      dsimp only
      rw [sh_add, hf]; rfl
    by_cases c3 : nx L (lineF L m 3).2 8 = 3 ∨ nx L (lineF L m 3).2 8 = 4
    · rw [nextG_open L tags true o id m c3 ht]
      dsimp only
      rw [sh_add, hf, List.map_append]; rfl
    by_cases c5 : nx L (lineF L m 3).2 8 = 5 ∨ nx L (lineF L m 3).2 8 = 6
    · by_cases ho : 0 < o.length
      · exact hclose c5 ho
      · rw [nextG_text L tags true o id m (.inr (.inr ⟨by omega, by omega, ho, fun hh => by cases hh.2⟩))]
        exact htext
    · rw [nextG_text L tags true o id m (.inl (by omega))]
      exact htext
  · have ht' : tags = false := by simpa using ht
    by_cases c5 : nx L (lineF L m 3).2 8 = 5 ∨ nx L (lineF L m 3).2 8 = 6
    · by_cases ho : 0 < o.length
      · exact hclose c5 ho
      · rw [nextG_text L tags true o id m (.inr (.inr ⟨by omega, by omega, ho, fun hh => ht hh.1⟩))]
        exact htext
    · rw [nextG_text L tags true o id m (by
        by_cases h7 : nx L (lineF L m 3).2 8 = 7
        · exact .inl h7
        · exact .inr (.inl ⟨by omega, by omega, ht'⟩))]
      exact htext
theorem run_shape (L : List Int) (tags : Bool) : ∀ (k : Nat) (s : St), shL s.f = some ([], s.o.map It.id) → shL (runG L tags true k s).f = some ([], (runG L tags true k s).o.map It.id) := by
  intro k
  induction k with
  | zero => intro s h; exact h
  | succ k ih => intro s h; exact ih _ (shape_step h L tags)
theorem close_shape (o : List It) : ∀ c, o.reverse.foldl (fun st y => shS st (closeI y)) (some (c, o.map It.id)) = some (c, []) := by
  refine list_rev (P := fun o => ∀ c, o.reverse.foldl (fun st y => shS st (closeI y)) (some (c, o.map It.id)) = some (c, [])) (fun c => rfl) (fun l x ih c => ?_) o
  rw [List.reverse_append, List.map_append]
  show ([x] ++ l.reverse).foldl _ _ = _
  rw [List.foldl_append]
  have : List.foldl (fun st y => shS st (closeI y)) (some (c, List.map It.id l ++ List.map It.id [x])) [x] = some (c, l.map It.id) := by
    rw [List.foldl_cons, List.foldl_nil]
    unfold shS closeI
    simp
  rw [this, ih]
theorem frag_shape (L : List Int) (tags : Bool) (m n : Nat) : shL (fragG L tags true m n).1 = some ([], []) := by
  unfold fragG startG
  have h := run_shape L tags (nx L m (n + 1)) ⟨[], [], 0, m + 1⟩ rfl
  generalize runG L tags true (nx L m (n + 1)) ⟨[], [], 0, m + 1⟩ = s at *
  dsimp only
  rw [if_pos rfl]
  unfold shL at *
  rw [List.foldl_append, h, List.foldl_map]
  exact close_shape s.o []
end Go.Proofs.YtphkpokoeaagfaaGreatDoor
