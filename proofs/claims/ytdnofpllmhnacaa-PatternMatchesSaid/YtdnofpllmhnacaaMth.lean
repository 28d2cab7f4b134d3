/- What a pattern matches, and the ends that are reached byte by byte. -/
import Derived.Test.YtdnofpllmhnacaaBeg
namespace Go.Proofs.Ytdnofpllmhnacaa
set_option linter.unusedVariables false
set_option linter.unusedSimpArgs false

/-- What an atom matches. -/
def AM (a : At) (x : List Nat) : Prop := (∀ c ∈ x, a.s c = true) ∧ ((x = [] ∧ a.mn ≤ 0) ∨ x.length = 1 ∨ (a.many = true ∧ x ≠ []))
/-- What a pattern matches. -/
def Mat : List At → List Nat → Prop
  | [], l => l = []
  | a :: P, l => ∃ x y, l = x ++ y ∧ AM a x ∧ Mat P y
theorem Mat_append (P Q : List At) (l : List Nat) : Mat (P ++ Q) l ↔ ∃ x y, l = x ++ y ∧ Mat P x ∧ Mat Q y := by
  induction P generalizing l with
  | nil =>
    simp only [List.nil_append, Mat]
    constructor
    · intro h; exact ⟨[], l, rfl, rfl, h⟩
    · rintro ⟨x, y, rfl, rfl, h⟩; simpa using h
  | cons a P ih =>
    simp only [List.cons_append, Mat, ih]
    constructor
    · rintro ⟨x, y, rfl, ha, u, v, rfl, hu, hv⟩
      exact ⟨x ++ u, v, by simp, ⟨x, u, rfl, ha, hu⟩, hv⟩
    · rintro ⟨_, v, rfl, ⟨x, u, rfl, ha, hu⟩, hv⟩
      exact ⟨x, u ++ v, by simp, ha, u, v, rfl, hu, hv⟩
theorem Mat_one (a : At) (l : List Nat) : Mat [a] l ↔ AM a l := by
  simp only [Mat]
  constructor
  · rintro ⟨x, y, rfl, ha, rfl⟩; simpa using ha
  · intro h; exact ⟨l, [], by simp, h, rfl⟩
theorem Mat_snoc (P : List At) (a : At) (l : List Nat) : Mat (P ++ [a]) l ↔ ∃ x y, l = x ++ y ∧ Mat P x ∧ AM a y := by
  rw [Mat_append]; simp only [Mat_one]
theorem AM_reverse (a : At) (x : List Nat) : AM a x.reverse ↔ AM a x := by
  unfold AM; simp
theorem Mat_reverse (P : List At) (l : List Nat) : Mat P.reverse l.reverse ↔ Mat P l := by
  induction P generalizing l with
  | nil => simp [Mat]
  | cons a P ih =>
    rw [List.reverse_cons, Mat_snoc]
    simp only [Mat]
    constructor
    · rintro ⟨x, y, h, hx, hy⟩
      refine ⟨y.reverse, x.reverse, ?_, (AM_reverse a y).2 hy, ?_⟩
      · have := congrArg List.reverse h; simpa using this
      · rw [← ih, List.reverse_reverse]; exact hx
    · rintro ⟨x, y, rfl, hx, hy⟩
      exact ⟨y.reverse, x.reverse, by simp, (ih y).2 hy, (AM_reverse a x).2 hx⟩
theorem AM_nil (a : At) : AM a [] ↔ a.mn ≤ 0 := by unfold AM; simp
theorem AM_snoc (a : At) (y : List Nat) (b : Nat) : AM a (y ++ [b]) ↔ (∀ c ∈ y, a.s c = true) ∧ a.s b = true ∧ (y = [] ∨ a.many = true) := by
  unfold AM
  simp only [List.mem_append, List.mem_singleton, List.length_append, List.length_singleton]
  constructor
  · rintro ⟨h1, h2⟩
    refine ⟨fun c hc => h1 c (Or.inl hc), h1 b (Or.inr rfl), ?_⟩
    rcases h2 with ⟨h2, _⟩ | h2 | ⟨h2, _⟩
    · simp at h2
    · left; exact List.eq_nil_of_length_eq_zero (by omega)
    · right; exact h2
  · rintro ⟨h1, h2, h3⟩
    refine ⟨fun c hc => hc.elim (h1 c) (fun e => e ▸ h2), ?_⟩
    rcases h3 with rfl | h3
    · right; left; simp
    · right; right; exact ⟨h3, by simp⟩
/-- One more byte behind, one more atom behind. -/
theorem Mat_step (P : List At) (a : At) (l : List Nat) (b : Nat) : Mat (P ++ [a]) (l ++ [b]) ↔ (((Mat P l ∨ (a.many = true ∧ Mat (P ++ [a]) l)) ∧ a.s b = true) ∨ (Mat P (l ++ [b]) ∧ a.mn ≤ 0)) := by
  rw [Mat_snoc, Mat_snoc]
  constructor
  · rintro ⟨x, y, h, hx, hy⟩
    rcases List.eq_nil_or_concat y with rfl | ⟨y', c, rfl⟩
    · right; rw [List.append_nil] at h; rw [h]; exact ⟨hx, (AM_nil a).1 hy⟩
    · rw [List.concat_eq_append] at h hy
      rw [← List.append_assoc] at h
      have h' := List.append_inj' h rfl
      obtain ⟨h1, h2⟩ := h'
      have h2 : b = c := by simpa using h2
      subst h2
      rw [AM_snoc] at hy
      obtain ⟨h3, h4, h5⟩ := hy
      left
      refine ⟨?_, h4⟩
      by_cases e : y' = []
      · left; rw [h1, e, List.append_nil]; exact hx
      · have hm := h5.resolve_left e
        right; exact ⟨hm, x, y', h1, hx, h3, Or.inr (Or.inr ⟨hm, e⟩)⟩
  · rintro (⟨h1 | ⟨h1, x, y, rfl, hx, hy⟩, h2⟩ | ⟨h1, h2⟩)
    · exact ⟨l, [b], rfl, h1, by rw [show [b] = [] ++ [b] from rfl, AM_snoc]; exact ⟨by simp, h2, Or.inl rfl⟩⟩
    · exact ⟨x, y ++ [b], by simp, hx, by rw [AM_snoc]; exact ⟨hy.1, h2, Or.inr h1⟩⟩
    · exact ⟨l ++ [b], [], by simp, h1, (AM_nil a).2 h2⟩
theorem Mat_step0 (P : List At) (a : At) : Mat (P ++ [a]) [] ↔ (Mat P [] ∧ a.mn ≤ 0) := by
  rw [Mat_snoc]
  constructor
  · rintro ⟨x, y, h, hx, hy⟩
    have h := List.append_eq_nil_iff.1 h.symm
    obtain ⟨rfl, rfl⟩ := h
    exact ⟨hx, (AM_nil a).1 hy⟩
  · rintro ⟨h1, h2⟩; exact ⟨[], [], rfl, h1, (AM_nil a).2 h2⟩

/-! ### ends, byte by byte -/
def newB (P : List At) (E : List Bool) (b j : Nat) : Bool := (E[j]! || (P[j]!.many && E[j + 1]!)) && P[j]!.s b
/-- The ends in the midst of read: those of the first k atoms are the old ones. -/
def rdK (P : List At) (E : List Bool) (b k : Nat) : List Bool := (List.range E.length).map fun j => if k < j then newB P E b (j - 1) else E[j]!
theorem rdK_len (P : List At) (E : List Bool) (b k : Nat) : (rdK P E b k).length = E.length := by simp [rdK]
theorem rdK_at (P : List At) (E : List Bool) (b k j : Nat) (hj : j < E.length) : (rdK P E b k)[j]? = some (if k < j then newB P E b (j - 1) else E[j]!) := by
  unfold rdK; rw [List.getElem?_map, List.getElem?_range hj]; rfl
theorem rdK_top (P : List At) (E : List Bool) (b k : Nat) (h : E.length ≤ k + 1) : rdK P E b k = E := by
  apply List.ext_getElem?
  intro j
  by_cases hj : j < E.length
  · rw [rdK_at P E b k j hj, if_neg (by omega), List.getElem?_eq_getElem hj, getElem!_pos E j hj]
  · rw [List.getElem?_eq_none (by rw [rdK_len]; omega), List.getElem?_eq_none (by omega)]
theorem rdK_step (P : List At) (E : List Bool) (b k : Nat) (h : k + 1 < E.length) : rdK P E b k = (rdK P E b (k + 1)).set (k + 1) (newB P E b k) := by
  apply List.ext_getElem?
  intro j
  by_cases hj : j < E.length
  · rw [List.getElem?_set, rdK_at P E b k j hj, rdK_at P E b (k + 1) j hj, rdK_len, if_pos h]
    by_cases e : k + 1 = j
    · subst e; rw [if_pos rfl, if_pos (by omega)]; rfl
    · rw [if_neg e]
      by_cases h1 : k < j
      · rw [if_pos h1, if_pos (by omega)]
      · rw [if_neg h1, if_neg (by omega)]
  · rw [List.getElem?_eq_none (by rw [rdK_len]; omega), List.getElem?_eq_none (by rw [List.length_set, rdK_len]; omega)]
/-- The ends behind one more byte. -/
def stepE (P : List At) (E : List Bool) (b : Nat) : List Bool := skE P ((rdK P E b 0).set 0 false) P.length
theorem stepE_len (P : List At) (E : List Bool) (b : Nat) : (stepE P E b).length = E.length := by unfold stepE; rw [skE_len, List.length_set, rdK_len]
/-- The ends before the first byte. -/
def firstE (P : List At) : List Bool := skE P (ends0 P.length) P.length
theorem firstE_len (P : List At) : (firstE P).length = P.length + 1 := by unfold firstE; rw [skE_len, ends0_length]
def foldE (P : List At) (l : List Nat) : List Bool := l.foldl (stepE P) (firstE P)
theorem foldE_len (P : List At) (l : List Nat) : (foldE P l).length = P.length + 1 := by
  unfold foldE
  have : ∀ (l : List Nat) (E : List Bool), E.length = P.length + 1 → (l.foldl (stepE P) E).length = P.length + 1 := by
    intro l
    induction l with
    | nil => intro E h; exact h
    | cons b l ih => intro E h; exact ih _ (by rw [stepE_len]; exact h)
  exact this l _ (firstE_len P)
theorem foldE_snoc (P : List At) (l : List Nat) (b : Nat) : foldE P (l ++ [b]) = stepE P (foldE P l) b := by unfold foldE; rw [List.foldl_append]; rfl
def matchF (P : List At) (l : List Nat) : Bool := (foldE P l)[P.length]!

/-- What skip leaves, one by one. -/
theorem skE_at (P : List At) (F : List Bool) (k j : Nat) (hk : k ≤ P.length) (hF : F.length = P.length + 1) (hj : j ≤ P.length) : (skE P F k)[j]! = if j ≤ k then (skE P F j)[j]! else F[j]! := by
  induction k with
  | zero =>
    by_cases h : j ≤ 0
    · rw [if_pos h]; obtain rfl : j = 0 := by omega
      rfl
    · rw [if_neg h]; rfl
  | succ k ih =>
    have ih := ih (by omega)
    have hl : (skE P F k).length = P.length + 1 := by rw [skE_len, hF]
    by_cases h1 : j ≤ k
    · rw [if_pos (by omega)]; rw [if_pos h1] at ih
      rw [← ih, skE]
      split
      · rw [getElem!_pos _ j (by rw [List.length_set]; omega), List.getElem_set_ne (by omega), getElem!_pos _ j (by omega)]
      · rfl
    · by_cases h2 : j = k + 1
      · subst h2; rw [if_pos (Nat.le_refl _)]
      · rw [if_neg (by omega)]; rw [if_neg h1] at ih
        rw [← ih, skE]
        split
        · rw [getElem!_pos _ j (by rw [List.length_set]; omega), List.getElem_set_ne (by omega), getElem!_pos _ j (by omega)]
        · rfl
theorem skE_succ (P : List At) (F : List Bool) (j : Nat) (hF : F.length = P.length + 1) (hj : j < P.length) : (skE P F P.length)[j + 1]! = (F[j + 1]! || ((skE P F P.length)[j]! && decide (P[j]!.mn ≤ 0))) := by
  have hl : (skE P F j).length = P.length + 1 := by rw [skE_len, hF]
  rw [skE_at P F P.length (j + 1) (Nat.le_refl _) hF (by omega), if_pos (by omega), skE_at P F P.length j (Nat.le_refl _) hF (by omega), if_pos (by omega)]
  have h0 : (skE P F j)[j + 1]! = F[j + 1]! := by rw [skE_at P F j (j + 1) (by omega) hF (by omega), if_neg (by omega)]
  by_cases hc : ((skE P F j)[j]! && decide (P[j]!.mn ≤ 0)) = true
  · rw [skE_yes hc, hc, getElem!_pos _ (j + 1) (by rw [List.length_set]; omega), List.getElem_set_self, Bool.or_true]
  · have hc : ((skE P F j)[j]! && decide (P[j]!.mn ≤ 0)) = false := by simpa using hc
    rw [skE_no hc, hc, h0, Bool.or_false]
theorem skE_zero (P : List At) (F : List Bool) (hF : F.length = P.length + 1) : (skE P F P.length)[0]! = F[0]! := by
  rw [skE_at P F P.length 0 (Nat.le_refl _) hF (by omega), if_pos (by omega)]; rfl
/-- The ends are what the pattern's beginnings match. -/
def EndsOf (P : List At) (E : List Bool) (l : List Nat) : Prop := E.length = P.length + 1 ∧ ∀ j, j ≤ P.length → (E[j]! = true ↔ Mat (P.take j) l)
theorem take_next (P : List At) (j : Nat) (hj : j < P.length) : P.take (j + 1) = P.take j ++ [P[j]!] := by
  rw [List.take_succ_eq_append_getElem hj, getElem!_pos P j hj]
theorem ends_first (P : List At) : EndsOf P (firstE P) [] := by
  refine ⟨firstE_len P, fun j => ?_⟩
  induction j with
  | zero => intro _; unfold firstE; rw [skE_zero P _ (ends0_length _)]; simp [ends0, Mat]
  | succ j ih =>
    intro hj
    have ih := ih (by omega)
    have h0 : (ends0 P.length)[j + 1]! = false := by
      rw [getElem!_pos _ _ (by rw [ends0_length]; omega)]; simp [ends0]
    have := skE_succ P (ends0 P.length) j (ends0_length _) (by omega)
    unfold firstE at ih ⊢
    rw [this, h0, take_next P j (by omega), Mat_step0, ← ih]
    simp
theorem ends_step {P : List At} {E : List Bool} {l : List Nat} (h : EndsOf P E l) (b : Nat) : EndsOf P (stepE P E b) (l ++ [b]) := by
  obtain ⟨hl, he⟩ := h
  have hF : ((rdK P E b 0).set 0 false).length = P.length + 1 := by rw [List.length_set, rdK_len, hl]
  refine ⟨by rw [stepE_len, hl], fun j => ?_⟩
  induction j with
  | zero =>
    intro _
    unfold stepE; rw [skE_zero P _ hF, getElem!_pos _ 0 (by rw [hF]; omega), List.getElem_set_self]; simp [Mat]
  | succ j ih =>
    intro hj
    have ih := ih (by omega)
    have hn : ((rdK P E b 0).set 0 false)[j + 1]! = newB P E b j := by
      rw [getElem!_pos _ _ (by rw [hF]; omega), List.getElem_set_ne (by omega)]
      have := rdK_at P E b 0 (j + 1) (by omega)
      rw [List.getElem?_eq_getElem (by rw [rdK_len]; omega)] at this
      rw [Option.some.inj this, if_pos (by omega)]; rfl
    have := skE_succ P _ j hF (by omega)
    unfold stepE at ih ⊢
    rw [this, hn, take_next P j (by omega), Mat_step, ← take_next P j (by omega), ← ih, ← he j (by omega), ← he (j + 1) (by omega)]
    unfold newB
    simp
theorem ends_fold (P : List At) (l : List Nat) : EndsOf P (foldE P l) l := by
  suffices h : ∀ n (l : List Nat), l.length = n → EndsOf P (foldE P l) l from h _ l rfl
  intro n
  induction n with
  | zero => intro l hl; rw [List.eq_nil_of_length_eq_zero hl]; exact ends_first P
  | succ n ih =>
    intro l hl
    rcases List.eq_nil_or_concat l with rfl | ⟨l', b, rfl⟩
    · simp at hl
    · rw [List.concat_eq_append] at hl ⊢
      rw [foldE_snoc]
      exact ends_step (ih l' (by simpa using hl)) b
theorem match_iff (P : List At) (l : List Nat) : matchF P l = true ↔ Mat P l := by
  have := (ends_fold P l).2 P.length (Nat.le_refl _)
  rwa [List.take_length] at this
/-- Where nothing is reached, nothing is reached any more. -/
theorem any_none {E : List Bool} {n : Nat} (hl : E.length = n + 1) (h : anyE E n = false) (j : Nat) (hj : j ≤ n) : E[j]! = false := by
  unfold anyE at h
  rw [List.take_of_length_le (by omega), List.any_eq_false] at h
  have := h E[j]! (by rw [getElem!_pos E j (by omega)]; exact List.getElem_mem _)
  simpa using this
theorem none_more {P : List At} {l : List Nat} (h : ∀ j, j ≤ P.length → ¬ Mat (P.take j) l) (m : List Nat) : ∀ j, j ≤ P.length → ¬ Mat (P.take j) (l ++ m) := by
  suffices hs : ∀ n (m : List Nat), m.length = n → ∀ j, j ≤ P.length → ¬ Mat (P.take j) (l ++ m) from hs _ m rfl
  intro n
  induction n with
  | zero => intro m hm; rw [List.eq_nil_of_length_eq_zero hm, List.append_nil]; exact h
  | succ n ih =>
    intro m hm
    rcases List.eq_nil_or_concat m with rfl | ⟨m', b, rfl⟩
    · simp at hm
    · rw [List.concat_eq_append] at hm ⊢
      have ih := ih m' (by simpa using hm)
      rw [← List.append_assoc]
      intro j
      induction j with
      | zero => intro _; simp [Mat]
      | succ j ihj =>
        intro hj
        rw [take_next P j (by omega), Mat_step, ← take_next P j (by omega)]
        have h1 := ihj (by omega); have h2 := ih j (by omega); have h3 := ih (j + 1) hj
        rintro (⟨h4 | ⟨_, h4⟩, _⟩ | ⟨h4, _⟩)
        · exact h2 h4
        · exact h3 h4
        · exact h1 h4
theorem fold_none {P : List At} {l : List Nat} (h : anyE (foldE P l) P.length = false) (m : List Nat) : matchF P (l ++ m) = false := by
  have h1 : ∀ j, j ≤ P.length → ¬ Mat (P.take j) l := fun j hj hm => by
    have := ((ends_fold P l).2 j hj).2 hm
    rw [any_none (foldE_len P l) h j hj] at this; cases this
  cases hc : matchF P (l ++ m) with
  | false => rfl
  | true => exact absurd (by rw [List.take_length]; exact (match_iff P _).1 hc) (none_more h1 m P.length (Nat.le_refl _))
/-- The bytes of a string. -/
def byt (s : ByteArray) : List Nat := s.data.toList.map UInt8.toNat
theorem byt_len (s : ByteArray) : (byt s).length = s.size := by unfold byt; rw [List.length_map]; rfl
theorem byt_take (s : ByteArray) (k : Nat) (h : k < s.size) : (byt s).take (k + 1) = (byt s).take k ++ [(s[k]'h).toNat] := by
  rw [List.take_succ_eq_append_getElem (by rw [byt_len]; exact h)]
  unfold byt; simp only [List.getElem_map]; rfl
end Go.Proofs.Ytdnofpllmhnacaa
