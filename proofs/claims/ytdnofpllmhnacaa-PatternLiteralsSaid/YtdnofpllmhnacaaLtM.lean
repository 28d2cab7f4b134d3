/- What Parse makes of letters and signs behind backslashes. -/
import Derived.Test.YtdnofpllmhnacaaRgM
namespace Go.Proofs.Ytdnofpllmhnacaa
set_option linter.unusedVariables false
set_option linter.unusedSimpArgs false
set_option maxRecDepth 100000

def ltT : List Nat := [97, 90, 48, 46, 42, 43, 63, 40, 41, 124, 91, 93, 123, 125, 92, 94, 45, 33]
def bare (c : Nat) : Bool := decide (c = 97) || decide (c = 90) || decide (c = 48)
def enc (c : Nat) : List Nat := if bare c then [c] else [92, c]
def litA (c : Nat) : At := ⟨addS emptyS c, 1, false⟩
def good (c : Nat) : Bool := decide (c < 256) && if bare c then okB sgO false c && !(decide (c = 92)) && !(decide (c = 46)) && !(decide (c = 91)) else okB sgO true c && (nmS c).isNone
theorem good_all : ∀ c ∈ ltT, good c = true := by decide
def encL (l : List Nat) : List Nat := l.flatMap enc
theorem encL_append (l m : List Nat) : encL (l ++ m) = encL l ++ encL m := by unfold encL; rw [List.flatMap_append]
theorem encL_cons (c : Nat) (l : List Nat) : encL (c :: l) = enc c ++ encL l := by unfold encL; rw [List.flatMap_cons]
theorem encL_lt (l : List Nat) (h : ∀ c ∈ l, good c = true) : ∀ c ∈ encL l, c < 256 := fun c hc => by
  obtain ⟨x, hx, hcx⟩ := List.mem_flatMap.1 hc
  have hg := h x hx
  unfold good at hg
  simp only [Bool.and_eq_true, decide_eq_true_eq] at hg
  unfold enc at hcx
  split at hcx
  · simp at hcx; omega
  · simp at hcx; omega
/-- What stands behind: the end, a bare letter, or a backslash. -/
theorem head_enc (l : List Nat) : (encL l).getD 0 0 = 0 ∨ bare ((encL l).getD 0 0) = true ∨ (encL l).getD 0 0 = 92 := by
  cases l with
  | nil => left; rfl
  | cons c l =>
    rw [encL_cons]
    unfold enc
    by_cases h : bare c = true
    · rw [if_pos h]; right; left; simpa using h
    · rw [if_neg h]; right; right; rfl
theorem no_quant {s : ByteArray} {n : Nat} {l : List Nat} (h : pk s n = (encL l).getD 0 0) : quF s n = (1, false, n) := by
  unfold quF
  have h2 := head_enc l
  rw [← h] at h2
  have : pk s n ≠ 42 ∧ pk s n ≠ 43 ∧ pk s n ≠ 63 := by
    rcases h2 with h2 | h2 | h2
    · omega
    · unfold bare at h2; simp at h2; omega
    · omega
  rw [if_neg this.1, if_neg this.2.1, if_neg this.2.2]
theorem st_lit {s : ByteArray} {n c : Nat} (hg : good c = true) (h0 : pk s n = (enc c).getD 0 0) (h1 : bare c = false → pk s (n + 1) = c) : stF s n = (some (addS emptyS c), n + (enc c).length) := by
  unfold good at hg
  unfold enc at h0 ⊢
  by_cases hb : bare c = true
  · rw [if_pos hb] at h0 ⊢ hg
    simp only [Bool.and_eq_true, Bool.not_eq_true', decide_eq_false_iff_not, decide_eq_true_eq] at hg
    obtain ⟨hlt, ⟨⟨hok, h92⟩, h46⟩, h91⟩ := hg
    have hp : pk s n = c := h0
    unfold stF
    rw [hp, if_neg h46, if_neg h91]
    have hd : ndF s n = none := by unfold ndF; rw [hp, if_neg h92]
    have ha : rbA s n = n := by unfold rbA; rw [hp, if_neg h92]
    have hr : rbF sgO s n = (some c, n + 1) := by unfold rbF; rw [ha, hp, decide_eq_false h92, if_pos hok]
    rw [hd, hr]; rfl
  · have hb' : bare c = false := by simpa using hb
    rw [if_neg hb] at h0 ⊢ hg
    simp only [Bool.and_eq_true, decide_eq_true_eq, Option.isNone_iff_eq_none] at hg
    obtain ⟨hlt, hok, hnm⟩ := hg
    have hp : pk s n = 92 := h0
    have hp1 := h1 hb'
    unfold stF
    rw [hp, if_neg (by decide), if_neg (by decide)]
    have hd : ndF s n = none := by unfold ndF; rw [if_pos hp, hp1]; exact hnm
    have ha : rbA s n = n + 1 := by unfold rbA; rw [if_pos hp]
    have hr : rbF sgO s n = (some c, n + 2) := by unfold rbF; rw [ha, hp1, decide_eq_true hp, if_pos hok]
    rw [hd, hr]; rfl
theorem prs_lit (m : List Nat) : ∀ (l : List Nat) (f : Nat), (∀ c ∈ l ++ m, good c = true) → l.length + m.length ≤ 32 → (encL m).length < f →
    prsF (mkB (encL (l ++ m))) f (encL l).length (l.map litA) = ((l ++ m).map litA, 0, 0) := by
  induction m with
  | nil =>
    intro l f hg hl hf
    obtain ⟨f, rfl⟩ : ∃ g, f = g + 1 := ⟨f - 1, by omega⟩
    rw [prsF, if_pos (by rw [mkB_size, List.append_nil]; exact Nat.le_refl _), List.append_nil]
  | cons c m ih =>
    intro l f hg hl hf
    obtain ⟨f, rfl⟩ : ∃ g, f = g + 1 := ⟨f - 1, by omega⟩
    have hgc : good c = true := hg c (by simp)
    have hlen : (encL (l ++ c :: m)).length = (encL l).length + ((enc c).length + (encL m).length) := by rw [encL_append, encL_cons]; simp
    have hec : 0 < (enc c).length := by unfold enc; split <;> simp
    have hp : ∀ j, pk (mkB (encL (l ++ c :: m))) ((encL l).length + j) = (enc c ++ encL m).getD j 0 := fun j => by
      rw [pk_mkB _ (encL_lt _ hg), encL_append, encL_cons, List.getD_eq_getElem?_getD, List.getD_eq_getElem?_getD, List.getElem?_append_right (by omega)]
      congr 2; omega
    have h0 : pk (mkB (encL (l ++ c :: m))) (encL l).length = (enc c).getD 0 0 := by
      have := hp 0
      rw [Nat.add_zero] at this
      rw [this, List.getD_eq_getElem?_getD, List.getD_eq_getElem?_getD, List.getElem?_append_left hec]
    have h1 : bare c = false → pk (mkB (encL (l ++ c :: m))) ((encL l).length + 1) = c := fun hb => by
      rw [hp 1]
      unfold enc; rw [if_neg (by rw [hb]; decide)]; rfl
    have hq : pk (mkB (encL (l ++ c :: m))) ((encL l).length + (enc c).length) = (encL m).getD 0 0 := by
      rw [hp, List.getD_eq_getElem?_getD, List.getD_eq_getElem?_getD, List.getElem?_append_right (Nat.le_refl _), Nat.sub_self]
    have ih' := ih (l ++ [c]) f (by simpa using hg) (by simp at hl ⊢; omega) (by rw [encL_cons, List.length_append] at hf; omega)
    rw [show l ++ [c] ++ m = l ++ c :: m by simp] at ih'
    rw [prsF, if_neg (by rw [mkB_size, hlen]; omega), if_neg (by rw [List.length_map]; simp at hl; omega), st_lit hgc h0 h1]
    dsimp only
    rw [no_quant hq]
    dsimp only
    rw [show (encL l).length + (enc c).length = (encL (l ++ [c])).length by rw [encL_append]; simp [encL], show l.map litA ++ [⟨addS emptyS c, 1, false⟩] = (l ++ [c]).map litA by simp [litA]]
    exact ih'
theorem parse_lit (l : List Nat) (hg : ∀ c ∈ l, good c = true) (hl : l.length ≤ 32) : parseF (mkB (encL l)) = (l.map litA, 0, 0) := by
  unfold parseF
  have := prs_lit l [] ((mkB (encL l)).size + 1) (by simpa using hg) (by simpa using hl) (by rw [mkB_size]; omega)
  simpa [encL] using this
theorem am_lit (c : Nat) (x : List Nat) : AM (litA c) x ↔ x = [c] := by
  unfold AM litA addS emptyS
  simp only [Bool.false_or, decide_eq_true_eq]
  constructor
  · rintro ⟨h1, h2⟩
    rcases h2 with ⟨_, h⟩ | h | ⟨h, _⟩
    · omega
    · obtain ⟨y, rfl⟩ := List.length_eq_one_iff.1 h
      rw [h1 y (by simp)]
    · cases h
  · rintro rfl
    exact ⟨by simp, Or.inr (Or.inl rfl)⟩
theorem mat_lit (l : List Nat) : ∀ x, Mat (l.map litA) x ↔ x = l := by
  induction l with
  | nil => intro x; simp [Mat]
  | cons c l ih =>
    intro x
    simp only [List.map_cons, Mat, am_lit, ih]
    constructor
    · rintro ⟨a, b, rfl, rfl, rfl⟩; rfl
    · rintro rfl; exact ⟨[c], l, rfl, rfl, rfl⟩
theorem match_lit (l x : List Nat) : matchF (l.map litA) x = decide (x = l) := by
  rw [Bool.eq_iff_iff, match_iff, mat_lit, decide_eq_true_iff]
end Go.Proofs.Ytdnofpllmhnacaa
