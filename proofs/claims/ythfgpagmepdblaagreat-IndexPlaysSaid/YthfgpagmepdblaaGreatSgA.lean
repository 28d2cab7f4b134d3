/- Shingle: sums over keys; pairs of words and their grams. Shingle: what is missing; the bags; the bound is at most the distance. Shingle: grams as rows, arguments and map keys; classes of tokens as map keys. Shingle: contracts of Words. Shingle: the order of grams, occurrences, equal lists of grams. Shingle: inserting a pair into a list of grams; own rows of grams. -/
import Derived.Test.YthfgpagmepdblaaGreatDtA
import Derived.Lib.Bytealg
import Derived.Test.YthfgpagmepdblaaGreatDtK
import Derived.Sort.Walk0
import Derived.Test.YthfgpagmepdblaaGreatSgR
namespace Go.Proofs.YthfgpagmepdblaaGreat
open Go.ChangeShapes Go.WideShapes Go.ChangeAt Go.RowKit
set_option linter.unusedVariables false
set_option linter.unusedSimpArgs false
set_option linter.unusedSectionVars false
set_option maxRecDepth 100000

section
variable {κ : Type} [DecidableEq κ]
def uniqG : List κ → List κ
  | [] => []
  | x :: l => if x ∈ l then uniqG l else x :: uniqG l
theorem mem_uniqG (l : List κ) (y : κ) : y ∈ uniqG l ↔ y ∈ l := by
  induction l with
  | nil => exact Iff.rfl
  | cons x l ih =>
    rw [uniqG]
    by_cases h : x ∈ l
    · rw [if_pos h, ih, List.mem_cons]
      exact ⟨.inr, fun c => c.elim (fun e => by rw [e]; exact h) id⟩
    · rw [if_neg h, List.mem_cons, List.mem_cons, ih]
theorem nodup_uniqG (l : List κ) : (uniqG l).Nodup := by
  induction l with
  | nil => exact List.nodup_nil
  | cons x l ih =>
    rw [uniqG]
    by_cases h : x ∈ l
    · rw [if_pos h]; exact ih
    · rw [if_neg h]; exact List.nodup_cons.2 ⟨fun c => h ((mem_uniqG l x).1 c), ih⟩
theorem uniqG_len (l : List κ) : (uniqG l).length ≤ l.length := by
  induction l with
  | nil => exact Nat.le_refl _
  | cons x l ih => rw [uniqG]; split
                   · rw [List.length_cons]; omega
                   · rw [List.length_cons, List.length_cons]; omega
def gsum (K : List κ) (g : κ → Nat) : Nat := (K.map g).sum
theorem gsum_nil (g : κ → Nat) : gsum [] g = 0 := rfl
theorem gsum_cons (x : κ) (K : List κ) (g : κ → Nat) : gsum (x :: K) g = g x + gsum K g := by unfold gsum; rw [List.map_cons, List.sum_cons]
theorem gsum_app (K L : List κ) (g : κ → Nat) : gsum (K ++ L) g = gsum K g + gsum L g := by unfold gsum; rw [List.map_append, List.sum_append]
theorem gsum_erase (K : List κ) (x : κ) (h : x ∈ K) (g : κ → Nat) : gsum K g = g x + gsum (K.erase x) g := by
  induction K with
  | nil => cases h
  | cons y K ih =>
    by_cases e : y = x
    · subst e; rw [List.erase_cons_head, gsum_cons]
    · rw [List.erase_cons_tail (by simpa using e), gsum_cons, gsum_cons, ih (by simpa [Ne.symm e] using h)]; omega
theorem gsum_zero (K : List κ) (g : κ → Nat) (h : ∀ y ∈ K, g y = 0) : gsum K g = 0 := by
  induction K with
  | nil => rfl
  | cons x K ih => rw [gsum_cons, h x (List.mem_cons_self ..), ih fun y hy => h y (List.mem_cons_of_mem _ hy)]
theorem gsum_any (K : List κ) : ∀ (L : List κ) (g : κ → Nat), K.Nodup → L.Nodup → (∀ y ∈ K, g y ≠ 0 → y ∈ L) → (∀ y ∈ L, g y ≠ 0 → y ∈ K) → gsum K g = gsum L g := by
  induction K with
  | nil => intro L g _ _ _ h2; rw [gsum_nil, gsum_zero L g fun y hy => by
      rcases Nat.eq_zero_or_pos (g y) with h | h
      · exact h
      · exact absurd (h2 y hy (by omega)) (by simp)]
  | cons x K ih =>
    intro L g hK hL h1 h2
    rw [List.nodup_cons] at hK
    rw [gsum_cons]
    by_cases hx : x ∈ L
    · rw [gsum_erase L x hx g, ih (L.erase x) g hK.2 (hL.erase x)]
      · intro y hy hg
        have hne : y ≠ x := fun e => hK.1 (e ▸ hy)
        exact (List.mem_erase_of_ne hne).2 (h1 y (List.mem_cons_of_mem _ hy) hg)
      · intro y hy hg
        have hy2 := (hL.mem_erase_iff).1 hy
        rcases List.mem_cons.1 (h2 y hy2.2 hg) with e | h
        · exact absurd e hy2.1
        · exact h
    · have hz : g x = 0 := by
        rcases Nat.eq_zero_or_pos (g x) with h | h
        · exact h
        · exact absurd (h1 x (List.mem_cons_self ..) (by omega)) hx
      rw [hz, Nat.zero_add, ih L g hK.2 hL (fun y hy hg => h1 y (List.mem_cons_of_mem _ hy) hg)]
      intro y hy hg
      rcases List.mem_cons.1 (h2 y hy hg) with e | h
      · rw [e] at hy; exact absurd hy hx
      · exact h
theorem gsum_congr (K : List κ) (g f : κ → Nat) (h : ∀ y ∈ K, g y = f y) : gsum K g = gsum K f := by unfold gsum; rw [List.map_congr_left h]
theorem gsum_mono (K : List κ) (g f : κ → Nat) (h : ∀ y ∈ K, g y ≤ f y) : gsum K g ≤ gsum K f := by
  induction K with
  | nil => exact Nat.le_refl _
  | cons x K ih => rw [gsum_cons, gsum_cons]; have := h x (List.mem_cons_self ..); have := ih fun y hy => h y (List.mem_cons_of_mem _ hy); omega
theorem gsum_bd (K : List κ) (g : κ → Nat) (M : Nat) (h : ∀ y ∈ K, g y ≤ M) : gsum K g ≤ K.length * M := by
  induction K with
  | nil => exact Nat.zero_le _
  | cons x K ih => rw [gsum_cons, List.length_cons, Nat.add_mul, Nat.one_mul]; have := h x (List.mem_cons_self ..); have := ih fun y hy => h y (List.mem_cons_of_mem _ hy); omega
/-- A sum in which one key's number is raised by d. -/
theorem gsum_one (K : List κ) (x : κ) (hK : K.Nodup) (g f : κ → Nat) (d : Nat) (hx : f x ≤ g x + d) (h : ∀ y, y ≠ x → f y ≤ g y) : gsum K f ≤ gsum K g + d := by
  by_cases hm : x ∈ K
  · rw [gsum_erase K x hm f, gsum_erase K x hm g]
    have := gsum_mono (K.erase x) f g fun y hy => h y fun e => by rw [e] at hy; exact ((hK.mem_erase_iff).1 hy).1 rfl
    omega
  · exact Nat.le_trans (gsum_mono K f g fun y hy => h y fun e => hm (e ▸ hy)) (by omega)
theorem gsum_one_eq (K : List κ) (x : κ) (hK : K.Nodup) (hm : x ∈ K) (g f : κ → Nat) (d : Nat) (hx : f x = g x + d) (h : ∀ y, y ≠ x → f y = g y) : gsum K f = gsum K g + d := by
  rw [gsum_erase K x hm f, gsum_erase K x hm g]
  have := gsum_congr (K.erase x) f g fun y hy => h y fun e => by rw [e] at hy; exact ((hK.mem_erase_iff).1 hy).1 rfl
  omega
/-- Keys in the order of their first places. -/
def ukK (K : List κ) (x : κ) : List κ := if x ∈ K then K else K ++ [x]
def ukL (l : List κ) : List κ := l.foldl ukK []
theorem ukL_snoc (l : List κ) (x : κ) : ukL (l ++ [x]) = ukK (ukL l) x := by unfold ukL; rw [List.foldl_append]; rfl
theorem ukK_mem (K : List κ) (x y : κ) : y ∈ ukK K x ↔ y ∈ K ∨ y = x := by
  unfold ukK; split
  · rename_i h; exact ⟨.inl, fun c => c.elim id fun e => by rw [e]; exact h⟩
  · simp
theorem ukL_memG (l : List κ) : ∀ (K : List κ) (y : κ), y ∈ l.foldl ukK K ↔ y ∈ K ∨ y ∈ l := by
  induction l with
  | nil => intro K y; simp
  | cons x l ih => intro K y; rw [List.foldl_cons, ih, ukK_mem, List.mem_cons, or_assoc]
theorem ukL_mem (l : List κ) (y : κ) : y ∈ ukL l ↔ y ∈ l := by unfold ukL; rw [ukL_memG]; simp
theorem ukL_nodupG (l : List κ) : ∀ K : List κ, K.Nodup → (l.foldl ukK K).Nodup := by
  induction l with
  | nil => intro K h; exact h
  | cons x l ih =>
    intro K h
    rw [List.foldl_cons]
    refine ih _ ?_
    unfold ukK; split
    · exact h
    · rename_i hx
      rw [List.nodup_append]
      refine ⟨h, by simp, fun a ha b hb e => ?_⟩
      simp at hb; subst hb; subst e; exact hx ha
theorem ukL_nodup (l : List κ) : (ukL l).Nodup := ukL_nodupG l [] List.nodup_nil
end

/-! ### pairs of words -/
structure Pr where
  f : ByteArray
  s : ByteArray
  deriving DecidableEq
def Pr.v (x : Pr) : Value := .agg #[.string x.f, .string x.s]
def prsF (b : ByteArray) : List ByteArray → List Pr
  | [] => [⟨b, ⟨#[]⟩⟩]
  | x :: r => ⟨b, x⟩ :: prsF x r
def prs (w : List ByteArray) : List Pr := prsF ⟨#[]⟩ w
theorem prsF_len (w : List ByteArray) : ∀ b, (prsF b w).length = w.length + 1 := by
  induction w with
  | nil => intro b; rfl
  | cons x r ih => intro b; rw [prsF, List.length_cons, ih, List.length_cons]
theorem prs_len (w : List ByteArray) : (prs w).length = w.length + 1 := prsF_len w _
/-- What stands before word k. -/
def befW (w : List ByteArray) (k : Nat) : ByteArray := if h : 0 < k ∧ k ≤ w.length then w[k - 1]'(by omega) else ⟨#[]⟩
/-- The pairs in front of word k. -/
def prsK (w : List ByteArray) (k : Nat) : List Pr := (prs w).take k
theorem prsF_at (w : List ByteArray) : ∀ b k, (h : k < (prsF b w).length) → (prsF b w)[k]'h = ⟨if k = 0 then b else w.getD (k - 1) ⟨#[]⟩, w.getD k ⟨#[]⟩⟩ := by
  induction w with
  | nil => intro b k h; have : k = 0 := by rw [prsF_len] at h; simp at h; exact h
           subst this; rfl
  | cons x r ih =>
    intro b k h
    cases k with
    | zero => rfl
    | succ k =>
      show (prsF x r)[k]'_ = _
      rw [ih x k]
      simp only [Nat.succ_ne_zero, if_false, Nat.add_sub_cancel, List.getD_cons_succ]
      cases k with
      | zero => rfl
      | succ k => simp
theorem befW_zero (w : List ByteArray) : befW w 0 = ⟨#[]⟩ := by unfold befW; rw [dif_neg (by omega)]
theorem befW_succ (w : List ByteArray) (k : Nat) (h : k < w.length) : befW w (k + 1) = w[k] := by unfold befW; rw [dif_pos ⟨by omega, by omega⟩]; rfl
theorem befW_getD (w : List ByteArray) (k : Nat) (h : k ≤ w.length) : befW w k = if k = 0 then ⟨#[]⟩ else w.getD (k - 1) ⟨#[]⟩ := by
  cases k with
  | zero => rw [befW_zero]; rfl
  | succ k => rw [befW_succ w k (by omega), if_neg (by omega)]; simp [List.getD, List.getElem?_eq_getElem (show k < w.length by omega)]
theorem prsK_next (w : List ByteArray) (k : Nat) (h : k < w.length) : prsK w (k + 1) = prsK w k ++ [⟨befW w k, w[k]⟩] := by
  unfold prsK
  have hl : k < (prs w).length := by rw [prs_len]; omega
  rw [List.take_succ_eq_append_getElem hl]
  congr 1
  congr 1
  refine (prsF_at w _ k (by rw [prsF_len]; omega)).trans ?_
  rw [befW_getD w k (by omega)]
  congr 1
  simp [List.getD, List.getElem?_eq_getElem h]
theorem prsK_last (w : List ByteArray) : prsK w (w.length + 1) = prsK w w.length ++ [⟨befW w w.length, ⟨#[]⟩⟩] := by
  unfold prsK
  have hl : w.length < (prs w).length := by rw [prs_len]; omega
  rw [List.take_succ_eq_append_getElem hl]
  congr 1
  congr 1
  refine (prsF_at w _ w.length (by rw [prsF_len]; omega)).trans ?_
  rw [befW_getD w _ (Nat.le_refl _)]
  congr 1
  simp [List.getD]
theorem prsK_all (w : List ByteArray) : prsK w (w.length + 1) = prs w := by unfold prsK; rw [List.take_of_length_le (by rw [prs_len]; exact Nat.le_refl _)]

/-! ### the order of pairs -/
theorem cmpB_lt : ∀ a b : List UInt8, Lib.compareBytes a b < 0 ↔ a < b
  | [], [] => by simp [Lib.compareBytes]
  | [], _ :: _ => by simp [Lib.compareBytes]
  | _ :: _, [] => by simp [Lib.compareBytes]
  | x :: a, y :: b => by
    unfold Lib.compareBytes
    rw [List.cons_lt_cons_iff]
    by_cases h : x < y
    · simp [h]
    · rw [if_neg h]
      by_cases h2 : y < x
      · rw [if_pos h2]
        have hne : x ≠ y := fun e => by subst e; exact UInt8.lt_irrefl x h2
        simp [h, hne]
      · rw [if_neg h2]
        have e : x = y := UInt8.le_antisymm (UInt8.not_lt.1 h2) (UInt8.not_lt.1 h)
        rw [cmpB_lt a b]; simp [h, e]
theorem cmpB_zero : ∀ a b : List UInt8, Lib.compareBytes a b = 0 ↔ a = b
  | [], [] => by simp [Lib.compareBytes]
  | [], _ :: _ => by simp [Lib.compareBytes]
  | _ :: _, [] => by simp [Lib.compareBytes]
  | x :: a, y :: b => by
    unfold Lib.compareBytes
    by_cases h : x < y
    · have hne : x ≠ y := fun e => by subst e; exact UInt8.lt_irrefl x h
      simp [h, hne]
    · rw [if_neg h]
      by_cases h2 : y < x
      · have hne : x ≠ y := fun e => by subst e; exact UInt8.lt_irrefl x h2
        simp [h2, hne]
      · rw [if_neg h2]
        have e : x = y := UInt8.le_antisymm (UInt8.not_lt.1 h2) (UInt8.not_lt.1 h)
        rw [cmpB_zero a b]; simp [e]
theorem lst_inj {a b : ByteArray} (h : a.data.toList = b.data.toList) : a = b := by
  cases a with | mk a => cases b with | mk b => simp at h; rw [h]
def ltS (a b : ByteArray) : Bool := decide (a.data.toList < b.data.toList)
theorem ltS_irr (a : ByteArray) : ltS a a = false := by unfold ltS; simp [List.lt_irrefl]
theorem ltS_trans {a b c : ByteArray} (h : ltS a b = true) (g : ltS b c = true) : ltS a c = true := by
  unfold ltS at *; rw [decide_eq_true_eq] at *; exact List.lt_trans h g
theorem ltS_tri {a b : ByteArray} (h : ltS a b = false) (g : ltS b a = false) : a = b := by
  unfold ltS at *; rw [decide_eq_false_iff_not] at *
  exact lst_inj (List.le_antisymm (List.not_lt.1 g) (List.not_lt.1 h))
theorem ltS_asym {a b : ByteArray} (h : ltS a b = true) : ltS b a = false := by
  cases g : ltS b a with
  | false => rfl
  | true => have := ltS_trans h g; rw [ltS_irr] at this; cases this
def bfP (a b : Pr) : Bool := ltS a.f b.f || (decide (a.f = b.f) && ltS a.s b.s)
theorem bfP_irr (a : Pr) : bfP a a = false := by unfold bfP; rw [ltS_irr, ltS_irr]; simp
theorem bfP_iff (a b : Pr) : bfP a b = true ↔ ltS a.f b.f = true ∨ (a.f = b.f ∧ ltS a.s b.s = true) := by unfold bfP; simp
theorem bfP_trans {a b c : Pr} (h : bfP a b = true) (g : bfP b c = true) : bfP a c = true := by
  rw [bfP_iff] at *
  rcases h with h | ⟨h1, h2⟩ <;> rcases g with g | ⟨g1, g2⟩
  · exact .inl (ltS_trans h g)
  · rw [← g1]; exact .inl h
  · rw [h1]; exact .inl g
  · exact .inr ⟨h1.trans g1, ltS_trans h2 g2⟩
theorem bfP_tri {a b : Pr} (h : bfP a b = false) (g : bfP b a = false) : a = b := by
  have h1 : ¬ bfP a b = true := by rw [h]; simp
  have g1 : ¬ bfP b a = true := by rw [g]; simp
  rw [bfP_iff] at h1 g1
  have e : a.f = b.f := ltS_tri (by cases q : ltS a.f b.f with | false => rfl | true => exact absurd (.inl q) h1) (by cases q : ltS b.f a.f with | false => rfl | true => exact absurd (.inl q) g1)
  have e2 : a.s = b.s := ltS_tri (by cases q : ltS a.s b.s with | false => rfl | true => exact absurd (.inr ⟨e, q⟩) h1) (by cases q : ltS b.s a.s with | false => rfl | true => exact absurd (.inr ⟨e.symm, q⟩) g1)
  cases a; cases b; simp_all
theorem bfP_asym {a b : Pr} (h : bfP a b = true) : bfP b a = false := by
  cases g : bfP b a with
  | false => rfl
  | true => have := bfP_trans h g; rw [bfP_irr] at this; cases this
/-- What compare answers. -/
def cmpP (a b : Pr) : Int := if Lib.compareBytes a.f.data.toList b.f.data.toList ≠ 0 then Lib.compareBytes a.f.data.toList b.f.data.toList else Lib.compareBytes a.s.data.toList b.s.data.toList
theorem cmpP_lt (a b : Pr) : cmpP a b < 0 ↔ bfP a b = true := by
  rw [bfP_iff]; unfold cmpP ltS
  rw [decide_eq_true_eq, decide_eq_true_eq]
  by_cases h : Lib.compareBytes a.f.data.toList b.f.data.toList = 0
  · rw [if_neg (by simpa using h), cmpB_lt]
    have e := (cmpB_zero _ _).1 h
    have e2 := lst_inj e
    constructor
    · intro c; exact .inr ⟨e2, c⟩
    · rintro (c | c)
      · rw [e] at c; exact absurd c (List.lt_irrefl _)
      · exact c.2
  · rw [if_pos h, cmpB_lt]
    constructor
    · intro c; exact .inl c
    · rintro (c | c)
      · exact c
      · exact absurd ((cmpB_zero _ _).2 (by rw [c.1])) h

/-! ### grams -/
structure Gm where
  f : ByteArray
  s : ByteArray
  n : Int
def Gm.key (g : Gm) : Pr := ⟨g.f, g.s⟩
theorem Gm.ext' {a b : Gm} (h : a.key = b.key) (hn : a.n = b.n) : a = b := by
  cases a; cases b; simp [Gm.key] at h; simp at hn; simp [h, hn]
def gIns (p : Pr) (L : List Gm) : List Gm :=
  L.takeWhile (fun g => bfP g.key p) ++ (match L.dropWhile (fun g => bfP g.key p) with
    | [] => [⟨p.f, p.s, 1⟩]
    | g :: r => if bfP p g.key = true then ⟨p.f, p.s, 1⟩ :: g :: r else ⟨g.f, g.s, g.n + 1⟩ :: r)
theorem gIns_nil (p : Pr) : gIns p [] = [⟨p.f, p.s, 1⟩] := rfl
theorem gIns_before (p : Pr) (g : Gm) (L : List Gm) (h : bfP g.key p = true) : gIns p (g :: L) = g :: gIns p L := by
  unfold gIns; rw [List.takeWhile_cons, List.dropWhile_cons, if_pos h, if_pos h]; rfl
theorem gIns_here (p : Pr) (g : Gm) (L : List Gm) (h : bfP g.key p = false) : gIns p (g :: L) = if bfP p g.key = true then ⟨p.f, p.s, 1⟩ :: g :: L else ⟨g.f, g.s, g.n + 1⟩ :: L := by
  unfold gIns; rw [List.takeWhile_cons, List.dropWhile_cons, if_neg (by rw [h]; simp), if_neg (by rw [h]; simp)]; rfl
def gramsP (P : List Pr) : List Gm := P.foldl (fun L p => gIns p L) []
def gramsL (w : List ByteArray) : List Gm := gramsP (prs w)
theorem gramsP_snoc (P : List Pr) (p : Pr) : gramsP (P ++ [p]) = gIns p (gramsP P) := by unfold gramsP; rw [List.foldl_append]; rfl
/-- Ascending grams whose counts are the occurrences in P. -/
structure GOk (P : List Pr) (L : List Gm) : Prop where
  asc : L.Pairwise fun a b => bfP a.key b.key = true
  cnt : ∀ g ∈ L, g.n = (P.count g.key : Nat) ∧ g.key ∈ P
  all : ∀ p ∈ P, ∃ g ∈ L, g.key = p
theorem gIns_mem (p : Pr) (L : List Gm) (hs : L.Pairwise fun a b => bfP a.key b.key = true) : ∀ g, g ∈ gIns p L → (g.key = p ∧ ((∀ h ∈ L, h.key ≠ p) ∧ g.n = 1 ∨ ∃ h ∈ L, h.key = p ∧ g.n = h.n + 1)) ∨ (g.key ≠ p ∧ g ∈ L) := by
  induction L with
  | nil => intro g hg; rw [gIns_nil] at hg; simp at hg; subst hg; exact .inl ⟨rfl, .inl ⟨by simp, rfl⟩⟩
  | cons x L ih =>
    intro g hg
    rw [List.pairwise_cons] at hs
    cases h : bfP x.key p with
    | true =>
      rw [gIns_before p x L h, List.mem_cons] at hg
      have hne : x.key ≠ p := fun e => by rw [e, bfP_irr] at h; cases h
      rcases hg with rfl | hg
      · exact .inr ⟨hne, List.mem_cons_self ..⟩
      · rcases ih hs.2 g hg with ⟨h1, h2 | h2⟩ | h1
        · exact .inl ⟨h1, .inl ⟨fun y hy => (List.mem_cons.1 hy).elim (fun e => by rw [e]; exact hne) (h2.1 y), h2.2⟩⟩
        · obtain ⟨y, hy, h3⟩ := h2; exact .inl ⟨h1, .inr ⟨y, List.mem_cons_of_mem _ hy, h3⟩⟩
        · exact .inr ⟨h1.1, List.mem_cons_of_mem _ h1.2⟩
    | false =>
      rw [gIns_here p x L h] at hg
      split at hg
      · rename_i h2
        have hall : ∀ y ∈ x :: L, y.key ≠ p := fun y hy e => by
          have : bfP p y.key = true := (List.mem_cons.1 hy).elim (fun e => by rw [e]; exact h2) fun hy => bfP_trans h2 (hs.1 y hy)
          rw [e, bfP_irr] at this; cases this
        rw [List.mem_cons] at hg
        rcases hg with rfl | hg
        · exact .inl ⟨rfl, .inl ⟨hall, rfl⟩⟩
        · exact .inr ⟨hall g hg, hg⟩
      · rename_i h2
        have e : x.key = p := bfP_tri h (by simpa using h2)
        rw [List.mem_cons] at hg
        rcases hg with rfl | hg
        · exact .inl ⟨e, .inr ⟨x, List.mem_cons_self .., e, rfl⟩⟩
        · refine .inr ⟨fun e2 => ?_, List.mem_cons_of_mem _ hg⟩
          have := hs.1 g hg
          rw [e, e2, bfP_irr] at this; cases this
theorem gIns_has (p : Pr) (L : List Gm) : (∃ g ∈ gIns p L, g.key = p) ∧ ∀ g ∈ L, ∃ h ∈ gIns p L, h.key = g.key := by
  induction L with
  | nil => exact ⟨⟨_, by rw [gIns_nil]; exact List.mem_cons_self .., rfl⟩, fun g hg => by cases hg⟩
  | cons x L ih =>
    cases h : bfP x.key p with
    | true =>
      rw [gIns_before p x L h]
      refine ⟨?_, fun g hg => ?_⟩
      · obtain ⟨g, hg, e⟩ := ih.1; exact ⟨g, List.mem_cons_of_mem _ hg, e⟩
      · rcases List.mem_cons.1 hg with rfl | hg
        · exact ⟨g, List.mem_cons_self .., rfl⟩
        · obtain ⟨y, hy, e⟩ := ih.2 g hg; exact ⟨y, List.mem_cons_of_mem _ hy, e⟩
    | false =>
      rw [gIns_here p x L h]
      split
      · exact ⟨⟨_, List.mem_cons_self .., rfl⟩, fun g hg => ⟨g, List.mem_cons_of_mem _ hg, rfl⟩⟩
      · rename_i h2
        have e : x.key = p := bfP_tri h (by simpa using h2)
        refine ⟨⟨_, List.mem_cons_self .., e⟩, fun g hg => ?_⟩
        rcases List.mem_cons.1 hg with rfl | hg
        · exact ⟨_, List.mem_cons_self .., rfl⟩
        · exact ⟨g, List.mem_cons_of_mem _ hg, rfl⟩
theorem gIns_asc (p : Pr) (L : List Gm) (hs : L.Pairwise fun a b => bfP a.key b.key = true) : (gIns p L).Pairwise fun a b => bfP a.key b.key = true := by
  induction L with
  | nil => rw [gIns_nil]; simp
  | cons x L ih =>
    have hs' := List.pairwise_cons.1 hs
    cases h : bfP x.key p with
    | true =>
      rw [gIns_before p x L h, List.pairwise_cons]
      refine ⟨fun g hg => ?_, ih hs'.2⟩
      rcases gIns_mem p L hs'.2 g hg with ⟨e, _⟩ | ⟨_, hm⟩
      · rw [e]; exact h
      · exact hs'.1 g hm
    | false =>
      rw [gIns_here p x L h]
      split
      · rename_i h2
        rw [List.pairwise_cons]
        refine ⟨fun g hg => ?_, hs⟩
        rcases List.mem_cons.1 hg with rfl | hg
        · exact h2
        · exact bfP_trans h2 (hs'.1 g hg)
      · rw [List.pairwise_cons]; exact ⟨fun g hg => hs'.1 g hg, hs'.2⟩
theorem gramsP_ok (P : List Pr) : GOk P (gramsP P) := by
  suffices h : ∀ n, ∀ P : List Pr, P.length = n → GOk P (gramsP P) from h _ P rfl
  intro n
  induction n with
  | zero => intro P hP; have : P = [] := List.length_eq_zero_iff.1 hP
            subst this; exact ⟨List.Pairwise.nil, (fun g hg => by cases hg), (fun p hp => by cases hp)⟩
  | succ n ih =>
    intro P hP
    obtain ⟨Q, p, rfl⟩ : ∃ Q p, P = Q ++ [p] := ⟨P.dropLast, P.getLast (by intro e; rw [e] at hP; cases hP), (List.dropLast_concat_getLast _).symm⟩
    have h := ih Q (by simpa using hP)
    rw [gramsP_snoc]
    refine ⟨gIns_asc p _ h.asc, fun g hg => ?_, fun q hq => ?_⟩
    · rw [List.count_append, List.mem_append]
      rcases gIns_mem p _ h.asc g hg with ⟨e, ⟨hn, e1⟩ | ⟨y, hy, ey, e1⟩⟩ | ⟨hne, hm⟩
      · have : p ∉ Q := fun c => by obtain ⟨y, hy, e⟩ := h.all p c; exact hn y hy e
        rw [e, e1, List.count_eq_zero_of_not_mem this, List.count_singleton_self]; exact ⟨rfl, .inr (by simp)⟩
      · have := (h.cnt y hy).1
        rw [ey] at this
        rw [e, e1, this, List.count_singleton_self]; exact ⟨by push_cast; rfl, .inr (by simp)⟩
      · have := h.cnt g hm
        rw [this.1, List.count_eq_zero_of_not_mem (show g.key ∉ [p] by simpa using hne)]; exact ⟨rfl, .inl this.2⟩
    · rcases List.mem_append.1 hq with hq | hq
      · obtain ⟨g, hg, rfl⟩ := h.all q hq; exact (gIns_has p _).2 g hg
      · simp at hq; subst hq; exact (gIns_has q _).1
theorem asc_nodup {L : List Gm} (h : L.Pairwise fun a b => bfP a.key b.key = true) : L.Nodup := h.imp fun {a b} hab e => by subst e; rw [bfP_irr] at hab; cases hab
theorem GOk.key {P : List Pr} {L : List Gm} (h : GOk P L) {a b : Gm} (ha : a ∈ L) (hb : b ∈ L) (e : a.key = b.key) : a = b :=
  Gm.ext' e (by rw [(h.cnt a ha).1, (h.cnt b hb).1, e])
/-- There is one such list. -/
theorem grams_only {P : List Pr} {L : List Gm} (hs : L.Pairwise fun a b => bfP b.key a.key = false) (hn : L.Nodup) (hc : ∀ g ∈ L, g.n = (P.count g.key : Nat) ∧ g.key ∈ P) (ha : ∀ p ∈ P, ∃ g ∈ L, g.key = p) : L = gramsP P := by
  have h := gramsP_ok P
  have hp : L.Perm (gramsP P) := (List.perm_ext_iff_of_nodup hn (asc_nodup h.asc)).2 fun g => by
    constructor
    · intro hg
      obtain ⟨y, hy, e⟩ := h.all g.key (hc g hg).2
      have : g = y := Gm.ext' e.symm (by rw [(hc g hg).1, (h.cnt y hy).1, e])
      rw [this]; exact hy
    · intro hg
      obtain ⟨y, hy, e⟩ := ha g.key (h.cnt g hg).2
      have : g = y := Gm.ext' e.symm (by rw [(hc y hy).1, (h.cnt g hg).1, e])
      rw [this]; exact hy
  refine List.Perm.eq_of_pairwise (le := fun a b => bfP b.key a.key = false) (fun a b h1 h2 h3 h4 => ?_) hs (h.asc.imp fun {a b} hab => bfP_asym hab) hp
  have e : a.key = b.key := bfP_tri h4 h3
  exact Gm.ext' e (by rw [(hc a h1).1, (h.cnt b h2).1, e])
theorem grams_len (P : List Pr) : (gramsP P).length ≤ P.length := by
  have hstep : ∀ (p : Pr) (L : List Gm), (gIns p L).length ≤ L.length + 1 := by
    intro p L
    induction L with
    | nil => exact Nat.le_refl _
    | cons x L ih =>
      cases h : bfP x.key p with
      | true => rw [gIns_before p x L h, List.length_cons, List.length_cons]; omega
      | false => rw [gIns_here p x L h]; split <;> simp
  suffices h : ∀ (P : List Pr) (L : List Gm), (P.foldl (fun L p => gIns p L) L).length ≤ L.length + P.length by
    have := h P []; simpa [gramsP] using this
  intro P
  induction P with
  | nil => intro L; exact Nat.le_refl _
  | cons p P ih => intro L; rw [List.foldl_cons, List.length_cons]; have := ih (gIns p L); have := hstep p L; omega
end Go.Proofs.YthfgpagmepdblaaGreat
namespace Go.Proofs.YthfgpagmepdblaaGreat
open Go.ChangeShapes Go.WideShapes Go.ChangeAt Go.RowKit
set_option linter.unusedVariables false
set_option linter.unusedSimpArgs false
set_option linter.unusedSectionVars false
set_option maxRecDepth 100000

/-! ### what is missing -/
def clN (n : Int) : Nat := (min (max n 0) 1073741824).toNat
theorem clN_le (n : Int) : clN n ≤ 1073741824 := by unfold clN; omega
def occ (L : List Gm) (p : Pr) : Nat := (L.map fun g => if g.key = p then clN g.n else 0).sum
theorem occ_snoc (L : List Gm) (g : Gm) (p : Pr) : occ (L ++ [g]) p = occ L p + if g.key = p then clN g.n else 0 := by unfold occ; simp
theorem occ_cons (L : List Gm) (g : Gm) (p : Pr) : occ (g :: L) p = (if g.key = p then clN g.n else 0) + occ L p := by unfold occ; simp
theorem occ_next (L : List Gm) (k : Nat) (h : k < L.length) (p : Pr) : occ (L.take (k + 1)) p = occ (L.take k) p + if (L[k]'h).key = p then clN (L[k]'h).n else 0 := by
  rw [List.take_succ_eq_append_getElem h, occ_snoc]
def gkeys (L : List Gm) : List Pr := L.map Gm.key
theorem occ_out (L : List Gm) (p : Pr) (h : p ∉ gkeys L) : occ L p = 0 := by
  induction L with
  | nil => rfl
  | cons g L ih =>
    unfold gkeys at h ih; rw [List.map_cons, List.mem_cons] at h
    rw [occ_cons, if_neg (fun e => h (.inl e.symm)), ih fun c => h (.inr c)]
theorem occ_le (L : List Gm) (p : Pr) : occ L p ≤ L.length * 1073741824 := by
  induction L with
  | nil => exact Nat.zero_le _
  | cons g L ih =>
    rw [occ_cons, List.length_cons, Nat.add_mul, Nat.one_mul]
    have := clN_le g.n
    split <;> omega
def misD (a b : List Gm) (p : Pr) : Nat := occ a p - occ b p
def misN (a b : List Gm) : Nat := gsum (uniqG (gkeys a)) (misD a b)
theorem misD_in (a b : List Gm) (p : Pr) (h : misD a b p ≠ 0) : p ∈ gkeys a := by
  rcases Decidable.em (p ∈ gkeys a) with c | c
  · exact c
  · unfold misD at h; rw [occ_out a p c] at h; omega
theorem misN_any (K : List Pr) (a b : List Gm) (hK : K.Nodup) (h : ∀ p, misD a b p ≠ 0 → p ∈ K) : gsum K (misD a b) = misN a b :=
  gsum_any K _ _ hK (nodup_uniqG _) (fun y _ hg => (mem_uniqG _ _).2 (misD_in a b y hg)) (fun y _ hg => h y hg)
def misL (a b : List Gm) : Nat := min (misN a b) 1073741824
theorem misN_self (a : List Gm) : misN a a = 0 := gsum_zero _ _ fun y _ => Nat.sub_self _
theorem misN_le (a b : List Gm) : misN a b ≤ a.length * (a.length * 1073741824) := by
  refine Nat.le_trans (gsum_bd _ _ (a.length * 1073741824) fun y _ => Nat.le_trans (Nat.sub_le _ _) (occ_le a y)) (Nat.mul_le_mul_right _ ?_)
  have := uniqG_len (gkeys a); unfold gkeys at *; rw [List.length_map] at this; exact this
def mOne (a b : List Gm) (i : Nat) : Nat := gsum (ukL (gkeys (a.take i))) (misD a b)
theorem mOne_next (a b : List Gm) (i : Nat) (h : i < a.length) : mOne a b (i + 1) = mOne a b i + if (a[i]'h).key ∈ gkeys (a.take i) then 0 else misD a b (a[i]'h).key := by
  unfold mOne gkeys
  rw [List.take_succ_eq_append_getElem h, List.map_append, List.map_cons, List.map_nil, ukL_snoc]
  unfold ukK
  by_cases hm : (a[i]'h).key ∈ List.map Gm.key (a.take i)
  · rw [if_pos ((ukL_mem _ _).2 hm), if_pos hm]; rfl
  · rw [if_neg (fun c => hm ((ukL_mem _ _).1 c)), if_neg hm, gsum_app, gsum_cons, gsum_nil]; rfl
theorem mOne_all (a b : List Gm) : mOne a b a.length = misN a b := by
  unfold mOne; rw [List.take_length]
  exact misN_any _ a b (ukL_nodup _) fun p hp => (ukL_mem _ _).2 (misD_in a b p hp)
theorem mOne_zero (a b : List Gm) : mOne a b 0 = 0 := rfl
theorem occ_asc {L : List Gm} (h : L.Pairwise fun a b => bfP a.key b.key = true) {g : Gm} (hg : g ∈ L) : occ L g.key = clN g.n := by
  induction L with
  | nil => cases hg
  | cons x L ih =>
    rw [List.pairwise_cons] at h
    rw [occ_cons]
    rcases List.mem_cons.1 hg with rfl | hg
    · rw [if_pos rfl, occ_out L g.key, Nat.add_zero]
      intro c
      unfold gkeys at c; rw [List.mem_map] at c
      obtain ⟨y, hy, e⟩ := c
      have := h.1 y hy
      rw [e, bfP_irr] at this; cases this
    · have hne : x.key ≠ g.key := fun e => by have := h.1 g hg; rw [e, bfP_irr] at this; cases this
      rw [if_neg hne, Nat.zero_add, ih h.2 hg]
theorem occ_grams (P : List Pr) (hP : P.length ≤ 1073741824) (p : Pr) : occ (gramsP P) p = P.count p := by
  have h := gramsP_ok P
  by_cases hp : p ∈ P
  · obtain ⟨g, hg, rfl⟩ := h.all p hp
    rw [occ_asc h.asc hg, (h.cnt g hg).1]
    have := List.count_le_length (a := g.key) (l := P)
    unfold clN; omega
  · rw [List.count_eq_zero_of_not_mem hp]
    refine occ_out _ _ fun c => hp ?_
    unfold gkeys at c; rw [List.mem_map] at c
    obtain ⟨g, hg, rfl⟩ := c
    exact (h.cnt g hg).2
theorem gIns_sum (p : Pr) (L : List Gm) : ((gIns p L).map (·.n)).sum = (L.map (·.n)).sum + 1 := by
  induction L with
  | nil => rfl
  | cons x L ih =>
    cases h : bfP x.key p with
    | true => rw [gIns_before p x L h, List.map_cons, List.sum_cons, List.map_cons, List.sum_cons, ih]; omega
    | false =>
      rw [gIns_here p x L h]
      split
      · simp; omega
      · simp; omega
theorem grams_sum (P : List Pr) : ((gramsP P).map (·.n)).sum = (P.length : Nat) := by
  suffices h : ∀ (P : List Pr) (L : List Gm), ((P.foldl (fun L p => gIns p L) L).map (·.n)).sum = (L.map (·.n)).sum + (P.length : Nat) by
    have := h P []; simpa [gramsP] using this
  intro P
  induction P with
  | nil => intro L; simp
  | cons p P ih => intro L; rw [List.foldl_cons, ih, gIns_sum, List.length_cons]; push_cast; omega

/-! ### of pairs -/
def mis (P Q : List Pr) : Nat := gsum (uniqG P) fun y => P.count y - Q.count y
theorem mis_any (K : List Pr) (P Q : List Pr) (hK : K.Nodup) (h : ∀ p ∈ P, p ∈ K) : gsum K (fun y => P.count y - Q.count y) = mis P Q :=
  gsum_any K _ _ hK (nodup_uniqG _) (fun y _ hg => (mem_uniqG _ _).2 (by
    rcases Decidable.em (y ∈ P) with c | c
    · exact c
    · rw [List.count_eq_zero_of_not_mem c] at hg; omega)) (fun y hy _ => h y ((mem_uniqG _ _).1 hy))
theorem mis_both (x : Pr) (P Q : List Pr) : mis (x :: P) (x :: Q) = mis P Q := by
  rw [← mis_any (uniqG (x :: P)) P Q (nodup_uniqG _) fun p hp => (mem_uniqG _ _).2 (List.mem_cons_of_mem _ hp)]
  refine gsum_congr _ _ _ fun y _ => ?_
  rw [List.count_cons, List.count_cons]; omega
theorem mis_del (x : Pr) (P Q : List Pr) : mis (x :: P) Q ≤ mis P Q + 1 := by
  rw [← mis_any (uniqG (x :: P)) P Q (nodup_uniqG _) fun p hp => (mem_uniqG _ _).2 (List.mem_cons_of_mem _ hp)]
  refine gsum_one _ x (nodup_uniqG _) _ _ 1 ?_ fun y hy => ?_
  · rw [List.count_cons_self]; omega
  · rw [List.count_cons_of_ne (fun e => hy e.symm)]; exact Nat.le_refl _
theorem mis_ins (x : Pr) (P Q : List Pr) : mis P (x :: Q) ≤ mis P Q := gsum_mono _ _ _ fun y _ => by rw [List.count_cons]; omega
theorem mis_grams (v w : List ByteArray) (hv : v.length ≤ 1000000) (hw : w.length ≤ 1000000) : misL (gramsL v) (gramsL w) ≤ mis (prs v) (prs w) := by
  have e1 := occ_grams (prs v) (by rw [prs_len]; omega)
  have e2 := occ_grams (prs w) (by rw [prs_len]; omega)
  unfold misL gramsL
  rw [← misN_any (uniqG (prs v)) _ _ (nodup_uniqG _) fun p hp => ?_]
  · refine Nat.le_trans (Nat.min_le_left _ _) (Nat.le_of_eq (gsum_congr _ _ _ fun y _ => ?_))
    unfold misD; rw [e1, e2]
  · rw [mem_uniqG]
    unfold misD at hp; rw [e1] at hp
    rcases Decidable.em (p ∈ prs v) with c | c
    · exact c
    · rw [List.count_eq_zero_of_not_mem c] at hp; omega

/-! ### classes of tokens -/
def clT (x : It) : Tg := ⟨x.k, keyT x.k x.t⟩
def clsL (l : List It) : List Tg := l.map clT
def cC (l : List It) (c : Tg) : Nat := (clsL l).count c
theorem keyT_tag (k : Int) (t : ByteArray) (h : isT k = true) : keyT k t = t := by
  unfold keyT; rw [if_neg]; intro e; subst e; revert h; decide
theorem tkeys_cls (l : List It) : tkeys l = (clsL l).filter fun c => isT c.k := by
  induction l with
  | nil => rfl
  | cons x l ih =>
    rw [show x :: l = [x] ++ l from rfl, tkeys_append]
    unfold clsL at *
    rw [List.map_append, List.filter_append, ← ih]
    congr 1
    cases q : isT x.k
    · rw [tkeys_none x q]; show [] = List.filter _ [clT x]; rw [List.filter_cons, if_neg (by show ¬ isT x.k = true; rw [q]; simp)]; rfl
    · rw [tkeys_one x q]; show _ = List.filter _ [clT x]; rw [List.filter_cons, if_pos (show isT (clT x).k = true from q)]
      unfold clT tkey; rw [keyT_tag _ _ q]; rfl
theorem cntN_cls (l : List It) (c : Tg) (h : isT c.k = true) : cntN l c = cC l c := by
  unfold cntN cC; rw [tkeys_cls]; exact List.count_filter (p := fun c : Tg => isT c.k) h
theorem cC_cons (x : It) (l : List It) (c : Tg) : cC (x :: l) c = cC l c + if clT x = c then 1 else 0 := by
  unfold cC clsL; rw [List.map_cons, List.count_cons]; simp
theorem cC_snoc (x : It) (l : List It) (c : Tg) : cC (l ++ [x]) c = cC l c + if clT x = c then 1 else 0 := by
  unfold cC clsL; rw [List.map_append, List.count_append, List.map_cons, List.map_nil, List.count_cons]; simp
theorem cC_le (l : List It) (c : Tg) : cC l c ≤ l.length := by unfold cC; have := List.count_le_length (a := c) (l := clsL l); unfold clsL at *; rw [List.length_map] at this; exact this
theorem cC_out (l : List It) (c : Tg) (h : c ∉ clsL l) : cC l c = 0 := List.count_eq_zero_of_not_mem h
def exS (a b : List It) (c : Tg) : Nat := if isT c.k = true then 0 else (cC a c - cC b c) * wtT c.k
def exT (a b : List It) (c : Tg) : Nat := if isT c.k = true then dif a b c else 0
def surC (a b : List It) : Nat := gsum (uniqG (clsL a)) (exS a b)
theorem surC_any (K : List Tg) (a b : List It) (hK : K.Nodup) (h : ∀ c ∈ clsL a, c ∈ K) : gsum K (exS a b) = surC a b :=
  gsum_any K _ _ hK (nodup_uniqG _) (fun y _ hg => (mem_uniqG _ _).2 (by
    rcases Decidable.em (y ∈ clsL a) with c | c
    · exact c
    · unfold exS at hg; rw [cC_out a y c] at hg; simp at hg)) (fun y hy _ => h y ((mem_uniqG _ _).1 hy))
theorem surT_any (K : List Tg) (a b : List It) (hK : K.Nodup) (h : ∀ c, c ∈ clsL a ∨ c ∈ clsL b → c ∈ K) : gsum K (exT a b) = sur a b := by
  have e : gsum K (exT a b) = gsum (K.filter fun c => isT c.k) (dif a b) := by
    clear hK h
    induction K with
    | nil => rfl
    | cons x K ih =>
      rw [gsum_cons, ih, List.filter_cons]
      unfold exT
      split
      · rw [gsum_cons]
      · rw [Nat.zero_add]
  rw [e]
  refine sur_any (K.filter fun c => isT c.k) a b (hK.sublist List.filter_sublist) fun y hy => ?_
  have := dif_in a b y hy
  unfold surK at this
  rw [mem_uniq, List.mem_append, tkeys_cls, tkeys_cls, List.mem_filter, List.mem_filter] at this
  rw [List.mem_filter]
  rcases this with c | c
  · exact ⟨h y (.inl c.1), c.2⟩
  · exact ⟨h y (.inr c.1), c.2⟩
def bagN (a b : List It) : Nat := max (surC a b) (surC b a) + 3 * sur a b
theorem surC_del (x : It) (a b : List It) : surC (x :: a) b ≤ surC a b + if isT x.k = true then 0 else wtT x.k := by
  rw [← surC_any (uniqG (clsL (x :: a))) a b (nodup_uniqG _) fun c hc => (mem_uniqG _ _).2 (List.mem_cons_of_mem _ hc)]
  refine gsum_one _ (clT x) (nodup_uniqG _) _ _ _ ?_ fun y hy => ?_
  · unfold exS
    rw [cC_cons, if_pos rfl]
    show (if isT x.k = true then 0 else (cC a (clT x) + 1 - cC b (clT x)) * wtT x.k) ≤ (if isT x.k = true then 0 else (cC a (clT x) - cC b (clT x)) * wtT x.k) + _
    split
    · omega
    · have h1 : cC a (clT x) + 1 - cC b (clT x) ≤ cC a (clT x) - cC b (clT x) + 1 := by omega
      have := Nat.mul_le_mul_right (wtT x.k) h1
      rw [Nat.add_mul, Nat.one_mul] at this; exact this
  · unfold exS; rw [cC_cons, show (if clT x = y then 1 else 0) = 0 from if_neg (fun e => hy e.symm), Nat.add_zero]; exact Nat.le_refl _
theorem surC_ins (y : It) (a b : List It) : surC a (y :: b) ≤ surC a b := gsum_mono _ _ _ fun c _ => by
  unfold exS; rw [cC_cons]
  split
  · omega
  · exact Nat.mul_le_mul_right _ (by omega)
theorem surC_both (x y : It) (a b : List It) (h : clT x = clT y) : surC (x :: a) (y :: b) = surC a b := by
  rw [← surC_any (uniqG (clsL (x :: a))) a b (nodup_uniqG _) fun c hc => (mem_uniqG _ _).2 (List.mem_cons_of_mem _ hc)]
  refine gsum_congr _ _ _ fun c _ => ?_
  unfold exS; rw [cC_cons, cC_cons, h]
  split
  · rfl
  · congr 1; omega
theorem sur_del (x : It) (a b : List It) : sur (x :: a) b ≤ sur a b + if isT x.k = true then 1 else 0 := by
  have h1 := sur_tri (x :: a) a b
  have h2 : sur (x :: a) a = sur [x] [] := sur_back a [x] []
  have h3 : sur [x] [] = if isT x.k = true then 1 else 0 := by
    cases q : isT x.k
    · rw [if_neg (by simp)]
      unfold sur surK; rw [tkeys_none x q]; rfl
    · rw [if_pos rfl]
      unfold sur surK; rw [tkeys_one x q]
      show sumT (uniq [tkey x]) _ = 1
      have : uniq [tkey x] = [tkey x] := by simp [uniq]
      rw [this, sumT_cons, sumT_nil]
      unfold dif cntN; rw [tkeys_one x q, List.count_singleton_self]; rfl
  omega
theorem al_bag {a b : List It} {n : Nat} (h : Al a b n) : surC a b + sur a b ≤ n := by
  induction h with
  | nil => exact Nat.le_refl _
  | @del x a b n h ih =>
    have h1 := surC_del x a b
    have h2 := sur_del x a b
    unfold stp
    cases q : isT x.k
    · rw [q] at h1 h2; simp only [Bool.false_eq_true, if_false] at h1 h2 ⊢; omega
    · rw [q] at h1 h2; simp only [if_true] at h1 h2 ⊢; omega
  | @ins y a b n h ih =>
    have h1 := surC_ins y a b
    have h2 := sur_del y b a
    rw [sur_comm a (y :: b)]
    rw [sur_comm a b] at ih
    unfold stp
    cases q : isT y.k
    · rw [q] at h2; simp only [Bool.false_eq_true, if_false] at h2 ⊢; omega
    · rw [q] at h2; simp only [if_true] at h2 ⊢; omega
  | @pair x y a b n hok h ih =>
    have ht : sur (x :: a) (y :: b) = sur a b := by
      rcases (okP_iff _ _).1 hok with g | g
      · refine sur_dif _ _ _ _ fun c => ?_
        unfold dif cntN
        rw [show x :: a = [x] ++ a from rfl, show y :: b = [y] ++ b from rfl, tkeys_append, tkeys_append, List.count_append, List.count_append]
        have : tkeys [x] = tkeys [y] := tkeys_smL (by unfold smL; rw [(sm_iff _ _).2 g]; rfl)
        rw [this]; omega
      · have q1 : isT x.k = false := by unfold isT; simp; omega
        have q2 : isT y.k = false := by rw [← g.1]; exact q1
        refine sur_dif _ _ _ _ fun c => ?_
        unfold dif cntN
        rw [show x :: a = [x] ++ a from rfl, show y :: b = [y] ++ b from rfl, tkeys_append, tkeys_append, tkeys_none x q1, tkeys_none y q2]; rfl
    rw [ht]
    unfold cst
    split
    · rename_i hs
      have e := (sm_iff _ _).1 hs
      rw [surC_both x y a b (by unfold clT; rw [e.1, e.2])]; omega
    · split
      · rename_i hs
        rw [surC_both x y a b (by unfold clT; rw [hs.2, okP_kind hok])]; omega
      · have h1 := surC_del x a (y :: b)
        have h2 := surC_ins y a b
        split at h1 <;> omega

/-! ### words -/
def wds (l : List It) : List ByteArray := (l.filter fun x => decide (x.k = 6)).map fun x => low x.t
theorem wds_cons (x : It) (l : List It) : wds (x :: l) = if x.k = 6 then low x.t :: wds l else wds l := by
  unfold wds; rw [List.filter_cons]
  by_cases h : x.k = 6
  · rw [if_pos (by simpa using h), if_pos h]; rfl
  · rw [if_neg (by simpa using h), if_neg h]
theorem wds_snoc (x : It) (l : List It) : wds (l ++ [x]) = if x.k = 6 then wds l ++ [low x.t] else wds l := by
  unfold wds; rw [List.filter_append]
  by_cases h : x.k = 6
  · rw [if_pos h, List.filter_cons, if_pos (by simpa using h), List.map_append]; rfl
  · rw [if_neg h, List.filter_cons, if_neg (by simpa using h)]; simp
theorem wds_next (l : List It) (k : Nat) (h : k < l.length) : wds (l.take (k + 1)) = if (l[k]'h).k = 6 then wds (l.take k) ++ [low (l[k]'h).t] else wds (l.take k) := by
  rw [List.take_succ_eq_append_getElem h, wds_snoc]
theorem wds_len (l : List It) : (wds l).length ≤ l.length := by unfold wds; rw [List.length_map]; exact List.length_filter_le _ _
theorem wds_cls (l : List It) : wds l = ((clsL l).filter fun c => decide (c.k = 6)).map (·.t) := by
  induction l with
  | nil => rfl
  | cons x l ih =>
    rw [wds_cons]; unfold clsL at *
    rw [List.map_cons, List.filter_cons]
    by_cases h : x.k = 6
    · rw [if_pos h, if_pos (show decide ((clT x).k = 6) = true from decide_eq_true h), ih, List.map_cons]
      congr 1
      show _ = keyT x.k x.t
      unfold keyT; rw [if_pos h]
    · rw [if_neg h, if_neg (show ¬ decide ((clT x).k = 6) = true from fun c => h (of_decide_eq_true c)), ih]
theorem stp_word {x : It} (h : x.k = 6) : stp x = 4 := by unfold stp isT wtT; rw [h]; decide
theorem al_words {a b : List It} {n : Nat} (h : Al a b n) : ∃ E, 4 * E ≤ n ∧ ∀ p q, mis (prsF p (wds a)) (prsF q (wds b)) ≤ 2 * E + if p = q then 0 else 1 := by
  induction h with
  | nil =>
    refine ⟨0, Nat.le_refl _, fun p q => ?_⟩
    show mis [⟨p, ⟨#[]⟩⟩] [⟨q, ⟨#[]⟩⟩] ≤ _
    split
    · rename_i e; subst e; rw [mis_both]; exact Nat.le_refl _
    · have h1 := mis_del ⟨p, ⟨#[]⟩⟩ [] [⟨q, ⟨#[]⟩⟩]
      have h2 : mis [] [⟨q, ⟨#[]⟩⟩] = 0 := rfl
      omega
  | @del x a b n h ih =>
    obtain ⟨E, hE, hm⟩ := ih
    rw [wds_cons]
    by_cases hx : x.k = 6
    · rw [if_pos hx]
      refine ⟨E + 1, by rw [stp_word hx]; omega, fun p q => ?_⟩
      rw [prsF]
      have h1 := mis_del ⟨p, low x.t⟩ (prsF (low x.t) (wds a)) (prsF q (wds b))
      have h2 := hm (low x.t) q
      split at h2 <;> omega
    · rw [if_neg hx]; exact ⟨E, by omega, hm⟩
  | @ins y a b n h ih =>
    obtain ⟨E, hE, hm⟩ := ih
    rw [wds_cons]
    by_cases hx : y.k = 6
    · rw [if_pos hx]
      refine ⟨E + 1, by rw [stp_word hx]; omega, fun p q => ?_⟩
      rw [prsF]
      have h1 := mis_ins ⟨q, low y.t⟩ (prsF p (wds a)) (prsF (low y.t) (wds b))
      have h2 := hm p (low y.t)
      split at h2 <;> omega
    · rw [if_neg hx]; exact ⟨E, by omega, hm⟩
  | @pair x y a b n hok h ih =>
    obtain ⟨E, hE, hm⟩ := ih
    have hk := okP_kind hok
    rw [wds_cons, wds_cons, ← hk]
    by_cases hx : x.k = 6
    · rw [if_pos hx, if_pos hx]
      by_cases e : low x.t = low y.t
      · refine ⟨E, by omega, fun p q => ?_⟩
        rw [prsF, prsF, ← e]
        have h2 := hm (low x.t) (low x.t)
        rw [if_pos rfl] at h2
        by_cases hpq : p = q
        · rw [if_pos hpq, hpq, mis_both]; exact h2
        · rw [if_neg hpq]
          have h1 := mis_del ⟨p, low x.t⟩ (prsF (low x.t) (wds a)) (⟨q, low x.t⟩ :: prsF (low x.t) (wds b))
          have h3 := mis_ins ⟨q, low x.t⟩ (prsF (low x.t) (wds a)) (prsF (low x.t) (wds b))
          omega
      · have hc : cst x y = 4 := by
          unfold cst
          rw [if_neg (fun c => e (by rw [((sm_iff _ _).1 c).2])), if_neg (fun c => e (by
            have c2 := c.2; unfold keyT at c2; rw [if_pos hx, if_pos (hk ▸ hx)] at c2; exact c2)), hx]; decide
        refine ⟨E + 1, by rw [hc]; omega, fun p q => ?_⟩
        rw [prsF, prsF]
        have h1 := mis_del ⟨p, low x.t⟩ (prsF (low x.t) (wds a)) (⟨q, low y.t⟩ :: prsF (low y.t) (wds b))
        have h3 := mis_ins ⟨q, low y.t⟩ (prsF (low x.t) (wds a)) (prsF (low y.t) (wds b))
        have h2 := hm (low x.t) (low y.t)
        split at h2 <;> omega
    · rw [if_neg hx, if_neg hx]; exact ⟨E, by omega, hm⟩

/-! ### the bound -/
def misW (a b : List It) : Nat := max (misL (gramsL (wds a)) (gramsL (wds b))) (misL (gramsL (wds b)) (gramsL (wds a)))
def bouN (a b : List It) : Nat := max (bagN a b) (4 * ((misW a b + 1) / 2))
theorem bag_le (a b : List It) : bagN a b ≤ dis a b := by
  have h1 := al_bag (al_dst a b)
  have h2 := al_bag (al_dst b a)
  rw [dst_comm b a, sur_comm b a] at h2
  unfold bagN dis; omega
theorem misW_le (a b : List It) (ha : a.length ≤ 100000) (hb : b.length ≤ 100000) : 4 * ((misW a b + 1) / 2) ≤ dst a b := by
  have la := wds_len a
  have lb := wds_len b
  have h1 := mis_grams (wds a) (wds b) (by omega) (by omega)
  have h2 := mis_grams (wds b) (wds a) (by omega) (by omega)
  obtain ⟨E, hE, hm⟩ := al_words (al_dst a b)
  obtain ⟨F, hF, hn⟩ := al_words (al_dst b a)
  have h3 := hm ⟨#[]⟩ ⟨#[]⟩
  have h4 := hn ⟨#[]⟩ ⟨#[]⟩
  rw [if_pos rfl] at h3 h4
  rw [dst_comm b a] at hF
  unfold misW
  unfold prs at h1 h2
  omega
theorem bou_le (a b : List It) (ha : a.length ≤ 100000) (hb : b.length ≤ 100000) : bouN a b ≤ dis a b := by
  have h1 := bag_le a b
  have h2 := misW_le a b ha hb
  unfold bouN dis at *; omega
theorem bou_comm (a b : List It) : bouN a b = bouN b a := by unfold bouN bagN misW; rw [sur_comm, Nat.max_comm (surC a b), Nat.max_comm (misL (gramsL (wds a)) _)]
theorem bou_self (a : List It) (ha : a.length ≤ 100000) : bouN a a = 0 := by have := bou_le a a ha ha; rw [dis_self] at this; omega
theorem bou_cls (a b c : List It) (h : clsL c = clsL b) : bouN a c = bouN a b := by
  have h1 : wds c = wds b := by rw [wds_cls, wds_cls, h]
  have h2 : ∀ y, cC c y = cC b y := fun y => by unfold cC; rw [h]
  have h3 : ∀ y, dif a c y = dif a b y := fun y => by unfold dif cntN; rw [tkeys_cls c, tkeys_cls b, h]
  have h4 : surC a c = surC a b := gsum_congr _ _ _ fun y _ => by unfold exS; rw [h2]
  have h5 : surC c a = surC b a := by
    unfold surC; rw [h]
    exact gsum_congr _ _ _ fun y _ => by unfold exS; rw [h2]
  unfold bouN bagN misW; rw [h1, h4, h5, sur_dif a c a b h3]
theorem bagN_le (a b : List It) : bagN a b ≤ 12 * (a.length + b.length) := by
  have h := bag_le a b
  have h1 := al_bag (al_dst a b)
  have h2 := dst_le a b
  unfold dis at h; omega
/-- What the reference counts: a token counts if it has more like it than b up to its own place. -/
theorem surC_snoc (L b : List It) (x : It) : surC (L ++ [x]) b = surC L b + if isT x.k = false ∧ cC b (clT x) < cC (L ++ [x]) (clT x) then wtT x.k else 0 := by
  have hin : ∀ c ∈ clsL L, c ∈ uniqG (clsL (L ++ [x])) := fun c hc => by rw [mem_uniqG]; unfold clsL at *; rw [List.map_append]; exact List.mem_append_left _ hc
  have hx : clT x ∈ uniqG (clsL (L ++ [x])) := by rw [mem_uniqG]; unfold clsL; rw [List.map_append]; exact List.mem_append_right _ (by simp)
  rw [← surC_any _ L b (nodup_uniqG (clsL (L ++ [x]))) hin]
  refine gsum_one_eq _ (clT x) (nodup_uniqG _) hx _ _ _ ?_ fun y hy => ?_
  · unfold exS
    rw [cC_snoc, if_pos rfl]
    show (if isT x.k = true then 0 else (cC L (clT x) + 1 - cC b (clT x)) * wtT x.k) = (if isT x.k = true then 0 else (cC L (clT x) - cC b (clT x)) * wtT x.k) + _
    cases q : isT x.k
    · simp only [Bool.false_eq_true, if_false, true_and]
      by_cases h : cC b (clT x) < cC L (clT x) + 1
      · rw [if_pos h, show cC L (clT x) + 1 - cC b (clT x) = cC L (clT x) - cC b (clT x) + 1 by omega, Nat.add_mul, Nat.one_mul]
      · rw [if_neg h, show cC L (clT x) + 1 - cC b (clT x) = 0 by omega, show cC L (clT x) - cC b (clT x) = 0 by omega]; simp
    · simp
  · unfold exS; rw [cC_snoc, show (if clT x = y then 1 else 0) = 0 from if_neg (fun e => hy e.symm), Nat.add_zero]
theorem surC_next (a b : List It) (k : Nat) (h : k < a.length) : surC (a.take (k + 1)) b = surC (a.take k) b + if isT (a[k]'h).k = false ∧ cC b (clT (a[k]'h)) < cC (a.take (k + 1)) (clT (a[k]'h)) then wtT (a[k]'h).k else 0 := by
  rw [List.take_succ_eq_append_getElem h, surC_snoc]
end Go.Proofs.YthfgpagmepdblaaGreat
namespace Go.Proofs.YthfgpagmepdblaaGreat
open Go.ChangeShapes Go.WideShapes Go.ChangeAt Go.RowKit Go.Maps
open Go.ChangeMaps (open_string shut_string)
set_option linter.unusedVariables false
set_option linter.unusedSimpArgs false
set_option linter.unusedSectionVars false
set_option maxRecDepth 100000

/-! ### rows of grams -/
def Gm.v (x : Gm) : Value := .agg #[.string x.f, .string x.s, .int .i64 x.n]
structure Gm.ok (x : Gm) : Prop where
  f : x.f.size ≤ 140737488355328
  s : x.s.size ≤ 140737488355328
  n : (Lit.int .i64 x.n).wf = true
def genc (x : Gm) : List Value := [.string x.f, .string x.s, .int .i64 x.n]
/-- The cells of a slice of grams; of a slice without elements nothing is said. -/
def Gs (W : World) (p : Option Addr) (l : List Gm) : Prop :=
  0 < l.length → ∃ a, p = some a ∧ a.block < W.heap.size ∧ ∀ i (h : i < l.length), W.cell? (a.add (i * 3)) = some (.string (l[i]'h).f) ∧ W.cell? (a.add (i * 3 + 1)) = some (.string (l[i]'h).s) ∧ W.cell? (a.add (i * 3 + 2)) = some (.int .i64 (l[i]'h).n)
theorem Gs.keepB {W W' : World} {p : Option Addr} {l : List Gm} (h : Gs W p l) (hs : W.heap.size ≤ W'.heap.size) (hb : ∀ a, p = some a → a.block < W.heap.size → W'.heap[a.block]? = W.heap[a.block]?) : Gs W' p l := fun h0 => by
  obtain ⟨a, hp, hlt, hc⟩ := h h0
  have hk := hb a hp hlt
  refine ⟨a, hp, Nat.lt_of_lt_of_le hlt hs, fun i hi => ?_⟩
  obtain ⟨c0, c1, c2⟩ := hc i hi
  refine ⟨?_, ?_, ?_⟩
  · rw [World.cell?_of_block (w := W) (w' := W') (a := a.add (i * 3)) (by rw [add_block]; exact hk)]; exact c0
  · rw [World.cell?_of_block (w := W) (w' := W') (a := a.add (i * 3 + 1)) (by rw [add_block]; exact hk)]; exact c1
  · rw [World.cell?_of_block (w := W) (w' := W') (a := a.add (i * 3 + 2)) (by rw [add_block]; exact hk)]; exact c2
theorem Gs.call {W w1 : World} {p : Option Addr} {l : List Gm} (h : Gs W p l) (hb : Below W.heap.size W w1) : Gs w1 p l := h.keepB hb.size fun a _ hlt => hb.block _ hlt
theorem Gs.other {W W' : World} {p : Option Addr} {l : List Gm} (h : Gs W p l) {g : Nat} (hg : W.grownBy W' (some g)) (hne : 0 < l.length → ∀ a, p = some a → a.block ≠ g) : Gs W' p l := fun h0 =>
  (h.keepB hg.size fun a ha hlt => hg.block _ hlt (fun e => by injection e with e; exact hne h0 a ha e)) h0
theorem Gs.nil (W : World) (p : Option Addr) : Gs W p [] := fun h => by cases h
theorem Gs.row {W : World} {p : Option Addr} {l : List Gm} (h : Gs W p l) (i : Nat) (hi : i < l.length) : ∃ a, p = some a ∧ a.block < W.heap.size ∧
    W.cell? (a.add (i * 3)) = some (.string (l[i]'hi).f) ∧ W.cell? ⟨(a.add (i * 3)).block, (a.add (i * 3)).off + 1, none⟩ = some (.string (l[i]'hi).s) ∧ W.cell? ⟨(a.add (i * 3)).block, (a.add (i * 3)).off + 2, none⟩ = some (.int .i64 (l[i]'hi).n) := by
  obtain ⟨a, hp, hlt, hc⟩ := h (by omega)
  obtain ⟨c0, c1, c2⟩ := hc i hi
  exact ⟨a, hp, hlt, c0, by rw [add_next _ _ _ (by omega)]; exact c1, by rw [add_next _ _ _ (by omega)]; exact c2⟩
theorem Gs.ne {w : World} {p : Option Addr} {l : List Gm} (h : Gs w p l) (h0 : 0 < l.length) : ∀ a, p = some a → a.block < w.heap.size := fun a ha => by
  obtain ⟨b, e, hlt, _⟩ := h h0
  rw [ha] at e; injection e with e; subst e; exact hlt
def gcells (l : List Gm) : List Value := l.flatMap genc
theorem gcells_length (l : List Gm) : (gcells l).length = l.length * 3 := by
  induction l with
  | nil => rfl
  | cons x t ih => show ([_, _, _] ++ gcells t).length = _; rw [List.length_append, ih]; simp; omega
theorem gcells_at (l : List Gm) : ∀ i (h : i < l.length), (gcells l)[i * 3]? = some (.string (l[i]'h).f) ∧ (gcells l)[i * 3 + 1]? = some (.string (l[i]'h).s) ∧ (gcells l)[i * 3 + 2]? = some (.int .i64 (l[i]'h).n) := by
  induction l with
  | nil => intro i h; cases h
  | cons x t ih =>
    intro i h
    have e : gcells (x :: t) = .string x.f :: .string x.s :: .int .i64 x.n :: gcells t := rfl
    rw [e]
    cases i with
    | zero => exact ⟨rfl, rfl, rfl⟩
    | succ j =>
      have := ih j (by simp at h; omega)
      rw [show (j + 1) * 3 = j * 3 + 1 + 1 + 1 from by omega]
      exact this
theorem gcells_one (l : List Gm) : ∀ u ∈ gcells l, u.oneCell' = true := by
  intro u hu
  unfold gcells at hu
  rw [List.mem_flatMap] at hu
  obtain ⟨x, _, hx⟩ := hu
  simp [genc] at hx
  rcases hx with rfl | rfl | rfl <;> rfl
theorem infoG : (Tryz.prog.info? 72).map (fun i => (i.zero, i.size, i.bytes)) = some (some (.agg #[.string .empty, .string .empty, .int .i64 0]), 3, 40) := by kernel_rfl
theorem eG : El 58 72 3 40 (.agg #[.string .empty, .string .empty, .int .i64 0]) genc :=
  ⟨Tryz.underlying58, info_parts infoG, rfl, by omega, fun _ => rfl, fun x u hu => by simp [genc] at hu; rcases hu with rfl | rfl | rfl <;> rfl⟩
abbrev OwnG (base : Nat) (L : List Gm) (v : Value) (w : World) : Prop := OwnL 72 3 genc base L v w
abbrev AccG := Acc 72 3 genc
theorem OwnG.gs {base : Nat} {L : List Gm} {v : Value} {wr : World} (h : OwnG base L v wr) : ∃ p cap, v = .slice p L.length cap ∧ L.length ≤ cap ∧ cap ≤ maxLen ∧ Gs wr p L := by
  rcases id h.2 with ⟨hv, h0⟩ | ⟨g, cap, cur, hv, hg, hh, hn, hm, hs, ht⟩
  · have : L = [] := List.length_eq_zero_iff.1 h0
    subst this
    exact ⟨none, 0, hv, Nat.le_refl _, Nat.zero_le _, Gs.nil _ _⟩
  · refine ⟨some ⟨g, 0, none⟩, cap, hv, hn, hm, fun _ => ⟨_, rfl, ?_, fun i hi => ?_⟩⟩
    · rcases Nat.lt_or_ge g wr.heap.size with hlt | hge
      · exact hlt
      · rw [Array.getElem?_eq_none hge] at hh; cases hh
    · have hc := World.ownsRow.cells h (g := g) (by rw [hv]; rfl)
      obtain ⟨c0, c1, c2⟩ := gcells_at L i hi
      exact ⟨hc _ _ c0, hc _ _ c1, hc _ _ c2⟩
/-- A call answers grams that it owns. -/
def EndG (L : List Gm) (w : World) (e : Ending) (w' : World) : Prop := ∃ v, e = .returned v ∧ AccG w L v w'
theorem EndG.f {L : List Gm} {w w' : World} {e : Ending} (h : EndG L w e w') : ∃ p c, e = .returned (.slice p L.length c) ∧ L.length ≤ c ∧ c ≤ maxLen ∧ Gs w' p L ∧ Below w.heap.size w w' := by
  obtain ⟨v, rfl, hA⟩ := h
  obtain ⟨p, c, rfl, h1, h2, h3⟩ := OwnG.gs hA.own
  exact ⟨p, c, rfl, h1, h2, h3, hA.below⟩
def EndW (L : List ByteArray) (w : World) (e : Ending) (w' : World) : Prop := ∃ v, e = .returned v ∧ AccS w L v w'
theorem EndW.f {L : List ByteArray} {w w' : World} {e : Ending} (h : EndW L w e w') : ∃ p c, e = .returned (.slice p L.length c) ∧ L.length ≤ c ∧ c ≤ maxLen ∧ Ones w' Value.string p L ∧ Below w.heap.size w w' := by
  obtain ⟨v, rfl, hA⟩ := h
  obtain ⟨p, c, rfl, h1, h2, h3⟩ := OwnL.strs hA.own
  exact ⟨p, c, rfl, h1, h2, h3, hA.below⟩

/-! ### arguments -/
theorem undG : ∃ f0 f1 f2 : Field, Tryz.prog.underlying 72 = some (.struct #[f0, f1, f2]) ∧ f0.type = 9 ∧ f1.type = 9 ∧ f2.type = 3 ∧ f0.offset = 0 ∧ f1.offset = 1 ∧ f2.offset = 2 := ⟨_, _, _, Tryz.underlying72, rfl, rfl, rfl, rfl, rfl, rfl⟩
theorem cellsG : Tryz.prog.cellsOf 72 = 3 := by kernel_rfl
section
variable {H : Type} {enc : TypeId × Value → H} {W : World} {base : Nat} {sp : Nat → Bool} {held : Bool}
theorem read_gram {fuel : Nat} {cs : List Value} {x : DataW H × List MemPlace} (h : DataW.trod enc Tryz.prog W base sp held fuel 72 cs = some x) :
    ∃ y : Gm, (Lit.int .i64 y.n).wf = true ∧ cs = genc y ∧ x.1 = .agg [.lit (.string y.f.data.toList), .lit (.string y.s.data.toList), .lit (.int .i64 y.n)] := by
  obtain ⟨f0, f1, f2, hu, t0, t1, t2, o0, o1, o2⟩ := undG
  obtain ⟨xs, n, _, hx, hl, hxl, hf⟩ := DataW.trod_struct hu h
  rw [cellsG] at hl
  match xs, hxl, cs, hl with
  | [y0, y1, y2], _, [v0, v1, v2], _ =>
    have g0 := hf 0 f0 rfl
    have g1 := hf 1 f1 rfl
    have g2 := hf 2 f2 rfl
    rw [t0, o0, cells9] at g0
    rw [t1, o1, cells9] at g1
    rw [t2, o2, cells3] at g2
    simp at g0 g1 g2
    obtain ⟨a, e0, d0, w0⟩ := DataW.trod_string Tryz.underlying9 g0
    obtain ⟨s, e1, d1, w1⟩ := DataW.trod_string Tryz.underlying9 g1
    obtain ⟨b, e2, d2, w2⟩ := DataW.trod_int Tryz.underlying3 g2
    simp only [List.cons.injEq, and_true] at e0 e1 e2
    exact ⟨⟨a, s, b⟩, w2, by rw [e0, e1, e2]; rfl, by rw [hx, d0, d1, d2]; rfl⟩
theorem gtext_le {d : DataW H} {y : Gm} (hd : d = .agg [.lit (.string y.f.data.toList), .lit (.string y.s.data.toList), .lit (.int .i64 y.n)]) (hz : ∀ n ∈ DataW.weights Tryz.prog 72 d, n ≤ reachBytes) : y.f.size ≤ 140737488355328 ∧ y.s.size ≤ 140737488355328 := by
  obtain ⟨f0, f1, f2, hu, t0, t1, t2, o0, o1, o2⟩ := undG
  have h1 := hz y.f.data.toList.length (by
    rw [hd, DataW.weights, hu]
    simp [DataW.weightsEach, DataW.weights])
  have h2 := hz y.s.data.toList.length (by
    rw [hd, DataW.weights, hu]
    simp [DataW.weightsEach, DataW.weights])
  have e1 : y.f.data.toList.length = y.f.size := by simp
  have e2 : y.s.data.toList.length = y.s.size := by simp
  rw [e1] at h1; rw [e2] at h2
  unfold reachBytes at *
  omega
def GOks (l : List Gm) : Prop := ∀ i (h : i < l.length), (l[i]'h).ok
theorem opened_g {v : Value} {d : DataW H} {p : List MemPlace} (hv : Value.okWide Tryz.prog W .any base 58 v) (h : DataW.Trod enc Tryz.prog W base (fun _ => true) held 58 v d p) (hz : ∀ n ∈ DataW.weights Tryz.prog 58 d, n ≤ reachBytes) :
    ∃ (p : Option Addr) (cap : Nat) (l : List Gm), v = .slice p l.length cap ∧ l.length ≤ cap ∧ cap ≤ maxLen ∧ Gs W p l ∧ GOks l := by
  obtain ⟨a0, len, cap, rfl⟩ := okWide_slice Tryz.underlying58 hv
  obtain ⟨fuel, hf⟩ := h
  rcases Go.Deep.open_slice Tryz.underlying58 hf with ⟨hcs, _⟩ | ⟨a, len', cap', m, n, D, Pl, hcs, _, hl, hm, hmm, hd, hx⟩
  · simp [Value.cells] at hcs
    obtain ⟨rfl, rfl, rfl⟩ := hcs
    exact ⟨none, 0, [], rfl, Nat.le_refl _, Nat.zero_le _, Gs.nil _ _, fun i hi => by cases hi⟩
  · simp [Value.cells] at hcs
    obtain ⟨rfl, rfl, rfl⟩ := hcs
    have hlm : len ≤ m := by rw [hmm]; simp; exact hl
    have hd' : d = .slice ((List.range len).map D) ((List.range (m - len)).map fun j => D (len + j)) := by simpa using congrArg Prod.fst hd
    have each : ∀ i, ∃ y : Gm, i < len → y.ok ∧ W.cell? (a.add (i * 3)) = some (.string y.f) ∧ W.cell? (a.add (i * 3 + 1)) = some (.string y.s) ∧ W.cell? (a.add (i * 3 + 2)) = some (.int .i64 y.n) := fun i => by
      by_cases hi : i < len
      · obtain ⟨cs', h1, h2⟩ := hx i (by omega)
        obtain ⟨y, hk, rfl, hdi⟩ := read_gram h2
        have hz' : ∀ n ∈ DataW.weights Tryz.prog 72 (D i), n ≤ reachBytes := fun n hn => hz n (by
          rw [hd', DataW.weights, Tryz.underlying58]
          exact List.mem_cons_of_mem _ (List.mem_append_left _ (weights_all (List.mem_map.2 ⟨i, by simpa using hi, rfl⟩) hn)))
        rw [cellsG] at h1
        obtain ⟨_, _, hcell⟩ := World.cells?_some h1
        have e0 := hcell 0 (by omega)
        have e1 := hcell 1 (by omega)
        have e2 := hcell 2 (by omega)
        rw [Go.Deep.add_add] at e0 e1 e2
        have hl := gtext_le hdi hz'
        exact ⟨y, fun _ => ⟨⟨hl.1, hl.2, hk⟩, by simpa [genc] using e0, by simpa [genc] using e1, by simpa [genc] using e2⟩⟩
      · exact ⟨⟨.empty, .empty, 0⟩, fun h => absurd h hi⟩
    obtain ⟨f, hf⟩ := Classical.axiomOfChoice each
    refine ⟨some a, cap, (List.range len).map f, by simp, by simpa using hl, hm, fun h0 => ⟨a, rfl, ?_, fun i hi => ?_⟩, fun i hi => ?_⟩
    · have := World.block_lt_of_cell? W _ (hf 0 (by simpa using h0)).2.1
      simpa [add_block] using this
    · have hi' : i < len := by simpa using hi
      simpa using (hf i hi').2
    · have hi' : i < len := by simpa using hi
      simpa using (hf i hi').1
end

/-! ### keys: pairs of words -/
theorem rowPr : (92 : TypeId) < Tryz.prog.types.size := of_decide_eq_true (by kernel_rfl)
theorem widePr : (match Tryz.prog.underlying 92 with | some (.array _ _) | some (.struct _) => true | _ => false) = true := by kernel_rfl
theorem lawPr : WideMaps.KeyLaw Tryz.prog 92 := deep_law_laid laidOut (m := 2) (by omega) rowPr (by kernel_rfl) widePr
theorem kPr : Keyed Tryz.prog 92 := Keyed.of_law lawPr
theorem prv_inj (a b : Pr) (h : a.v = b.v) : a = b := by
  unfold Pr.v at h
  injection h with h
  simp only [Array.mk.injEq, List.cons.injEq, Value.string.injEq, true_and, and_true] at h
  cases a; cases b; simp_all
theorem deepPr : Tryz.prog.keyType 92 = true := by kernel_rfl
theorem undPr : ∃ f0 f1 : Field, Tryz.prog.underlying 92 = some (.struct #[f0, f1]) ∧ f0.type = 9 ∧ f1.type = 9 ∧ f0.offset = 0 ∧ f1.offset = 1 := ⟨_, _, Tryz.underlying92, rfl, rfl, rfl, rfl⟩
theorem cellsPr : Tryz.prog.cellsOf 92 = 2 := by kernel_rfl
theorem key_pr (x : Pr) (hf0 : x.f.size ≤ maxLen) (ht : x.s.size ≤ maxLen) : ∃ l, keyOf Tryz.prog 92 x.v = some l := by
  obtain ⟨m, hm⟩ : ∃ m, Tryz.prog.types.size + 1 = m + 1 + 1 := ⟨Tryz.prog.types.size - 1, by have h : 92 < Tryz.prog.types.size := rowPr; omega⟩
  obtain ⟨f0, f1, hu, t0, t1, o0, o1⟩ := undPr
  have hf : x.v.formed Tryz.prog 92 = true := by unfold Pr.v; simp [Value.formed, hu, cellsPr]
  have hn : (#[f0, f1] : Array Field).all (fun f => f.name != "_") = true := by
    have h := deepPr
    unfold Program.keyType at h
    rw [hm, Program.keyTypeAt, hu] at h
    simp only [Bool.and_eq_true] at h
    have h1 := h.1.1
    rw [Array.all_eq_true_iff_forall_mem] at h1 ⊢
    intro f hf
    have := h1 f hf
    simp only [Bool.and_eq_true] at this
    exact this.1
  have hc : x.v.cells.toList = [.string x.f, .string x.s] := rfl
  have hl : ∃ ls, Tryz.prog.keyLits (Tryz.prog.types.size + 1) 92 [.string x.f, .string x.s] = some ls := by
    rw [hm]
    unfold Program.keyLits
    simp only [hu, cellsPr, hn]
    refine ⟨[.string x.f.data.toList, .string x.s.data.toList], ?_⟩
    rw [if_pos ⟨rfl, trivial⟩]
    have e0 : Tryz.prog.keyLits (m + 1) 9 [.string x.f] = some [.string x.f.data.toList] := by unfold Program.keyLits; simp [Tryz.underlying9, hf0]
    have e1 : Tryz.prog.keyLits (m + 1) 9 [.string x.s] = some [.string x.s.data.toList] := by unfold Program.keyLits; simp [Tryz.underlying9, ht]
    simp [t0, t1, o0, o1, cells9, e0, e1]
  obtain ⟨ls, hls⟩ := hl
  unfold keyOf
  rw [hu]
  simp only [deepPr, hf, Bool.and_self, if_true]
  rw [hc, hls]
  exact ⟨_, rfl⟩

/-! ### keys: classes of tokens -/
def cv (x : Tg) : Value := .agg #[.int .i64 x.k, .string x.t, .int .i64 0]
theorem rowTk : (43 : TypeId) < Tryz.prog.types.size := of_decide_eq_true (by kernel_rfl)
theorem wideTk : (match Tryz.prog.underlying 43 with | some (.array _ _) | some (.struct _) => true | _ => false) = true := by kernel_rfl
theorem lawTk : WideMaps.KeyLaw Tryz.prog 43 := deep_law_laid laidOut (m := 2) (by omega) rowTk (by kernel_rfl) wideTk
theorem kTk : Keyed Tryz.prog 43 := Keyed.of_law lawTk
theorem cv_inj (a b : Tg) (h : cv a = cv b) : a = b := by
  unfold cv at h
  injection h with h
  simp only [Array.mk.injEq, List.cons.injEq, Value.int.injEq, Value.string.injEq, true_and, and_true] at h
  cases a; cases b; simp_all
theorem deepTk : Tryz.prog.keyType 43 = true := by kernel_rfl
theorem undTk : ∃ f0 f1 f2 : Field, Tryz.prog.underlying 43 = some (.struct #[f0, f1, f2]) ∧ f0.type = 3 ∧ f1.type = 9 ∧ f2.type = 3 ∧ f0.offset = 0 ∧ f1.offset = 1 ∧ f2.offset = 2 := ⟨_, _, _, Tryz.underlying43, rfl, rfl, rfl, rfl, rfl, rfl⟩
theorem cellsTk : Tryz.prog.cellsOf 43 = 3 := by kernel_rfl
theorem key_tk (x : Tg) (hk : (Lit.int .i64 x.k).wf = true) (ht : x.t.size ≤ maxLen) : ∃ l, keyOf Tryz.prog 43 (cv x) = some l := by
  obtain ⟨m, hm⟩ : ∃ m, Tryz.prog.types.size + 1 = m + 1 + 1 := ⟨Tryz.prog.types.size - 1, by have h : 43 < Tryz.prog.types.size := rowTk; omega⟩
  obtain ⟨f0, f1, f2, hu, t0, t1, t2, o0, o1, o2⟩ := undTk
  have hf : (cv x).formed Tryz.prog 43 = true := by unfold cv; simp [Value.formed, hu, cellsTk]
  have hn : (#[f0, f1, f2] : Array Field).all (fun f => f.name != "_") = true := by
    have h := deepTk
    unfold Program.keyType at h
    rw [hm, Program.keyTypeAt, hu] at h
    simp only [Bool.and_eq_true] at h
    have h1 := h.1.1
    rw [Array.all_eq_true_iff_forall_mem] at h1 ⊢
    intro f hf
    have := h1 f hf
    simp only [Bool.and_eq_true] at this
    exact this.1
  have hc : (cv x).cells.toList = [.int .i64 x.k, .string x.t, .int .i64 0] := rfl
  have hl : ∃ ls, Tryz.prog.keyLits (Tryz.prog.types.size + 1) 43 [.int .i64 x.k, .string x.t, .int .i64 0] = some ls := by
    rw [hm]
    unfold Program.keyLits
    simp only [hu, cellsTk, hn]
    refine ⟨[.int .i64 x.k, .string x.t.data.toList, .int .i64 0], ?_⟩
    rw [if_pos ⟨rfl, trivial⟩]
    have e0 : Tryz.prog.keyLits (m + 1) 3 [.int .i64 x.k] = some [.int .i64 x.k] := by unfold Program.keyLits; simp [Tryz.underlying3, hk]
    have e1 : Tryz.prog.keyLits (m + 1) 9 [.string x.t] = some [.string x.t.data.toList] := by unfold Program.keyLits; simp [Tryz.underlying9, ht]
    have e2 : Tryz.prog.keyLits (m + 1) 3 [.int .i64 0] = some [.int .i64 0] := by unfold Program.keyLits; simp [Tryz.underlying3, show (Lit.int .i64 0).wf = true by decide]
    simp [t0, t1, t2, o0, o1, o2, cells3, cells9, e0, e1, e2]
  obtain ⟨ls, hls⟩ := hl
  unfold keyOf
  rw [hu]
  simp only [deepTk, hf, Bool.and_self, if_true]
  rw [hc, hls]
  exact ⟨_, rfl⟩
end Go.Proofs.YthfgpagmepdblaaGreat
namespace Go.Proofs.YthfgpagmepdblaaGreat
open Go.ChangeShapes Go.WideShapes Go.ChangeAt Go.RowKit Go.Maps
set_option linter.unusedVariables false
set_option linter.unusedSimpArgs false
set_option maxRecDepth 100000

theorem keyT_word (t : ByteArray) : keyT 6 t = low t := by unfold keyT; rw [if_pos rfl]
set_option maxHeartbeats 3200000 in
theorem words_any (p : Option Addr) (cap : Nat) (l : List It) (w : World) (hR : Its w p l) (hc : l.length ≤ cap) (hm : cap ≤ maxLen) (hl : l.length ≤ 100000) (ht : txtsB l) :
    Calls Tryz.prog 36 #[.slice p l.length cap] w (EndW (wds l) w) := by
  have hK := fun t id W h => key_any 6 t id W h
  simp only [keyT_word] at hK
  have HK := Lib.hid hK; have HT := Lib.hid ht
  clear hK ht
  unfold maxLen at hm
  go_enter Tryz.func36, Tryz.ntmps36
  go_wp2_with fail
  go_loopw [3, 8] (fun v i wr => ∃ k : Nat, k ≤ l.length ∧ i = .int .i64 k ∧ AccS w (wds (l.take k)) v wr) (fun _ i _ => l.length - (intOf i).toNat)
  case atStart => exact ⟨0, Nat.zero_le _, rfl, Acc.start w⟩
  case round =>
    obtain ⟨k, hk, rfl, hA⟩ := hrel
    by_cases hlt : k < l.length
    · obtain ⟨ad, rfl, had, c0, c1, c2⟩ := (hR.call hA.below).row k hlt
      have hnx := wds_next l k hlt
      have hlen := Nat.le_trans (wds_len (l.take k)) (by rw [List.length_take]; exact Nat.min_le_right _ _)
      have htx := HT.out _ (List.getElem_mem hlt)
      have hV := Var3.newT wr l[k].k l[k].t l[k].id
      generalize l[k] = x at *
      generalize wds (l.take k) = out at *
      have HX := Lib.hid hnx; clear hnx
      have hA1 := hA.alloc (.cells #[.int .i64 x.k, .string x.t, .int .i64 x.id] 43)
      clear hA
      obtain ⟨v0, v1, v2, vl⟩ := id hV
      by_cases h6 : x.k = 6
      · have q : (x.k == 6) = true := by simp [h6]
        have hc2 := HK.out x.t x.id (wr.alloc (.cells #[.int .i64 x.k, .string x.t, .int .i64 x.id] 43)) htx
        rw [← h6] at hc2
        have HC := Lib.hid hc2
        have HX2 := Lib.hid (HX.out.trans (if_pos h6))
        clear hc2 HX h6 hV
        go_wp2_with fail
        refine HC.out.mono ?_; rintro e w2 ⟨rfl, hb⟩
        have hA2 := hA1.call hb
        clear hA1 hb v0 v1 v2 vl c0 c1 c2 HC
        go_wp2_with (at_builtin; refine wpl_append eS _ rfl _ _ rfl w out _ rfl (hA2.alloc _) (low x.t) w2.heap.size _ rfl (heap_alloc_new _ _) rfl (by omega) (by unfold maxLen; omega) ?_; intro v' w4 hA4 hb4)
        go_wp2_with fail
        go_roundw
        case rel => exact ⟨k + 1, hlt, by go_num, by rw [HX2.out]; exact hA4⟩
        case measure => simp [intOf]; omega
      · have q : (x.k == 6) = false := by simp [h6]
        have HX2 := Lib.hid (HX.out.trans (if_neg h6))
        clear HX h6 hV
        go_wp2_with fail
        go_roundw
        case rel => exact ⟨k + 1, hlt, by go_num, by rw [HX2.out]; exact hA1⟩
        case measure => simp [intOf]; omega
    · obtain rfl : k = l.length := by omega
      rw [List.take_length] at hA
      go_wp2_with fail
      go_ret
      exact ⟨_, rfl, hA⟩
set_option maxHeartbeats 3200000 in
theorem rwords_any (p : Option Addr) (cap : Nat) (l : List It) (w : World) (hR : Its w p l) (hc : l.length ≤ cap) (hm : cap ≤ maxLen) (hl : l.length ≤ 100000) (ht : txtsB l) :
    Calls Tryz.prog 42 #[.slice p l.length cap] w (EndW (wds l) w) := by
  have hK := fun t id W h => rkey_any 6 t id W h
  simp only [keyT_word] at hK
  have HK := Lib.hid hK; have HT := Lib.hid ht
  clear hK ht
  unfold maxLen at hm
  go_enter Tryz.func42, Tryz.ntmps42
  go_wp2_with fail
  go_loopw [3, 8] (fun v i wr => ∃ k : Nat, k ≤ l.length ∧ i = .int .i64 k ∧ AccS w (wds (l.take k)) v wr) (fun _ i _ => l.length - (intOf i).toNat)
  case atStart => exact ⟨0, Nat.zero_le _, rfl, Acc.start w⟩
  case round =>
    obtain ⟨k, hk, rfl, hA⟩ := hrel
    by_cases hlt : k < l.length
    · obtain ⟨ad, rfl, had, c0, c1, c2⟩ := (hR.call hA.below).row k hlt
      have hnx := wds_next l k hlt
      have hlen := Nat.le_trans (wds_len (l.take k)) (by rw [List.length_take]; exact Nat.min_le_right _ _)
      have htx := HT.out _ (List.getElem_mem hlt)
      have hV := Var3.newT wr l[k].k l[k].t l[k].id
      generalize l[k] = x at *
      generalize wds (l.take k) = out at *
      have HX := Lib.hid hnx; clear hnx
      have hA1 := hA.alloc (.cells #[.int .i64 x.k, .string x.t, .int .i64 x.id] 43)
      clear hA
      obtain ⟨v0, v1, v2, vl⟩ := id hV
      by_cases h6 : x.k = 6
      · have q : (x.k == 6) = true := by simp [h6]
        have hc2 := HK.out x.t x.id (wr.alloc (.cells #[.int .i64 x.k, .string x.t, .int .i64 x.id] 43)) htx
        rw [← h6] at hc2
        have HC := Lib.hid hc2
        have HX2 := Lib.hid (HX.out.trans (if_pos h6))
        clear hc2 HX h6 hV
        go_wp2_with fail
        refine HC.out.mono ?_; rintro e w2 ⟨rfl, hb⟩
        have hA2 := hA1.call hb
        clear hA1 hb v0 v1 v2 vl c0 c1 c2 HC
        go_wp2_with (at_builtin; refine wpl_append eS _ rfl _ _ rfl w out _ rfl (hA2.alloc _) (low x.t) w2.heap.size _ rfl (heap_alloc_new _ _) rfl (by omega) (by unfold maxLen; omega) ?_; intro v' w4 hA4 hb4)
        go_wp2_with fail
        go_roundw
        case rel => exact ⟨k + 1, hlt, by go_num, by rw [HX2.out]; exact hA4⟩
        case measure => simp [intOf]; omega
      · have q : (x.k == 6) = false := by simp [h6]
        have HX2 := Lib.hid (HX.out.trans (if_neg h6))
        clear HX h6 hV
        go_wp2_with fail
        go_roundw
        case rel => exact ⟨k + 1, hlt, by go_num, by rw [HX2.out]; exact hA1⟩
        case measure => simp [intOf]; omega
    · obtain rfl : k = l.length := by omega
      rw [List.take_length] at hA
      go_wp2_with fail
      go_ret
      exact ⟨_, rfl, hA⟩
end Go.Proofs.YthfgpagmepdblaaGreat
namespace Go.Proofs.YthfgpagmepdblaaGreat
open Go.ChangeShapes Go.WideShapes Go.ChangeAt Go.RowKit Go.Maps Go.Sort
set_option linter.unusedVariables false
set_option linter.unusedSimpArgs false
set_option maxRecDepth 100000

theorem ltS_eq (a b : ByteArray) : Op.bytesLess a.toList b.toList = ltS a b := by rw [bytesLess_eq, Lib.toList_data, Lib.toList_data]; rfl
theorem eqS_eq (a b : ByteArray) : (a.toList == b.toList) = decide (a = b) := by
  rw [Lib.toList_data, Lib.toList_data, Bool.eq_iff_iff]
  simp
  exact ⟨fun h => lst_inj (by rw [h]), fun h => by rw [h]⟩
theorem bfP_eq (a b : Gm) : bfP a.key b.key = (Op.bytesLess a.f.toList b.f.toList || ((a.f.toList == b.f.toList) && Op.bytesLess a.s.toList b.s.toList)) := by
  rw [ltS_eq, ltS_eq, eqS_eq]; rfl
theorem keyP_eq (a b : Gm) : ((a.f.toList == b.f.toList) && (a.s.toList == b.s.toList)) = decide (a.key = b.key) := by
  rw [eqS_eq, eqS_eq, Bool.eq_iff_iff]
  unfold Gm.key
  simp
set_option maxHeartbeats 1600000 in
theorem before_any (a b : Gm) (w : World) : Calls Tryz.prog 68 #[.agg #[.string a.f, .string a.s, .int .i64 a.n], .agg #[.string b.f, .string b.s, .int .i64 b.n]] w fun e w' => e = .returned (.bool (bfP a.key b.key)) ∧ Below w.heap.size w w' := by
  have HV := Lib.hid (bfP_eq a b)
  go_enter Tryz.func68, Tryz.ntmps68
  cases q1 : Op.bytesLess a.f.toList b.f.toList
  · cases q2 : (a.f.toList == b.f.toList)
    · go_wp2_with fail
      go_ret
      exact ⟨ret_bool (by rw [HV.out, q1, q2]; rfl), blw (blw (Below.refl _ _) _) _⟩
    · cases q3 : Op.bytesLess a.s.toList b.s.toList
      · go_wp2_with fail
        go_ret
        exact ⟨ret_bool (by rw [HV.out, q1, q2, q3]; rfl), blw (blw (Below.refl _ _) _) _⟩
      · go_wp2_with fail
        go_ret
        exact ⟨ret_bool (by rw [HV.out, q1, q2, q3]; rfl), blw (blw (Below.refl _ _) _) _⟩
  · go_wp2_with fail
    go_ret
    exact ⟨ret_bool (by rw [HV.out, q1]; rfl), blw (blw (Below.refl _ _) _) _⟩

set_option maxHeartbeats 3200000 in
theorem rocc_any (p : Option Addr) (c : Nat) (l : List Gm) (g : Gm) (w : World) (hA : Gs w p l) (hc : l.length ≤ c) (hcm : c ≤ maxLen) (hl : l.length ≤ 100000) :
    Calls Tryz.prog 70 #[.slice p l.length c, .agg #[.string g.f, .string g.s, .int .i64 g.n]] w fun e w' => e = .returned (.int .i64 (occ l g.key : Nat)) ∧ Below w.heap.size w w' := by
  unfold maxLen at hcm
  have hnew := heap_alloc_new w (.cells #[.string g.f, .string g.s, .int .i64 g.n] 72)
  have hb0 : Below w.heap.size w (w.alloc (.cells #[.string g.f, .string g.s, .int .i64 g.n] 72)) := blw (Below.refl _ _) _
  go_enter Tryz.func70, Tryz.ntmps70
  go_wp2_with fail
  have hA1 := hA.call hb0
  generalize (w.alloc (.cells #[.string g.f, .string g.s, .int .i64 g.n] 72)) = w1 at *
  have d0 : w1.cell? ⟨w.heap.size, 0, none⟩ = some (.string g.f) := by rw [Lib.cell_of_heap hnew]; rfl
  have d1 : w1.cell? ⟨w.heap.size, 1, none⟩ = some (.string g.s) := by rw [Lib.cell_of_heap hnew]; rfl
  have d2 : w1.cell? ⟨w.heap.size, 2, none⟩ = some (.int .i64 g.n) := by rw [Lib.cell_of_heap hnew]; rfl
  have hgl : w.heap.size < w1.heap.size := heap_lt hnew
  have HB0 := Lib.hid hb0
  have HBB := Lib.hid (fun (w' : World) (h : Below w1.heap.size w1 w') => BelowOn hb0 h)
  generalize hgg : w.heap.size = gg at *
  clear hnew hb0 hA
  have HD := Lib.hid (And.intro d0 d1)
  clear d0 d1 d2
  go_loopw [5, 10] (fun n i wr => ∃ k : Nat, k ≤ l.length ∧ i = .int .i64 k ∧ n = .int .i64 (occ (l.take k) g.key : Nat) ∧ Below w1.heap.size w1 wr) (fun _ i _ => l.length - (intOf i).toNat)
  case atStart => exact ⟨0, Nat.zero_le _, rfl, rfl, Below.refl _ _⟩
  case round =>
    obtain ⟨k, hk, rfl, rfl, hB1⟩ := hrel
    by_cases hlt : k < l.length
    · obtain ⟨ad, rfl, had, x0, x1, x2⟩ := (hA1.call hB1).row k hlt
      have hnx := occ_next l k hlt g.key
      have hle := occ_le (l.take k) g.key
      rw [List.length_take] at hle
      have hle2 : occ (l.take k) g.key ≤ 107374182400000 := by
        refine Nat.le_trans hle (Nat.le_trans (Nat.mul_le_mul_right _ (show min k l.length ≤ 100000 by omega)) (by omega))
      have e0 := (hB1.cell (p := ⟨gg, 0, none⟩) hgl).trans HD.out.1
      have e1 := (hB1.cell (p := ⟨gg, 1, none⟩) hgl).trans HD.out.2
      have gl2 : gg < wr.heap.size := Nat.lt_of_lt_of_le hgl hB1.size
      have hkey := keyP_eq l[k] g
      have hcl := clN_le l[k].n
      have hmx : max 0 (min l[k].n 1073741824) = ((clN l[k].n : Nat) : Int) := by unfold clN; omega
      have HNX := Lib.hid hnx
      generalize occ (l.take k) g.key = T at *
      generalize l[k] = X at *
      have HB2 := Lib.hid (blw hB1 (.cells #[.string X.f, .string X.s, .int .i64 X.n] 72))
      have ik : (k : Int) < (l.length : Int) := by omega
      have HKY := Lib.hid hkey
      have HMX := Lib.hid hmx
      clear hnx hle hB1 hkey hmx
      have hkr := HKY.out
      cases q1 : (X.f.toList == g.f.toList)
      · have hne : ¬ X.key = g.key := by rw [q1] at hkr; exact of_decide_eq_false hkr.symm
        have HX2 := Lib.hid (HNX.out.trans (show T + (if X.key = g.key then clN X.n else 0) = T by rw [if_neg hne]; rfl))
        clear hkr hne
        go_wp2_with fail
        go_roundw
        case rel => exact ⟨k + 1, hlt, by go_num, by rw [HX2.out], HB2.out⟩
        case measure => simp [intOf]; omega
      · cases q2 : (X.s.toList == g.s.toList)
        · have hne : ¬ X.key = g.key := by rw [q1, q2] at hkr; exact of_decide_eq_false hkr.symm
          have HX2 := Lib.hid (HNX.out.trans (show T + (if X.key = g.key then clN X.n else 0) = T by rw [if_neg hne]; rfl))
          clear hkr hne
          go_wp2_with fail
          go_roundw
          case rel => exact ⟨k + 1, hlt, by go_num, by rw [HX2.out], HB2.out⟩
          case measure => simp [intOf]; omega
        · have hne : X.key = g.key := by rw [q1, q2] at hkr; exact of_decide_eq_true hkr.symm
          have HX2 := Lib.hid (HNX.out.trans (by rw [if_pos hne]))
          clear hkr hne
          have hw := HMX.out
          generalize clN X.n = C at *
          have b1 : (0 : Int) ≤ max 0 (min X.n 1073741824) := by omega
          have b2 : max 0 (min X.n 1073741824) ≤ (1073741824 : Int) := by omega
          clear hw
          go_wp2_with fail
          go_roundw
          case rel => exact ⟨k + 1, hlt, by go_num, by rw [HX2.out]; congr 1; have := HMX.out; push_cast; omega, HB2.out⟩
          case measure => simp [intOf]; omega
    · obtain rfl : k = l.length := by omega
      rw [List.take_length]
      have HW := Lib.hid (HBB.out _ hB1)
      clear hB1
      go_wp2_with fail
      go_ret
      exact ⟨rfl, by rw [hgg]; exact HW.out⟩
end Go.Proofs.YthfgpagmepdblaaGreat
namespace Go.Proofs.YthfgpagmepdblaaGreat
open Go.ChangeShapes Go.WideShapes Go.ChangeAt Go.RowKit Go.Maps Go.Sort
set_option linter.unusedVariables false
set_option linter.unusedSimpArgs false
set_option maxRecDepth 100000

theorem twG {α : Type} (p : α → Bool) (l : List α) : ∀ k, k ≤ l.length → (∀ j (hj : j < l.length), j < k → p l[j] = true) → (∀ hj : k < l.length, p l[k] = false) → l.takeWhile p = l.take k ∧ l.dropWhile p = l.drop k := by
  induction l with
  | nil => intro k hk _ _; have : k = 0 := by simpa using hk
           subst this; exact ⟨rfl, rfl⟩
  | cons x t ih =>
    intro k hk h1 h2
    cases k with
    | zero =>
      have := h2 (by simp)
      simp at this
      rw [List.takeWhile_cons, List.dropWhile_cons, this]; exact ⟨rfl, rfl⟩
    | succ j =>
      have h0 := h1 0 (by simp) (by omega)
      simp at h0
      obtain ⟨a, b⟩ := ih j (by simpa using hk) (fun i hi hij => by have := h1 (i + 1) (by simp; omega) (by omega); simpa using this) (fun hj => by have := h2 (by simp; omega); simpa using this)
      rw [List.takeWhile_cons, List.dropWhile_cons, h0]
      simp only [if_true]
      exact ⟨by rw [a]; rfl, by rw [b]; rfl⟩
theorem gIns_ins (p : Pr) (L : List Gm) (k : Nat) (hk : k ≤ L.length) (h1 : ∀ j (hj : j < L.length), j < k → bfP L[j].key p = true) (h2 : ∀ h : k < L.length, bfP L[k].key p = false ∧ bfP p L[k].key = true) :
    gIns p L = L.take k ++ ([⟨p.f, p.s, 1⟩] ++ L.drop k) := by
  obtain ⟨a, b⟩ := twG (fun g : Gm => bfP g.key p) L k hk h1 (fun h => (h2 h).1)
  unfold gIns
  rw [a, b]
  congr 1
  rcases Nat.lt_or_ge k L.length with h | h
  · rw [List.drop_eq_getElem_cons h]
    show (if bfP p L[k].key = true then _ else _) = _
    rw [if_pos (h2 h).2]; rfl
  · rw [List.drop_eq_nil_of_le h]; rfl
theorem gIns_bump (p : Pr) (L : List Gm) (k : Nat) (hk : k < L.length) (h1 : ∀ j (hj : j < L.length), j < k → bfP L[j].key p = true) (h2 : bfP L[k].key p = false) (h3 : bfP p L[k].key = false) :
    gIns p L = L.set k ⟨L[k].f, L[k].s, L[k].n + 1⟩ := by
  obtain ⟨a, b⟩ := twG (fun g : Gm => bfP g.key p) L k (Nat.le_of_lt hk) h1 (fun h => h2)
  unfold gIns
  rw [a, b, List.drop_eq_getElem_cons hk]
  show L.take k ++ (if bfP p L[k].key = true then _ else _) = _
  rw [if_neg (by rw [h3]; simp), List.set_eq_take_append_cons_drop, if_pos hk]
theorem gramsP_n (P : List Pr) (g : Gm) (hg : g ∈ gramsP P) : 0 ≤ g.n ∧ g.n ≤ P.length := by
  have h := ((gramsP_ok P).cnt g hg).1
  have := List.count_le_length (a := g.key) (l := P)
  omega

theorem addr0 (g k : Nat) : (⟨g, 0, none⟩ : Addr).add k = ⟨g, k, none⟩ := by unfold Addr.add; split <;> simp_all
/-! ### own rows -/
theorem gcellsE (l : List Gm) : cellsOf genc l = gcells l := rfl
theorem OwnG.row {base : Nat} {L : List Gm} {v : Value} {w : World} (h : OwnG base L v w) (h0 : 0 < L.length) : ∃ g cap cur, v = .slice (some ⟨g, 0, none⟩) L.length cap ∧ base ≤ g ∧ w.heap[g]? = some (.cells cur 72 (0, 0)) ∧ L.length ≤ cap ∧ cap ≤ maxLen ∧ cur.size = cap * 3 ∧ cur.toList.take (L.length * 3) = gcells L := by
  rcases h.2 with ⟨_, hz⟩ | ⟨g, cap, cur, hv, r⟩
  · omega
  · exact ⟨g, cap, cur, hv, r⟩
theorem gcells_set (L : List Gm) (n : Int) : ∀ (k : Nat) (h : k < L.length), (gcells L).set (k * 3 + 2) (.int .i64 n) = gcells (L.set k ⟨(L[k]'h).f, (L[k]'h).s, n⟩) := by
  induction L with
  | nil => intro k h; cases h
  | cons x t ih =>
    intro k h
    have e : gcells (x :: t) = .string x.f :: .string x.s :: .int .i64 x.n :: gcells t := rfl
    rw [e]
    cases k with
    | zero => rfl
    | succ j =>
      have := ih j (by simpa using h)
      rw [show (j + 1) * 3 + 2 = (j * 3 + 2) + 1 + 1 + 1 by omega, List.set_cons_succ, List.set_cons_succ, List.set_cons_succ, this]
      rfl
theorem OwnG.bump {base : Nat} {L : List Gm} {g n cap : Nat} {w : World} (h : OwnG base L (.slice (some ⟨g, 0, none⟩) n cap) w) (k : Nat) (hk : k < L.length) (m : Int) :
    OwnG base (L.set k ⟨(L[k]'hk).f, (L[k]'hk).s, m⟩) (.slice (some ⟨g, 0, none⟩) n cap) (w.setCell ⟨g, k * 3 + 2, none⟩ (.int .i64 m)) := by
  obtain ⟨g', cap', cur, hv, hb, hh, hc, hm, hs, ht⟩ := OwnG.row h (by omega)
  injection hv with h1 h2 h3
  injection h1 with h1; injection h1 with h1
  subst h1; subst h2; subst h3
  refine ⟨?_, .inr ⟨g, cap, cur.setIfInBounds (k * 3 + 2) (.int .i64 m), by simp, hb, setCell_at _ _ _ _ _ _ hh, by simpa using hc, hm, by simpa using hs, ?_⟩⟩
  · rw [gcellsE, gcells_length]
  · rw [gcellsE, ← gcells_set, ← ht, Array.toList_setIfInBounds, List.length_set, List.take_set]
theorem gs_drop (W : World) (p : Option Addr) (l : List Gm) (h : Gs W p l) (k : Nat) (hk : k ≤ l.length) (q : Option Addr) (hq : ∀ a, p = some a → k < l.length → q = some (a.add (k * 3))) : Gs W q (l.drop k) := fun h0 => by
  have hk2 : k < l.length := by simp at h0; omega
  obtain ⟨a, ha, hlt, hc⟩ := h (by omega)
  refine ⟨a.add (k * 3), hq a ha hk2, by rw [add_block]; exact hlt, fun i hi => ?_⟩
  have hi2 : k + i < l.length := by simp at hi; omega
  obtain ⟨c0, c1, c2⟩ := hc (k + i) hi2
  have add_add : ∀ n m : Nat, (a.add n).add m = a.add (n + m) := fun n m => by
    unfold Addr.add
    by_cases h1 : n = 0
    · rw [if_pos h1, h1]; simp
    · rw [if_neg h1]
      by_cases h2 : m = 0
      · rw [if_pos h2, h2, if_neg (by omega)]; rfl
      · rw [if_neg h2, if_neg (by omega)]; simp; omega
  rw [List.getElem_drop]
  rw [add_add, add_add, add_add, show k * 3 + i * 3 = (k + i) * 3 by omega, show k * 3 + (i * 3 + 1) = (k + i) * 3 + 1 by omega, show k * 3 + (i * 3 + 2) = (k + i) * 3 + 2 by omega]
  exact ⟨c0, c1, c2⟩
theorem gs_take {W : World} {p : Option Addr} {l : List Gm} (h : Gs W p l) (k : Nat) : Gs W p (l.take k) := fun h0 => by
  have h1 : 0 < l.length := by simp at h0; omega
  obtain ⟨a, ha, hlt, hc⟩ := h h1
  refine ⟨a, ha, hlt, fun i hi => ?_⟩
  rw [List.getElem_take]; exact hc i (by simp at hi; omega)
theorem own_litG {W : World} {g base : Nat} {cur : Array Value} {L : List Gm} (h : W.heap[g]? = some (.cells cur 72 (0, 0))) (hb : base ≤ g) (hc : cur.toList = gcells L) (hl : L.length ≤ maxLen) : OwnG base L (.slice (some ⟨g, 0, none⟩) L.length L.length) W := by
  have hs : cur.size = L.length * 3 := by have := congrArg List.length hc; rw [gcells_length] at this; simpa using this
  refine ⟨by rw [cellsOf_len eG], .inr ⟨g, L.length, cur, rfl, hb, h, Nat.le_refl _, hl, hs, ?_⟩⟩
  rw [hc, gcellsE, List.take_of_length_le (by rw [gcells_length]; omega)]
theorem Gs.news {w : World} {a : Addr} {M : List Gm} (hM : Gs w (some a) M) : ∀ j u, (gcells M)[j]? = some u → w.cell? (a.add j) = some u := fun j u hj => by
  have hlt : j < M.length * 3 := by have := (List.getElem?_eq_some_iff.1 hj).1; rwa [gcells_length] at this
  obtain ⟨b, e, _, hc⟩ := hM (by omega)
  injection e with e; subst e
  obtain ⟨i, r, hi, hr, rfl⟩ : ∃ i r, i < M.length ∧ r < 3 ∧ j = i * 3 + r := ⟨j / 3, j % 3, by omega, by omega, by omega⟩
  obtain ⟨g0, g1, g2⟩ := gcells_at M i hi
  obtain ⟨c0, c1, c2⟩ := hc i hi
  have : r = 0 ∨ r = 1 ∨ r = 2 := by omega
  rcases this with rfl | rfl | rfl
  · rw [Nat.add_zero] at *; rw [g0] at hj; injection hj with hj; subst hj; exact c0
  · rw [g1] at hj; injection hj with hj; subst hj; exact c1
  · rw [g2] at hj; injection hj with hj; subst hj; exact c2
theorem append_grams (w : World) (ty : TypeId) (base : Nat) (L M : List Gm) (v : Value) (p : Option Addr) (c : Nat) (h : OwnG base L v w) (hM : Gs w p M) (hbase : base ≤ w.heap.size) (hl : (L.length + M.length) * 40 ≤ 140737488355328) :
    ∃ v' w', (Builtin.append_ #[58, 58] ty #[v, .slice p M.length c]).run Tryz.prog w = .ok v' w' ∧ OwnG base (L ++ M) v' w' ∧ w.grownBy w' v.ownBlock := by
  obtain ⟨i, hi, hz0, hz1, hz2⟩ := eG.hi
  by_cases h0 : M.length = 0
  · have hM0 : M = [] := List.length_eq_zero_iff.1 h0
    subst hM0
    rw [List.append_nil]
    refine ⟨v, w, ?_, h, World.grownBy.refl _ _⟩
    obtain ⟨p1, c1, rfl, hle, _⟩ := OwnG.gs h
    refine run_append_nothing w 58 58 ty 72 i eG.ht hi p1 L.length c1 hle _ ?_
    cases p with
    | none => exact Src.ofNil w eG.ht c
    | some a => exact Src.ofSlice w eG.ht a 0 c [] (by simp) (fun j u hj => by simp at hj) (fun u hu => by cases hu)
  · obtain ⟨a, rfl, hlt, _⟩ := hM (by omega)
    have hm3 := gcells_length M
    obtain ⟨g, cap, w', hr, h2, h3, h4, h5⟩ := run_append_lies (P := Tryz.prog) w 58 ty base 72 i _ 3 40 eG.ht hi hz0 hz1 hz2 eG.hzs eG.hsz v L.length (cellsOf genc L) h a M.length c (gcells M) hm3 hM.news (gcells_one M) (by omega) (by unfold maxLen; omega) hl hbase _ rfl
    refine ⟨_, w', hr, ?_, h3⟩
    unfold OwnG OwnL
    rw [List.length_append, show cellsOf genc (L ++ M) = cellsOf genc L ++ gcells M from by unfold cellsOf gcells; rw [List.flatMap_append]]
    exact h2
theorem wpl_catG {w : World} {ops : Array Oper} {rest : List Oper} {o : Oper} {a : Act} {Q : Exit → Act → World → Prop} (hgd : o.guard = none) (s x : Operand) (ho : o.op = .call { callee := .builtin .append, args := #[s, x], argTypes := #[58, 58] })
    (w0 : World) (L M : List Gm) (v : Value) (hs : a.eval s = v) (h : AccG w0 L v w) (p : Option Addr) (m c : Nat) (hx : a.eval x = .slice p m c) (hm : m = M.length) (hM : Gs w p M) (hl : (L.length + M.length) * 40 ≤ 140737488355328)
    (hK : ∀ v' w', AccG w0 (L ++ M) v' w' → wpList Tryz.prog ops Q rest (a.put o.dst v') w') : wpList Tryz.prog ops Q (o :: rest) a w := by
  subst hm
  obtain ⟨v', w', hr, h1, h2⟩ := append_grams w o.type w0.heap.size L M v p c h.own hM h.below.size hl
  exact Lib.wpList_append_run w hgd s x 58 58 ho v _ hs hx v' w' hr (hK v' w' (h.more h2 h1))
def HeldG (b : Nat) (t : Gm) (W : World) : Prop := W.cell? ⟨b, 0, none⟩ = some (.string t.f) ∧ W.cell? ⟨b, 1, none⟩ = some (.string t.s) ∧ W.cell? ⟨b, 2, none⟩ = some (.int .i64 t.n)
theorem heldG_same {b : Nat} {t : Gm} {W W' : World} (h : HeldG b t W) (hb : W'.heap[b]? = W.heap[b]?) : HeldG b t W' :=
  ⟨by rw [World.cell?_of_block (w := W) (a := ⟨b, 0, none⟩) hb]; exact h.1, by rw [World.cell?_of_block (w := W) (a := ⟨b, 1, none⟩) hb]; exact h.2.1, by rw [World.cell?_of_block (w := W) (a := ⟨b, 2, none⟩) hb]; exact h.2.2⟩
theorem HeldG.lt {b : Nat} {t : Gm} {W : World} (h : HeldG b t W) : b < W.heap.size := block_lt_of_cell h.1
theorem heldG_call {b : Nat} {t : Gm} {W W' : World} (h : HeldG b t W) (hb : Below W.heap.size W W') : HeldG b t W' := heldG_same h (hb.block b h.lt)
theorem heldG_grow {b g : Nat} {t : Gm} {W W' : World} (h : HeldG b t W) (hg : W.grownBy W' (some g)) (hne : b ≠ g) : HeldG b t W' := heldG_same h (hg.block b h.lt (fun e => hne (by injection e)))
theorem OwnG.same {base : Nat} {L : List Gm} {v : Value} {w w1 : World} (h : OwnG base L v w) (hb : ∀ k, v.ownBlock = some k → w1.heap[k]? = w.heap[k]?) : OwnG base L v w1 := OwnL.keepAt h hb
end Go.Proofs.YthfgpagmepdblaaGreat
