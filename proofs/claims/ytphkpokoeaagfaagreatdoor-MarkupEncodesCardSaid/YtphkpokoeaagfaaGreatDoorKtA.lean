/- Plain mathematics of notations: the whole of a notation. Plain mathematics of raw contents without tags: what is read of one, element by element. Plain mathematics of slices of fragments. Plain mathematics of fragments as their positions: one item for each. Plain mathematics of raw contents with markup: elements, numbers of tags, words. -/
import Derived.Test.YtphkpokoeaagfaaGreatDoorNtr
import Derived.Test.YtphkpokoeaagfaaGreatDoorGvl
import Derived.Test.YtphkpokoeaagfaaGreatDoorNrq
import Derived.Test.YtphkpokoeaagfaaGreatDoorSli
namespace Go.Proofs.YtphkpokoeaagfaaGreatDoor
set_option linter.unusedVariables false
open Go.Lib

def goP : Nat → List It → Nat → Nat → List UInt8 → List It × Nat × Int
  | 0, f, _, _, _ => (f, 0, 0)
  | m + 1, f, n, p, s =>
    if s = [] then (f, 0, 0)
    else match rdE s with
      | none => ([], p, 2)
      | some (x, k) => if x.k ≠ 1 ∧ errAt f x ≠ 0 then ([], p, errAt f x) else if 512 < (normS f x).length ∨ 1024 < n + 1 then ([], p, 3) else goP m (normS f x) (n + 1) (p + k) (s.drop k)
theorem goP_fuel : ∀ m m' f n p s, s.length ≤ m → s.length ≤ m' → goP m f n p s = goP m' f n p s := by
  intro m
  induction m with
  | zero =>
    intro m' f n p s h h'
    obtain rfl : s = [] := List.length_eq_zero_iff.1 (by omega)
    cases m' with
    | zero => rfl
    | succ j => rw [goP, goP, if_pos rfl]
  | succ m ih =>
    intro m' f n p s h h'
    cases s with
    | nil =>
      cases m' with
      | zero => rw [goP, goP, if_pos rfl]
      | succ j => rw [goP, goP, if_pos rfl, if_pos rfl]
    | cons c r =>
      cases m' with
      | zero => simp at h'
      | succ j =>
        rw [goP, goP, if_neg (by simp), if_neg (by simp)]
        cases hr : rdE (c :: r) with
        | none => rfl
        | some y =>
          obtain ⟨x, k⟩ := y
          have hk := rd_pos hr
          simp only []
          split
          · rfl
          · split
            · rfl
            · simp only [List.length_cons] at h h' hk
              exact ih j _ _ _ _ (by rw [List.length_drop, List.length_cons]; omega) (by rw [List.length_drop, List.length_cons]; omega)
/-- What is read behind f, of n positions, from offset p on. -/
def go (f : List It) (n p : Nat) (s : List UInt8) : List It × Nat × Int := goP s.length f n p s
def parseN (s : List UInt8) : List It × Nat × Int := go [] 0 0 s
theorem go_nil (f : List It) (n p : Nat) : go f n p [] = (f, 0, 0) := rfl
theorem go_cons (f : List It) (n p : Nat) (s : List UInt8) (hs : s ≠ []) : go f n p s = match rdE s with
      | none => ([], p, 2)
      | some (x, k) => if x.k ≠ 1 ∧ errAt f x ≠ 0 then ([], p, errAt f x) else if 512 < (normS f x).length ∨ 1024 < n + 1 then ([], p, 3) else go (normS f x) (n + 1) (p + k) (s.drop k) := by
  unfold go
  cases s with
  | nil => exact absurd rfl hs
  | cons c r =>
    show goP (r.length + 1) f n p (c :: r) = _
    rw [goP, if_neg hs]
    cases hr : rdE (c :: r) with
    | none => rfl
    | some y =>
      obtain ⟨x, k⟩ := y
      have hk := rd_pos hr
      simp only [List.length_cons] at hk
      simp only []
      split
      · rfl
      · split
        · rfl
        · exact goP_fuel _ _ _ _ _ _ (by rw [List.length_drop, List.length_cons]; omega) (Nat.le_refl _)
theorem go_none (f : List It) (n p : Nat) (s : List UInt8) (hs : s ≠ []) (h : rdE s = none) : go f n p s = ([], p, 2) := by rw [go_cons f n p s hs, h]
theorem go_bad (f : List It) (n p : Nat) (s : List UInt8) (hs : s ≠ []) {x : It} {k : Nat} (h : rdE s = some (x, k)) (hk : x.k ≠ 1) (he : errAt f x ≠ 0) : go f n p s = ([], p, errAt f x) := by rw [go_cons f n p s hs, h]; exact if_pos ⟨hk, he⟩
theorem go_full (f : List It) (n p : Nat) (s : List UInt8) (hs : s ≠ []) {x : It} {k : Nat} (h : rdE s = some (x, k)) (he : x.k = 1 ∨ errAt f x = 0) (hl : 512 < (normS f x).length ∨ 1024 < n + 1) : go f n p s = ([], p, 3) := by
  rw [go_cons f n p s hs, h]; simp only []; rw [if_neg (by rintro ⟨a, b⟩; rcases he with e | e; exact a e; exact b e), if_pos hl]
theorem go_more (f : List It) (n p : Nat) (s : List UInt8) (hs : s ≠ []) {x : It} {k : Nat} (h : rdE s = some (x, k)) (he : x.k = 1 ∨ errAt f x = 0) (h1 : (normS f x).length ≤ 512) (h2 : n + 1 ≤ 1024) : go f n p s = go (normS f x) (n + 1) (p + k) (s.drop k) := by
  rw [go_cons f n p s hs, h]; simp only []; rw [if_neg (by rintro ⟨a, b⟩; rcases he with e | e; exact a e; exact b e), if_neg (by omega)]

/-! ### what is written is read -/
theorem flush_len' (res : List It) (bs : List UInt8) : (flush res bs).length ≤ res.length + 1 := by unfold flush; split <;> simp
theorem wrU_ne (c : UInt8) : wrU c ≠ [] := fun e => by have := (wrU_len c).1; rw [e] at this; simp at this
theorem go_text (P : List It) (hP : lastText P = false) (hl : P.length + 1 ≤ 512) (rest : List UInt8) : ∀ (bs done : List UInt8) (n p : Nat), n + bs.length ≤ 1024 →
    go (flush P done) n p (wrL bs ++ rest) = go (flush P (done ++ bs)) (n + bs.length) (p + (wrL bs).length) rest := by
  intro bs
  induction bs with
  | nil => intro done n p _; simp [wrL]
  | cons c t ih =>
    intro done n p hn
    simp only [List.length_cons] at hn
    have e : wrL (c :: t) = wrU c ++ wrL t := rfl
    have hs : wrU c ++ (wrL t ++ rest) ≠ [] := fun h => wrU_ne c (List.append_eq_nil_iff.1 h).1
    have hnt : normS (flush P done) (bT c) = flush P (done ++ [c]) := norm_text P done (bT c) hP rfl
    have h5 := flush_len' P (done ++ [c])
    rw [e, List.append_assoc, go_more _ n p _ hs (rd_byte c _) (.inl rfl) (by rw [hnt]; omega) (by omega), hnt, List.drop_left, ih _ _ _ (by omega)]
    simp only [List.length_append, List.length_cons, List.append_assoc, List.singleton_append]
    rw [show n + 1 + t.length = n + (t.length + 1) by omega, show p + (wrU c).length + (wrL t).length = p + ((wrU c).length + (wrL t).length) by omega]
theorem el_ne (x : It) (hp : properB x = true) (hk : x.k ≠ 1) : elL x ≠ [] := by
  rcases proper_kinds hp with h | h | h
  · exact absurd h hk
  · rw [el_tag x h]; simp
  · rw [el_slot h]; simp
theorem go_other (P : List It) (x : It) (n p : Nat) (rest : List UInt8) (hp : properB x = true) (hk : x.k ≠ 1) (he : errAt P x = 0) (hl : P.length + 1 ≤ 512) (hn : n + 1 ≤ 1024) :
    go P n p (elL x ++ rest) = go (P ++ [x]) (n + 1) (p + (elL x).length) rest := by
  have hs : elL x ++ rest ≠ [] := fun h => el_ne x hp hk (List.append_eq_nil_iff.1 h).1
  have e := norm_other P x hk
  rw [go_more P n p _ hs (rd_el x hp hk rest) (.inr he) (by rw [e]; simp; omega) hn, e, List.drop_left]
theorem valE_zero {l : List It} (h : valE l = 0) : l.length ≤ 512 ∧ lenI l ≤ 1024 ∧ errL [] l = 0 := by
  unfold valE at h
  by_cases hh : 512 < l.length ∨ 1024 < lenI l
  · rw [if_pos hh] at h; cases h
  · rw [if_neg hh] at h; exact ⟨by omega, by omega, h⟩
theorem valE_of {l : List It} (h1 : l.length ≤ 512) (h2 : lenI l ≤ 1024) (h3 : errL [] l = 0) : valE l = 0 := by
  unfold valE; rw [if_neg (by omega), h3]
theorem errL_at (l : List It) (h : errL [] l = 0) (k : Nat) (hk : k < l.length) : errL [] (l.take k) = 0 ∧ errAt (l.take k) (l[k]'hk) = 0 := by
  have e : l.take (k + 1) ++ l.drop (k + 1) = l := List.take_append_drop _ _
  rw [← e] at h
  have h1 := errL_left _ _ h
  rw [List.take_succ_eq_append_getElem hk] at h1
  have h2 := errL_left _ _ h1
  rw [errL_snoc _ _ h2] at h1
  exact ⟨h2, h1⟩
theorem go_fmt (f : List It) (h : valE f = 0) : ∀ k, k ≤ f.length → go [] 0 0 (fmtN f) = go (f.take k) (lenI (f.take k)) (fmtN (f.take k)).length (fmtN (f.drop k)) := by
  obtain ⟨h1, h2, h3⟩ := valE_zero h
  intro k
  induction k with
  | zero => intro _; simp [lenI, fmtN]
  | succ k ih =>
    intro hk
    obtain ⟨e1, e2⟩ := errL_at f h3 k (by omega)
    have e3 := lenI_next f k (by omega)
    have e4 := lenI_take f (k + 1)
    have e5 := fmtN_next f k (by omega)
    have e6 : fmtN (f.drop k) = elL f[k] ++ fmtN (f.drop (k + 1)) := by rw [List.drop_eq_getElem_cons (by omega)]; rfl
    have e7 := List.take_succ_eq_append_getElem (show k < f.length by omega)
    have e8 : (f.take k).length = k := by simp; omega
    have hw : wid f[k] = if f[k].k = 1 then f[k].t.size else 1 := rfl
    rw [ih (by omega), e6, e3, e5]
    generalize hx : f[k] = x at *
    have hz := (errAt_zero _ _).1 e2
    by_cases hk1 : x.k = 1
    · have hlt := hz.2.1 hk1
      obtain ⟨ht, hi⟩ := (proper_text hk1).1 hz.1
      have hel : elL x = wrL x.t.data.toList := if_pos hk1
      have hsz : x.t.data.toList.length = x.t.size := by simp
      rw [hw, if_pos hk1] at e3
      have := go_text (f.take k) hlt (by omega) (fmtN (f.drop (k + 1))) x.t.data.toList [] (lenI (f.take k)) (fmtN (f.take k)).length (by omega)
      rw [flush_nil, List.nil_append, flush_some _ _ (fun e => ht ((bytes_nil x.t).1 e)), bytes_of, ← text_eta hk1 hi, ← e7] at this
      rw [hel, this, hw, if_pos hk1, List.length_append, hsz]
    · rw [hw, if_neg hk1] at e3
      rw [hw, if_neg hk1]
      rw [go_other _ x _ _ _ hz.1 hk1 e2 (by omega) (by omega), ← e7, List.length_append]
/-- What Format writes is read again. -/
theorem parse_fmt (f : List It) (h : valE f = 0) : parseN (fmtN f) = (f, 0, 0) := by
  have := go_fmt f h f.length (Nat.le_refl _)
  rw [List.take_length, List.drop_length] at this
  exact this
theorem fmt_inj (f g : List It) (hf : valE f = 0) (hg : valE g = 0) (h : fmtN f = fmtN g) : f = g := by
  have a := parse_fmt f hf
  have b := parse_fmt g hg
  rw [h, b] at a
  exact (congrArg Prod.fst a).symm

/-! ### what is read was written -/
theorem fmt_step (f : List It) (x : It) : fmtN (normS f x) = fmtN f ++ elL x := by
  by_cases hk : x.k = 1
  · have hel : elL x = wrL x.t.data.toList := if_pos hk
    rw [hel]
    by_cases h : x.t.size = 0
    · rw [norm_skip f x hk h, (bytes_nil x.t).2 h]; simp [wrL]
    · rcases Nat.lt_or_ge 0 f.length with hlo | hlo
      · obtain ⟨L, z, ho, hl⟩ := out_last f hlo
        by_cases hz : z.k = 1
        · rw [norm_last f x hk h L z ho hz, ho, fmtN_snoc, fmtN_snoc]
          have e1 : elL z = wrL z.t.data.toList := if_pos hz
          have e2 : elL ⟨1, z.t ++ x.t, 0⟩ = wrL (z.t ++ x.t).data.toList := if_pos rfl
          rw [e1, e2, ByteArray.data_append]
          simp [wrL_append]
        · rw [norm_fresh f x hk h (by rw [hl]; simpa using hz), fmtN_snoc]; rfl
      · have ho : f = [] := List.length_eq_zero_iff.1 (by omega)
        subst ho
        rw [norm_fresh [] x hk h rfl, fmtN_snoc]; rfl
  · rw [norm_other f x hk, fmtN_snoc]
theorem el_byte (c : UInt8) : elL (bT c) = wrU c := by
  have : elL (bT c) = wrL [c] := if_pos rfl
  rw [this]; simp [wrL]
theorem rd_take {l : List UInt8} {x : It} {n : Nat} (h : rdE l = some (x, n)) : l.take n = elL x ∧ wid x = 1 ∧ (x.k ≠ 1 → properB x = true) ∧ (x.k = 1 → x = ⟨1, x.t, 0⟩ ∧ x.t.size = 1) := by
  by_cases hk : x.k = 1
  · obtain ⟨c, h1, h2, _⟩ := rd_text h hk
    refine ⟨by rw [h2, h1, el_byte], by rw [h1]; rfl, fun h => absurd hk h, fun _ => ?_⟩
    rw [h1]; exact ⟨rfl, rfl⟩
  · obtain ⟨h1, h2, _⟩ := rd_other h hk
    exact ⟨h2, if_neg hk, fun _ => h1, fun h => absurd h hk⟩
theorem err_step (f : List It) (x : It) (h : errL [] f = 0) (ht : x.k = 1 → x = ⟨1, x.t, 0⟩) (hp : x.k ≠ 1 → properB x = true ∧ errAt f x = 0) : errL [] (normS f x) = 0 := by
  have e : normS f x = norm (f ++ [x]) := by rw [norm_snoc, norm_valid f h]
  rw [e]
  by_cases hk : x.k = 1
  · rw [ht hk]; exact err_text f x.t h
  · obtain ⟨a, b⟩ := hp hk
    exact err_other f x h hk a ((errAt_zero f x).1 b).2.2
structure Good (S : List UInt8) (r : List It × Nat × Int) : Prop where
  ok : r.2.2 = 0 → fmtN r.1 = S ∧ valE r.1 = 0 ∧ r.2.1 = 0
  no : r.2.2 ≠ 0 → r.1 = [] ∧ r.2.1 < S.length ∧ ∃ g, S.take r.2.1 = fmtN g ∧ valE g = 0
theorem go_good (S : List UInt8) : ∀ (m : Nat) (f : List It) (n p : Nat) (s : List UInt8), s.length ≤ m → S = fmtN f ++ s → p = (fmtN f).length → errL [] f = 0 → f.length ≤ 512 → n = lenI f → n ≤ 1024 → Good S (go f n p s) := by
  intro m
  induction m with
  | zero =>
    intro f n p s h0 hS hp he hl hn h1
    obtain rfl : s = [] := List.length_eq_zero_iff.1 (by omega)
    rw [go_nil]
    exact ⟨fun _ => ⟨by rw [hS]; simp, valE_of (l := f) hl (by omega) he, rfl⟩, fun h => absurd rfl h⟩
  | succ m ih =>
    intro f n p s h0 hS hp he hl hn h1
    by_cases hs : s = []
    · subst hs
      rw [go_nil]
      exact ⟨fun _ => ⟨by rw [hS]; simp, valE_of (l := f) hl (by omega) he, rfl⟩, fun h => absurd rfl h⟩
    · have hpos : 0 < s.length := List.length_pos_iff.2 hs
      have hno : ∀ e : Int, e ≠ 0 → Good S ([], p, e) := fun e h => ⟨fun h' => absurd h' h, fun _ => ⟨rfl, by show p < S.length; rw [hS, List.length_append]; omega, f, by show S.take p = _; rw [hS, hp, List.take_left], valE_of (l := f) hl (by omega) he⟩⟩
      cases hr : rdE s with
      | none => rw [go_none f n p s hs hr]; exact hno 2 (by decide)
      | some y =>
        obtain ⟨x, k⟩ := y
        obtain ⟨t1, t2, t3, t4⟩ := rd_take hr
        have hk := rd_pos hr
        by_cases hb : x.k ≠ 1 ∧ errAt f x ≠ 0
        · rw [go_bad f n p s hs hr hb.1 hb.2]; exact hno _ hb.2
        · have hb' : x.k = 1 ∨ errAt f x = 0 := by
            by_cases h : x.k = 1
            · exact .inl h
            · by_cases h2 : errAt f x = 0
              · exact .inr h2
              · exact absurd ⟨h, h2⟩ hb
          by_cases hf : 512 < (normS f x).length ∨ 1024 < n + 1
          · rw [go_full f n p s hs hr hb' hf]; exact hno 3 (by decide)
          · rw [go_more f n p s hs hr hb' (by omega) (by omega)]
            refine ih _ _ _ _ (by rw [List.length_drop]; omega) ?_ ?_ ?_ (by omega) ?_ (by omega)
            · rw [fmt_step, List.append_assoc, ← t1, List.take_append_drop]; exact hS
            · rw [fmt_step, List.length_append, ← t1, List.length_take, Nat.min_eq_left hk.2, hp]
            · exact err_step f x he (fun h => (t4 h).1) (fun h => ⟨t3 h, hb'.resolve_left h⟩)
            · rw [len_step, t2, hn]
theorem parse_good (S : List UInt8) : Good S (parseN S) := go_good S S.length [] 0 0 S (Nat.le_refl _) rfl rfl rfl (by simp) rfl (by omega)
theorem parse_prefix (S : List UInt8) (h : (parseN S).2.2 ≠ 0) : (parseN S).2.1 < S.length ∧ (parseN (S.take (parseN S).2.1)).2.2 = 0 := by
  obtain ⟨_, h2, g, h3, h4⟩ := (parse_good S).no h
  exact ⟨h2, by rw [h3, parse_fmt g h4]⟩

/-! ### one line -/
theorem wrU_line : ∀ c : UInt8, ∀ b ∈ wrU c, b ≠ 10 := fun c b hb => by
  have : (wrU c).all (fun b => b != 10) = true := all_u8 (P := fun c => (wrU c).all (fun b => b != 10) = true) (by decide +kernel) c
  have := List.all_eq_true.1 this b hb
  simpa using this
theorem el_line (x : It) (hp : properB x = true) : ∀ b ∈ elL x, b ≠ 10 := by
  intro b hb
  rcases proper_kinds hp with h | h | h
  · have e : elL x = wrL x.t.data.toList := if_pos h
    rw [e] at hb
    unfold wrL at hb
    obtain ⟨c, _, hc⟩ := List.mem_flatMap.1 hb
    exact wrU_line c b hc
  · rw [el_tag x h] at hb
    simp only [List.mem_cons, List.mem_append, List.mem_nil_iff, or_false] at hb
    rcases hb with rfl | hb | rfl
    · decide
    · exact (ins_ne x h hp b hb).2
    · decide
  · rw [el_slot h] at hb
    rw [slot_proper h] at hp
    simp at hp
    simp only [List.mem_cons, List.mem_append, List.mem_nil_iff, or_false] at hb
    rcases hb with rfl | hb | rfl
    · decide
    · exact (nm_ne hp.1 hb).2.2.1
    · decide
theorem errL_proper (l : List It) (h : errL [] l = 0) : ∀ x ∈ l, properB x = true := fun x hx => by
  obtain ⟨k, hk, e⟩ := List.mem_iff_getElem.1 hx
  have := (errL_at l h k hk).2
  rw [e] at this
  exact ((errAt_zero _ _).1 this).1
theorem fmt_line (f : List It) (h : valE f = 0) : ∀ b ∈ fmtN f, b ≠ 10 := fun b hb => by
  unfold fmtN at hb
  obtain ⟨x, hx, hc⟩ := List.mem_flatMap.1 hb
  exact el_line x (errL_proper f (valE_zero h).2.2 x hx) b hc
end Go.Proofs.YtphkpokoeaagfaaGreatDoor
namespace Go.Proofs.YtphkpokoeaagfaaGreatDoor
set_option linter.unusedVariables false
open Go.Lib

/-- What stands at the beginning of some bytes: an element's item (none: a continuation) and its length. -/
abbrev ElF := List UInt8 → Option (Option It × Nat)
/-- An item of one position, as an element gives it. -/
def One (x : It) : Prop := (x.k = 1 ∧ x.t.size = 1 ∧ x.id = 0) ∨ (x.k ≠ 1 ∧ properB x = true)
theorem One.wid {x : It} (h : One x) : wid x = 1 := by
  unfold Go.Proofs.YtphkpokoeaagfaaGreatDoor.wid
  rcases h with ⟨h1, h2, _⟩ | ⟨h1, _⟩
  · rw [if_pos h1]; exact h2
  · rw [if_neg h1]
/-- What the reading of an element keeps to. -/
structure ElOk (el : ElF) : Prop where
  take : ∀ s o n, el s = some (o, n) → 1 ≤ n ∧ n ≤ s.length
  one : ∀ s x n, el s = some (some x, n) → One x
  item : ∀ s x n, el s = some (some x, n) → ∀ r, el (s.take n ++ r) = some (some x, n)
  cont : ∀ s n, el s = some (none, n) → ∀ r, r.head? = (s.drop n).head? → el (s.take n ++ r) = some (none, n)

def decP (el : ElF) : Nat → List It → List Nat → Nat → Nat → List UInt8 → List It × List Nat × Nat × Int
  | 0, f, cs, _, d, _ => (f, cs ++ [d], 0, 0)
  | m + 1, f, cs, p, d, s =>
    if s = [] then (f, cs ++ [d], 0, 0)
    else match el s with
      | none => ([], [], p, 2)
      | some (none, k) => decP el m f cs (p + k) d (s.drop k)
      | some (some x, k) => if 512 < (normS f x).length ∨ 1024 ≤ cs.length then ([], [], p, 3) else decP el m (normS f x) (cs ++ [d]) (p + k) (p + k) (s.drop k)
theorem decP_nil (el : ElF) (m : Nat) (f : List It) (cs : List Nat) (p d : Nat) : decP el m f cs p d [] = (f, cs ++ [d], 0, 0) := by
  cases m with
  | zero => rfl
  | succ m => unfold decP; rw [if_pos rfl]
theorem decP_fuel {el : ElF} (h : ElOk el) : ∀ m m' f cs p d s, s.length ≤ m → s.length ≤ m' → decP el m f cs p d s = decP el m' f cs p d s := by
  intro m
  induction m with
  | zero => intro m' f cs p d s h0 _; rw [List.length_eq_zero_iff.1 (by omega : s.length = 0), decP_nil, decP_nil]
  | succ m ih =>
    intro m' f cs p d s h0 h1
    by_cases hs : s = []
    · subst hs; rw [decP_nil, decP_nil]
    · cases m' with
      | zero => exact absurd (List.length_eq_zero_iff.1 (by omega)) hs
      | succ m' =>
        unfold decP
        rw [if_neg hs, if_neg hs]
        cases he : el s with
        | none => rfl
        | some y =>
          obtain ⟨o, k⟩ := y
          obtain ⟨hk, hk2⟩ := h.take s o k he
          have hd : (s.drop k).length ≤ m := by rw [List.length_drop]; omega
          have hd' : (s.drop k).length ≤ m' := by rw [List.length_drop]; omega
          cases o with
          | none => exact ih m' _ _ _ _ _ hd hd'
          | some x =>
            dsimp only
            split
            · rfl
            · exact ih m' _ _ _ _ _ hd hd'
def decG (el : ElF) (f : List It) (cs : List Nat) (p d : Nat) (s : List UInt8) : List It × List Nat × Nat × Int := decP el s.length f cs p d s
/-- What a raw content decodes to: the fragment, the cuts, the offset of an error, the error. -/
def dec (el : ElF) (s : List UInt8) : List It × List Nat × Nat × Int := decG el [] [] 0 0 s
theorem decG_nil (el : ElF) (f : List It) (cs : List Nat) (p d : Nat) : decG el f cs p d [] = (f, cs ++ [d], 0, 0) := decP_nil _ _ _ _ _ _
theorem decG_cons {el : ElF} (h : ElOk el) (f : List It) (cs : List Nat) (p d : Nat) (s : List UInt8) (hs : s ≠ []) : decG el f cs p d s = match el s with
      | none => ([], [], p, 2)
      | some (none, k) => decG el f cs (p + k) d (s.drop k)
      | some (some x, k) => if 512 < (normS f x).length ∨ 1024 ≤ cs.length then ([], [], p, 3) else decG el (normS f x) (cs ++ [d]) (p + k) (p + k) (s.drop k) := by
  unfold decG
  rw [decP_fuel h s.length (s.length + 1) f cs p d s (Nat.le_refl _) (by omega)]
  show (if s = [] then _ else _) = _
  rw [if_neg hs]
  cases he : el s with
  | none => rfl
  | some y =>
    obtain ⟨o, k⟩ := y
    cases o with
    | none => exact decP_fuel h _ _ _ _ _ _ _ (by rw [List.length_drop]; omega) (Nat.le_refl _)
    | some x =>
      dsimp only
      split
      · rfl
      · exact decP_fuel h _ _ _ _ _ _ _ (by rw [List.length_drop]; omega) (Nat.le_refl _)
theorem decG_none {el : ElF} (h : ElOk el) (f : List It) (cs : List Nat) (p d : Nat) (s : List UInt8) (hs : s ≠ []) (he : el s = none) : decG el f cs p d s = ([], [], p, 2) := by
  rw [decG_cons h f cs p d s hs, he]
theorem decG_cont {el : ElF} (h : ElOk el) (f : List It) (cs : List Nat) (p d : Nat) (s : List UInt8) {k : Nat} (he : el s = some (none, k)) : decG el f cs p d s = decG el f cs (p + k) d (s.drop k) := by
  have hs : s ≠ [] := fun e => by have := h.take s _ _ he; rw [e] at this; simp at this; omega
  rw [decG_cons h f cs p d s hs, he]
theorem decG_full {el : ElF} (h : ElOk el) (f : List It) (cs : List Nat) (p d : Nat) (s : List UInt8) {x : It} {k : Nat} (he : el s = some (some x, k)) (hl : 512 < (normS f x).length ∨ 1024 ≤ cs.length) : decG el f cs p d s = ([], [], p, 3) := by
  have hs : s ≠ [] := fun e => by have := h.take s _ _ he; rw [e] at this; simp at this; omega
  rw [decG_cons h f cs p d s hs, he]; exact if_pos hl
theorem decG_more {el : ElF} (h : ElOk el) (f : List It) (cs : List Nat) (p d : Nat) (s : List UInt8) {x : It} {k : Nat} (he : el s = some (some x, k)) (h1 : (normS f x).length ≤ 512) (h2 : cs.length < 1024) : decG el f cs p d s = decG el (normS f x) (cs ++ [d]) (p + k) (p + k) (s.drop k) := by
  have hs : s ≠ [] := fun e => by have := h.take s _ _ he; rw [e] at this; simp at this; omega
  rw [decG_cons h f cs p d s hs, he]; exact if_neg (by omega)

/-- Bytes that read as continuations and then one element, whatever follows. -/
def Word (el : ElF) (w : List UInt8) (x : It) : Prop := w ≠ [] ∧ One x ∧ ∀ f cs p d r, (normS f x).length ≤ 512 → cs.length < 1024 → decG el f cs p d (w ++ r) = decG el (normS f x) (cs ++ [d]) (p + w.length) (p + w.length) r
/-- Bytes that read as nothing, at the end. -/
def Tail (el : ElF) (t : List UInt8) : Prop := ∀ f cs p d, decG el f cs p d t = (f, cs ++ [d], 0, 0)
theorem Tail.nil (el : ElF) : Tail el [] := fun f cs p d => decG_nil el f cs p d
/-- Words and their items. -/
abbrev Ws := List (List UInt8 × It)
def flatW (ws : Ws) : List UInt8 := ws.flatMap Prod.fst
def itW (ws : Ws) : List It := ws.map Prod.snd
def AllW (el : ElF) (ws : Ws) : Prop := ∀ w ∈ ws, Word el w.1 w.2
theorem AllW.nil (el : ElF) : AllW el [] := fun w hw => by cases hw
def offs : Nat → Ws → List Nat
  | p, [] => [p]
  | p, w :: ws => p :: offs (p + w.1.length) ws
theorem flatW_nil : flatW [] = [] := rfl
theorem flatW_cons (w : List UInt8 × It) (ws : Ws) : flatW (w :: ws) = w.1 ++ flatW ws := by unfold flatW; rw [List.flatMap_cons]
theorem flatW_append (a b : Ws) : flatW (a ++ b) = flatW a ++ flatW b := by unfold flatW; rw [List.flatMap_append]
theorem offs_head (p : Nat) (ws : Ws) : offs p ws = p :: (offs p ws).tail := by cases ws <;> rfl
theorem offs_len (ws : Ws) : ∀ p, (offs p ws).length = ws.length + 1 := by
  induction ws with
  | nil => intro p; rfl
  | cons w ws ih => intro p; show (offs _ ws).length + 1 = _; rw [ih]; rfl
theorem offs_get (ws : Ws) : ∀ p i, i ≤ ws.length → (offs p ws)[i]? = some (p + (flatW (ws.take i)).length) := by
  induction ws with
  | nil => intro p i hi; obtain rfl : i = 0 := by simpa using hi
           rfl
  | cons w ws ih =>
    intro p i hi
    cases i with
    | zero => rfl
    | succ i =>
      show (offs (p + w.1.length) ws)[i]? = _
      rw [ih _ i (by simpa using hi), List.take_succ_cons, flatW_cons, List.length_append]
      congr 1; omega
theorem normS_ge (f : List It) (x : It) : f.length ≤ (normS f x).length := by
  by_cases hk : x.k = 1
  · by_cases h : x.t.size = 0
    · rw [norm_skip f x hk h]; exact Nat.le_refl _
    · rcases Nat.lt_or_ge 0 f.length with hlo | hlo
      · obtain ⟨L, z, ho, hl⟩ := out_last f hlo
        by_cases hz : z.k = 1
        · rw [norm_last f x hk h L z ho hz, ho]; simp
        · rw [norm_fresh f x hk h (by rw [hl]; simpa using hz)]; simp
      · omega
  · rw [norm_other f x hk]; simp
theorem fold_ge (xs : List It) : ∀ f, f.length ≤ (xs.foldl normS f).length := by
  induction xs with
  | nil => intro f; exact Nat.le_refl _
  | cons x xs ih => intro f; exact Nat.le_trans (normS_ge f x) (ih _)
theorem dec_words {el : ElF} (ws : Ws) (t : List UInt8) (ht : Tail el t) : ∀ f cs p d, AllW el ws → ((itW ws).foldl normS f).length ≤ 512 → cs.length + ws.length ≤ 1024 →
    decG el f cs p d (flatW ws ++ t) = ((itW ws).foldl normS f, cs ++ d :: (offs p ws).tail, 0, 0) := by
  induction ws with
  | nil => intro f cs p d _ _ _; exact ht f cs p d
  | cons w ws ih =>
    intro f cs p d hw h1 h2
    have h1' : ((itW ws).foldl normS (normS f w.2)).length ≤ 512 := h1
    have h3 := fold_ge (itW ws) (normS f w.2)
    have hz : cs.length + (ws.length + 1) ≤ 1024 := h2
    rw [flatW_cons, List.append_assoc, (hw w (by simp)).2.2 f cs p d (flatW ws ++ t) (by omega) (by omega), ih _ _ _ _ (fun v hv => hw v (by simp [hv])) h1' (by rw [List.length_append]; simp; omega)]
    show _ = ((itW ws).foldl normS (normS f w.2), cs ++ d :: offs (p + w.1.length) ws, 0, 0)
    rw [List.append_assoc, List.singleton_append, ← offs_head]
theorem word_item {el : ElF} (h : ElOk el) {s : List UInt8} {x : It} {k : Nat} (he : el s = some (some x, k)) : Word el (s.take k) x := by
  have hk := h.take s _ _ he
  have hl : (s.take k).length = k := by rw [List.length_take]; omega
  refine ⟨fun e => by rw [e] at hl; simp at hl; omega, h.one s x k he, fun f cs p d r h1 h2 => ?_⟩
  rw [decG_more h f cs p d _ (h.item s x k he r) h1 h2, hl, List.drop_append_of_le_length (by omega), List.drop_of_length_le (by omega), List.nil_append]
/-- What has been decoded was made of words. -/
theorem words_dec {el : ElF} (h : ElOk el) : ∀ (m : Nat) (f : List It) (cs : List Nat) (p d : Nat) (s : List UInt8), s.length ≤ m → (decG el f cs p d s).2.2.2 = 0 →
    ∃ ws t, s = flatW ws ++ t ∧ AllW el ws ∧ Tail el t ∧ decG el f cs p d s = ((itW ws).foldl normS f, cs ++ d :: (offs p ws).tail, 0, 0) ∧ cs.length + ws.length ≤ max cs.length 1024 ∧ ((itW ws).foldl normS f).length ≤ max f.length 512 := by
  intro m
  induction m with
  | zero =>
    intro f cs p d s hm _
    obtain rfl := List.length_eq_zero_iff.1 (by omega : s.length = 0)
    exact ⟨[], [], rfl, AllW.nil el, Tail.nil el, decG_nil _ _ _ _ _, by show cs.length + 0 ≤ _; omega, by show f.length ≤ _; omega⟩
  | succ m ih =>
    intro f cs p d s hm hz
    by_cases hs : s = []
    · subst hs
      exact ⟨[], [], rfl, AllW.nil el, Tail.nil el, decG_nil _ _ _ _ _, by show cs.length + 0 ≤ _; omega, by show f.length ≤ _; omega⟩
    · cases he : el s with
      | none => rw [decG_none h f cs p d s hs he] at hz; exact absurd hz (by simp)
      | some y =>
        obtain ⟨o, k⟩ := y
        have hk := h.take s o k he
        have hd : (s.drop k).length ≤ m := by rw [List.length_drop]; omega
        have hst : s.take k ++ s.drop k = s := List.take_append_drop k s
        have hlk : (s.take k).length = k := by rw [List.length_take]; omega
        cases o with
        | none =>
          rw [decG_cont h f cs p d s he] at hz ⊢
          obtain ⟨ws, t, e1, e2, e3, e4, e5, e6⟩ := ih f cs (p + k) d (s.drop k) hd hz
          have hgo : ∀ r, r.head? = (s.drop k).head? → ∀ f cs p d, decG el f cs p d (s.take k ++ r) = decG el f cs (p + k) d r := fun r hr f cs p d => by
            rw [decG_cont h f cs p d _ (h.cont s k he r hr), List.drop_append_of_le_length (by omega), List.drop_of_length_le (by omega), List.nil_append]
          cases ws with
          | nil =>
            refine ⟨[], s.take k ++ t, ?_, e2, fun f cs p d => ?_, ?_, e5, e6⟩
            · have e1' : s.drop k = t := e1
              rw [flatW_nil, List.nil_append, ← e1', hst]
            · have e1' : s.drop k = t := e1
              rw [hgo t (by rw [e1'])]
              exact e3 f cs _ d
            · rw [e4]; rfl
          | cons w ws =>
            rw [flatW_cons] at e1
            have hw := e2 w (by simp)
            refine ⟨(s.take k ++ w.1, w.2) :: ws, t, ?_, fun v hv => ?_, e3, ?_, e5, e6⟩
            · rw [flatW_cons]
              show s = (s.take k ++ w.1) ++ flatW ws ++ t
              rw [List.append_assoc, List.append_assoc, ← List.append_assoc w.1, ← e1, hst]
            · rcases List.mem_cons.1 hv with rfl | hv
              · refine ⟨fun e => by simp at e; exact hw.1 e.2, hw.2.1, fun f cs p d r h1 h2 => ?_⟩
                show decG el f cs p d (s.take k ++ w.1 ++ r) = decG el _ _ (p + (s.take k ++ w.1).length) (p + (s.take k ++ w.1).length) r
                have hh : (w.1 ++ r).head? = (s.drop k).head? := by
                  rw [e1]
                  cases hw1 : w.1 with
                  | nil => exact absurd hw1 hw.1
                  | cons a b => rfl
                rw [List.append_assoc, hgo _ hh, hw.2.2 f cs (p + k) d r h1 h2, List.length_append, hlk, Nat.add_assoc]
              · exact e2 v (by simp [hv])
            · rw [e4]
              show ((itW ws).foldl normS (normS f w.2), cs ++ d :: offs (p + k + w.1.length) ws, 0, 0) = ((itW ws).foldl normS (normS f w.2), cs ++ d :: offs (p + (s.take k ++ w.1).length) ws, 0, 0)
              rw [List.length_append, hlk, Nat.add_assoc]
        | some x =>
          by_cases hf : 512 < (normS f x).length ∨ 1024 ≤ cs.length
          · rw [decG_full h f cs p d s he hf] at hz; exact absurd hz (by simp)
          · have h1 : (normS f x).length ≤ 512 := by omega
            have h2 : cs.length < 1024 := by omega
            rw [decG_more h f cs p d s he h1 h2] at hz ⊢
            obtain ⟨ws, t, e1, e2, e3, e4, e5, e6⟩ := ih (normS f x) (cs ++ [d]) (p + k) (p + k) (s.drop k) hd hz
            refine ⟨(s.take k, x) :: ws, t, ?_, fun v hv => ?_, e3, ?_, ?_, ?_⟩
            · rw [flatW_cons]
              show s = s.take k ++ flatW ws ++ t
              rw [List.append_assoc, ← e1, hst]
            · rcases List.mem_cons.1 hv with rfl | hv
              · exact word_item h he
              · exact e2 v hv
            · rw [e4]
              show _ = ((itW ws).foldl normS (normS f x), cs ++ d :: offs (p + (s.take k).length) ws, 0, 0)
              rw [hlk, List.append_assoc, List.singleton_append, ← offs_head]
            · rw [List.length_append] at e5; simp at e5 ⊢; omega
            · show ((itW ws).foldl normS (normS f x)).length ≤ _
              omega
end Go.Proofs.YtphkpokoeaagfaaGreatDoor
namespace Go.Proofs.YtphkpokoeaagfaaGreatDoor
set_option linter.unusedVariables false

theorem lenI_cons (x : It) (t : List It) : lenI (x :: t) = wid x + lenI t := by simp [lenI]
theorem wid_text {x : It} (h : x.k = 1) : wid x = x.t.size := by unfold wid; rw [if_pos h]
theorem wid_other {x : It} (h : x.k ≠ 1) : wid x = 1 := by unfold wid; rw [if_neg h]
theorem oneI_none {x : It} {s a b : Nat} (h : min b (s + wid x) ≤ max a s) : oneI x s a b = [] := by unfold oneI; rw [if_neg (by omega)]
theorem oneI_some {x : It} {s a b : Nat} (h : max a s < min b (s + wid x)) : oneI x s a b = [cutI x (max a s - s) (min b (s + wid x) - s)] := by unfold oneI; rw [if_pos h]
theorem sl_before (l : List It) : ∀ s a b, b ≤ s → slI l s a b = [] := by
  induction l with
  | nil => intro s a b h; rfl
  | cons x t ih => intro s a b h; rw [slI, oneI_none (by omega), ih _ _ _ (by omega)]; rfl
theorem sl_from (l : List It) : ∀ s a a' b, a ≤ s → a' ≤ s → slI l s a b = slI l s a' b := by
  induction l with
  | nil => intro s a a' b h h'; rfl
  | cons x t ih =>
    intro s a a' b h h'
    rw [slI, slI, ih (s + wid x) a a' b (by omega) (by omega)]
    unfold oneI
    rw [show max a s = max a' s by omega]
theorem sl_behind (l : List It) : ∀ s a b, s + lenI l ≤ a → slI l s a b = [] := by
  induction l with
  | nil => intro s a b h; rfl
  | cons x t ih => intro s a b h; rw [lenI_cons] at h; rw [slI, oneI_none (by omega), ih _ _ _ (by omega)]; rfl
theorem cut_two (t : ByteArray) (id : Int) (o : List It) (u v z : Nat) (h1 : u ≤ v) (h2 : v < z) (h3 : z ≤ t.size) :
    normS (normS o ⟨1, t.extract u v, id⟩) ⟨1, t.extract v z, id⟩ = normS o ⟨1, t.extract u z, id⟩ := by
  rw [two_texts o ⟨1, t.extract u v, id⟩ ⟨1, t.extract v z, id⟩ rfl rfl (by show (t.extract v z).size ≠ 0; rw [ByteArray.size_extract]; omega), normS_text o _ id 0]
  congr 2
  show t.extract u v ++ t.extract v z = t.extract u z
  rw [← ByteArray.extract_eq_extract_append_extract v h1 (by omega)]
/-- Two neighbouring slices are, together, one. -/
theorem sl_two (l : List It) : ∀ (s a b c : Nat) (acc : List It), a ≤ b → b ≤ c → (slI l s a b ++ slI l s b c).foldl normS acc = (slI l s a c).foldl normS acc := by
  induction l with
  | nil => intro s a b c acc h1 h2; rfl
  | cons x t ih =>
    intro s a b c acc h1 h2
    by_cases hb : b ≤ s
    · rw [sl_before (x :: t) s a b hb, List.nil_append, sl_from (x :: t) s b a c hb (by omega)]
    by_cases hw : s + wid x ≤ b
    · rw [slI, slI, slI, oneI_none (x := x) (s := s) (a := b) (b := c) (by omega), List.nil_append]
      rw [show oneI x s a b = oneI x s a c by unfold oneI; rw [show min b (s + wid x) = min c (s + wid x) by omega], List.append_assoc, List.foldl_append, ih (s + wid x) a b c _ h1 h2, ← List.foldl_append]
    · have hk : x.k = 1 := by
        by_cases hk : x.k = 1
        · exact hk
        · have := wid_other hk; omega
      have hws := wid_text hk
      rw [slI, slI, slI, sl_before t (s + wid x) a b (by omega), List.append_nil, sl_from t (s + wid x) b a c (by omega) (by omega), ← List.append_assoc, List.foldl_append, List.foldl_append (l := oneI x s a c)]
      congr 1
      by_cases hab : max a s < b
      · rw [oneI_some (x := x) (s := s) (a := a) (b := b) (by omega), oneI_some (x := x) (s := s) (a := a) (b := c) (by omega)]
        by_cases hbc : b < c
        · rw [oneI_some (x := x) (s := s) (a := b) (b := c) (by omega)]
          unfold cutI
          rw [if_pos hk, if_pos hk, if_pos hk, hk]
          have e1 : min b (s + wid x) - s = b - s := by omega
          have e2 : max b s - s = b - s := by omega
          rw [e1, e2]
          exact cut_two x.t x.id acc _ _ _ (by omega) (by omega) (by omega)
        · rw [oneI_none (x := x) (s := s) (a := b) (b := c) (by omega), List.append_nil, show c = b by omega]
      · rw [oneI_none (x := x) (s := s) (a := a) (b := b) (by omega), List.nil_append]
        unfold oneI
        rw [show max b s = max a s by omega]
theorem sl_all (l : List It) : ∀ (s a c : Nat) (acc : List It), a ≤ s → s + lenI l ≤ c → (slI l s a c).foldl normS acc = l.foldl normS acc := by
  induction l with
  | nil => intro s a c acc h1 h2; rfl
  | cons x t ih =>
    intro s a c acc h1 h2
    rw [lenI_cons] at h2
    rw [slI, List.foldl_append, ih (s + wid x) a c _ (by omega) (by omega), List.foldl_cons]
    congr 1
    by_cases hk : x.k = 1
    · have hw := wid_text hk
      by_cases hz : x.t.size = 0
      · rw [oneI_none (by omega), norm_skip acc x hk hz]; rfl
      · rw [oneI_some (by omega)]
        unfold cutI
        rw [if_pos hk, show max a s - s = 0 by omega, show min c (s + wid x) - s = x.t.size by omega, ByteArray.extract_zero_size]; rfl
    · have hw := wid_other hk
      rw [oneI_some (by omega)]
      unfold cutI
      rw [if_neg hk]; rfl
theorem norm_sl_two (l : List It) (a b c : Nat) (h1 : a ≤ b) (h2 : b ≤ c) : norm (slI l 0 a b ++ slI l 0 b c) = norm (slI l 0 a c) := sl_two l 0 a b c [] h1 h2
theorem norm_sl_all (l : List It) (c : Nat) (h : lenI l ≤ c) : norm (slI l 0 0 c) = norm l := sl_all l 0 0 c [] (Nat.le_refl _) (by omega)
theorem norm_three (l : List It) (i k n : Nat) (h1 : i ≤ k) (h2 : k ≤ n) (h3 : lenI l ≤ n) : norm (norm (slI l 0 0 i ++ slI l 0 i k) ++ slI l 0 k n) = norm l := by
  rw [norm_sl_two l 0 i k (by omega) h1, norm_left, norm_sl_two l 0 k n (by omega) h2, norm_sl_all l n h3]
theorem lenI_sl (l : List It) : ∀ s a b, lenI (slI l s a b) = min b (s + lenI l) - max a s := by
  induction l with
  | nil => intro s a b; show 0 = _; simp [lenI]; omega
  | cons x t ih =>
    intro s a b
    rw [slI, lenI_append, ih, lenI_cons]
    have : lenI (oneI x s a b) = min b (s + wid x) - max a s := by
      by_cases h : max a s < min b (s + wid x)
      · rw [oneI_some h]
        show lenI [cutI x _ _] = _
        rw [show lenI [cutI x (max a s - s) (min b (s + wid x) - s)] = wid (cutI x (max a s - s) (min b (s + wid x) - s)) by simp [lenI]]
        unfold cutI
        by_cases hk : x.k = 1
        · have := wid_text hk
          rw [if_pos hk, wid_text (by exact hk)]
          show (x.t.extract _ _).size = _
          rw [ByteArray.size_extract]; omega
        · have := wid_other hk
          rw [if_neg hk, this]; omega
      · rw [oneI_none (by omega)]
        show 0 = _; omega
    rw [this]; omega
theorem plain_three (l : List It) (i k n : Nat) (h1 : i ≤ k) (h2 : k ≤ n) (h3 : lenI l ≤ n) : plainL (slI l 0 0 i) ++ plainL (slI l 0 i k) ++ plainL (slI l 0 k n) = plainL l := by
  have h := congrArg plainL (norm_three l i k n h1 h2 h3)
  rw [plain_norm, plain_norm, plainL_append, plain_norm, plainL_append] at h
  exact h
theorem proper_kind {x : It} (h : properB x = true) : 1 ≤ x.k ∧ x.k ≤ 5 ∧ 0 ≤ x.id ∧ x.id ≤ 999 := by
  unfold properB numB at h
  split at h
  · simp at h; omega
  · split at h
    · simp at h; omega
    · split at h
      · simp at h; omega
      · split at h
        · simp at h; omega
        · cases h
theorem valid_proper (l : List It) : errL [] l = 0 → ∀ x ∈ l, properB x = true := by
  refine list_rev (P := fun l => errL [] l = 0 → ∀ x ∈ l, properB x = true) (fun _ x hx => by cases hx) (fun l x ih h y hy => ?_) l
  have h0 := errL_left _ _ h
  rw [errL_snoc _ _ h0, errAt_zero] at h
  rcases List.mem_append.1 hy with hy | hy
  · exact ih h0 y hy
  · rw [List.mem_singleton] at hy; subst hy; exact h.1
theorem mem_txt {l : List It} {x : It} (h : x ∈ l) : x.t.size ≤ txtI l := by
  induction l with
  | nil => cases h
  | cons y t ih =>
    have e : txtI (y :: t) = y.t.size + txtI t := rfl
    rcases List.mem_cons.1 h with rfl | h
    · omega
    · have := ih h; omega
theorem oks_valid {l : List It} (h : errL [] l = 0) (ht : txtI l ≤ 140737488355328) : Oks l := fun i hi => by
  have hp := proper_kind (valid_proper l h _ (List.getElem_mem hi))
  have hs := mem_txt (List.getElem_mem hi)
  generalize l[i] = x at *
  have hwf : ∀ n : Int, 0 ≤ n → n ≤ 999 → (Lit.int .i64 n).wf = true := fun n h1 h2 => by
    simp [Lit.wf, IntKind.min, IntKind.max, IntKind.signed, IntKind.bits]; omega
  exact ⟨hwf _ (by omega) (by omega), by omega, hwf _ hp.2.2.1 hp.2.2.2⟩
theorem cut_tag {x : It} (u v : Nat) (h : x.k ≠ 1) : cutI x u v = x := by unfold cutI; rw [if_neg h]
theorem sl_tags (l : List It) : ∀ s a b, ∀ y ∈ slI l s a b, isT y.k = true → y ∈ l := by
  induction l with
  | nil => intro s a b y hy; cases hy
  | cons x t ih =>
    intro s a b y hy ht
    rw [slI] at hy
    rcases List.mem_append.1 hy with hy | hy
    · unfold oneI at hy
      split at hy
      · rw [List.mem_singleton] at hy
        by_cases hk : x.k = 1
        · rw [hy] at ht; unfold cutI at ht; rw [if_pos hk] at ht; rw [hk] at ht; cases ht
        · rw [cut_tag _ _ hk] at hy; rw [hy]; exact .head _
      · cases hy
    · exact .tail _ (ih _ _ _ y hy ht)
/-- A slice of a valid fragment is valid. -/
theorem err_sl (l : List It) (a b : Nat) : errL [] l = 0 → errL [] (slI l 0 a b) = 0 ∧ (lenI l ≤ b → lastText (slI l 0 a b) = true → lastText l = true) := by
  refine list_rev (P := fun l => errL [] l = 0 → errL [] (slI l 0 a b) = 0 ∧ (lenI l ≤ b → lastText (slI l 0 a b) = true → lastText l = true)) (fun _ => ⟨rfl, fun _ h => by cases h⟩) (fun l x ih h => ?_) l
  have h0 := errL_left _ _ h
  obtain ⟨i1, i2⟩ := ih h0
  rw [errL_snoc _ _ h0, errAt_zero] at h
  obtain ⟨hp, ht, hb⟩ := h
  have e : slI (l ++ [x]) 0 a b = slI l 0 a b ++ oneI x (lenI l) a b := by rw [slI_append]; simp [slI]
  have hl : lastText (l ++ [x]) = decide (x.k = 1) := by unfold lastText; simp
  have hlen : lenI (l ++ [x]) = lenI l + wid x := lenI_snoc l x
  have hwp : 0 < wid x := by
    by_cases hk : x.k = 1
    · rw [wid_text hk]; have := ((proper_text hk).1 hp).1; omega
    · rw [wid_other hk]; omega
  rw [e, hl, hlen]
  by_cases hc : max a (lenI l) < min b (lenI l + wid x)
  · rw [oneI_some hc]
    generalize hu : max a (lenI l) - lenI l = u at *
    generalize hv : min b (lenI l + wid x) - lenI l = v at *
    have hkc : (cutI x u v).k = x.k := by unfold cutI; split <;> rfl
    refine ⟨?_, fun _ hh => ?_⟩
    · rw [errL_snoc _ _ i1, errAt_zero]
      by_cases hk : x.k = 1
      · obtain ⟨hs, hi⟩ := (proper_text hk).1 hp
        have hw := wid_text hk
        refine ⟨?_, fun _ => ?_, fun hh => ?_⟩
        · rw [proper_text (by rw [hkc]; exact hk)]
          unfold cutI
          rw [if_pos hk]
          refine ⟨?_, hi⟩
          show (x.t.extract u v).size ≠ 0
          rw [ByteArray.size_extract]; omega
        · cases hq : lastText (slI l 0 a b)
          · rfl
          · rw [i2 (by omega) hq] at ht; exact absurd (ht hk) (by decide)
        · rw [hkc, hk] at hh; cases hh
      · rw [cut_tag _ _ hk]
        refine ⟨hp, fun hh => absurd hh hk, fun hh => ?_⟩
        rw [tagBad_iff]
        intro y hy hyt hyi
        exact (tagBad_iff _ _).1 (hb hh) y (sl_tags l 0 a b y hy hyt) hyt hyi
    · unfold lastText at hh
      simp only [List.getLast?_append, List.getLast?_singleton, Option.some_or, decide_eq_true_eq] at hh
      rw [hkc] at hh; exact decide_eq_true hh
  · rw [oneI_none (by omega), List.append_nil]
    refine ⟨i1, fun hb2 hh => ?_⟩
    have : slI l 0 a b = [] := sl_behind l 0 a b (by omega)
    rw [this] at hh; cases hh
theorem sl_valid {l : List It} (h : valE l = 0) (a b : Nat) : valE (slI l 0 a b) = 0 := by
  unfold valE at h ⊢
  split at h
  · cases h
  · rename_i hn
    have h1 := slI_len l 0 a b
    have h2 := lenI_sl l 0 a b
    rw [if_neg (by omega)]
    exact (err_sl l a b h).1
theorem txt_sl (l : List It) : ∀ s a b, txtI (slI l s a b) ≤ txtI l := by
  induction l with
  | nil => intro s a b; exact Nat.le_refl _
  | cons x t ih =>
    intro s a b
    have e : txtI (x :: t) = x.t.size + txtI t := rfl
    have h1 := ih (s + wid x) a b
    rw [slI, txtI_append, e]
    have : txtI (oneI x s a b) ≤ x.t.size := by
      unfold oneI
      split
      · show (cutI x _ _).t.size + 0 ≤ _
        unfold cutI; split
        · show (x.t.extract _ _).size + 0 ≤ _; rw [ByteArray.size_extract]; omega
        · omega
      · exact Nat.zero_le _
    omega
end Go.Proofs.YtphkpokoeaagfaaGreatDoor
namespace Go.Proofs.YtphkpokoeaagfaaGreatDoor
set_option linter.unusedVariables false
open Go.Lib

/-- The positions of an item, and of a fragment. -/
def expX (x : It) : List It := if x.k = 1 then x.t.data.toList.map bT else [x]
def expI (l : List It) : List It := l.flatMap expX
theorem expI_append (a b : List It) : expI (a ++ b) = expI a ++ expI b := by unfold expI; rw [List.flatMap_append]
theorem expI_snoc (a : List It) (x : It) : expI (a ++ [x]) = expI a ++ expX x := by rw [expI_append]; unfold expI; simp
theorem expI_cons (x : It) (a : List It) : expI (x :: a) = expX x ++ expI a := by unfold expI; rw [List.flatMap_cons]
theorem expX_text {x : It} (h : x.k = 1) : expX x = x.t.data.toList.map bT := if_pos h
theorem expX_other {x : It} (h : x.k ≠ 1) : expX x = [x] := if_neg h
theorem expX_len (x : It) : (expX x).length = wid x := by
  unfold expX wid
  split
  · simp
  · rfl
theorem expI_len (l : List It) : (expI l).length = lenI l := by
  induction l with
  | nil => rfl
  | cons x t ih => rw [expI_cons, List.length_append, ih, expX_len, lenI_cons]
theorem bT_one (c : UInt8) : One (bT c) := .inl ⟨rfl, rfl, rfl⟩
theorem one_bT {x : It} (h : One x) (hk : x.k = 1) : ∃ c, x = bT c := by
  rcases h with ⟨_, h2, h3⟩ | ⟨h1, _⟩
  · obtain ⟨k, t, i⟩ := x
    dsimp only at hk h2 h3
    subst hk; subst h3
    have hl : t.data.toList.length = 1 := by simpa using h2
    obtain ⟨c, hc⟩ := List.length_eq_one_iff.1 hl
    refine ⟨c, ?_⟩
    have : t = ⟨#[c]⟩ := by rw [← bytes_of t, hc]
    rw [this]; rfl
  · exact absurd hk h1
theorem fold_bytes (bs : List UInt8) : ∀ (o : List It), (bs.map bT).foldl normS o = normS o ⟨1, bsL bs, 0⟩ := by
  refine list_rev (P := fun bs => ∀ (o : List It), (bs.map bT).foldl normS o = normS o ⟨1, bsL bs, 0⟩) ?_ ?_ bs
  · intro o
    show o = _
    rw [norm_skip o _ rfl (by rw [bsL_size]; rfl)]
  · intro l c ih o
    rw [List.map_append, List.foldl_append, ih]
    show normS (normS o ⟨1, bsL l, 0⟩) (bT c) = _
    rw [two_texts o ⟨1, bsL l, 0⟩ (bT c) rfl rfl (by show (1 : Nat) ≠ 0; decide)]
    show normS o ⟨1, bsL l ++ bsL [c], 0⟩ = _
    rw [bsL_append]
theorem fold_exp (l : List It) : ∀ o, (expI l).foldl normS o = l.foldl normS o := by
  induction l with
  | nil => intro o; rfl
  | cons x t ih =>
    intro o
    rw [expI_cons, List.foldl_append, ih]
    show _ = t.foldl normS (normS o x)
    congr 1
    by_cases hk : x.k = 1
    · rw [expX_text hk, fold_bytes, bsL_of]
      obtain ⟨k, t, i⟩ := x
      dsimp only at hk; subst hk
      exact normS_text o t 0 i
    · rw [expX_other hk]; rfl
theorem norm_exp (l : List It) : norm (expI l) = norm l := fold_exp l []
theorem exp_step (o : List It) (x : It) : expI (normS o x) = expI o ++ expX x := by
  by_cases hk : x.k = 1
  · by_cases h : x.t.size = 0
    · rw [norm_skip o x hk h, expX_text hk, (bytes_nil x.t).2 h]; simp
    · rcases Nat.lt_or_ge 0 o.length with hlo | hlo
      · obtain ⟨L, z, ho, hl⟩ := out_last o hlo
        by_cases hz : z.k = 1
        · rw [norm_last o x hk h L z ho hz, ho, expI_snoc, expI_snoc, expX_text hz, expX_text hk, expX_text (x := ⟨1, z.t ++ x.t, 0⟩) rfl, List.append_assoc]
          congr 1
          show (z.t ++ x.t).data.toList.map bT = _
          rw [ByteArray.data_append, Array.toList_append, List.map_append]
        · rw [norm_fresh o x hk h (by rw [hl]; simpa using hz), expI_snoc, expX_text hk, expX_text (x := ⟨1, x.t, 0⟩) rfl]
      · have ho : o = [] := List.length_eq_zero_iff.1 (by omega)
        subst ho
        rw [norm_fresh [] x hk h rfl, expI_snoc, expX_text hk, expX_text (x := ⟨1, x.t, 0⟩) rfl]
  · rw [norm_other o x hk, expI_snoc]
theorem exp_one {x : It} (h : One x) : expX x = [x] := by
  by_cases hk : x.k = 1
  · obtain ⟨c, rfl⟩ := one_bT h hk; rfl
  · exact expX_other hk
theorem exp_ones (xs : List It) (h : ∀ x ∈ xs, One x) : expI xs = xs := by
  induction xs with
  | nil => rfl
  | cons x t ih => rw [expI_cons, exp_one (h x (by simp)), ih (fun y hy => h y (by simp [hy]))]; rfl
theorem exp_norm (l : List It) : expI (norm l) = expI l := by
  refine list_rev (P := fun l => expI (norm l) = expI l) rfl ?_ l
  intro l x ih
  rw [norm_snoc, exp_step, ih, expI_snoc]
theorem exp_ok {l : List It} (h : errL [] l = 0) : ∀ x ∈ expI l, One x := fun x hx => by
  unfold expI at hx
  rw [List.mem_flatMap] at hx
  obtain ⟨y, hy, hx⟩ := hx
  have hp := errL_proper l h y hy
  by_cases hk : y.k = 1
  · rw [expX_text hk, List.mem_map] at hx
    obtain ⟨c, _, rfl⟩ := hx
    exact bT_one c
  · rw [expX_other hk] at hx
    obtain rfl := List.mem_singleton.1 hx
    exact .inr ⟨hk, hp⟩
theorem exp_sl (l : List It) : ∀ s a b, expI (slI l s a b) = ((expI l).drop (a - s)).take (min b (s + lenI l) - max a s) := by
  induction l with
  | nil => intro s a b; simp [slI, expI]
  | cons x t ih =>
    intro s a b
    rw [slI, expI_append, ih, expI_cons]
    have hx : expI (oneI x s a b) = ((expX x).drop (a - s)).take (min b (s + wid x) - max a s) := by
      by_cases h : max a s < min b (s + wid x)
      · rw [oneI_some h]
        show expX (cutI x _ _) ++ [] = _
        rw [List.append_nil]
        by_cases hk : x.k = 1
        · have hw : wid x = x.t.size := wid_text hk
          unfold cutI
          rw [if_pos hk, expX_text (x := ⟨x.k, x.t.extract (max a s - s) (min b (s + wid x) - s), x.id⟩) hk, expX_text hk, ← List.map_drop, ← List.map_take]
          congr 1
          show (x.t.extract _ _).data.toList = _
          rw [show (x.t.extract (max a s - s) (min b (s + wid x) - s)).data.toList = (x.t.data.toList.drop (max a s - s)).take (min b (s + wid x) - s - (max a s - s)) from by simp [ByteArray.extract, ByteArray.copySlice]]
          congr 1 <;> first | omega | (congr 1; omega)
        · have hw : wid x = 1 := wid_other hk
          rw [cut_tag _ _ hk, expX_other hk]
          rw [show a - s = 0 by omega, show min b (s + wid x) - max a s = 1 by omega]; rfl
      · rw [oneI_none (by omega), show min b (s + wid x) - max a s = 0 by omega]; simp [expI]
    rw [hx, lenI_cons]
    have hl := expX_len x
    have hl2 := expI_len t
    rw [List.drop_append, List.take_append, List.length_drop, hl]
    congr 1
    · rcases Nat.le_total b (s + wid x) with hb | hb
      · rw [Nat.min_eq_left hb, Nat.min_eq_left (by omega : b ≤ s + (wid x + lenI t))]
      · rw [List.take_of_length_le (by rw [List.length_drop, hl]; omega), List.take_of_length_le (by rw [List.length_drop, hl]; omega)]
    · congr 1
      · omega
      · congr 1; omega
theorem exp_cut (l : List It) (a b : Nat) (h1 : a ≤ b) (h2 : b ≤ lenI l) : expI (slI l 0 a b) = ((expI l).drop a).take (b - a) := by
  rw [exp_sl]; congr 1 <;> omega
/-- What a fragment is written as, from what each position is written as. -/
def encG (e1 : It → List UInt8) (l : List It) : List UInt8 := (expI l).flatMap e1
def wsG (e1 : It → List UInt8) (xs : List It) : Ws := xs.map fun x => (e1 x, x)
theorem wsG_flat (e1 : It → List UInt8) (xs : List It) : flatW (wsG e1 xs) = xs.flatMap e1 := by unfold flatW wsG; rw [List.flatMap_map]
theorem wsG_it (e1 : It → List UInt8) (xs : List It) : itW (wsG e1 xs) = xs := by unfold itW wsG; rw [List.map_map]; exact List.map_id xs
theorem encG_append (e1 : It → List UInt8) (a b : List It) : encG e1 (a ++ b) = encG e1 a ++ encG e1 b := by unfold encG; rw [expI_append, List.flatMap_append]
theorem encG_norm (e1 : It → List UInt8) (l : List It) : encG e1 (norm l) = encG e1 l := by unfold encG; rw [exp_norm]
/-- A mixture: words of the one kind or the other with the same items. -/
theorem mixed {el : ElF} (h : ElOk el) {ws : Ws} {t : List UInt8} (hw : AllW el ws) (ht : Tail el t) {f : List It} (hi : norm (itW ws) = f) (hl : f.length ≤ 512) (hn : ws.length ≤ 1024) :
    dec el (flatW ws ++ t) = (f, offs 0 ws, 0, 0) := by
  have := dec_words ws t ht [] [] 0 0 hw (by show (norm (itW ws)).length ≤ 512; rw [hi]; exact hl) (by simpa using hn)
  unfold dec
  rw [this]
  show (norm (itW ws), [] ++ 0 :: (offs 0 ws).tail, 0, 0) = _
  rw [hi, List.nil_append, ← offs_head]
end Go.Proofs.YtphkpokoeaagfaaGreatDoor
namespace Go.Proofs.YtphkpokoeaagfaaGreatDoor
set_option linter.unusedVariables false
set_option maxRecDepth 100000
open Go.Lib

/-- The tag between the signs, without a number. -/
def tgM (t : List UInt8) : It := if t.head? = some 47 then ⟨3, bsL (t.drop 1), 0⟩ else if t.getLast? = some 47 then ⟨4, bsL t.dropLast, 0⟩ else ⟨2, bsL t, 0⟩
def okM (x : It) : Bool := if x.k = 3 then isNm x.t else isCon x.t
def blkN (n : ByteArray) : Bool := decide (n = ⟨#[112]⟩ ∨ n = ⟨#[104]⟩ ∨ n = ⟨#[108, 105]⟩ ∨ n = ⟨#[116, 100]⟩ ∨ n = ⟨#[116, 105, 116, 108, 101]⟩)
def blk (x : It) : Bool := blkN (nameB x.t)
/-- What stands behind a sign that opens a tag. -/
def rdT (r : List UInt8) : Option (It × Nat) := if hasU 62 r = true ∧ okM (tgM (upto 62 r)) = true then some (tgM (upto 62 r), (upto 62 r).length + 2) else none
/-- What stands behind an ampersand. -/
def refR (r : List UInt8) : Option (It × Nat) :=
  if r.take 3 = [108, 116, 59] then some (bT 60, 4) else if r.take 3 = [103, 116, 59] then some (bT 62, 4) else if r.take 4 = [97, 109, 112, 59] then some (bT 38, 5) else if r.take 3 = [108, 98, 59] then some (bT 123, 4) else if r.take 3 = [114, 98, 59] then some (bT 125, 4) else none
def inlT (r : List UInt8) : Option (It × Nat) := match rdT r with | none => none | some y => if blk y.1 = true then none else some y
/-- The element at the beginning of a raw content. -/
def elM : List UInt8 → Option (It × Nat)
  | [] => none
  | c :: r => if c = 60 then inlT r else if c = 123 then rdSlot r else if c = 38 then refR r else some (bT c, 1)
theorem elM_60 (r : List UInt8) : elM (60 :: r) = inlT r := rfl
theorem elM_123 (r : List UInt8) : elM (123 :: r) = rdSlot r := rfl
theorem elM_38 (r : List UInt8) : elM (38 :: r) = refR r := rfl
theorem elM_text (c : UInt8) (r : List UInt8) (h1 : c ≠ 60) (h2 : c ≠ 123) (h3 : c ≠ 38) : elM (c :: r) = some (bT c, 1) := by
  show (if c = 60 then _ else _) = _
  rw [if_neg h1, if_neg h2, if_neg h3]
theorem tgM_kind (t : List UInt8) : (tgM t).k = 2 ∨ (tgM t).k = 3 ∨ (tgM t).k = 4 := by
  unfold tgM; split
  · right; left; rfl
  · split
    · right; right; rfl
    · left; rfl
theorem tgM_id (t : List UInt8) : (tgM t).id = 0 := by unfold tgM; split; rfl; split <;> rfl
theorem rdT_some {r : List UInt8} {y : It × Nat} (h : rdT r = some y) : ∃ u v, r = u ++ 62 :: v ∧ (∀ x ∈ u, x ≠ 62) ∧ okM (tgM u) = true ∧ y = (tgM u, u.length + 2) := by
  unfold rdT at h
  split at h
  · rename_i hc
    injection h with h
    exact ⟨upto 62 r, aft 62 r, has_split 62 r hc.1, upto_mem 62 r, hc.2, h.symm⟩
  · cases h
theorem rdT_of (u v : List UInt8) (h : ∀ x ∈ u, x ≠ 62) (hn : okM (tgM u) = true) : rdT (u ++ 62 :: v) = some (tgM u, u.length + 2) := by
  unfold rdT
  rw [upto_app 62 u v h, has_app 62 u v h, if_pos ⟨rfl, hn⟩]
theorem slotM_some {r : List UInt8} {y : It × Nat} (h : rdSlot r = some y) : ∃ u v, r = u ++ 125 :: v ∧ (∀ x ∈ u, x ≠ 125) ∧ isNm (bsL u) = true ∧ y = (⟨5, bsL u, 0⟩, u.length + 2) := by
  unfold rdSlot at h
  split at h
  · rename_i hc
    injection h with h
    exact ⟨upto 125 r, aft 125 r, has_split 125 r hc.1, upto_mem 125 r, hc.2, h.symm⟩
  · cases h
theorem slotM_of (u v : List UInt8) (h : ∀ x ∈ u, x ≠ 125) (hn : isNm (bsL u) = true) : rdSlot (u ++ 125 :: v) = some (⟨5, bsL u, 0⟩, u.length + 2) := by
  unfold rdSlot
  rw [upto_app 125 u v h, has_app 125 u v h, if_pos ⟨rfl, hn⟩]
/-- The references: what stands behind the ampersand, and the byte. -/
def refW : List (List UInt8 × UInt8) := [([108, 116, 59], 60), ([103, 116, 59], 62), ([97, 109, 112, 59], 38), ([108, 98, 59], 123), ([114, 98, 59], 125)]
theorem refR_of (w : List UInt8 × UInt8) (hw : w ∈ refW) (r : List UInt8) : refR (w.1 ++ r) = some (bT w.2, w.1.length + 1) := by
  unfold refW at hw
  simp only [List.mem_cons, List.not_mem_nil, or_false] at hw
  rcases hw with rfl | rfl | rfl | rfl | rfl <;> simp [refR]
theorem refR_some {r : List UInt8} {y : It × Nat} (h : refR r = some y) : ∃ w ∈ refW, ∃ v, r = w.1 ++ v ∧ y = (bT w.2, w.1.length + 1) := by
  have cut : ∀ (n : Nat) (a : List UInt8), r.take n = a → r = a ++ r.drop n := fun n a h => by rw [← h, List.take_append_drop]
  unfold refR at h
  split at h
  · rename_i hc; injection h with h; exact ⟨([108, 116, 59], 60), by simp [refW], _, cut _ _ hc, h.symm⟩
  split at h
  · rename_i hc; injection h with h; exact ⟨([103, 116, 59], 62), by simp [refW], _, cut _ _ hc, h.symm⟩
  split at h
  · rename_i hc; injection h with h; exact ⟨([97, 109, 112, 59], 38), by simp [refW], _, cut _ _ hc, h.symm⟩
  split at h
  · rename_i hc; injection h with h; exact ⟨([108, 98, 59], 123), by simp [refW], _, cut _ _ hc, h.symm⟩
  split at h
  · rename_i hc; injection h with h; exact ⟨([114, 98, 59], 125), by simp [refW], _, cut _ _ hc, h.symm⟩
  · cases h
/-- What an element is, without its number. -/
def One0 (x : It) : Prop := x.id = 0 ∧ ((x.k = 1 ∧ x.t.size = 1) ∨ (x.k = 5 ∧ isNm x.t = true) ∨ (isT x.k = true ∧ okM x = true ∧ blk x = false))
theorem isT_tg (u : List UInt8) : isT (tgM u).k = true := by rcases tgM_kind u with h | h | h <;> rw [h] <;> rfl
theorem elM_some {s : List UInt8} {x : It} {n : Nat} (h : elM s = some (x, n)) :
    (∃ u v, s = 60 :: (u ++ 62 :: v) ∧ (∀ c ∈ u, c ≠ 62) ∧ okM (tgM u) = true ∧ blk (tgM u) = false ∧ x = tgM u ∧ n = u.length + 2) ∨
    (∃ u v, s = 123 :: (u ++ 125 :: v) ∧ (∀ c ∈ u, c ≠ 125) ∧ isNm (bsL u) = true ∧ x = ⟨5, bsL u, 0⟩ ∧ n = u.length + 2) ∨
    (∃ w ∈ refW, ∃ v, s = 38 :: (w.1 ++ v) ∧ x = bT w.2 ∧ n = w.1.length + 1) ∨
    (∃ c t, s = c :: t ∧ c ≠ 60 ∧ c ≠ 123 ∧ c ≠ 38 ∧ x = bT c ∧ n = 1) := by
  cases s with
  | nil => cases h
  | cons c r =>
    by_cases h60 : c = 60
    · subst h60
      rw [elM_60] at h
      unfold inlT at h
      cases hr : rdT r with
      | none => rw [hr] at h; cases h
      | some y =>
        rw [hr] at h
        obtain ⟨u, v, e1, e2, e3, rfl⟩ := rdT_some hr
        dsimp only at h
        split at h
        · cases h
        · rename_i hb
          injection h with h; injection h with h1 h2
          exact .inl ⟨u, v, by rw [e1], e2, e3, by simpa using hb, h1.symm, h2.symm⟩
    by_cases h123 : c = 123
    · subst h123
      rw [elM_123] at h
      obtain ⟨u, v, e1, e2, e3, e4⟩ := slotM_some h
      injection e4 with e4 e5
      exact .inr (.inl ⟨u, v, by rw [e1], e2, e3, e4, e5⟩)
    by_cases h38 : c = 38
    · subst h38
      rw [elM_38] at h
      obtain ⟨w, hw, v, e1, e4⟩ := refR_some h
      injection e4 with e4 e5
      exact .inr (.inr (.inl ⟨w, hw, v, by rw [e1], e4, e5⟩))
    · rw [elM_text c r h60 h123 h38] at h
      injection h with h; injection h with h1 h2
      exact .inr (.inr (.inr ⟨c, r, rfl, h60, h123, h38, h1.symm, h2.symm⟩))
theorem inl_of (u v : List UInt8) (h : ∀ c ∈ u, c ≠ 62) (h1 : okM (tgM u) = true) (h2 : blk (tgM u) = false) : elM (60 :: (u ++ 62 :: v)) = some (tgM u, u.length + 2) := by
  rw [elM_60]; unfold inlT; rw [rdT_of u v h h1]; dsimp only; rw [h2]; rfl
theorem elM_one {s : List UInt8} {x : It} {n : Nat} (h : elM s = some (x, n)) : One0 x := by
  rcases elM_some h with ⟨u, v, _, _, e3, e4, rfl, _⟩ | ⟨u, v, _, _, e3, rfl, _⟩ | ⟨w, hw, v, _, rfl, _⟩ | ⟨c, t, _, _, _, _, rfl, _⟩
  · exact ⟨tgM_id u, .inr (.inr ⟨isT_tg u, e3, e4⟩)⟩
  · exact ⟨rfl, .inr (.inl ⟨rfl, e3⟩)⟩
  · exact ⟨rfl, .inl ⟨rfl, rfl⟩⟩
  · exact ⟨rfl, .inl ⟨rfl, rfl⟩⟩
theorem elM_take {s : List UInt8} {x : It} {n : Nat} (h : elM s = some (x, n)) : 1 ≤ n ∧ n ≤ s.length := by
  rcases elM_some h with ⟨u, v, rfl, _, _, _, _, rfl⟩ | ⟨u, v, rfl, _, _, _, rfl⟩ | ⟨w, hw, v, rfl, _, rfl⟩ | ⟨c, t, rfl, _, _, _, _, rfl⟩ <;> simp <;> omega
/-- Bytes that read as one element, whatever follows. -/
def WordM (w : List UInt8) (x : It) : Prop := w ≠ [] ∧ One0 x ∧ ∀ r, elM (w ++ r) = some (x, w.length)
theorem wordM_tag (u : List UInt8) (h : ∀ c ∈ u, c ≠ 62) (h1 : okM (tgM u) = true) (h2 : blk (tgM u) = false) : WordM (60 :: (u ++ [62])) (tgM u) :=
  ⟨by simp, ⟨tgM_id u, .inr (.inr ⟨isT_tg u, h1, h2⟩)⟩, fun r => by
    show elM (60 :: ((u ++ [62]) ++ r)) = _
    rw [List.append_assoc]
    show elM (60 :: (u ++ 62 :: r)) = _
    rw [inl_of u r h h1 h2]; simp⟩
theorem wordM_slot (u : List UInt8) (h : ∀ c ∈ u, c ≠ 125) (h1 : isNm (bsL u) = true) : WordM (123 :: (u ++ [125])) ⟨5, bsL u, 0⟩ :=
  ⟨by simp, ⟨rfl, .inr (.inl ⟨rfl, h1⟩)⟩, fun r => by
    show elM (123 :: ((u ++ [125]) ++ r)) = _
    rw [List.append_assoc]
    show elM (123 :: (u ++ 125 :: r)) = _
    rw [elM_123, slotM_of u r h h1]; simp⟩
theorem wordM_ref (w : List UInt8 × UInt8) (hw : w ∈ refW) : WordM (38 :: w.1) (bT w.2) :=
  ⟨by simp, ⟨rfl, .inl ⟨rfl, rfl⟩⟩, fun r => by
    show elM (38 :: (w.1 ++ r)) = _
    rw [elM_38, refR_of w hw r]; simp⟩
theorem wordM_byte (c : UInt8) (h1 : c ≠ 60) (h2 : c ≠ 123) (h3 : c ≠ 38) : WordM [c] (bT c) := ⟨by simp, ⟨rfl, .inl ⟨rfl, rfl⟩⟩, fun r => elM_text c r h1 h2 h3⟩
theorem wordM_of {s : List UInt8} {x : It} {n : Nat} (h : elM s = some (x, n)) : WordM (s.take n) x := by
  rcases elM_some h with ⟨u, v, rfl, e2, e3, e4, rfl, rfl⟩ | ⟨u, v, rfl, e2, e3, rfl, rfl⟩ | ⟨w, hw, v, rfl, rfl, rfl⟩ | ⟨c, t, rfl, h1, h2, h3, rfl, rfl⟩
  · rw [show (60 :: (u ++ 62 :: v)).take (u.length + 2) = 60 :: (u ++ [62]) from by rw [List.take_succ_cons, take_cons_app]]
    exact wordM_tag u e2 e3 e4
  · rw [show (123 :: (u ++ 125 :: v)).take (u.length + 2) = 123 :: (u ++ [125]) from by rw [List.take_succ_cons, take_cons_app]]
    exact wordM_slot u e2 e3
  · rw [show (38 :: (w.1 ++ v)).take (w.1.length + 1) = 38 :: w.1 from by rw [List.take_succ_cons, List.take_left' rfl]]
    exact wordM_ref w hw
  · exact wordM_byte c h1 h2 h3

/-! ### numbers -/
def numM (op : List It) (n : Nat) (x : It) : Option (It × List It × Nat) :=
  if x.k = 2 then some (⟨2, x.t, ((n + 1 : Nat) : Int)⟩, op ++ [⟨2, x.t, ((n + 1 : Nat) : Int)⟩], n + 1)
  else if x.k = 4 then some (⟨4, x.t, ((n + 1 : Nat) : Int)⟩, op, n + 1)
  else if x.k = 3 then (match op.getLast? with | some y => if nameB y.t = x.t then some (⟨3, x.t, y.id⟩, op.dropLast, n) else none | none => none)
  else some (x, op, n)
def numL (op : List It) (n : Nat) : List It → Option (List It × List It × Nat)
  | [] => some ([], op, n)
  | x :: xs => match numM op n x with
    | none => none
    | some (y, op', n') => match numL op' n' xs with
      | none => none
      | some (ys, o, m) => some (y :: ys, o, m)
theorem numM_kt {op : List It} {n : Nat} {x y : It} {op' : List It} {n' : Nat} (h : numM op n x = some (y, op', n')) : y.k = x.k ∧ y.t = x.t ∧ (isT x.k = false → y = x) := by
  unfold numM at h
  split at h
  · rename_i hk; injection h with h; injection h with h1 h2; subst h1; exact ⟨hk.symm, rfl, fun e => by rw [hk] at e; cases e⟩
  · split at h
    · rename_i hk; injection h with h; injection h with h1 h2; subst h1; exact ⟨hk.symm, rfl, fun e => by rw [hk] at e; cases e⟩
    · split at h
      · rename_i hk
        split at h
        · split at h
          · injection h with h; injection h with h1 h2; subst h1; exact ⟨hk.symm, rfl, fun e => by rw [hk] at e; cases e⟩
          · cases h
        · cases h
      · injection h with h; injection h with h1 h2; exact ⟨by rw [h1], by rw [h1], fun _ => h1.symm⟩

/-! ### decoding -/
def decM : Nat → List It → List Nat → List It → Nat → Nat → List UInt8 → List It × List Nat × Nat × Int
  | 0, E, S, op, _, p, _ => if op = [] then (norm E, S ++ [p], 0, 0) else ([], [], p, 7)
  | m + 1, E, S, op, n, p, s =>
    if s = [] then (if op = [] then (norm E, S ++ [p], 0, 0) else ([], [], p, 7))
    else match elM s with
      | none => ([], [], p, 2)
      | some (x, k) => match numM op n x with
        | none => ([], [], p, 7)
        | some (y, op', n') => if 512 < (norm (E ++ [y])).length ∨ 1024 ≤ S.length then ([], [], p, 3) else decM m (E ++ [y]) (S ++ [p]) op' n' (p + k) (s.drop k)
theorem decM_nil0 (m : Nat) (E : List It) (S : List Nat) (op : List It) (n p : Nat) : decM m E S op n p [] = if op = [] then (norm E, S ++ [p], 0, 0) else ([], [], p, 7) := by
  cases m with
  | zero => rfl
  | succ m => unfold decM; rw [if_pos rfl]
theorem decM_fuel : ∀ m m' E S op n p s, s.length ≤ m → s.length ≤ m' → decM m E S op n p s = decM m' E S op n p s := by
  intro m
  induction m with
  | zero => intro m' E S op n p s h0 _; rw [List.length_eq_zero_iff.1 (by omega : s.length = 0), decM_nil0, decM_nil0]
  | succ m ih =>
    intro m' E S op n p s h0 h1
    by_cases hs : s = []
    · subst hs; rw [decM_nil0, decM_nil0]
    · cases m' with
      | zero => exact absurd (List.length_eq_zero_iff.1 (by omega)) hs
      | succ m' =>
        unfold decM
        rw [if_neg hs, if_neg hs]
        cases he : elM s with
        | none => rfl
        | some y =>
          obtain ⟨x, k⟩ := y
          obtain ⟨hk, hk2⟩ := elM_take he
          dsimp only
          cases hn : numM op n x with
          | none => rfl
          | some z =>
            obtain ⟨y, op', n'⟩ := z
            dsimp only
            split
            · rfl
            · exact ih m' _ _ _ _ _ _ (by rw [List.length_drop]; omega) (by rw [List.length_drop]; omega)
def decN (E : List It) (S : List Nat) (op : List It) (n p : Nat) (s : List UInt8) : List It × List Nat × Nat × Int := decM s.length E S op n p s
/-- What a raw content decodes to: the fragment, the cuts, the offset of an error, the error. -/
def dcM (s : List UInt8) : List It × List Nat × Nat × Int := decN [] [] [] 0 0 s
theorem decN_nil (E : List It) (S : List Nat) (op : List It) (n p : Nat) : decN E S op n p [] = if op = [] then (norm E, S ++ [p], 0, 0) else ([], [], p, 7) := decM_nil0 _ _ _ _ _ _
theorem decN_cons (E : List It) (S : List Nat) (op : List It) (n p : Nat) (s : List UInt8) (hs : s ≠ []) : decN E S op n p s = match elM s with
      | none => ([], [], p, 2)
      | some (x, k) => match numM op n x with
        | none => ([], [], p, 7)
        | some (y, op', n') => if 512 < (norm (E ++ [y])).length ∨ 1024 ≤ S.length then ([], [], p, 3) else decN (E ++ [y]) (S ++ [p]) op' n' (p + k) (s.drop k) := by
  unfold decN
  rw [decM_fuel s.length (s.length + 1) E S op n p s (Nat.le_refl _) (by omega)]
  show (if s = [] then _ else _) = _
  rw [if_neg hs]
  cases he : elM s with
  | none => rfl
  | some y =>
    obtain ⟨x, k⟩ := y
    dsimp only
    have hk := elM_take he
    cases hn : numM op n x with
    | none => rfl
    | some z =>
      obtain ⟨y, op', n'⟩ := z
      dsimp only
      split
      · rfl
      · exact decM_fuel _ _ _ _ _ _ _ _ (by rw [List.length_drop]; omega) (Nat.le_refl _)
theorem ne_of_el {s : List UInt8} {y : It × Nat} (h : elM s = some y) : s ≠ [] := fun e => by rw [e] at h; cases h
theorem decN_none (E : List It) (S : List Nat) (op : List It) (n p : Nat) (s : List UInt8) (hs : s ≠ []) (he : elM s = none) : decN E S op n p s = ([], [], p, 2) := by rw [decN_cons _ _ _ _ _ s hs, he]
theorem decN_tag (E : List It) (S : List Nat) (op : List It) (n p : Nat) (s : List UInt8) {x : It} {k : Nat} (he : elM s = some (x, k)) (hn : numM op n x = none) : decN E S op n p s = ([], [], p, 7) := by
  rw [decN_cons _ _ _ _ _ s (ne_of_el he), he]; dsimp only; rw [hn]
theorem decN_full (E : List It) (S : List Nat) (op : List It) (n p : Nat) (s : List UInt8) {x y : It} {k n' : Nat} {op' : List It} (he : elM s = some (x, k)) (hn : numM op n x = some (y, op', n')) (hl : 512 < (norm (E ++ [y])).length ∨ 1024 ≤ S.length) : decN E S op n p s = ([], [], p, 3) := by
  rw [decN_cons _ _ _ _ _ s (ne_of_el he), he]; dsimp only; rw [hn]; exact if_pos hl
theorem decN_more (E : List It) (S : List Nat) (op : List It) (n p : Nat) (s : List UInt8) {x y : It} {k n' : Nat} {op' : List It} (he : elM s = some (x, k)) (hn : numM op n x = some (y, op', n')) (h1 : (norm (E ++ [y])).length ≤ 512) (h2 : S.length < 1024) :
    decN E S op n p s = decN (E ++ [y]) (S ++ [p]) op' n' (p + k) (s.drop k) := by
  rw [decN_cons _ _ _ _ _ s (ne_of_el he), he]; dsimp only; rw [hn]; exact if_neg (by omega)
def AllM (ws : Ws) : Prop := ∀ w ∈ ws, WordM w.1 w.2
/-- Where words begin. -/
def sts : Nat → Ws → List Nat
  | _, [] => []
  | p, w :: ws => p :: sts (p + w.1.length) ws
theorem sts_offs (ws : Ws) : ∀ p, sts p ws ++ [p + (flatW ws).length] = offs p ws := by
  induction ws with
  | nil => intro p; rfl
  | cons w ws ih =>
    intro p
    show p :: (sts (p + w.1.length) ws ++ [p + (flatW (w :: ws)).length]) = p :: offs (p + w.1.length) ws
    rw [← ih, flatW_cons, List.length_append, Nat.add_assoc]
theorem norm_ge (E ys : List It) : (norm E).length ≤ (norm (E ++ ys)).length := by
  unfold norm; rw [List.foldl_append]; exact fold_ge ys _
theorem dec_wordsM (ws : Ws) (t : List UInt8) : ∀ E S op n p ys op' n', AllM ws → numL op n (itW ws) = some (ys, op', n') → (norm (E ++ ys)).length ≤ 512 → S.length + ws.length ≤ 1024 →
    decN E S op n p (flatW ws ++ t) = decN (E ++ ys) (S ++ sts p ws) op' n' (p + (flatW ws).length) t := by
  induction ws with
  | nil =>
    intro E S op n p ys op' n' _ h _ _
    have h : some (([] : List It), op, n) = some (ys, op', n') := h
    injection h with h; injection h with h1 h2; injection h2 with h2 h3
    subst h1; subst h2; subst h3
    show decN E S op n p ([] ++ t) = decN (E ++ []) (S ++ []) op n (p + 0) t
    rw [List.nil_append, List.append_nil, List.append_nil, Nat.add_zero]
  | cons w ws ih =>
    intro E S op n p ys op' n' hw h h1 h2
    have hww := hw w (by simp)
    have h : (match numM op n w.2 with | none => none | some (y, op', n') => match numL op' n' (itW ws) with | none => none | some (ys, o, m) => some (y :: ys, o, m)) = some (ys, op', n') := h
    cases hn : numM op n w.2 with
    | none => rw [hn] at h; cases h
    | some z =>
      obtain ⟨y, op1, n1⟩ := z
      rw [hn] at h; dsimp only at h
      cases hl : numL op1 n1 (itW ws) with
      | none => rw [hl] at h; cases h
      | some z =>
        obtain ⟨zs, op2, n2⟩ := z
        rw [hl] at h; dsimp only at h
        injection h with h; injection h with e1 h; injection h with e2 e3
        subst e1; subst e2; subst e3
        have hz : S.length + (ws.length + 1) ≤ 1024 := h2
        have hge := norm_ge (E ++ [y]) zs
        rw [List.append_assoc] at hge
        have h1' : (norm (E ++ [y] ++ zs)).length ≤ 512 := by rw [List.append_assoc]; exact h1
        rw [flatW_cons, List.append_assoc, decN_more E S op n p _ (hww.2.2 _) hn (by have h1 : (norm (E ++ ([y] ++ zs))).length ≤ 512 := h1; omega) (by omega)]
        rw [List.drop_left' rfl, ih (E ++ [y]) (S ++ [p]) op1 n1 _ zs op2 n2 (fun v hv => hw v (by simp [hv])) hl h1' (by rw [List.length_append]; simp; omega)]
        show decN (E ++ [y] ++ zs) (S ++ [p] ++ sts _ ws) op2 n2 _ t = decN (E ++ ([y] ++ zs)) (S ++ ([p] ++ sts _ ws)) op2 n2 _ t
        rw [List.append_assoc, List.append_assoc, List.length_append, Nat.add_assoc]
/-- What has been decoded was made of words. -/
theorem words_decM : ∀ (m : Nat) (E : List It) (S : List Nat) (op : List It) (n p : Nat) (s : List UInt8), s.length ≤ m → (decN E S op n p s).2.2.2 = 0 →
    ∃ ws ys n', s = flatW ws ∧ AllM ws ∧ numL op n (itW ws) = some (ys, [], n') ∧ decN E S op n p s = (norm (E ++ ys), S ++ offs p ws, 0, 0) ∧ S.length + ws.length ≤ max S.length 1024 ∧ (norm (E ++ ys)).length ≤ max (norm E).length 512 := by
  intro m
  induction m with
  | zero =>
    intro E S op n p s hm hz
    obtain rfl := List.length_eq_zero_iff.1 (by omega : s.length = 0)
    rw [decN_nil] at hz ⊢
    split at hz
    · rename_i ho
      subst ho
      refine ⟨[], [], n, rfl, (fun w hw => by cases hw), rfl, ?_, by show S.length + 0 ≤ _; omega, by rw [List.append_nil]; omega⟩
      rw [if_pos rfl, List.append_nil]; rfl
    · exact absurd hz (by simp)
  | succ m ih =>
    intro E S op n p s hm hz
    by_cases hs : s = []
    · subst hs
      rw [decN_nil] at hz ⊢
      split at hz
      · rename_i ho
        subst ho
        refine ⟨[], [], n, rfl, (fun w hw => by cases hw), rfl, ?_, by show S.length + 0 ≤ _; omega, by rw [List.append_nil]; omega⟩
        rw [if_pos rfl, List.append_nil]; rfl
      · exact absurd hz (by simp)
    · cases he : elM s with
      | none => rw [decN_none E S op n p s hs he] at hz; exact absurd hz (by simp)
      | some y =>
        obtain ⟨x, k⟩ := y
        have hk := elM_take he
        cases hn : numM op n x with
        | none => rw [decN_tag E S op n p s he hn] at hz; exact absurd hz (by simp)
        | some z =>
          obtain ⟨y, op1, n1⟩ := z
          by_cases hf : 512 < (norm (E ++ [y])).length ∨ 1024 ≤ S.length
          · rw [decN_full E S op n p s he hn hf] at hz; exact absurd hz (by simp)
          · rw [decN_more E S op n p s he hn (by omega) (by omega)] at hz ⊢
            have hd : (s.drop k).length ≤ m := by rw [List.length_drop]; omega
            obtain ⟨ws, ys, n', e1, e2, e3, e4, e5, e6⟩ := ih _ _ _ _ _ _ hd hz
            have hlk : (s.take k).length = k := by rw [List.length_take]; omega
            refine ⟨(s.take k, x) :: ws, y :: ys, n', ?_, fun v hv => ?_, ?_, ?_, ?_, ?_⟩
            · rw [flatW_cons]; show s = s.take k ++ flatW ws; rw [← e1, List.take_append_drop]
            · rcases List.mem_cons.1 hv with rfl | hv
              · exact wordM_of he
              · exact e2 v hv
            · show (match numM op n x with | none => none | some (y, op', n') => match numL op' n' (itW ws) with | none => none | some (ys, o, m) => some (y :: ys, o, m)) = _
              rw [hn]; dsimp only; rw [e3]
            · rw [e4, List.append_assoc, List.append_assoc]
              show _ = (norm (E ++ ([y] ++ ys)), S ++ (p :: offs (p + (s.take k).length) ws), 0, 0)
              rw [hlk]; rfl
            · rw [List.length_append] at e5; simp at e5 ⊢; omega
            · rw [List.append_assoc] at e6
              show (norm (E ++ ([y] ++ ys))).length ≤ _
              omega
/-- Words with their numbers decode. -/
theorem dcM_words {ws : Ws} {ys : List It} {n : Nat} (hw : AllM ws) (hn : numL [] 0 (itW ws) = some (ys, [], n)) (hl : (norm ys).length ≤ 512) (hc : ws.length ≤ 1024) : dcM (flatW ws) = (norm ys, offs 0 ws, 0, 0) := by
  have := dec_wordsM ws [] [] [] [] 0 0 ys [] n hw hn hl (by simpa using hc)
  unfold dcM
  rw [List.append_nil] at this
  rw [this, decN_nil, if_pos rfl]
  show (norm ys, ([] ++ sts 0 ws) ++ [0 + (flatW ws).length], 0, 0) = _
  rw [List.nil_append, sts_offs]
theorem dcM_made {s : List UInt8} (h : (dcM s).2.2.2 = 0) : ∃ ws ys n, s = flatW ws ∧ AllM ws ∧ numL [] 0 (itW ws) = some (ys, [], n) ∧ dcM s = (norm ys, offs 0 ws, 0, 0) ∧ ws.length ≤ 1024 ∧ (norm ys).length ≤ 512 := by
  obtain ⟨ws, ys, n, e1, e2, e3, e4, e5, e6⟩ := words_decM s.length [] [] [] 0 0 s (Nat.le_refl _) h
  exact ⟨ws, ys, n, e1, e2, e3, e4, by simpa using e5, by simpa [norm] using e6⟩
end Go.Proofs.YtphkpokoeaagfaaGreatDoor
