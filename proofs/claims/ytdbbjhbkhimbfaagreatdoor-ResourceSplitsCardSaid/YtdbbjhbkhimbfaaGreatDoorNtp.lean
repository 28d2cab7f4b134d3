/- Plain mathematics of notations: the whole of a notation. -/
import Derived.Test.YtdbbjhbkhimbfaaGreatDoorNtr
import Derived.Test.YtdbbjhbkhimbfaaGreatDoorGvl
namespace Go.Proofs.YtdbbjhbkhimbfaaGreatDoor
set_option linter.unusedVariables false
open Go.Lib

def goP : Nat → List It → Nat → Nat → List UInt8 → List It × Nat × Int
  | 0, f, _, _, _ => (f, 0, 0)
  | m + 1, f, n, p, s =>
    if s = [] then (f, 0, 0)
    else match rdE s with
      | none => ([], p, 2)
      | some (x, k) => if x.k ≠ 1 ∧ errAt f x ≠ 0 then ([], p, errAt f x) else if 512 < (normS f x).length ∨ 1024 < n + 1 then ([], p, 3) else goP m (normS f x) (n + 1) (p + k) (s.drop k)
theorem goP_fuel : ∀ m m' f n p s, s.length ≤ m → s.length ≤ m' → goP m f n p s = goP m' f n p s := by
  intro m
  induction m with
  | zero =>
    intro m' f n p s h h'
    obtain rfl : s = [] := List.length_eq_zero_iff.1 (by omega)
    cases m' with
    | zero => rfl
    | succ j => rw [goP, goP, if_pos rfl]
  | succ m ih =>
    intro m' f n p s h h'
    cases s with
    | nil =>
      cases m' with
      | zero => rw [goP, goP, if_pos rfl]
      | succ j => rw [goP, goP, if_pos rfl, if_pos rfl]
    | cons c r =>
      cases m' with
      | zero => simp at h'
      | succ j =>
        rw [goP, goP, if_neg (by simp), if_neg (by simp)]
        cases hr : rdE (c :: r) with
        | none => rfl
        | some y =>
          obtain ⟨x, k⟩ := y
          have hk := rd_pos hr
          simp only []
          split
          · rfl
          · split
            · rfl
            · simp only [List.length_cons] at h h' hk
              exact ih j _ _ _ _ (by rw [List.length_drop, List.length_cons]; omega) (by rw [List.length_drop, List.length_cons]; omega)
/-- What is read behind f, of n positions, from offset p on. -/
def go (f : List It) (n p : Nat) (s : List UInt8) : List It × Nat × Int := goP s.length f n p s
def parseN (s : List UInt8) : List It × Nat × Int := go [] 0 0 s
theorem go_nil (f : List It) (n p : Nat) : go f n p [] = (f, 0, 0) := rfl
theorem go_cons (f : List It) (n p : Nat) (s : List UInt8) (hs : s ≠ []) : go f n p s = match rdE s with
      | none => ([], p, 2)
      | some (x, k) => if x.k ≠ 1 ∧ errAt f x ≠ 0 then ([], p, errAt f x) else if 512 < (normS f x).length ∨ 1024 < n + 1 then ([], p, 3) else go (normS f x) (n + 1) (p + k) (s.drop k) := by
  unfold go
  cases s with
  | nil => exact absurd rfl hs
  | cons c r =>
    show goP (r.length + 1) f n p (c :: r) = _
    rw [goP, if_neg hs]
    cases hr : rdE (c :: r) with
    | none => rfl
    | some y =>
      obtain ⟨x, k⟩ := y
      have hk := rd_pos hr
      simp only [List.length_cons] at hk
      simp only []
      split
      · rfl
      · split
        · rfl
        · exact goP_fuel _ _ _ _ _ _ (by rw [List.length_drop, List.length_cons]; omega) (Nat.le_refl _)
theorem go_none (f : List It) (n p : Nat) (s : List UInt8) (hs : s ≠ []) (h : rdE s = none) : go f n p s = ([], p, 2) := by rw [go_cons f n p s hs, h]
theorem go_bad (f : List It) (n p : Nat) (s : List UInt8) (hs : s ≠ []) {x : It} {k : Nat} (h : rdE s = some (x, k)) (hk : x.k ≠ 1) (he : errAt f x ≠ 0) : go f n p s = ([], p, errAt f x) := by rw [go_cons f n p s hs, h]; exact if_pos ⟨hk, he⟩
theorem go_full (f : List It) (n p : Nat) (s : List UInt8) (hs : s ≠ []) {x : It} {k : Nat} (h : rdE s = some (x, k)) (he : x.k = 1 ∨ errAt f x = 0) (hl : 512 < (normS f x).length ∨ 1024 < n + 1) : go f n p s = ([], p, 3) := by
  rw [go_cons f n p s hs, h]; simp only []; rw [if_neg (by rintro ⟨a, b⟩; rcases he with e | e; exact a e; exact b e), if_pos hl]
theorem go_more (f : List It) (n p : Nat) (s : List UInt8) (hs : s ≠ []) {x : It} {k : Nat} (h : rdE s = some (x, k)) (he : x.k = 1 ∨ errAt f x = 0) (h1 : (normS f x).length ≤ 512) (h2 : n + 1 ≤ 1024) : go f n p s = go (normS f x) (n + 1) (p + k) (s.drop k) := by
  rw [go_cons f n p s hs, h]; simp only []; rw [if_neg (by rintro ⟨a, b⟩; rcases he with e | e; exact a e; exact b e), if_neg (by omega)]

/-! ### what is written is read -/
theorem flush_len' (res : List It) (bs : List UInt8) : (flush res bs).length ≤ res.length + 1 := by unfold flush; split <;> simp
theorem wrU_ne (c : UInt8) : wrU c ≠ [] := fun e => by have := (wrU_len c).1; rw [e] at this; simp at this
theorem go_text (P : List It) (hP : lastText P = false) (hl : P.length + 1 ≤ 512) (rest : List UInt8) : ∀ (bs done : List UInt8) (n p : Nat), n + bs.length ≤ 1024 →
    go (flush P done) n p (wrL bs ++ rest) = go (flush P (done ++ bs)) (n + bs.length) (p + (wrL bs).length) rest := by
  intro bs
  induction bs with
  | nil => intro done n p _; simp [wrL]
  | cons c t ih =>
    intro done n p hn
    simp only [List.length_cons] at hn
    have e : wrL (c :: t) = wrU c ++ wrL t := rfl
    have hs : wrU c ++ (wrL t ++ rest) ≠ [] := fun h => wrU_ne c (List.append_eq_nil_iff.1 h).1
    have hnt : normS (flush P done) (bT c) = flush P (done ++ [c]) := norm_text P done (bT c) hP rfl
    have h5 := flush_len' P (done ++ [c])
    rw [e, List.append_assoc, go_more _ n p _ hs (rd_byte c _) (.inl rfl) (by rw [hnt]; omega) (by omega), hnt, List.drop_left, ih _ _ _ (by omega)]
    simp only [List.length_append, List.length_cons, List.append_assoc, List.singleton_append]
    rw [show n + 1 + t.length = n + (t.length + 1) by omega, show p + (wrU c).length + (wrL t).length = p + ((wrU c).length + (wrL t).length) by omega]
theorem el_ne (x : It) (hp : properB x = true) (hk : x.k ≠ 1) : elL x ≠ [] := by
  rcases proper_kinds hp with h | h | h
  · exact absurd h hk
  · rw [el_tag x h]; simp
  · rw [el_slot h]; simp
theorem go_other (P : List It) (x : It) (n p : Nat) (rest : List UInt8) (hp : properB x = true) (hk : x.k ≠ 1) (he : errAt P x = 0) (hl : P.length + 1 ≤ 512) (hn : n + 1 ≤ 1024) :
    go P n p (elL x ++ rest) = go (P ++ [x]) (n + 1) (p + (elL x).length) rest := by
  have hs : elL x ++ rest ≠ [] := fun h => el_ne x hp hk (List.append_eq_nil_iff.1 h).1
  have e := norm_other P x hk
  rw [go_more P n p _ hs (rd_el x hp hk rest) (.inr he) (by rw [e]; simp; omega) hn, e, List.drop_left]
theorem valE_zero {l : List It} (h : valE l = 0) : l.length ≤ 512 ∧ lenI l ≤ 1024 ∧ errL [] l = 0 := by
  unfold valE at h
  by_cases hh : 512 < l.length ∨ 1024 < lenI l
  · rw [if_pos hh] at h; cases h
  · rw [if_neg hh] at h; exact ⟨by omega, by omega, h⟩
theorem valE_of {l : List It} (h1 : l.length ≤ 512) (h2 : lenI l ≤ 1024) (h3 : errL [] l = 0) : valE l = 0 := by
  unfold valE; rw [if_neg (by omega), h3]
theorem errL_at (l : List It) (h : errL [] l = 0) (k : Nat) (hk : k < l.length) : errL [] (l.take k) = 0 ∧ errAt (l.take k) (l[k]'hk) = 0 := by
  have e : l.take (k + 1) ++ l.drop (k + 1) = l := List.take_append_drop _ _
  rw [← e] at h
  have h1 := errL_left _ _ h
  rw [List.take_succ_eq_append_getElem hk] at h1
  have h2 := errL_left _ _ h1
  rw [errL_snoc _ _ h2] at h1
  exact ⟨h2, h1⟩
theorem go_fmt (f : List It) (h : valE f = 0) : ∀ k, k ≤ f.length → go [] 0 0 (fmtN f) = go (f.take k) (lenI (f.take k)) (fmtN (f.take k)).length (fmtN (f.drop k)) := by
  obtain ⟨h1, h2, h3⟩ := valE_zero h
  intro k
  induction k with
  | zero => intro _; simp [lenI, fmtN]
  | succ k ih =>
    intro hk
    obtain ⟨e1, e2⟩ := errL_at f h3 k (by omega)
    have e3 := lenI_next f k (by omega)
    have e4 := lenI_take f (k + 1)
    have e5 := fmtN_next f k (by omega)
    have e6 : fmtN (f.drop k) = elL f[k] ++ fmtN (f.drop (k + 1)) := by rw [List.drop_eq_getElem_cons (by omega)]; rfl
    have e7 := List.take_succ_eq_append_getElem (show k < f.length by omega)
    have e8 : (f.take k).length = k := by simp; omega
    have hw : wid f[k] = if f[k].k = 1 then f[k].t.size else 1 := rfl
    rw [ih (by omega), e6, e3, e5]
    generalize hx : f[k] = x at *
    have hz := (errAt_zero _ _).1 e2
    by_cases hk1 : x.k = 1
    · have hlt := hz.2.1 hk1
      obtain ⟨ht, hi⟩ := (proper_text hk1).1 hz.1
      have hel : elL x = wrL x.t.data.toList := if_pos hk1
      have hsz : x.t.data.toList.length = x.t.size := by simp
      rw [hw, if_pos hk1] at e3
      have := go_text (f.take k) hlt (by omega) (fmtN (f.drop (k + 1))) x.t.data.toList [] (lenI (f.take k)) (fmtN (f.take k)).length (by omega)
      rw [flush_nil, List.nil_append, flush_some _ _ (fun e => ht ((bytes_nil x.t).1 e)), bytes_of, ← text_eta hk1 hi, ← e7] at this
      rw [hel, this, hw, if_pos hk1, List.length_append, hsz]
    · rw [hw, if_neg hk1] at e3
      rw [hw, if_neg hk1]
      rw [go_other _ x _ _ _ hz.1 hk1 e2 (by omega) (by omega), ← e7, List.length_append]
/-- What Format writes is read again. -/
theorem parse_fmt (f : List It) (h : valE f = 0) : parseN (fmtN f) = (f, 0, 0) := by
  have := go_fmt f h f.length (Nat.le_refl _)
  rw [List.take_length, List.drop_length] at this
  exact this
theorem fmt_inj (f g : List It) (hf : valE f = 0) (hg : valE g = 0) (h : fmtN f = fmtN g) : f = g := by
  have a := parse_fmt f hf
  have b := parse_fmt g hg
  rw [h, b] at a
  exact (congrArg Prod.fst a).symm

/-! ### what is read was written -/
theorem fmt_step (f : List It) (x : It) : fmtN (normS f x) = fmtN f ++ elL x := by
  by_cases hk : x.k = 1
  · have hel : elL x = wrL x.t.data.toList := if_pos hk
    rw [hel]
    by_cases h : x.t.size = 0
    · rw [norm_skip f x hk h, (bytes_nil x.t).2 h]; simp [wrL]
    · rcases Nat.lt_or_ge 0 f.length with hlo | hlo
      · obtain ⟨L, z, ho, hl⟩ := out_last f hlo
        by_cases hz : z.k = 1
        · rw [norm_last f x hk h L z ho hz, ho, fmtN_snoc, fmtN_snoc]
          have e1 : elL z = wrL z.t.data.toList := if_pos hz
          have e2 : elL ⟨1, z.t ++ x.t, 0⟩ = wrL (z.t ++ x.t).data.toList := if_pos rfl
          rw [e1, e2, ByteArray.data_append]
          simp [wrL_append]
        · rw [norm_fresh f x hk h (by rw [hl]; simpa using hz), fmtN_snoc]; rfl
      · have ho : f = [] := List.length_eq_zero_iff.1 (by omega)
        subst ho
        rw [norm_fresh [] x hk h rfl, fmtN_snoc]; rfl
  · rw [norm_other f x hk, fmtN_snoc]
theorem el_byte (c : UInt8) : elL (bT c) = wrU c := by
  have : elL (bT c) = wrL [c] := if_pos rfl
  rw [this]; simp [wrL]
theorem rd_take {l : List UInt8} {x : It} {n : Nat} (h : rdE l = some (x, n)) : l.take n = elL x ∧ wid x = 1 ∧ (x.k ≠ 1 → properB x = true) ∧ (x.k = 1 → x = ⟨1, x.t, 0⟩ ∧ x.t.size = 1) := by
  by_cases hk : x.k = 1
  · obtain ⟨c, h1, h2, _⟩ := rd_text h hk
    refine ⟨by rw [h2, h1, el_byte], by rw [h1]; rfl, fun h => absurd hk h, fun _ => ?_⟩
    rw [h1]; exact ⟨rfl, rfl⟩
  · obtain ⟨h1, h2, _⟩ := rd_other h hk
    exact ⟨h2, if_neg hk, fun _ => h1, fun h => absurd h hk⟩
theorem err_step (f : List It) (x : It) (h : errL [] f = 0) (ht : x.k = 1 → x = ⟨1, x.t, 0⟩) (hp : x.k ≠ 1 → properB x = true ∧ errAt f x = 0) : errL [] (normS f x) = 0 := by
  have e : normS f x = norm (f ++ [x]) := by rw [norm_snoc, norm_valid f h]
  rw [e]
  by_cases hk : x.k = 1
  · rw [ht hk]; exact err_text f x.t h
  · obtain ⟨a, b⟩ := hp hk
    exact err_other f x h hk a ((errAt_zero f x).1 b).2.2
structure Good (S : List UInt8) (r : List It × Nat × Int) : Prop where
  ok : r.2.2 = 0 → fmtN r.1 = S ∧ valE r.1 = 0 ∧ r.2.1 = 0
  no : r.2.2 ≠ 0 → r.1 = [] ∧ r.2.1 < S.length ∧ ∃ g, S.take r.2.1 = fmtN g ∧ valE g = 0
theorem go_good (S : List UInt8) : ∀ (m : Nat) (f : List It) (n p : Nat) (s : List UInt8), s.length ≤ m → S = fmtN f ++ s → p = (fmtN f).length → errL [] f = 0 → f.length ≤ 512 → n = lenI f → n ≤ 1024 → Good S (go f n p s) := by
  intro m
  induction m with
  | zero =>
    intro f n p s h0 hS hp he hl hn h1
    obtain rfl : s = [] := List.length_eq_zero_iff.1 (by omega)
    rw [go_nil]
    exact ⟨fun _ => ⟨by rw [hS]; simp, valE_of (l := f) hl (by omega) he, rfl⟩, fun h => absurd rfl h⟩
  | succ m ih =>
    intro f n p s h0 hS hp he hl hn h1
    by_cases hs : s = []
    · subst hs
      rw [go_nil]
      exact ⟨fun _ => ⟨by rw [hS]; simp, valE_of (l := f) hl (by omega) he, rfl⟩, fun h => absurd rfl h⟩
    · have hpos : 0 < s.length := List.length_pos_iff.2 hs
      have hno : ∀ e : Int, e ≠ 0 → Good S ([], p, e) := fun e h => ⟨fun h' => absurd h' h, fun _ => ⟨rfl, by show p < S.length; rw [hS, List.length_append]; omega, f, by show S.take p = _; rw [hS, hp, List.take_left], valE_of (l := f) hl (by omega) he⟩⟩
      cases hr : rdE s with
      | none => rw [go_none f n p s hs hr]; exact hno 2 (by decide)
      | some y =>
        obtain ⟨x, k⟩ := y
        obtain ⟨t1, t2, t3, t4⟩ := rd_take hr
        have hk := rd_pos hr
        by_cases hb : x.k ≠ 1 ∧ errAt f x ≠ 0
        · rw [go_bad f n p s hs hr hb.1 hb.2]; exact hno _ hb.2
        · have hb' : x.k = 1 ∨ errAt f x = 0 := by
            by_cases h : x.k = 1
            · exact .inl h
            · by_cases h2 : errAt f x = 0
              · exact .inr h2
              · exact absurd ⟨h, h2⟩ hb
          by_cases hf : 512 < (normS f x).length ∨ 1024 < n + 1
          · rw [go_full f n p s hs hr hb' hf]; exact hno 3 (by decide)
          · rw [go_more f n p s hs hr hb' (by omega) (by omega)]
            refine ih _ _ _ _ (by rw [List.length_drop]; omega) ?_ ?_ ?_ (by omega) ?_ (by omega)
            · rw [fmt_step, List.append_assoc, ← t1, List.take_append_drop]; exact hS
            · rw [fmt_step, List.length_append, ← t1, List.length_take, Nat.min_eq_left hk.2, hp]
            · exact err_step f x he (fun h => (t4 h).1) (fun h => ⟨t3 h, hb'.resolve_left h⟩)
            · rw [len_step, t2, hn]
theorem parse_good (S : List UInt8) : Good S (parseN S) := go_good S S.length [] 0 0 S (Nat.le_refl _) rfl rfl rfl (by simp) rfl (by omega)
theorem parse_prefix (S : List UInt8) (h : (parseN S).2.2 ≠ 0) : (parseN S).2.1 < S.length ∧ (parseN (S.take (parseN S).2.1)).2.2 = 0 := by
  obtain ⟨_, h2, g, h3, h4⟩ := (parse_good S).no h
  exact ⟨h2, by rw [h3, parse_fmt g h4]⟩

/-! ### one line -/
theorem wrU_line : ∀ c : UInt8, ∀ b ∈ wrU c, b ≠ 10 := fun c b hb => by
  have : (wrU c).all (fun b => b != 10) = true := all_u8 (P := fun c => (wrU c).all (fun b => b != 10) = true) (by decide +kernel) c
  have := List.all_eq_true.1 this b hb
  simpa using this
theorem el_line (x : It) (hp : properB x = true) : ∀ b ∈ elL x, b ≠ 10 := by
  intro b hb
  rcases proper_kinds hp with h | h | h
  · have e : elL x = wrL x.t.data.toList := if_pos h
    rw [e] at hb
    unfold wrL at hb
    obtain ⟨c, _, hc⟩ := List.mem_flatMap.1 hb
    exact wrU_line c b hc
  · rw [el_tag x h] at hb
    simp only [List.mem_cons, List.mem_append, List.mem_nil_iff, or_false] at hb
    rcases hb with rfl | hb | rfl
    · decide
    · exact (ins_ne x h hp b hb).2
    · decide
  · rw [el_slot h] at hb
    rw [slot_proper h] at hp
    simp at hp
    simp only [List.mem_cons, List.mem_append, List.mem_nil_iff, or_false] at hb
    rcases hb with rfl | hb | rfl
    · decide
    · exact (nm_ne hp.1 hb).2.2.1
    · decide
theorem errL_proper (l : List It) (h : errL [] l = 0) : ∀ x ∈ l, properB x = true := fun x hx => by
  obtain ⟨k, hk, e⟩ := List.mem_iff_getElem.1 hx
  have := (errL_at l h k hk).2
  rw [e] at this
  exact ((errAt_zero _ _).1 this).1
theorem fmt_line (f : List It) (h : valE f = 0) : ∀ b ∈ fmtN f, b ≠ 10 := fun b hb => by
  unfold fmtN at hb
  obtain ⟨x, hx, hc⟩ := List.mem_flatMap.1 hb
  exact el_line x (errL_proper f (valE_zero h).2.2 x hx) b hc
end Go.Proofs.YtdbbjhbkhimbfaaGreatDoor
