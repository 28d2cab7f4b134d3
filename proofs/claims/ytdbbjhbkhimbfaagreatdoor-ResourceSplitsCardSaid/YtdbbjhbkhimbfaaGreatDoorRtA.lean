/- Plain mathematics of raw contents without tags: what is read of one, element by element. Plain mathematics of fragments as their positions: one item for each. Plain mathematics of the elements of resource files. Plain mathematics of resource files: lines, keys, parts. -/
import Derived.Test.YtdbbjhbkhimbfaaGreatDoorNtp
import Derived.Test.YtdbbjhbkhimbfaaGreatDoorNrq
import Derived.Test.YtdbbjhbkhimbfaaGreatDoorSlm
namespace Go.Proofs.YtdbbjhbkhimbfaaGreatDoor
set_option linter.unusedVariables false
open Go.Lib

/-- What stands at the beginning of some bytes: an element's item (none: a continuation) and its length. -/
abbrev ElF := List UInt8 → Option (Option It × Nat)
/-- An item of one position, as an element gives it. -/
def One (x : It) : Prop := (x.k = 1 ∧ x.t.size = 1 ∧ x.id = 0) ∨ (x.k ≠ 1 ∧ properB x = true)
theorem One.wid {x : It} (h : One x) : wid x = 1 := by
  unfold Go.Proofs.YtdbbjhbkhimbfaaGreatDoor.wid
  rcases h with ⟨h1, h2, _⟩ | ⟨h1, _⟩
  · rw [if_pos h1]; exact h2
  · rw [if_neg h1]
/-- What the reading of an element keeps to. -/
structure ElOk (el : ElF) : Prop where
  take : ∀ s o n, el s = some (o, n) → 1 ≤ n ∧ n ≤ s.length
  one : ∀ s x n, el s = some (some x, n) → One x
  item : ∀ s x n, el s = some (some x, n) → ∀ r, el (s.take n ++ r) = some (some x, n)
  cont : ∀ s n, el s = some (none, n) → ∀ r, r.head? = (s.drop n).head? → el (s.take n ++ r) = some (none, n)

def decP (el : ElF) : Nat → List It → List Nat → Nat → Nat → List UInt8 → List It × List Nat × Nat × Int
  | 0, f, cs, _, d, _ => (f, cs ++ [d], 0, 0)
  | m + 1, f, cs, p, d, s =>
    if s = [] then (f, cs ++ [d], 0, 0)
    else match el s with
      | none => ([], [], p, 2)
      | some (none, k) => decP el m f cs (p + k) d (s.drop k)
      | some (some x, k) => if 512 < (normS f x).length ∨ 1024 ≤ cs.length then ([], [], p, 3) else decP el m (normS f x) (cs ++ [d]) (p + k) (p + k) (s.drop k)
theorem decP_nil (el : ElF) (m : Nat) (f : List It) (cs : List Nat) (p d : Nat) : decP el m f cs p d [] = (f, cs ++ [d], 0, 0) := by
  cases m with
  | zero => rfl
  | succ m => unfold decP; rw [if_pos rfl]
theorem decP_fuel {el : ElF} (h : ElOk el) : ∀ m m' f cs p d s, s.length ≤ m → s.length ≤ m' → decP el m f cs p d s = decP el m' f cs p d s := by
  intro m
  induction m with
  | zero => intro m' f cs p d s h0 _; rw [List.length_eq_zero_iff.1 (by omega : s.length = 0), decP_nil, decP_nil]
  | succ m ih =>
    intro m' f cs p d s h0 h1
    by_cases hs : s = []
    · subst hs; rw [decP_nil, decP_nil]
    · cases m' with
      | zero => exact absurd (List.length_eq_zero_iff.1 (by omega)) hs
      | succ m' =>
        unfold decP
        rw [if_neg hs, if_neg hs]
        cases he : el s with
        | none => rfl
        | some y =>
          obtain ⟨o, k⟩ := y
          obtain ⟨hk, hk2⟩ := h.take s o k he
          have hd : (s.drop k).length ≤ m := by rw [List.length_drop]; omega
          have hd' : (s.drop k).length ≤ m' := by rw [List.length_drop]; omega
          cases o with
          | none => exact ih m' _ _ _ _ _ hd hd'
          | some x =>
            dsimp only
            split
            · rfl
            · exact ih m' _ _ _ _ _ hd hd'
def decG (el : ElF) (f : List It) (cs : List Nat) (p d : Nat) (s : List UInt8) : List It × List Nat × Nat × Int := decP el s.length f cs p d s
/-- What a raw content decodes to: the fragment, the cuts, the offset of an error, the error. -/
def dec (el : ElF) (s : List UInt8) : List It × List Nat × Nat × Int := decG el [] [] 0 0 s
theorem decG_nil (el : ElF) (f : List It) (cs : List Nat) (p d : Nat) : decG el f cs p d [] = (f, cs ++ [d], 0, 0) := decP_nil _ _ _ _ _ _
theorem decG_cons {el : ElF} (h : ElOk el) (f : List It) (cs : List Nat) (p d : Nat) (s : List UInt8) (hs : s ≠ []) : decG el f cs p d s = match el s with
      | none => ([], [], p, 2)
      | some (none, k) => decG el f cs (p + k) d (s.drop k)
      | some (some x, k) => if 512 < (normS f x).length ∨ 1024 ≤ cs.length then ([], [], p, 3) else decG el (normS f x) (cs ++ [d]) (p + k) (p + k) (s.drop k) := by
  unfold decG
  rw [decP_fuel h s.length (s.length + 1) f cs p d s (Nat.le_refl _) (by omega)]
  show (if s = [] then _ else _) = _
  rw [if_neg hs]
  cases he : el s with
  | none => rfl
  | some y =>
    obtain ⟨o, k⟩ := y
    cases o with
    | none => exact decP_fuel h _ _ _ _ _ _ _ (by rw [List.length_drop]; omega) (Nat.le_refl _)
    | some x =>
      dsimp only
      split
      · rfl
      · exact decP_fuel h _ _ _ _ _ _ _ (by rw [List.length_drop]; omega) (Nat.le_refl _)
theorem decG_none {el : ElF} (h : ElOk el) (f : List It) (cs : List Nat) (p d : Nat) (s : List UInt8) (hs : s ≠ []) (he : el s = none) : decG el f cs p d s = ([], [], p, 2) := by
  rw [decG_cons h f cs p d s hs, he]
theorem decG_cont {el : ElF} (h : ElOk el) (f : List It) (cs : List Nat) (p d : Nat) (s : List UInt8) {k : Nat} (he : el s = some (none, k)) : decG el f cs p d s = decG el f cs (p + k) d (s.drop k) := by
  have hs : s ≠ [] := fun e => by have := h.take s _ _ he; rw [e] at this; simp at this; omega
  rw [decG_cons h f cs p d s hs, he]
theorem decG_full {el : ElF} (h : ElOk el) (f : List It) (cs : List Nat) (p d : Nat) (s : List UInt8) {x : It} {k : Nat} (he : el s = some (some x, k)) (hl : 512 < (normS f x).length ∨ 1024 ≤ cs.length) : decG el f cs p d s = ([], [], p, 3) := by
  have hs : s ≠ [] := fun e => by have := h.take s _ _ he; rw [e] at this; simp at this; omega
  rw [decG_cons h f cs p d s hs, he]; exact if_pos hl
theorem decG_more {el : ElF} (h : ElOk el) (f : List It) (cs : List Nat) (p d : Nat) (s : List UInt8) {x : It} {k : Nat} (he : el s = some (some x, k)) (h1 : (normS f x).length ≤ 512) (h2 : cs.length < 1024) : decG el f cs p d s = decG el (normS f x) (cs ++ [d]) (p + k) (p + k) (s.drop k) := by
  have hs : s ≠ [] := fun e => by have := h.take s _ _ he; rw [e] at this; simp at this; omega
  rw [decG_cons h f cs p d s hs, he]; exact if_neg (by omega)

/-- Bytes that read as continuations and then one element, whatever follows. -/
def Word (el : ElF) (w : List UInt8) (x : It) : Prop := w ≠ [] ∧ One x ∧ ∀ f cs p d r, (normS f x).length ≤ 512 → cs.length < 1024 → decG el f cs p d (w ++ r) = decG el (normS f x) (cs ++ [d]) (p + w.length) (p + w.length) r
/-- Bytes that read as nothing, at the end. -/
def Tail (el : ElF) (t : List UInt8) : Prop := ∀ f cs p d, decG el f cs p d t = (f, cs ++ [d], 0, 0)
theorem Tail.nil (el : ElF) : Tail el [] := fun f cs p d => decG_nil el f cs p d
/-- Words and their items. -/
abbrev Ws := List (List UInt8 × It)
def flatW (ws : Ws) : List UInt8 := ws.flatMap Prod.fst
def itW (ws : Ws) : List It := ws.map Prod.snd
def AllW (el : ElF) (ws : Ws) : Prop := ∀ w ∈ ws, Word el w.1 w.2
theorem AllW.nil (el : ElF) : AllW el [] := fun w hw => by cases hw
def offs : Nat → Ws → List Nat
  | p, [] => [p]
  | p, w :: ws => p :: offs (p + w.1.length) ws
theorem flatW_nil : flatW [] = [] := rfl
theorem flatW_cons (w : List UInt8 × It) (ws : Ws) : flatW (w :: ws) = w.1 ++ flatW ws := by unfold flatW; rw [List.flatMap_cons]
theorem flatW_append (a b : Ws) : flatW (a ++ b) = flatW a ++ flatW b := by unfold flatW; rw [List.flatMap_append]
theorem offs_head (p : Nat) (ws : Ws) : offs p ws = p :: (offs p ws).tail := by cases ws <;> rfl
theorem offs_len (ws : Ws) : ∀ p, (offs p ws).length = ws.length + 1 := by
  induction ws with
  | nil => intro p; rfl
  | cons w ws ih => intro p; show (offs _ ws).length + 1 = _; rw [ih]; rfl
theorem offs_get (ws : Ws) : ∀ p i, i ≤ ws.length → (offs p ws)[i]? = some (p + (flatW (ws.take i)).length) := by
  induction ws with
  | nil => intro p i hi; obtain rfl : i = 0 := by simpa using hi
           rfl
  | cons w ws ih =>
    intro p i hi
    cases i with
    | zero => rfl
    | succ i =>
      show (offs (p + w.1.length) ws)[i]? = _
      rw [ih _ i (by simpa using hi), List.take_succ_cons, flatW_cons, List.length_append]
      congr 1; omega
theorem normS_ge (f : List It) (x : It) : f.length ≤ (normS f x).length := by
  by_cases hk : x.k = 1
  · by_cases h : x.t.size = 0
    · rw [norm_skip f x hk h]; exact Nat.le_refl _
    · rcases Nat.lt_or_ge 0 f.length with hlo | hlo
      · obtain ⟨L, z, ho, hl⟩ := out_last f hlo
        by_cases hz : z.k = 1
        · rw [norm_last f x hk h L z ho hz, ho]; simp
        · rw [norm_fresh f x hk h (by rw [hl]; simpa using hz)]; simp
      · omega
  · rw [norm_other f x hk]; simp
theorem fold_ge (xs : List It) : ∀ f, f.length ≤ (xs.foldl normS f).length := by
  induction xs with
  | nil => intro f; exact Nat.le_refl _
  | cons x xs ih => intro f; exact Nat.le_trans (normS_ge f x) (ih _)
theorem dec_words {el : ElF} (ws : Ws) (t : List UInt8) (ht : Tail el t) : ∀ f cs p d, AllW el ws → ((itW ws).foldl normS f).length ≤ 512 → cs.length + ws.length ≤ 1024 →
    decG el f cs p d (flatW ws ++ t) = ((itW ws).foldl normS f, cs ++ d :: (offs p ws).tail, 0, 0) := by
  induction ws with
  | nil => intro f cs p d _ _ _; exact ht f cs p d
  | cons w ws ih =>
    intro f cs p d hw h1 h2
    have h1' : ((itW ws).foldl normS (normS f w.2)).length ≤ 512 := h1
    have h3 := fold_ge (itW ws) (normS f w.2)
    have hz : cs.length + (ws.length + 1) ≤ 1024 := h2
    rw [flatW_cons, List.append_assoc, (hw w (by simp)).2.2 f cs p d (flatW ws ++ t) (by omega) (by omega), ih _ _ _ _ (fun v hv => hw v (by simp [hv])) h1' (by rw [List.length_append]; simp; omega)]
    show _ = ((itW ws).foldl normS (normS f w.2), cs ++ d :: offs (p + w.1.length) ws, 0, 0)
    rw [List.append_assoc, List.singleton_append, ← offs_head]
theorem word_item {el : ElF} (h : ElOk el) {s : List UInt8} {x : It} {k : Nat} (he : el s = some (some x, k)) : Word el (s.take k) x := by
  have hk := h.take s _ _ he
  have hl : (s.take k).length = k := by rw [List.length_take]; omega
  refine ⟨fun e => by rw [e] at hl; simp at hl; omega, h.one s x k he, fun f cs p d r h1 h2 => ?_⟩
  rw [decG_more h f cs p d _ (h.item s x k he r) h1 h2, hl, List.drop_append_of_le_length (by omega), List.drop_of_length_le (by omega), List.nil_append]
/-- What has been decoded was made of words. -/
theorem words_dec {el : ElF} (h : ElOk el) : ∀ (m : Nat) (f : List It) (cs : List Nat) (p d : Nat) (s : List UInt8), s.length ≤ m → (decG el f cs p d s).2.2.2 = 0 →
    ∃ ws t, s = flatW ws ++ t ∧ AllW el ws ∧ Tail el t ∧ decG el f cs p d s = ((itW ws).foldl normS f, cs ++ d :: (offs p ws).tail, 0, 0) ∧ cs.length + ws.length ≤ max cs.length 1024 ∧ ((itW ws).foldl normS f).length ≤ max f.length 512 := by
  intro m
  induction m with
  | zero =>
    intro f cs p d s hm _
    obtain rfl := List.length_eq_zero_iff.1 (by omega : s.length = 0)
    exact ⟨[], [], rfl, AllW.nil el, Tail.nil el, decG_nil _ _ _ _ _, by show cs.length + 0 ≤ _; omega, by show f.length ≤ _; omega⟩
  | succ m ih =>
    intro f cs p d s hm hz
    by_cases hs : s = []
    · subst hs
      exact ⟨[], [], rfl, AllW.nil el, Tail.nil el, decG_nil _ _ _ _ _, by show cs.length + 0 ≤ _; omega, by show f.length ≤ _; omega⟩
    · cases he : el s with
      | none => rw [decG_none h f cs p d s hs he] at hz; exact absurd hz (by simp)
      | some y =>
        obtain ⟨o, k⟩ := y
        have hk := h.take s o k he
        have hd : (s.drop k).length ≤ m := by rw [List.length_drop]; omega
        have hst : s.take k ++ s.drop k = s := List.take_append_drop k s
        have hlk : (s.take k).length = k := by rw [List.length_take]; omega
        cases o with
        | none =>
          rw [decG_cont h f cs p d s he] at hz ⊢
          obtain ⟨ws, t, e1, e2, e3, e4, e5, e6⟩ := ih f cs (p + k) d (s.drop k) hd hz
          have hgo : ∀ r, r.head? = (s.drop k).head? → ∀ f cs p d, decG el f cs p d (s.take k ++ r) = decG el f cs (p + k) d r := fun r hr f cs p d => by
            rw [decG_cont h f cs p d _ (h.cont s k he r hr), List.drop_append_of_le_length (by omega), List.drop_of_length_le (by omega), List.nil_append]
          cases ws with
          | nil =>
            refine ⟨[], s.take k ++ t, ?_, e2, fun f cs p d => ?_, ?_, e5, e6⟩
            · have e1' : s.drop k = t := e1
              rw [flatW_nil, List.nil_append, ← e1', hst]
            · have e1' : s.drop k = t := e1
              rw [hgo t (by rw [e1'])]
              exact e3 f cs _ d
            · rw [e4]; rfl
          | cons w ws =>
            rw [flatW_cons] at e1
            have hw := e2 w (by simp)
            refine ⟨(s.take k ++ w.1, w.2) :: ws, t, ?_, fun v hv => ?_, e3, ?_, e5, e6⟩
            · rw [flatW_cons]
              show s = (s.take k ++ w.1) ++ flatW ws ++ t
              rw [List.append_assoc, List.append_assoc, ← List.append_assoc w.1, ← e1, hst]
            · rcases List.mem_cons.1 hv with rfl | hv
              · refine ⟨fun e => by simp at e; exact hw.1 e.2, hw.2.1, fun f cs p d r h1 h2 => ?_⟩
                show decG el f cs p d (s.take k ++ w.1 ++ r) = decG el _ _ (p + (s.take k ++ w.1).length) (p + (s.take k ++ w.1).length) r
                have hh : (w.1 ++ r).head? = (s.drop k).head? := by
                  rw [e1]
                  cases hw1 : w.1 with
                  | nil => exact absurd hw1 hw.1
                  | cons a b => rfl
                rw [List.append_assoc, hgo _ hh, hw.2.2 f cs (p + k) d r h1 h2, List.length_append, hlk, Nat.add_assoc]
              · exact e2 v (by simp [hv])
            · rw [e4]
              show ((itW ws).foldl normS (normS f w.2), cs ++ d :: offs (p + k + w.1.length) ws, 0, 0) = ((itW ws).foldl normS (normS f w.2), cs ++ d :: offs (p + (s.take k ++ w.1).length) ws, 0, 0)
              rw [List.length_append, hlk, Nat.add_assoc]
        | some x =>
          by_cases hf : 512 < (normS f x).length ∨ 1024 ≤ cs.length
          · rw [decG_full h f cs p d s he hf] at hz; exact absurd hz (by simp)
          · have h1 : (normS f x).length ≤ 512 := by omega
            have h2 : cs.length < 1024 := by omega
            rw [decG_more h f cs p d s he h1 h2] at hz ⊢
            obtain ⟨ws, t, e1, e2, e3, e4, e5, e6⟩ := ih (normS f x) (cs ++ [d]) (p + k) (p + k) (s.drop k) hd hz
            refine ⟨(s.take k, x) :: ws, t, ?_, fun v hv => ?_, e3, ?_, ?_, ?_⟩
            · rw [flatW_cons]
              show s = s.take k ++ flatW ws ++ t
              rw [List.append_assoc, ← e1, hst]
            · rcases List.mem_cons.1 hv with rfl | hv
              · exact word_item h he
              · exact e2 v hv
            · rw [e4]
              show _ = ((itW ws).foldl normS (normS f x), cs ++ d :: offs (p + (s.take k).length) ws, 0, 0)
              rw [hlk, List.append_assoc, List.singleton_append, ← offs_head]
            · rw [List.length_append] at e5; simp at e5 ⊢; omega
            · show ((itW ws).foldl normS (normS f x)).length ≤ _
              omega
end Go.Proofs.YtdbbjhbkhimbfaaGreatDoor
namespace Go.Proofs.YtdbbjhbkhimbfaaGreatDoor
set_option linter.unusedVariables false
open Go.Lib

/-- The positions of an item, and of a fragment. -/
def expX (x : It) : List It := if x.k = 1 then x.t.data.toList.map bT else [x]
def expI (l : List It) : List It := l.flatMap expX
theorem expI_append (a b : List It) : expI (a ++ b) = expI a ++ expI b := by unfold expI; rw [List.flatMap_append]
theorem expI_snoc (a : List It) (x : It) : expI (a ++ [x]) = expI a ++ expX x := by rw [expI_append]; unfold expI; simp
theorem expI_cons (x : It) (a : List It) : expI (x :: a) = expX x ++ expI a := by unfold expI; rw [List.flatMap_cons]
theorem expX_text {x : It} (h : x.k = 1) : expX x = x.t.data.toList.map bT := if_pos h
theorem expX_other {x : It} (h : x.k ≠ 1) : expX x = [x] := if_neg h
theorem expX_len (x : It) : (expX x).length = wid x := by
  unfold expX wid
  split
  · simp
  · rfl
theorem expI_len (l : List It) : (expI l).length = lenI l := by
  induction l with
  | nil => rfl
  | cons x t ih => rw [expI_cons, List.length_append, ih, expX_len, lenI_cons]
theorem bT_one (c : UInt8) : One (bT c) := .inl ⟨rfl, rfl, rfl⟩
theorem one_bT {x : It} (h : One x) (hk : x.k = 1) : ∃ c, x = bT c := by
  rcases h with ⟨_, h2, h3⟩ | ⟨h1, _⟩
  · obtain ⟨k, t, i⟩ := x
    dsimp only at hk h2 h3
    subst hk; subst h3
    have hl : t.data.toList.length = 1 := by simpa using h2
    obtain ⟨c, hc⟩ := List.length_eq_one_iff.1 hl
    refine ⟨c, ?_⟩
    have : t = ⟨#[c]⟩ := by rw [← bytes_of t, hc]
    rw [this]; rfl
  · exact absurd hk h1
theorem fold_bytes (bs : List UInt8) : ∀ (o : List It), (bs.map bT).foldl normS o = normS o ⟨1, bsL bs, 0⟩ := by
  refine list_rev (P := fun bs => ∀ (o : List It), (bs.map bT).foldl normS o = normS o ⟨1, bsL bs, 0⟩) ?_ ?_ bs
  · intro o
    show o = _
    rw [norm_skip o _ rfl (by rw [bsL_size]; rfl)]
  · intro l c ih o
    rw [List.map_append, List.foldl_append, ih]
    show normS (normS o ⟨1, bsL l, 0⟩) (bT c) = _
    rw [two_texts o ⟨1, bsL l, 0⟩ (bT c) rfl rfl (by show (1 : Nat) ≠ 0; decide)]
    show normS o ⟨1, bsL l ++ bsL [c], 0⟩ = _
    rw [bsL_append]
theorem fold_exp (l : List It) : ∀ o, (expI l).foldl normS o = l.foldl normS o := by
  induction l with
  | nil => intro o; rfl
  | cons x t ih =>
    intro o
    rw [expI_cons, List.foldl_append, ih]
    show _ = t.foldl normS (normS o x)
    congr 1
    by_cases hk : x.k = 1
    · rw [expX_text hk, fold_bytes, bsL_of]
      obtain ⟨k, t, i⟩ := x
      dsimp only at hk; subst hk
      exact normS_text o t 0 i
    · rw [expX_other hk]; rfl
theorem norm_exp (l : List It) : norm (expI l) = norm l := fold_exp l []
theorem exp_step (o : List It) (x : It) : expI (normS o x) = expI o ++ expX x := by
  by_cases hk : x.k = 1
  · by_cases h : x.t.size = 0
    · rw [norm_skip o x hk h, expX_text hk, (bytes_nil x.t).2 h]; simp
    · rcases Nat.lt_or_ge 0 o.length with hlo | hlo
      · obtain ⟨L, z, ho, hl⟩ := out_last o hlo
        by_cases hz : z.k = 1
        · rw [norm_last o x hk h L z ho hz, ho, expI_snoc, expI_snoc, expX_text hz, expX_text hk, expX_text (x := ⟨1, z.t ++ x.t, 0⟩) rfl, List.append_assoc]
          congr 1
          show (z.t ++ x.t).data.toList.map bT = _
          rw [ByteArray.data_append, Array.toList_append, List.map_append]
        · rw [norm_fresh o x hk h (by rw [hl]; simpa using hz), expI_snoc, expX_text hk, expX_text (x := ⟨1, x.t, 0⟩) rfl]
      · have ho : o = [] := List.length_eq_zero_iff.1 (by omega)
        subst ho
        rw [norm_fresh [] x hk h rfl, expI_snoc, expX_text hk, expX_text (x := ⟨1, x.t, 0⟩) rfl]
  · rw [norm_other o x hk, expI_snoc]
theorem exp_one {x : It} (h : One x) : expX x = [x] := by
  by_cases hk : x.k = 1
  · obtain ⟨c, rfl⟩ := one_bT h hk; rfl
  · exact expX_other hk
theorem exp_ones (xs : List It) (h : ∀ x ∈ xs, One x) : expI xs = xs := by
  induction xs with
  | nil => rfl
  | cons x t ih => rw [expI_cons, exp_one (h x (by simp)), ih (fun y hy => h y (by simp [hy]))]; rfl
theorem exp_norm (l : List It) : expI (norm l) = expI l := by
  refine list_rev (P := fun l => expI (norm l) = expI l) rfl ?_ l
  intro l x ih
  rw [norm_snoc, exp_step, ih, expI_snoc]
theorem exp_ok {l : List It} (h : errL [] l = 0) : ∀ x ∈ expI l, One x := fun x hx => by
  unfold expI at hx
  rw [List.mem_flatMap] at hx
  obtain ⟨y, hy, hx⟩ := hx
  have hp := errL_proper l h y hy
  by_cases hk : y.k = 1
  · rw [expX_text hk, List.mem_map] at hx
    obtain ⟨c, _, rfl⟩ := hx
    exact bT_one c
  · rw [expX_other hk] at hx
    obtain rfl := List.mem_singleton.1 hx
    exact .inr ⟨hk, hp⟩
theorem exp_sl (l : List It) : ∀ s a b, expI (slI l s a b) = ((expI l).drop (a - s)).take (min b (s + lenI l) - max a s) := by
  induction l with
  | nil => intro s a b; simp [slI, expI]
  | cons x t ih =>
    intro s a b
    rw [slI, expI_append, ih, expI_cons]
    have hx : expI (oneI x s a b) = ((expX x).drop (a - s)).take (min b (s + wid x) - max a s) := by
      by_cases h : max a s < min b (s + wid x)
      · rw [oneI_some h]
        show expX (cutI x _ _) ++ [] = _
        rw [List.append_nil]
        by_cases hk : x.k = 1
        · have hw : wid x = x.t.size := wid_text hk
          unfold cutI
          rw [if_pos hk, expX_text (x := ⟨x.k, x.t.extract (max a s - s) (min b (s + wid x) - s), x.id⟩) hk, expX_text hk, ← List.map_drop, ← List.map_take]
          congr 1
          show (x.t.extract _ _).data.toList = _
          rw [show (x.t.extract (max a s - s) (min b (s + wid x) - s)).data.toList = (x.t.data.toList.drop (max a s - s)).take (min b (s + wid x) - s - (max a s - s)) from by simp [ByteArray.extract, ByteArray.copySlice]]
          congr 1 <;> first | omega | (congr 1; omega)
        · have hw : wid x = 1 := wid_other hk
          rw [cut_tag _ _ hk, expX_other hk]
          rw [show a - s = 0 by omega, show min b (s + wid x) - max a s = 1 by omega]; rfl
      · rw [oneI_none (by omega), show min b (s + wid x) - max a s = 0 by omega]; simp [expI]
    rw [hx, lenI_cons]
    have hl := expX_len x
    have hl2 := expI_len t
    rw [List.drop_append, List.take_append, List.length_drop, hl]
    congr 1
    · rcases Nat.le_total b (s + wid x) with hb | hb
      · rw [Nat.min_eq_left hb, Nat.min_eq_left (by omega : b ≤ s + (wid x + lenI t))]
      · rw [List.take_of_length_le (by rw [List.length_drop, hl]; omega), List.take_of_length_le (by rw [List.length_drop, hl]; omega)]
    · congr 1
      · omega
      · congr 1; omega
theorem exp_cut (l : List It) (a b : Nat) (h1 : a ≤ b) (h2 : b ≤ lenI l) : expI (slI l 0 a b) = ((expI l).drop a).take (b - a) := by
  rw [exp_sl]; congr 1 <;> omega
/-- What a fragment is written as, from what each position is written as. -/
def encG (e1 : It → List UInt8) (l : List It) : List UInt8 := (expI l).flatMap e1
def wsG (e1 : It → List UInt8) (xs : List It) : Ws := xs.map fun x => (e1 x, x)
theorem wsG_flat (e1 : It → List UInt8) (xs : List It) : flatW (wsG e1 xs) = xs.flatMap e1 := by unfold flatW wsG; rw [List.flatMap_map]
theorem wsG_it (e1 : It → List UInt8) (xs : List It) : itW (wsG e1 xs) = xs := by unfold itW wsG; rw [List.map_map]; exact List.map_id xs
theorem encG_append (e1 : It → List UInt8) (a b : List It) : encG e1 (a ++ b) = encG e1 a ++ encG e1 b := by unfold encG; rw [expI_append, List.flatMap_append]
theorem encG_norm (e1 : It → List UInt8) (l : List It) : encG e1 (norm l) = encG e1 l := by unfold encG; rw [exp_norm]
/-- A mixture: words of the one kind or the other with the same items. -/
theorem mixed {el : ElF} (h : ElOk el) {ws : Ws} {t : List UInt8} (hw : AllW el ws) (ht : Tail el t) {f : List It} (hi : norm (itW ws) = f) (hl : f.length ≤ 512) (hn : ws.length ≤ 1024) :
    dec el (flatW ws ++ t) = (f, offs 0 ws, 0, 0) := by
  have := dec_words ws t ht [] [] 0 0 hw (by show (norm (itW ws)).length ≤ 512; rw [hi]; exact hl) (by simpa using hn)
  unfold dec
  rw [this]
  show (norm (itW ws), [] ++ 0 :: (offs 0 ws).tail, 0, 0) = _
  rw [hi, List.nil_append, ← offs_head]
end Go.Proofs.YtdbbjhbkhimbfaaGreatDoor
namespace Go.Proofs.YtdbbjhbkhimbfaaGreatDoor
set_option linter.unusedVariables false
open Go.Lib

def blB (c : UInt8) : Bool := c == 32 || c == 9
def blanks (r : List UInt8) : List UInt8 := r.takeWhile blB
/-- What the letter of an escape stands for. -/
def escO (c : UInt8) : Option UInt8 := if c = 110 then some 10 else if c = 116 then some 9 else if c = 115 then some 32 else if c = 114 then some 13 else if c = 92 then some 92 else if c = 123 then some 123 else none
def escR : List UInt8 → Option (Option It × Nat)
  | [] => none
  | c :: r => if c = 10 then some (none, 2 + (blanks r).length) else match escO c with | none => none | some v => some (some (bT v), 2)
def elR : ElF
  | [] => none
  | c :: r => if c = 10 then none else if c = 123 then (match rdSlot r with | none => none | some y => some (some y.1, y.2)) else if c = 92 then escR r else some (some (bT c), 1)
theorem elR_10 (r : List UInt8) : elR (10 :: r) = none := rfl
theorem elR_123 (r : List UInt8) : elR (123 :: r) = match rdSlot r with | none => none | some y => some (some y.1, y.2) := rfl
theorem elR_92 (r : List UInt8) : elR (92 :: r) = escR r := rfl
theorem elR_text (c : UInt8) (r : List UInt8) (h1 : c ≠ 10) (h2 : c ≠ 123) (h3 : c ≠ 92) : elR (c :: r) = some (some (bT c), 1) := by
  show (if c = 10 then _ else _) = _
  rw [if_neg h1, if_neg h2, if_neg h3]
theorem slot_some {r : List UInt8} {y : It × Nat} (h : rdSlot r = some y) : ∃ u v, r = u ++ 125 :: v ∧ (∀ x ∈ u, x ≠ 125) ∧ isNm (bsL u) = true ∧ y = (⟨5, bsL u, 0⟩, u.length + 2) := by
  unfold rdSlot at h
  split at h
  · rename_i hc
    injection h with h
    exact ⟨upto 125 r, aft 125 r, has_split 125 r hc.1, upto_mem 125 r, hc.2, h.symm⟩
  · cases h
theorem slot_of (u v : List UInt8) (h : ∀ x ∈ u, x ≠ 125) (hn : isNm (bsL u) = true) : rdSlot (u ++ 125 :: v) = some (⟨5, bsL u, 0⟩, u.length + 2) := by
  unfold rdSlot
  rw [upto_app 125 u v h, has_app 125 u v h, if_pos ⟨rfl, hn⟩]
theorem blanks_len (r : List UInt8) : (blanks r).length ≤ r.length := (List.takeWhile_prefix _).length_le
theorem blanks_take (r : List UInt8) : r.take (blanks r).length = blanks r := by
  have := List.takeWhile_prefix blB (l := r)
  exact (List.prefix_iff_eq_take.1 this).symm
theorem blanks_all (r : List UInt8) : ∀ c ∈ blanks r, blB c = true := by
  intro c hc
  unfold blanks at hc
  induction r with
  | nil => cases hc
  | cons a t ih =>
    rw [List.takeWhile_cons] at hc
    cases ha : blB a with
    | false => rw [ha] at hc; simp at hc
    | true =>
      rw [ha, if_pos rfl] at hc
      rcases List.mem_cons.1 hc with rfl | hc
      · exact ha
      · exact ih hc
theorem blanks_app (u v : List UInt8) (hu : ∀ c ∈ u, blB c = true) (hv : ∀ c, v.head? = some c → blB c = false) : blanks (u ++ v) = u := by
  unfold blanks
  induction u with
  | nil =>
    cases v with
    | nil => rfl
    | cons a t => rw [List.nil_append, List.takeWhile_cons, hv a rfl]; simp
  | cons a t ih =>
    rw [List.cons_append, List.takeWhile_cons, hu a (by simp), if_pos rfl, ih (fun c hc => hu c (by simp [hc]))]
theorem blanks_stop (r : List UInt8) : ∀ c, (r.drop (blanks r).length).head? = some c → blB c = false := by
  intro c hc
  unfold blanks at hc
  induction r with
  | nil => simp at hc
  | cons a t ih =>
    rw [List.takeWhile_cons] at hc
    cases ha : blB a with
    | false => rw [ha] at hc; simp at hc; rw [← hc]; exact ha
    | true => rw [ha, if_pos rfl] at hc; exact ih (by simpa using hc)
theorem esc_some {r : List UInt8} {o : Option It} {n : Nat} (h : escR r = some (o, n)) : (∃ t, r = 10 :: t ∧ o = none ∧ n = 2 + (blanks t).length) ∨ (∃ c v t, r = c :: t ∧ c ≠ 10 ∧ escO c = some v ∧ o = some (bT v) ∧ n = 2) := by
  cases r with
  | nil => cases h
  | cons c t =>
    by_cases hc : c = 10
    · subst hc
      have h : some ((none : Option It), 2 + (blanks t).length) = some (o, n) := h
      injection h with h; injection h with h1 h2
      exact .inl ⟨t, rfl, h1.symm, h2.symm⟩
    · have h : (if c = 10 then some (none, 2 + (blanks t).length) else match escO c with | none => none | some v => some (some (bT v), 2)) = some (o, n) := h
      rw [if_neg hc] at h
      cases he : escO c with
      | none => rw [he] at h; cases h
      | some v =>
        rw [he] at h
        injection h with h; injection h with h1 h2
        exact .inr ⟨c, v, t, rfl, hc, he, h1.symm, h2.symm⟩
theorem elR_some {s : List UInt8} {o : Option It} {n : Nat} (h : elR s = some (o, n)) :
    (∃ u v, s = 123 :: (u ++ 125 :: v) ∧ (∀ x ∈ u, x ≠ 125) ∧ isNm (bsL u) = true ∧ o = some ⟨5, bsL u, 0⟩ ∧ n = u.length + 2) ∨
    (∃ t, s = 92 :: 10 :: t ∧ o = none ∧ n = 2 + (blanks t).length) ∨ (∃ c v t, s = 92 :: c :: t ∧ c ≠ 10 ∧ escO c = some v ∧ o = some (bT v) ∧ n = 2) ∨
    (∃ c t, s = c :: t ∧ c ≠ 10 ∧ c ≠ 123 ∧ c ≠ 92 ∧ o = some (bT c) ∧ n = 1) := by
  cases s with
  | nil => cases h
  | cons c r =>
    by_cases h10 : c = 10
    · subst h10; rw [elR_10] at h; cases h
    by_cases h123 : c = 123
    · subst h123
      rw [elR_123] at h
      cases hr : rdSlot r with
      | none => rw [hr] at h; cases h
      | some y =>
        rw [hr] at h
        injection h with h; injection h with h1 h2
        obtain ⟨u, v, e1, e2, e3, e4⟩ := slot_some hr
        subst e4
        exact .inl ⟨u, v, by rw [e1], e2, e3, h1.symm, h2.symm⟩
    by_cases h92 : c = 92
    · subst h92
      rw [elR_92] at h
      rcases esc_some h with ⟨t, e1, e2, e3⟩ | ⟨d, v, t, e1, e2, e3, e4, e5⟩
      · exact .inr (.inl ⟨t, by rw [e1], e2, e3⟩)
      · exact .inr (.inr (.inl ⟨d, v, t, by rw [e1], e2, e3, e4, e5⟩))
    · rw [elR_text c r h10 h123 h92] at h
      injection h with h; injection h with h1 h2
      exact .inr (.inr (.inr ⟨c, r, rfl, h10, h123, h92, h1.symm, h2.symm⟩))
theorem elR_esc (c v : UInt8) (t : List UInt8) (h1 : c ≠ 10) (h2 : escO c = some v) : elR (92 :: c :: t) = some (some (bT v), 2) := by
  rw [elR_92]
  show (if c = 10 then _ else _) = _
  rw [if_neg h1, h2]
theorem elR_slot (u v : List UInt8) (h : ∀ x ∈ u, x ≠ 125) (hn : isNm (bsL u) = true) : elR (123 :: (u ++ 125 :: v)) = some (some ⟨5, bsL u, 0⟩, u.length + 2) := by
  rw [elR_123, slot_of u v h hn]
theorem elR_cont (t : List UInt8) : elR (92 :: 10 :: t) = some (none, 2 + (blanks t).length) := rfl
theorem elR_ok : ElOk elR where
  take := fun s o n h => by
    rcases elR_some h with ⟨u, v, rfl, _, _, _, rfl⟩ | ⟨t, rfl, _, rfl⟩ | ⟨c, v, t, rfl, _, _, _, rfl⟩ | ⟨c, t, rfl, _, _, _, _, rfl⟩
    · simp
    · have := blanks_len t; simp; omega
    · simp
    · simp
  one := fun s x n h => by
    rcases elR_some h with ⟨u, v, rfl, _, hn, e, rfl⟩ | ⟨t, rfl, e, rfl⟩ | ⟨c, v, t, rfl, _, _, e, rfl⟩ | ⟨c, t, rfl, _, _, _, e, rfl⟩
    · injection e with e; subst e
      exact .inr ⟨(by show (5 : Int) ≠ 1; decide), proper_slot hn⟩
    · cases e
    · injection e with e; subst e; exact bT_one v
    · injection e with e; subst e; exact bT_one c
  item := fun s x n h r => by
    rcases elR_some h with ⟨u, v, rfl, hu, hn, e, rfl⟩ | ⟨t, rfl, e, rfl⟩ | ⟨c, v, t, rfl, h1, h2, e, rfl⟩ | ⟨c, t, rfl, h1, h2, h3, e, rfl⟩
    · have : (123 :: (u ++ 125 :: v)).take (u.length + 2) ++ r = 123 :: (u ++ 125 :: r) := by
        show (123 :: (u ++ 125 :: v).take (u.length + 1)) ++ r = _
        rw [take_cons_app]; simp
      rw [this, elR_slot u r hu hn, e]
    · cases e
    · show elR (92 :: c :: r) = _
      rw [elR_esc c v r h1 h2, e]
    · show elR (c :: r) = _
      rw [elR_text c r h1 h2 h3, e]
  cont := fun s n h r hr => by
    rcases elR_some h with ⟨u, v, rfl, hu, hn, e, rfl⟩ | ⟨t, rfl, e, rfl⟩ | ⟨c, v, t, rfl, h1, h2, e, rfl⟩ | ⟨c, t, rfl, h1, h2, h3, e, rfl⟩
    · cases e
    · have hd : (92 :: 10 :: t).drop (2 + (blanks t).length) = t.drop (blanks t).length := by rw [Nat.add_comm]; rfl
      have ht : (92 :: 10 :: t).take (2 + (blanks t).length) = 92 :: 10 :: blanks t := by
        rw [Nat.add_comm]
        show 92 :: 10 :: t.take (blanks t).length = _
        rw [blanks_take]
      rw [hd] at hr
      rw [ht]
      show elR (92 :: 10 :: (blanks t ++ r)) = _
      rw [elR_cont, blanks_app _ _ (blanks_all t) (fun c hc => blanks_stop t c (by rw [← hr, hc]))]
    · cases e
    · cases e

/-- How a byte of a text is written. -/
def byR (c : UInt8) : List UInt8 := if c = 10 then [92, 110] else if c = 9 then [92, 116] else if c = 13 then [92, 114] else if c = 92 ∨ c = 123 then [92, c] else [c]
/-- How a position is written. -/
def e1R (x : It) : List UInt8 := if x.k = 1 then x.t.data.toList.flatMap byR else 123 :: (x.t.data.toList ++ [125])
theorem e1R_byte (c : UInt8) : e1R (bT c) = byR c := by
  show (if (1 : Int) = 1 then [c].flatMap byR else _) = _
  rw [if_pos rfl]; simp
theorem byR_ne (c : UInt8) : byR c ≠ [] := by unfold byR; repeat' split
                                              all_goals simp
theorem byR_el (c : UInt8) (r : List UInt8) : elR (byR c ++ r) = some (some (bT c), (byR c).length) := by
  unfold byR
  by_cases h1 : c = 10
  · subst h1; rw [if_pos rfl]; exact elR_esc 110 10 r (by decide) (by decide)
  by_cases h2 : c = 9
  · subst h2; rw [if_neg (by decide), if_pos rfl]; exact elR_esc 116 9 r (by decide) (by decide)
  by_cases h3 : c = 13
  · subst h3; rw [if_neg (by decide), if_neg (by decide), if_pos rfl]; exact elR_esc 114 13 r (by decide) (by decide)
  rw [if_neg h1, if_neg h2, if_neg h3]
  by_cases h4 : c = 92 ∨ c = 123
  · rw [if_pos h4]
    rcases h4 with rfl | rfl
    · exact elR_esc 92 92 r (by decide) (by decide)
    · exact elR_esc 123 123 r (by decide) (by decide)
  · rw [if_neg h4]
    exact elR_text c r h1 (fun e => h4 (.inr e)) (fun e => h4 (.inl e))
theorem word_el {el : ElF} (h : ElOk el) {w : List UInt8} {x : It} (hw : w ≠ []) (he : ∀ r, el (w ++ r) = some (some x, w.length)) : Word el w x := by
  have h0 := he []
  rw [List.append_nil] at h0
  have := word_item h h0
  rwa [List.take_length] at this
/-- The kinds that a resource file can hold. -/
def Flat (x : It) : Prop := x.k = 1 ∨ x.k = 5
theorem word_e1 (x : It) (h : One x) (hf : Flat x) : Word elR (e1R x) x := by
  by_cases hk : x.k = 1
  · obtain ⟨c, rfl⟩ := one_bT h hk
    rw [e1R_byte]
    exact word_el elR_ok (byR_ne c) (byR_el c)
  · have h5 : x.k = 5 := hf.resolve_left hk
    have hp : properB x = true := by rcases h with ⟨h1, _⟩ | ⟨_, h2⟩; exact absurd h1 hk; exact h2
    rw [slot_proper h5] at hp
    simp only [Bool.and_eq_true, decide_eq_true_eq] at hp
    obtain ⟨k, t, i⟩ := x
    dsimp only at h5 hp; subst h5
    obtain ⟨hn, rfl⟩ := hp
    have he : e1R ⟨5, t, 0⟩ = 123 :: (t.data.toList ++ [125]) := if_neg (show ¬ (5 : Int) = 1 by decide)
    rw [he]
    refine word_el elR_ok (by simp) (fun r => ?_)
    show elR (123 :: ((t.data.toList ++ [125]) ++ r)) = _
    rw [List.append_assoc, List.singleton_append, elR_slot t.data.toList r (fun c hc => (nm_ne hn hc).1) (by rw [bsL_of]; exact hn), bsL_of]
    simp
/-- What a fragment is written as. -/
def encR (l : List It) : List UInt8 := l.flatMap e1R
theorem encR_exp (l : List It) : encG e1R l = encR l := by
  unfold encG encR
  induction l with
  | nil => rfl
  | cons x t ih =>
    rw [expI_cons, List.flatMap_append, ih, List.flatMap_cons]
    congr 1
    by_cases hk : x.k = 1
    · rw [expX_text hk, List.flatMap_map]
      unfold e1R
      rw [if_pos hk]
      congr 1
      funext c
      exact e1R_byte c
    · rw [expX_other hk]; simp
theorem ws_e1 (xs : List It) (h : ∀ x ∈ xs, One x ∧ Flat x) : AllW elR (wsG e1R xs) := fun w hw => by
  unfold wsG at hw
  rw [List.mem_map] at hw
  obtain ⟨x, hx, rfl⟩ := hw
  exact word_e1 x (h x hx).1 (h x hx).2
end Go.Proofs.YtdbbjhbkhimbfaaGreatDoor
namespace Go.Proofs.YtdbbjhbkhimbfaaGreatDoor
set_option linter.unusedVariables false
open Go.Lib

structure Pt where
  u : Bool
  key : ByteArray
  raw : ByteArray
def keyB (c : UInt8) : Bool := decide (97 ≤ c.toNat ∧ c.toNat ≤ 122) || decide (48 ≤ c.toNat ∧ c.toNat ≤ 57) || decide (c.toNat = 46 ∨ c.toNat = 95 ∨ c.toNat = 45)
/-- The length of a raw value: up to the line feed that no backslash takes along. -/
def rawL : List UInt8 → Nat
  | [] => 0
  | [c] => if c = 10 then 0 else 1
  | c :: d :: r => if c = 10 then 0 else if c = 92 then 2 + rawL r else 1 + rawL (d :: r)
theorem rawL_nil : rawL [] = 0 := rfl
theorem rawL_10 (r : List UInt8) : rawL (10 :: r) = 0 := by
  cases r with
  | nil => unfold rawL; rfl
  | cons d r => unfold rawL; rfl
theorem rawL_92 (d : UInt8) (r : List UInt8) : rawL (92 :: d :: r) = 2 + rawL r := by
  rw [rawL, if_neg (by decide), if_pos rfl]
theorem rawL_92e : rawL [92] = 1 := by unfold rawL; rfl
theorem rawL_c (c : UInt8) (r : List UInt8) (h1 : c ≠ 10) (h2 : c ≠ 92) : rawL (c :: r) = 1 + rawL r := by
  cases r with
  | nil => unfold rawL; rw [if_neg h1]
  | cons d r => rw [rawL, if_neg h1, if_neg h2]
theorem rawL_le : ∀ (n : Nat) (s : List UInt8), s.length ≤ n → rawL s ≤ s.length := by
  intro n
  induction n with
  | zero => intro s hs; rw [List.length_eq_zero_iff.1 (by omega : s.length = 0)]; exact Nat.le_refl _
  | succ n ih =>
    intro s hs
    cases s with
    | nil => exact Nat.le_refl _
    | cons c r =>
      by_cases h1 : c = 10
      · subst h1; rw [rawL_10]; exact Nat.zero_le _
      by_cases h2 : c = 92
      · subst h2
        cases r with
        | nil => rw [rawL_92e]; exact Nat.le_refl _
        | cons d r => rw [rawL_92]; have := ih r (by simp at hs; omega); simp; omega
      · rw [rawL_c c r h1 h2]; have := ih r (by simp at hs; omega); simp; omega
/-- A line that is blank or a comment. -/
def skipL (s : List UInt8) : Bool := match (s.drop (blanks s).length).head? with | none => true | some c => c == 10 || c == 35
/-- The key of a line, with a sign behind it. -/
def keyK (s : List UInt8) : Bool := hasU 61 s && (upto 61 s).all keyB && decide (1 ≤ (upto 61 s).length) && decide ((upto 61 s).length ≤ 64)
def hasK (ps : List Pt) (key : ByteArray) : Bool := ps.any fun p => p.u && decide (p.key = key)
def skel (D : ByteArray) (a b : Nat) : Pt := ⟨false, .empty, D.extract a b⟩
def restD (D : ByteArray) (p : Nat) : List UInt8 := D.data.toList.drop p
def keyAt (D : ByteArray) (p : Nat) : ByteArray := bsL (upto 61 (restD D p))
/-- Where the raw value of a line begins, and its length. -/
def rawAt (D : ByteArray) (p : Nat) : Nat := p + (upto 61 (restD D p)).length + 1
def rawN (D : ByteArray) (p : Nat) : Nat := rawL (restD D (rawAt D p))
def rawD (D : ByteArray) (p : Nat) : List UInt8 := (restD D (rawAt D p)).take (rawN D p)
def splP (D : ByteArray) : Nat → List Pt → Nat → Nat → List Pt × Nat × Int
  | 0, ps, a, _ => (ps ++ [skel D a D.size], 0, 0)
  | m + 1, ps, a, p =>
    if D.size ≤ p then (ps ++ [skel D a D.size], 0, 0)
    else if skipL (restD D p) = true then splP D m ps a (p + (upto 10 (restD D p)).length + 1)
    else if keyK (restD D p) = false then ([], p, 2)
    else if hasK ps (keyAt D p) = true then ([], p, 5)
    else if (dec elR (rawD D p)).2.2.2 ≠ 0 then ([], rawAt D p + (dec elR (rawD D p)).2.2.1, (dec elR (rawD D p)).2.2.2)
    else splP D m (ps ++ [skel D a (rawAt D p), ⟨true, keyAt D p, D.extract (rawAt D p) (rawAt D p + rawN D p)⟩]) (rawAt D p + rawN D p) (rawAt D p + rawN D p + 1)
theorem splP_end (D : ByteArray) (m : Nat) (ps : List Pt) (a p : Nat) (h : D.size ≤ p) : splP D m ps a p = (ps ++ [skel D a D.size], 0, 0) := by
  cases m with
  | zero => rfl
  | succ m => unfold splP; rw [if_pos h]
theorem rawAt_gt (D : ByteArray) (p : Nat) : p < rawAt D p := by unfold rawAt; omega
theorem splP_fuel (D : ByteArray) : ∀ m m' ps a p, D.size ≤ p + m → D.size ≤ p + m' → splP D m ps a p = splP D m' ps a p := by
  intro m
  induction m with
  | zero => intro m' ps a p h0 _; rw [splP_end D 0 ps a p (by omega), splP_end D m' ps a p (by omega)]
  | succ m ih =>
    intro m' ps a p h0 h1
    by_cases hp : D.size ≤ p
    · rw [splP_end D _ ps a p hp, splP_end D _ ps a p hp]
    · cases m' with
      | zero => omega
      | succ m' =>
        unfold splP
        rw [if_neg hp, if_neg hp, ih m' ps a (p + (upto 10 (restD D p)).length + 1) (by omega) (by omega)]
        have := rawAt_gt D p
        rw [ih m' _ (rawAt D p + rawN D p) (rawAt D p + rawN D p + 1) (by omega) (by omega)]
def spl (D : ByteArray) (ps : List Pt) (a p : Nat) : List Pt × Nat × Int := splP D (D.size - p) ps a p
/-- What a resource file is divided into: the parts, the offset of an error, the error. -/
def splR (D : ByteArray) : List Pt × Nat × Int := if 65536 < D.size then ([], 0, 3) else spl D [] 0 0
section
variable (D : ByteArray) (ps : List Pt) (a p : Nat)
theorem spl_eq (h : p < D.size) : spl D ps a p = (if skipL (restD D p) = true then spl D ps a (p + (upto 10 (restD D p)).length + 1)
    else if keyK (restD D p) = false then ([], p, 2)
    else if hasK ps (keyAt D p) = true then ([], p, 5)
    else if (dec elR (rawD D p)).2.2.2 ≠ 0 then ([], rawAt D p + (dec elR (rawD D p)).2.2.1, (dec elR (rawD D p)).2.2.2)
    else spl D (ps ++ [skel D a (rawAt D p), ⟨true, keyAt D p, D.extract (rawAt D p) (rawAt D p + rawN D p)⟩]) (rawAt D p + rawN D p) (rawAt D p + rawN D p + 1)) := by
  have hr := rawAt_gt D p
  unfold spl
  rw [splP_fuel D (D.size - p) (D.size - p + 1) ps a p (by omega) (by omega)]
  conv => lhs; unfold splP
  rw [if_neg (by omega : ¬ D.size ≤ p), splP_fuel D (D.size - p) (D.size - (p + (upto 10 (restD D p)).length + 1)) ps a _ (by omega) (by omega), splP_fuel D (D.size - p) (D.size - (rawAt D p + rawN D p + 1)) _ _ _ (by omega) (by omega)]
theorem spl_end (h : D.size ≤ p) : spl D ps a p = (ps ++ [skel D a D.size], 0, 0) := splP_end D _ ps a p h
theorem spl_skip (h : p < D.size) (h1 : skipL (restD D p) = true) : spl D ps a p = spl D ps a (p + (upto 10 (restD D p)).length + 1) := by rw [spl_eq D ps a p h, if_pos h1]
theorem spl_nokey (h : p < D.size) (h1 : skipL (restD D p) = false) (h2 : keyK (restD D p) = false) : spl D ps a p = ([], p, 2) := by rw [spl_eq D ps a p h, if_neg (by rw [h1]; decide), if_pos h2]
theorem spl_twice (h : p < D.size) (h1 : skipL (restD D p) = false) (h2 : keyK (restD D p) = true) (h3 : hasK ps (keyAt D p) = true) : spl D ps a p = ([], p, 5) := by
  rw [spl_eq D ps a p h, if_neg (by rw [h1]; decide), if_neg (by rw [h2]; decide), if_pos h3]
theorem spl_bad (h : p < D.size) (h1 : skipL (restD D p) = false) (h2 : keyK (restD D p) = true) (h3 : hasK ps (keyAt D p) = false) (h4 : (dec elR (rawD D p)).2.2.2 ≠ 0) : spl D ps a p = ([], rawAt D p + (dec elR (rawD D p)).2.2.1, (dec elR (rawD D p)).2.2.2) := by
  rw [spl_eq D ps a p h, if_neg (by rw [h1]; decide), if_neg (by rw [h2]; decide), if_neg (by rw [h3]; decide), if_pos h4]
theorem spl_unit (h : p < D.size) (h1 : skipL (restD D p) = false) (h2 : keyK (restD D p) = true) (h3 : hasK ps (keyAt D p) = false) (h4 : (dec elR (rawD D p)).2.2.2 = 0) :
    spl D ps a p = spl D (ps ++ [skel D a (rawAt D p), ⟨true, keyAt D p, D.extract (rawAt D p) (rawAt D p + rawN D p)⟩]) (rawAt D p + rawN D p) (rawAt D p + rawN D p + 1) := by
  rw [spl_eq D ps a p h, if_neg (by rw [h1]; decide), if_neg (by rw [h2]; decide), if_neg (by rw [h3]; decide), if_neg (by rw [h4]; decide)]
end
/-- How long a list of parts may get: each unit takes bytes. -/
theorem restD_len (D : ByteArray) (p : Nat) : (restD D p).length = D.size - p := by unfold restD; simp
theorem rawN_le (D : ByteArray) (p : Nat) : rawAt D p + rawN D p ≤ max (rawAt D p) D.size := by
  unfold rawN
  have := rawL_le _ (restD D (rawAt D p)) (Nat.le_refl _)
  rw [restD_len] at this
  omega
theorem key_in (D : ByteArray) (p : Nat) (h : keyK (restD D p) = true) : rawAt D p ≤ D.size := by
  unfold keyK at h
  simp only [Bool.and_eq_true] at h
  have h1 := h.1.1.1
  unfold hasU at h1
  have := of_decide_eq_true h1
  rw [restD_len] at this
  unfold rawAt
  omega
end Go.Proofs.YtdbbjhbkhimbfaaGreatDoor
