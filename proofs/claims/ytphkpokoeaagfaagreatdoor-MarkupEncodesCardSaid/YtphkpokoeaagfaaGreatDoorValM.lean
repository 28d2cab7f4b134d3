/- Plain mathematics of valid fragments. -/
import Derived.Test.YtphkpokoeaagfaaGreatDoorLen
import Derived.Test.YtphkpokoeaagfaaGreatDoorConM
namespace Go.Proofs.YtphkpokoeaagfaaGreatDoor
set_option linter.unusedVariables false

def numB (n : Int) : Bool := decide (1 ≤ n ∧ n ≤ 999)
/-- May an item by itself be in a fragment? -/
def properB (x : It) : Bool :=
  if x.k = 1 then decide (x.t.size ≠ 0) && decide (x.id = 0) else if x.k = 2 ∨ x.k = 4 then isCon x.t && numB x.id else if x.k = 3 then isNm x.t && numB x.id else if x.k = 5 then isNm x.t && decide (x.id = 0) else false
def lastText (b : List It) : Bool := match b.getLast? with | some y => decide (y.k = 1) | none => false
def clash (x y : It) : Bool := isT y.k && decide (y.id = x.id) && !(decide (x.k = 3) && decide (y.k = 2) && decide (nameB y.t = x.t))
def tagBad (b : List It) (x : It) : Bool := b.any (clash x)
/-- The first error of an item behind others. -/
def errAt (b : List It) (x : It) : Int := if properB x = false ∨ (x.k = 1 ∧ lastText b = true) then 1 else if isT x.k = true ∧ tagBad b x = true then 7 else 0
def errL : List It → List It → Int
  | _, [] => 0
  | b, x :: t => if errAt b x ≠ 0 then errAt b x else errL (b ++ [x]) t
def valE (l : List It) : Int := if 512 < l.length ∨ 1024 < lenI l then 3 else errL [] l
theorem errL_append (l m : List It) : ∀ b, errL b (l ++ m) = if errL b l ≠ 0 then errL b l else errL (b ++ l) m := by
  induction l with
  | nil => intro b; simp [errL]
  | cons x t ih =>
    intro b
    rw [List.cons_append, errL, errL]
    by_cases h : errAt b x ≠ 0
    · rw [if_pos h, if_pos h, if_pos h]
    · rw [if_neg h, if_neg h, ih]; simp [List.append_assoc]
theorem errL_one (b : List It) (x : It) : errL b [x] = errAt b x := by
  rw [errL]
  by_cases h : errAt b x ≠ 0
  · rw [if_pos h]
  · rw [if_neg h]; simp at h; rw [h]; rfl
theorem errL_snoc (l : List It) (x : It) (h : errL [] l = 0) : errL [] (l ++ [x]) = errAt l x := by
  rw [errL_append, if_neg (by simpa using h), List.nil_append, errL_one]
theorem errL_bad (l : List It) (k : Nat) (hk : k < l.length) (h : errL [] (l.take k) = 0) (hb : errAt (l.take k) (l[k]'hk) ≠ 0) : errL [] l = errAt (l.take k) (l[k]'hk) := by
  have e : l = l.take k ++ (l[k]'hk :: l.drop (k + 1)) := by rw [← List.drop_eq_getElem_cons hk, List.take_append_drop]
  conv => lhs; rw [e]
  rw [errL_append, if_neg (by simpa using h), List.nil_append, errL, if_pos hb]
theorem errL_take (l : List It) (k : Nat) (hk : k < l.length) (h : errL [] (l.take k) = 0) (hb : errAt (l.take k) (l[k]'hk) = 0) : errL [] (l.take (k + 1)) = 0 := by
  rw [List.take_succ_eq_append_getElem hk, errL_snoc _ _ h, hb]
theorem errL_left (l m : List It) (h : errL [] (l ++ m) = 0) : errL [] l = 0 := by
  rw [errL_append] at h
  by_cases hh : errL [] l ≠ 0
  · rw [if_pos hh] at h; exact h
  · simpa using hh

/-- The tags of a list that bear a number. -/
def taken (P : List It) (id : Int) : Bool := P.any fun y => isT y.k && decide (y.id = id)
theorem taken_snoc (P : List It) (x : It) (id : Int) : taken (P ++ [x]) id = (taken P id || (isT x.k && decide (x.id = id))) := by unfold taken; simp
def uncR : List It → Int → Option ByteArray
  | [], _ => none
  | x :: t, id => if isT x.k = true ∧ x.id = id then (if taken t id = true then none else if x.k = 2 then some (nameB x.t) else uncR t id) else uncR t id
/-- The name of the Open of a number that has no Close yet. -/
def unc (P : List It) (id : Int) : Option ByteArray := uncR P.reverse id
theorem taken_reverse (P : List It) (id : Int) : taken P.reverse id = taken P id := by unfold taken; rw [List.any_reverse]
theorem unc_snoc (P : List It) (x : It) (id : Int) : unc (P ++ [x]) id = if isT x.k = true ∧ x.id = id then (if taken P id = true then none else if x.k = 2 then some (nameB x.t) else unc P id) else unc P id := by
  unfold unc
  rw [List.reverse_append]
  show uncR (x :: P.reverse) id = _
  rw [uncR, taken_reverse]
theorem uncR_none (R : List It) (id : Int) (h : taken R id = false) : uncR R id = none := by
  induction R with
  | nil => rfl
  | cons x t ih =>
    have h' : ((isT x.k && decide (x.id = id)) || taken t id) = false := h
    rw [Bool.or_eq_false_iff] at h'
    rw [uncR]
    by_cases hc : isT x.k = true ∧ x.id = id
    · rw [hc.1, hc.2] at h'; simp at h'
    · rw [if_neg hc]; exact ih h'.2
theorem unc_none (P : List It) (id : Int) (h : taken P id = false) : unc P id = none := uncR_none _ _ (by rw [taken_reverse]; exact h)
theorem tagBad_not (P : List It) (x : It) (h : taken P x.id = false) : tagBad P x = false := by
  unfold tagBad
  rw [List.any_eq_false]
  intro y hy
  unfold taken at h
  rw [List.any_eq_false] at h
  have := h y hy
  unfold clash
  simp at this ⊢
  intro h1 h2
  exact absurd h2 (this h1)
theorem tagBad_iff (P : List It) (x : It) : tagBad P x = false ↔ ∀ y ∈ P, isT y.k = true → y.id = x.id → x.k = 3 ∧ y.k = 2 ∧ nameB y.t = x.t := by
  unfold tagBad clash
  rw [List.any_eq_false]
  constructor
  · intro h y hy h1 h2
    have := h y hy
    simp only [h1, h2, decide_true, Bool.true_and, Bool.not_eq_true, Bool.not_eq_false', Bool.and_eq_true, decide_eq_true_eq] at this
    exact ⟨this.1.1, this.1.2, this.2⟩
  · intro h y hy hc
    simp only [Bool.and_eq_true, decide_eq_true_eq, Bool.not_eq_true'] at hc
    obtain ⟨h1, h2, h3⟩ := h y hy hc.1.1 hc.1.2
    simp [h1, h2, h3] at hc
theorem errAt_zero (b : List It) (x : It) : errAt b x = 0 ↔ properB x = true ∧ (x.k = 1 → lastText b = false) ∧ (isT x.k = true → tagBad b x = false) := by
  unfold errAt
  by_cases h1 : properB x = false ∨ (x.k = 1 ∧ lastText b = true)
  · rw [if_pos h1]
    refine ⟨fun h => by simp at h, fun ⟨h2, h3, _⟩ => ?_⟩
    rcases h1 with h1 | ⟨h1, h1'⟩
    · rw [h1] at h2; cases h2
    · rw [h3 h1] at h1'; cases h1'
  · rw [if_neg h1]
    have a1 : properB x = true := by cases hp : properB x; exact absurd (.inl hp) h1; rfl
    have a2 : x.k = 1 → lastText b = false := fun hk => by cases hp : lastText b; rfl; exact absurd (.inr ⟨hk, hp⟩) h1
    by_cases h2 : isT x.k = true ∧ tagBad b x = true
    · rw [if_pos h2]
      exact ⟨fun h => by simp at h, fun ⟨_, _, h4⟩ => by rw [h4 h2.1] at h2; simp at h2⟩
    · rw [if_neg h2]
      exact ⟨fun _ => ⟨a1, a2, fun ht => by cases hp : tagBad b x; rfl; exact absurd ⟨ht, hp⟩ h2⟩, fun _ => rfl⟩
theorem unc_spec (R : List It) : errL [] R.reverse = 0 → ∀ id n, uncR R id = some n ↔ (taken R id = true ∧ ∀ y ∈ R, isT y.k = true → y.id = id → y.k = 2 ∧ nameB y.t = n) := by
  induction R with
  | nil => intro _ id n; simp [uncR, taken]
  | cons x t ih =>
    intro h id n
    rw [List.reverse_cons] at h
    have h0 := errL_left _ _ h
    rw [errL_snoc _ _ h0, errAt_zero] at h
    obtain ⟨_, _, hb⟩ := h
    have ih := ih h0 id n
    have htk : taken (x :: t) id = ((isT x.k && decide (x.id = id)) || taken t id) := rfl
    rw [uncR, htk]
    by_cases hc : isT x.k = true ∧ x.id = id
    · rw [if_pos hc, hc.1, hc.2]
      simp only [decide_true, Bool.and_self, Bool.true_or, true_and]
      cases hk : taken t id
      · rw [if_neg (by simp)]
        by_cases h2 : x.k = 2
        · rw [if_pos h2]
          constructor
          · intro e; injection e with e
            intro y hy h3 h4
            rcases List.mem_cons.1 hy with rfl | hy
            · exact ⟨h2, e⟩
            · unfold taken at hk; rw [List.any_eq_false] at hk; have := hk y hy; simp [h3, h4] at this
          · intro hh; rw [(hh x (.head _) hc.1 hc.2).2]
        · rw [if_neg h2, uncR_none _ _ hk]
          exact ⟨fun e => (by cases e), fun hh => absurd (hh x (.head _) hc.1 hc.2).1 h2⟩
      · rw [if_pos rfl]
        refine ⟨fun e => (by cases e), fun hh => ?_⟩
        have h2 := (hh x (.head _) hc.1 hc.2).1
        have hb := (tagBad_iff _ _).1 (hb hc.1)
        unfold taken at hk
        rw [List.any_eq_true] at hk
        obtain ⟨y, hy, h5⟩ := hk
        simp at h5
        have := (hb y (by simpa using hy) h5.1 (by rw [h5.2, hc.2])).1
        omega
    · rw [if_neg hc, ih]
      have e : (isT x.k && decide (x.id = id)) = false := by
        cases hx : isT x.k
        · rfl
        · simp; intro e; exact hc ⟨hx, e⟩
      rw [e, Bool.false_or]
      refine and_congr_right fun _ => ⟨fun hh y hy h3 h4 => ?_, fun hh y hy => hh y (.tail _ hy)⟩
      rcases List.mem_cons.1 hy with rfl | hy
      · exact absurd ⟨h3, h4⟩ hc
      · exact hh y hy h3 h4
/-- What the program asks of a tag. -/
def adm (P : List It) (x : It) : Bool := if taken P x.id = true then (match unc P x.id with | some n => decide (x.k = 3) && decide (x.t = n) | none => false) else true
theorem adm_eq (P : List It) (x : It) (h : errL [] P = 0) : adm P x = !tagBad P x := by
  unfold adm
  cases hk : taken P x.id
  · rw [if_neg (by simp), tagBad_not P x hk]; rfl
  · rw [if_pos rfl]
    have hs := fun n => unc_spec P.reverse (by rw [List.reverse_reverse]; exact h) x.id n
    simp only [taken_reverse, hk, true_and, List.mem_reverse] at hs
    have e : ∀ n, (unc P x.id = some n) = (uncR P.reverse x.id = some n) := fun n => rfl
    rw [Bool.eq_iff_iff, Bool.not_eq_true', tagBad_iff]
    cases hu : unc P x.id with
    | none =>
      refine ⟨fun h => (by cases h), fun hh => ?_⟩
      have := (hs x.t).2 (fun y hy h1 h2 => (hh y hy h1 h2).2)
      rw [← e, hu] at this; cases this
    | some n =>
      have h1 := (hs n).1 (by rw [← e]; exact hu)
      simp only [Bool.and_eq_true, decide_eq_true_eq]
      constructor
      · rintro ⟨h2, h3⟩ y hy h4 h5
        exact ⟨h2, (h1 y hy h4 h5).1, by rw [(h1 y hy h4 h5).2, h3]⟩
      · intro hh
        unfold taken at hk
        rw [List.any_eq_true] at hk
        obtain ⟨y, hy, h5⟩ := hk
        simp at h5
        have a := hh y hy h5.1 h5.2
        have b := h1 y hy h5.1 h5.2
        exact ⟨a.1, by rw [← a.2.2, b.2]⟩
end Go.Proofs.YtphkpokoeaagfaaGreatDoor
