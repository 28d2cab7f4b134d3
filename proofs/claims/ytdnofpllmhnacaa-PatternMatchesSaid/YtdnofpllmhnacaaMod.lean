/- What Parse reads, as functions. -/
import Derived.Test.YtdnofpllmhnacaaCls
namespace Go.Proofs.Ytdnofpllmhnacaa
set_option linter.unusedVariables false
set_option linter.unusedSimpArgs false

def emptyS : BSet := fun _ => false
def allS : BSet := fun _ => true
/-- The set of a letter behind a backslash. -/
def nmS (c : Nat) : Option BSet :=
  if c = 115 then some (clsS 2 256) else if c = 83 then some (notS (clsS 2 256)) else
  if c = 100 then some (clsS 3 256) else if c = 68 then some (notS (clsS 3 256)) else
  if c = 108 then some (clsS 4 256) else if c = 76 then some (notS (clsS 4 256)) else
  if c = 99 then some (clsS 1 256) else if c = 67 then some (notS (clsS 1 256)) else
  if c = 109 then some (clsS 5 256) else if c = 77 then some (notS (clsS 5 256)) else
  if c = 117 then some (rangeS emptyS 65 90) else if c = 85 then some (notS (rangeS emptyS 65 90)) else none
/-- A named set at n. -/
def ndF (s : ByteArray) (n : Nat) : Option BSet := if pk s n = 92 then nmS (pk s (n + 1)) else none
/-- The signs that do not stand for themselves. -/
def sgO : List Nat := [42, 43, 63, 40, 41, 124, 93, 123, 125]
def sgI : List Nat := [93, 91, 94, 45]
/-- Whether a byte may be read, behind a backslash or not. -/
def okB (sg : List Nat) (esc : Bool) (b : Nat) : Bool := if cls b = 5 then esc || !(sg.contains b) else if cls b = 4 ∨ cls b = 3 then !esc else false
/-- Where the byte stands that readByte reads. -/
def rbA (s : ByteArray) (n : Nat) : Nat := if pk s n = 92 then n + 1 else n
/-- What readByte reads: the byte; where it stops. -/
def rbF (sg : List Nat) (s : ByteArray) (n : Nat) : Option Nat × Nat :=
  if okB sg (decide (pk s n = 92)) (pk s (rbA s n)) then (some (pk s (rbA s n)), rbA s n + 1) else (none, rbA s n)
/-- What a member adds; where it stops. -/
def mbF (s : ByteArray) (n : Nat) : Option BSet × Nat :=
  match ndF s n with
  | some T => (some T, n + 2)
  | none =>
    match rbF sgI s n with
    | (none, m) => (none, m)
    | (some x, m) =>
      if pk s m = 45 then
        match rbF sgI s (m + 1) with
        | (none, k) => (none, k)
        | (some y, k) => if y < x then (none, m + 1) else (some (rangeS emptyS x y), k)
      else (some (rangeS emptyS x x), m)
/-- The members up to the closing bracket. -/
def mbsF (s : ByteArray) : Nat → Nat → BSet → Bool → Option BSet × Nat
  | 0, n, _, _ => (none, n)
  | f + 1, n, S, first =>
    if !first && decide (pk s n = 93) then (some S, n + 1)
    else match mbF s n with
      | (none, m) => (none, m)
      | (some T, m) => mbsF s f m (orS S T) false
/-- Behind the opening bracket. -/
def brA (s : ByteArray) (n : Nat) : Nat := if pk s n = 94 then n + 1 else n
def brF (s : ByteArray) (n : Nat) : Option BSet × Nat :=
  match mbsF s (s.size + 1) (brA s n) emptyS true with
  | (none, m) => (none, m)
  | (some S, m) => (some (if pk s n = 94 then notS S else S), m)
/-- A set. -/
def stF (s : ByteArray) (n : Nat) : Option BSet × Nat :=
  if pk s n = 46 then (some allS, n + 1)
  else if pk s n = 91 then brF s (n + 1)
  else match ndF s n with
    | some T => (some T, n + 2)
    | none => match rbF sgO s n with
      | (none, m) => (none, m)
      | (some b, m) => (some (addS emptyS b), m)
/-- A pattern: its atoms, or where and why there is none. -/
def prsF (s : ByteArray) : Nat → Nat → List At → List At × Nat × Int
  | 0, n, P => (P, 0, 0)
  | f + 1, n, P =>
    if s.size ≤ n then (P, 0, 0)
    else if P.length = 32 then ([], n, 3)
    else match stF s n with
      | (none, m) => ([], m, 2)
      | (some S, m) => prsF s f (quF s m).2.2 (P ++ [⟨S, (quF s m).1, (quF s m).2.1⟩])
def parseF (s : ByteArray) : List At × Nat × Int := prsF s (s.size + 1) 0 []

/-! ### where the reader stands -/
theorem cls0 : cls 0 = 1 := by decide
theorem pk_end {s : ByteArray} {n : Nat} (h : s.size ≤ n) : pk s n = 0 := dif_neg (by omega)
theorem pk_in {s : ByteArray} {n : Nat} (h : pk s n ≠ 0) : n < s.size := by
  by_cases hn : n < s.size
  · exact hn
  · exact absurd (pk_end (by omega)) h
theorem ok_ne {sg : List Nat} {esc : Bool} {b : Nat} (h : okB sg esc b = true) : b ≠ 0 := by
  rintro rfl
  unfold okB at h
  simp [cls0] at h
theorem rbA_ge (s : ByteArray) (n : Nat) : n ≤ rbA s n := by unfold rbA; split <;> omega
theorem rbA_le {s : ByteArray} {n : Nat} (h : n ≤ s.size) : rbA s n ≤ s.size := by
  unfold rbA
  by_cases e : pk s n = 92
  · rw [if_pos e]; have := pk_in (s := s) (n := n) (by omega); omega
  · rw [if_neg e]; exact h
theorem rb_some {sg : List Nat} {s : ByteArray} {n b m : Nat} (h : rbF sg s n = (some b, m)) : n < m ∧ m ≤ s.size ∧ b < 256 ∧ b = pk s (rbA s n) ∧ m = rbA s n + 1 := by
  unfold rbF at h
  by_cases e : okB sg (decide (pk s n = 92)) (pk s (rbA s n)) = true
  · rw [if_pos e] at h
    injection h with h1 h2; injection h1 with h1
    have := pk_in (ok_ne e); have := rbA_ge s n
    exact ⟨by omega, by omega, h1 ▸ pk_le s _, h1.symm, h2.symm⟩
  · rw [if_neg e] at h; injection h with h1 _; cases h1
theorem rb_none {sg : List Nat} {s : ByteArray} {n m : Nat} (hn : n ≤ s.size) (h : rbF sg s n = (none, m)) : m = rbA s n ∧ m ≤ s.size := by
  unfold rbF at h
  by_cases e : okB sg (decide (pk s n = 92)) (pk s (rbA s n)) = true
  · rw [if_pos e] at h; injection h with h1 _; cases h1
  · rw [if_neg e] at h; injection h with _ h2; exact ⟨h2.symm, h2 ▸ rbA_le hn⟩
theorem nm_none0 : nmS 0 = none := by decide
theorem nd_some {s : ByteArray} {n : Nat} {T : BSet} (h : ndF s n = some T) : n + 2 ≤ s.size ∧ pk s n = 92 ∧ nmS (pk s (n + 1)) = some T := by
  unfold ndF at h
  by_cases e : pk s n = 92
  · rw [if_pos e] at h
    refine ⟨?_, e, h⟩
    by_cases h0 : pk s (n + 1) = 0
    · rw [h0, nm_none0] at h; cases h
    · have := pk_in h0; omega
  · rw [if_neg e] at h; cases h
theorem mb_some {s : ByteArray} {n m : Nat} {T : BSet} (h : mbF s n = (some T, m)) : n < m ∧ m ≤ s.size := by
  unfold mbF at h
  cases hd : ndF s n with
  | some U => rw [hd] at h; injection h with _ h; have := (nd_some hd).1; omega
  | none =>
    rw [hd] at h
    cases hr : rbF sgI s n with
    | mk x k =>
      rw [hr] at h
      cases x with
      | none => injection h with h1 _; cases h1
      | some x =>
        have h1 := rb_some hr
        dsimp only at h
        by_cases e : pk s k = 45
        · rw [if_pos e] at h
          cases hr2 : rbF sgI s (k + 1) with
          | mk y j =>
            rw [hr2] at h
            cases y with
            | none => injection h with h1 _; cases h1
            | some y =>
              have h2 := rb_some hr2
              dsimp only at h
              by_cases e2 : y < x
              · rw [if_pos e2] at h; injection h with h1 _; cases h1
              · rw [if_neg e2] at h; injection h with _ h; omega
        · rw [if_neg e] at h; injection h with _ h; omega
theorem mb_none {s : ByteArray} {n m : Nat} (hn : n ≤ s.size) (h : mbF s n = (none, m)) : m ≤ s.size := by
  unfold mbF at h
  cases hd : ndF s n with
  | some U => rw [hd] at h; injection h with h _; cases h
  | none =>
    rw [hd] at h
    cases hr : rbF sgI s n with
    | mk x k =>
      rw [hr] at h
      cases x with
      | none => injection h with _ h; exact h ▸ (rb_none hn hr).2
      | some x =>
        have h1 := rb_some hr
        dsimp only at h
        by_cases e : pk s k = 45
        · rw [if_pos e] at h
          have h3 : k + 1 ≤ s.size := pk_in (s := s) (n := k) (by omega)
          cases hr2 : rbF sgI s (k + 1) with
          | mk y j =>
            rw [hr2] at h
            cases y with
            | none => injection h with _ h; exact h ▸ (rb_none h3 hr2).2
            | some y =>
              dsimp only at h
              by_cases e2 : y < x
              · rw [if_pos e2] at h; injection h with _ h; omega
              · rw [if_neg e2] at h; injection h with h _; cases h
        · rw [if_neg e] at h; injection h with h _; cases h
/-- More steps say the same. -/
theorem mbs_fuel {s : ByteArray} (f : Nat) : ∀ (n : Nat) (S : BSet) (b : Bool), n ≤ s.size → s.size < f + n → ∀ g, mbsF s (f + g) n S b = mbsF s f n S b := by
  induction f with
  | zero => intro n S b hn h; omega
  | succ f ih =>
    intro n S b hn h g
    rw [show f + 1 + g = (f + g) + 1 by omega]
    simp only [mbsF]
    by_cases e : (!b && decide (pk s n = 93)) = true
    · rw [if_pos e, if_pos e]
    · rw [if_neg e, if_neg e]
      cases hm : mbF s n with
      | mk T m =>
        cases T with
        | none => rfl
        | some T =>
          have := mb_some hm
          exact ih m (orS S T) false (by omega) (by omega) g
theorem mbs_le {s : ByteArray} (f : Nat) : ∀ (n : Nat) (S : BSet) (b : Bool), n ≤ s.size → s.size < f + n → (mbsF s f n S b).2 ≤ s.size ∧ ((mbsF s f n S b).1.isSome = true → n < (mbsF s f n S b).2) := by
  induction f with
  | zero => intro n S b hn h; omega
  | succ f ih =>
    intro n S b hn h
    simp only [mbsF]
    by_cases e : (!b && decide (pk s n = 93)) = true
    · rw [if_pos e]
      have e2 : pk s n = 93 := by simp at e; exact e.2
      have := pk_in (s := s) (n := n) (by omega)
      exact ⟨this, fun _ => Nat.lt_succ_self n⟩
    · rw [if_neg e]
      cases hm : mbF s n with
      | mk T m =>
        cases T with
        | none => exact ⟨mb_none hn hm, fun h => by cases h⟩
        | some T =>
          have := mb_some hm
          have h2 := ih m (orS S T) false (by omega) (by omega)
          exact ⟨h2.1, fun hh => Nat.lt_trans this.1 (h2.2 hh)⟩
theorem brA_le {s : ByteArray} {n : Nat} (h : n ≤ s.size) : brA s n ≤ s.size := by
  unfold brA
  by_cases e : pk s n = 94
  · rw [if_pos e]; exact pk_in (s := s) (n := n) (by omega)
  · rw [if_neg e]; exact h
theorem brA_ge (s : ByteArray) (n : Nat) : n ≤ brA s n := by unfold brA; split <;> omega
theorem br_le {s : ByteArray} {n : Nat} (h : n ≤ s.size) : (brF s n).2 ≤ s.size ∧ ((brF s n).1.isSome = true → n < (brF s n).2) := by
  have := mbs_le (s := s) (s.size + 1) (brA s n) emptyS true (brA_le h) (by omega)
  have h2 := brA_ge s n
  unfold brF
  cases hm : mbsF s (s.size + 1) (brA s n) emptyS true with
  | mk T m =>
    rw [hm] at this
    cases T with
    | none => exact ⟨this.1, fun h => by cases h⟩
    | some T => exact ⟨this.1, fun _ => Nat.lt_of_le_of_lt h2 (this.2 rfl)⟩
theorem st_le {s : ByteArray} {n : Nat} (h : n < s.size) : (stF s n).2 ≤ s.size ∧ ((stF s n).1.isSome = true → n < (stF s n).2) := by
  unfold stF
  by_cases h1 : pk s n = 46
  · rw [if_pos h1]; exact ⟨h, fun _ => Nat.lt_succ_self n⟩
  · rw [if_neg h1]
    by_cases h2 : pk s n = 91
    · rw [if_pos h2]; have := br_le (s := s) (n := n + 1) h; exact ⟨this.1, fun hh => by have := this.2 hh; omega⟩
    · rw [if_neg h2]
      cases hd : ndF s n with
      | some T => exact ⟨(nd_some hd).1, fun _ => by show n < n + 2; omega⟩
      | none =>
        dsimp only
        cases hr : rbF sgO s n with
        | mk x m =>
          cases x with
          | none => exact ⟨(rb_none (by omega) hr).2, fun h => by cases h⟩
          | some x => have := rb_some hr; exact ⟨this.2.1, fun _ => this.1⟩
theorem qu_le {s : ByteArray} {n : Nat} (h : n ≤ s.size) : n ≤ (quF s n).2.2 ∧ (quF s n).2.2 ≤ s.size := by
  unfold quF
  by_cases h1 : pk s n = 42
  · rw [if_pos h1]; have := pk_in (s := s) (n := n) (by omega); exact ⟨Nat.le_succ n, this⟩
  · rw [if_neg h1]
    by_cases h2 : pk s n = 43
    · rw [if_pos h2]; have := pk_in (s := s) (n := n) (by omega); exact ⟨Nat.le_succ n, this⟩
    · rw [if_neg h2]
      by_cases h3 : pk s n = 63
      · rw [if_pos h3]; have := pk_in (s := s) (n := n) (by omega); exact ⟨Nat.le_succ n, this⟩
      · rw [if_neg h3]; exact ⟨Nat.le_refl n, h⟩
end Go.Proofs.Ytdnofpllmhnacaa
