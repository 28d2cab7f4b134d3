/- The runs of a string: plain mathematics. -/
import Derived.Test.YtofnloapcfhmkaaMath
namespace Go.Proofs.Ytofnloapcfhmkaa

/-- The class of byte i. -/
def clA (s : ByteArray) (i : Nat) : Int := cls ((s.data.toList.getD i 0).toNat : Int)
theorem clA_at (s : ByteArray) (i : Nat) (h : i < s.size) : clA s i = cls (s[i].toNat : Int) := by unfold clA; rw [byte_getD s i h]
/-- Behind the first k bytes: the runs that are closed, and where the open one begins. -/
def pf (s : ByteArray) : Nat → List (Nat × Nat) × Nat
  | 0 => ([], 0)
  | 1 => ([], 0)
  | i + 2 => if clA s (i + 1) = clA s i then pf s (i + 1) else ((pf s (i + 1)).1 ++ [((pf s (i + 1)).2, i + 1)], i + 1)
/-- The runs of the first k bytes. -/
def rn (s : ByteArray) (k : Nat) : List (Nat × Nat) := if k = 0 then [] else (pf s k).1 ++ [((pf s k).2, k)]
def runsOf (s : ByteArray) : List (Nat × Nat) := rn s s.size

theorem pf_same (s : ByteArray) (k : Nat) (hk : 1 ≤ k) (h : clA s k = clA s (k - 1)) : pf s (k + 1) = pf s k := by
  obtain ⟨j, rfl⟩ : ∃ j, k = j + 1 := ⟨k - 1, by omega⟩
  rw [show j + 1 - 1 = j from rfl] at h
  conv => lhs; unfold pf
  rw [if_pos h]
theorem pf_new (s : ByteArray) (k : Nat) (hk : 1 ≤ k) (h : ¬ clA s k = clA s (k - 1)) : pf s (k + 1) = ((pf s k).1 ++ [((pf s k).2, k)], k) := by
  obtain ⟨j, rfl⟩ : ∃ j, k = j + 1 := ⟨k - 1, by omega⟩
  rw [show j + 1 - 1 = j from rfl] at h
  conv => lhs; unfold pf
  rw [if_neg h]
/-- The open run begins before k, and has one class. -/
theorem pf_open (s : ByteArray) (k : Nat) (hk : 1 ≤ k) : (pf s k).2 < k ∧ ∀ j, (pf s k).2 ≤ j → j < k → clA s j = clA s (pf s k).2 := by
  induction k with
  | zero => omega
  | succ k ih =>
    by_cases h0 : k = 0
    · subst h0
      refine ⟨by show (0 : Nat) < 1; omega, fun j h1 h2 => ?_⟩
      obtain rfl : j = 0 := by omega
      rfl
    · obtain ⟨i1, i2⟩ := ih (by omega)
      by_cases h : clA s k = clA s (k - 1)
      · rw [pf_same s k (by omega) h]
        refine ⟨by omega, fun j h1 h2 => ?_⟩
        by_cases e : j = k
        · rw [e, h]; exact i2 (k - 1) (by omega) (by omega)
        · exact i2 j h1 (by omega)
      · rw [pf_new s k (by omega) h]
        refine ⟨by show k < k + 1; omega, fun j h1 h2 => ?_⟩
        obtain rfl : j = k := by have : k ≤ j := h1; omega
        rfl
theorem pf_last (s : ByteArray) (k : Nat) (hk : 1 ≤ k) : clA s (pf s k).2 = clA s (k - 1) := ((pf_open s k hk).2 (k - 1) (by have := (pf_open s k hk).1; omega) (by omega)).symm
theorem pf_len (s : ByteArray) (k : Nat) : (pf s k).1.length ≤ k := by
  induction k with
  | zero => exact Nat.le_refl _
  | succ k ih =>
    by_cases h0 : k = 0
    · subst h0; exact Nat.zero_le _
    · by_cases h : clA s k = clA s (k - 1)
      · rw [pf_same s k (by omega) h]; omega
      · rw [pf_new s k (by omega) h]; simp; exact ih
/-- A list of ranges as memory holds it. -/
def rcells (l : List (Nat × Nat)) : List Value := l.flatMap fun p => [.int .i64 (p.1 : Int), .int .i64 (p.2 : Int)]
theorem rcells_snoc (l : List (Nat × Nat)) (a b : Nat) : rcells (l ++ [(a, b)]) = rcells l ++ [.int .i64 (a : Int), .int .i64 (b : Int)] := by
  unfold rcells; rw [List.flatMap_append]; rfl
theorem rcells_len (l : List (Nat × Nat)) : (rcells l).length = l.length * 2 := by
  induction l with
  | nil => rfl
  | cons p l ih => show (Value.int .i64 (p.1 : Int) :: Value.int .i64 (p.2 : Int) :: rcells l).length = _; simp [ih]; omega
theorem rcells_set (l : List (Nat × Nat)) (a b c : Nat) : (rcells (l ++ [(a, b)])).set (l.length * 2 + 1) (.int .i64 (c : Int)) = rcells (l ++ [(a, c)]) := by
  rw [rcells_snoc, rcells_snoc, List.set_append, rcells_len, if_neg (by omega)]
  rw [show l.length * 2 + 1 - l.length * 2 = 1 by omega]; rfl
theorem rcells_at (l : List (Nat × Nat)) (i : Nat) (h : i < l.length) : (rcells l)[2 * i]? = some (.int .i64 ((l[i]).1 : Int)) ∧ (rcells l)[2 * i + 1]? = some (.int .i64 ((l[i]).2 : Int)) := by
  induction l generalizing i with
  | nil => simp at h
  | cons p l ih =>
    have e : rcells (p :: l) = Value.int .i64 (p.1 : Int) :: Value.int .i64 (p.2 : Int) :: rcells l := rfl
    cases i with
    | zero => rw [e]; exact ⟨rfl, rfl⟩
    | succ i =>
      have h' : i < l.length := by simpa using h
      rw [e, show 2 * (i + 1) = 2 * i + 2 by omega, show 2 * i + 2 + 1 = 2 * i + 1 + 2 by omega]
      simpa using ih i h'
end Go.Proofs.Ytofnloapcfhmkaa
