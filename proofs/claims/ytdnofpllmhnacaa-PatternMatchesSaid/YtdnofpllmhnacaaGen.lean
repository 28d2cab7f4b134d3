/- What the generators of patterns and strings make, as functions. -/
import Derived.Test.YtdnofpllmhnacaaMod
namespace Go.Proofs.Ytdnofpllmhnacaa
set_option linter.unusedVariables false
set_option linter.unusedSimpArgs false

/-- The number drawn at place m below n. -/
def nx (L : List Int) (m n : Nat) : Nat := ((L.getD m 0) % (n : Int)).toNat
theorem nx_lt (L : List Int) (m n : Nat) (h : 0 < n) : nx L m n < n := by
  have h1 := Int.emod_lt_of_pos (L.getD m 0) (show (0 : Int) < n by omega)
  have h2 := Int.emod_nonneg (L.getD m 0) (show (n : Int) ≠ 0 by omega)
  unfold nx; omega
theorem nx_eq (L : List Int) (m n : Nat) (h : 0 < n) : (nx L m n : Int) = (L.getD m 0) % (n : Int) := by
  have h2 := Int.emod_nonneg (L.getD m 0) (show (n : Int) ≠ 0 by omega)
  unfold nx; omega
/-- The bytes of the generators. -/
def tbL : List Nat := [97, 98, 32, 46, 33, 65, 49, 60]
def tb (j : Nat) : Nat := tbL[j]!
theorem tb_lt : ∀ j : Fin 8, tb j.val < 256 := by decide
theorem tb_lt' {j : Nat} (h : j < 8) : tb j < 256 := tb_lt ⟨j, h⟩
/-- The set behind k bytes. -/
def bsF (L : List Int) (m : Nat) : Nat → BSet
  | 0 => emptyS
  | k + 1 => addS (bsF L m k) (tb (nx L (m + k) 8))
/-- The atom that begins at place m; how many bytes it has. -/
def atK (L : List Int) (m : Nat) : Nat := nx L (m + 2) 4 + 1
def atF (L : List Int) (m : Nat) : At := ⟨bsF L (m + 3) (atK L m), (nx L m 2 : Int), decide (nx L (m + 1) 2 = 1)⟩
/-- i atoms, and the place behind them. -/
def gsF (L : List Int) : Nat → List At × Nat
  | 0 => ([], 1)
  | i + 1 => ((gsF L i).1 ++ [atF L (gsF L i).2], (gsF L i).2 + 3 + atK L (gsF L i).2)
/-- The pattern that is made of numbers. -/
def mkF (L : List Int) : List At := (gsF L (nx L 0 6)).1
theorem gs_len (L : List Int) (i : Nat) : (gsF L i).1.length = i := by
  induction i with
  | zero => rfl
  | succ i ih => simp [gsF, ih]
theorem atK_le (L : List Int) (m : Nat) : atK L m ≤ 4 := by have := nx_lt L (m + 2) 4 (by omega); unfold atK; omega
theorem gs_at (L : List Int) (i : Nat) : (gsF L i).2 ≤ 1 + 7 * i := by
  induction i with
  | zero => simp [gsF]
  | succ i ih => have := atK_le L (gsF L i).2; simp only [gsF]; omega
theorem mk_len (L : List Int) : (mkF L).length ≤ 5 := by
  have := nx_lt L 0 6 (by omega)
  unfold mkF; rw [gs_len]; omega
/-- The string that is made of numbers: k bytes of it. -/
def txF (L : List Int) : Nat → List Nat
  | 0 => []
  | k + 1 => txF L k ++ [tb (nx L k 8)]
def txN (L : List Int) : Nat := min L.length 24
def tx (L : List Int) : List Nat := txF L (txN L)
theorem tx_len (L : List Int) (k : Nat) : (txF L k).length = k := by
  induction k with
  | zero => rfl
  | succ k ih => simp [txF, ih]
theorem tx_lt (L : List Int) (k : Nat) : ∀ c ∈ txF L k, c < 256 := by
  induction k with
  | zero => intro c hc; cases hc
  | succ k ih =>
    intro c hc
    simp only [txF, List.mem_append, List.mem_singleton] at hc
    rcases hc with hc | rfl
    · exact ih c hc
    · exact tb_lt' (nx_lt L k 8 (by omega))
end Go.Proofs.Ytdnofpllmhnacaa
