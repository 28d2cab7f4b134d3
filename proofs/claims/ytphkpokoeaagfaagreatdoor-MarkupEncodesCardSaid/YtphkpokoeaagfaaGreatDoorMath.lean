/- Plain mathematics of package class: letters, lower case, names; nothing of the program. -/
import Derived.WalkKit
namespace Go.Proofs.YtphkpokoeaagfaaGreatDoor

/-- Is a byte a great letter? a small one? -/
def upB (n : Int) : Bool := decide (65 ≤ n ∧ n ≤ 90)
def loB (n : Int) : Bool := decide (97 ≤ n ∧ n ≤ 122)
/-- May a byte stand behind the first one of a name? -/
def nmB (n : Int) : Bool := decide ((97 ≤ n ∧ n ≤ 122) ∨ (48 ≤ n ∧ n ≤ 57) ∨ n = 45)
/-- The class of a byte. -/
def cls (n : Int) : Int := if n = 9 ∨ n = 10 ∨ n = 13 ∨ n = 32 then 2 else if n < 32 ∨ n = 127 then 1 else if 48 ≤ n ∧ n ≤ 57 then 3 else if (65 ≤ n ∧ n ≤ 90) ∨ (97 ≤ n ∧ n ≤ 122) ∨ 128 ≤ n then 4 else 5

/-- A byte's small letter, and a string's. -/
def lowU (c : UInt8) : UInt8 := if 65 ≤ c.toNat ∧ c.toNat ≤ 90 then c + 32 else c
def low (s : ByteArray) : ByteArray := ⟨s.data.map lowU⟩

theorem lowU_toNat (c : UInt8) : (lowU c).toNat = if 65 ≤ c.toNat ∧ c.toNat ≤ 90 then c.toNat + 32 else c.toNat := by
  unfold lowU
  split
  · rw [UInt8.toNat_add, show (32 : UInt8).toNat = 32 from rfl]; omega
  · rfl
theorem low_size (s : ByteArray) : (low s).size = s.size := by
  show (s.data.map lowU).size = s.data.size
  simp
theorem low_at (s : ByteArray) (i : Nat) (h : i < s.size) : (low s)[i]'(by rw [low_size]; exact h) = lowU s[i] := by
  show (s.data.map lowU)[i]'(by simpa using h) = lowU (s.data[i]'h)
  exact Array.getElem_map ..
theorem low_append (s t : ByteArray) : low (s ++ t) = low s ++ low t := by
  apply ByteArray.ext
  show (s ++ t).data.map lowU = (low s ++ low t).data
  rw [ByteArray.data_append, ByteArray.data_append]
  simp [low]
theorem lowU_lowU (c : UInt8) : lowU (lowU c) = lowU c := by
  apply UInt8.toNat_inj.1
  rw [lowU_toNat (lowU c)]
  have := lowU_toNat c
  split at this <;> rw [this] <;> split <;> omega
theorem low_low (s : ByteArray) : low (low s) = low s := by
  apply ByteArray.ext
  show (s.data.map lowU).map lowU = s.data.map lowU
  rw [Array.map_map]
  congr 1
  funext c
  exact lowU_lowU c

/-- May byte i of s stand where it stands in a name? -/
def nmAt (s : ByteArray) (i : Nat) : Bool := if i = 0 then loB ((s.data.toList.getD i 0).toNat : Int) else nmB ((s.data.toList.getD i 0).toNat : Int)
def isNm (s : ByteArray) : Bool := decide (1 ≤ s.size) && decide (s.size ≤ 24) && (List.range s.size).all (nmAt s)
theorem byte_getD (s : ByteArray) (i : Nat) (h : i < s.size) : s.data.toList.getD i 0 = s[i] := by
  have h' : i < s.data.toList.length := by simpa using h
  rw [List.getD_eq_getElem?_getD, List.getElem?_eq_getElem h']
  rfl
theorem nmAt_zero (s : ByteArray) (h : 0 < s.size) : nmAt s 0 = loB (s[0].toNat : Int) := by unfold nmAt; rw [if_pos rfl, byte_getD s 0 h]
theorem nmAt_pos (s : ByteArray) (i : Nat) (h : i < s.size) (hi : 0 < i) : nmAt s i = nmB (s[i].toNat : Int) := by unfold nmAt; rw [if_neg (by omega), byte_getD s i h]
theorem isNm_yes (s : ByteArray) (h1 : 1 ≤ s.size) (h2 : s.size ≤ 24) (h : ∀ i, i < s.size → nmAt s i = true) : isNm s = true := by
  unfold isNm; simp [h1, h2]; exact h
theorem isNm_no (s : ByteArray) (i : Nat) (h : i < s.size) (hi : nmAt s i = false) : isNm s = false := by
  unfold isNm
  have : (List.range s.size).all (nmAt s) = false := by
    rw [List.all_eq_false]; exact ⟨i, by simpa using h, by simp [hi]⟩
  simp [this]
theorem isNm_short (s : ByteArray) (h : s.size < 1) : isNm s = false := by unfold isNm; simp; omega
theorem isNm_long (s : ByteArray) (h : 24 < s.size) : isNm s = false := by unfold isNm; simp; omega
end Go.Proofs.YtphkpokoeaagfaaGreatDoor
