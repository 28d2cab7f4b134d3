/- Plain mathematics of the contents of tags: the name ahead of the first space, what stands behind it. -/
import Derived.Test.YtphkpokoeaagfaaGreatDoorMath
import Derived.Lib.Bytealg
import Derived.Lib.Strings
namespace Go.Proofs.YtphkpokoeaagfaaGreatDoor
set_option linter.unusedVariables false

def byte (s : ByteArray) (i : Nat) : Int := ((s.data.toList.getD i 0).toNat : Int)
theorem byte_at (s : ByteArray) (i : Nat) (h : i < s.size) : byte s i = (s[i].toNat : Int) := by unfold byte; rw [byte_getD s i h]
theorem byte_range (s : ByteArray) (i : Nat) : 0 ≤ byte s i ∧ byte s i ≤ 255 := by
  unfold byte; have := (s.data.toList.getD i 0).toNat_lt; omega
theorem str_ne {a b : ByteArray} (h : a ≠ b) : (a == b) = false := by
  cases hc : (a == b)
  · rfl
  · exact absurd ((MapKept.bytes_beq a b).1 hc) h
theorem str_eq {a b : ByteArray} (h : a = b) : (a == b) = true := (MapKept.bytes_beq a b).2 h
theorem toList_size (a : ByteArray) : a.toList.length = a.size := by rw [Go.ByteArray.toList_eq a]; simp
theorem str_some {a : ByteArray} (h : a.size ≠ 0) : a.toList.isEmpty = false := by
  have := toList_size a
  cases ha : a.toList
  · rw [ha] at this; simp at this; omega
  · rfl
theorem str_none {a : ByteArray} (h : a.size = 0) : a.toList.isEmpty = true := by
  have := toList_size a
  cases ha : a.toList
  · rfl
  · rw [ha] at this; simp at this; omega
theorem strl_eq {a b : ByteArray} (h : a = b) : (a.toList == b.toList) = true := by rw [h]; simp
theorem strl_ne {a b : ByteArray} (h : a ≠ b) : (a.toList == b.toList) = false := by
  rw [beq_eq_false_iff_ne]
  intro e
  apply h
  rw [Go.ByteArray.toList_eq a, Go.ByteArray.toList_eq b] at e
  exact ByteArray.ext (Array.ext' e)
/-- Where the first space stands, or how long the string is. -/
def cutN (s : ByteArray) : Nat := (s.data.toList.takeWhile fun c => c != 32).length
def nameB (s : ByteArray) : ByteArray := s.extract 0 (cutN s)
def restB (s : ByteArray) : ByteArray := s.extract (cutN s + 1) s.size
/-- May a byte stand behind the name? -/
def conB (n : Int) : Bool := decide (32 ≤ n ∧ n ≤ 126 ∧ n ≠ 60 ∧ n ≠ 62 ∧ n ≠ 123 ∧ n ≠ 125)

theorem takeWhile_len (l : List UInt8) : (l.takeWhile fun c => c != 32).length ≤ l.length := by
  induction l with
  | nil => simp
  | cons x t ih => rw [List.takeWhile_cons]; split <;> simp; omega
theorem takeWhile_below (l : List UInt8) : ∀ i, i < (l.takeWhile fun c => c != 32).length → l.getD i 0 ≠ 32 := by
  induction l with
  | nil => intro i h; simp at h
  | cons x t ih =>
    intro i h
    rw [List.takeWhile_cons] at h
    split at h
    · rename_i hx
      cases i with
      | zero => simpa using hx
      | succ j => simp at h; have := ih j h; simpa using this
    · simp at h
theorem takeWhile_stop (l : List UInt8) : (l.takeWhile fun c => c != 32).length < l.length → l.getD (l.takeWhile fun c => c != 32).length 0 = 32 := by
  induction l with
  | nil => intro h; simp at h
  | cons x t ih =>
    intro h
    rw [List.takeWhile_cons] at h ⊢
    split at h
    · rename_i hx; simp at h; rw [if_pos hx]; simpa using ih h
    · rename_i hx; rw [if_neg hx]; simpa using hx
theorem cutN_le (s : ByteArray) : cutN s ≤ s.size := by unfold cutN; have := takeWhile_len s.data.toList; simpa using this
theorem cutN_below (s : ByteArray) (i : Nat) (h : i < cutN s) : byte s i ≠ 32 := by
  have := takeWhile_below s.data.toList i h
  unfold byte; intro he; apply this; apply UInt8.toNat_inj.1; show _ = 32; omega
theorem cutN_stop (s : ByteArray) (h : cutN s < s.size) : byte s (cutN s) = 32 := by
  have := takeWhile_stop s.data.toList (by simpa [cutN] using h)
  unfold byte; unfold cutN; rw [this]; rfl
/-- The first space is where nothing ahead is one. -/
theorem cutN_eq (s : ByteArray) (k : Nat) (hk : k < s.size) (h : ∀ i, i < k → byte s i ≠ 32) (hb : byte s k = 32) : cutN s = k := by
  rcases Nat.lt_trichotomy (cutN s) k with hlt | he | hgt
  · exact absurd (cutN_stop s (by omega)) (h _ hlt)
  · exact he
  · exact absurd hb (cutN_below s k hgt)
theorem cutN_all (s : ByteArray) (h : ∀ i, i < s.size → byte s i ≠ 32) : cutN s = s.size := by
  have := cutN_le s
  rcases Nat.lt_or_ge (cutN s) s.size with hlt | hge
  · exact absurd (cutN_stop s hlt) (h _ hlt)
  · omega
theorem indexByte_cut (l : List UInt8) : Lib.indexByte l 32 = if (l.takeWhile fun c => c != 32).length = l.length then -1 else ((l.takeWhile fun c => c != 32).length : Int) := by
  induction l with
  | nil => rfl
  | cons x t ih =>
    rw [Lib.indexByte, List.takeWhile_cons]
    by_cases hx : x = 32
    · subst hx; simp
    · have h1 : (x == 32) = false := by simpa using hx
      have h2 : (x != 32) = true := by simpa using hx
      rw [h1, h2, ih]
      by_cases ht : (t.takeWhile fun c => c != 32).length = t.length
      · simp [ht]
      · simp [ht]
theorem index_cut (s : ByteArray) : Lib.indexByte s.data.toList 32 = if cutN s = s.size then -1 else (cutN s : Int) := by
  rw [indexByte_cut]; unfold cutN; simp
theorem nameB_size (s : ByteArray) : (nameB s).size = cutN s := by unfold nameB; have := cutN_le s; simp; omega
theorem restB_size (s : ByteArray) : (restB s).size = s.size - (cutN s + 1) := by unfold restB; simp
theorem extract_byte (s : ByteArray) (a b i : Nat) (hb : b ≤ s.size) (h : a + i < b) : byte (s.extract a b) i = byte s (a + i) := by
  have h1 : i < (s.extract a b).size := by simp; omega
  rw [byte_at _ i h1, byte_at s (a + i) (by omega)]
  rw [ByteArray.getElem_extract]
theorem nameB_byte (s : ByteArray) (i : Nat) (h : i < cutN s) : byte (nameB s) i = byte s i := by
  unfold nameB; rw [extract_byte s 0 (cutN s) i (cutN_le s) (by omega)]; simp
theorem restB_byte (s : ByteArray) (i : Nat) (h : cutN s + 1 + i < s.size) : byte (restB s) i = byte s (cutN s + 1 + i) := by
  unfold restB; exact extract_byte s _ _ i (Nat.le_refl _) h
theorem nameB_all (s : ByteArray) (h : cutN s = s.size) : nameB s = s := by unfold nameB; rw [h]; exact ByteArray.extract_zero_size

/-- Can a string be the content of a tag? -/
def isCon (s : ByteArray) : Bool := decide (s.size ≤ 64) && isNm (nameB s) && (decide (cutN s = s.size) || decide (cutN s + 1 < s.size)) &&
  (List.range s.size).all (fun i => decide (i ≤ cutN s) || conB (byte s i)) && (decide (s.size ≤ cutN s + 1) || decide (byte s (s.size - 1) ≠ 47))
structure Con (s : ByteArray) : Prop where
  size : s.size ≤ 64
  name : isNm (nameB s) = true
  some : cutN s = s.size ∨ cutN s + 1 < s.size
  all : ∀ i, i < s.size → cutN s < i → conB (byte s i) = true
  last : cutN s + 1 < s.size → byte s (s.size - 1) ≠ 47
theorem isCon_iff (s : ByteArray) : isCon s = true ↔ Con s := by
  unfold isCon
  simp only [Bool.and_eq_true, Bool.or_eq_true, decide_eq_true_eq, List.all_eq_true, List.mem_range]
  constructor
  · rintro ⟨⟨⟨⟨h1, h2⟩, h3⟩, h4⟩, h5⟩
    exact ⟨h1, h2, h3, fun i hi hc => (h4 i hi).resolve_left (by omega), fun h => h5.resolve_left (by omega)⟩
  · rintro ⟨h1, h2, h3, h4, h5⟩
    refine ⟨⟨⟨⟨h1, h2⟩, h3⟩, fun i hi => ?_⟩, ?_⟩
    · rcases Nat.lt_or_ge (cutN s) i with h | h
      · exact .inr (h4 i hi h)
      · exact .inl h
    · rcases Nat.lt_or_ge (cutN s + 1) s.size with h | h
      · exact .inr (h5 h)
      · exact .inl h
theorem isCon_no (s : ByteArray) (h : ¬ Con s) : isCon s = false := by
  cases hc : isCon s
  · rfl
  · exact absurd ((isCon_iff s).1 hc) h

/-- The bytes of a name. -/
theorem isNm_bytes (s : ByteArray) (h : isNm s = true) : 1 ≤ s.size ∧ s.size ≤ 24 ∧ ∀ i, i < s.size → nmB (byte s i) = true := by
  unfold isNm at h
  simp at h
  obtain ⟨⟨h1, h2⟩, h3⟩ := h
  refine ⟨h1, h2, fun i hi => ?_⟩
  have := h3 i hi
  unfold nmAt at this
  split at this
  · unfold loB at this; simp at this; unfold nmB byte; simp; left; exact this
  · exact this
theorem nmB_con (n : Int) (h : nmB n = true) : conB n = true ∧ n ≠ 47 ∧ n ≠ 32 := by
  unfold nmB at h; simp at h; unfold conB; simp; omega
/-- The reference looks at all bytes. -/
theorem con_all (s : ByteArray) (h : Con s) : ∀ i, i < s.size → conB (byte s i) = true := fun i hi => by
  obtain ⟨_, _, hn⟩ := isNm_bytes _ h.name
  rcases Nat.lt_trichotomy i (cutN s) with hlt | he | hgt
  · have := hn i (by rw [nameB_size]; exact hlt)
    rw [nameB_byte s i hlt] at this
    exact (nmB_con _ this).1
  · rw [he, cutN_stop s (by omega)]; rfl
  · exact h.all i hi hgt
theorem con_last (s : ByteArray) (h : Con s) : byte s (s.size - 1) ≠ 47 := by
  obtain ⟨h1, _, hn⟩ := isNm_bytes _ h.name
  rw [nameB_size] at h1
  have := cutN_le s
  rcases h.some with he | hs
  · have := hn (s.size - 1) (by rw [nameB_size]; omega)
    rw [nameB_byte s _ (by omega)] at this
    exact (nmB_con _ this).2.1
  · exact h.last hs
theorem con_of_ref (s : ByteArray) (h1 : s.size ≤ 64) (h2 : isNm (nameB s) = true) (h3 : cutN s = s.size ∨ cutN s + 1 < s.size) (h4 : ∀ i, i < s.size → conB (byte s i) = true) (h5 : byte s (s.size - 1) ≠ 47) : Con s :=
  ⟨h1, h2, h3, fun i hi _ => h4 i hi, fun _ => h5⟩
theorem con_pos (s : ByteArray) (h : isNm (nameB s) = true) : 1 ≤ s.size := by
  have := (isNm_bytes _ h).1; rw [nameB_size] at this; have := cutN_le s; omega
theorem hasSuffix_one (s : ByteArray) (c : UInt8) : Lib.hasSuffix s.data.toList [c] = (decide (1 ≤ s.size) && decide (byte s (s.size - 1) = (c.toNat : Int))) := by
  rw [Bool.eq_iff_iff]
  unfold Lib.hasSuffix
  rw [List.isSuffixOf_iff_suffix]
  have hl : s.data.toList.length = s.size := by simp
  simp only [Bool.and_eq_true, decide_eq_true_eq]
  constructor
  · rintro ⟨t, ht⟩
    have h1 : s.size = t.length + 1 := by rw [← hl, ← ht]; simp
    refine ⟨by omega, ?_⟩
    unfold byte
    rw [← ht, h1]
    simp
  · rintro ⟨h1, h2⟩
    refine ⟨s.data.toList.take (s.size - 1), ?_⟩
    have h3 : s.data.toList.getD (s.size - 1) 0 = c := by
      apply UInt8.toNat_inj.1
      unfold byte at h2
      omega
    conv => rhs; rw [← List.take_append_drop (s.size - 1) s.data.toList]
    congr 1
    rw [List.drop_eq_getElem_cons (by rw [hl]; omega)]
    rw [List.getD_eq_getElem?_getD, List.getElem?_eq_getElem (by rw [hl]; omega)] at h3
    have h3' : s.data.toList[s.size - 1]'(by rw [hl]; omega) = c := by simpa using h3
    rw [h3', List.drop_eq_nil_of_le (by rw [hl]; omega)]
end Go.Proofs.YtphkpokoeaagfaaGreatDoor
