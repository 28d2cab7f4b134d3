/- Plain mathematics of Normalize. -/
import Derived.Test.YtphkpokoeaagfaaGreatDoorValM
namespace Go.Proofs.YtphkpokoeaagfaaGreatDoor
set_option linter.unusedVariables false

/-- One item behind a normalized list. -/
def normS (out : List It) (x : It) : List It :=
  if x.k = 1 then (if x.t.size = 0 then out else match out.getLast? with | some y => if y.k = 1 then out.dropLast ++ [⟨1, y.t ++ x.t, 0⟩] else out ++ [⟨1, x.t, 0⟩] | none => out ++ [⟨1, x.t, 0⟩]) else out ++ [x]
def norm (l : List It) : List It := l.foldl normS []
theorem norm_snoc (l : List It) (x : It) : norm (l ++ [x]) = normS (norm l) x := by unfold norm; rw [List.foldl_append]; rfl
theorem norm_next (l : List It) (k : Nat) (h : k < l.length) : norm (l.take (k + 1)) = normS (norm (l.take k)) (l[k]'h) := by rw [List.take_succ_eq_append_getElem h, norm_snoc]
/-- What has been gathered, with the run of bytes at its end. -/
def flush (res : List It) (bs : List UInt8) : List It := if bs = [] then res else res ++ [⟨1, ⟨bs.toArray⟩, 0⟩]
theorem flush_nil (res : List It) : flush res [] = res := if_pos rfl
theorem flush_some (res : List It) (bs : List UInt8) (h : bs ≠ []) : flush res bs = res ++ [⟨1, ⟨bs.toArray⟩, 0⟩] := if_neg h
theorem lastText_none (res : List It) (h : lastText res = false) : ∀ x : It, x.k = 1 → x.t.size ≠ 0 → normS res x = res ++ [⟨1, x.t, 0⟩] := fun x h1 h2 => by
  unfold normS
  rw [if_pos h1, if_neg h2]
  unfold lastText at h
  cases hl : res.getLast? with
  | none => rfl
  | some y => rw [hl] at h; simp at h; show (if y.k = 1 then _ else _) = _; rw [if_neg h]
theorem bytes_of (t : ByteArray) : (⟨t.data.toList.toArray⟩ : ByteArray) = t := by apply ByteArray.ext; simp
theorem bytes_nil (t : ByteArray) : t.data.toList = [] ↔ t.size = 0 := by
  have h : t.data.toList.length = t.size := by simp
  constructor
  · intro e; rw [e] at h; simpa using h.symm
  · intro e; rw [e] at h; exact List.length_eq_zero_iff.1 h
theorem bytes_append (bs : List UInt8) (t : ByteArray) : (⟨(bs ++ t.data.toList).toArray⟩ : ByteArray) = (⟨bs.toArray⟩ : ByteArray) ++ t := by
  apply ByteArray.ext
  rw [ByteArray.data_append]
  apply Array.ext'
  simp
/-- A text goes to the run. -/
theorem norm_text (res : List It) (bs : List UInt8) (x : It) (h : lastText res = false) (hk : x.k = 1) : normS (flush res bs) x = flush res (bs ++ x.t.data.toList) := by
  by_cases hb : bs = []
  · subst hb
    rw [flush_nil, List.nil_append]
    by_cases ht : x.t.size = 0
    · rw [(bytes_nil x.t).2 ht, flush_nil]
      unfold normS; rw [if_pos hk, if_pos ht]
    · rw [lastText_none res h x hk ht, flush_some _ _ (fun e => ht ((bytes_nil x.t).1 e)), bytes_of]
  · rw [flush_some _ _ hb]
    by_cases ht : x.t.size = 0
    · rw [(bytes_nil x.t).2 ht, List.append_nil, flush_some _ _ hb]
      unfold normS; rw [if_pos hk, if_pos ht]
    · rw [flush_some _ _ (by simp [hb]), bytes_append]
      unfold normS
      rw [if_pos hk, if_neg ht, List.getLast?_append]
      simp
theorem norm_other (out : List It) (x : It) (hk : x.k ≠ 1) : normS out x = out ++ [x] := by unfold normS; rw [if_neg hk]
theorem lastText_one (res : List It) (x : It) (hk : x.k ≠ 1) : lastText (res ++ [x]) = false := by unfold lastText; simp [hk]
theorem normS_len (out : List It) (x : It) : (normS out x).length ≤ out.length + 1 := by
  unfold normS
  split
  · split
    · omega
    · split
      · split <;> simp
      · simp
  · simp
theorem norm_len (l : List It) : (norm l).length ≤ l.length := by
  have : ∀ k, k ≤ l.length → (norm (l.take k)).length ≤ k := by
    intro k
    induction k with
    | zero => intro _; simp [norm]
    | succ j ih =>
      intro hj
      rw [norm_next l j (by omega)]
      have := normS_len (norm (l.take j)) l[j]
      have := ih (by omega)
      omega
  have := this l.length (Nat.le_refl _)
  rwa [List.take_length] at this
theorem txt_norm (out : List It) (x : It) : txtI (normS out x) ≤ txtI out + x.t.size := by
  unfold normS
  split
  · split
    · omega
    · split
      · rename_i y hy
        split
        · have e : out = out.dropLast ++ [y] := by
            have hne : out ≠ [] := by intro h; rw [h] at hy; cases hy
            rw [List.getLast?_eq_some_getLast hne] at hy
            injection hy with hy
            rw [← hy, List.dropLast_concat_getLast]
          conv => rhs; rw [e]
          rw [txtI_snoc, txtI_snoc]
          simp [ByteArray.size_append]; omega
        · rw [txtI_snoc]; exact Nat.le_refl _
      · rw [txtI_snoc]; exact Nat.le_refl _
  · rw [txtI_snoc]; exact Nat.le_refl _
end Go.Proofs.YtphkpokoeaagfaaGreatDoor
