/- What Parse makes of a range in brackets. -/
import Derived.Test.YtdnofpllmhnacaaSeW
namespace Go.Proofs.Ytdnofpllmhnacaa
set_option linter.unusedVariables false
set_option linter.unusedSimpArgs false
set_option maxRecDepth 100000

theorem pk_mkB (l : List Nat) (h : ∀ c ∈ l, c < 256) (i : Nat) : pk (mkB l) i = l.getD i 0 := by
  unfold pk
  by_cases hi : i < l.length
  · rw [dif_pos (by rw [mkB_size]; exact hi), List.getD_eq_getElem?_getD, List.getElem?_eq_getElem hi, Option.getD_some]
    have h2 := byt_mkB l h
    have h3 : (byt (mkB l))[i]? = some (((mkB l)[i]'(by rw [mkB_size]; exact hi)).toNat) := by
      unfold byt
      rw [List.getElem?_map]
      rw [List.getElem?_eq_getElem (by simp [mkB]; exact hi)]
      rfl
    rw [h2, List.getElem?_eq_getElem hi] at h3
    exact (Option.some.inj h3).symm
  · rw [dif_neg (by rw [mkB_size]; exact hi), List.getD_eq_getElem?_getD, List.getElem?_eq_none (by omega)]; rfl
theorem letter_ok {sg : List Nat} {s : ByteArray} {n b : Nat} (h : pk s n = b) (h1 : 97 ≤ b) (h2 : b ≤ 122) : rbF sg s n = (some b, n + 1) := by
  have hc : cls b = 4 := by unfold cls; rw [if_neg (by omega), if_neg (by omega), if_neg (by omega), if_pos (by omega)]
  have ha : rbA s n = n := by unfold rbA; rw [if_neg (by omega)]
  unfold rbF
  rw [ha, h, if_pos]
  unfold okB
  rw [hc, if_neg (by decide), if_pos (by decide), decide_eq_false (by omega)]; rfl
theorem letter_nd {s : ByteArray} {n b : Nat} (h : pk s n = b) (h1 : 97 ≤ b) : ndF s n = none := by
  unfold ndF; rw [if_neg (by omega)]
/-- A range at n, and what ends behind it. -/
theorem range_mb {s : ByteArray} {n b1 b2 : Nat} (h1 : pk s n = b1) (h2 : pk s (n + 1) = 45) (h3 : pk s (n + 2) = b2) (l1 : 97 ≤ b1) (u1 : b1 ≤ 122) (l2 : 97 ≤ b2) (u2 : b2 ≤ 122) :
    mbF s n = if b2 < b1 then (none, n + 2) else (some (rangeS emptyS b1 b2), n + 3) := by
  unfold mbF
  rw [letter_nd h1 l1, letter_ok h1 l1 u1]
  dsimp only
  rw [if_pos h2, letter_ok (n := n + 1 + 1) h3 l2 u2]
theorem range_mbs {s : ByteArray} {n b1 b2 f : Nat} (h1 : pk s n = b1) (h2 : pk s (n + 1) = 45) (h3 : pk s (n + 2) = b2) (h4 : pk s (n + 3) = 93) (l1 : 97 ≤ b1) (u1 : b1 ≤ 122) (l2 : 97 ≤ b2) (u2 : b2 ≤ 122) :
    mbsF s (f + 2) n emptyS true = if b2 < b1 then (none, n + 2) else (some (orS emptyS (rangeS emptyS b1 b2)), n + 4) := by
  rw [mbsF, if_neg (by simp), range_mb h1 h2 h3 l1 u1 l2 u2]
  by_cases hb : b2 < b1
  · rw [if_pos hb, if_pos hb]
  · rw [if_neg hb, if_neg hb]
    dsimp only
    rw [mbsF, if_pos (by simp [h4])]
theorem parse_one {s : ByteArray} {S : BSet} (hs : 0 < s.size) (h1 : stF s 0 = (some S, s.size)) : parseF s = ([⟨S, 1, false⟩], 0, 0) := by
  have hq : quF s s.size = (1, false, s.size) := by
    unfold quF
    rw [pk_end (Nat.le_refl _)]; rfl
  unfold parseF
  rw [prsF, if_neg (by omega), if_neg (by simp), h1]
  dsimp only
  rw [hq]
  dsimp only
  obtain ⟨f, hf⟩ : ∃ f, s.size = f + 1 := ⟨s.size - 1, by omega⟩
  rw [hf, prsF, if_pos (by omega)]; rfl
theorem parse_bad {s : ByteArray} {m : Nat} (hs : 0 < s.size) (h1 : stF s 0 = (none, m)) : parseF s = ([], m, 2) := by
  unfold parseF
  rw [prsF, if_neg (by omega), if_neg (by simp), h1]
def rgS (b1 b2 : Nat) : ByteArray := mkB [91, b1, 45, b2, 93]
def ngS (b1 b2 : Nat) : ByteArray := mkB [91, 94, b1, 45, b2, 93]
section
variable {b1 b2 : Nat} (l1 : 97 ≤ b1) (u1 : b1 ≤ 122) (l2 : 97 ≤ b2) (u2 : b2 ≤ 122)
include l1 u1 l2 u2
theorem rg_parse : parseF (rgS b1 b2) = if b2 < b1 then ([], 3, 2) else ([⟨orS emptyS (rangeS emptyS b1 b2), 1, false⟩], 0, 0) := by
  have hp := pk_mkB [91, b1, 45, b2, 93] (by simp; omega)
  have hz : (rgS b1 b2).size = 5 := mkB_size _
  have h := range_mbs (b1 := b1) (b2 := b2) (s := rgS b1 b2) (n := 1) (f := 4) (hp 1) (hp 2) (hp 3) (hp 4) l1 u1 l2 u2
  have hA : brA (rgS b1 b2) 1 = 1 := by unfold brA; rw [show pk (rgS b1 b2) 1 = b1 from hp 1, if_neg (by omega)]
  have hst : stF (rgS b1 b2) 0 = brF (rgS b1 b2) 1 := by unfold stF; rw [show pk (rgS b1 b2) 0 = 91 from hp 0, if_neg (by decide), if_pos rfl]
  have hbr : brF (rgS b1 b2) 1 = if b2 < b1 then (none, 3) else (some (orS emptyS (rangeS emptyS b1 b2)), 5) := by
    unfold brF
    rw [hA, hz, h, show pk (rgS b1 b2) 1 = b1 from hp 1]
    by_cases hb : b2 < b1
    · simp only [if_pos hb]
    · simp only [if_neg hb]
      rw [if_neg (by omega)]
  by_cases hb : b2 < b1
  · rw [if_pos hb] at hbr ⊢
    exact parse_bad (by omega) (hst.trans hbr)
  · rw [if_neg hb] at hbr ⊢
    exact parse_one (by omega) (by rw [hz]; exact hst.trans hbr)
theorem ng_parse : parseF (ngS b1 b2) = if b2 < b1 then ([], 4, 2) else ([⟨notS (orS emptyS (rangeS emptyS b1 b2)), 1, false⟩], 0, 0) := by
  have hp := pk_mkB [91, 94, b1, 45, b2, 93] (by simp; omega)
  have hz : (ngS b1 b2).size = 6 := mkB_size _
  have h := range_mbs (b1 := b1) (b2 := b2) (s := ngS b1 b2) (n := 2) (f := 5) (hp 2) (hp 3) (hp 4) (hp 5) l1 u1 l2 u2
  have hA : brA (ngS b1 b2) 1 = 2 := by unfold brA; rw [show pk (ngS b1 b2) 1 = 94 from hp 1, if_pos rfl]
  have hst : stF (ngS b1 b2) 0 = brF (ngS b1 b2) 1 := by unfold stF; rw [show pk (ngS b1 b2) 0 = 91 from hp 0, if_neg (by decide), if_pos rfl]
  have hbr : brF (ngS b1 b2) 1 = if b2 < b1 then (none, 4) else (some (notS (orS emptyS (rangeS emptyS b1 b2))), 6) := by
    unfold brF
    rw [hA, hz, h, show pk (ngS b1 b2) 1 = 94 from hp 1]
    by_cases hb : b2 < b1
    · simp only [if_pos hb]
    · simp only [if_neg hb, if_true]
  by_cases hb : b2 < b1
  · rw [if_pos hb] at hbr ⊢
    exact parse_bad (by omega) (hst.trans hbr)
  · rw [if_neg hb] at hbr ⊢
    exact parse_one (by omega) (by rw [hz]; exact hst.trans hbr)
end
theorem range_in (b1 b2 c : Nat) : orS emptyS (rangeS emptyS b1 b2) c = (decide (b1 ≤ c) && decide (c ≤ b2)) := by
  unfold orS rangeS emptyS
  by_cases h1 : b1 ≤ c <;> by_cases h2 : c ≤ b2 <;> simp [h1, h2]
end Go.Proofs.Ytdnofpllmhnacaa
