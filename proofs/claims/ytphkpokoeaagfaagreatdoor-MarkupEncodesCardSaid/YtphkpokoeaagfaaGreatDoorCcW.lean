/- The walk of ItemConcats. -/
import Derived.Test.YtphkpokoeaagfaaGreatDoorKno
import Derived.Test.YtphkpokoeaagfaaGreatDoorPln
import Derived.Test.YtphkpokoeaagfaaGreatDoorNrq
namespace Go.Proofs.YtphkpokoeaagfaaGreatDoor
open Go.ChangeShapes Go.WideShapes Go.ChangeAt Go.RowKit
set_option linter.unusedVariables false
set_option maxRecDepth 100000

/-- A fragment of at most n times what is few. -/
structure Sm (n : Nat) (l : List It) : Prop where
  len : l.length ≤ 60 * n
  txt : txtI l ≤ 2000 * n
theorem Sm.of {l : List It} (h : fewB l = true) : Sm 1 l := by
  unfold fewB at h; rw [Bool.and_eq_true] at h
  exact ⟨by have := of_decide_eq_true h.1; omega, by have := of_decide_eq_true h.2; omega⟩
theorem lenI_txt (l : List It) : lenI l ≤ txtI l + l.length := by
  induction l with
  | nil => exact Nat.le_refl _
  | cons x t ih =>
    show wid x + lenI t ≤ x.t.size + txtI t + (t.length + 1)
    have : wid x ≤ x.t.size + 1 := by unfold wid; split <;> omega
    omega
theorem Sm.lenI {n : Nat} {l : List It} (h : Sm n l) : lenI l ≤ 2060 * n := by have := lenI_txt l; have := h.len; have := h.txt; omega
theorem txt_normed (l : List It) : txtI (norm l) ≤ txtI l := by
  have := txt_norms l l.length (Nat.le_refl _)
  rwa [List.take_length] at this
theorem Sm.norm {n : Nat} {l : List It} (h : Sm n l) : Sm n (YtphkpokoeaagfaaGreatDoor.norm l) := ⟨by have := norm_len l; have := h.len; omega, by have := txt_normed l; have := h.txt; omega⟩
theorem Sm.cat {a b : Nat} {l m : List It} (h : Sm a l) (k : Sm b m) : Sm (a + b) (YtphkpokoeaagfaaGreatDoor.norm (l ++ m)) :=
  Sm.norm ⟨by have := h.len; have := k.len; rw [List.length_append]; omega, by have := h.txt; have := k.txt; rw [txtI_append]; omega⟩
theorem Sm.nil : Sm 0 [] := ⟨by simp, by simp [txtI]⟩

/-- What a call that answers a fragment says. -/
def EndF (L : List It) (w : World) (e : Ending) (w' : World) : Prop := ∃ p c, e = .returned (.slice p L.length c) ∧ L.length ≤ c ∧ c ≤ maxLen ∧ Its w' p L ∧ Below w.heap.size w w'
theorem EndI.f {L : List It} {w w' : World} {e : Ending} (h : EndI L w e w') : EndF L w e w' := by
  obtain ⟨v, rfl, hA⟩ := h
  obtain ⟨p, c, rfl, h1, h2, hI⟩ := hA.own.its
  exact ⟨p, c, rfl, h1, h2, hI, hA.below⟩
theorem normalize_f {a : Nat} (p : Option Addr) (c : Nat) (l : List It) (w : World) (hR : Its w p l) (hc : l.length ≤ c) (hm : c ≤ maxLen) (h : Sm a l) (ha : a ≤ 100) :
    Calls Tryz.prog 29 #[.slice p l.length c] w (EndF (norm l) w) :=
  (normalize_any p c l w hR hc hm (by have := h.len; omega) (by have := h.txt; omega)).mono fun _ _ x => EndI.f x

theorem plain_size {n : Nat} {l : List It} (h : Sm n l) : (⟨(plainL l).toArray⟩ : ByteArray).size ≤ 2060 * n := by
  have h1 := plain_len l l.length (Nat.le_refl _)
  rw [List.take_length] at h1
  have h2 : (⟨(plainL l).toArray⟩ : ByteArray).size = (plainL l).length := by show (plainL l).toArray.size = _; simp
  rw [h2]; have := h.len; have := h.txt; omega

end Go.Proofs.YtphkpokoeaagfaaGreatDoor
