/- The contracts of both Validates at any items. -/
import Derived.Test.YtaogjccmeajpoaaDoorChk2
namespace Go.Proofs.YtaogjccmeajpoaaDoor
open Go.ChangeShapes Go.WideShapes Go.ChangeAt Go.RowKit
set_option linter.unusedVariables false
set_option maxRecDepth 100000

theorem Its.take {W : World} {p : Option Addr} {l : List It} (h : Its W p l) (k : Nat) : Its W p (l.take k) := fun h0 => by
  obtain ⟨a, hp, hlt, hc⟩ := h (by simp at h0; omega)
  refine ⟨a, hp, hlt, fun i hi => ?_⟩
  have hi' : i < l.length := by simp at hi; omega
  simpa using hc i hi'
theorem Oks.take {l : List It} (h : Oks l) (k : Nat) : Oks (l.take k) := fun i hi => by
  have hi' : i < l.length := by simp at hi; omega
  simpa using h i hi'
theorem wid_le (x : It) (h : x.ok) : wid x ≤ 140737488355328 := by unfold wid; have := h.t; split <;> omega
theorem lenI_le (l : List It) (h : Oks l) : lenI l ≤ l.length * 140737488355328 := by
  have : ∀ k, k ≤ l.length → lenI (l.take k) ≤ k * 140737488355328 := by
    intro k
    induction k with
    | zero => intro _; simp [lenI]
    | succ j ih =>
      intro hj
      rw [lenI_next l j (by omega)]
      have := ih (by omega)
      have := wid_le _ (h j (by omega))
      omega
  have := this l.length (Nat.le_refl _)
  rwa [List.take_length] at this

/-- Both at any items. -/
theorem validate_any (p : Option Addr) (cap : Nat) (l : List It) (w : World) (hR : Its w p l) (hO : Oks l) (hc : l.length ≤ cap) (hm : cap ≤ maxLen) :
    Calls Tryd.prog 15 #[.slice p l.length cap] w fun e w' => e = .returned (.int .i64 (valE l)) ∧ Below w.heap.size w w' := by
  by_cases hl : l.length ≤ 512
  · have hle := lenI_le l hO
    by_cases h1 : lenI l ≤ 1024
    · rw [show valE l = errL [] l from if_neg (by omega)]
      exact validate_in p cap l w hR hO hc hm hl h1
    · rw [show valE l = 3 from if_pos (by omega)]
      have hlen := fun w hR => length_any p cap l w hR hc hm (by omega)
      have HL := Lib.hid hlen; clear hlen
      have q1 : decide (512 < l.length) = false := by simp; omega
      have q2 : decide (1024 < lenI l) = true := by simp; omega
      clear hle
      go_enter Tryd.func15, Tryd.ntmps15
      go_wp2_with fail
      refine (HL.out _ hR).mono ?_; rintro e w1 ⟨rfl, hb⟩
      go_wp2_with fail
      go_ret
      exact ⟨rfl, hb⟩
  · rw [show valE l = 3 from if_pos (by omega)]
    have q1 : decide (512 < l.length) = true := by simp; omega
    go_enter Tryd.func15, Tryd.ntmps15
    go_wp2_with fail
    go_ret
    exact ⟨rfl, Below.refl _ _⟩
end Go.Proofs.YtaogjccmeajpoaaDoor
