/- Contracts of the reference's Check and Validate. -/
import Derived.Test.YtncdjfgoigaflaaVld
import Derived.BigQuiet
import Derived.Deep.QuietTactic
namespace Go.Proofs.Ytncdjfgoigaflaa
open Go.ChangeShapes Go.WideShapes Go.ChangeAt Go.RowKit
set_option linter.unusedVariables false
set_option maxRecDepth 100000

theorem Var3.drewN {W : World} {b : Nat} {k id : Int} {t : ByteArray} (h : Var3 W b k t id) (n : Nat) : Var3 (W.drewN n) b k t id := ⟨h.c0, h.c1, h.c2, h.lt⟩
theorem bdrewN {b : Nat} {w w' : World} (h : Below b w w') (n : Nat) : Below b w (w'.drewN n) := ⟨h.os, h.tape, h.output, h.size, h.block⟩
def chkE (b : Bool) (P : List It) (x : It) : Int := if b = false then 1 else if tagBad P x = true then 7 else 0
theorem chkE_1 (P : List It) (x : It) : chkE false P x = 1 := rfl
theorem chkE_7 {P : List It} {x : It} (h : tagBad P x = true) : chkE true P x = 7 := by unfold chkE; rw [if_neg (by simp), if_pos h]
theorem chkE_0 {P : List It} {x : It} (h : tagBad P x = false) : chkE true P x = 0 := by unfold chkE; rw [if_neg (by simp), if_neg (by simp [h])]
/-- The loop of Check: the tags ahead. -/
theorem tagBad_yes (P : List It) (x : It) (k : Nat) (hk : k < P.length) (h : clash x (P[k]'hk) = true) : tagBad P x = true := by
  unfold tagBad; rw [List.any_eq_true]; exact ⟨_, List.getElem_mem hk, h⟩
theorem tagBad_no (P : List It) (x : It) (h : ∀ j (hj : j < P.length), clash x (P[j]'hj) = false) : tagBad P x = false := by
  unfold tagBad; rw [List.any_eq_false]
  intro y hy
  obtain ⟨j, hj, rfl⟩ := List.getElem_of_mem hy
  rw [h j hj]; simp
theorem rname_q (s : ByteArray) (w : World) (n : Nat) (hs : s.size ≤ maxLen) : Calls Try.prog 53 #[.string s] (w.drewN n) fun e w' => e = .returned (.string (nameB s)) ∧ w' = w.drewN n :=
  (rname_any s (w.drewN n) hs).mono fun e w' ⟨he, hw⟩ => ⟨he, hw.symm⟩

end Go.Proofs.Ytncdjfgoigaflaa
