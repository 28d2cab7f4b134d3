/- The contract of Normalize. -/
import Derived.Test.YthfgpagmepdblaaGreatNrm
namespace Go.Proofs.YthfgpagmepdblaaGreat
open Go.ChangeShapes Go.WideShapes Go.ChangeAt Go.RowKit
set_option linter.unusedVariables false
set_option maxRecDepth 100000

/-- The end of a call that gives a slice of items. -/
def EndI (L : List It) (w : World) (e : Ending) (w' : World) : Prop := ∃ v, e = .returned v ∧ AccI w L v w'
theorem txt_flush (res : List It) (bs : List UInt8) : bs.length ≤ txtI (flush res bs) := by
  by_cases h : bs = []
  · subst h; simp
  · rw [flush_some _ _ h, txtI_snoc]
    have : (⟨bs.toArray⟩ : ByteArray).size = bs.length := by show bs.toArray.size = _; simp
    rw [this]; omega
theorem txt_norms (l : List It) : ∀ k, k ≤ l.length → txtI (norm (l.take k)) ≤ txtI (l.take k) := by
  intro k
  induction k with
  | zero => intro _; simp [norm, txtI]
  | succ j ih =>
    intro hj
    rw [norm_next l j (by omega), txtI_next l j (by omega)]
    have := txt_norm (norm (l.take j)) l[j]
    have := ih (by omega)
    omega
theorem flush_len (res : List It) (bs : List UInt8) : res.length ≤ (flush res bs).length := by unfold flush; split <;> simp
theorem Var3.only {S : Nat → Prop} {W W' : World} {b : Nat} {k id : Int} {t : ByteArray} (h : Var3 W b k t id) (hO : Only S W W') (hb : ¬ S b) : Var3 W' b k t id := h.same (hO.block b h.lt hb) hO.size

end Go.Proofs.YthfgpagmepdblaaGreat
