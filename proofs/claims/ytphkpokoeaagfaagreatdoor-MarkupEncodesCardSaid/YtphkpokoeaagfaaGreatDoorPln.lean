/- Contracts of Concat and Plain, and of the reference's. -/
import Derived.Test.YtphkpokoeaagfaaGreatDoorCat
namespace Go.Proofs.YtphkpokoeaagfaaGreatDoor
open Go.ChangeShapes Go.WideShapes Go.ChangeAt Go.RowKit
set_option linter.unusedVariables false
set_option maxRecDepth 100000

theorem txtI_append (l m : List It) : txtI (l ++ m) = txtI l + txtI m := by unfold txtI; rw [List.map_append, List.sum_append]
set_option maxHeartbeats 400000 in
theorem rconcat_any (p q : Option Addr) (c d : Nat) (l m : List It) (w : World) (hR : Its w p l) (hS : Its w q m) (hn : l.length + m.length ≤ 4000000000) (ht : txtI l + txtI m ≤ 140737488355328) :
    Calls Tryz.prog 32 #[.slice p l.length c, .slice q m.length d] w (EndI (norm (l ++ m)) w) := by
  have hnm := fun W r e hI h1 h2 => rnormalize_any r e (l ++ m) W hI h1 h2 (by rw [List.length_append]; omega) (by rw [txtI_append]; omega)
  simp only [List.length_append] at hnm
  have HN := Lib.hid hnm; clear hnm
  have tok : True := trivial
  go_enter Tryz.func32, Tryz.ntmps32
  go_wp2_with (first
    | (at_builtin; have _t := tok; refine wpl_cat rfl _ _ rfl w [] l _ rfl (Acc.start w) p _ c rfl rfl hR (by simp; omega) ?_; intro v1 w1 hA1; clear tok)
    | (at_builtin; refine wpl_cat rfl _ _ rfl w l m _ rfl hA1 q _ d rfl rfl (hS.call hA1.below) (by omega) ?_; intro v2 w2 hA2; obtain ⟨p1, c1, hv2, h1, h2, hI⟩ := hA2.own.its; subst hv2; rw [List.length_append] at h1))
  refine (HN.out _ _ _ hI h1 h2).mono ?_
  rintro e w3 ⟨v3, rfl, hA3⟩
  have hA4 : AccI w (norm (l ++ m)) v3 w3 := ⟨BelowOn hA2.below hA3.below, ownsRow_base hA3.own hA2.below.size⟩
  go_wp2_with fail
  go_ret
  exact ⟨_, rfl, hA4⟩

/-- The bytes of a fragment. -/
def plainB (x : It) : List UInt8 := if x.k = 1 then x.t.data.toList else if x.k = 5 then [255] else []
def plainL (l : List It) : List UInt8 := l.flatMap plainB
theorem plain_next (l : List It) (k : Nat) (h : k < l.length) : plainL (l.take (k + 1)) = plainL (l.take k) ++ plainB (l[k]'h) := by
  rw [List.take_succ_eq_append_getElem h]; unfold plainL; rw [List.flatMap_append]; simp
theorem plain_len (l : List It) : ∀ k, k ≤ l.length → (plainL (l.take k)).length ≤ txtI (l.take k) + k := by
  intro k
  induction k with
  | zero => intro _; simp [plainL]
  | succ j ih =>
    intro hj
    rw [plain_next l j (by omega), List.length_append, txtI_next l j (by omega)]
    have := ih (by omega)
    have h2 : (plainB l[j]).length ≤ l[j].t.size + 1 := by
      unfold plainB
      split
      · simp
      · split <;> simp
    omega
theorem byte255 : ((255 : UInt8).toNat : Int) = 255 := rfl

end Go.Proofs.YtphkpokoeaagfaaGreatDoor
