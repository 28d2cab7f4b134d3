/- The contract of the fixed example. -/
import Derived.Test.YtphkpokoeaagfaaGreatDoorRvl
import Derived.Test.YtphkpokoeaagfaaGreatDoorSam
import Derived.Test.YtphkpokoeaagfaaGreatDoorArg
namespace Go.Proofs.YtphkpokoeaagfaaGreatDoor
open Go.ChangeShapes Go.WideShapes Go.ChangeAt Go.RowKit
set_option linter.unusedVariables false
set_option maxRecDepth 100000

/-- A slice literal. -/
theorem Its.lit {W : World} {B : Nat} {cs : Array Value} {fr : Nat × Nat} {l : List It} (h : W.heap[B]? = some (.cells cs 62 fr)) (hc : cs.toList = icells l) : Its W (some ⟨B, 0, none⟩) l := fun h0 => by
  refine ⟨_, rfl, (Array.getElem?_eq_some_iff.1 h).1, fun i hi => ?_⟩
  obtain ⟨c0, c1, c2⟩ := icells_at l i hi
  have hn := World.news_of_block h
  rw [hc] at hn
  exact ⟨hn _ _ c0, hn _ _ c1, hn _ _ c2⟩
def k0 : List It := [⟨2, ⟨#[98]⟩, 1⟩, ⟨1, ⟨#[97, 98]⟩, 0⟩, ⟨3, ⟨#[98]⟩, 1⟩]
def k1 : List It := [⟨1, ⟨#[98]⟩, 0⟩, ⟨3, ⟨#[98]⟩, 1⟩]
theorem Oks.of {l : List It} (h : ∀ x ∈ l, x.ok) : Oks l := fun i hi => h _ (List.getElem_mem hi)
theorem k0_ok : Oks k0 := Oks.of fun x hx => by
  unfold k0 at hx
  rcases List.mem_cons.1 hx with rfl | hx
  · exact ⟨by decide, by decide, by decide⟩
  rcases List.mem_cons.1 hx with rfl | hx
  · exact ⟨by decide, by decide, by decide⟩
  rcases List.mem_cons.1 hx with rfl | hx
  · exact ⟨by decide, by decide, by decide⟩
  · cases hx
theorem k0_val : valE k0 = 0 := by decide +kernel
theorem k0_len : lenI k0 = 4 := by decide +kernel
theorem k0_slice : sliceI k0 2 4 = k1 := by decide +kernel
theorem k0_sliceOk : sliceOk k0 2 4 = true := by decide +kernel
theorem known_val (w : World) (a : Option Addr) (h : Its w a k0) : Calls Tryz.prog 35 #[.slice a 3 3] w fun e w' => e = .returned (.int .i64 0) ∧ Below w.heap.size w w' := by
  have := validate_any a 3 k0 w h k0_ok (by decide) (by decide)
  rwa [k0_val] at this
theorem known_len (w : World) (a : Option Addr) (h : Its w a k0) : Calls Tryz.prog 67 #[.slice a 3 3] w fun e w' => e = .returned (.int .i64 4) ∧ Below w.heap.size w w' := by
  have := length_any a 3 k0 w h (by decide) (by decide) (by rw [k0_len]; decide)
  rwa [k0_len] at this
theorem known_same (w : World) (p q : Option Addr) (c : Nat) (hc : 2 ≤ c) (hm : c ≤ maxLen) (h : Its w p k1) (h' : Its w q k1) : Calls Tryz.prog 13 #[.slice p 2 c, .slice q 2 2] w fun e w' => e = .returned (.bool true) ∧ Below w.heap.size w w' := by
  have := rsame_any p q c 2 k1 k1 w h h' hc (by decide) hm (by decide)
  rwa [decide_eq_true rfl] at this
end Go.Proofs.YtphkpokoeaagfaaGreatDoor
