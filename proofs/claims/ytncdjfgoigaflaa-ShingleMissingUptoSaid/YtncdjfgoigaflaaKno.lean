/- The contract of the fixed example. -/
import Derived.Test.YtncdjfgoigaflaaRvl
import Derived.Test.YtncdjfgoigaflaaSam
import Derived.Test.YtncdjfgoigaflaaArg
namespace Go.Proofs.Ytncdjfgoigaflaa
open Go.ChangeShapes Go.WideShapes Go.ChangeAt Go.RowKit
set_option linter.unusedVariables false
set_option maxRecDepth 100000

/-- A slice literal. -/
theorem Its.lit {W : World} {B : Nat} {cs : Array Value} {fr : Nat × Nat} {l : List It} (h : W.heap[B]? = some (.cells cs 51 fr)) (hc : cs.toList = icells l) : Its W (some ⟨B, 0, none⟩) l := fun h0 => by
  refine ⟨_, rfl, (Array.getElem?_eq_some_iff.1 h).1, fun i hi => ?_⟩
  obtain ⟨c0, c1, c2⟩ := icells_at l i hi
  have hn := World.news_of_block h
  rw [hc] at hn
  exact ⟨hn _ _ c0, hn _ _ c1, hn _ _ c2⟩
def k0 : List It := [⟨2, ⟨#[98]⟩, 1⟩, ⟨1, ⟨#[97, 98]⟩, 0⟩, ⟨3, ⟨#[98]⟩, 1⟩]
def k1 : List It := [⟨1, ⟨#[98]⟩, 0⟩, ⟨3, ⟨#[98]⟩, 1⟩]
theorem Oks.of {l : List It} (h : ∀ x ∈ l, x.ok) : Oks l := fun i hi => h _ (List.getElem_mem hi)
theorem k0_ok : Oks k0 := Oks.of fun x hx => by
  unfold k0 at hx
  rcases List.mem_cons.1 hx with rfl | hx
  · exact ⟨by decide, by decide, by decide⟩
  rcases List.mem_cons.1 hx with rfl | hx
  · exact ⟨by decide, by decide, by decide⟩
  rcases List.mem_cons.1 hx with rfl | hx
  · exact ⟨by decide, by decide, by decide⟩
  · cases hx
theorem k0_val : valE k0 = 0 := by decide +kernel
theorem k0_len : lenI k0 = 4 := by decide +kernel
theorem k0_slice : sliceI k0 2 4 = k1 := by decide +kernel
theorem k0_sliceOk : sliceOk k0 2 4 = true := by decide +kernel
end Go.Proofs.Ytncdjfgoigaflaa
