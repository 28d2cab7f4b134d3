/- The contract of the fixed example. -/
import Derived.Test.YtnfapcfajoboaaaRvl
import Derived.Test.YtnfapcfajoboaaaSam
import Derived.Test.YtnfapcfajoboaaaArg
namespace Go.Proofs.Ytnfapcfajoboaaa
open Go.ChangeShapes Go.WideShapes Go.ChangeAt Go.RowKit
set_option linter.unusedVariables false
set_option maxRecDepth 100000

/-- A slice literal. -/
theorem Its.lit {W : World} {B : Nat} {cs : Array Value} {fr : Nat × Nat} {l : List It} (h : W.heap[B]? = some (.cells cs 26 fr)) (hc : cs.toList = icells l) : Its W (some ⟨B, 0, none⟩) l := fun h0 => by
  refine ⟨_, rfl, (Array.getElem?_eq_some_iff.1 h).1, fun i hi => ?_⟩
  obtain ⟨c0, c1, c2⟩ := icells_at l i hi
  have hn := World.news_of_block h
  rw [hc] at hn
  exact ⟨hn _ _ c0, hn _ _ c1, hn _ _ c2⟩
def k0 : List It := [⟨2, ⟨#[98]⟩, 1⟩, ⟨1, ⟨#[97, 98]⟩, 0⟩, ⟨3, ⟨#[98]⟩, 1⟩]
def k1 : List It := [⟨1, ⟨#[98]⟩, 0⟩, ⟨3, ⟨#[98]⟩, 1⟩]
theorem Oks.of {l : List It} (h : ∀ x ∈ l, x.ok) : Oks l := fun i hi => h _ (List.getElem_mem hi)
theorem k0_ok : Oks k0 := Oks.of fun x hx => by
  unfold k0 at hx
  rcases List.mem_cons.1 hx with rfl | hx
  · exact ⟨by decide, by decide, by decide⟩
  rcases List.mem_cons.1 hx with rfl | hx
  · exact ⟨by decide, by decide, by decide⟩
  rcases List.mem_cons.1 hx with rfl | hx
  · exact ⟨by decide, by decide, by decide⟩
  · cases hx
theorem k0_val : valE k0 = 0 := by decide +kernel
theorem k0_len : lenI k0 = 4 := by decide +kernel
theorem k0_slice : sliceI k0 2 4 = k1 := by decide +kernel
theorem k0_sliceOk : sliceOk k0 2 4 = true := by decide +kernel
theorem known_slice (w : World) (a : Option Addr) (h : Its w a k0) : Calls Try.prog 45 #[.slice a 3 3, .int .i64 2, .int .i64 4] w fun e w' => ∃ p cap, e = .returned (.tuple #[.slice p 2 cap, .bool true]) ∧ 2 ≤ cap ∧ cap ≤ maxLen ∧ Its w' p k1 ∧ Below w.heap.size w w' := by
  have := slice_any a 3 k0 2 4 w h k0_ok (by decide) (by decide) (by rw [k0_len]; decide) (by decide)
  rw [k0_slice, k0_sliceOk] at this
  refine this.mono ?_
  rintro e w' ⟨v, rfl, hA⟩
  obtain ⟨p, cap, rfl, h1, h2, h3⟩ := hA.own.its
  exact ⟨p, cap, rfl, h1, h2, h3, hA.below⟩
theorem known_val (w : World) (a : Option Addr) (h : Its w a k0) : Calls Try.prog 19 #[.slice a 3 3] w fun e w' => e = .returned (.int .i64 0) ∧ Below w.heap.size w w' := by
  have := validate_any a 3 k0 w h k0_ok (by decide) (by decide)
  rwa [k0_val] at this
theorem known_len (w : World) (a : Option Addr) (h : Its w a k0) : Calls Try.prog 25 #[.slice a 3 3] w fun e w' => e = .returned (.int .i64 4) ∧ Below w.heap.size w w' := by
  have := length_any a 3 k0 w h (by decide) (by decide) (by rw [k0_len]; decide)
  rwa [k0_len] at this
theorem known_same (w : World) (p q : Option Addr) (c : Nat) (hc : 2 ≤ c) (hm : c ≤ maxLen) (h : Its w p k1) (h' : Its w q k1) : Calls Try.prog 27 #[.slice p 2 c, .slice q 2 2] w fun e w' => e = .returned (.bool true) ∧ Below w.heap.size w w' := by
  have := rsame_any p q c 2 k1 k1 w h h' hc (by decide) hm (by decide)
  rwa [decide_eq_true rfl] at this
theorem known_any (w : World) : Calls Try.prog 21 #[] w fun e w' => e = .returned (.bool true) ∧ Below w.heap.size w w' := by
  have hs := fun W a h => known_slice W a h
  have hv := fun W a h => known_val W a h
  have hl := fun W a h => known_len W a h
  have hq := fun W p q c hc hm h h' => known_same W p q c hc hm h h'
  have HS := Lib.hid hs; have HV := Lib.hid hv; have HL := Lib.hid hl; have HQ := Lib.hid hq
  clear hs hv hl hq
  go_enter Try.func21, Try.ntmps21
  go_wp2_with fail
  have hB0 : Below w.heap.size w _ := blw (Below.refl _ _) (.cells (icells k0).toArray 26)
  have hI0 : Its _ _ k0 := Its.lit (heap_alloc_new w (.cells (icells k0).toArray 26)) rfl
  refine (HS.out _ _ hI0).mono ?_; rintro e w1 ⟨p, cap, rfl, hc1, hc2, hI1, hb1⟩
  have hI := hI0.call hb1
  have hB := BelowOn hB0 hb1
  go_wp2_with fail
  refine (HV.out _ _ hI).mono ?_; rintro e w2 ⟨rfl, hb2⟩
  have hI := hI.call hb2
  have hI1 := hI1.call hb2
  have hB := BelowOn hB hb2
  go_wp2_with fail
  refine (HL.out _ _ hI).mono ?_; rintro e w3 ⟨rfl, hb3⟩
  have hI := hI.call hb3
  have hI1 := hI1.call hb3
  have hB := BelowOn hB hb3
  obtain ⟨ad, hp, hlt, x0, x1, x2⟩ := hI.row 2 (by decide)
  cases hp
  have y0 : w3.cell? ⟨w.heap.size, 6, none⟩ = some (.int .i64 3) := x0
  have y1 : w3.cell? ⟨w.heap.size, 7, none⟩ = some (.string ⟨#[98]⟩) := x1
  have y2 : w3.cell? ⟨w.heap.size, 8, none⟩ = some (.int .i64 1) := x2
  clear x0 x1 x2
  go_wp2_with fail
  refine (HQ.out _ _ _ _ hc1 hc2 (hI1.call (blw (Below.refl _ _) _)) (Its.lit (heap_alloc_new w3 (.cells (icells k1).toArray 26)) rfl)).mono ?_; rintro e w4 ⟨rfl, hb4⟩
  go_wp2_with fail
  go_ret
  exact ⟨rfl, BelowOn (blw hB _) hb4⟩
end Go.Proofs.Ytnfapcfajoboaaa
