/- What the law's own generator answers; what Shape answers, in one form. -/
import Derived.Test.YtinkejbdlfjjbaaFrw
import Derived.Test.YtinkejbdlfjjbaaGvl
import Derived.Test.YtinkejbdlfjjbaaShp
import Derived.Test.YtinkejbdlfjjbaaPrt
import Derived.Test.YtinkejbdlfjjbaaSam
namespace Go.Proofs.Ytinkejbdlfjjbaa
open Go.ChangeShapes Go.WideShapes Go.ChangeAt Go.RowKit
set_option linter.unusedVariables false
set_option maxRecDepth 100000

/-- The fragment of a law. -/
def mk (l : List Int) (tags nested : Bool) : List It := (fragG l tags nested 0 8).1
theorem mk_ok (l : List Int) (tags nested : Bool) : FragOk 8 (mk l tags nested) := (frag_ok l tags nested 0 8 (by decide)).1
theorem mk_sm (l : List Int) (tags nested : Bool) : Sm 1 (mk l tags nested) := ⟨by have := (mk_ok l tags nested).len; omega, by have := (mk_ok l tags nested).txt; omega⟩
/-- The address of numbers: of an empty slice it is not looked at. -/
theorem ones_any {w : World} {p : Option Addr} {L : List Int} (hL : Ones w (Value.int .i64) p L) (h0 : 0 < L.length) : ∀ a, p = some a → a.block < w.heap.size := fun a ha => by
  obtain ⟨b, e, hlt, _⟩ := hL h0
  rw [ha] at e; injection e with e; rw [e]; exact hlt

theorem NumsAt.made {p : Option Addr} {cap : Nat} {L : List Int} {w : World} (hL : Ones w (Value.int .i64) p L) (hw : ∀ i (h : i < L.length), (Lit.int .i64 (L[i]'h)).wf = true) (hc : L.length ≤ cap) (hm : cap ≤ maxLen) :
    NumsAt (w.alloc (.cells #[.slice p L.length cap, .int .i64 0] 54)) w.heap.size p cap L 0 :=
  ⟨heap_alloc_new w _, hL.call (blw (Below.refl _ _) _), fun h0 a ha => by have := ones_any hL h0 a ha; omega, hw, hc, hm⟩
def shC (st : Option (List Int × List Int)) : List Int := match st with | some (c, _) => c | none => []
def shO (st : Option (List Int × List Int)) : List Int := match st with | some (_, o) => o | none => []
/-- What Shape answers, whether it fails or not. -/
def EndShU (st : Option (List Int × List Int)) (w : World) (e : Ending) (w' : World) : Prop := ∃ p1 c1 p2 c2, e = .returned (.tuple #[.slice p1 (shC st).length c1, .slice p2 (shO st).length c2, .bool st.isSome]) ∧
  (shC st).length ≤ c1 ∧ c1 ≤ maxLen ∧ Ones w' (Value.int .i64) p1 (shC st) ∧ (shO st).length ≤ c2 ∧ c2 ≤ maxLen ∧ Ones w' (Value.int .i64) p2 (shO st) ∧ Below w.heap.size w w'
theorem EndSh.u {st : Option (List Int × List Int)} {w w' : World} {e : Ending} (h : EndSh st w e w') : EndShU st w e w' := by
  cases st with
  | none => exact ⟨none, 0, none, 0, h.1, Nat.le_refl _, Nat.zero_le _, Ones.nil _ _ _, Nat.le_refl _, Nat.zero_le _, Ones.nil _ _ _, h.2⟩
  | some x =>
    obtain ⟨c, o⟩ := x
    obtain ⟨vc, vo, rfl, hT⟩ := h
    obtain ⟨p1, c1, rfl, a1, a2, a3⟩ := hT.c.ints
    obtain ⟨p2, c2, rfl, b1, b2, b3⟩ := hT.o.ints
    exact ⟨p1, c1, p2, c2, rfl, a1, a2, a3, b1, b2, b3, hT.below⟩
end Go.Proofs.Ytinkejbdlfjjbaa
