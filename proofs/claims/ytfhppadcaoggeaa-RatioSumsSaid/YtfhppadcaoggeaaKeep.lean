/- Variables of two cells, kept behind the calls of a statement that leaves its order open. -/
import Derived.Test.YtfhppadcaoggeaaShell
namespace Go.Proofs.Ytfhppadcaoggeaa
open Go.ChangeShapes Go.WideShapes Go.ChangeAt Go.RowKit
set_option linter.unusedVariables false

theorem keep3 {w W w1 : World} {a b c : Nat} {x0 x1 y0 y1 z0 z1 : Value} (hb : Below W.heap.size W w1)
    (h : (W.cell? ⟨a, 0, none⟩ = some x0 ∧ W.cell? ⟨a, 1, none⟩ = some x1 ∧ a < W.heap.size) ∧ (W.cell? ⟨b, 0, none⟩ = some y0 ∧ W.cell? ⟨b, 1, none⟩ = some y1 ∧ b < W.heap.size) ∧ (W.cell? ⟨c, 0, none⟩ = some z0 ∧ W.cell? ⟨c, 1, none⟩ = some z1 ∧ c < W.heap.size) ∧ Below w.heap.size w W) :
    (w1.cell? ⟨a, 0, none⟩ = some x0 ∧ w1.cell? ⟨a, 1, none⟩ = some x1 ∧ a < w1.heap.size) ∧ (w1.cell? ⟨b, 0, none⟩ = some y0 ∧ w1.cell? ⟨b, 1, none⟩ = some y1 ∧ b < w1.heap.size) ∧ (w1.cell? ⟨c, 0, none⟩ = some z0 ∧ w1.cell? ⟨c, 1, none⟩ = some z1 ∧ c < w1.heap.size) ∧ Below w.heap.size w w1 := by
  obtain ⟨⟨a0, a1, a2⟩, ⟨b0, b1, b2⟩, ⟨c0, c1, c2⟩, hB⟩ := h
  obtain ⟨p0, p1, p2⟩ := (Two.mk a0 a1 a2).call hb
  obtain ⟨q0, q1, q2⟩ := (Two.mk b0 b1 b2).call hb
  obtain ⟨r0, r1, r2⟩ := (Two.mk c0 c1 c2).call hb
  exact ⟨⟨p0, p1, p2⟩, ⟨q0, q1, q2⟩, ⟨r0, r1, r2⟩, BelowOn hB hb⟩
theorem keep3Start {w W : World} {a b c : Nat} {x0 x1 y0 y1 z0 z1 : Value} (p : Two W a x0 x1) (q : Two W b y0 y1) (r : Two W c z0 z1) (hB : Below w.heap.size w W) :
    (W.drew.cell? ⟨a, 0, none⟩ = some x0 ∧ W.drew.cell? ⟨a, 1, none⟩ = some x1 ∧ a < W.drew.heap.size) ∧ (W.drew.cell? ⟨b, 0, none⟩ = some y0 ∧ W.drew.cell? ⟨b, 1, none⟩ = some y1 ∧ b < W.drew.heap.size) ∧ (W.drew.cell? ⟨c, 0, none⟩ = some z0 ∧ W.drew.cell? ⟨c, 1, none⟩ = some z1 ∧ c < W.drew.heap.size) ∧ Below w.heap.size w W.drew :=
  ⟨⟨p.c0, p.c1, p.lt⟩, ⟨q.c0, q.c1, q.lt⟩, ⟨r.c0, r.c1, r.lt⟩, hB.drew⟩
end Go.Proofs.Ytfhppadcaoggeaa
