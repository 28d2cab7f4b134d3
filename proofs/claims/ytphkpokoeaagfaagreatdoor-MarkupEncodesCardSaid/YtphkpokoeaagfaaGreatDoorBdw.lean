/- Contracts of the Builder's methods that write. -/
import Derived.Test.YtphkpokoeaagfaaGreatDoorBld
namespace Go.Proofs.YtphkpokoeaagfaaGreatDoor
open Go.ChangeShapes Go.WideShapes Go.ChangeAt Go.RowKit
set_option linter.unusedVariables false
set_option maxRecDepth 100000

/-- What a writing method leaves: the builder with more bytes; nothing but its two blocks has turned. -/
def Wrote (base : Nat) (w : World) (b : Nat) (g : Option Nat) (bs : List UInt8) (w' : World) : Prop :=
  ∃ g', Bld base w' b g' bs ∧ Only (fun i => i = b ∨ g = some i) w w' ∧ ∀ k, g' = some k → g = some k ∨ w.heap.size ≤ k

set_option maxHeartbeats 1600000 in
theorem bld_ws (base : Nat) (w : World) (b : Nat) (g : Option Nat) (bs : List UInt8) (s : ByteArray) (h : Bld base w b g bs) (hbw : base ≤ w.heap.size) (hl : bs.length + s.size ≤ 140737488355328) :
    Calls Tryz.prog 61 #[.pointer (some ⟨b, 0, none⟩), .string s] w fun e w' => e = .returned (.tuple #[.int .i64 s.size, .nilIface]) ∧ Wrote base w b g (bs ++ s.data.toList) w' := by
  have hne : g ≠ some b := by obtain ⟨_, _, _, _, _, _, _, r⟩ := h; exact r
  have hb0 : base ≤ b := h.1
  have hcc := cc_any base w b g bs h
  have HC := Lib.hid hcc; clear hcc
  go_enter Tryz.func61, Tryz.ntmps61
  go_wp2_with fail
  refine HC.out.mono ?_; rintro e w1 ⟨rfl, hO1, v, hbk, hown, hg⟩
  have c0 : w1.cell? ⟨b, 0, none⟩ = some (.pointer (some ⟨b, 0, none⟩)) := by rw [Lib.cell_of_heap hbk]; rfl
  have c1 : w1.cell? ⟨b, 1, none⟩ = some v := by rw [Lib.cell_of_heap hbk]; rfl
  have hlt1 : b < w1.heap.size := (Array.getElem?_eq_some_iff.1 hbk).1
  have s1 := hO1.size
  go_wp2_with (at_builtin; refine wpl_append_str rfl _ _ rfl base _ _ _ rfl hown s rfl hl (by omega) ?_)
  intro v' w2 hown' hgrow hloc
  have hb2 : w2.heap[b]? = some (.cells #[.pointer (some ⟨b, 0, none⟩), v] 99 (0, 0)) := by
    rw [hgrow.block b hlt1 (fun e => hne (e.symm))]
    exact hbk
  have d0 : w2.cell? ⟨b, 0, none⟩ = some (.pointer (some ⟨b, 0, none⟩)) := by rw [Lib.cell_of_heap hb2]; rfl
  have d1 : w2.cell? ⟨b, 1, none⟩ = some v := by rw [Lib.cell_of_heap hb2]; rfl
  have f1 : w2.frozen? ⟨b, 1, none⟩ = false := Lib.frozen_of_heap hb2 1
  clear c0 c1
  obtain ⟨ao, n', cap, rfl⟩ : ∃ ao n' cap, v' = .slice ao n' cap := by
    rcases hown'.2 with ⟨hv, _⟩ | ⟨g, cap, cur, hv, _⟩
    · exact ⟨_, _, _, hv⟩
    · exact ⟨_, _, _, hv⟩
  go_wp2
  go_ret2
  have hne' : (Value.slice ao n' cap).ownBlock ≠ some b := fun e => by
    rcases hloc b e with h1 | h1
    · exact hne (h1)
    · omega
  refine ⟨rfl, (Value.slice ao n' cap).ownBlock, ⟨hb0, _, _, .inr rfl, ?_, ?_, rfl, hne'⟩, ?_, fun k hk => ?_⟩
  · simp [World.setCell, Array.getElem?_modify, hb2]
  · rw [byteCells_append, List.length_append, ← strCells_eq, show s.data.toList.length = s.size by simp]
    exact ownsRow_same hown' (fun i hi => Below.heap_setCell _ _ _ _ (fun e => hne' (by rw [hi, e])))
  · refine ((hO1.mono (fun i _ e => .inl e)).trans ((Only.of_grown hgrow (fun i hi => ?_)))).setCell _ _ (.inl rfl)
    exact .inr (hi)
  · rcases hloc k hk with h1 | h1
    · exact .inl (h1)
    · exact .inr (by omega)

set_option maxHeartbeats 1600000 in
theorem bld_reset (base : Nat) (w : World) (b : Nat) (g : Option Nat) (p v : Value) (hb0 : base ≤ b) (hb : w.heap[b]? = some (.cells #[p, v] 99 (0, 0))) :
    Calls Tryz.prog 60 #[.pointer (some ⟨b, 0, none⟩)] w fun e w' => e = .returned (.tuple #[]) ∧ Bld base w' b none [] ∧ Only (fun i => i = b) w w' := by
  have c0 : w.cell? ⟨b, 0, none⟩ = some p := by rw [Lib.cell_of_heap hb]; rfl
  have c1 : w.cell? ⟨b, 1, none⟩ = some v := by rw [Lib.cell_of_heap hb]; rfl
  have f0 : w.frozen? ⟨b, 0, none⟩ = false := Lib.frozen_of_heap hb 0
  have f1 : w.frozen? ⟨b, 1, none⟩ = false := Lib.frozen_of_heap hb 1
  go_enter Tryz.func60, Tryz.ntmps60
  go_wp2
  go_end0
  refine ⟨rfl, ⟨hb0, _, _, .inl rfl, ?_, World.ownsRow_nil _ _ _ _, rfl, by simp⟩, Only.setCell (S := fun i => i = b) (Only.setCell (S := fun i => i = b) (Only.refl _ w) ⟨b, 0, none⟩ _ rfl) ⟨b, 1, none⟩ _ rfl⟩
  simp [World.setCell, Array.getElem?_modify, hb]

set_option maxHeartbeats 2000000 in
theorem bld_str (base : Nat) (w : World) (b : Nat) (g : Option Nat) (l : List UInt8) (h : Bld base w b g l) (h0 : l ≠ []) :
    Calls Tryz.prog 59 #[.pointer (some ⟨b, 0, none⟩)] w fun e w' => e = .returned (.string ⟨l.toArray⟩) ∧ Only (fun i => g = some i) w w' := by
  obtain ⟨hb0, p, v, hp, hbk, hown, hgg, hne⟩ := h
  have hl0 : l.length ≠ 0 := by simpa using h0
  obtain ⟨g', cap, cur, rfl, hbg, hg, hnc, hcm, hcs, htake⟩ : ∃ g cap cur, v = .slice (some ⟨g, 0, none⟩) l.length cap ∧ base ≤ g ∧ w.heap[g]? = some (.cells cur 5 (0, 0)) ∧ l.length ≤ cap ∧ cap ≤ maxLen ∧ cur.size = cap * 1 ∧ cur.toList.take (l.length * 1) = Lib.byteCells l := by
    rcases hown.2 with ⟨_, hz⟩ | ⟨g, cap, cur, hv, r⟩
    · exact absurd hz hl0
    · exact ⟨g, cap, cur, hv, r⟩
  have c1 : w.drew.cell? ⟨b, 1, none⟩ = some (.slice (some ⟨g', 0, none⟩) l.length cap) := by
    have : w.drew.heap[b]? = some (.cells #[p, .slice (some ⟨g', 0, none⟩) l.length cap] 99 (0, 0)) := hbk
    rw [Lib.cell_of_heap this]; rfl
  have hSD : (Builtin.unsafeSliceData_ #[67] 135 #[.slice (some ⟨g', 0, none⟩) l.length cap]).run Tryz.prog w.drew = .ok (.pointer (some ⟨g', 0, none⟩)) w.drew :=
    Lib.run_unsafeSliceData_row _ _ _ _ _ _ (by omega)
  have hUS : (Builtin.unsafeString_ #[135, 3] 9 #[.pointer (some ⟨g', 0, none⟩), .int .i64 l.length]).run Tryz.prog w.drew = .ok (.string ⟨l.toArray⟩) (w.drew.freeze ⟨g', 0, none⟩ l.length) := by
    refine Lib.run_unsafeString_row w.drew 135 3 9 5 Tryz.underlying135 (by kernel_rfl) g' cur.size (by have hg' : w.drew.heap[g']? = some (.cells cur 5 (0, 0)) := hg; simp [World.shape?, hg']) l h0 (by omega) (by unfold maxLen at hcm; omega) ?_
    intro j x hx
    have := hown.cells (g := g') rfl j (.int .u8 x.toNat) (by simp [Lib.byteCells, hx])
    exact this
  have hO : Only (fun i => g = some i) w (w.drew.freeze ⟨g', 0, none⟩ l.length) := by
    have hB := Lib.below_freeze (B := g') (Below.drew (Below.refl g' w)) (p := ⟨g', 0, none⟩) (Nat.le_refl _) l.length
    refine ⟨hB.os, hB.tape, hB.output, hB.size, fun i hi hS => ?_⟩
    have hne2 : i ≠ g' := fun e => hS (by rw [e, ← hgg]; rfl)
    unfold World.freeze
    split
    · rfl
    · show (w.heap.modify g' _)[i]? = _
      rw [Array.getElem?_modify, if_neg (fun e => hne2 e.symm)]
  have mixed : Tryz.prog.follows .mixedOrders = true := by kernel_rfl
  have HO := Lib.hid hO; clear hO
  go_enter Tryz.func59, Tryz.ntmps59
  go_wp2
  go_region_o
  all_goals (go_wp2; go_ret; exact ⟨rfl, HO.out⟩)
end Go.Proofs.YtphkpokoeaagfaaGreatDoor
