/- whole and begin. -/
import Derived.Test.YtdnofpllmhnacaaRch
import Derived.Laws.MakeOwn
namespace Go.Proofs.Ytdnofpllmhnacaa
open Go.ChangeShapes Go.WideShapes Go.ChangeAt Go.RowKit Go.Sort
set_option linter.unusedVariables false
set_option linter.unusedSimpArgs false
set_option maxRecDepth 100000

theorem MS.drewN {R g : Nat} {p : Option Addr} {c : Nat} {P : List At} {E : List Bool} {W : World} (h : MS R g p c P E W) (n : Nat) : MS R g p c P E (W.drewN n) := ⟨h.var, h.row, h.len, h.ats, h.ne, h.ap, h.le, h.cm⟩
set_option maxHeartbeats 1600000 in
theorem whole_any (R g : Nat) (p : Option Addr) (c : Nat) (P : List At) (E : List Bool) (w : World) (h : MS R g p c P E w) (hn : P.length ≤ 4000000000) :
    Calls Try.prog 39 #[.pointer (some ⟨R, 0, none⟩)] w fun e w' => e = .returned (.bool (E[P.length]'(by rw [h.len]; omega))) ∧ ∃ n, w' = w.drewN n := by
  have v0 := h.v0; have v1 := h.v1
  have e0 := h.e P.length (by rw [h.len]; omega)
  generalize E[P.length]'(by rw [h.len]; omega) = y at *
  have mixed : Try.prog.follows .mixedOrders = true := by kernel_rfl
  go_enter Try.func39, Try.ntmps39
  go_wp2_with fail
  go_quiet (fail)
  go_wp2_with fail
  go_ret
  exact ⟨rfl, _, rfl⟩

theorem info4 : (Try.prog.info? 4).map (fun i => (i.zero, i.size, i.bytes)) = some (some (.bool false), 1, 1) := by kernel_rfl
theorem made_bools (k : Nat) : madeCells (Value.bool false).cells k = (List.replicate k (Value.bool false)).toArray := by
  unfold madeCells
  apply Array.ext
  · simp
  · intro i h1 h2
    have : i % 1 = 0 := by omega
    simp [Value.cells, this]
theorem make_bools (w : World) (n : Nat) (hn : n ≤ 1000000) : (Instr.makeSlice 63 (.int .i64 ((n : Int) + 1)) (.int .i64 ((n : Int) + 1))).run Try.prog w = .ok (.slice (some ⟨w.heap.size, 0, none⟩) (n + 1) (n + 1)) (w.alloc (.cells (List.replicate (n + 1) (Value.bool false)).toArray 4)) := by
  cases hi : Try.prog.info? 4 with
  | none => have := info4; rw [hi] at this; cases this
  | some i =>
    have h4 := info4
    rw [hi] at h4
    simp only [Option.map_some, Option.some.injEq, Prod.mk.injEq] at h4
    obtain ⟨hz, hs, hb⟩ := h4
    have := run_make (P := Try.prog) w 63 4 i (.bool false) Try.underlying63 hi hz .i64 .i64 ((n : Int) + 1) ((n : Int) + 1) (by omega) (by omega) (by rw [hb]; omega) (by omega)
    rw [this, hs, made_bools, show ((n : Int) + 1).toNat = n + 1 by omega, Nat.mul_one]

/-- The ends at the beginning. -/
def ends0 (n : Nat) : List Bool := true :: List.replicate n false
theorem ends0_length (n : Nat) : (ends0 n).length = n + 1 := by simp [ends0]

set_option maxHeartbeats 3200000 in
theorem begin_any (p : Option Addr) (c : Nat) (P : List At) (w : World) (hP : Ats w p P) (hc : P.length ≤ c) (hm : c ≤ maxLen) (hn : P.length ≤ 1000000) :
    Calls Try.prog 37 #[.slice p P.length c] w fun e w' => ∃ g, e = .returned (.agg #[.slice p P.length c, .slice (some ⟨g, 0, none⟩) (P.length + 1) (P.length + 1)]) ∧ Below w.heap.size w w' ∧ w.heap.size ≤ g ∧ w'.heap[g]? = some (.cells ((skE P (ends0 P.length) P.length).map Value.bool).toArray 4 (0, 0)) := by
  have hm' := hm
  unfold maxLen at hm
  have hwr : IntKind.i64.wrap ((P.length : Int) + 1) = (P.length : Int) + 1 := IntWalk.i64_in _ ⟨by omega, by omega⟩
  have hmk := make_bools (w.alloc (.cells #[.slice none 0 0, .slice none 0 0] 65)) P.length hn
  have hM : ∀ cs : Array Value, cs = ((ends0 P.length).map Value.bool).toArray → MS (w.heap.size + 1 + 1) (w.heap.size + 1) p c P (ends0 P.length) (((w.alloc (.cells #[.slice none 0 0, .slice none 0 0] 65)).alloc (.cells cs 4)).alloc (.cells #[.slice p P.length c, .slice (some ⟨w.heap.size + 1, 0, none⟩) (P.length + 1) (P.length + 1)] 65)) ∧ (((w.alloc (.cells #[.slice none 0 0, .slice none 0 0] 65)).alloc (.cells cs 4)).alloc (.cells #[.slice p P.length c, .slice (some ⟨w.heap.size + 1, 0, none⟩) (P.length + 1) (P.length + 1)] 65)).heap[w.heap.size]? = some (.cells #[.slice none 0 0, .slice none 0 0] 65 (0, 0)) ∧
      Below w.heap.size w (((w.alloc (.cells #[.slice none 0 0, .slice none 0 0] 65)).alloc (.cells cs 4)).alloc (.cells #[.slice p P.length c, .slice (some ⟨w.heap.size + 1, 0, none⟩) (P.length + 1) (P.length + 1)] 65)) := by
    rintro cs rfl
    have hrow := heap_alloc_new (w.alloc (.cells #[.slice none 0 0, .slice none 0 0] 65)) (.cells ((ends0 P.length).map Value.bool).toArray 4)
    have hres := heap_alloc_new w (.cells #[.slice none 0 0, .slice none 0 0] 65)
    have h1 : (w.alloc (.cells #[.slice none 0 0, .slice none 0 0] 65)).heap.size = w.heap.size + 1 := by simp
    rw [h1] at hrow
    refine ⟨⟨?_, (Lib.alloc_old _ _ (w.heap.size + 1) (by simp)).trans hrow, ends0_length _, ?_, by omega, fun h0 b o hp => ?_, hc, hm'⟩, ?_, blw (blw (blw (Below.refl w.heap.size w) _) _) _⟩
    · have hv := heap_alloc_new ((w.alloc (.cells #[.slice none 0 0, .slice none 0 0] 65)).alloc (.cells ((ends0 P.length).map Value.bool).toArray 4)) (.cells #[.slice p P.length c, .slice (some ⟨w.heap.size + 1, 0, none⟩) (P.length + 1) (P.length + 1)] 65)
      rw [show ((w.alloc (.cells #[.slice none 0 0, .slice none 0 0] 65)).alloc (.cells ((ends0 P.length).map Value.bool).toArray 4)).heap.size = w.heap.size + 1 + 1 by simp] at hv
      exact hv
    · exact ((hP.call (blw (Below.refl w.heap.size w) _)).call (blw (Below.refl _ _) _)).call (blw (Below.refl _ _) _)
    · obtain ⟨b', o', hp', hlt, _⟩ := hP h0
      rw [hp] at hp'; injection hp' with hp'; injection hp' with h1 h2; omega
    · exact (Lib.alloc_old _ _ w.heap.size (by simp; omega)).trans ((Lib.alloc_old _ _ w.heap.size (by simp)).trans hres)
  have hE : (Array.replicate (P.length + 1) (Value.bool false)).setIfInBounds 0 (.bool true) = ((ends0 P.length).map Value.bool).toArray := by
    apply Array.ext'
    unfold ends0
    simp [List.replicate_succ]
  have hz : ((List.replicate (P.length + 1) (Value.bool false)).toArray)[0]? = some (.bool false) := by simp
  have HMM := Lib.hid (hM _ hE)
  clear hM hE hz
  go_enter Try.func37, Try.ntmps37
  go_wp2_with fail
  obtain ⟨hMS, hres, hB⟩ := HMM.out
  refine (skip_any _ _ p c P _ _ hMS (by omega)).mono ?_; rintro e w2 ⟨rfl, hg, hM2⟩
  have hres2 : w2.heap[w.heap.size]? = some (.cells #[.slice none 0 0, .slice none 0 0] 65 (0, 0)) := (hg.block _ (by simp; omega) (fun e => by injection e with e; omega)).trans hres
  have hB2 : Below w.heap.size w w2 := hB.grown hg hB.size (fun j hj => by cases hj; omega)
  have v0 := hM2.v0; have v1 := hM2.v1
  have r0 : w2.cell? ⟨w.heap.size, 0, none⟩ = some (.slice none 0 0) := by rw [cell_of_row _ _ _ _ _ _ hres2]; rfl
  have r1 : w2.cell? ⟨w.heap.size, 1, none⟩ = some (.slice none 0 0) := by rw [cell_of_row _ _ _ _ _ _ hres2]; rfl
  have q0 : w2.frozen? ⟨w.heap.size, 0, none⟩ = false := Lib.frozen_of_heap hres2 0
  have q1 : w2.frozen? ⟨w.heap.size, 1, none⟩ = false := Lib.frozen_of_heap hres2 1
  have hrow := hM2.row
  have HR := Lib.hid (And.intro hB2 (And.intro hres2 hrow))
  clear hMS hres hB hg hM2 hres2 hrow hB2 HMM
  go_wp2_with fail
  obtain ⟨hB2, hres2, hrow⟩ := HR.out
  have hz1 := setCell_heap _ w.heap.size 0 _ 65 (.slice p P.length c) hres2
  have hz2 := setCell_heap _ w.heap.size 1 _ 65 (.slice (some ⟨w.heap.size + 1, 0, none⟩) (P.length + 1) (P.length + 1)) hz1
  have hz3 : ((w2.setCell ⟨w.heap.size, 0, none⟩ (.slice p P.length c)).setCell ⟨w.heap.size, 1, none⟩ (.slice (some ⟨w.heap.size + 1, 0, none⟩) (P.length + 1) (P.length + 1))).heap[w.heap.size + 1]? = some (.cells ((skE P (ends0 P.length) P.length).map Value.bool).toArray 4 (0, 0)) := by
    rw [Below.heap_setCell _ _ _ _ (by simp), Below.heap_setCell _ _ _ _ (by simp)]; exact hrow
  have hBz := (hB2.setCell (p := ⟨w.heap.size, 0, none⟩) (Nat.le_refl _) (.slice p P.length c)).setCell (p := ⟨w.heap.size, 1, none⟩) (Nat.le_refl _) (.slice (some ⟨w.heap.size + 1, 0, none⟩) (P.length + 1) (P.length + 1))
  generalize (w2.setCell ⟨w.heap.size, 0, none⟩ (.slice p P.length c)).setCell ⟨w.heap.size, 1, none⟩ (.slice (some ⟨w.heap.size + 1, 0, none⟩) (P.length + 1) (P.length + 1)) = wz at *
  have z0 : wz.cell? ⟨w.heap.size, 0, none⟩ = some (.slice p P.length c) := by rw [cell_of_row _ _ _ _ _ _ hz2]; rfl
  have z1 : wz.cell? ⟨w.heap.size, 1, none⟩ = some (.slice (some ⟨w.heap.size + 1, 0, none⟩) (P.length + 1) (P.length + 1)) := by rw [cell_of_row _ _ _ _ _ _ hz2]; rfl
  refine bodyPost_ret (v := .agg #[.slice p P.length c, .slice (some ⟨w.heap.size + 1, 0, none⟩) (P.length + 1) (P.length + 1)]) (by simp [results, Try.results37, go_sem, z0, z1]) rfl ⟨_, rfl, hBz, by omega, hz3⟩
end Go.Proofs.Ytdnofpllmhnacaa
