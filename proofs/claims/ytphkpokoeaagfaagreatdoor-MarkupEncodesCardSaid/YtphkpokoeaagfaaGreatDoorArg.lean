/- Arguments that are slices of numbers; strings that the call's form reaches. -/
import Derived.Test.YtphkpokoeaagfaaGreatDoorAcc
import Derived.SizedLaws
namespace Go.Proofs.YtphkpokoeaagfaaGreatDoor
open Go.ChangeShapes Go.WideShapes Go.ChangeAt Go.RowKit
set_option linter.unusedVariables false
set_option maxRecDepth 100000
section
variable {H : Type} {enc : TypeId × Value → H} {W : World} {base : Nat} {held : Bool}
theorem okBase {t : TypeId} {v : Value} (h : Value.okWide Tryz.prog W .any base t v) : Value.okWide Tryz.prog W .any base t v := h
theorem str_le {s : ByteArray} {d : DataW H} (hd : d = .lit (.string s.data.toList)) (hz : ∀ n ∈ DataW.weights Tryz.prog 9 d, n ≤ reachBytes) : s.size ≤ 140737488355328 := by
  have := hz s.data.toList.length (by rw [hd]; simp [DataW.weights])
  have e : s.data.toList.length = s.size := by simp
  rw [e] at this
  unfold reachBytes at this
  omega
theorem opened_ints {v : Value} {d : DataW H} {p : List MemPlace} {b0 : Nat} (hv : Value.okWide Tryz.prog W .any b0 22 v) (h : DataW.Trod enc Tryz.prog W base (fun _ => true) held 22 v d p) :
    ∃ (p : Option Addr) (cap : Nat) (l : List Int), v = .slice p l.length cap ∧ l.length ≤ cap ∧ cap ≤ maxLen ∧ Ones W (Value.int .i64) p l ∧ ∀ i (h : i < l.length), (Lit.int .i64 (l[i]'h)).wf = true := by
  obtain ⟨a0, len, cap, rfl⟩ := okWide_slice Tryz.underlying22 hv
  obtain ⟨fuel, hf⟩ := h
  rcases Go.Deep.open_slice Tryz.underlying22 hf with ⟨hcs, _⟩ | ⟨a, len', cap', m, n, D, Pl, hcs, _, hl, hm, hmm, hd, hx⟩
  · simp [Value.cells] at hcs
    obtain ⟨rfl, rfl, rfl⟩ := hcs
    exact ⟨none, 0, [], rfl, Nat.le_refl _, Nat.zero_le _, Ones.nil _ _ _, fun i hi => by cases hi⟩
  · simp [Value.cells] at hcs
    obtain ⟨rfl, rfl, rfl⟩ := hcs
    have hlm : len ≤ m := by rw [hmm]; simp; exact hl
    have each : ∀ i, ∃ y : Int, i < len → (Lit.int .i64 y).wf = true ∧ W.cell? (a.add i) = some (.int .i64 y) := fun i => by
      by_cases hi : i < len
      · obtain ⟨cs', h1, h2⟩ := hx i (by omega)
        obtain ⟨y, rfl, _, hw⟩ := DataW.trod_int Tryz.underlying3 h2
        rw [cells3] at h1
        obtain ⟨_, _, hcell⟩ := World.cells?_some h1
        have e0 := hcell 0 (by omega)
        rw [Go.Deep.add_add] at e0
        exact ⟨y, fun _ => ⟨hw, by simpa using e0⟩⟩
      · exact ⟨0, fun h => absurd h hi⟩
    obtain ⟨f, hf⟩ := Classical.axiomOfChoice each
    refine ⟨some a, cap, (List.range len).map f, by simp, by simpa using hl, hm, fun h0 => ⟨a, rfl, ?_, fun i hi => ?_⟩, fun i hi => ?_⟩
    · have := World.block_lt_of_cell? W _ (hf 0 (by simpa using h0)).2
      simpa [add_block] using this
    · have hi' : i < len := by simpa using hi
      simpa using (hf i hi').2
    · have hi' : i < len := by simpa using hi
      simpa using (hf i hi').1
end
end Go.Proofs.YtphkpokoeaagfaaGreatDoor
