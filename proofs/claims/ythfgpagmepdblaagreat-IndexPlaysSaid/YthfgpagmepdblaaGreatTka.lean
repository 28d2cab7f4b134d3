/- Tokens and lists of tokens among the arguments. -/
import Derived.Test.YthfgpagmepdblaaGreatArf
namespace Go.Proofs.YthfgpagmepdblaaGreat
open Go.ChangeShapes Go.WideShapes Go.ChangeAt Go.RowKit
set_option linter.unusedVariables false
set_option maxRecDepth 100000
theorem undTok : ∃ f0 f1 f2 : Field, Tryz.prog.underlying 43 = some (.struct #[f0, f1, f2]) ∧ f0.type = 3 ∧ f1.type = 9 ∧ f2.type = 3 ∧ f0.offset = 0 ∧ f1.offset = 1 ∧ f2.offset = 2 := ⟨_, _, _, Tryz.underlying43, rfl, rfl, rfl, rfl, rfl, rfl⟩
theorem cellsTok : Tryz.prog.cellsOf 43 = 3 := by kernel_rfl
section
variable {H : Type} {enc : TypeId × Value → H} {W : World} {base : Nat} {sp : Nat → Bool} {held : Bool}
theorem read_tok {fuel : Nat} {cs : List Value} {x : DataW H × List MemPlace} (h : DataW.trod enc Tryz.prog W base sp held fuel 43 cs = some x) :
    ∃ y : It, (Lit.int .i64 y.k).wf = true ∧ (Lit.int .i64 y.id).wf = true ∧ cs = [.int .i64 y.k, .string y.t, .int .i64 y.id] ∧ x.1 = .agg [.lit (.int .i64 y.k), .lit (.string y.t.data.toList), .lit (.int .i64 y.id)] := by
  obtain ⟨f0, f1, f2, hu, t0, t1, t2, o0, o1, o2⟩ := undTok
  obtain ⟨xs, n, _, hx, hl, hxl, hf⟩ := DataW.trod_struct hu h
  rw [cellsTok] at hl
  match xs, hxl, cs, hl with
  | [y0, y1, y2], _, [v0, v1, v2], _ =>
    have g0 := hf 0 f0 rfl
    have g1 := hf 1 f1 rfl
    have g2 := hf 2 f2 rfl
    rw [t0, o0, cells3] at g0
    rw [t1, o1, cells9] at g1
    rw [t2, o2, cells3] at g2
    simp at g0 g1 g2
    obtain ⟨a, e0, d0, w0⟩ := DataW.trod_int Tryz.underlying3 g0
    obtain ⟨s, e1, d1, w1⟩ := DataW.trod_string Tryz.underlying9 g1
    obtain ⟨b, e2, d2, w2⟩ := DataW.trod_int Tryz.underlying3 g2
    simp only [List.cons.injEq, and_true] at e0 e1 e2
    exact ⟨⟨a, s, b⟩, w0, w2, by rw [e0, e1, e2], by rw [hx, d0, d1, d2]; rfl⟩
/-- A text is no longer than what the call's form reaches. -/
theorem textT_le {d : DataW H} {y : It} (hd : d = .agg [.lit (.int .i64 y.k), .lit (.string y.t.data.toList), .lit (.int .i64 y.id)]) (hz : ∀ n ∈ DataW.weights Tryz.prog 43 d, n ≤ reachBytes) : y.t.size ≤ 140737488355328 := by
  obtain ⟨f0, f1, f2, hu, t0, t1, t2, o0, o1, o2⟩ := undTok
  have := hz y.t.data.toList.length (by
    rw [hd, DataW.weights, hu]
    simp [DataW.weightsEach, DataW.weights])
  have e : y.t.data.toList.length = y.t.size := by simp
  rw [e] at this
  unfold reachBytes at this
  omega
theorem opened_tx {v : Value} {d : DataW H} {p : List MemPlace} {b0 : Nat} (hv : Value.okWide Tryz.prog W .any b0 43 v) (h : DataW.Trod enc Tryz.prog W base sp held 43 v d p) (hz : ∀ n ∈ DataW.weights Tryz.prog 43 d, n ≤ reachBytes) : ∃ y : It, y.ok ∧ v = y.v := by
  obtain ⟨fuel, hf⟩ := h
  obtain ⟨y, hk, hi, hc, hd⟩ := read_tok hf
  refine ⟨y, ⟨hk, textT_le hd hz, hi⟩, ?_⟩
  obtain ⟨cs, rfl, _, _⟩ := hv
  have hc' : cs.toList = [Value.int IntKind.i64 y.k, Value.string y.t, Value.int IntKind.i64 y.id] := by simpa [Value.cells] using hc
  unfold It.v
  congr 1
  apply Array.ext'
  simpa using hc'
theorem opened_tf {v : Value} {d : DataW H} {p : List MemPlace} {b0 : Nat} (hv : Value.okWide Tryz.prog W .any b0 23 v) (h : DataW.Trod enc Tryz.prog W base (fun _ => true) held 23 v d p) (hz : ∀ n ∈ DataW.weights Tryz.prog 23 d, n ≤ reachBytes) :
    ∃ (p : Option Addr) (cap : Nat) (l : List It), v = .slice p l.length cap ∧ l.length ≤ cap ∧ cap ≤ maxLen ∧ Its W p l ∧ Oks l := by
  obtain ⟨a0, len, cap, rfl⟩ := okWide_slice Tryz.underlying23 hv
  obtain ⟨fuel, hf⟩ := h
  rcases Go.Deep.open_slice Tryz.underlying23 hf with ⟨hcs, _⟩ | ⟨a, len', cap', m, n, D, Pl, hcs, _, hl, hm, hmm, hd, hx⟩
  · simp [Value.cells] at hcs
    obtain ⟨rfl, rfl, rfl⟩ := hcs
    exact ⟨none, 0, [], rfl, Nat.le_refl _, Nat.zero_le _, Its.nil _ _, fun i hi => by cases hi⟩
  · simp [Value.cells] at hcs
    obtain ⟨rfl, rfl, rfl⟩ := hcs
    have hlm : len ≤ m := by rw [hmm]; simp; exact hl
    have hd' : d = .slice ((List.range len).map D) ((List.range (m - len)).map fun j => D (len + j)) := by simpa using congrArg Prod.fst hd
    have each : ∀ i, ∃ y : It, i < len → y.ok ∧ W.cell? (a.add (i * 3)) = some (.int .i64 y.k) ∧ W.cell? (a.add (i * 3 + 1)) = some (.string y.t) ∧ W.cell? (a.add (i * 3 + 2)) = some (.int .i64 y.id) := fun i => by
      by_cases hi : i < len
      · obtain ⟨cs', h1, h2⟩ := hx i (by omega)
        obtain ⟨y, hk, hid, rfl, hdi⟩ := read_tok h2
        have hz' : ∀ n ∈ DataW.weights Tryz.prog 43 (D i), n ≤ reachBytes := fun n hn => hz n (by
          rw [hd', DataW.weights, Tryz.underlying23]
          exact List.mem_cons_of_mem _ (List.mem_append_left _ (weights_all (List.mem_map.2 ⟨i, by simpa using hi, rfl⟩) hn)))
        rw [cellsTok] at h1
        obtain ⟨_, _, hcell⟩ := World.cells?_some h1
        have e0 := hcell 0 (by omega)
        have e1 := hcell 1 (by omega)
        have e2 := hcell 2 (by omega)
        rw [Go.Deep.add_add] at e0 e1 e2
        exact ⟨y, fun _ => ⟨⟨hk, textT_le hdi hz', hid⟩, by simpa using e0, by simpa using e1, by simpa using e2⟩⟩
      · exact ⟨⟨0, .empty, 0⟩, fun h => absurd h hi⟩
    obtain ⟨f, hf⟩ := Classical.axiomOfChoice each
    refine ⟨some a, cap, (List.range len).map f, by simp, by simpa using hl, hm, fun h0 => ⟨a, rfl, ?_, fun i hi => ?_⟩, fun i hi => ?_⟩
    · have := World.block_lt_of_cell? W _ (hf 0 (by simpa using h0)).2.1
      simpa [add_block] using this
    · have hi' : i < len := by simpa using hi
      simpa using (hf i hi').2
    · have hi' : i < len := by simpa using hi
      simpa using (hf i hi').1
end
end Go.Proofs.YthfgpagmepdblaaGreat
