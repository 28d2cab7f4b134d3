/- Atoms among the arguments. -/
import Derived.Test.YtdnofpllmhnacaaNum
import Derived.Test.YtdnofpllmhnacaaSam
namespace Go.Proofs.Ytdnofpllmhnacaa
open Go.ChangeShapes Go.WideShapes Go.ChangeAt Go.RowKit
set_option linter.unusedVariables false
set_option linter.unusedSimpArgs false
set_option maxRecDepth 100000
theorem cells35 : Try.prog.cellsOf 35 = 32 := by kernel_rfl
theorem cells5 : Try.prog.cellsOf 5 = 1 := by kernel_rfl
theorem cells4' : Try.prog.cellsOf 4 = 1 := by kernel_rfl
theorem cells37 : Try.prog.cellsOf 37 = 34 := by kernel_rfl
section
variable {H : Type} {enc : TypeId × Value → H} {W : World} {base : Nat} {sp : Nat → Bool} {held : Bool}
theorem read_set {fuel : Nat} {cs : List Value} {x : DataW H × List MemPlace} (h : DataW.trod enc Try.prog W base sp held fuel 35 cs = some x) : ∃ S : BSet, cs = setC S := by
  obtain ⟨xs, m, _, hx, hl, hxl, hf⟩ := DataW.trod_array Try.underlying35 h
  rw [cells35] at hl
  have each : ∀ i, ∃ n : Nat, i < 32 → n < 256 ∧ cs[i]? = some (.int .u8 (n : Int)) := fun i => by
    by_cases hi : i < 32
    · have g := hf i hi
      rw [cells5, Nat.mul_one, List.getElem?_eq_getElem (show i < xs.length by omega)] at g
      obtain ⟨n, e, _, hw⟩ := DataW.trod_int Try.underlying5 g
      have hw' : 0 ≤ n ∧ n ≤ 255 := by simpa [Lit.wf, IntKind.min, IntKind.max, IntKind.signed, IntKind.bits] using hw
      refine ⟨n.toNat, fun _ => ⟨by omega, ?_⟩⟩
      have h0 : ((cs.drop i).take 1)[0]? = some (.int .u8 n) := by rw [e]; rfl
      rw [List.getElem?_take_of_lt (by omega), List.getElem?_drop, Nat.add_zero] at h0
      rw [h0, Int.toNat_of_nonneg hw'.1]
    · exact ⟨0, fun h => absurd h hi⟩
  obtain ⟨f, hf⟩ := Classical.axiomOfChoice each
  refine ⟨fun b => (f (b / 8)).testBit (b % 8), List.ext_getElem? fun i => ?_⟩
  by_cases hi : i < 32
  · rw [(hf i hi).2, setC_at _ i hi]
    rw [← byteOf_eq (S := fun b => (f (b / 8)).testBit (b % 8)) (i := i) (n := f i) (hf i hi).1 (fun j hj => by
      show _ = (f ((8 * i + j) / 8)).testBit ((8 * i + j) % 8)
      rw [show (8 * i + j) / 8 = i by omega, show (8 * i + j) % 8 = j by omega])]
  · rw [List.getElem?_eq_none (by omega), List.getElem?_eq_none (by rw [setC_length]; omega)]
theorem und37f : ∃ f0 f1 f2 : Field, Try.prog.underlying 37 = some (.struct #[f0, f1, f2]) ∧ f0.type = 35 ∧ f1.type = 3 ∧ f2.type = 4 ∧ f0.offset = 0 ∧ f1.offset = 32 ∧ f2.offset = 33 := ⟨_, _, _, Try.underlying37, rfl, rfl, rfl, rfl, rfl, rfl⟩
theorem read_atom {fuel : Nat} {cs : List Value} {x : DataW H × List MemPlace} (h : DataW.trod enc Try.prog W base sp held fuel 37 cs = some x) :
    ∃ y : At, (Lit.int .i64 y.mn).wf = true ∧ cs = y.cs := by
  obtain ⟨f0, f1, f2, hu, t0, t1, t2, o0, o1, o2⟩ := und37f
  obtain ⟨xs, n, _, hx, hl, hxl, hf⟩ := DataW.trod_struct hu h
  rw [cells37] at hl
  match xs, hxl with
  | [y0, y1, y2], _ =>
    have g0 := hf 0 f0 rfl
    have g1 := hf 1 f1 rfl
    have g2 := hf 2 f2 rfl
    rw [t0, o0, cells35] at g0
    rw [t1, o1, cells3] at g1
    rw [t2, o2, cells4'] at g2
    obtain ⟨S, e0⟩ := read_set g0
    obtain ⟨b, e1, d1, w1⟩ := DataW.trod_int Try.underlying3 g1
    obtain ⟨c, e2, d2⟩ := DataW.trod_bool Try.underlying4 g2
    refine ⟨⟨S, b, c⟩, w1, ?_⟩
    have s0 : cs = cs.take 32 ++ cs.drop 32 := (List.take_append_drop 32 cs).symm
    have s1 : cs.drop 32 = (cs.drop 32).take 1 ++ cs.drop 33 := by
      have := (List.take_append_drop 1 (cs.drop 32)).symm
      rwa [List.drop_drop] at this
    have s2 : cs.drop 33 = (cs.drop 33).take 1 := (List.take_of_length_le (by rw [List.length_drop]; omega)).symm
    rw [List.drop_zero] at e0
    rw [s0, s1, s2, e0, e1, e2]
    rfl
theorem opened_atoms {v : Value} {d : DataW H} {p : List MemPlace} {b0 : Nat} (hv : Value.okWide Try.prog W .any b0 26 v) (h : DataW.Trod enc Try.prog W base (fun _ => true) held 26 v d p) :
    ∃ (p : Option Addr) (cap : Nat) (l : List At), v = .slice p l.length cap ∧ l.length ≤ cap ∧ cap ≤ maxLen ∧ Ats W p l ∧ wfA l := by
  obtain ⟨a0, len, cap, rfl⟩ := okWide_slice Try.underlying26 hv
  obtain ⟨fuel, hf⟩ := h
  rcases Go.Deep.open_slice Try.underlying26 hf with ⟨hcs, _⟩ | ⟨a, len', cap', m, n, D, Pl, hcs, _, hl, hm, hmm, hd, hx⟩
  · simp [Value.cells] at hcs
    obtain ⟨rfl, rfl, rfl⟩ := hcs
    exact ⟨none, 0, [], rfl, Nat.le_refl _, Nat.zero_le _, fun h => absurd h (Nat.lt_irrefl 0), fun i hi => absurd hi (Nat.not_lt_zero i)⟩
  · simp [Value.cells] at hcs
    obtain ⟨rfl, rfl, rfl⟩ := hcs
    have hlm : len ≤ m := by rw [hmm]; simp; exact hl
    have each : ∀ i, ∃ y : At, i < len → (Lit.int .i64 y.mn).wf = true ∧ ∀ j, j < 34 → W.cell? ((a.add (i * 34)).add j) = y.cs[j]? := fun i => by
      by_cases hi : i < len
      · obtain ⟨cs', h1, h2⟩ := hx i (by omega)
        obtain ⟨y, hk, rfl⟩ := read_atom h2
        rw [cells37] at h1
        obtain ⟨_, _, hcell⟩ := World.cells?_some h1
        exact ⟨y, fun _ => ⟨hk, hcell⟩⟩
      · exact ⟨⟨fun _ => false, 0, false⟩, fun h => absurd h hi⟩
    obtain ⟨f, hf⟩ := Classical.axiomOfChoice each
    refine ⟨some a, cap, (List.range len).map f, by simp, by simpa using hl, hm, fun h0 => ?_, fun i hi => ?_⟩
    · have h0' : 0 < len := by simpa using h0
      have hc := (hf 0 h0').2 0 (by omega)
      rw [Nat.zero_mul, List.getElem?_eq_getElem (show 0 < (f 0).cs.length by rw [At.cs_length]; omega)] at hc
      have hc' : W.cell? a = some ((f 0).cs[0]'(by rw [At.cs_length]; omega)) := by
        have e : (a.add 0).add 0 = a := by simp [Addr.add]
        rwa [e] at hc
      obtain ⟨b, o, spot⟩ := a
      have hs : spot = none := World.cell?_spot hc'
      subst hs
      have hlt := World.block_lt_of_cell? W _ hc'
      refine ⟨b, o, rfl, hlt, fun i hi j u hu => ?_⟩
      have hi' : i < len := by simpa using hi
      have hju : (f i).cs[j]? = some u := by simpa using hu
      have hj : j < 34 := by
        have := (List.getElem?_eq_some_iff.1 hju).1
        rwa [At.cs_length] at this
      have := (hf i hi').2 j hj
      rw [Addr.add_mid, Addr.add_mid, hju] at this
      exact this
    · have hi' : i < len := by simpa using hi
      simpa using (hf i hi').1
end
end Go.Proofs.Ytdnofpllmhnacaa
