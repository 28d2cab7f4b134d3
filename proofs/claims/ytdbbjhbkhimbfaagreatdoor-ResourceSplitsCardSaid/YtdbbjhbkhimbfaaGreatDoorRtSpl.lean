/- Items and fragments among the arguments, read at whatever bases. Plain mathematics of ResourceLines: what the file of two lines is divided into. Plain mathematics of ResourceParts: what a document that could be divided is made of; a generated document can be divided. The contract of the reference's Decimal for one digit. The contract of the generator's documents at the format of resources. The contract of the reference's SameParts, at parts that are the same. The walk of ResourceSplits. The law ResourceSplits holds for every input. -/
import Derived.Test.YtdbbjhbkhimbfaaGreatDoorArg
import Derived.Test.YtdbbjhbkhimbfaaGreatDoorRtU
import Derived.Test.YtdbbjhbkhimbfaaGreatDoorRtD
import Derived.BigQuiet
import Derived.Deep.QuietTactic
import Derived.Test.YtdbbjhbkhimbfaaGreatDoorRtW
import Derived.Test.YtdbbjhbkhimbfaaGreatDoorRows
import Derived.WalkKit
import Derived.ProofKit
import Derived.OpenShut
import Derived.ChangeOld
import Derived.Below
import Derived.Carry
import Derived.SizedLaws
import Derived.Test.YtdbbjhbkhimbfaaGreatDoorCards
import Derived.Test.YtdbbjhbkhimbfaaGreatDoorTie
import Derived.Stop.Joined
import Derived.SevenTiedAt
import Derived.Lay
import Derived.MakeChecks
namespace Go.Proofs.YtdbbjhbkhimbfaaGreatDoor
open Go.ChangeShapes Go.WideShapes Go.ChangeAt Go.RowKit
set_option linter.unusedVariables false
set_option maxRecDepth 100000
section
variable {H : Type} {enc : TypeId × Value → H} {W : World} {base : Nat} {sp : Nat → Bool} {held : Bool}
theorem opened_x {v : Value} {d : DataW H} {p : List MemPlace} {b0 : Nat} (hv : Value.okWide Tryz.prog W .any b0 43 v) (h : DataW.Trod enc Tryz.prog W base sp held 43 v d p) (hz : ∀ n ∈ DataW.weights Tryz.prog 43 d, n ≤ reachBytes) : ∃ y : It, y.ok ∧ v = y.v := by
  obtain ⟨fuel, hf⟩ := h
  obtain ⟨y, hk, hi, hc, hd⟩ := read_item hf
  refine ⟨y, ⟨hk, text_le hd hz, hi⟩, ?_⟩
  obtain ⟨cs, rfl, _, _⟩ := hv
  have hc' : cs.toList = [Value.int IntKind.i64 y.k, Value.string y.t, Value.int IntKind.i64 y.id] := by simpa [Value.cells] using hc
  unfold It.v
  congr 1
  apply Array.ext'
  simpa using hc'
theorem opened_f {v : Value} {d : DataW H} {p : List MemPlace} {b0 : Nat} (hv : Value.okWide Tryz.prog W .any b0 37 v) (h : DataW.Trod enc Tryz.prog W base (fun _ => true) held 37 v d p) (hz : ∀ n ∈ DataW.weights Tryz.prog 37 d, n ≤ reachBytes) :
    ∃ (p : Option Addr) (cap : Nat) (l : List It), v = .slice p l.length cap ∧ l.length ≤ cap ∧ cap ≤ maxLen ∧ Its W p l ∧ Oks l := by
  obtain ⟨a0, len, cap, rfl⟩ := okWide_slice Tryz.underlying37 hv
  obtain ⟨fuel, hf⟩ := h
  rcases Go.Deep.open_slice Tryz.underlying37 hf with ⟨hcs, _⟩ | ⟨a, len', cap', m, n, D, Pl, hcs, _, hl, hm, hmm, hd, hx⟩
  · simp [Value.cells] at hcs
    obtain ⟨rfl, rfl, rfl⟩ := hcs
    exact ⟨none, 0, [], rfl, Nat.le_refl _, Nat.zero_le _, Its.nil _ _, fun i hi => by cases hi⟩
  · simp [Value.cells] at hcs
    obtain ⟨rfl, rfl, rfl⟩ := hcs
    have hlm : len ≤ m := by rw [hmm]; simp; exact hl
    have hd' : d = .slice ((List.range len).map D) ((List.range (m - len)).map fun j => D (len + j)) := by simpa using congrArg Prod.fst hd
    have each : ∀ i, ∃ y : It, i < len → y.ok ∧ W.cell? (a.add (i * 3)) = some (.int .i64 y.k) ∧ W.cell? (a.add (i * 3 + 1)) = some (.string y.t) ∧ W.cell? (a.add (i * 3 + 2)) = some (.int .i64 y.id) := fun i => by
      by_cases hi : i < len
      · obtain ⟨cs', h1, h2⟩ := hx i (by omega)
        obtain ⟨y, hk, hid, rfl, hdi⟩ := read_item h2
        have hz' : ∀ n ∈ DataW.weights Tryz.prog 43 (D i), n ≤ reachBytes := fun n hn => hz n (by
          rw [hd', DataW.weights, Tryz.underlying37]
          exact List.mem_cons_of_mem _ (List.mem_append_left _ (weights_all (List.mem_map.2 ⟨i, by simpa using hi, rfl⟩) hn)))
        rw [cells26] at h1
        obtain ⟨_, _, hcell⟩ := World.cells?_some h1
        have e0 := hcell 0 (by omega)
        have e1 := hcell 1 (by omega)
        have e2 := hcell 2 (by omega)
        rw [Go.Deep.add_add] at e0 e1 e2
        exact ⟨y, fun _ => ⟨⟨hk, text_le hdi hz', hid⟩, by simpa using e0, by simpa using e1, by simpa using e2⟩⟩
      · exact ⟨⟨0, .empty, 0⟩, fun h => absurd h hi⟩
    obtain ⟨f, hf⟩ := Classical.axiomOfChoice each
    refine ⟨some a, cap, (List.range len).map f, by simp, by simpa using hl, hm, fun h0 => ⟨a, rfl, ?_, fun i hi => ?_⟩, fun i hi => ?_⟩
    · have := World.block_lt_of_cell? W _ (hf 0 (by simpa using h0)).2.1
      simpa [add_block] using this
    · have hi' : i < len := by simpa using hi
      simpa using (hf i hi').2
    · have hi' : i < len := by simpa using hi
      simpa using (hf i hi').1
end
end Go.Proofs.YtdbbjhbkhimbfaaGreatDoor
namespace Go.Proofs.YtdbbjhbkhimbfaaGreatDoor
set_option linter.unusedVariables false
open Go.Lib

theorem rest_bsL (l : List UInt8) (p : Nat) : restD (bsL l) p = l.drop p := by unfold restD; rw [bsL_list]
theorem encR_short (f : List It) : (encR f).length ≤ 2 * txtI f + 2 * f.length := by
  unfold encR
  induction f with
  | nil => exact Nat.zero_le _
  | cons x t ih =>
    rw [List.flatMap_cons, List.length_append, List.length_cons]
    have hs : x.t.data.toList.length = x.t.size := by simp
    have e : txtI (x :: t) = x.t.size + txtI t := rfl
    have h1 : (e1R x).length ≤ 2 * x.t.size + 2 := by
      unfold e1R
      split
      · have := encT_len x.t.data.toList
        unfold encT at this; omega
      · simp only [List.length_cons, List.length_append, List.length_nil, hs]; omega
    omega
theorem esc1_len (l : List UInt8) : (esc1 l).length ≤ l.length + 1 := by
  cases l with
  | nil => exact Nat.zero_le _
  | cons c t =>
    show (if c = 32 then _ else _ : List UInt8).length ≤ _
    split <;> simp
theorem gapL_len (k : Nat) : (gapL k).length = 2 + k := by simp [gapL]; omega
/-- The file. -/
def linesD (V : List UInt8) : List UInt8 := 107 :: 61 :: (V ++ [10, 122, 61])
theorem skip_key (a : UInt8) (t : List UInt8) (h1 : blB a = false) (h2 : (a == 10 || a == 35) = false) : skipL (a :: t) = false := by
  have : blanks (a :: t) = [] := by unfold blanks; rw [List.takeWhile_cons, h1]; rfl
  unfold skipL; rw [this]; exact h2
theorem upto_key (a : UInt8) (t : List UInt8) (h : a ≠ 61) : upto 61 (a :: 61 :: t) = [a] ∧ hasU 61 (a :: 61 :: t) = true :=
  ⟨upto_app 61 [a] t (fun x hx => by rw [List.mem_singleton.1 hx]; exact h), has_app 61 [a] t (fun x hx => by rw [List.mem_singleton.1 hx]; exact h)⟩
theorem spl_lines {V : List UInt8} (hs : Safe V) (hd : (dec elR V).2.2.2 = 0) (hl : V.length ≤ 60000) : ∃ x y u z, splR (bsL (linesD V)) = ([x, ⟨true, ⟨#[107]⟩, bsL V⟩, y, ⟨true, ⟨#[122]⟩, u⟩, z], 0, 0) := by
  have hlen : (linesD V).length = V.length + 5 := by unfold linesD; simp
  have h0 : (linesD V).drop 0 = 107 :: 61 :: (V ++ [10, 122, 61]) := rfl
  have h2 : (linesD V).drop 2 = V ++ [10, 122, 61] := rfl
  have h3 : (linesD V).drop (2 + V.length) = [10, 122, 61] := by
    rw [← List.drop_drop, h2, List.drop_left]
  have h4 : (linesD V).drop (2 + V.length + 1) = [122, 61] := by
    rw [← List.drop_drop, h3]; rfl
  have h5 : (linesD V).drop (2 + V.length + 1 + 2) = [] := by
    rw [← List.drop_drop, h4]; rfl
  generalize hD : bsL (linesD V) = D
  have hsz : D.size = V.length + 5 := by rw [← hD, bsL_size, hlen]
  have hrest : ∀ p, restD D p = (linesD V).drop p := fun p => by rw [← hD, rest_bsL]
  have hex : D.extract 2 (2 + V.length) = bsL V := by
    have : (D.extract 2 (2 + V.length)).data.toList = V := by
      rw [show (D.extract 2 (2 + V.length)).data.toList = (D.data.toList.drop 2).take (2 + V.length - 2) from by simp [ByteArray.extract, ByteArray.copySlice]]
      have e : D.data.toList.drop 2 = V ++ [10, 122, 61] := (hrest 2).trans h2
      rw [e, show 2 + V.length - 2 = V.length by omega, List.take_left]
    rw [← bsL_of (D.extract 2 (2 + V.length)), this]
  obtain ⟨k1, k2⟩ := upto_key 107 (V ++ [10, 122, 61]) (by decide)
  obtain ⟨k3, k4⟩ := upto_key 122 [] (by decide)
  have r0 : restD D 0 = 107 :: 61 :: (V ++ [10, 122, 61]) := hrest 0
  have ra0 : rawAt D 0 = 2 := by unfold rawAt; rw [r0, k1]; rfl
  have rn0 : rawN D 0 = V.length := by
    unfold rawN; rw [ra0, hrest, h2, hs, rawL_10]; omega
  have ka0 : keyAt D 0 = ⟨#[107]⟩ := by unfold keyAt; rw [r0, k1]; rfl
  have rd0 : rawD D 0 = V := by unfold rawD; rw [ra0, rn0, hrest, h2, List.take_left]
  have r1 : restD D (2 + V.length + 1) = [122, 61] := (hrest _).trans h4
  have ra1 : rawAt D (2 + V.length + 1) = 2 + V.length + 1 + 2 := by unfold rawAt; rw [r1, k3]; rfl
  have rn1 : rawN D (2 + V.length + 1) = 0 := by unfold rawN; rw [ra1, hrest, h5]; rfl
  have ka1 : keyAt D (2 + V.length + 1) = ⟨#[122]⟩ := by unfold keyAt; rw [r1, k3]; rfl
  have rd1 : rawD D (2 + V.length + 1) = [] := by unfold rawD; rw [ra1, rn1, hrest, h5]; rfl
  unfold splR
  rw [if_neg (by omega)]
  rw [spl_unit D [] 0 0 (by omega) (by rw [r0]; exact skip_key 107 _ (by decide) (by decide)) (by rw [r0]; unfold keyK; rw [k1, k2]; decide) rfl (by rw [rd0]; exact hd), ra0, rn0, ka0, hex]
  rw [spl_unit D _ _ (2 + V.length + 1) (by omega) (by rw [r1]; exact skip_key 122 _ (by decide) (by decide)) (by rw [r1]; decide) (by rw [ka1]; unfold hasK; simp [skel]) (by rw [rd1]; rfl), ra1, rn1, ka1]
  rw [spl_end D _ _ _ (by omega)]
  exact ⟨_, _, _, _, rfl⟩
end Go.Proofs.YtdbbjhbkhimbfaaGreatDoor
namespace Go.Proofs.YtdbbjhbkhimbfaaGreatDoor
set_option linter.unusedVariables false
open Go.Lib

/-- The parts so far: skeleton and units by turns, whose bytes are the first ones, and every unit can be decoded. -/
structure PInv (D : ByteArray) (ps : List Pt) (a : Nat) : Prop where
  even : ps.length % 2 = 0
  alt : ∀ i (h : i < ps.length), (ps[i]'h).u = decide (i % 2 = 1) ∧ (((ps[i]'h).key = .empty) ↔ (ps[i]'h).u = false) ∧ ((ps[i]'h).u = true → (dec elR (ps[i]'h).raw.data.toList).2.2.2 = 0)
  cat : ps.flatMap (fun x => x.raw.data.toList) = D.data.toList.take a
  le : a ≤ D.size
/-- What the parts of a document are. -/
structure POk (D : ByteArray) (ps : List Pt) : Prop where
  odd : ps.length % 2 = 1
  alt : ∀ i (h : i < ps.length), (ps[i]'h).u = decide (i % 2 = 1) ∧ (((ps[i]'h).key = .empty) ↔ (ps[i]'h).u = false) ∧ ((ps[i]'h).u = true → (dec elR (ps[i]'h).raw.data.toList).2.2.2 = 0)
  cat : ps.flatMap (fun x => x.raw.data.toList) = D.data.toList
theorem ext_list (D : ByteArray) (a b : Nat) : (D.extract a b).data.toList = (D.data.toList.drop a).take (b - a) := by simp [ByteArray.extract, ByteArray.copySlice]
theorem take_more (l : List UInt8) (a b : Nat) (h : a ≤ b) : l.take a ++ (l.drop a).take (b - a) = l.take b := by
  conv => rhs; rw [show b = a + (b - a) by omega, List.take_add]
theorem PInv.start (D : ByteArray) : PInv D [] 0 := ⟨rfl, fun i h => (by cases h), rfl, Nat.zero_le _⟩
theorem PInv.done {D : ByteArray} {ps : List Pt} {a : Nat} (h : PInv D ps a) : POk D (ps ++ [skel D a D.size]) := by
  refine ⟨by rw [List.length_append]; have := h.even; simp; omega, fun i hi => ?_, ?_⟩
  · rw [List.length_append] at hi
    by_cases hl : i < ps.length
    · rw [List.getElem_append_left hl]; exact h.alt i hl
    · have hi2 : i = ps.length := by simp at hi; omega
      subst hi2
      rw [List.getElem_append_right (Nat.le_refl _)]
      have he := h.even
      simp only [Nat.sub_self, List.getElem_cons_zero]
      refine ⟨?_, ⟨fun _ => rfl, fun _ => rfl⟩, fun hu => by cases hu⟩
      show false = _
      rw [decide_eq_false (by omega)]
  · rw [List.flatMap_append, h.cat]
    show _ ++ ((D.extract a D.size).data.toList ++ []) = _
    rw [List.append_nil, ext_list, take_more _ _ _ h.le, List.take_of_length_le (by simp)]
theorem PInv.unit {D : ByteArray} {ps : List Pt} {a b c : Nat} {key : ByteArray} (h : PInv D ps a) (h1 : a ≤ b) (h2 : b ≤ c) (h3 : c ≤ D.size) (hk : key ≠ .empty) (hd : (dec elR (D.extract b c).data.toList).2.2.2 = 0) : PInv D (ps ++ [skel D a b, ⟨true, key, D.extract b c⟩]) c := by
  have he := h.even
  refine ⟨by rw [List.length_append]; show (ps.length + 2) % 2 = 0; omega, fun i hi => ?_, ?_, h3⟩
  · rw [List.length_append] at hi
    by_cases hl : i < ps.length
    · rw [List.getElem_append_left hl]; exact h.alt i hl
    · rw [List.getElem_append_right (by omega)]
      have hi2 : i = ps.length ∨ i = ps.length + 1 := by simp at hi; omega
      rcases hi2 with rfl | rfl
      · simp only [Nat.sub_self, List.getElem_cons_zero]
        refine ⟨?_, ⟨fun _ => rfl, fun _ => rfl⟩, fun hu => by cases hu⟩
        show false = _
        rw [decide_eq_false (by omega)]
      · simp only [Nat.add_sub_cancel_left, List.getElem_cons_succ, List.getElem_cons_zero]
        refine ⟨?_, ⟨fun e => absurd e hk, fun e => by cases e⟩, fun _ => hd⟩
        show true = _
        rw [decide_eq_true (by omega)]
  · rw [List.flatMap_append, h.cat]
    show _ ++ ((D.extract a b).data.toList ++ ((D.extract b c).data.toList ++ [])) = _
    rw [List.append_nil, ext_list, ext_list, ← List.append_assoc, take_more _ _ _ h1, take_more _ _ _ h2]
theorem key_ne_empty {D : ByteArray} {p : Nat} (h : keyK (restD D p) = true) : keyAt D p ≠ .empty := fun e => by
  unfold keyK at h
  simp only [Bool.and_eq_true, decide_eq_true_eq] at h
  have h1 := h.1.2
  have h2 : (keyAt D p).size = 0 := by rw [e]; rfl
  unfold keyAt at h2
  rw [bsL_size] at h2
  omega
/-- What could be divided. -/
theorem spl_parts (D : ByteArray) : ∀ (m : Nat) (ps : List Pt) (a p : Nat), D.size ≤ p + m → PInv D ps a → a ≤ p → (spl D ps a p).2.2 = 0 → POk D (spl D ps a p).1 := by
  intro m
  induction m with
  | zero =>
    intro ps a p hm hI _ _
    rw [spl_end D ps a p (by omega)]; exact hI.done
  | succ m ih =>
    intro ps a p hm hI hap h0
    by_cases hp : D.size ≤ p
    · rw [spl_end D ps a p hp]; exact hI.done
    have hp : p < D.size := by omega
    cases hs : skipL (restD D p) with
    | true =>
      rw [spl_skip D ps a p hp hs] at h0 ⊢
      exact ih _ _ _ (by omega) hI (by omega) h0
    | false =>
      cases hk : keyK (restD D p) with
      | false => rw [spl_nokey D ps a p hp hs hk] at h0; cases h0
      | true =>
        cases hh : hasK ps (keyAt D p) with
        | true => rw [spl_twice D ps a p hp hs hk hh] at h0; cases h0
        | false =>
          by_cases hd : (dec elR (rawD D p)).2.2.2 = 0
          · rw [spl_unit D ps a p hp hs hk hh hd] at h0 ⊢
            have hr := rawAt_gt D p
            have hin := key_in D p hk
            have hrn := rawN_le D p
            have hrd : (D.extract (rawAt D p) (rawAt D p + rawN D p)).data.toList = rawD D p := by
              unfold rawD restD; rw [ext_list, Nat.add_sub_cancel_left]
            exact ih _ _ _ (by omega) (hI.unit (by omega) (by omega) (by omega) (key_ne_empty hk) (by rw [hrd]; exact hd)) (by omega) h0
          · rw [spl_bad D ps a p hp hs hk hh hd] at h0; exact absurd h0 hd
theorem splR_parts (D : ByteArray) (h : (splR D).2.2 = 0) : POk D (splR D).1 := by
  unfold splR at h ⊢
  by_cases hb : 65536 < D.size
  · rw [if_pos hb] at h; cases h
  · rw [if_neg hb] at h ⊢
    exact spl_parts D D.size [] 0 0 (by omega) (PInv.start D) (Nat.le_refl _) h
theorem spl_fail (D : ByteArray) : ∀ (m : Nat) (ps : List Pt) (a p : Nat), D.size ≤ p + m → (spl D ps a p).2.2 ≠ 0 → (spl D ps a p).1 = [] := by
  intro m
  induction m with
  | zero => intro ps a p hm h; rw [spl_end D ps a p (by omega)] at h; exact absurd rfl h
  | succ m ih =>
    intro ps a p hm h
    by_cases hp : D.size ≤ p
    · rw [spl_end D ps a p hp] at h; exact absurd rfl h
    have hp : p < D.size := by omega
    cases hs : skipL (restD D p) with
    | true => rw [spl_skip D ps a p hp hs] at h ⊢; exact ih _ _ _ (by omega) h
    | false =>
      cases hk : keyK (restD D p) with
      | false => rw [spl_nokey D ps a p hp hs hk]
      | true =>
        cases hh : hasK ps (keyAt D p) with
        | true => rw [spl_twice D ps a p hp hs hk hh]
        | false =>
          by_cases hd : (dec elR (rawD D p)).2.2.2 = 0
          · rw [spl_unit D ps a p hp hs hk hh hd] at h ⊢
            have hr := rawAt_gt D p
            exact ih _ _ _ (by omega) h
          · rw [spl_bad D ps a p hp hs hk hh hd]
theorem splR_fail (D : ByteArray) (h : (splR D).2.2 ≠ 0) : (splR D).1 = [] := by
  unfold splR at h ⊢
  by_cases hb : 65536 < D.size
  · rw [if_pos hb]
  · rw [if_neg hb] at h ⊢
    exact spl_fail D D.size [] 0 0 (by omega) h

/-- The key of the i-th unit of a generated document. -/
def kB (i : Nat) : List UInt8 := [107, UInt8.ofNat (48 + i)]
/-- Bytes behind which a document goes on: the keys 1 to n have not occurred. -/
def PD (n : Nat) (r : List UInt8) : Prop := ∀ (D : ByteArray) (ps : List Pt) (a p : Nat), restD D p = r → p ≤ D.size → (∀ i, 1 ≤ i → i ≤ n → hasK ps (bsL (kB i)) = false) → (spl D ps a p).2 = (0, 0)
theorem rest_size {D : ByteArray} {p : Nat} {r : List UInt8} (h : restD D p = r) (hp : p ≤ D.size) : p + r.length = D.size := by rw [← h, restD_len]; omega
theorem PD.nil (n : Nat) : PD n [] := fun D ps a p h hp _ => by
  have := rest_size h hp
  rw [spl_end D ps a p (by simp at this; omega)]
theorem rest_drop {D : ByteArray} {p k : Nat} {r : List UInt8} (h : restD D p = r) : restD D (p + k) = r.drop k := by rw [← h]; unfold restD; rw [List.drop_drop]
theorem PD.skip {n : Nat} {l r : List UInt8} (h : PD n r) (h1 : ∀ c ∈ l, c ≠ 10) (h2 : ∀ s, skipL (l ++ 10 :: s) = true) : PD n (l ++ 10 :: r) := fun D ps a p hr hp hk => by
  have hz := rest_size hr hp
  rw [List.length_append, List.length_cons] at hz
  rw [spl_skip D ps a p (by omega) (by rw [hr]; exact h2 r), hr, upto_app 10 l r h1]
  refine h D ps a (p + l.length + 1) ?_ (by omega) hk
  rw [Nat.add_assoc, rest_drop hr, ← List.drop_drop, List.drop_left]; rfl
theorem kB_ne (i j : Nat) (hi : i ≤ 9) (hj : j ≤ 9) (h : i ≠ j) : bsL (kB i) ≠ bsL (kB j) := fun e => by
  have h1 : kB i = kB j := by rw [← bsL_list (kB i), e, bsL_list]
  unfold kB at h1
  injection h1 with _ h1
  injection h1 with h1 _
  have := congrArg UInt8.toNat h1
  rw [UInt8.toNat_ofNat', UInt8.toNat_ofNat'] at this
  omega
theorem PD.unit {n : Nat} {raw r : List UInt8} (hn : n + 1 ≤ 9) (hs : Safe raw) (hd : (dec elR raw).2.2.2 = 0) (h : PD n r) : PD (n + 1) (kB (n + 1) ++ 61 :: (raw ++ 10 :: r)) := fun D ps a p hr hp hk => by
  have hz := rest_size hr hp
  rw [List.length_append, List.length_cons, List.length_append, List.length_cons] at hz
  have hkl : (kB (n + 1)).length = 2 := rfl
  have hdg : (UInt8.ofNat (48 + (n + 1))).toNat = 48 + (n + 1) := by rw [UInt8.toNat_ofNat']; omega
  have hne : ∀ c ∈ kB (n + 1), c ≠ 61 := fun c hc => by
    unfold kB at hc
    rcases List.mem_cons.1 hc with rfl | hc
    · decide
    · obtain rfl := List.mem_singleton.1 hc
      intro e
      have := congrArg UInt8.toNat e
      rw [hdg] at this
      have e61 : (61 : UInt8).toNat = 61 := rfl
      omega
  have hu : upto 61 (restD D p) = kB (n + 1) := by rw [hr]; exact upto_app 61 _ _ hne
  have hra : rawAt D p = p + 3 := by unfold rawAt; rw [hu, hkl]
  have hrest : restD D (p + 3) = raw ++ 10 :: r := by rw [rest_drop hr]; rfl
  have hrn : rawN D p = raw.length := by unfold rawN; rw [hra, hrest, hs, rawL_10, Nat.add_zero]
  have hrd : rawD D p = raw := by unfold rawD; rw [hra, hrn, hrest, List.take_left]
  have hkey : keyAt D p = bsL (kB (n + 1)) := by unfold keyAt; rw [hu]
  have hsk : skipL (restD D p) = false := by
    rw [hr]
    unfold skipL kB
    simp [blanks, blB]
  have hky : keyK (restD D p) = true := by
    have hh : hasU 61 (restD D p) = true := by rw [hr]; exact has_app 61 _ _ hne
    have hall : (kB (n + 1)).all keyB = true := by
      unfold kB
      rw [List.all_cons, List.all_cons, List.all_nil, Bool.and_true]
      have h1 : keyB 107 = true := by decide
      have h2 : keyB (UInt8.ofNat (48 + (n + 1))) = true := by
        unfold keyB
        rw [hdg]
        simp; omega
      rw [h1, h2]; rfl
    unfold keyK
    rw [hh, hu, hall, hkl]; rfl
  rw [spl_unit D ps a p (by omega) hsk hky (by rw [hkey]; exact hk (n + 1) (by omega) (Nat.le_refl _)) (by rw [hrd]; exact hd), hra, hrn, hkey]
  refine h D _ _ (p + 3 + raw.length + 1) ?_ (by omega) (fun i h1 h2 => ?_)
  · rw [Nat.add_assoc, rest_drop hrest, ← List.drop_drop, List.drop_left]; rfl
  · rw [hasK_app _ _ _ _ rfl rfl, hk i h1 (by omega), Bool.false_or]
    exact decide_eq_false (kB_ne (n + 1) i (by omega) (by omega) (by omega))
theorem shR_safe {x : It} (h : One x) (hf : Flat x) : Safe (shR (e1R x)) := by
  have h1 := e1R_safe h hf
  unfold shR
  split
  · rename_i h32
    cases hx : e1R x with
    | nil => rw [hx] at h32; cases h32
    | cons c t =>
      rw [hx] at h32 h1
      injection h32 with h32
      subst h32
      have ht : Safe t := fun r => by
        have := h1 r
        rw [List.cons_append, rawL_c _ _ (by decide) (by decide), List.length_cons] at this
        omega
      exact Safe.append (u := [92, 115]) (Safe.esc 115) ht
  · exact h1
theorem pie_safe {x : It} (h : One x) (hf : Flat x) {t : List UInt8} (ht : PieR x t) : Safe t := by
  rcases ht with rfl | ⟨rfl, rfl⟩ | ⟨g, hg, rfl⟩
  · exact e1R_safe h hf
  · exact Safe.esc 115
  · have hgs : Safe g := Safe.all (fun c hc => by
      have := hg.blank c hc
      unfold blB at this
      simp at this
      rcases this with e | e <;> subst e <;> decide)
    exact Safe.append (u := [92, 10]) (Safe.esc 10) (hgs.append (shR_safe h hf))
theorem raws_safe {f : List It} (h : valE f = 0) (ht : NoT f) {raw : List UInt8} (hr : RawsR (expI f) raw) : Safe raw ∧ (dec elR raw).2.2.2 = 0 := by
  obtain ⟨ws, e1, e2, e3⟩ := hr
  refine ⟨?_, ?_⟩
  · rw [e1]
    unfold flatW
    refine Safe.flat _ _ (fun w hw => ?_)
    have hm : w.2 ∈ expI f := by rw [← e2]; exact List.mem_map.2 ⟨w, hw, rfl⟩
    have := exp_flat (valE_zero h).2.2 ht w.2 hm
    exact pie_safe this.1 this.2 (e3 w hw)
  · obtain ⟨ws', _, _, _, hd⟩ := raws_words h ht ⟨ws, e1, e2, e3⟩
    rw [hd]
/-- A text so far, with n units to come. -/
def PQ (K n : Nat) (C : List UInt8) : Prop := ∀ r, PD n r → PD K (C ++ r)
theorem PQ.start {K : Nat} (C : List UInt8) (h : C = [] ∨ C = [35, 32, 99, 10] ∨ C = [10, 32, 10]) : PQ K K C := fun r hr => by
  rcases h with rfl | rfl | rfl
  · exact hr
  · exact PD.skip (l := [35, 32, 99]) hr (by decide) (fun s => by simp [skipL, blanks, blB])
  · have h1 : PD K ([32] ++ 10 :: r) := PD.skip (l := [32]) hr (by decide) (fun s => by simp [skipL, blanks, blB])
    exact PD.skip (l := []) h1 (by decide) (fun s => by simp [skipL, blanks, blB])
theorem PQ.unit {K n : Nat} {C raw tl : List UInt8} (h : PQ K (n + 1) C) (hn : n + 1 ≤ 9) (hs : Safe raw) (hd : (dec elR raw).2.2.2 = 0) (ht : tl = [] ∨ tl = [35, 120, 10] ∨ tl = [10]) : PQ K n (C ++ (kB (n + 1) ++ 61 :: (raw ++ 10 :: tl))) := fun r hr => by
  have h1 : PD n (tl ++ r) := by
    rcases ht with rfl | rfl | rfl
    · exact hr
    · exact PD.skip (l := [35, 120]) hr (by decide) (fun s => by simp [skipL, blanks, blB])
    · exact PD.skip (l := []) hr (by decide) (fun s => by simp [skipL, blanks, blB])
  have h2 := h _ (PD.unit hn hs hd h1)
  rw [show (C ++ (kB (n + 1) ++ 61 :: (raw ++ 10 :: tl))) ++ r = C ++ (kB (n + 1) ++ 61 :: (raw ++ 10 :: (tl ++ r))) by simp]
  exact h2
theorem PQ.done {K : Nat} {C : List UInt8} (h : PQ K 0 C) (hz : C.length ≤ 65536) : (splR (bsL C)).2.2 = 0 := by
  have h1 := h [] (PD.nil 0)
  rw [List.append_nil] at h1
  have h2 := h1 (bsL C) [] 0 0 (by unfold restD; rw [bsL_list]; rfl) (Nat.zero_le _) (fun _ _ _ => rfl)
  unfold splR
  rw [if_neg (by rw [bsL_size]; omega), h2]
end Go.Proofs.YtdbbjhbkhimbfaaGreatDoor
namespace Go.Proofs.YtdbbjhbkhimbfaaGreatDoor
open Go.ChangeShapes Go.WideShapes Go.ChangeAt Go.RowKit
set_option linter.unusedVariables false
set_option linter.unusedSimpArgs false
set_option maxRecDepth 100000

/-- The digit of a small number. -/
def dgB (i : Nat) : List UInt8 := [UInt8.ofNat (48 + i)]
theorem refdec1 (w : World) : Calls Tryz.prog 35 #[.int .i64 1] w fun e w' => e = .returned (.string (bsL (dgB 1))) ∧ Below w.heap.size w w' := by
  have hcv : (convert 50 9 (.slice (some ⟨w.heap.size, 0, none⟩) 1 1)).run Tryz.prog (w.alloc (.cells #[.int .u8 49] 5)) = .ok (.string ⟨#[49]⟩) (w.alloc (.cells #[.int .u8 49] 5)) := rconv_byte w 49
  go_enter Tryz.func35, Tryz.ntmps35
  go_wp2_with fail
  go_loopw [0, 3] (fun n s wr => n = .int .i64 1 ∧ s = .string ⟨#[]⟩ ∧ wr = w) (fun _ _ _ => 0)
  case atStart => exact ⟨rfl, rfl, rfl⟩
  case round =>
    obtain ⟨rfl, rfl, rfl⟩ := hrel
    go_wp2_with fail
    go_ret
    exact ⟨rfl, blw (Below.refl _ _) _⟩
theorem refdecimal1 (w : World) : Calls Tryz.prog 16 #[.int .i64 1] w fun e w' => e = .returned (.string (bsL (dgB 1))) ∧ Below w.heap.size w w' := by
  have hd := refdec1 w
  have hm : max (1 : Int) 0 = 1 := by decide
  have HD := Lib.hid hd
  clear hd
  go_enter Tryz.func16, Tryz.ntmps16
  go_wp2_with fail
  refine HD.out.mono ?_; rintro e w1 ⟨rfl, hb⟩
  go_wp2_with fail
  go_ret
  exact ⟨rfl, hb⟩
theorem refdec2 (w : World) : Calls Tryz.prog 35 #[.int .i64 2] w fun e w' => e = .returned (.string (bsL (dgB 2))) ∧ Below w.heap.size w w' := by
  have hcv : (convert 50 9 (.slice (some ⟨w.heap.size, 0, none⟩) 1 1)).run Tryz.prog (w.alloc (.cells #[.int .u8 50] 5)) = .ok (.string ⟨#[50]⟩) (w.alloc (.cells #[.int .u8 50] 5)) := rconv_byte w 50
  go_enter Tryz.func35, Tryz.ntmps35
  go_wp2_with fail
  go_loopw [0, 3] (fun n s wr => n = .int .i64 2 ∧ s = .string ⟨#[]⟩ ∧ wr = w) (fun _ _ _ => 0)
  case atStart => exact ⟨rfl, rfl, rfl⟩
  case round =>
    obtain ⟨rfl, rfl, rfl⟩ := hrel
    go_wp2_with fail
    go_ret
    exact ⟨rfl, blw (Below.refl _ _) _⟩
theorem refdecimal2 (w : World) : Calls Tryz.prog 16 #[.int .i64 2] w fun e w' => e = .returned (.string (bsL (dgB 2))) ∧ Below w.heap.size w w' := by
  have hd := refdec2 w
  have hm : max (2 : Int) 0 = 2 := by decide
  have HD := Lib.hid hd
  clear hd
  go_enter Tryz.func16, Tryz.ntmps16
  go_wp2_with fail
  refine HD.out.mono ?_; rintro e w1 ⟨rfl, hb⟩
  go_wp2_with fail
  go_ret
  exact ⟨rfl, hb⟩
theorem refdec3 (w : World) : Calls Tryz.prog 35 #[.int .i64 3] w fun e w' => e = .returned (.string (bsL (dgB 3))) ∧ Below w.heap.size w w' := by
  have hcv : (convert 50 9 (.slice (some ⟨w.heap.size, 0, none⟩) 1 1)).run Tryz.prog (w.alloc (.cells #[.int .u8 51] 5)) = .ok (.string ⟨#[51]⟩) (w.alloc (.cells #[.int .u8 51] 5)) := rconv_byte w 51
  go_enter Tryz.func35, Tryz.ntmps35
  go_wp2_with fail
  go_loopw [0, 3] (fun n s wr => n = .int .i64 3 ∧ s = .string ⟨#[]⟩ ∧ wr = w) (fun _ _ _ => 0)
  case atStart => exact ⟨rfl, rfl, rfl⟩
  case round =>
    obtain ⟨rfl, rfl, rfl⟩ := hrel
    go_wp2_with fail
    go_ret
    exact ⟨rfl, blw (Below.refl _ _) _⟩
theorem refdecimal3 (w : World) : Calls Tryz.prog 16 #[.int .i64 3] w fun e w' => e = .returned (.string (bsL (dgB 3))) ∧ Below w.heap.size w w' := by
  have hd := refdec3 w
  have hm : max (3 : Int) 0 = 3 := by decide
  have HD := Lib.hid hd
  clear hd
  go_enter Tryz.func16, Tryz.ntmps16
  go_wp2_with fail
  refine HD.out.mono ?_; rintro e w1 ⟨rfl, hb⟩
  go_wp2_with fail
  go_ret
  exact ⟨rfl, hb⟩
theorem refdec4 (w : World) : Calls Tryz.prog 35 #[.int .i64 4] w fun e w' => e = .returned (.string (bsL (dgB 4))) ∧ Below w.heap.size w w' := by
  have hcv : (convert 50 9 (.slice (some ⟨w.heap.size, 0, none⟩) 1 1)).run Tryz.prog (w.alloc (.cells #[.int .u8 52] 5)) = .ok (.string ⟨#[52]⟩) (w.alloc (.cells #[.int .u8 52] 5)) := rconv_byte w 52
  go_enter Tryz.func35, Tryz.ntmps35
  go_wp2_with fail
  go_loopw [0, 3] (fun n s wr => n = .int .i64 4 ∧ s = .string ⟨#[]⟩ ∧ wr = w) (fun _ _ _ => 0)
  case atStart => exact ⟨rfl, rfl, rfl⟩
  case round =>
    obtain ⟨rfl, rfl, rfl⟩ := hrel
    go_wp2_with fail
    go_ret
    exact ⟨rfl, blw (Below.refl _ _) _⟩
theorem refdecimal4 (w : World) : Calls Tryz.prog 16 #[.int .i64 4] w fun e w' => e = .returned (.string (bsL (dgB 4))) ∧ Below w.heap.size w w' := by
  have hd := refdec4 w
  have hm : max (4 : Int) 0 = 4 := by decide
  have HD := Lib.hid hd
  clear hd
  go_enter Tryz.func16, Tryz.ntmps16
  go_wp2_with fail
  refine HD.out.mono ?_; rintro e w1 ⟨rfl, hb⟩
  go_wp2_with fail
  go_ret
  exact ⟨rfl, hb⟩
theorem refdecimal_any (i : Nat) (w : World) (h1 : 1 ≤ i) (h4 : i ≤ 4) : Calls Tryz.prog 16 #[.int .i64 (i : Int)] w fun e w' => e = .returned (.string (bsL (dgB i))) ∧ Below w.heap.size w w' := by
  have hi : i = 1 ∨ i = 2 ∨ i = 3 ∨ i = 4 := by omega
  rcases hi with rfl | rfl | rfl | rfl
  · exact refdecimal1 w
  · exact refdecimal2 w
  · exact refdecimal3 w
  · exact refdecimal4 w
end Go.Proofs.YtdbbjhbkhimbfaaGreatDoor
namespace Go.Proofs.YtdbbjhbkhimbfaaGreatDoor
open Go.ChangeShapes Go.WideShapes Go.ChangeAt Go.RowKit
set_option linter.unusedVariables false
set_option linter.unusedSimpArgs false
set_option maxRecDepth 100000

theorem frag_flat (L : List Int) (m n : Nat) : NoT (fragG L false true m n).1 := by
  unfold fragG startG
  obtain ⟨a, b⟩ := run_flat L (nx L m (n + 1)) ⟨[], [], 0, m + 1⟩ rfl rfl
  dsimp only
  rw [if_pos rfl, a]
  unfold NoT at b ⊢
  simpa using b
theorem pie_short {x : It} {t : List UInt8} (h : PieR x t) : t.length ≤ 7 + (e1R x).length := by
  rcases h with rfl | ⟨rfl, rfl⟩ | ⟨g, hg, rfl⟩
  · omega
  · show 2 ≤ _; omega
  · have h2 := hg.len
    have h3 := shR_len (e1R x)
    simp only [List.length_cons, List.length_append]; omega
theorem flat_short (ws : Ws) (h : ∀ w ∈ ws, PieR w.2 w.1) : (flatW ws).length ≤ 7 * ws.length + ((itW ws).flatMap e1R).length := by
  induction ws with
  | nil => exact Nat.zero_le _
  | cons w ws ih =>
    have h1 := pie_short (h w (List.mem_cons_self ..))
    have h2 := ih (fun v hv => h v (List.mem_cons_of_mem _ hv))
    rw [flatW_cons, List.length_append, List.length_cons]
    show _ ≤ 7 * (ws.length + 1) + ((w.2 :: itW ws).flatMap e1R).length
    rw [List.flatMap_cons, List.length_append]
    omega
theorem raws_short {f : List It} {raw : List UInt8} (h : RawsR (expI f) raw) : raw.length ≤ 7 * lenI f + (2 * txtI f + 2 * f.length) := by
  obtain ⟨ws, e1, e2, e3⟩ := h
  have h1 := flat_short ws e3
  have h2 := encR_short f
  rw [← encR_exp] at h2
  unfold encG at h2
  rw [e2] at h1
  have h3 : ws.length = lenI f := by rw [← expI_len, ← e2]; unfold itW; rw [List.length_map]
  rw [e1]; omega
def preB : List ByteArray := [⟨#[]⟩, ⟨#[35, 32, 99, 10]⟩, ⟨#[10, 32, 10]⟩]
def tlsB : List ByteArray := [⟨#[]⟩, ⟨#[35, 120, 10]⟩, ⟨#[10]⟩]
theorem preB_any (k : Nat) (hk : k < 3) : ∃ C : List UInt8, (C = [] ∨ C = [35, 32, 99, 10] ∨ C = [10, 32, 10]) ∧ pickB preB k = bsL C ∧ C.length ≤ 4 := by
  have : k = 0 ∨ k = 1 ∨ k = 2 := by omega
  rcases this with rfl | rfl | rfl
  · exact ⟨[], .inl rfl, rfl, by decide⟩
  · exact ⟨[35, 32, 99, 10], .inr (.inl rfl), rfl, by decide⟩
  · exact ⟨[10, 32, 10], .inr (.inr rfl), rfl, by decide⟩
theorem tlsB_any (k : Nat) (hk : k < 3) : ∃ C : List UInt8, (C = [] ∨ C = [35, 120, 10] ∨ C = [10]) ∧ pickB tlsB k = bsL C ∧ C.length ≤ 3 := by
  have : k = 0 ∨ k = 1 ∨ k = 2 := by omega
  rcases this with rfl | rfl | rfl
  · exact ⟨[], .inl rfl, rfl, by decide⟩
  · exact ⟨[35, 120, 10], .inr (.inl rfl), rfl, by decide⟩
  · exact ⟨[10], .inr (.inr rfl), rfl, by decide⟩
theorem block_eq (i : Nat) (raw tl : List UInt8) : (⟨#[107]⟩ : ByteArray) ++ bsL (dgB i) ++ ⟨#[61]⟩ ++ bsL raw ++ ⟨#[10]⟩ ++ bsL tl = bsL (kB i ++ 61 :: (raw ++ 10 :: tl)) := by
  show bsL [107] ++ bsL (dgB i) ++ bsL [61] ++ bsL raw ++ bsL [10] ++ bsL tl = _
  rw [bsL_append, bsL_append, bsL_append, bsL_append, bsL_append]
  unfold kB dgB
  simp
/-- What Data answers: a document that can be divided. -/
def EndDa (b : Nat) (w : World) (e : Ending) (w' : World) : Prop := ∃ C : List UInt8, e = .returned (.string (bsL C)) ∧ (splR (bsL C)).2.2 = 0 ∧ C.length ≤ 10000 ∧ w.grownBy w' (some b)
set_option maxHeartbeats 12800000 in
theorem data_any (b : Nat) (p : Option Addr) (cap : Nat) (L : List Int) (w : World) (h : NumsAt w b p cap L 0) (hpb : ∀ W, NumsAt W b p cap L 0 → True) :
    Calls Tryz.prog 5 #[.pointer (some ⟨b, 0, none⟩), .int .i64 2, .int .i64 4] w (EndDa b w) := by
  have hn3 := fun m (hm : m ≤ 900000) W h => next_any b p cap L m 3 3 rfl W h (by omega) (by omega) (by omega)
  have hn5 := fun m (hm : m ≤ 900000) W h => next_any b p cap L m 5 5 rfl W h (by omega) (by omega) (by omega)
  have hfr := fun m (hm : m ≤ 100000) W (h : NumsAt W b p cap L m) => fragment_any b p cap L m false true 5 5 rfl W h (fun h0 a ha => ones_any h.ones h0 a ha) hm (by omega)
  have hfo := fun m => frag_ok L false true m 5 (by omega)
  have hff := fun m => frag_flat L m 5
  have hrw := fun m (hm : m ≤ 800000) pf cf (F : List It) (hF : FragOk 5 F) (ht : NoT F) W h i s hc hcm => mkraws_any b p cap L m pf cf F W h hm i s hc hcm (hF.valid (by omega)) ht (by have := hF.txt; omega)
  have hk1 := nx_lt L 0 3 (by omega)
  obtain ⟨C0, hC0, hp0, hl0⟩ := preB_any (nx L 0 3) hk1
  have hK := nx_lt L 1 5 (by omega)
  have H3 := Lib.hid hn3; have H5 := Lib.hid hn5; have HFR := Lib.hid hfr; have HFO := Lib.hid hfo; have HFF := Lib.hid hff; have HRW := Lib.hid hrw
  have N1 := Lib.hid (hn3 0 (by omega)); have N2 := Lib.hid (hn5 1 (by omega))
  have HP0 := Lib.hid hp0
  clear hn3 hn5 hfr hfo hff hrw hp0 hpb
  generalize nx L 0 3 = k0 at *
  generalize nx L 1 5 = K at *
  have HQ := Lib.hid (PQ.start (K := K) C0 hC0)
  clear hC0
  have hlt := h.lt
  go_enter Tryz.func5, Tryz.ntmps5
  go_wp2_with fail
  refine (N1.out _ (h.call (blw (Below.refl _ _) _))).mono ?_
  rintro e w1 ⟨rfl, hg, hN⟩
  have hB := (hg.block w.heap.size (by simp) (fun e => by injection e with e; omega)).trans (heap_alloc_new w _)
  have hc := pick_row hB preB rfl k0 hk1
  rw [HP0.out] at hc
  have hgr := chg_trans (chg_below (b := b) (blw (Below.refl w.heap.size w) _)) hg
  have hk3 : (k0 : Int) < 3 := by omega
  clear hg hB
  go_wp2_with fail
  refine (N2.out _ hN).mono ?_
  rintro e w2 ⟨rfl, hg2, hN2⟩
  have hgr2 := chg_trans hgr hg2
  clear hc hg2 hgr hN N1 N2 HP0
  go_wp2_with fail
  go_loopw [7, 9] (fun v i wr => ∃ (n m : Nat) (C : List UInt8), n ≤ K ∧ i = .int .i64 (n : Int) ∧ v = .string (bsL C) ∧ Hid (PQ K n C) ∧ C.length ≤ 4 + 1200 * (K - n) ∧ m ≤ 2 + 400 * (K - n) ∧ w.grownBy wr (some b) ∧ NumsAt wr b p cap L m) (fun _ i _ => (intOf i).toNat)
  case atStart => exact ⟨K, 2, C0, Nat.le_refl _, rfl, rfl, HQ, by omega, by omega, hgr2, hN2⟩
  case round =>
    obtain ⟨n, m, C, hn, rfl, rfl, HC, hCl, hm, hgr, hN⟩ := hrel
    by_cases hn0 : 0 < n
    · obtain ⟨n, rfl⟩ : ∃ j, n = j + 1 := ⟨n - 1, by omega⟩
      have hf1 := HFR.out m (by omega)
      have hf2 := HFO.out m
      have hf3 := HFF.out m
      obtain ⟨hok, hm1, hm2⟩ := hf2
      generalize (fragG L false true m 5).1 = F at *
      generalize (fragG L false true m 5).2 = m1 at *
      have gl := hok.len; have gt := hok.txt; have gi := hok.lenI
      have hv := hok.valid (by omega)
      have hr1 := fun pf cf W h i s hc hcm => HRW.out m1 (by omega) pf cf F hok hf3 W h i s hc hcm
      have hrs : ∀ raw, RawsR (expI F) raw → Safe raw ∧ (dec elR raw).2.2.2 = 0 ∧ raw.length ≤ 1130 := fun raw hr => ⟨(raws_safe hv hf3 hr).1, (raws_safe hv hf3 hr).2, by have := raws_short hr; omega⟩
      have hdc := fun W => refdecimal_any (n + 1) W (by omega) (by omega)
      have hdz : (bsL (dgB (n + 1))).size = 1 := rfl
      rw [show ((n + 1 : Nat) : Int) = (n : Int) + 1 from by omega] at hdc
      have HF1 := Lib.hid hf1; have HR1 := Lib.hid hr1; have HRS := Lib.hid hrs; have HDC := Lib.hid hdc
      clear hf1 hf3 hr1 hrs hdc hv hok
      go_wp2_with fail
      refine (HF1.out _ hN).mono ?_
      rintro e w3 ⟨vf, rfl, hg3, hN3, hown⟩
      obtain ⟨pf, cf, rfl, fa, fb, fi⟩ := hown.its
      have hadr := OwnL.addr hown
      have hNlt := hN.lt
      have hgr3 := chg_trans hgr hg3
      have hsep : 0 < F.length → ∀ a, pf = some a → some b ≠ some a.block := fun _ a ha e => by
        have := (hadr a ha).1
        injection e with e
        omega
      clear hown hadr hg3
      go_wp2_with fail
      refine (HR1.out pf cf w3 hN3 fi hsep fa fb).mono ?_
      rintro e w4 ⟨raw, m2, rfl, hraw, hrl, hm3, hg4, hN4⟩
      obtain ⟨hsafe, hdd, hrz⟩ := HRS.out raw hraw
      have hgr4 := chg_trans hgr3 hg4
      have hn3 := H3.out m2 (by omega)
      have hkr := nx_lt L m2 3 (by omega)
      obtain ⟨tl, htl, hpt, htz⟩ := tlsB_any (nx L m2 3) hkr
      generalize nx L m2 3 = kr at *
      have HN3 := Lib.hid hn3; have HPT := Lib.hid hpt
      have HNX := Lib.hid (HC.out.unit (by omega) hsafe hdd htl)
      have HBL := Lib.hid (block_eq (n + 1) raw tl)
      have hkr3 : (kr : Int) < 3 := by omega
      have hsr : (bsL raw).size ≤ 1130 := by rw [bsL_size]; exact hrz
      have hst : (bsL tl).size ≤ 3 := by rw [bsL_size]; exact htz
      have hsC : (bsL C).size ≤ 10000 := by rw [bsL_size]; omega
      clear hraw hsafe hdd hn3 hpt htl hg4 fi hsep hN3
      have hend : bsL C ++ bsL (kB (n + 1) ++ 61 :: (raw ++ 10 :: tl)) = bsL (C ++ (kB (n + 1) ++ 61 :: (raw ++ 10 :: tl))) := by rw [bsL_append]
      have hlen : (C ++ (kB (n + 1) ++ 61 :: (raw ++ 10 :: tl))).length ≤ 4 + 1200 * (K - n) := by
        have e1 : (kB (n + 1)).length = 2 := rfl
        simp only [List.length_append, List.length_cons, e1]
        omega
      rw [← HBL.out] at hend
      have HEND := Lib.hid hend
      clear hend
      generalize (C ++ (kB (n + 1) ++ 61 :: (raw ++ 10 :: tl))) = C2 at *
      generalize bsL (dgB (n + 1)) = d at *
      generalize bsL raw = sr at *
      generalize bsL tl = st at *
      generalize bsL C = sC at *
      have e7 : (⟨#[107]⟩ : ByteArray).size = 1 := rfl
      have e6 : (⟨#[61]⟩ : ByteArray).size = 1 := rfl
      have e0 : (⟨#[10]⟩ : ByteArray).size = 1 := rfl
      have z1 : ¬ (9223372036854775807 < 1 + d.size) := by omega
      have z2 : ¬ (9223372036854775807 < ((⟨#[107]⟩ : ByteArray) ++ d).size + 1) := by rw [ByteArray.size_append]; omega
      have z3 : ¬ (9223372036854775807 < ((⟨#[107]⟩ : ByteArray) ++ d ++ ⟨#[61]⟩).size + sr.size) := by simp only [ByteArray.size_append]; omega
      have z4 : ¬ (9223372036854775807 < ((⟨#[107]⟩ : ByteArray) ++ d ++ ⟨#[61]⟩ ++ sr).size + 1) := by simp only [ByteArray.size_append]; omega
      have z5 : ¬ (9223372036854775807 < ((⟨#[107]⟩ : ByteArray) ++ d ++ ⟨#[61]⟩ ++ sr ++ ⟨#[10]⟩).size + st.size) := by simp only [ByteArray.size_append]; omega
      have z6 : ¬ (9223372036854775807 < sC.size + ((⟨#[107]⟩ : ByteArray) ++ d ++ ⟨#[61]⟩ ++ sr ++ ⟨#[10]⟩ ++ st).size) := by simp only [ByteArray.size_append]; omega
      have y2 : ¬ (9223372036854775807 < 1 + d.size + 1) := by omega
      have y3 : ¬ (9223372036854775807 < 1 + d.size + 1 + sr.size) := by omega
      have y4 : ¬ (9223372036854775807 < 1 + d.size + 1 + sr.size + 1) := by omega
      have y5 : ¬ (9223372036854775807 < 1 + d.size + 1 + sr.size + 1 + st.size) := by omega
      have y6 : ¬ (9223372036854775807 < sC.size + (1 + d.size + 1 + sr.size + 1 + st.size)) := by omega
      clear e7 e6 e0 hdz hsr hst hsC
      go_wp2_with fail
      refine (HDC.out _).mono ?_; rintro e w5 ⟨rfl, hb5⟩
      have hN5 := hN4.call hb5
      have hgr5 := chg_trans hgr4 (chg_below (b := b) hb5)
      clear hN4 hgr4 hgr3 hb5
      go_wp2_with fail
      refine (HN3.out _ (hN5.call (blw (Below.refl _ _) _))).mono ?_
      rintro e w6 ⟨rfl, hg6, hN6⟩
      have hlt5 : b < w5.heap.size := hN5.lt
      have hB6 := (hg6.block w5.heap.size (by simp) (fun e => by injection e with e; omega)).trans (heap_alloc_new w5 _)
      have hc := pick_row hB6 tlsB rfl kr hkr
      rw [HPT.out] at hc
      have hgr6 := chg_trans (chg_trans hgr5 (chg_below (b := b) (blw (Below.refl w5.heap.size w5) _))) hg6
      clear hB6 hg6 hgr5 hN5
      go_wp2_with fail
      go_roundw
      case rel => exact ⟨n, m2 + 1, C2, by omega, by first | go_num | (congr 1; omega), by rw [HEND.out], HNX, hlen, by omega, hgr6, hN6⟩
      case measure => simp [intOf]
    · obtain rfl : n = 0 := by omega
      have HD := Lib.hid (HC.out.done (by omega))
      have hCz : C.length ≤ 10000 := by omega
      clear hn0
      go_wp2_with fail
      go_ret
      exact ⟨C, rfl, HD.out, hCz, hgr⟩
end Go.Proofs.YtdbbjhbkhimbfaaGreatDoor
namespace Go.Proofs.YtdbbjhbkhimbfaaGreatDoor
open Go.ChangeShapes Go.WideShapes Go.ChangeAt Go.RowKit
set_option linter.unusedVariables false
set_option linter.unusedSimpArgs false
set_option maxRecDepth 100000

theorem zdrN {b : Nat} {w w' : World} (h : Below b w w') (n : Nat) : Below b w (w'.drewN n) := ⟨h.os, h.tape, h.output, h.size, h.block⟩
set_option maxHeartbeats 1600000 in
theorem sameparts_any (p q : Option Addr) (c d : Nat) (l : List Pt) (w : World) (hR : Pts w p l) (hS : Pts w q l) (hc : l.length ≤ c) (hd : l.length ≤ d) (hcm : c ≤ maxLen) (hdm : d ≤ maxLen) :
    Calls Tryz.prog 9 #[.slice p l.length c, .slice q l.length d] w fun e w' => e = .returned (.bool true) ∧ Below w.heap.size w w' := by
  unfold maxLen at hcm hdm
  have qn : ((l.length : Int) != (l.length : Int)) = false := by simp
  go_enter Tryz.func9, Tryz.ntmps9
  go_wp2_with fail
  go_loopw [13] (fun i wr => ∃ k : Nat, k ≤ l.length ∧ i = .int .i64 k ∧ Below w.heap.size w wr) (fun i _ => l.length - (intOf i).toNat)
  case atStart => exact ⟨0, Nat.zero_le _, rfl, Below.refl _ _⟩
  case round =>
    obtain ⟨k, hk, rfl, hB⟩ := hrel
    by_cases hlt : k < l.length
    · obtain ⟨a, rfl, ha, c0, c1, c2⟩ := (hR.call hB).row k hlt
      obtain ⟨b, rfl, hb, d0, d1, d2⟩ := (hS.call hB).row k hlt
      generalize l[k] = x at *
      obtain ⟨u1, k1, r1⟩ := x
      dsimp only at c0 c1 c2 d0 d1 d2
      go_wp2_with fail
      go_quiet (fail)
      go_wp2_with fail
      go_roundw
      case rel => exact ⟨k + 1, hlt, by go_num, zdrN hB _⟩
      case measure => simp [intOf]; omega
    · obtain rfl : k = l.length := by omega
      go_wp2_with fail
      go_ret
      exact ⟨rfl, hB⟩
end Go.Proofs.YtdbbjhbkhimbfaaGreatDoor
namespace Go.Proofs.YtdbbjhbkhimbfaaGreatDoor
open Go.ChangeShapes Go.WideShapes Go.ChangeAt Go.RowKit
set_option linter.unusedVariables false
set_option linter.unusedSimpArgs false
set_option maxRecDepth 100000

theorem sidx0 (W : World) (a b c : ByteArray) : Sem.run Tryz.prog (Instr.index 29 (.agg #[.string a, .string b, .string c]) (.int .i64 0)) W = .ok (.string a) W := by kernel_rfl
theorem sidx1 (W : World) (a b c : ByteArray) : Sem.run Tryz.prog (Instr.index 29 (.agg #[.string a, .string b, .string c]) (.int .i64 1)) W = .ok (.string b) W := by kernel_rfl
theorem sidx2 (W : World) (a b c : ByteArray) : Sem.run Tryz.prog (Instr.index 29 (.agg #[.string a, .string b, .string c]) (.int .i64 2)) W = .ok (.string c) W := by kernel_rfl
theorem sboth (u : ByteArray) (h : u.size ≤ 999999999999) : ∃ (L : List Pt) (q : Nat) (er : Int), Hid (∀ W, Calls Tryz.prog 7 #[.string u] W (EndS (L, q, er) W)) ∧ Hid (∀ W, Calls Tryz.prog 8 #[.int .i64 2, .string u] W (EndS (L, q, er) W)) :=
  ⟨(splR u).1, (splR u).2.1, (splR u).2.2, Lib.hid fun W => split_any u W h, Lib.hid fun W => refsplit_any u W h⟩
set_option maxHeartbeats 12800000 in
theorem splits_any (a0 : ByteArray) (p1 : Option Addr) (c1 : Nat) (a1 : List Int) (a2 : Int) (a3 : Int) (w : World) (w0 : a0.size ≤ 140737488355328) (r1 : Ones w (Value.int .i64) p1 a1) (o1 : ∀ i (h : i < a1.length), (Lit.int .i64 (a1[i]'h)).wf = true) (n1 : a1.length ≤ c1) (m1 : c1 ≤ maxLen) (w2 : (Lit.int .i64 a2).wf = true) (w3 : (Lit.int .u8 a3).wf = true) :
    Calls Tryz.prog 3 #[.string a0, .slice p1 a1.length c1, .int .i64 a2, .int .u8 a3] w fun e w' => e = .returned (.bool true) ∧ Below w.heap.size w w' := by
  have HK := Lib.hid known_any
  by_cases l0 : a0.size ≤ 400
  case neg =>
    have z0 : 400 < a0.size := by omega
    clear r1 o1 w2 w3 l0
    go_enter Tryz.func3, Tryz.ntmps3
    go_wp2_with fail
    refine (HK.out _).mono ?_; rintro e w1 ⟨rfl, hb⟩
    go_wp2_with fail
    go_ret
    exact ⟨rfl, hb⟩
  by_cases l1 : a1.length ≤ 200
  case neg =>
    have z1 : 200 < a1.length := by omega
    have q0 : decide (400 < a0.size) = false := decide_eq_false (by omega)
    clear r1 o1 w2 w3 l1
    go_enter Tryz.func3, Tryz.ntmps3
    go_wp2_with fail
    refine (HK.out _).mono ?_; rintro e w1 ⟨rfl, hb⟩
    go_wp2_with fail
    go_ret
    exact ⟨rfl, hb⟩
  have q0 : decide (400 < a0.size) = false := decide_eq_false (by omega)
  have q1 : decide (200 < a1.length) = false := decide_eq_false (by omega)
  have hnm := NumsAt.made r1 o1 n1 m1
  have hda := data_any w.heap.size p1 c1 a1 _ hnm (fun _ _ => trivial)
  unfold EndDa at hda
  have HDA := Lib.hid hda
  have hch := fun T W (h : ByteArray.size T ≤ 1000000000000) => changed_any T a2 a3 W h w2 w3
  have HCH := Lib.hid hch
  obtain ⟨LA, qA, eA, PA, RA⟩ := sboth a0 (by omega)
  clear hda hnm hch r1 o1 w2 w3 w0
  go_enter Tryz.func3, Tryz.ntmps3
  go_wp2_with fail
  refine HDA.out.mono ?_; rintro e w5 ⟨C, rfl, -, hCl, hg⟩
  have bl : Below w.heap.size w w5 := (blw (Below.refl w.heap.size w) _).trans (grown_below hg (Nat.le_refl _) (by simp))
  have hTz : (bsL C).size ≤ 10000 := by rw [bsL_size]; exact hCl
  generalize bsL C = T at *
  clear hg hCl
  obtain ⟨LB, qB, eB, PB, RB⟩ := sboth T (by omega)
  go_wp2_with fail
  refine (HCH.out T _ (by omega)).mono ?_; rintro e w6 ⟨V, rfl, hVz, hb⟩
  have bl := BelowOn bl hb; clear hb
  obtain ⟨LC, qC, eC, PC, RC⟩ := sboth V (by omega)
  clear hTz hVz
  have ix0 := fun W => sidx0 W a0 T V
  have ix1 := fun W => sidx1 W a0 T V
  have ix2 := fun W => sidx2 W a0 T V
  unfold EndS at PA PB PC RA RB RC
  dsimp only at PA PB PC RA RB RC
  go_wp2_with fail
  go_loopw [38] (fun i wr => ∃ k : Nat, k ≤ 3 ∧ i = .int .i64 k ∧ Below w.heap.size w wr) (fun i _ => 3 - (intOf i).toNat)
  case atStart => exact ⟨0, by omega, rfl, bl⟩
  case round =>
    obtain ⟨k, hk, rfl, hB⟩ := hrel
    clear bl
    have hk4 : k = 0 ∨ k = 1 ∨ k = 2 ∨ k = 3 := by omega
    rcases hk4 with rfl | rfl | rfl | rfl
    · have ls := fun p q c d W (i : Pts W p LA) (j : Pts W q LA) (hc : LA.length ≤ c) (hd : LA.length ≤ d) (hcm : c ≤ maxLen) (hdm : d ≤ maxLen) => sameparts_any p q c d LA W i j hc hd hcm hdm
      have LS := Lib.hid ls; clear ls
      have s2 : ((qA : Int) != (qA : Int)) = false := by simp
      have s3 : (eA != eA) = false := by simp
      go_wp2_with fail
      refine (PA.out _).mono ?_; rintro e w7 ⟨p3, c3, rfl, a4, b4, i4, hb⟩
      have bl := BelowOn hB hb; clear hb
      go_wp2_with fail
      refine (RA.out _).mono ?_; rintro e w9 ⟨p6, c6, rfl, a6, b6, i6, hb⟩
      have i4 := i4.call hb; have bl := BelowOn bl hb; clear hb
      go_wp2_with fail
      refine (LS.out _ _ _ _ _ i4 i6 a4 a6 b4 b6).mono ?_; rintro e w10 ⟨rfl, hb⟩
      have bl := BelowOn bl hb; clear hb i4 i6
      go_wp2_with fail
      go_roundw
      case rel => exact ⟨1, by omega, by go_num, bl⟩
      case measure => simp [intOf]
    · have ls := fun p q c d W (i : Pts W p LB) (j : Pts W q LB) (hc : LB.length ≤ c) (hd : LB.length ≤ d) (hcm : c ≤ maxLen) (hdm : d ≤ maxLen) => sameparts_any p q c d LB W i j hc hd hcm hdm
      have LS := Lib.hid ls; clear ls
      have s2 : ((qB : Int) != (qB : Int)) = false := by simp
      have s3 : (eB != eB) = false := by simp
      go_wp2_with fail
      refine (PB.out _).mono ?_; rintro e w7 ⟨p3, c3, rfl, a4, b4, i4, hb⟩
      have bl := BelowOn hB hb; clear hb
      go_wp2_with fail
      refine (RB.out _).mono ?_; rintro e w9 ⟨p6, c6, rfl, a6, b6, i6, hb⟩
      have i4 := i4.call hb; have bl := BelowOn bl hb; clear hb
      go_wp2_with fail
      refine (LS.out _ _ _ _ _ i4 i6 a4 a6 b4 b6).mono ?_; rintro e w10 ⟨rfl, hb⟩
      have bl := BelowOn bl hb; clear hb i4 i6
      go_wp2_with fail
      go_roundw
      case rel => exact ⟨2, by omega, by go_num, bl⟩
      case measure => simp [intOf]
    · have ls := fun p q c d W (i : Pts W p LC) (j : Pts W q LC) (hc : LC.length ≤ c) (hd : LC.length ≤ d) (hcm : c ≤ maxLen) (hdm : d ≤ maxLen) => sameparts_any p q c d LC W i j hc hd hcm hdm
      have LS := Lib.hid ls; clear ls
      have s2 : ((qC : Int) != (qC : Int)) = false := by simp
      have s3 : (eC != eC) = false := by simp
      go_wp2_with fail
      refine (PC.out _).mono ?_; rintro e w7 ⟨p3, c3, rfl, a4, b4, i4, hb⟩
      have bl := BelowOn hB hb; clear hb
      go_wp2_with fail
      refine (RC.out _).mono ?_; rintro e w9 ⟨p6, c6, rfl, a6, b6, i6, hb⟩
      have i4 := i4.call hb; have bl := BelowOn bl hb; clear hb
      go_wp2_with fail
      refine (LS.out _ _ _ _ _ i4 i6 a4 a6 b4 b6).mono ?_; rintro e w10 ⟨rfl, hb⟩
      have bl := BelowOn bl hb; clear hb i4 i6
      go_wp2_with fail
      go_roundw
      case rel => exact ⟨3, by omega, by go_num, bl⟩
      case measure => simp [intOf]
    · go_wp2_with fail
      refine (HK.out _).mono ?_; rintro e w7 ⟨rfl, hb⟩
      have bl := BelowOn hB hb; clear hb
      go_wp2_with fail
      go_ret
      exact ⟨rfl, bl⟩
end Go.Proofs.YtdbbjhbkhimbfaaGreatDoor
namespace Go.Proofs.YtdbbjhbkhimbfaaGreatDoor.resourceSplits
open Go.ChangeShapes Go.WideShapes Go.ChangeAt Go.RowKit
open Go.ChangeMaps (open_string shut_string)
set_option linter.unusedVariables false
set_option maxRecDepth 100000

theorem own : ownKnob Tryz.prog.godebug = none := by kernel_rfl
theorem laidOut : laidOutB Tryz.prog = true := by kernel_rfl


set_option maxHeartbeats 1600000 in
theorem walk (a0 : ByteArray) (p1 : Option Addr) (c1 : Nat) (a1 : List Int) (a2 : Int) (a3 : Int) (w : World) (w0 : a0.size ≤ 140737488355328) (r1 : Ones w (Value.int .i64) p1 a1) (o1 : ∀ i (h : i < a1.length), (Lit.int .i64 (a1[i]'h)).wf = true) (n1 : a1.length ≤ c1) (m1 : c1 ≤ maxLen) (w2 : (Lit.int .i64 a2).wf = true) (w3 : (Lit.int .u8 a3).wf = true) :
    Calls Tryz.prog 3 #[.string a0, .slice p1 a1.length c1, .int .i64 a2, .int .u8 a3] w fun e w' => e = .returned (.bool true) ∧ Below w.heap.size w w' := by
  exact splits_any a0 p1 c1 a1 a2 a3 w w0 r1 o1 n1 m1 w2 w3

theorem lifted (os : Os) (started : os.Started) (H : Type) (enc : TypeId × Value → H) :
    ReturnsInHanded {} Tryz.checked os 3 .any (fun w args => (Rows.resourceSplitsSpec.pre enc Tryz.prog Tryz.f3 Rows.resourceSplitsRow.domain false w args ∧ laidMetH Tryz.prog Rows.resourceSplitsRow.laid w) ∧ sizedMet enc Tryz.prog Tryz.f3 (OpenSpec.ofChange Rows.resourceSplitsSpec) false w args)
      (Rows.resourceSplitsSpec.post enc Tryz.prog Tryz.f3 false true false false) := by
  refine returnsInHanded_of_change_and (C := Tryz.checked) (X := fun w _ => laidMetH Tryz.prog Rows.resourceSplitsRow.laid w) (fun _ _ _ hh h => h.of_heap hh) own started (by kernel_rfl) Tryz.func3
    (ChangeSpec.witness_shaped (enc := enc) (C := Tryz.checked) (os := os) (X := fun w _ => laidMetH Tryz.prog Rows.resourceSplitsRow.laid w) false (World.laidAll Tryz.prog os Rows.resourceSplitsRow.laid) #[.string ByteArray.empty, .slice none 0 0, .int .i64 0, .int .u8 0] 8 (World.laidAll_os _ _ _) (World.shaped_of_ZipB (by kernel_rfl) (by kernel_rfl)) (by kernel_rfl) (by kernel_rfl) (by kernel_rfl) (by rw [MakeChecks.laidMetH_plain _ _ _ (by kernel_rfl)]; exact laidMet_laidAll _ (by kernel_rfl) (by kernel_rfl))) ?_
  intro W base args ds gs before hval0 hW hcnd hsz0 hL _
  have hval : ∀ (j : Nat) t v, Tryz.f3.params[j]? = some t → args[j]? = some v → Value.okWide Tryz.prog W .any base t v := hval0
  have hW' := hW
  have hlt : ∀ x ∈ before, x.block < W.heap.size := fun x hx => hW'.lt x hx
  obtain ⟨p, q, hA0, hV, rfl, hfz, hnd⟩ := hW
  have hA : DataW.TrodAll enc Tryz.prog W 0 (fun _ => true) true Tryz.f3.params.toList args.toList ds p := hA0
  rw [Tryz.params3] at hA hval hsz0
  obtain ⟨v0, vs0, d0, ds0, p0, q0, hargs, rfl, rfl, h0, r0⟩ := trodAll_cons hA
  obtain ⟨v1, vs1, d1, ds1, p1, q1, rfl, rfl, rfl, h1, r1⟩ := trodAll_cons r0
  obtain ⟨v2, vs2, d2, ds2, p2, q2, rfl, rfl, rfl, h2, r2⟩ := trodAll_cons r1
  obtain ⟨v3, vs3, d3, ds3, p3, q3, rfl, rfl, rfl, h3, r3⟩ := trodAll_cons r2
  obtain ⟨rfl, rfl, rfl⟩ := trodAll_nil r3
  obtain rfl : args = #[v0, v1, v2, v3] := by cases args; simp_all
  obtain ⟨rfl, rfl⟩ := trodVars_none hV
  have hsz := hsz0; clear hsz0
  have z0 : ∀ n ∈ DataW.weights Tryz.prog 9 d0, n ≤ reachBytes := (fun n hn => by simpa using List.all_eq_true.1 hsz n (DataW.weights_mem_each (j := 0) rfl rfl n hn))
  obtain ⟨a0, rfl, e0, -, -⟩ := open_string Tryz.underlying9 (hval 0 9 v0 rfl rfl) h0
  have w0 : a0.size ≤ 140737488355328 := str_le e0 z0
  obtain ⟨pp1, c1, a1, rfl, n1, m1, y1, o1⟩ := opened_ints (okBase (hval 1 22 v1 rfl rfl)) h1
  obtain ⟨a2, rfl, -, -, w2⟩ := open_int Tryz.underlying3 (hval 2 3 v2 rfl rfl) h2
  obtain ⟨a3, rfl, -, -, w3⟩ := open_int Tryz.underlying5 (hval 3 5 v3 rfl rfl) h3
  clear hA0 hval0
  refine (walk a0 pp1 c1 a1 a2 a3 W w0 y1 o1 n1 m1 w2 w3).mono fun e W' ⟨he, bel⟩ => ?_
  subst he
  exact ⟨_, rfl, _, _, _, [], _, [], hW', trodAll_mk1 (shut_bool Tryz.underlying4 _), (trodAll_cons_mk (Below.trod laidOut (by kernel_rfl) (of_decide_eq_true (by kernel_rfl)) h0 bel (fun x hx => hlt x (by simp [hx]))) (trodAll_cons_mk (Below.trod laidOut (by kernel_rfl) (of_decide_eq_true (by kernel_rfl)) h1 bel (fun x hx => hlt x (by simp [hx]))) (trodAll_cons_mk (Below.trod laidOut (by kernel_rfl) (of_decide_eq_true (by kernel_rfl)) h2 bel (fun x hx => hlt x (by simp [hx]))) (trodAll_cons_mk (Below.trod laidOut (by kernel_rfl) (of_decide_eq_true (by kernel_rfl)) h3 bel (fun x hx => hlt x (by simp [hx]))) trodAll_mk0)))), rfl, bel.frame _, fun h => by cases h⟩

theorem over : Rows.ResourceSplitsSaid :=
  OpenClaim.holds_of_wide 3 Tryz.f3 rfl rfl rfl rfl rfl rfl rfl ⟨rfl, rfl, rfl, rfl, rfl⟩ rfl rfl rfl rfl rfl (by kernel_rfl) Tryz.func3 (by kernel_rfl)
    (of_decide_eq_true (by kernel_rfl)) (by unfold Func.isWrapper; first | (rw [if_pos (by decide +kernel)]; kernel_rfl) | (rw [if_neg (by decide +kernel)]; exact ⟨rfl, rfl⟩))
    (fun os started H enc _ => lifted os started H enc)

theorem proved : Rows.ResourceSplitsCardSaid :=
  Claim7.holds_tied_plain_at .later [] [.data, .pinned] true (true, "70b9b247e1a60ef229ea99a2b3863276be90b8a6529353f011718447a096eafc") false
    over (fun _ h => by cases h) (by kernel_rfl) (fun _ h => by cases h) resourceSplits_row_tie rfl ⟨rfl, rfl⟩ (by kernel_rfl) rfl
    (fun f fn hf hfn => by
      obtain rfl : f = 3 := Option.some.inj ((show Tryz.prog.funcNamed "bitext/bitextlaw8.ResourceSplits" = some 3 by kernel_rfl).symm.trans hf) |>.symm
      obtain rfl : fn = Tryz.f3 := (Option.some.inj (Tryz.func3.symm.trans hfn)).symm
      exact ⟨by kernel_rfl, fun j t ht => by
        rw [Tryz.params3] at ht
        have hm : t ∈ [9, 22, 3, 5] := by simpa using Array.mem_of_getElem? ht
        have hall : ([9, 22, 3, 5].all fun u => !Tryz.prog.wantsStandIn u) = true := by kernel_rfl
        exact (show Tryz.prog.wantsStandIn t = false by simpa using List.all_eq_true.1 hall t hm)⟩)
    (by kernel_rfl)
#print axioms proved
end Go.Proofs.YtdbbjhbkhimbfaaGreatDoor.resourceSplits
