/- Items and fragments among the arguments, read at whatever bases. Plain mathematics of ResourceLines: what the file of two lines is divided into. Plain mathematics of ResourceLimits: many bytes, many placeholders, a long comment. The walk of ResourceLimits. The law ResourceLimits holds for every input. -/
import Derived.Test.YtdbbjhbkhimbfaaDoorArg
import Derived.Test.YtdbbjhbkhimbfaaDoorRtU
import Derived.Test.YtdbbjhbkhimbfaaDoorRtW
import Derived.Test.YtdbbjhbkhimbfaaDoorNxt
import Derived.ArgAppend
import Derived.Deep.Cut
import Derived.Deep.DeepCutAuto
import Derived.Lib.SlBytesConst
import Derived.Test.YtdbbjhbkhimbfaaDoorRows
import Derived.WalkKit
import Derived.ProofKit
import Derived.OpenShut
import Derived.ChangeOld
import Derived.Below
import Derived.Carry
import Derived.SizedLaws
import Derived.Test.YtdbbjhbkhimbfaaDoorCards
import Derived.Test.YtdbbjhbkhimbfaaDoorTie
import Derived.Stop.Joined
import Derived.SevenTiedAt
import Derived.Lay
import Derived.MakeChecks
import Derived.Test.YtdbbjhbkhimbfaaDoorRtD
namespace Go.Proofs.YtdbbjhbkhimbfaaDoor
open Go.ChangeShapes Go.WideShapes Go.ChangeAt Go.RowKit
set_option linter.unusedVariables false
set_option maxRecDepth 100000
section
variable {H : Type} {enc : TypeId × Value → H} {W : World} {base : Nat} {sp : Nat → Bool} {held : Bool}
theorem opened_x {v : Value} {d : DataW H} {p : List MemPlace} {b0 : Nat} (hv : Value.okWide Tryd.prog W .any b0 58 v) (h : DataW.Trod enc Tryd.prog W base sp held 58 v d p) (hz : ∀ n ∈ DataW.weights Tryd.prog 58 d, n ≤ reachBytes) : ∃ y : It, y.ok ∧ v = y.v := by
  obtain ⟨fuel, hf⟩ := h
  obtain ⟨y, hk, hi, hc, hd⟩ := read_item hf
  refine ⟨y, ⟨hk, text_le hd hz, hi⟩, ?_⟩
  obtain ⟨cs, rfl, _, _⟩ := hv
  have hc' : cs.toList = [Value.int IntKind.i64 y.k, Value.string y.t, Value.int IntKind.i64 y.id] := by simpa [Value.cells] using hc
  unfold It.v
  congr 1
  apply Array.ext'
  simpa using hc'
theorem opened_f {v : Value} {d : DataW H} {p : List MemPlace} {b0 : Nat} (hv : Value.okWide Tryd.prog W .any b0 29 v) (h : DataW.Trod enc Tryd.prog W base (fun _ => true) held 29 v d p) (hz : ∀ n ∈ DataW.weights Tryd.prog 29 d, n ≤ reachBytes) :
    ∃ (p : Option Addr) (cap : Nat) (l : List It), v = .slice p l.length cap ∧ l.length ≤ cap ∧ cap ≤ maxLen ∧ Its W p l ∧ Oks l := by
  obtain ⟨a0, len, cap, rfl⟩ := okWide_slice Tryd.underlying29 hv
  obtain ⟨fuel, hf⟩ := h
  rcases Go.Deep.open_slice Tryd.underlying29 hf with ⟨hcs, _⟩ | ⟨a, len', cap', m, n, D, Pl, hcs, _, hl, hm, hmm, hd, hx⟩
  · simp [Value.cells] at hcs
    obtain ⟨rfl, rfl, rfl⟩ := hcs
    exact ⟨none, 0, [], rfl, Nat.le_refl _, Nat.zero_le _, Its.nil _ _, fun i hi => by cases hi⟩
  · simp [Value.cells] at hcs
    obtain ⟨rfl, rfl, rfl⟩ := hcs
    have hlm : len ≤ m := by rw [hmm]; simp; exact hl
    have hd' : d = .slice ((List.range len).map D) ((List.range (m - len)).map fun j => D (len + j)) := by simpa using congrArg Prod.fst hd
    have each : ∀ i, ∃ y : It, i < len → y.ok ∧ W.cell? (a.add (i * 3)) = some (.int .i64 y.k) ∧ W.cell? (a.add (i * 3 + 1)) = some (.string y.t) ∧ W.cell? (a.add (i * 3 + 2)) = some (.int .i64 y.id) := fun i => by
      by_cases hi : i < len
      · obtain ⟨cs', h1, h2⟩ := hx i (by omega)
        obtain ⟨y, hk, hid, rfl, hdi⟩ := read_item h2
        have hz' : ∀ n ∈ DataW.weights Tryd.prog 58 (D i), n ≤ reachBytes := fun n hn => hz n (by
          rw [hd', DataW.weights, Tryd.underlying29]
          exact List.mem_cons_of_mem _ (List.mem_append_left _ (weights_all (List.mem_map.2 ⟨i, by simpa using hi, rfl⟩) hn)))
        rw [cells26] at h1
        obtain ⟨_, _, hcell⟩ := World.cells?_some h1
        have e0 := hcell 0 (by omega)
        have e1 := hcell 1 (by omega)
        have e2 := hcell 2 (by omega)
        rw [Go.Deep.add_add] at e0 e1 e2
        exact ⟨y, fun _ => ⟨⟨hk, text_le hdi hz', hid⟩, by simpa using e0, by simpa using e1, by simpa using e2⟩⟩
      · exact ⟨⟨0, .empty, 0⟩, fun h => absurd h hi⟩
    obtain ⟨f, hf⟩ := Classical.axiomOfChoice each
    refine ⟨some a, cap, (List.range len).map f, by simp, by simpa using hl, hm, fun h0 => ⟨a, rfl, ?_, fun i hi => ?_⟩, fun i hi => ?_⟩
    · have := World.block_lt_of_cell? W _ (hf 0 (by simpa using h0)).2.1
      simpa [add_block] using this
    · have hi' : i < len := by simpa using hi
      simpa using (hf i hi').2
    · have hi' : i < len := by simpa using hi
      simpa using (hf i hi').1
end
end Go.Proofs.YtdbbjhbkhimbfaaDoor
namespace Go.Proofs.YtdbbjhbkhimbfaaDoor
set_option linter.unusedVariables false
open Go.Lib

theorem rest_bsL (l : List UInt8) (p : Nat) : restD (bsL l) p = l.drop p := by unfold restD; rw [bsL_list]
theorem encR_short (f : List It) : (encR f).length ≤ 2 * txtI f + 2 * f.length := by
  unfold encR
  induction f with
  | nil => exact Nat.zero_le _
  | cons x t ih =>
    rw [List.flatMap_cons, List.length_append, List.length_cons]
    have hs : x.t.data.toList.length = x.t.size := by simp
    have e : txtI (x :: t) = x.t.size + txtI t := rfl
    have h1 : (e1R x).length ≤ 2 * x.t.size + 2 := by
      unfold e1R
      split
      · have := encT_len x.t.data.toList
        unfold encT at this; omega
      · simp only [List.length_cons, List.length_append, List.length_nil, hs]; omega
    omega
theorem esc1_len (l : List UInt8) : (esc1 l).length ≤ l.length + 1 := by
  cases l with
  | nil => exact Nat.zero_le _
  | cons c t =>
    show (if c = 32 then _ else _ : List UInt8).length ≤ _
    split <;> simp
theorem gapL_len (k : Nat) : (gapL k).length = 2 + k := by simp [gapL]; omega
/-- The file. -/
def linesD (V : List UInt8) : List UInt8 := 107 :: 61 :: (V ++ [10, 122, 61])
theorem skip_key (a : UInt8) (t : List UInt8) (h1 : blB a = false) (h2 : (a == 10 || a == 35) = false) : skipL (a :: t) = false := by
  have : blanks (a :: t) = [] := by unfold blanks; rw [List.takeWhile_cons, h1]; rfl
  unfold skipL; rw [this]; exact h2
theorem upto_key (a : UInt8) (t : List UInt8) (h : a ≠ 61) : upto 61 (a :: 61 :: t) = [a] ∧ hasU 61 (a :: 61 :: t) = true :=
  ⟨upto_app 61 [a] t (fun x hx => by rw [List.mem_singleton.1 hx]; exact h), has_app 61 [a] t (fun x hx => by rw [List.mem_singleton.1 hx]; exact h)⟩
theorem spl_lines {V : List UInt8} (hs : Safe V) (hd : (dec elR V).2.2.2 = 0) (hl : V.length ≤ 60000) : ∃ x y u z, splR (bsL (linesD V)) = ([x, ⟨true, ⟨#[107]⟩, bsL V⟩, y, ⟨true, ⟨#[122]⟩, u⟩, z], 0, 0) := by
  have hlen : (linesD V).length = V.length + 5 := by unfold linesD; simp
  have h0 : (linesD V).drop 0 = 107 :: 61 :: (V ++ [10, 122, 61]) := rfl
  have h2 : (linesD V).drop 2 = V ++ [10, 122, 61] := rfl
  have h3 : (linesD V).drop (2 + V.length) = [10, 122, 61] := by
    rw [← List.drop_drop, h2, List.drop_left]
  have h4 : (linesD V).drop (2 + V.length + 1) = [122, 61] := by
    rw [← List.drop_drop, h3]; rfl
  have h5 : (linesD V).drop (2 + V.length + 1 + 2) = [] := by
    rw [← List.drop_drop, h4]; rfl
  generalize hD : bsL (linesD V) = D
  have hsz : D.size = V.length + 5 := by rw [← hD, bsL_size, hlen]
  have hrest : ∀ p, restD D p = (linesD V).drop p := fun p => by rw [← hD, rest_bsL]
  have hex : D.extract 2 (2 + V.length) = bsL V := by
    have : (D.extract 2 (2 + V.length)).data.toList = V := by
      rw [show (D.extract 2 (2 + V.length)).data.toList = (D.data.toList.drop 2).take (2 + V.length - 2) from by simp [ByteArray.extract, ByteArray.copySlice]]
      have e : D.data.toList.drop 2 = V ++ [10, 122, 61] := (hrest 2).trans h2
      rw [e, show 2 + V.length - 2 = V.length by omega, List.take_left]
    rw [← bsL_of (D.extract 2 (2 + V.length)), this]
  obtain ⟨k1, k2⟩ := upto_key 107 (V ++ [10, 122, 61]) (by decide)
  obtain ⟨k3, k4⟩ := upto_key 122 [] (by decide)
  have r0 : restD D 0 = 107 :: 61 :: (V ++ [10, 122, 61]) := hrest 0
  have ra0 : rawAt D 0 = 2 := by unfold rawAt; rw [r0, k1]; rfl
  have rn0 : rawN D 0 = V.length := by
    unfold rawN; rw [ra0, hrest, h2, hs, rawL_10]; omega
  have ka0 : keyAt D 0 = ⟨#[107]⟩ := by unfold keyAt; rw [r0, k1]; rfl
  have rd0 : rawD D 0 = V := by unfold rawD; rw [ra0, rn0, hrest, h2, List.take_left]
  have r1 : restD D (2 + V.length + 1) = [122, 61] := (hrest _).trans h4
  have ra1 : rawAt D (2 + V.length + 1) = 2 + V.length + 1 + 2 := by unfold rawAt; rw [r1, k3]; rfl
  have rn1 : rawN D (2 + V.length + 1) = 0 := by unfold rawN; rw [ra1, hrest, h5]; rfl
  have ka1 : keyAt D (2 + V.length + 1) = ⟨#[122]⟩ := by unfold keyAt; rw [r1, k3]; rfl
  have rd1 : rawD D (2 + V.length + 1) = [] := by unfold rawD; rw [ra1, rn1, hrest, h5]; rfl
  unfold splR
  rw [if_neg (by omega)]
  rw [spl_unit D [] 0 0 (by omega) (by rw [r0]; exact skip_key 107 _ (by decide) (by decide)) (by rw [r0]; unfold keyK; rw [k1, k2]; decide) rfl (by rw [rd0]; exact hd), ra0, rn0, ka0, hex]
  rw [spl_unit D _ _ (2 + V.length + 1) (by omega) (by rw [r1]; exact skip_key 122 _ (by decide) (by decide)) (by rw [r1]; decide) (by rw [ka1]; unfold hasK; simp [skel]) (by rw [rd1]; rfl), ra1, rn1, ka1]
  rw [spl_end D _ _ _ (by omega)]
  exact ⟨_, _, _, _, rfl⟩
end Go.Proofs.YtdbbjhbkhimbfaaDoor
namespace Go.Proofs.YtdbbjhbkhimbfaaDoor
set_option linter.unusedVariables false
open Go.Lib

/-- What comes behind some words. -/
theorem dec_behind {el : ElF} (ws : Ws) (r : List UInt8) : ∀ f cs p d, AllW el ws → ((itW ws).foldl normS f).length ≤ 512 → cs.length + ws.length ≤ 1024 → ws ≠ [] →
    ∃ cs', cs'.length = cs.length + ws.length ∧ decG el f cs p d (flatW ws ++ r) = decG el ((itW ws).foldl normS f) cs' (p + (flatW ws).length) (p + (flatW ws).length) r := by
  induction ws with
  | nil => intro f cs p d _ _ _ h; exact absurd rfl h
  | cons w ws ih =>
    intro f cs p d hw h1 h2 _
    have h1' : ((itW ws).foldl normS (normS f w.2)).length ≤ 512 := h1
    have h3 := fold_ge (itW ws) (normS f w.2)
    have hz : cs.length + (ws.length + 1) ≤ 1024 := h2
    have hfl : (flatW (w :: ws)).length = w.1.length + (flatW ws).length := by rw [flatW_cons, List.length_append]
    have hstep := (hw w (by simp)).2.2 f cs p d (flatW ws ++ r) (by omega) (by omega)
    by_cases hn : ws = []
    · subst hn
      refine ⟨cs ++ [d], by simp, ?_⟩
      rw [hfl, flatW_cons, List.append_assoc, hstep, flatW_nil, List.nil_append]
      show decG el (normS f w.2) _ (p + w.1.length) (p + w.1.length) r = decG el (normS f w.2) _ (p + (w.1.length + 0)) (p + (w.1.length + 0)) r
      rw [Nat.add_zero]
    · obtain ⟨cs', e1, e2⟩ := ih (normS f w.2) (cs ++ [d]) (p + w.1.length) (p + w.1.length) (fun v hv => hw v (by simp [hv])) h1' (by rw [List.length_append]; simp; omega) hn
      refine ⟨cs', by rw [e1, List.length_append]; simp; omega, ?_⟩
      rw [hfl, flatW_cons, List.append_assoc, hstep, e2, Nat.add_assoc]; rfl
theorem bT_flat (c : UInt8) : Flat (bT c) := .inl rfl
def rowA (m : Nat) : List UInt8 := List.replicate m 97
def slotN : It := ⟨5, bsL [110], 0⟩
def bitN : List UInt8 := [123, 110, 125]
def rowN (m : Nat) : List UInt8 := (List.replicate m bitN).flatten
theorem rowA_succ (m : Nat) : rowA (m + 1) = rowA m ++ [97] := by unfold rowA; rw [List.replicate_succ']
theorem rowN_succ (m : Nat) : rowN (m + 1) = rowN m ++ bitN := by unfold rowN; rw [List.replicate_succ', List.flatten_append]; simp
theorem rowA_len (m : Nat) : (rowA m).length = m := List.length_replicate
theorem rowN_len (m : Nat) : (rowN m).length = 3 * m := by
  induction m with
  | zero => rfl
  | succ m ih => rw [rowN_succ, List.length_append, ih]; show 3 * m + 3 = _; omega
theorem word_a : Word elR [97] (bT 97) := word_el elR_ok (by simp) (fun r => elR_text 97 r (by decide) (by decide) (by decide))
theorem slot_nm : isNm (bsL [110]) = true := by decide
theorem word_n : Word elR bitN slotN := word_el elR_ok (by decide) (fun r => elR_slot [110] r (by decide) slot_nm)
def wsA (m : Nat) : Ws := List.replicate m ([97], bT 97)
def wsN (m : Nat) : Ws := List.replicate m (bitN, slotN)
theorem wsA_flat (m : Nat) : flatW (wsA m) = rowA m := by
  unfold flatW wsA rowA
  induction m with
  | zero => rfl
  | succ m ih => rw [List.replicate_succ, List.flatMap_cons, ih, List.replicate_succ]; rfl
theorem wsN_flat (m : Nat) : flatW (wsN m) = rowN m := by
  unfold flatW wsN rowN
  induction m with
  | zero => rfl
  | succ m ih => rw [List.replicate_succ, List.flatMap_cons, ih, List.replicate_succ, List.flatten_cons]
theorem wsA_fold (m : Nat) : ((itW (wsA m)).foldl normS []).length ≤ 1 := by
  have h1 : itW (wsA m) = (rowA m).map bT := by unfold itW wsA rowA; rw [List.map_replicate, List.map_replicate]
  rw [h1, fold_bytes]
  unfold normS
  repeat' split
  all_goals simp
theorem wsN_fold (m : Nat) : ∀ f : List It, ((itW (wsN m)).foldl normS f).length = f.length + m := by
  induction m with
  | zero => intro f; rfl
  | succ m ih =>
    intro f
    show ((itW (wsN m)).foldl normS (normS f slotN)).length = _
    rw [ih, norm_other f slotN (by decide), List.length_append]; simp; omega
theorem wsA_all (m : Nat) : AllW elR (wsA m) := fun w hw => by rw [List.eq_of_mem_replicate hw]; exact word_a
theorem wsN_all (m : Nat) : AllW elR (wsN m) := fun w hw => by rw [List.eq_of_mem_replicate hw]; exact word_n
theorem rowA_ok (m : Nat) (h : m ≤ 1024) : (dec elR (rowA m)).2.2 = (0, 0) ∧ (dec elR (rowA m)).2.1.length = m + 1 := by
  have h1 := wsA_fold m
  have := dec_words (wsA m) [] (Tail.nil elR) [] [] 0 0 (wsA_all m) (by omega) (by show 0 + (wsA m).length ≤ _; unfold wsA; rw [List.length_replicate]; omega)
  rw [List.append_nil, wsA_flat] at this
  unfold dec
  rw [this]
  refine ⟨rfl, ?_⟩
  show ([] ++ 0 :: (offs 0 (wsA m)).tail).length = _
  rw [List.nil_append, ← offs_head, offs_len]
  unfold wsA; rw [List.length_replicate]
theorem ne_of_len {ws : Ws} (h : 0 < ws.length) : ws ≠ [] := fun e => by rw [e] at h; cases h
theorem wsA_len (m : Nat) : (wsA m).length = m := List.length_replicate
theorem wsN_len (m : Nat) : (wsN m).length = m := List.length_replicate
theorem rowA_more (m : Nat) (hm : m = 1024) : (dec elR (rowA (m + 1))).2.2 = (m, 3) := by
  have h1 := wsA_fold m
  have hl := wsA_len m
  obtain ⟨cs', e1, e2⟩ := dec_behind (wsA m) [97] [] [] 0 0 (wsA_all m) (by omega) (by show 0 + (wsA m).length ≤ _; omega) (ne_of_len (by omega))
  rw [hl] at e1
  rw [wsA_flat, ← rowA_succ, rowA_len] at e2
  have e1' : cs'.length = 0 + m := e1
  unfold dec
  rw [e2, decG_full elR_ok _ _ _ _ [97] (elR_text 97 [] (by decide) (by decide) (by decide)) (.inr (by omega)), Nat.zero_add]
theorem rowA_full (m : Nat) (hm : m = 1025) : (dec elR (rowA m)).2.2 = (1024, 3) := by
  obtain ⟨k, rfl⟩ : ∃ k, m = k + 1 := ⟨1024, hm⟩
  have h : k = 1024 := by omega
  rw [rowA_more k h, h]
theorem rowN_ok (m : Nat) (h : m ≤ 512) : (dec elR (rowN m)).2.2.2 = 0 := by
  have h1 := wsN_fold m []
  have := dec_words (wsN m) [] (Tail.nil elR) [] [] 0 0 (wsN_all m) (by rw [h1]; show 0 + m ≤ _; omega) (by show 0 + (wsN m).length ≤ _; unfold wsN; rw [List.length_replicate]; omega)
  rw [List.append_nil, wsN_flat] at this
  unfold dec
  rw [this]
theorem rowN_more (m : Nat) (hm : m = 512) : (dec elR (rowN (m + 1))).2.2 = (3 * m, 3) := by
  have h1 := wsN_fold m []
  have hl := wsN_len m
  have h1' : ((itW (wsN m)).foldl normS []).length = 0 + m := h1
  obtain ⟨cs', e1, e2⟩ := dec_behind (wsN m) bitN [] [] 0 0 (wsN_all m) (by omega) (by show 0 + (wsN m).length ≤ _; omega) (ne_of_len (by omega))
  rw [wsN_flat, ← rowN_succ, rowN_len] at e2
  have hel : elR bitN = some (some slotN, 3) := elR_slot [110] [] (by decide) slot_nm
  have hln : (normS ((itW (wsN m)).foldl normS []) slotN).length = m + 1 := by rw [norm_other _ slotN (by decide), List.length_append, h1']; simp
  unfold dec
  rw [e2, decG_full elR_ok _ _ _ _ bitN hel (.inl (by omega)), Nat.zero_add]
theorem rowN_full (m : Nat) (hm : m = 513) : (dec elR (rowN m)).2.2 = (1536, 3) := by
  obtain ⟨k, rfl⟩ : ∃ k, m = k + 1 := ⟨512, hm⟩
  have h : k = 512 := by omega
  rw [rowN_more k h, h]
/-- A unit and a long comment. -/
def longL (n : Nat) : List UInt8 := [107, 61, 97, 10, 35] ++ List.replicate n 35
theorem longL_len (n : Nat) : (longL n).length = n + 5 := by unfold longL; rw [List.length_append, List.length_replicate]; show 5 + n = _; omega
theorem longL_succ (n : Nat) : longL (n + 1) = longL n ++ [35] := by unfold longL; rw [List.replicate_succ', List.append_assoc]
theorem longL_ok (n : Nat) : (spl (bsL (longL n)) [] 0 0).2 = (0, 0) := by
  have hz : (bsL (longL n)).size = n + 5 := by rw [bsL_size, longL_len]
  have h0 : restD (bsL (longL n)) 0 = 107 :: 61 :: 97 :: 10 :: 35 :: List.replicate n 35 := by unfold restD; rw [bsL_list]; rfl
  have h4 : restD (bsL (longL n)) 4 = 35 :: List.replicate n 35 := by unfold restD; rw [bsL_list]; rfl
  have hup : upto 61 (restD (bsL (longL n)) 0) = [107] := by rw [h0]; exact upto_app 61 [107] (97 :: 10 :: 35 :: List.replicate n 35) (by decide)
  have hra : rawAt (bsL (longL n)) 0 = 2 := by unfold rawAt; rw [hup]; rfl
  have h2 : restD (bsL (longL n)) 2 = 97 :: 10 :: 35 :: List.replicate n 35 := by unfold restD; rw [bsL_list]; rfl
  have hrn : rawN (bsL (longL n)) 0 = 1 := by unfold rawN; rw [hra, h2, rawL_c _ _ (by decide) (by decide), rawL_10]
  have hrd : rawD (bsL (longL n)) 0 = [97] := by unfold rawD; rw [hra, hrn, h2]; rfl
  have hsk : skipL (restD (bsL (longL n)) 0) = false := by rw [h0]; unfold skipL; simp [blanks, blB]
  have hky : keyK (restD (bsL (longL n)) 0) = true := by
    have hh : hasU 61 (restD (bsL (longL n)) 0) = true := by rw [h0]; exact has_app 61 [107] (97 :: 10 :: 35 :: List.replicate n 35) (by decide)
    unfold keyK
    rw [hh, hup]; decide
  have hd : (dec elR (rawD (bsL (longL n)) 0)).2.2.2 = 0 := by rw [hrd]; have := (rowA_ok 1 (by omega)).1; show (dec elR (rowA 1)).2.2.2 = 0; rw [this]
  rw [spl_unit _ _ _ _ (by omega) hsk hky rfl hd, hra, hrn]
  have hsk4 : skipL (restD (bsL (longL n)) 4) = true := by rw [h4]; unfold skipL; simp [blanks, blB]
  have hu4 : (upto 10 (restD (bsL (longL n)) 4)).length = n + 1 := by
    rw [h4]
    have : ∀ k, upto 10 (List.replicate k 35) = List.replicate k 35 := fun k => by
      unfold upto
      induction k with
      | zero => rfl
      | succ k ih => rw [List.replicate_succ, List.takeWhile_cons, ih]; rfl
    rw [← List.replicate_succ, this, List.length_replicate]
  rw [spl_skip _ _ _ _ (by omega) hsk4, hu4, spl_end _ _ _ _ (by omega)]
end Go.Proofs.YtdbbjhbkhimbfaaDoor
namespace Go.Proofs.YtdbbjhbkhimbfaaDoor
open Go.ChangeShapes Go.WideShapes Go.ChangeAt Go.RowKit
set_option linter.unusedVariables false
set_option linter.unusedSimpArgs false
set_option maxRecDepth 100000

/-- Split's offset and error, on both sides. -/
def EndAt (q : Nat) (er : Int) (w : World) (e : Ending) (w' : World) : Prop := ∃ p n c, e = .returned (.tuple #[.slice p n c, .int .i64 (q : Int), .int .i64 er]) ∧ Below w.heap.size w w'
theorem EndS.at {R : List Pt × Nat × Int} {w w' : World} {e : Ending} {q : Nat} {er : Int} (h : EndS R w e w') (hq : R.2 = (q, er)) : EndAt q er w e w' := by
  obtain ⟨p, c, rfl, _, _, _, hb⟩ := h
  exact ⟨p, R.1.length, c, by rw [hq], hb⟩
theorem long_two (n : Nat) (h : n ≤ 65600) : ∃ er : Int, (er == 3) = decide (65536 < n + 5) ∧ (∀ W, Calls Tryd.prog 13 #[.string (bsL (longL n))] W (EndAt 0 er W)) ∧ ∀ W, Calls Tryd.prog 14 #[.int .i64 2, .string (bsL (longL n))] W (EndAt 0 er W) := by
  have hz : (bsL (longL n)).size = n + 5 := by rw [bsL_size, longL_len]
  by_cases hb : 65536 < n + 5
  · have hR : (splR (bsL (longL n))).2 = (0, 3) := by unfold splR; rw [if_pos (by omega)]
    exact ⟨3, by rw [decide_eq_true hb]; rfl, fun W => (split_any _ W (by omega)).mono fun e w' h => h.at hR, fun W => (refsplit_any _ W (by omega)).mono fun e w' h => h.at hR⟩
  · have hR : (splR (bsL (longL n))).2 = (0, 0) := by unfold splR; rw [if_neg (by omega)]; exact longL_ok n
    exact ⟨0, by rw [decide_eq_false hb]; rfl, fun W => (split_any _ W (by omega)).mono fun e w' h => h.at hR, fun W => (refsplit_any _ W (by omega)).mono fun e w' h => h.at hR⟩
theorem place3 (a : Int) (h : (Lit.int .i64 a).wf = true) : ∃ k : Nat, k ≤ 2 ∧ ∀ W, Calls Tryd.prog 12 #[.int .i64 a, .int .i64 3] W fun e w' => e = .returned (.int .i64 (k : Int)) ∧ W = w' := by
  have u0 := Int.emod_nonneg a (show (3 : Int) ≠ 0 by decide)
  have u1 := Int.emod_lt_of_pos a (show (0 : Int) < 3 by decide)
  refine ⟨(a % 3).toNat, by omega, fun W => ?_⟩
  have := place_any a 3 W (by omega) (by omega) h
  rw [show a % 3 = ((a % 3).toNat : Int) by omega] at this
  exact this
/-- append of a byte where there is no room. -/
theorem wpl_growB (w : World) {ops : Array Oper} {rest : List Oper} {o : Oper} {a : Act} {Q : Exit → Act → World → Prop} (hg : o.guard = none) (s x : Operand)
    (ho : o.op = .call { callee := .builtin .append, args := #[s, x], argTypes := #[22, 22] }) (B0 n : Nat) (l : List UInt8) (hs : a.eval s = .slice (some ⟨B0, 0, none⟩) n n) (hl : l.length = n) (hc : ∀ j u, (cellsOf benc l)[j]? = some u → w.cell? ((⟨B0, 0, none⟩ : Addr).add j) = some u)
    (y : UInt8) (B : Nat) (cs : Array Value) (hx : a.eval x = .slice (some ⟨B, 0, none⟩) 1 1) (hB : w.heap[B]? = some (.cells cs 5 (0, 0))) (hcs : cs.toList = benc y) (hn : n ≤ 1000000)
    (hK : ∀ v' w', OwB w.heap.size (l ++ [y]) v' w' → w.grownBy w' none → wpList Tryd.prog ops Q rest (a.put o.dst v') w') : wpList Tryd.prog ops Q (o :: rest) a w := by
  obtain ⟨i, hi, hz0, hz1, hz2⟩ := eB.hi
  have hlc : (cellsOf benc l).length = n * 1 := by rw [cellsOf_len eB, hl]
  refine wpList_append_grows w hg s x 22 ho 5 i (.int .u8 0) 1 1 eB.ht hi hz0 hz1 hz2 eB.hzs eB.hsz (some ⟨B0, 0, none⟩) n n (cellsOf benc l) hs (fun h => by cases h) hlc (fun b hb => by injection hb with hb; subst hb; exact hc) ⟨B, 0, none⟩ 1 1 (benc y) hx rfl ?_ (eB.one y) (by omega) (by unfold maxLen; omega) (by omega) ?_
  · rw [← hcs]; exact World.news_of_block hB
  · intro v' w' h1 h2
    refine hK v' w' (OwB.of ?_) h2
    unfold OwnL
    rw [List.length_append, hl, show cellsOf benc (l ++ [y]) = cellsOf benc l ++ benc y from by unfold cellsOf; rw [List.flatMap_append]; simp]; exact h1
theorem cellsB5 : cellsOf benc (longL 0) = (#[.int .u8 107, .int .u8 61, .int .u8 97, .int .u8 10, .int .u8 35] : Array Value).toList := rfl
set_option maxHeartbeats 12800000 in
theorem limits_any (a0 a1 a2 : Int) (w : World) (w0 : (Lit.int .i64 a0).wf = true) (w1 : (Lit.int .i64 a1).wf = true) (w2 : (Lit.int .i64 a2).wf = true) :
    Calls Tryd.prog 3 #[.int .i64 a0, .int .i64 a1, .int .i64 a2] w fun e w' => e = .returned (.bool true) ∧ Below w.heap.size w w' := by
  have HK := Lib.hid known_any
  obtain ⟨k0, hk0, P0⟩ := place3 a0 w0
  obtain ⟨k1, hk1, P1⟩ := place3 a1 w1
  obtain ⟨k2, hk2, P2⟩ := place3 a2 w2
  obtain ⟨er, her, hS, hT⟩ := long_two (65530 + k0) (by omega)
  have HP0 := Lib.hid P0; have HP1 := Lib.hid P1; have HP2 := Lib.hid P2; have HSP := Lib.hid hS; have HRS := Lib.hid hT
  unfold EndAt at HSP HRS
  have hdA := fun W => decode_any (bsL (rowA (1023 + k1))) W (by rw [bsL_size, rowA_len]; omega)
  have hcA := fun W => cuts_any (bsL (rowA (1023 + k1))) W (by rw [bsL_size, rowA_len]; omega)
  have hdN := fun W => decode_any (bsL (rowN (511 + k2))) W (by rw [bsL_size, rowN_len]; omega)
  rw [bsL_list] at hdA hcA hdN
  unfold EndD at hdA hdN
  unfold EndC at hcA
  have hA : (1023 + k1 ≤ 1024 → (dec elR (rowA (1023 + k1))).2.2 = (0, 0) ∧ (dec elR (rowA (1023 + k1))).2.1.length = 1023 + k1 + 1) ∧ (¬ 1023 + k1 ≤ 1024 → (dec elR (rowA (1023 + k1))).2.2 = (1024, 3)) := ⟨rowA_ok _, fun h => rowA_full _ (by omega)⟩
  have hN : (511 + k2 ≤ 512 → (dec elR (rowN (511 + k2))).2.2.2 = 0) ∧ (¬ 511 + k2 ≤ 512 → (dec elR (rowN (511 + k2))).2.2 = (1536, 3)) := ⟨rowN_ok _, fun h => rowN_full _ (by omega)⟩
  obtain ⟨RA, hRA⟩ : ∃ R, dec elR (rowA (1023 + k1)) = R := ⟨_, rfl⟩
  obtain ⟨RN, hRN⟩ : ∃ R, dec elR (rowN (511 + k2)) = R := ⟨_, rfl⟩
  rw [hRA] at hdA hcA hA
  rw [hRN] at hdN hN
  obtain ⟨FA, CA, qA, eA⟩ := RA
  obtain ⟨FN, CN, qN, eN⟩ := RN
  dsimp only at hdA hcA hdN hA hN
  rw [show (nI CA).length = CA.length from nI_len CA] at hcA
  have HDA := Lib.hid hdA; have HCA := Lib.hid hcA; have HDN := Lib.hid hdN; have HA := Lib.hid hA; have HN := Lib.hid hN
  clear P0 P1 P2 hS hT hdA hcA hdN hA hN hRA hRN w0 w1 w2
  have hkc := Lib.run_convert_bytes_const (P := Tryd.prog) w 22 5 #[.int .u8 107, .int .u8 61, .int .u8 97, .int .u8 10, .int .u8 35] 5 5 Tryd.underlying22 Tryd.underlying5
  have hst : ∀ j u, (cellsOf benc (longL 0))[j]? = some u → (w.alloc (.cells #[.int .u8 107, .int .u8 61, .int .u8 97, .int .u8 10, .int .u8 35] 5 (5, 6))).cell? ((⟨w.heap.size, 0, none⟩ : Addr).add j) = some u := fun j u h => by
    rw [cellsB5] at h
    have : (w.alloc (.cells #[.int .u8 107, .int .u8 61, .int .u8 97, .int .u8 10, .int .u8 35] 5 (5, 6))).heap[w.heap.size]? = some (.cells #[.int .u8 107, .int .u8 61, .int .u8 97, .int .u8 10, .int .u8 35] 5 (5, 6)) := heap_alloc_new w _
    have e : ((⟨w.heap.size, 0, none⟩ : Addr).add j) = ⟨w.heap.size, j, none⟩ := by simp [Addr.add]; try omega
    rw [e, Lib.cell_of_heap this, ← Array.getElem?_toList]; exact h
  have HST := Lib.hid hst
  have hBst := blw (Below.refl w.heap.size w) (.cells #[.int .u8 107, .int .u8 61, .int .u8 97, .int .u8 10, .int .u8 35] 5 (5, 6))
  clear hst
  go_enter Tryd.func3, Tryd.ntmps3
  go_wp2_with fail
  clear hkc
  refine (HP0.out _).mono ?_; rintro e w1 ⟨rfl, rfl⟩
  go_wp2_with fail
  go_loopw [7] (fun v wr => ∃ q : Nat, q ≤ 65530 + k0 ∧ ((q = 0 ∧ v = .slice (some ⟨w.heap.size, 0, none⟩) 5 5 ∧ Hid (∀ j u, (cellsOf benc (longL 0))[j]? = some u → wr.cell? ((⟨w.heap.size, 0, none⟩ : Addr).add j) = some u) ∧ w.heap.size < wr.heap.size) ∨ (0 < q ∧ OwB w.heap.size (longL q) v wr)) ∧ Below w.heap.size w wr) (fun v _ => 70000 - (match v with | .slice _ n _ => n | _ => 0))
  case atStart => exact ⟨0, Nat.zero_le _, .inl ⟨rfl, rfl, HST, by simp⟩, hBst⟩
  case round =>
    obtain ⟨q, hq, hor, hB⟩ := hrel
    have hbs := hB.size
    clear HST hBst
    rcases hor with ⟨rfl, rfl, hC, hlw⟩ | ⟨hq0, hO⟩
    · have i1 : (5 : Int) < 65535 + (k0 : Int) := by omega
      have hC2 : ∀ j u, (cellsOf benc (longL 0))[j]? = some u → (wr.alloc (.cells #[.int .u8 35] 5)).cell? ((⟨w.heap.size, 0, none⟩ : Addr).add j) = some u := fun j u h => by
        have hbw := blw (Below.refl _ wr) (.cells #[.int .u8 35] 5)
        rw [hbw.cell (p := (⟨w.heap.size, 0, none⟩ : Addr).add j) (by rw [add_block]; exact hlw)]
        exact hC.out j u h
      have HC2 := Lib.hid hC2
      clear hC2 hC
      go_wp2_with (at_builtin; refine wpl_growB _ rfl _ _ rfl w.heap.size 5 (longL 0) rfl rfl HC2.out (35 : UInt8) wr.heap.size _ rfl (heap_alloc_new wr _) rfl (by omega) ?_; intro v6 w6 hO6 hg6)
      have hO7 : OwB w.heap.size (longL 1) v6 w6 := by
        have := hO6
        rw [← longL_succ] at this
        unfold OwB at this ⊢
        exact ownsRow_base this (by simp; omega)
      have hB6 := (blw hB (.cells #[.int .u8 35] 5)).grown hg6 (by simp; omega) (fun k hk => by cases hk)
      obtain ⟨g6, cap6, hv6, -, -⟩ := World.ownsRow.form hO6 (by simp)
      subst hv6
      clear hO6 hg6
      go_roundw
      case rel => exact ⟨1, by omega, .inr ⟨by omega, hO7⟩, hB6⟩
      case measure => simp [longL_len]
    have hO0 := hO
    unfold OwB at hO0
    obtain ⟨g, cap, hv, -, -⟩ := World.ownsRow.form hO0 (by rw [longL_len]; omega)
    rw [longL_len] at hv
    subst hv
    have HO := Lib.hid hO.ownL
    have hcv := fun W (h : OwB w.heap.size (longL q) (.slice (some ⟨g, 0, none⟩) (q + 5) cap) W) => econv_own h
    clear hO0
    by_cases hlt : q < 65530 + k0
    · have i1 : (q : Int) + 5 < 65535 + (k0 : Int) := by omega
      have HO2 := Lib.hid (HO.out.call (blw (Below.refl _ wr) (.cells #[.int .u8 35] 5)))
      have hsz : w.heap.size ≤ (wr.alloc (.cells #[.int .u8 35] 5)).heap.size := by simp; omega
      have hll := longL_len q
      have HLL := Lib.hid hll
      clear hll hO hcv
      go_wp2_with (at_builtin; refine wpl_app eB _ rfl _ _ rfl w.heap.size (longL q) (.slice (some ⟨g, 0, none⟩) (q + 5) cap) rfl HO2.out hsz (35 : UInt8) wr.heap.size _ rfl (heap_alloc_new wr _) rfl (by rw [HLL.out]; omega) (by rw [HLL.out]; unfold maxLen; omega) ?_; intro g2 cap2 w6 hO6 hg6 hl6)
      have hB6 := (blw hB (.cells #[.int .u8 35] 5)).grown hg6 hsz (fun k hk => (HO2.out.lt k hk).1)
      go_roundw
      case rel => exact ⟨q + 1, hlt, .inr ⟨by omega, by rw [longL_succ]; exact OwB.of hO6⟩, hB6⟩
      case measure => rw [HLL.out]; show 70000 - (q + 5 + 1) < 70000 - (q + 5); omega
    · obtain rfl : q = 65530 + k0 := by omega
      have i1 : ¬ (((65530 + k0 : Nat) : Int) + 5 < 65535 + (k0 : Int)) := by omega
      have hc1 := econv_own hO
      have s3 : (er != er) = false := by simp
      go_wp2_with fail
      refine (HSP.out _).mono ?_; rintro e w2 ⟨p1, n1, cc1, rfl, hb⟩
      have bl := BelowOn hB hb
      have hO2 := hO.call hb
      have hc2 := econv_own hO2
      clear hO hb hc1
      go_wp2_with fail
      refine (HRS.out _).mono ?_; rintro e w3 ⟨p2, n2, cc2, rfl, hb⟩
      have bl := BelowOn bl hb
      clear hb hc2 hO2 HO
      go_upto_region 7 with fail
      go_cut [68] (fun v w' => v = .bool false ∧ w' = w3)
      case first =>
        by_cases hk : 65536 < 65530 + k0 + 5
        · have q1 : (er == 3) = true := by rw [her]; exact decide_eq_true hk
          have i5 : (65536 : Int) < ((65530 + k0 : Nat) : Int) + 5 := by omega
          have i6 : (65536 : Int) < 65530 + (k0 : Int) + 5 := by omega
          have i7 : 65536 < 65530 + k0 + 5 := hk
          clear her
          go_wp2_with fail
          go_meet
          exact ⟨by first | rfl | simp, rfl⟩
        · have q1 : (er == 3) = false := by rw [her]; exact decide_eq_false hk
          have i5 : ¬ (65536 : Int) < ((65530 + k0 : Nat) : Int) + 5 := by omega
          have i6 : ¬ (65536 : Int) < 65530 + (k0 : Int) + 5 := by omega
          clear her
          go_wp2_with fail
          go_meet
          exact ⟨by first | rfl | simp, rfl⟩
      case rest =>
        obtain ⟨rfl, rfl⟩ := hcut
        clear her i1
        go_wp2_with fail
        refine (HP1.out _).mono ?_; rintro e w4 ⟨rfl, rfl⟩
        go_wp2_with fail
        go_loop [15, 17] (fun v i => ∃ x r : Nat, x + r = 1023 + k1 ∧ i = .int .i64 (r : Int) ∧ v = .string (bsL (rowA x))) (fun _ i => (intOf i).toNat)
        case atStart => exact ⟨0, 1023 + k1, Nat.zero_add _, by first | rfl | go_num, rfl⟩
        case round =>
          obtain ⟨x, r, hxr, rfl, rfl⟩ := hrel
          by_cases hr : 0 < r
          · have hz : (bsL (rowA x)).size = x := by rw [bsL_size, rowA_len]
            have hzz : ¬ (9223372036854775807 < (bsL (rowA x)).size + 1) := by omega
            have HNX := Lib.hid (show bsL (rowA x) ++ ⟨#[97]⟩ = bsL (rowA (x + 1)) by rw [rowA_succ, ← bsL_append]; rfl)
            clear hz
            go_wp2_with fail
            go_round
            case rel => exact ⟨x + 1, r - 1, by omega, by first | go_num | (congr 1; omega), by rw [← HNX.out]⟩
            case measure => simp [intOf]; omega
          · obtain rfl : r = 0 := by omega
            obtain rfl : x = 1023 + k1 := by omega
            clear hr hxr
            have hzA : (bsL (rowA (1023 + k1))).size = 1023 + k1 := by rw [bsL_size, rowA_len]
            generalize bsL (rowA (1023 + k1)) = SA at *
            go_wp2_with fail
            refine (HP2.out _).mono ?_; rintro e w5 ⟨rfl, rfl⟩
            go_wp2_with fail
            go_loop [16, 18] (fun v i => ∃ x r : Nat, x + r = 511 + k2 ∧ i = .int .i64 (r : Int) ∧ v = .string (bsL (rowN x))) (fun _ i => (intOf i).toNat)
            case atStart => exact ⟨0, 511 + k2, Nat.zero_add _, by first | rfl | go_num, rfl⟩
            case round =>
              obtain ⟨x, r, hxr, rfl, rfl⟩ := hrel
              by_cases hr : 0 < r
              · have hz : (bsL (rowN x)).size = 3 * x := by rw [bsL_size, rowN_len]
                have hzz : ¬ (9223372036854775807 < (bsL (rowN x)).size + 3) := by omega
                have HNX := Lib.hid (show bsL (rowN x) ++ ⟨#[123, 110, 125]⟩ = bsL (rowN (x + 1)) by rw [rowN_succ, ← bsL_append]; rfl)
                clear hz
                go_wp2_with fail
                go_round
                case rel => exact ⟨x + 1, r - 1, by omega, by first | go_num | (congr 1; omega), by rw [← HNX.out]⟩
                case measure => simp [intOf]; omega
              · obtain rfl : r = 0 := by omega
                obtain rfl : x = 511 + k2 := by omega
                clear hr hxr
                have hzN : (bsL (rowN (511 + k2))).size = 3 * (511 + k2) := by rw [bsL_size, rowN_len]
                generalize bsL (rowN (511 + k2)) = SN at *
                go_wp2_with fail
                refine (HDA.out _).mono ?_; rintro e w6 ⟨p3, c3, rfl, -, -, -, hb⟩
                have bl := BelowOn bl hb; clear hb
                go_wp2_with fail
                refine (HDN.out _).mono ?_; rintro e w7 ⟨p4, c4, rfl, -, -, -, hb⟩
                have bl := BelowOn bl hb; clear hb
                go_wp2_with fail
                refine (HCA.out _).mono ?_; rintro e w8 ⟨p5, c5, rfl, -, -, -, hb⟩
                have bl := BelowOn bl hb; clear hb
                have e3 : (eA != eA) = false := by simp
                clear HSP HRS HDA HDN HCA HP0 HP1 HP2
                go_upto_if 106 with (fail)
                go_cut [116] from 107 to 130 (fun v w' => w' = w8)
                case first =>
                  by_cases h1 : 1023 + k1 ≤ 1024
                  · obtain ⟨h2, h3⟩ := HA.out.1 h1
                    injection h2 with h4 h5
                    have t1 : (eA != 0) = false := by rw [h5]; rfl
                    have i5 : ¬ (1024 : Int) < (SA.size : Int) := by omega
                    have i6 : ((CA.length : Int) != (SA.size : Int) + 1) = false := by simp; omega
                    have i7 : ¬ 1024 < SA.size := by omega
                    have i8 : ¬ (9223372036854775807 < SA.size + 1) := by omega
                    clear hzA h3 h4 h5
                    go_wp2_with fail
                    go_meet
                    rfl
                  · have h2 := HA.out.2 h1
                    injection h2 with h4 h5
                    have t1 : (eA != 3) = false := by rw [h5]; rfl
                    have t2 : ((qA : Int) != 1024) = false := by rw [h4]; rfl
                    have i5 : (1024 : Int) < (SA.size : Int) := by omega
                    have i7 : 1024 < SA.size := by omega
                    clear hzA h4 h5
                    go_wp2_with fail
                    go_meet
                    rfl
                case rest =>
                  subst hcut
                  by_cases h1 : 511 + k2 ≤ 512
                  · have h2 := HN.out.1 h1
                    subst h2
                    have i5 : ¬ (1536 : Int) < (SN.size : Int) := by omega
                    have i7 : ¬ 1536 < SN.size := by omega
                    clear hzN
                    go_wp2_with fail
                    refine (HK.out _).mono ?_; rintro e w9 ⟨rfl, hb⟩
                    have bl := BelowOn bl hb; clear hb
                    go_wp2_with fail
                    go_ret
                    exact ⟨rfl, bl⟩
                  · have h2 := HN.out.2 h1
                    injection h2 with h4 h5
                    subst h4 h5
                    have i5 : (1536 : Int) < (SN.size : Int) := by omega
                    have i7 : 1536 < SN.size := by omega
                    clear hzN
                    go_wp2_with fail
                    refine (HK.out _).mono ?_; rintro e w9 ⟨rfl, hb⟩
                    have bl := BelowOn bl hb; clear hb
                    go_wp2_with fail
                    go_ret
                    exact ⟨rfl, bl⟩
end Go.Proofs.YtdbbjhbkhimbfaaDoor
namespace Go.Proofs.YtdbbjhbkhimbfaaDoor.resourceLimits
open Go.ChangeShapes Go.WideShapes Go.ChangeAt Go.RowKit
open Go.ChangeMaps (open_string shut_string)
set_option linter.unusedVariables false
set_option maxRecDepth 100000

theorem own : ownKnob Tryd.prog.godebug = none := by kernel_rfl
theorem laidOut : laidOutB Tryd.prog = true := by kernel_rfl


set_option maxHeartbeats 1600000 in
theorem walk (a0 : Int) (a1 : Int) (a2 : Int) (w : World) (w0 : (Lit.int .i64 a0).wf = true) (w1 : (Lit.int .i64 a1).wf = true) (w2 : (Lit.int .i64 a2).wf = true) :
    Calls Tryd.prog 3 #[.int .i64 a0, .int .i64 a1, .int .i64 a2] w fun e w' => e = .returned (.bool true) ∧ Below w.heap.size w w' := by
  exact limits_any a0 a1 a2 w w0 w1 w2

theorem lifted (os : Os) (started : os.Started) (H : Type) (enc : TypeId × Value → H) :
    ReturnsInHanded {} Tryd.checked os 3 .any (fun w args => (Rows.resourceLimitsSpec.pre enc Tryd.prog Tryd.f3 Rows.resourceLimitsRow.domain false w args ∧ laidMetH Tryd.prog Rows.resourceLimitsRow.laid w) ∧ sizedMet enc Tryd.prog Tryd.f3 (OpenSpec.ofChange Rows.resourceLimitsSpec) false w args)
      (Rows.resourceLimitsSpec.post enc Tryd.prog Tryd.f3 false true false false) := by
  refine returnsInHanded_of_change_and (C := Tryd.checked) (X := fun w _ => laidMetH Tryd.prog Rows.resourceLimitsRow.laid w) (fun _ _ _ hh h => h.of_heap hh) own started (by kernel_rfl) Tryd.func3
    (ChangeSpec.witness_shaped (enc := enc) (C := Tryd.checked) (os := os) (X := fun w _ => laidMetH Tryd.prog Rows.resourceLimitsRow.laid w) false (World.laidAll Tryd.prog os Rows.resourceLimitsRow.laid) #[.int .i64 0, .int .i64 0, .int .i64 0] 8 (World.laidAll_os _ _ _) (World.shaped_of_ZipB (by kernel_rfl) (by kernel_rfl)) (by kernel_rfl) (by kernel_rfl) (by kernel_rfl) (by rw [MakeChecks.laidMetH_plain _ _ _ (by kernel_rfl)]; exact laidMet_laidAll _ (by kernel_rfl) (by kernel_rfl))) ?_
  intro W base args ds gs before hval0 hW hcnd hsz0 hL _
  have hval : ∀ (j : Nat) t v, Tryd.f3.params[j]? = some t → args[j]? = some v → Value.okWide Tryd.prog W .any base t v := hval0
  have hW' := hW
  have hlt : ∀ x ∈ before, x.block < W.heap.size := fun x hx => hW'.lt x hx
  obtain ⟨p, q, hA0, hV, rfl, hfz, hnd⟩ := hW
  have hA : DataW.TrodAll enc Tryd.prog W 0 (fun _ => true) true Tryd.f3.params.toList args.toList ds p := hA0
  rw [Tryd.params3] at hA hval hsz0
  obtain ⟨v0, vs0, d0, ds0, p0, q0, hargs, rfl, rfl, h0, r0⟩ := trodAll_cons hA
  obtain ⟨v1, vs1, d1, ds1, p1, q1, rfl, rfl, rfl, h1, r1⟩ := trodAll_cons r0
  obtain ⟨v2, vs2, d2, ds2, p2, q2, rfl, rfl, rfl, h2, r2⟩ := trodAll_cons r1
  obtain ⟨rfl, rfl, rfl⟩ := trodAll_nil r2
  obtain rfl : args = #[v0, v1, v2] := by cases args; simp_all
  obtain ⟨rfl, rfl⟩ := trodVars_none hV
  have hsz := hsz0; clear hsz0
  obtain ⟨a0, rfl, -, -, w0⟩ := open_int Tryd.underlying3 (hval 0 3 v0 rfl rfl) h0
  obtain ⟨a1, rfl, -, -, w1⟩ := open_int Tryd.underlying3 (hval 1 3 v1 rfl rfl) h1
  obtain ⟨a2, rfl, -, -, w2⟩ := open_int Tryd.underlying3 (hval 2 3 v2 rfl rfl) h2
  clear hA0 hval0
  refine (walk a0 a1 a2 W w0 w1 w2).mono fun e W' ⟨he, bel⟩ => ?_
  subst he
  exact ⟨_, rfl, _, _, _, [], _, [], hW', trodAll_mk1 (shut_bool Tryd.underlying4 _), (trodAll_cons_mk (Below.trod laidOut (by kernel_rfl) (of_decide_eq_true (by kernel_rfl)) h0 bel (fun x hx => hlt x (by simp [hx]))) (trodAll_cons_mk (Below.trod laidOut (by kernel_rfl) (of_decide_eq_true (by kernel_rfl)) h1 bel (fun x hx => hlt x (by simp [hx]))) (trodAll_cons_mk (Below.trod laidOut (by kernel_rfl) (of_decide_eq_true (by kernel_rfl)) h2 bel (fun x hx => hlt x (by simp [hx]))) trodAll_mk0))), rfl, bel.frame _, fun h => by cases h⟩

theorem over : Rows.ResourceLimitsSaid :=
  OpenClaim.holds_of_wide 3 Tryd.f3 rfl rfl rfl rfl rfl rfl rfl ⟨rfl, rfl, rfl, rfl, rfl⟩ rfl rfl rfl rfl rfl (by kernel_rfl) Tryd.func3 (by kernel_rfl)
    (of_decide_eq_true (by kernel_rfl)) (by unfold Func.isWrapper; first | (rw [if_pos (by decide +kernel)]; kernel_rfl) | (rw [if_neg (by decide +kernel)]; exact ⟨rfl, rfl⟩))
    (fun os started H enc _ => lifted os started H enc)

theorem proved : Rows.ResourceLimitsCardSaid :=
  Claim7.holds_tied_plain_at .later [] [.data, .pinned] true (true, "f09b7db72891a1549fa958fdcd354aacb82e65568e79bfd72673b4b2292d2c87") false
    over (fun _ h => by cases h) (by kernel_rfl) (fun _ h => by cases h) resourceLimits_row_tie rfl ⟨rfl, rfl⟩ (by kernel_rfl) rfl
    (fun f fn hf hfn => by
      obtain rfl : f = 3 := Option.some.inj ((show Tryd.prog.funcNamed "bitext/bitextlaw8.ResourceLimits" = some 3 by kernel_rfl).symm.trans hf) |>.symm
      obtain rfl : fn = Tryd.f3 := (Option.some.inj (Tryd.func3.symm.trans hfn)).symm
      exact ⟨by kernel_rfl, fun j t ht => by
        rw [Tryd.params3] at ht
        have hm : t ∈ [3, 3, 3] := by simpa using Array.mem_of_getElem? ht
        have hall : ([3, 3, 3].all fun u => !Tryd.prog.wantsStandIn u) = true := by kernel_rfl
        exact (show Tryd.prog.wantsStandIn t = false by simpa using List.all_eq_true.1 hall t hm)⟩)
    (by kernel_rfl)
#print axioms proved
end Go.Proofs.YtdbbjhbkhimbfaaDoor.resourceLimits
