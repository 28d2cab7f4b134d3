/- Maps from items: the key's law, an entry, and what is stored into it. The first tag with a number; an item without its number. Pairs of numbers: the model, and two slices that grow side by side. Pair, as the reference says it. Groups of numbers in a map from items. Pair, as the program says it. Plain mathematics of Pair. The walk of ItemPairs. -/
import Derived.Test.YtnfapcfajoboaaaMap
import Derived.Test.YtnfapcfajoboaaaSam
import Derived.DeepKeys4
import Derived.WideKeyEntry
import Derived.Test.YtnfapcfajoboaaaFrg
import Derived.Test.YtnfapcfajoboaaaGvl
import Derived.Test.YtnfapcfajoboaaaFrw
import Derived.Test.YtnfapcfajoboaaaShp
import Derived.Lib.QuietBelow
import Derived.Test.YtnfapcfajoboaaaRnm
import Derived.Test.YtnfapcfajoboaaaKno
import Derived.Test.YtnfapcfajoboaaaMad
import Derived.Test.YtnfapcfajoboaaaCcW
namespace Go.Proofs.Ytnfapcfajoboaaa
open Go.ChangeShapes Go.WideShapes Go.ChangeAt Go.RowKit Go.Maps
set_option linter.unusedVariables false
set_option linter.unusedSectionVars false
set_option maxRecDepth 100000

theorem laidOut : laidOutB Try.prog = true := by kernel_rfl
theorem row26 : (26 : TypeId) < Try.prog.types.size := of_decide_eq_true (by kernel_rfl)
theorem wide26 : (match Try.prog.underlying 26 with | some (.array _ _) | some (.struct _) => true | _ => false) = true := by kernel_rfl
theorem law26 : WideMaps.KeyLaw Try.prog 26 := deep_law_laid laidOut (m := 2) (by omega) row26 (by kernel_rfl) wide26
theorem k26 : Keyed Try.prog 26 := Keyed.of_law law26
theorem itv_inj (a b : It) (h : a.v = b.v) : a = b := by
  unfold It.v at h
  injection h with h
  simp only [Array.mk.injEq, List.cons.injEq, Value.int.injEq, Value.string.injEq, true_and, and_true] at h
  exact It.ext' h.1 h.2.1 h.2.2
theorem deep26 : Try.prog.keyType 26 = true := by kernel_rfl
theorem key_item (x : It) (hk : (Lit.int .i64 x.k).wf = true) (ht : x.t.size ≤ maxLen) (hi : (Lit.int .i64 x.id).wf = true) : ∃ l, keyOf Try.prog 26 x.v = some l := by
  obtain ⟨m, hm⟩ : ∃ m, Try.prog.types.size + 1 = m + 1 + 1 := ⟨Try.prog.types.size - 1, by have h : 26 < Try.prog.types.size := row26; omega⟩
  obtain ⟨f0, f1, f2, hu, t0, t1, t2, o0, o1, o2⟩ := und26
  have hf : x.v.formed Try.prog 26 = true := by unfold It.v; simp [Value.formed, hu, cells26]
  have hn : (#[f0, f1, f2] : Array Field).all (fun f => f.name != "_") = true := by
    have h := deep26
    unfold Program.keyType at h
    rw [hm, Program.keyTypeAt, hu] at h
    simp only [Bool.and_eq_true] at h
    have h1 := h.1.1
    rw [Array.all_eq_true_iff_forall_mem] at h1 ⊢
    intro f hf
    have := h1 f hf
    simp only [Bool.and_eq_true] at this
    exact this.1
  have hc : x.v.cells.toList = [.int .i64 x.k, .string x.t, .int .i64 x.id] := rfl
  have hl : ∃ ls, Try.prog.keyLits (Try.prog.types.size + 1) 26 [.int .i64 x.k, .string x.t, .int .i64 x.id] = some ls := by
    rw [hm]
    unfold Program.keyLits
    simp only [hu, cells26, hn]
    refine ⟨[.int .i64 x.k, .string x.t.data.toList, .int .i64 x.id], ?_⟩
    rw [if_pos ⟨rfl, trivial⟩]
    have e0 : Try.prog.keyLits (m + 1) 3 [.int .i64 x.k] = some [.int .i64 x.k] := by unfold Program.keyLits; simp [Try.underlying3, hk]
    have e1 : Try.prog.keyLits (m + 1) 9 [.string x.t] = some [.string x.t.data.toList] := by unfold Program.keyLits; simp [Try.underlying9, ht]
    have e2 : Try.prog.keyLits (m + 1) 3 [.int .i64 x.id] = some [.int .i64 x.id] := by unfold Program.keyLits; simp [Try.underlying3, hi]
    simp [t0, t1, t2, o0, o1, o2, cells3, cells9, e0, e1, e2]
  obtain ⟨ls, hls⟩ := hl
  unfold keyOf
  rw [hu]
  simp only [deep26, hf, Bool.and_self, if_true]
  rw [hc, hls]
  exact ⟨_, rfl⟩

section
variable {β : Type} {et T : TypeId} {enc : β → Value}
open Go.ChangeMaps (setBlock heap_setBlock_same heap_setBlock_other)
/-- An entry is looked for, or laid; and what is stored into it afterwards. -/
theorem MapAt.entry {w : World} {b n : Nat} {f : It → Option β} (h : MapAt 26 It.v enc w b n f) (ht : Try.prog.underlying T = some (.map 26 et)) (hn : n < maxLen) (z : β) (hz : ∀ u : World, (zeroValue et).run Try.prog u = .ok (enc z) u)
    {k : It} {l : Lit} (hkey : keyOf Try.prog 26 k.v = some l) : ∃ (st : Nat) (w1 : World) (f1 : It → Option β), (Instr.mapEntry T (.map (some b)) k.v).run Try.prog w = .ok (.tuple #[pickE enc (enc z) (f k), goInt st]) w1 ∧ w.grownBy w1 (some b) ∧ w1.heap.size = w.heap.size ∧
      MapAt 26 It.v enc w1 b (n + 1) f1 ∧ pickE enc (enc z) (f1 k) = pickE enc (enc z) (f k) ∧
      ∀ (w2 : World) (v : β), w2.heap[b]? = w1.heap[b]? → ∃ w3, (Instr.entryStore T (.map (some b)) (goInt st) (enc v)).run Try.prog w2 = .ok () w3 ∧ MapAt 26 It.v enc w3 b (n + 1) (fun k' => if k' = k then some v else f k') ∧ w2.grownBy w3 (some b) ∧ w3.heap.size = w2.heap.size := by
  have hlook := h.look (T := T) k26 ht (hz w) hkey
  have hput := h.put k26 itv_inj ht hn hkey
  obtain ⟨D, ⟨es, clock, hb, F, h2⟩, r⟩ := id h
  have hbl : b < w.heap.size := h.lt
  obtain ⟨v0, st, es1, clock1, hrun, hv0, hst⟩ := WideElems.entry_then_store law26 ht hz hb F hkey
  have hbl2 : ∀ w2 : World, w2.heap[b]? = (setBlock w b (.map es1 clock1)).heap[b]? → w2.heap[b]? = some (.map es1 clock1) ∧ b < w2.heap.size := fun w2 e => by
    rw [heap_setBlock_same hb] at e
    refine ⟨e, ?_⟩
    rcases Nat.lt_or_ge b w2.heap.size with hlt | hge
    · exact hlt
    · rw [Array.getElem?_eq_none hge] at e; cases e
  have grow : ∀ (u : World) (o : Obj) (es : Array MapEntry) (c : Nat), u.heap[b]? = some (.map es c) → u.grownBy (setBlock u b o) (some b) := fun u o es c hu => ⟨rfl, rfl, rfl, by simp [setBlock], fun i hi hne => heap_setBlock_other hu o (fun e => hne (by rw [e]))⟩
  have store : ∀ (w2 : World) (v : β), w2.heap[b]? = (setBlock w b (.map es1 clock1)).heap[b]? → ∃ w3, (Instr.entryStore T (.map (some b)) (goInt st) (enc v)).run Try.prog w2 = .ok () w3 ∧ MapAt 26 It.v enc w3 b (n + 1) (fun k' => if k' = k then some v else f k') ∧ w2.grownBy w3 (some b) ∧ w3.heap.size = w2.heap.size := fun w2 v e => by
    obtain ⟨e1, hlt⟩ := hbl2 w2 e
    obtain ⟨es', clock', hr1, hr2⟩ := hst w2 (enc v) e1
    obtain ⟨w', hp1, hp2, _⟩ := hput v
    rw [hr2] at hp1
    replace hp1 := (Result.ok.inj hp1).2
    refine ⟨_, hr1, ?_, grow _ _ _ _ e1, by simp [setBlock]⟩
    rw [← hp1] at hp2
    exact hp2.block (by rw [heap_setBlock_same hb, heap_setBlock_same e1])
  -- the world behind the entry
  rcases law26.find w hkey es.toList F.keys with ⟨h3, h4⟩ | ⟨j, e0, h3, h4, h5⟩
  · -- no entry: the zero value is laid
    have hz0 : pickE enc (enc z) (f k) = enc z := by
      have : (Instr.lookup T (.map (some b)) k.v false).run Try.prog w = .ok (enc z) w := by
        simp [Instr.lookup, run_underlying ht, MapKept.run_getObj_map hb, law26.check w _ hkey, h3, hz, Result.andThen]
      rw [this] at hlook
      exact (Result.ok.inj hlook).1.symm
    obtain ⟨w', hp1, hp2, hp3⟩ := hput z
    have e1 : (Instr.mapEntry T (.map (some b)) k.v).run Try.prog w = .ok (.tuple #[enc z, goInt clock]) w' := by
      have e2 : (Instr.mapUpdate T (.map (some b)) k.v (enc z)).run Try.prog w = .ok () (setBlock w b (.map (es.push ⟨k.v, enc z, clock⟩) (clock + 1))) := by
        simp [Instr.mapUpdate, run_underlying ht, MapKept.run_getObj_map hb, law26.check w false hkey, h3, MapKept.run_setObj_map _ hb, Result.andThen, setBlock]
      rw [e2] at hp1
      replace hp1 := (Result.ok.inj hp1).2
      rw [← hp1]
      simp [Instr.mapEntry, run_underlying ht, MapKept.run_getObj_map hb, law26.check w false hkey, h3, hz, MapKept.run_setObj_map _ hb, Result.andThen, setBlock]
    rw [e1] at hrun
    obtain ⟨hr, hw⟩ := Result.ok.inj hrun
    refine ⟨st, w', _, ?_, hp3, by rw [hw]; simp [setBlock], hp2, by rw [hz0]; simp [pickE], fun w2 v e => store w2 v (by rw [e, hw])⟩
    rw [hz0, e1]
    have : goInt clock = goInt st := by
      injection hr with hr
      simp only [Array.mk.injEq, List.cons.injEq, and_true] at hr
      exact hr.2
    rw [this]
  · have hj : es[j]? = some e0 := by simpa using h4
    have hl0 : pickE enc (enc z) (f k) = e0.val := by
      have : (Instr.lookup T (.map (some b)) k.v false).run Try.prog w = .ok e0.val w := by
        simp [Instr.lookup, run_underlying ht, MapKept.run_getObj_map hb, law26.check w _ hkey, h3, Result.andThen]
      rw [this] at hlook
      exact (Result.ok.inj hlook).1.symm
    have hsame : es.modify j (fun e => { e with key := k.v }) = es := by
      apply Array.ext'
      rw [Array.toList_modify, ChangeMaps.modify_eq_set _ _ _ _ h4]
      have : ({ e0 with key := k.v } : MapEntry) = e0 := by rw [← h5]
      rw [this]
      exact WideElems.set_self _ _ _ h4
    have e1 : (Instr.mapEntry T (.map (some b)) k.v).run Try.prog w = .ok (.tuple #[e0.val, goInt e0.born]) (setBlock w b (.map es clock)) := by
      simp [Instr.mapEntry, run_underlying ht, MapKept.run_getObj_map hb, law26.check w false hkey, h3, hj, h5, law26.stays w hkey, hsame, MapKept.run_setObj_map _ hb, Result.andThen, setBlock]
    have hrun0 := hrun
    rw [e1] at hrun
    obtain ⟨hr, hw⟩ := Result.ok.inj hrun
    refine ⟨st, _, f, ?_, grow w _ _ _ hb, by simp [setBlock], ?_, rfl, store⟩
    · rw [hl0, hrun0]
      have : e0.val = v0 := by
        injection hr with hr
        simp only [Array.mk.injEq, List.cons.injEq, and_true] at hr
        exact hr.1
      rw [this]
    · rw [← hw]
      exact (h.mono (Nat.le_succ n)).block (by rw [heap_setBlock_same hb, hb])
end
end Go.Proofs.Ytnfapcfajoboaaa
namespace Go.Proofs.Ytnfapcfajoboaaa
open Go.ChangeShapes Go.WideShapes Go.ChangeAt Go.RowKit Go.Maps
set_option linter.unusedVariables false
set_option linter.unusedSimpArgs false
set_option maxRecDepth 100000

def keyI (x : It) : It := ⟨x.k, x.t, 0⟩
theorem without_any (x : It) (w : World) : Calls Try.prog 91 #[.agg #[.int .i64 x.k, .string x.t, .int .i64 x.id]] w fun e w' => e = .returned (.agg #[.int .i64 x.k, .string x.t, .int .i64 0]) ∧ Below w.heap.size w w' := by
  go_enter Try.func91, Try.ntmps91
  go_wp2_with fail
  refine bodyPost_ret (v := .agg #[.int .i64 x.k, .string x.t, .int .i64 0]) (by simp [results, Try.results91, go_sem]) rfl ⟨rfl, ?_⟩
  exact blw (blw (Below.refl _ _) _) _

/-- The first tag with a number. -/
def fTag (l : List It) (n : Int) : It := ((tagsL l).find? fun x => decide (x.id = n)).getD ⟨0, ByteArray.empty, 0⟩
theorem ftag_hit (l : List It) (n : Int) (k : Nat) (h : k < l.length) (hno : (tagsL (l.take k)).find? (fun x => decide (x.id = n)) = none) (ht : isT (l[k]'h).k = true) (hi : (l[k]'h).id = n) : fTag l n = l[k]'h := by
  unfold fTag
  have e : l = l.take k ++ l[k] :: l.drop (k + 1) := by rw [← List.drop_eq_getElem_cons h, List.take_append_drop]
  rw [show tagsL l = tagsL (l.take k ++ l[k] :: l.drop (k + 1)) from congrArg tagsL e]
  unfold tagsL at *
  rw [List.filter_append, List.find?_append, hno, List.filter_cons_of_pos (by simpa using ht), List.find?_cons_of_pos (by simpa using hi)]
  simp
theorem ftag_step (l : List It) (n : Int) (k : Nat) (h : k < l.length) (hno : (tagsL (l.take k)).find? (fun x => decide (x.id = n)) = none) (hx : isT (l[k]'h).k = false ∨ (l[k]'h).id ≠ n) : (tagsL (l.take (k + 1))).find? (fun x => decide (x.id = n)) = none := by
  rw [tags_next l k h, List.find?_append, hno]
  rcases hx with hx | hx
  · rw [hx]; simp
  · split
    · simp [hx]
    · simp
theorem ftag_none (l : List It) (n : Int) (hno : (tagsL l).find? (fun x => decide (x.id = n)) = none) : fTag l n = ⟨0, ByteArray.empty, 0⟩ := by unfold fTag; rw [hno]; rfl

set_option maxHeartbeats 1600000 in
theorem firsttag_any (p : Option Addr) (cap : Nat) (l : List It) (n : Int) (w : World) (hR : Its w p l) (hc : l.length ≤ cap) (hm : cap ≤ maxLen) (hn : l.length ≤ 4000000000) :
    Calls Try.prog 92 #[.slice p l.length cap, .int .i64 n] w fun e w' => e = .returned (.agg #[.int .i64 (fTag l n).k, .string (fTag l n).t, .int .i64 (fTag l n).id]) ∧ Below w.heap.size w w' := by
  unfold maxLen at hm
  go_enter Try.func92, Try.ntmps92
  go_wp2_with fail
  go_loopw [8] (fun i wr => ∃ k : Nat, k ≤ l.length ∧ i = .int .i64 k ∧ Below w.heap.size w wr ∧ wr.heap[w.heap.size]? = some (.cells #[.int .i64 0, .string ByteArray.empty, .int .i64 0] 26 (0, 0)) ∧ Hid ((tagsL (l.take k)).find? (fun x => decide (x.id = n)) = none)) (fun i _ => l.length - (intOf i).toNat)
  case atStart => exact ⟨0, Nat.zero_le _, rfl, blw (Below.refl _ _) _, heap_alloc_new w _, Lib.hid rfl⟩
  case round =>
    obtain ⟨k, hk, rfl, hB, hV, HK⟩ := hrel
    by_cases hlt : k < l.length
    · obtain ⟨a, rfl, ha, c0, c1, c2⟩ := (hR.call hB).row k hlt
      have hI := hR.call hB
      have hrow : ∀ W, Its W (some a) l → W.cell? (a.add (k * 3)) = some (.int .i64 (l[k]'hlt).k) ∧ W.cell? ⟨(a.add (k * 3)).block, (a.add (k * 3)).off + 1, none⟩ = some (.string (l[k]'hlt).t) ∧ W.cell? ⟨(a.add (k * 3)).block, (a.add (k * 3)).off + 2, none⟩ = some (.int .i64 (l[k]'hlt).id) := fun W h => by
        obtain ⟨a', e', _, r⟩ := h.row k hlt
        cases e'; exact r
      have hhit := ftag_hit l n k hlt HK.out
      have hstep := ftag_step l n k hlt HK.out
      generalize l[k] = x at *
      have HR := Lib.hid hrow; have HT := Lib.hid hhit; have HS := Lib.hid hstep; clear hrow hhit hstep
      have ht := fun W => ristag_any x.k x.t x.id W
      cases q : isT x.k
      · rw [q] at ht
        have HZ := Lib.hid (HS.out (Or.inl q))
        have HI := Lib.hid ht; clear ht HS HT q
        go_wp2_with fail
        refine (HI.out _).mono ?_; rintro e w2 ⟨rfl, hb2⟩
        have hB2 := BelowOn hB hb2
        have hV2 := (hb2.block _ (Array.getElem?_eq_some_iff.1 hV).1).trans hV
        go_wp2_with fail
        go_roundw
        case rel => exact ⟨k + 1, hlt, by go_num, hB2, hV2, HZ⟩
        case measure => simp [intOf]; omega
      · rw [q] at ht
        have HI := Lib.hid ht; clear ht
        by_cases hi : x.id = n
        · have HZ := Lib.hid (HT.out q hi)
          have q1 : (x.id == n) = true := by simpa using hi
          clear HS HT q hi
          go_wp2_with fail
          refine (HI.out _).mono ?_; rintro e w2 ⟨rfl, hb2⟩
          have hB2 := BelowOn hB hb2
          have hV2 := (hb2.block _ (Array.getElem?_eq_some_iff.1 hV).1).trans hV
          obtain ⟨v0, v1, v2, v3, v4, v5⟩ := cells_item hV2
          obtain ⟨d0, d1, d2⟩ := HR.out _ (hI.call hb2)
          go_wp2_with fail
          have hWz := heap_set3 (a' := .int .i64 x.k) (b' := .string x.t) (c' := .int .i64 x.id) hV2
          have hBz := ((hB2.setCell (p := ⟨w.heap.size, 0, none⟩) (Nat.le_refl _) (.int .i64 x.k)).setCell (p := ⟨w.heap.size, 1, none⟩) (Nat.le_refl _) (.string x.t)).setCell (p := ⟨w.heap.size, 2, none⟩) (Nat.le_refl _) (.int .i64 x.id)
          generalize (((w2.setCell ⟨w.heap.size, 0, none⟩ (.int .i64 x.k)).setCell ⟨w.heap.size, 1, none⟩ (.string x.t)).setCell ⟨w.heap.size, 2, none⟩ (.int .i64 x.id)) = wz at *
          obtain ⟨z0, z1, z2, _⟩ := cells_item hWz
          (try simp only [Exit.inBlock, Exit.then])
          refine bodyPost_ret (v := .agg #[.int .i64 x.k, .string x.t, .int .i64 x.id]) (by simp [results, Try.results92, go_sem, z0, z1, z2]; try rfl) rfl ⟨?_, ?_⟩
          · rw [HZ.out]
          · exact hBz
        · have HZ := Lib.hid (HS.out (Or.inr hi))
          have q1 : (x.id == n) = false := by simpa using hi
          clear HS HT q
          go_wp2_with fail
          refine (HI.out _).mono ?_; rintro e w2 ⟨rfl, hb2⟩
          have hB2 := BelowOn hB hb2
          have hV2 := (hb2.block _ (Array.getElem?_eq_some_iff.1 hV).1).trans hV
          obtain ⟨d0, d1, d2⟩ := HR.out _ (hI.call hb2)
          go_wp2_with fail
          go_roundw
          case rel => exact ⟨k + 1, hlt, by go_num, hB2, hV2, HZ⟩
          case measure => simp [intOf]; omega
    · obtain rfl : k = l.length := by omega
      have HK' := HK.out
      rw [List.take_length] at HK'
      have hz := ftag_none l n HK'
      have HZ := Lib.hid hz
      obtain ⟨v0, v1, v2, v3, v4, v5⟩ := cells_item hV
      clear HK HK' hz
      go_wp2_with fail
      have hWz := heap_set3 (a' := .int .i64 0) (b' := .string ⟨#[]⟩) (c' := .int .i64 0) hV
      have hBz := ((hB.setCell (p := ⟨w.heap.size, 0, none⟩) (Nat.le_refl _) (.int .i64 0)).setCell (p := ⟨w.heap.size, 1, none⟩) (Nat.le_refl _) (.string ⟨#[]⟩)).setCell (p := ⟨w.heap.size, 2, none⟩) (Nat.le_refl _) (.int .i64 0)
      generalize (((wr.setCell ⟨w.heap.size, 0, none⟩ (.int .i64 0)).setCell ⟨w.heap.size, 1, none⟩ (.string ⟨#[]⟩)).setCell ⟨w.heap.size, 2, none⟩ (.int .i64 0)) = wz at *
      obtain ⟨z0, z1, z2, _⟩ := cells_item hWz
      (try simp only [Exit.inBlock, Exit.then])
      refine bodyPost_ret (v := .agg #[.int .i64 0, .string ByteArray.empty, .int .i64 0]) (by simp [results, Try.results92, go_sem, z0, z1, z2]; try rfl) rfl ⟨?_, ?_⟩
      · rw [HZ.out]
      · exact hBz
end Go.Proofs.Ytnfapcfajoboaaa
namespace Go.Proofs.Ytnfapcfajoboaaa
open Go.ChangeShapes Go.WideShapes Go.ChangeAt Go.RowKit Go.Maps
set_option linter.unusedVariables false
set_option linter.unusedSimpArgs false
set_option maxRecDepth 100000

/-! ### the model -/
theorem fst_snoc (g : List It) (x : It) : fstL (g ++ [x]) = fstS (fstL g) x := by unfold fstL; rw [List.foldl_append]; rfl
theorem fst_ids (g : List It) : ∀ y ∈ g, y.id ∈ (fstL g).map It.id := by
  refine list_rev (P := fun g => ∀ y ∈ g, y.id ∈ (fstL g).map It.id) (fun y hy => by cases hy) (fun g x ih y hy => ?_) g
  rw [fst_snoc]
  unfold fstS
  rcases List.mem_append.1 hy with hy | hy
  · split
    · exact ih y hy
    · rw [List.map_append]; exact List.mem_append_left _ (ih y hy)
  · rw [List.mem_singleton.1 hy]
    split
    · assumption
    · simp
theorem fst_find (g : List It) : ∀ z ∈ fstL g, g.find? (fun x => decide (x.id = z.id)) = some z := by
  refine list_rev (P := fun g => ∀ z ∈ fstL g, g.find? (fun x => decide (x.id = z.id)) = some z) (fun z hz => by cases hz) (fun g x ih z hz => ?_) g
  rw [fst_snoc] at hz
  unfold fstS at hz
  rw [List.find?_append]
  split at hz
  · rw [ih z hz]; rfl
  · rename_i hx
    rcases List.mem_append.1 hz with hz | hz
    · rw [ih z hz]; rfl
    · rw [List.mem_singleton.1 hz]
      have : g.find? (fun y => decide (y.id = x.id)) = none := by
        rw [List.find?_eq_none]
        intro y hy
        have := fst_ids g y hy
        simp only [decide_eq_true_eq]
        intro e
        exact hx (e ▸ this)
      rw [this]; simp
theorem ftag_first (l : List It) (z : It) (hz : z ∈ firsts l) : fTag l z.id = z := by
  unfold fTag
  rw [fst_find (tagsL l) z hz]; rfl
theorem fst_nodup (g : List It) : ((fstL g).map It.id).Nodup := by
  refine list_rev (P := fun g => ((fstL g).map It.id).Nodup) (by simp [fstL]) (fun g x ih => ?_) g
  rw [fst_snoc]
  unfold fstS
  split
  · exact ih
  · rename_i hx
    rw [List.map_append, List.nodup_append]
    refine ⟨ih, by simp, fun a ha b hb => ?_⟩
    simp at hb
    rw [hb]
    exact fun e => hx (e ▸ ha)

/-- z is free and has the kind and the text of x. -/
def hasP (used : List Int) (x z : It) : Bool := decide (z.id ∉ used) && decide (x.k = z.k) && decide (x.t = z.t)
def pairR (B : List It) (st : List (Int × Int)) (x : It) : List (Int × Int) :=
  match B.find? (hasP (st.map (·.2)) x) with
  | some z => st ++ [(x.id, z.id)]
  | none => st
/-- What Pair answers. -/
def pairL (a b : List It) : List (Int × Int) := (firsts a).foldl (pairR (firsts b)) []
theorem pair_next (B A : List It) (k : Nat) (h : k < A.length) : (A.take (k + 1)).foldl (pairR B) [] = pairR B ((A.take k).foldl (pairR B) []) (A[k]'h) := by
  rw [List.take_succ_eq_append_getElem h, List.foldl_append]; rfl
theorem pair_len (B : List It) (A : List It) : ∀ st, (A.foldl (pairR B) st).length ≤ st.length + A.length := by
  induction A with
  | nil => intro st; exact Nat.le_refl _
  | cons x t ih =>
    intro st
    have := ih (pairR B st x)
    have h2 : (pairR B st x).length ≤ st.length + 1 := by unfold pairR; split <;> simp
    simp only [List.foldl_cons, List.length_cons]; omega

/-! ### two slices -/
/-- What a call answers that gives pairs. -/
def EndPr (out : List (Int × Int)) (w : World) (e : Ending) (w' : World) : Prop := ∃ p1 c1 p2 c2, e = .returned (.tuple #[.slice p1 out.length c1, .slice p2 out.length c2]) ∧
  out.length ≤ c1 ∧ c1 ≤ maxLen ∧ Ones w' (Value.int .i64) p1 (out.map (·.1)) ∧ out.length ≤ c2 ∧ c2 ≤ maxLen ∧ Ones w' (Value.int .i64) p2 (out.map (·.2)) ∧ Below w.heap.size w w'
structure Duo (K : Nat) (Lc Lo : List Int) (vc vo : Value) (wr : World) : Prop where
  size : K ≤ wr.heap.size
  c : OwnN K Lc vc wr
  o : OwnN K Lo vo wr
  ne : ∀ k, vc.ownBlock = some k → vo.ownBlock ≠ some k
section
variable {K : Nat} {Lc Lo : List Int} {vc vo : Value} {wr : World}
theorem Duo.start (w : World) : Duo w.heap.size [] [] (.slice none 0 0) (.slice none 0 0) w := ⟨Nat.le_refl _, OwnL.nil _ _, OwnL.nil _ _, fun k h => by simp [Value.ownBlock] at h⟩
theorem Duo.swap (h : Duo K Lc Lo vc vo wr) : Duo K Lo Lc vo vc wr := ⟨h.size, h.o, h.c, fun k h1 h2 => h.ne k h2 h1⟩
theorem Duo.call {w1 : World} (h : Duo K Lc Lo vc vo wr) (hb : Below wr.heap.size wr w1) : Duo K Lc Lo vc vo w1 := ⟨Nat.le_trans h.size hb.size, h.c.call hb, h.o.call hb, h.ne⟩
theorem Duo.alloc (h : Duo K Lc Lo vc vo wr) (ob : Obj) : Duo K Lc Lo vc vo (wr.alloc ob) := h.call (blw (Below.refl _ _) ob)
theorem Duo.drewN (h : Duo K Lc Lo vc vo wr) (n : Nat) : Duo K Lc Lo vc vo (wr.drewN n) := ⟨h.size, h.c, h.o, h.ne⟩
theorem Duo.push {w' : World} (h : Duo K Lc Lo vc vo wr) {y : Int} {g n cap : Nat} (hown : OwnN K (Lo ++ [y]) (.slice (some ⟨g, 0, none⟩) n cap) w') (hgr : wr.grownBy w' vo.ownBlock) (hloc : vo.ownBlock = some g ∨ g = wr.heap.size) :
    Duo K Lc (Lo ++ [y]) vc (.slice (some ⟨g, 0, none⟩) n cap) w' := by
  refine ⟨Nat.le_trans h.size hgr.size, h.c.keepAt (fun k hk => hgr.block k (h.c.lt k hk).2 (fun e => h.ne k hk e.symm)), hown, fun k hk e => ?_⟩
  have e' : g = k := by simpa [Value.ownBlock] using e
  subst e'
  rcases hloc with h1 | h1
  · exact h.ne _ hk h1
  · have := (h.c.lt _ hk).2; omega
theorem Duo.grow {w' : World} (h : Duo K Lc Lo vc vo wr) {w0 : World} (hb : Below K w0 wr) (hgr : wr.grownBy w' vo.ownBlock) : Below K w0 w' := hb.grown hgr h.size (fun k hk => (h.o.lt k hk).1)
theorem Duo.freshC (h : Duo K Lc Lo vc vo wr) : vc.ownBlock ≠ some wr.heap.size := fun e => by have := (h.c.lt _ e).2; omega
theorem Duo.freshO (h : Duo K Lc Lo vc vo wr) : vo.ownBlock ≠ some wr.heap.size := fun e => by have := (h.o.lt _ e).2; omega
end
theorem carry_alloc {W : World} {a : Nat} {o : Obj} (h : W.heap[a]? = some o) (o' : Obj) : (W.alloc o').heap[a]? = some o := (Lib.alloc_old W o' a (Array.getElem?_eq_some_iff.1 h).1).trans h
theorem heap_at {W : World} {n : Nat} (h : W.heap.size = n) (o : Obj) : (W.alloc o).heap[n]? = some o := by rw [← h]; exact heap_alloc_new W o
theorem cell_alloc {W : World} {a : Addr} {v : Value} (h : W.cell? a = some v) (o : Obj) : (W.alloc o).cell? a = some v := by
  rw [((Below.refl W.heap.size W).alloc (Nat.le_refl _) o).cell (block_lt_of_cell h)]; exact h
theorem cell_under {W w' : World} {K : Nat} {a : Addr} {v : Value} (h : W.cell? a = some v) (hb : Below K W w') (ha : a.block < K) : w'.cell? a = some v := by
  rw [hb.cell ha]; exact h
theorem carry_row {W W' : World} {a : Nat} {o : Obj} {row : Option Nat} (h : W.heap[a]? = some o) (hg : W.grownBy W' row) (hne : row ≠ some a) : W'.heap[a]? = some o := (hg.block a (Array.getElem?_eq_some_iff.1 h).1 (fun e => hne e.symm)).trans h
theorem cell_grown {W w' : World} {row : Option Nat} {a : Addr} {v : Value} (h : W.cell? a = some v) (hg : W.grownBy w' row) (hne : row ≠ some a.block) : w'.cell? a = some v := by
  rw [World.cell?_of_block (w := W) (w' := w') (a := a) (hg.block _ (block_lt_of_cell h) (fun e => hne e.symm))]; exact h
end Go.Proofs.Ytnfapcfajoboaaa
namespace Go.Proofs.Ytnfapcfajoboaaa
open Go.ChangeShapes Go.WideShapes Go.ChangeAt Go.RowKit Go.Maps
set_option linter.unusedVariables false
set_option linter.unusedSimpArgs false
set_option maxRecDepth 100000

theorem find_next (B : List It) (p : It → Bool) (j : Nat) (h : j < B.length) (hno : (B.take j).find? p = none) : (p (B[j]'h) = true → B.find? p = some (B[j]'h)) ∧ (p (B[j]'h) = false → (B.take (j + 1)).find? p = none) := by
  have e : B = B.take j ++ B[j] :: B.drop (j + 1) := by rw [← List.drop_eq_getElem_cons h, List.take_append_drop]
  constructor
  · intro hp
    have : (B.take j ++ B[j] :: B.drop (j + 1)).find? p = some B[j] := by rw [List.find?_append, hno, List.find?_cons_of_pos hp]; rfl
    rwa [← e] at this
  · intro hp
    rw [List.take_succ_eq_append_getElem h, List.find?_append, hno, List.find?_cons_of_neg (by rw [hp]; decide)]; rfl
theorem pair_hit {B : List It} {st : List (Int × Int)} {x z : It} (h : B.find? (hasP (st.map (·.2)) x) = some z) : pairR B st x = st ++ [(x.id, z.id)] := by unfold pairR; rw [h]
theorem pair_miss {B : List It} {st : List (Int × Int)} {x : It} (h : B.find? (hasP (st.map (·.2)) x) = none) : pairR B st x = st := by unfold pairR; rw [h]

set_option maxHeartbeats 6400000 in
theorem rpair_any (p q : Option Addr) (c d : Nat) (l m : List It) (w : World) (hR : Its w p l) (hS : Its w q m) (hc : l.length ≤ c) (hd : m.length ≤ d) (hcm : c ≤ maxLen) (hdm : d ≤ maxLen) (hl : l.length ≤ 1000000) (hm : m.length ≤ 1000000) :
    Calls Try.prog 57 #[.slice p l.length c, .slice q m.length d] w (EndPr (pairL l m) w) := by
  have t1 := fun W i => rnumbers_any p c l W i hc hcm (by omega)
  have t2 := fun W i => rnumbers_any q d m W i hd hdm (by omega)
  have t3 := fun n W i => firsttag_any p c l n W i hc hcm (by omega)
  have t4 := fun n W i => firsttag_any q d m n W i hd hdm (by omega)
  have f1 := ftag_first l; have f2 := ftag_first m
  have g1 := firsts_len l; have g2 := firsts_len m
  have mixed : Try.prog.follows .mixedOrders = true := by kernel_rfl
  unfold maxLen at hcm hdm
  rw [← nums_firsts] at t1 t2
  unfold pairL
  generalize firsts l = A at *
  generalize firsts m = B at *
  have T1 := Lib.hid t1; have T2 := Lib.hid t2; have T3 := Lib.hid t3; have T4 := Lib.hid t4; have F1 := Lib.hid f1; have F2 := Lib.hid f2; clear t1 t2 t3 t4 f1 f2
  go_enter Try.func57, Try.ntmps57
  go_wp2_with fail
  refine (T1.out _ hR).mono ?_; rintro e w1 ⟨v1, rfl, hA1⟩
  obtain ⟨px, cx, rfl, x1, x2, hX1⟩ := hA1.own.ints
  have hB1 := hA1.below
  go_wp2_with fail
  refine (T2.out _ (hS.call hB1)).mono ?_; rintro e w2 ⟨v2, rfl, hA2⟩
  obtain ⟨py, cy, rfl, y1, y2, hY2⟩ := hA2.own.ints
  have hB2 := BelowOn hB1 hA2.below
  have hX2 := hX1.call hA2.below
  have hD := Duo.start w2
  have hR2 := hR.call hB2; have hS2 := hS.call hB2
  clear hA1 hA2 hX1 T1 T2 hB1
  rw [List.length_map] at x1 y1
  unfold maxLen at x2 y2
  simp only [List.length_map]
  have hsz := hB2.size
  obtain ⟨KB, hKB⟩ : ∃ KB, KB = w2.heap.size := ⟨_, rfl⟩
  rw [← hKB] at hD
  have bR0 : Below KB w2 w2 := Below.refl _ _
  have hKs : KB ≤ w2.heap.size := Nat.le_of_eq hKB
  go_wp2_with fail
  go_loopw [6, 7, 20] (fun vc vo i wr => ∃ (k : Nat) (out : List (Int × Int)), k ≤ A.length ∧ i = .int .i64 k ∧ (∃ pc cc, vc = .slice pc out.length cc) ∧ (∃ po co, vo = .slice po out.length co) ∧ Hid (out = (A.take k).foldl (pairR B) []) ∧ Duo KB (out.map (·.1)) (out.map (·.2)) vc vo wr ∧ Below KB w2 wr) (fun _ _ i _ => A.length - (intOf i).toNat)
  case atStart => exact ⟨0, [], Nat.zero_le _, rfl, ⟨_, _, rfl⟩, ⟨_, _, rfl⟩, Lib.hid rfl, hD, bR0⟩
  case round =>
    obtain ⟨k, out, hk, rfl, ⟨pc, cc, rfl⟩, ⟨po, co, rfl⟩, HOUT, hT, bR⟩ := hrel
    have hbK : Below w2.heap.size w2 wr := by rw [← hKB]; exact bR
    by_cases hlt : k < A.length
    · have hX := hX2.call hbK
      obtain ⟨ax, rfl, lax, cX0⟩ := Ones.row hX k (by simpa using hlt)
      rw [List.getElem_map] at cX0
      have hnx := pair_next B A k hlt
      rw [← HOUT.out] at hnx
      have hln := pair_len B (A.take k) []
      rw [← HOUT.out, List.length_take] at hln
      have hfx := F1.out _ (List.getElem_mem hlt)
      have hcx : ∀ W, Ones W (Value.int .i64) (some ax) (A.map It.id) → W.cell? (ax.add k) = some (.int .i64 (A[k]'hlt).id) := fun W h => by
        obtain ⟨a', e', _, c'⟩ := Ones.row h k (by simpa using hlt)
        injection e' with e'; subst e'; rw [List.getElem_map] at c'; exact c'
      generalize A[k] = x at *
      have hax : ax.block < KB := by
        obtain ⟨a', e', l', _⟩ := hX2 (by simp; omega)
        injection e' with e'; rw [e', hKB]; exact l'
      have hlen2 : out.length ≤ 1000000 := by simp at hln; omega
      have t3 := fun W i => T3.out x.id W i
      rw [hfx] at t3
      have HT3 := Lib.hid t3; have HN := Lib.hid hnx; have HCX := Lib.hid hcx; clear t3 hnx hfx hln hcx
      generalize hused : out.map (·.2) = used at *
      have hul : used.length = out.length := by rw [← hused]; simp
      have HU := Lib.hid hused; clear hused
      go_wp2_with fail
      refine (HT3.out _ (hR2.call hbK)).mono ?_; rintro e w3 ⟨rfl, hb3⟩
      have hT3 := (hT.call hb3).alloc (.cells #[.int .i64 x.k, .string x.t, .int .i64 x.id] 26)
      have bR3 := (bR.trans (hb3.mono hT.size)).trans ((Below.refl KB w3).alloc (hT.call hb3).size (.cells #[.int .i64 x.k, .string x.t, .int .i64 x.id] 26))
      have V0 := Var3.new w3 x.k x.t x.id
      go_wp2_with fail
      go_loopw [6, 7, 31] (fun vc vo i wr' => ∃ j : Nat, j ≤ B.length ∧ i = .int .i64 j ∧ vc = .slice pc out.length cc ∧ vo = .slice po out.length co ∧ Duo KB (out.map (·.1)) used (.slice pc out.length cc) (.slice po out.length co) wr' ∧ Below KB w2 wr' ∧ Var3 wr' w3.heap.size x.k x.t x.id ∧ Hid ((B.take j).find? (hasP used x) = none)) (fun _ _ i _ => B.length - (intOf i).toNat)
      case atStart => exact ⟨0, Nat.zero_le _, rfl, rfl, rfl, hT3, bR3, V0, Lib.hid rfl⟩
      case round =>
        obtain ⟨j, hj, rfl, rfl, rfl, hTv, bRv, V, HK⟩ := hrel
        have hbV : Below w2.heap.size w2 wr := by rw [← hKB]; exact bRv
        by_cases hjt : j < B.length
        · have hY := hY2.call hbV
          obtain ⟨ay, rfl, lay, cY0⟩ := Ones.row hY j (by simpa using hjt)
          rw [List.getElem_map] at cY0
          obtain ⟨hit, miss⟩ := find_next B (hasP used x) j hjt HK.out
          have hfz := F2.out _ (List.getElem_mem hjt)
          have hcy : ∀ W, Ones W (Value.int .i64) (some ay) (B.map It.id) → W.cell? (ay.add j) = some (.int .i64 (B[j]'hjt).id) := fun W h => by
            obtain ⟨a', e', _, c'⟩ := Ones.row h j (by simpa using hjt)
            injection e' with e'; subst e'; rw [List.getElem_map] at c'; exact c'
          generalize B[j] = z at *
          have hay : ay.block < KB := by
            obtain ⟨a', e', l', _⟩ := hY2 (by simp; omega)
            injection e' with e'; rw [e', hKB]; exact l'
          have t4 := fun W i => T4.out z.id W i
          rw [hfz] at t4
          have HT4 := Lib.hid t4; have HH := Lib.hid hit; have HM := Lib.hid miss; have HCY := Lib.hid hcy; clear t4 hit miss hfz hcy
          go_wp2_with fail
          refine (HT4.out _ (hS2.call hbV)).mono ?_; rintro e w4 ⟨rfl, hb4⟩
          have hTz := (hTv.call hb4).alloc (.cells #[.int .i64 z.k, .string z.t, .int .i64 z.id] 26)
          have bRz := (bRv.trans (hb4.mono hTv.size)).trans ((Below.refl KB w4).alloc (hTv.call hb4).size (.cells #[.int .i64 z.k, .string z.t, .int .i64 z.id] 26))
          have Vx := (V.call hb4).alloc (.cells #[.int .i64 z.k, .string z.t, .int .i64 z.id] 26)
          have Vz := Var3.new w4 z.k z.t z.id
          have hsz4 : (w4.alloc (.cells #[.int .i64 z.k, .string z.t, .int .i64 z.id] 26)).heap.size = w4.heap.size + 1 := by simp
          obtain ⟨u0, u1, u2, ul⟩ := id Vx
          obtain ⟨z0, z1, z2, zl⟩ := id Vz
          have hbZ : Below w2.heap.size w2 (w4.alloc (.cells #[.int .i64 z.k, .string z.t, .int .i64 z.id] 26)) := by rw [← hKB]; exact bRz
          have cY := HCY.out _ (hY2.call hbZ)
          have cX := HCX.out _ (hX2.call hbZ)
          obtain ⟨p2, c2, hv2, b1, b2, b3⟩ := hTz.o.ints
          injection hv2 with q1 q2 q3
          clear q2 hsz4
          subst q1 q3
          have hhas := has_any po co used z.id _ b3 b1 b2
          rw [hul] at hhas
          clear b1 b2 b3
          by_cases hin : z.id ∈ used
          · rw [decide_eq_true hin] at hhas
            have HHAS := Lib.hid hhas; clear hhas
            have HMM := Lib.hid (HM.out (by unfold hasP; rw [decide_eq_false (not_not_intro hin)]; rfl))
            clear HM HH HK hin
            go_wp2_with fail
            refine (HHAS.out).mono ?_; rintro e w5 ⟨rfl, rfl⟩
            go_wp2_with fail
            go_roundw
            case rel => exact ⟨j + 1, hjt, by go_num, rfl, rfl, hTz, bRz, Vx, HMM⟩
            case measure => simp [intOf]; omega
          · rw [decide_eq_false hin] at hhas
            have HHAS := Lib.hid hhas; clear hhas
            by_cases hk' : x.k = z.k
            · by_cases ht' : x.t = z.t
              · have hhit := HH.out (by unfold hasP; rw [decide_eq_true hin, decide_eq_true hk', decide_eq_true ht']; rfl)
                rw [← HU.out] at hhit
                have HX := Lib.hid (HN.out.trans (pair_hit hhit))
                have qk : (x.k == z.k) = true := by simpa using hk'
                have qs : (x.t.toList == z.t.toList) = true := by rw [ht']; simp
                clear HM HH HK hin hhit hk' ht'
                go_wp2_with fail
                refine (HHAS.out).mono ?_; rintro e w5 ⟨rfl, rfl⟩
                go_wp2_with fail
                clear z0 z1 z2 u0 u1 u2 zl ul HHAS
                have hT := hTz
                rw [← HU.out] at hT
                generalize w4.alloc (.cells #[.int .i64 z.k, .string z.t, .int .i64 z.id] 26) = wz at *
                have lX : (ax.add k).block < KB := by rw [add_block]; exact hax
                have lY : (ay.add j).block < KB := by rw [add_block]; exact hay
                have hKs : KB ≤ wz.heap.size := hT.size
                refine wp_region_held_drew (S := fun W => W.cell? (ax.add k) = some (.int .i64 x.id) ∧ W.cell? (ay.add j) = some (.int .i64 z.id)) (by kernel_rfl) (⟨cX, cY⟩) (fun hHeld => ?_)
                have hT : Duo KB (out.map (·.1)) (out.map (·.2)) (.slice pc out.length cc) (.slice po out.length co) wz.drew := hT.drewN 1
                have bk : Below KB wz wz.drew := ⟨rfl, rfl, rfl, Nat.le_refl _, fun _ _ => rfl⟩
                refine wpAnyH_take (i := 0) (v := ?_) rfl (by kernel_rfl) (by kernel_rfl) (by kernel_rfl) (fun _ _ _ h => h) (Or.inl ⟨by rfl, ?_⟩) hHeld ?_
                rotate_left
                · (intro w hSw; (try dsimp only at hSw); go_simp; try with_reducible rfl)
                try simp only [Act.put, List.getElem_toArray, List.getElem_cons_zero, List.getElem_cons_succ, List.setIfInBounds_toArray, List.set_cons_zero, List.set_cons_succ]
                refine wpAnyH_take (i := 1) (v := ?_) rfl (by kernel_rfl) (by kernel_rfl) (by kernel_rfl) (fun _ _ _ h => h) (Or.inl ⟨by rfl, ?_⟩) hHeld ?_
                rotate_left
                · (intro w hSw; (try dsimp only at hSw); go_simp; try with_reducible rfl)
                try simp only [Act.put, List.getElem_toArray, List.getElem_cons_zero, List.getElem_cons_succ, List.setIfInBounds_toArray, List.set_cons_zero, List.set_cons_succ]
                refine wpAnyH_take (i := 2) (v := ?_) rfl (by kernel_rfl) (by kernel_rfl) (by kernel_rfl) (fun _ _ _ h => h) (Or.inl ⟨by rfl, ?_⟩) hHeld ?_
                rotate_left
                · (intro w hSw; (try dsimp only at hSw); go_simp; try with_reducible rfl)
                try simp only [Act.put, List.getElem_toArray, List.getElem_cons_zero, List.getElem_cons_succ, List.setIfInBounds_toArray, List.set_cons_zero, List.set_cons_succ]
                refine wpAnyH_take (i := 3) (v := ?_) rfl (by kernel_rfl) (by kernel_rfl) (by kernel_rfl) (fun _ _ _ h => h) (Or.inl ⟨by rfl, ?_⟩) hHeld ?_
                rotate_left
                · (intro w hSw; (try dsimp only at hSw); go_simp; try with_reducible rfl)
                try simp only [Act.put, List.getElem_toArray, List.getElem_cons_zero, List.getElem_cons_succ, List.setIfInBounds_toArray, List.set_cons_zero, List.set_cons_succ]
                refine wpAnyH_take (i := 4) (v := ?_) rfl (by kernel_rfl) (by kernel_rfl) (by kernel_rfl) (fun _ _ _ h => h) (Or.inl ⟨by rfl, ?_⟩) hHeld ?_
                rotate_left
                · (intro w hSw; obtain ⟨s1, s2⟩ := hSw; clear s2; go_simp; try with_reducible rfl)
                try simp only [Act.put, List.getElem_toArray, List.getElem_cons_zero, List.getElem_cons_succ, List.setIfInBounds_toArray, List.set_cons_zero, List.set_cons_succ]
                refine wpAnyH_take (i := 7) (v := ?_) rfl (by kernel_rfl) (by kernel_rfl) (by kernel_rfl) (fun _ _ _ h => h) (Or.inl ⟨by rfl, ?_⟩) hHeld ?_
                rotate_left
                · (intro w hSw; (try dsimp only at hSw); go_simp; try with_reducible rfl)
                try simp only [Act.put, List.getElem_toArray, List.getElem_cons_zero, List.getElem_cons_succ, List.setIfInBounds_toArray, List.set_cons_zero, List.set_cons_succ]
                refine wpAnyH_take (i := 8) (v := ?_) rfl (by kernel_rfl) (by kernel_rfl) (by kernel_rfl) (fun _ _ _ h => h) (Or.inl ⟨by rfl, ?_⟩) hHeld ?_
                rotate_left
                · (intro w hSw; (try dsimp only at hSw); go_simp; try with_reducible rfl)
                try simp only [Act.put, List.getElem_toArray, List.getElem_cons_zero, List.getElem_cons_succ, List.setIfInBounds_toArray, List.set_cons_zero, List.set_cons_succ]
                refine wpAnyH_take (i := 9) (v := ?_) rfl (by kernel_rfl) (by kernel_rfl) (by kernel_rfl) (fun _ _ _ h => h) (Or.inl ⟨by rfl, ?_⟩) hHeld ?_
                rotate_left
                · (intro w hSw; (try dsimp only at hSw); go_simp; try with_reducible rfl)
                try simp only [Act.put, List.getElem_toArray, List.getElem_cons_zero, List.getElem_cons_succ, List.setIfInBounds_toArray, List.set_cons_zero, List.set_cons_succ]
                refine wpAnyH_take (i := 10) (v := ?_) rfl (by kernel_rfl) (by kernel_rfl) (by kernel_rfl) (fun _ _ _ h => h) (Or.inl ⟨by rfl, ?_⟩) hHeld ?_
                rotate_left
                · (intro w hSw; (try dsimp only at hSw); go_simp; try with_reducible rfl)
                try simp only [Act.put, List.getElem_toArray, List.getElem_cons_zero, List.getElem_cons_succ, List.setIfInBounds_toArray, List.set_cons_zero, List.set_cons_succ]
                refine wpAnyH_take (i := 11) (v := ?_) rfl (by kernel_rfl) (by kernel_rfl) (by kernel_rfl) (fun _ _ _ h => h) (Or.inl ⟨by rfl, ?_⟩) hHeld ?_
                rotate_left
                · (intro w hSw; obtain ⟨s1, s2⟩ := hSw; clear s1; go_simp; try with_reducible rfl)
                try simp only [Act.put, List.getElem_toArray, List.getElem_cons_zero, List.getElem_cons_succ, List.setIfInBounds_toArray, List.set_cons_zero, List.set_cons_succ]
                refine wpAnyH_ready (rs := [5, 12]) (by kernel_rfl) (by simp) ?_
                refine AllReadyH.cons rfl (fun K hK => ?_) (AllReadyH.cons rfl (fun K hK => ?_) (AllReadyH.nil))
                · skip
                  have nn : (wz.drew).heap.size = wz.heap.size := by simp
                  have hA := heap_at nn (.cells #[.int .i64 x.id] 3)
                  have fhA := hT.freshC; rw [nn] at fhA
                  have hT := hT.alloc (.cells #[.int .i64 x.id] 3)
                  have bk := bk.trans ((Below.refl _ _).alloc (Nat.le_trans hKs bk.size) (.cells #[.int .i64 x.id] 3))
                  clear nn
                  go_simp
                  refine hK.out _ _ (⟨cell_under cX bk lX, cell_under cY bk lY⟩) (fun hHeld => ?_)
                  clear hK K
                  try simp only [Act.put, List.getElem_toArray, List.getElem_cons_zero, List.getElem_cons_succ, List.setIfInBounds_toArray, List.set_cons_zero, List.set_cons_succ]
                  refine wpAnyH_ready (rs := [6, 12]) (by kernel_rfl) (by simp) ?_
                  refine AllReadyH.cons rfl (fun K hK => ?_) (AllReadyH.cons rfl (fun K hK => ?_) (AllReadyH.nil))
                  · skip
                    refine step_app eN _ (by rfl) _ _ (by rfl) KB (out.map (·.1)) (.slice pc out.length cc) (by rfl) hT.c hT.size x.id (wz.heap.size) #[.int .i64 x.id] (by rfl) hA (by rfl) (by simp only [List.length_map]; omega) (by simp only [List.length_map]; unfold maxLen; omega) ?_
                    intro gc gcc v1 hown hgr hloc
                    have bk := hT.swap.grow bk hgr
                    have hHeld2 := (⟨cell_under cX bk lX, cell_under cY bk lY⟩ : _ ∧ _)
                    have hT := (hT.swap.push hown hgr hloc).swap
                    clear hown hgr hloc hA
                    try go_simp
                    refine hK.out _ _ hHeld2 (fun hHeld => ?_)
                    clear hK K
                    try simp only [Act.put, List.getElem_toArray, List.getElem_cons_zero, List.getElem_cons_succ, List.setIfInBounds_toArray, List.set_cons_zero, List.set_cons_succ]
                    refine wpAnyH_ready (rs := [12]) (by kernel_rfl) (by simp) ?_
                    refine AllReadyH.cons rfl (fun K hK => ?_) (AllReadyH.nil)
                    · skip
                      have nn : (v1).heap.size = v1.heap.size := by simp
                      have hB := heap_at nn (.cells #[.int .i64 z.id] 3)
                      have fhB := hT.freshC; rw [nn] at fhB
                      have hT := hT.alloc (.cells #[.int .i64 z.id] 3)
                      have bk := bk.trans ((Below.refl _ _).alloc (Nat.le_trans hKs bk.size) (.cells #[.int .i64 z.id] 3))
                      clear nn
                      go_simp
                      refine hK.out _ _ (⟨cell_under cX bk lX, cell_under cY bk lY⟩) (fun hHeld => ?_)
                      clear hK K
                      try simp only [Act.put, List.getElem_toArray, List.getElem_cons_zero, List.getElem_cons_succ, List.setIfInBounds_toArray, List.set_cons_zero, List.set_cons_succ]
                      refine wpAnyH_ready (rs := [13]) (by kernel_rfl) (by simp) ?_
                      refine AllReadyH.cons rfl (fun K hK => ?_) (AllReadyH.nil)
                      · skip
                        refine step_app eN _ (by rfl) _ _ (by rfl) KB (out.map (·.2)) (.slice po out.length co) (by rfl) hT.o hT.size z.id (v1.heap.size) #[.int .i64 z.id] (by rfl) hB (by rfl) (by simp only [List.length_map]; omega) (by simp only [List.length_map]; unfold maxLen; omega) ?_
                        intro go goc v2 hown hgr hloc
                        have bk := hT.grow bk hgr
                        have hHeld2 := (⟨cell_under cX bk lX, cell_under cY bk lY⟩ : _ ∧ _)
                        have hT := hT.push hown hgr hloc
                        clear hown hgr hloc hB
                        try go_simp
                        refine hK.out _ _ hHeld2 (fun hHeld => ?_)
                        clear hK K
                        try simp only [Act.put, List.getElem_toArray, List.getElem_cons_zero, List.getElem_cons_succ, List.setIfInBounds_toArray, List.set_cons_zero, List.set_cons_succ]
                        refine wpAnyH_take (i := 14) (v := ?_) rfl (by kernel_rfl) (by kernel_rfl) (by kernel_rfl) (fun _ _ _ h => h) (Or.inl ⟨by rfl, ?_⟩) hHeld ?_
                        rotate_left
                        · (intro w hSw; (try dsimp only at hSw); go_simp; try with_reducible rfl)
                        try simp only [Act.put, List.getElem_toArray, List.getElem_cons_zero, List.getElem_cons_succ, List.setIfInBounds_toArray, List.set_cons_zero, List.set_cons_succ]
                        refine wpAnyH_take (i := 15) (v := ?_) rfl (by kernel_rfl) (by kernel_rfl) (by kernel_rfl) (fun _ _ _ h => h) (Or.inl ⟨by rfl, ?_⟩) hHeld ?_
                        rotate_left
                        · (intro w hSw; (try dsimp only at hSw); go_simp; try with_reducible rfl)
                        try simp only [Act.put, List.getElem_toArray, List.getElem_cons_zero, List.getElem_cons_succ, List.setIfInBounds_toArray, List.set_cons_zero, List.set_cons_succ]
                        refine wpAnyH_done (by kernel_rfl) ?_ _
                        simp only [List.length_map] at hT
                        clear hHeld
                        go_wp2_with fail
                        go_roundw
                        case rel => exact ⟨k + 1, out ++ [(x.id, z.id)], hlt, by go_num, ⟨some ⟨gc, 0, none⟩, gcc, by simp⟩, ⟨some ⟨go, 0, none⟩, goc, by simp⟩, Lib.hid HX.out.symm, by rw [List.map_append, List.map_append]; exact hT, bRz.trans bk⟩
                        case measure => simp [intOf]; omega
                  · skip
                    have nn : ((wz.drew).alloc (.cells #[.int .i64 x.id] 3)).heap.size = wz.heap.size + 1 := by simp
                    have hB := heap_at nn (.cells #[.int .i64 z.id] 3)
                    have fhB := hT.freshC; rw [nn] at fhB
                    have hA := carry_alloc hA (.cells #[.int .i64 z.id] 3)
                    have hT := hT.alloc (.cells #[.int .i64 z.id] 3)
                    have bk := bk.trans ((Below.refl _ _).alloc (Nat.le_trans hKs bk.size) (.cells #[.int .i64 z.id] 3))
                    clear nn
                    go_simp
                    refine hK.out _ _ (⟨cell_under cX bk lX, cell_under cY bk lY⟩) (fun hHeld => ?_)
                    clear hK K
                    try simp only [Act.put, List.getElem_toArray, List.getElem_cons_zero, List.getElem_cons_succ, List.setIfInBounds_toArray, List.set_cons_zero, List.set_cons_succ]
                    refine wpAnyH_ready (rs := [6]) (by kernel_rfl) (by simp) ?_
                    refine AllReadyH.cons rfl (fun K hK => ?_) (AllReadyH.nil)
                    · skip
                      refine step_app eN _ (by rfl) _ _ (by rfl) KB (out.map (·.1)) (.slice pc out.length cc) (by rfl) hT.c hT.size x.id (wz.heap.size) #[.int .i64 x.id] (by rfl) hA (by rfl) (by simp only [List.length_map]; omega) (by simp only [List.length_map]; unfold maxLen; omega) ?_
                      intro gc gcc v3 hown hgr hloc
                      have bk := hT.swap.grow bk hgr
                      have hHeld2 := (⟨cell_under cX bk lX, cell_under cY bk lY⟩ : _ ∧ _)
                      have hB := carry_row hB hgr fhB
                      have hT := (hT.swap.push hown hgr hloc).swap
                      clear hown hgr hloc hA
                      try go_simp
                      refine hK.out _ _ hHeld2 (fun hHeld => ?_)
                      clear hK K
                      try simp only [Act.put, List.getElem_toArray, List.getElem_cons_zero, List.getElem_cons_succ, List.setIfInBounds_toArray, List.set_cons_zero, List.set_cons_succ]
                      refine wpAnyH_ready (rs := [13]) (by kernel_rfl) (by simp) ?_
                      refine AllReadyH.cons rfl (fun K hK => ?_) (AllReadyH.nil)
                      · skip
                        refine step_app eN _ (by rfl) _ _ (by rfl) KB (out.map (·.2)) (.slice po out.length co) (by rfl) hT.o hT.size z.id (wz.heap.size + 1) #[.int .i64 z.id] (by rfl) hB (by rfl) (by simp only [List.length_map]; omega) (by simp only [List.length_map]; unfold maxLen; omega) ?_
                        intro go goc v4 hown hgr hloc
                        have bk := hT.grow bk hgr
                        have hHeld2 := (⟨cell_under cX bk lX, cell_under cY bk lY⟩ : _ ∧ _)
                        have hT := hT.push hown hgr hloc
                        clear hown hgr hloc hB
                        try go_simp
                        refine hK.out _ _ hHeld2 (fun hHeld => ?_)
                        clear hK K
                        try simp only [Act.put, List.getElem_toArray, List.getElem_cons_zero, List.getElem_cons_succ, List.setIfInBounds_toArray, List.set_cons_zero, List.set_cons_succ]
                        refine wpAnyH_take (i := 14) (v := ?_) rfl (by kernel_rfl) (by kernel_rfl) (by kernel_rfl) (fun _ _ _ h => h) (Or.inl ⟨by rfl, ?_⟩) hHeld ?_
                        rotate_left
                        · (intro w hSw; (try dsimp only at hSw); go_simp; try with_reducible rfl)
                        try simp only [Act.put, List.getElem_toArray, List.getElem_cons_zero, List.getElem_cons_succ, List.setIfInBounds_toArray, List.set_cons_zero, List.set_cons_succ]
                        refine wpAnyH_take (i := 15) (v := ?_) rfl (by kernel_rfl) (by kernel_rfl) (by kernel_rfl) (fun _ _ _ h => h) (Or.inl ⟨by rfl, ?_⟩) hHeld ?_
                        rotate_left
                        · (intro w hSw; (try dsimp only at hSw); go_simp; try with_reducible rfl)
                        try simp only [Act.put, List.getElem_toArray, List.getElem_cons_zero, List.getElem_cons_succ, List.setIfInBounds_toArray, List.set_cons_zero, List.set_cons_succ]
                        refine wpAnyH_done (by kernel_rfl) ?_ _
                        simp only [List.length_map] at hT
                        clear hHeld
                        go_wp2_with fail
                        go_roundw
                        case rel => exact ⟨k + 1, out ++ [(x.id, z.id)], hlt, by go_num, ⟨some ⟨gc, 0, none⟩, gcc, by simp⟩, ⟨some ⟨go, 0, none⟩, goc, by simp⟩, Lib.hid HX.out.symm, by rw [List.map_append, List.map_append]; exact hT, bRz.trans bk⟩
                        case measure => simp [intOf]; omega
                · skip
                  have nn : (wz.drew).heap.size = wz.heap.size := by simp
                  have hB := heap_at nn (.cells #[.int .i64 z.id] 3)
                  have fhB := hT.freshC; rw [nn] at fhB
                  have hT := hT.alloc (.cells #[.int .i64 z.id] 3)
                  have bk := bk.trans ((Below.refl _ _).alloc (Nat.le_trans hKs bk.size) (.cells #[.int .i64 z.id] 3))
                  clear nn
                  go_simp
                  refine hK.out _ _ (⟨cell_under cX bk lX, cell_under cY bk lY⟩) (fun hHeld => ?_)
                  clear hK K
                  try simp only [Act.put, List.getElem_toArray, List.getElem_cons_zero, List.getElem_cons_succ, List.setIfInBounds_toArray, List.set_cons_zero, List.set_cons_succ]
                  refine wpAnyH_ready (rs := [5]) (by kernel_rfl) (by simp) ?_
                  refine AllReadyH.cons rfl (fun K hK => ?_) (AllReadyH.nil)
                  · skip
                    have nn : ((wz.drew).alloc (.cells #[.int .i64 z.id] 3)).heap.size = wz.heap.size + 1 := by simp
                    have hA := heap_at nn (.cells #[.int .i64 x.id] 3)
                    have fhA := hT.freshC; rw [nn] at fhA
                    have hB := carry_alloc hB (.cells #[.int .i64 x.id] 3)
                    have hT := hT.alloc (.cells #[.int .i64 x.id] 3)
                    have bk := bk.trans ((Below.refl _ _).alloc (Nat.le_trans hKs bk.size) (.cells #[.int .i64 x.id] 3))
                    clear nn
                    go_simp
                    refine hK.out _ _ (⟨cell_under cX bk lX, cell_under cY bk lY⟩) (fun hHeld => ?_)
                    clear hK K
                    try simp only [Act.put, List.getElem_toArray, List.getElem_cons_zero, List.getElem_cons_succ, List.setIfInBounds_toArray, List.set_cons_zero, List.set_cons_succ]
                    refine wpAnyH_ready (rs := [6]) (by kernel_rfl) (by simp) ?_
                    refine AllReadyH.cons rfl (fun K hK => ?_) (AllReadyH.nil)
                    · skip
                      refine step_app eN _ (by rfl) _ _ (by rfl) KB (out.map (·.1)) (.slice pc out.length cc) (by rfl) hT.c hT.size x.id (wz.heap.size + 1) #[.int .i64 x.id] (by rfl) hA (by rfl) (by simp only [List.length_map]; omega) (by simp only [List.length_map]; unfold maxLen; omega) ?_
                      intro gc gcc v5 hown hgr hloc
                      have bk := hT.swap.grow bk hgr
                      have hHeld2 := (⟨cell_under cX bk lX, cell_under cY bk lY⟩ : _ ∧ _)
                      have hB := carry_row hB hgr fhB
                      have hT := (hT.swap.push hown hgr hloc).swap
                      clear hown hgr hloc hA
                      try go_simp
                      refine hK.out _ _ hHeld2 (fun hHeld => ?_)
                      clear hK K
                      try simp only [Act.put, List.getElem_toArray, List.getElem_cons_zero, List.getElem_cons_succ, List.setIfInBounds_toArray, List.set_cons_zero, List.set_cons_succ]
                      refine wpAnyH_ready (rs := [13]) (by kernel_rfl) (by simp) ?_
                      refine AllReadyH.cons rfl (fun K hK => ?_) (AllReadyH.nil)
                      · skip
                        refine step_app eN _ (by rfl) _ _ (by rfl) KB (out.map (·.2)) (.slice po out.length co) (by rfl) hT.o hT.size z.id (wz.heap.size) #[.int .i64 z.id] (by rfl) hB (by rfl) (by simp only [List.length_map]; omega) (by simp only [List.length_map]; unfold maxLen; omega) ?_
                        intro go goc v6 hown hgr hloc
                        have bk := hT.grow bk hgr
                        have hHeld2 := (⟨cell_under cX bk lX, cell_under cY bk lY⟩ : _ ∧ _)
                        have hT := hT.push hown hgr hloc
                        clear hown hgr hloc hB
                        try go_simp
                        refine hK.out _ _ hHeld2 (fun hHeld => ?_)
                        clear hK K
                        try simp only [Act.put, List.getElem_toArray, List.getElem_cons_zero, List.getElem_cons_succ, List.setIfInBounds_toArray, List.set_cons_zero, List.set_cons_succ]
                        refine wpAnyH_take (i := 14) (v := ?_) rfl (by kernel_rfl) (by kernel_rfl) (by kernel_rfl) (fun _ _ _ h => h) (Or.inl ⟨by rfl, ?_⟩) hHeld ?_
                        rotate_left
                        · (intro w hSw; (try dsimp only at hSw); go_simp; try with_reducible rfl)
                        try simp only [Act.put, List.getElem_toArray, List.getElem_cons_zero, List.getElem_cons_succ, List.setIfInBounds_toArray, List.set_cons_zero, List.set_cons_succ]
                        refine wpAnyH_take (i := 15) (v := ?_) rfl (by kernel_rfl) (by kernel_rfl) (by kernel_rfl) (fun _ _ _ h => h) (Or.inl ⟨by rfl, ?_⟩) hHeld ?_
                        rotate_left
                        · (intro w hSw; (try dsimp only at hSw); go_simp; try with_reducible rfl)
                        try simp only [Act.put, List.getElem_toArray, List.getElem_cons_zero, List.getElem_cons_succ, List.setIfInBounds_toArray, List.set_cons_zero, List.set_cons_succ]
                        refine wpAnyH_done (by kernel_rfl) ?_ _
                        simp only [List.length_map] at hT
                        clear hHeld
                        go_wp2_with fail
                        go_roundw
                        case rel => exact ⟨k + 1, out ++ [(x.id, z.id)], hlt, by go_num, ⟨some ⟨gc, 0, none⟩, gcc, by simp⟩, ⟨some ⟨go, 0, none⟩, goc, by simp⟩, Lib.hid HX.out.symm, by rw [List.map_append, List.map_append]; exact hT, bRz.trans bk⟩
                        case measure => simp [intOf]; omega
              · have qs := strl_ne ht'
                have qs' := str_ne ht'
                have qk : (x.k == z.k) = true := by simpa using hk'
                have HMM := Lib.hid (HM.out (by unfold hasP; rw [decide_eq_false ht', Bool.and_false]))
                clear HM HH HK hin ht' hk'
                go_wp2_with fail
                refine (HHAS.out).mono ?_; rintro e w5 ⟨rfl, rfl⟩
                go_wp2_with fail
                go_roundw
                case rel => exact ⟨j + 1, hjt, by go_num, rfl, rfl, hTz, bRz, Vx, HMM⟩
                case measure => simp [intOf]; omega
            · have qk : (x.k == z.k) = false := by simpa using hk'
              have HMM := Lib.hid (HM.out (by unfold hasP; rw [decide_eq_false hk', Bool.and_false, Bool.false_and]))
              clear HM HH HK hin hk'
              go_wp2_with fail
              refine (HHAS.out).mono ?_; rintro e w5 ⟨rfl, rfl⟩
              go_wp2_with fail
              go_roundw
              case rel => exact ⟨j + 1, hjt, by go_num, rfl, rfl, hTz, bRz, Vx, HMM⟩
              case measure => simp [intOf]; omega
        · obtain rfl : j = B.length := by omega
          have hno := HK.out
          rw [List.take_length] at hno
          have hused := HU.out; clear HU
          subst hused
          have HX := Lib.hid (HN.out.trans (pair_miss hno))
          clear hno HK HN
          go_wp2_with fail
          go_roundw
          case rel => exact ⟨k + 1, out, hlt, by go_num, ⟨_, _, rfl⟩, ⟨_, _, rfl⟩, Lib.hid HX.out.symm, hTv, bRv⟩
          case measure => simp [intOf]; omega
    · obtain rfl : k = A.length := by omega
      have hout := HOUT.out
      rw [List.take_length] at hout
      clear HOUT
      subst hout
      have hbw := hB2.trans (hbK.mono hsz)
      obtain ⟨p1, c1, hv1, a1, a2, a3⟩ := hT.c.ints
      obtain ⟨p2, c2, hv2, b1, b2, b3⟩ := hT.o.ints
      simp only [List.length_map] at hv1 hv2 a1 b1
      injection hv1 with e1 _ e3; injection hv2 with e4 _ e6
      subst e1 e3 e4 e6
      have HE : Hid (EndPr (A.foldl (pairR B) []) w (.returned (.tuple #[.slice pc (A.foldl (pairR B) []).length cc, .slice po (A.foldl (pairR B) []).length co])) wr) := Lib.hid ⟨_, _, _, _, rfl, a1, a2, a3, b1, b2, b3, hbw⟩
      clear a1 a2 a3 b1 b2 b3 hbw hT
      go_wp2_with fail
      go_ret2
      exact HE.out
end Go.Proofs.Ytnfapcfajoboaaa
namespace Go.Proofs.Ytnfapcfajoboaaa
open Go.ChangeShapes Go.WideShapes Go.ChangeAt Go.RowKit Go.Maps
set_option linter.unusedVariables false
set_option linter.unusedSimpArgs false
set_option maxRecDepth 100000

/-! ### the mathematics -/
/-- The numbers with a key that are still free. -/
def Fof (B : List It) (used : List Int) (key : It) : List Int := (B.filter fun z => decide (keyI z = key) && decide (z.id ∉ used)).map It.id
theorem key_has (used : List Int) (x z : It) : (decide (keyI z = keyI x) && decide (z.id ∉ used)) = hasP used x z := by
  unfold hasP keyI
  rw [Bool.eq_iff_iff]
  simp only [Bool.and_eq_true, decide_eq_true_eq, It.mk.injEq, and_true]
  exact ⟨fun ⟨⟨a, b⟩, c⟩ => ⟨⟨c, a.symm⟩, b.symm⟩, fun ⟨⟨c, a⟩, b⟩ => ⟨⟨a.symm, b.symm⟩, c⟩⟩
theorem fof_find (B : List It) (used : List Int) (x : It) : B.find? (hasP used x) = (B.filter (hasP used x)).head? := (List.head?_filter).symm
theorem fof_key (B : List It) (used : List Int) (x : It) : Fof B used (keyI x) = (B.filter (hasP used x)).map It.id := by
  unfold Fof; congr 2; funext z; exact key_has used x z
theorem fof_none {B : List It} {used : List Int} {x : It} (h : Fof B used (keyI x) = []) : B.find? (hasP used x) = none := by
  rw [fof_key, List.map_eq_nil_iff] at h
  rw [fof_find, h]; rfl
theorem nodup_inj {B : List It} (hn : (B.map It.id).Nodup) {y z : It} (hy : y ∈ B) (hz : z ∈ B) (e : y.id = z.id) : y = z := by
  induction B with
  | nil => cases hy
  | cons a t ih =>
    rw [List.map_cons, List.nodup_cons] at hn
    rcases List.mem_cons.1 hy with h1 | h1
    · rcases List.mem_cons.1 hz with h2 | h2
      · rw [h1, h2]
      · exact absurd (List.mem_map.2 ⟨z, h2, by rw [← e, h1]⟩) hn.1
    · rcases List.mem_cons.1 hz with h2 | h2
      · exact absurd (List.mem_map.2 ⟨y, h1, by rw [e, h2]⟩) hn.1
      · exact ih hn.2 h1 h2
theorem fof_some {B : List It} (hn : (B.map It.id).Nodup) {used : List Int} {x : It} {b : Int} {r : List Int} (h : Fof B used (keyI x) = b :: r) :
    (∃ z, B.find? (hasP used x) = some z ∧ z.id = b) ∧ ∀ key, Fof B (used ++ [b]) key = if key = keyI x then r else Fof B used key := by
  rw [fof_key] at h
  cases hf : B.filter (hasP used x) with
  | nil => rw [hf] at h; cases h
  | cons z zs =>
    rw [hf] at h
    injection h with h1 h2
    have hz : z ∈ B.filter (hasP used x) := by rw [hf]; exact List.mem_cons_self ..
    have hzB := (List.mem_filter.1 hz).1
    have hzP := (List.mem_filter.1 hz).2
    refine ⟨⟨z, by rw [fof_find, hf]; rfl, h1⟩, fun key => ?_⟩
    have split : Fof B (used ++ [b]) key = ((B.filter fun z => decide (keyI z = key) && decide (z.id ∉ used)).filter fun z => decide (z.id ≠ b)).map It.id := by
      unfold Fof
      rw [List.filter_filter]
      congr 2; funext y
      by_cases g1 : keyI y = key <;> by_cases g2 : y.id ∈ used <;> by_cases g3 : y.id = b <;> simp [g1, g2, g3]
    rw [split]
    by_cases hk : key = keyI x
    · subst hk
      rw [if_pos rfl]
      have : (B.filter fun z => decide (keyI z = keyI x) && decide (z.id ∉ used)) = B.filter (hasP used x) := by congr 1; funext y; exact key_has used x y
      rw [this, hf, List.filter_cons_of_neg (by simp [h1]), List.filter_eq_self.2 (fun y hy => ?_), h2]
      have hsub : (B.filter (hasP used x)).map It.id |>.Nodup := List.Sublist.nodup (List.Sublist.map _ List.filter_sublist) hn
      rw [hf, List.map_cons, List.nodup_cons] at hsub
      simp only [decide_eq_true_eq]
      intro e
      exact hsub.1 (List.mem_map.2 ⟨y, hy, by rw [e, h1]⟩)
    · rw [if_neg hk]
      unfold Fof
      rw [List.filter_eq_self.2 (fun y hy => ?_)]
      simp only [decide_eq_true_eq]
      intro e
      have hy1 := List.mem_filter.1 hy
      have : y = z := nodup_inj hn hy1.1 hzB (by rw [e, h1])
      subst this
      rw [← key_has] at hzP
      simp only [Bool.and_eq_true, decide_eq_true_eq] at hzP hy1
      exact hk (hy1.2.1.symm.trans hzP.1)
theorem fof_next (g : List It) (k : Nat) (h : k < g.length) (key : It) : Fof (g.take (k + 1)) [] key = if key = keyI (g[k]'h) then Fof (g.take k) [] key ++ [(g[k]'h).id] else Fof (g.take k) [] key := by
  unfold Fof
  rw [List.take_succ_eq_append_getElem h, List.filter_append, List.map_append]
  by_cases e : key = keyI (g[k]'h)
  · rw [if_pos e]; congr 1; rw [List.filter_cons_of_pos (by simp [e])]; rfl
  · rw [if_neg e, List.filter_cons_of_neg (by simp [Ne.symm e]), List.filter_nil, List.map_nil, List.append_nil]
theorem fof_len (B : List It) (used : List Int) (key : It) : (Fof B used key).length ≤ B.length := by unfold Fof; rw [List.length_map]; exact List.length_filter_le _ _

/-! ### the map -/
def pickV : Option Value → Value
  | some v => v
  | none => .slice none 0 0
theorem pick_v (f : Option Value) : pickE id (.slice none 0 0) f = pickV f := by cases f <;> rfl
/-- What holds at each head of the loop that makes the groups. -/
structure GRel1 (g : List It) (w : World) (S : Nat) (p1 : Option Addr) (k : Nat) (f : It → Option Value) (wr : World) : Prop where
  le : k ≤ g.length
  base : w.heap.size < S
  size : S ≤ wr.heap.size
  below : Below w.heap.size w wr
  map : MapAt 26 It.v id wr w.heap.size k f
  own : ∀ x, OwnN S (Fof (g.take k) [] x) (pickV (f x)) wr
  apart : ∀ x y, x ≠ y → ∀ b, (pickV (f x)).ownBlock = some b → (pickV (f y)).ownBlock ≠ some b
  its : Its wr p1 g
  addr : ∀ a, p1 = some a → a.block < S ∧ a.block ≠ w.heap.size
section
variable {g : List It} {w : World} {S : Nat} {p1 : Option Addr} {k : Nat} {f : It → Option Value} {wr : World}
theorem GRel1.call {w1 : World} (h : GRel1 g w S p1 k f wr) (hb : Below wr.heap.size wr w1) : GRel1 g w S p1 k f w1 :=
  ⟨h.le, h.base, Nat.le_trans h.size hb.size, BelowOn h.below hb, h.map.call hb, fun x => (h.own x).call hb, h.apart, h.its.call hb, h.addr⟩
theorem GRel1.alloc (h : GRel1 g w S p1 k f wr) (o : Obj) : GRel1 g w S p1 k f (wr.alloc o) := h.call (blw (Below.refl _ _) o)
theorem GRel1.push (h : GRel1 g w S p1 k f wr) (hk : k < g.length) {w1 w5 w6 : World} (hg1 : wr.grownBy w1 (some w.heap.size)) (hs1 : w1.heap.size = wr.heap.size) {b n cap : Nat}
    (hown : OwnN S (Fof (g.take k) [] (keyI (g[k]'hk)) ++ [(g[k]'hk).id]) (.slice (some ⟨b, 0, none⟩) n cap) w5) (hgr : w1.grownBy w5 (pickV (f (keyI (g[k]'hk)))).ownBlock) (hloc : (pickV (f (keyI (g[k]'hk)))).ownBlock = some b ∨ b = w1.heap.size)
    (hM : MapAt 26 It.v id w6 w.heap.size (k + 1) (fun x => if x = keyI (g[k]'hk) then some (.slice (some ⟨b, 0, none⟩) n cap) else f x)) (hg6 : w5.grownBy w6 (some w.heap.size)) :
    GRel1 g w S p1 (k + 1) (fun x => if x = keyI (g[k]'hk) then some (.slice (some ⟨b, 0, none⟩) n cap) else f x) w6 := by
  have hb := h.base
  have hown0 := h.own (keyI (g[k]'hk))
  have s5 : S ≤ w5.heap.size := by have := hgr.size; have := h.size; omega
  have b5 : Below w.heap.size w w5 := ((h.below.grown hg1 h.below.size (fun j hj => by cases hj; exact Nat.le_refl _)).grown hgr (by have := h.below.size; omega) (fun j hj => by have := (hown0.lt j hj).1; omega))
  refine ⟨hk, hb, by have := hg6.size; omega, b5.grown hg6 b5.size (fun j hj => by cases hj; exact Nat.le_refl _), hM, fun x => ?_, fun x y hne c hc => ?_, ?_, h.addr⟩
  · rw [fof_next g k hk x]
    by_cases e : x = keyI (g[k]'hk)
    · rw [if_pos e, if_pos e, e]
      exact hown.other hg6 hb
    · rw [if_neg e, if_neg e]
      have h0 := h.own x
      have h1 := h0.other hg1 hb
      exact (h1.keepAt (fun j hj => hgr.block j (h1.lt j hj).2 (fun e2 => h.apart x _ e j hj e2.symm))).other hg6 hb
  · have fresh : ∀ z, (pickV (f z)).ownBlock ≠ some w1.heap.size := fun z e => by have := ((h.own z).lt _ e).2; omega
    by_cases ex : x = keyI (g[k]'hk)
    · have ey : y ≠ keyI (g[k]'hk) := fun e => hne (ex.trans e.symm)
      rw [if_pos ex] at hc
      rw [if_neg ey]
      have hc' : b = c := by simpa [pickV, Value.ownBlock] using hc
      subst hc'
      rcases hloc with hl | hl
      · exact h.apart _ y (fun e => ey e.symm) _ hl
      · rw [hl]; exact fresh y
    · rw [if_neg ex] at hc
      by_cases ey : y = keyI (g[k]'hk)
      · rw [if_pos ey]
        intro e
        have hc' : b = c := by simpa [pickV, Value.ownBlock] using e
        subst hc'
        rcases hloc with hl | hl
        · exact h.apart x _ ex _ hc hl
        · rw [hl] at hc; exact fresh x hc
      · rw [if_neg ey]; exact h.apart x y hne c hc
  · have i1 := h.its.other hg1 (fun a ha => (h.addr a ha).2)
    have i2 : Its w5 p1 g := i1.keep hgr.size fun a ha => by
      rcases Nat.lt_or_ge a.block w1.heap.size with hlt | hge
      · exact hgr.block _ hlt (fun e => by have := (hown0.lt _ e.symm).1; have := (h.addr a ha).1; omega)
      · have := (h.addr a ha).1; have := h.size; omega
    exact i2.other hg6 (fun a ha => (h.addr a ha).2)
theorem GRel1.pushX (h : GRel1 g w S p1 k f wr) (hk : k < g.length) {x : It} (hx : g[k]'hk = x) {w1 w5 w6 : World} (hg1 : wr.grownBy w1 (some w.heap.size)) (hs1 : w1.heap.size = wr.heap.size) {b n cap : Nat}
    (hown : OwnN S (Fof (g.take k) [] (keyI x) ++ [x.id]) (.slice (some ⟨b, 0, none⟩) n cap) w5) (hgr : w1.grownBy w5 (pickV (f (keyI x))).ownBlock) (hloc : (pickV (f (keyI x))).ownBlock = some b ∨ b = w1.heap.size)
    (hM : MapAt 26 It.v id w6 w.heap.size (k + 1) (fun y => if y = keyI x then some (.slice (some ⟨b, 0, none⟩) n cap) else f y)) (hg6 : w5.grownBy w6 (some w.heap.size)) :
    GRel1 g w S p1 (k + 1) (fun y => if y = keyI x then some (.slice (some ⟨b, 0, none⟩) n cap) else f y) w6 := by
  subst hx
  exact h.push hk hg1 hs1 hown hgr hloc hM hg6
end
theorem fst_sub (g : List It) : ∀ z ∈ fstL g, z ∈ g := by
  refine list_rev (P := fun g => ∀ z ∈ fstL g, z ∈ g) (fun z hz => by cases hz) (fun g x ih z hz => ?_) g
  rw [fst_snoc] at hz
  unfold fstS at hz
  split at hz
  · exact List.mem_append_left _ (ih z hz)
  · rcases List.mem_append.1 hz with hz | hz
    · exact List.mem_append_left _ (ih z hz)
    · exact List.mem_append_right _ hz
theorem Oks.firsts {l : List It} (h : Oks l) : Oks (firsts l) := Oks.of fun x hx => by
  have := fst_sub _ x hx
  obtain ⟨i, hi, rfl⟩ := List.getElem_of_mem this
  exact h.tags i hi
theorem key_ok (x : It) (h : x.ok) : ∃ l, keyOf Try.prog 26 (It.v (keyI x)) = some l :=
  key_item (keyI x) h.k (Nat.le_trans h.t (by unfold maxLen; omega)) (show (Lit.int .i64 0).wf = true by decide)
theorem zero24 (u : World) : (zeroValue 24).run Try.prog u = .ok (id (.slice none 0 0)) u := Try.zeroValue24 u
end Go.Proofs.Ytnfapcfajoboaaa
namespace Go.Proofs.Ytnfapcfajoboaaa
open Go.ChangeShapes Go.WideShapes Go.ChangeAt Go.RowKit Go.Maps
set_option linter.unusedVariables false
set_option linter.unusedSimpArgs false
set_option maxRecDepth 100000

/-- What holds at each head of the loop that takes from the groups. -/
structure GRel2 (A B : List It) (w : World) (KB : Nat) (p2 : Option Addr) (k n : Nat) (out : List (Int × Int)) (f : It → Option Value) (vc vo : Value) (wr : World) : Prop where
  le : k ≤ A.length
  nle : n ≤ B.length + k
  outE : out = (A.take k).foldl (pairR B) []
  duo : Duo KB (out.map (·.1)) (out.map (·.2)) vc vo wr
  map : MapAt 26 It.v id wr w.heap.size n f
  rows : ∀ x, ∃ p c, pickV (f x) = .slice p (Fof B (out.map (·.2)) x).length c ∧ (Fof B (out.map (·.2)) x).length ≤ c ∧ c ≤ maxLen ∧ Ones wr (Value.int .i64) p (Fof B (out.map (·.2)) x) ∧ ∀ a, p = some a → a.block < KB ∧ a.block ≠ w.heap.size
  its : Its wr p2 A
  addr : ∀ a, p2 = some a → a.block < KB ∧ a.block ≠ w.heap.size
  below : Below w.heap.size w wr
  bm : w.heap.size < KB
section
variable {A B : List It} {w : World} {KB : Nat} {p2 : Option Addr} {k n : Nat} {out : List (Int × Int)} {f : It → Option Value} {vc vo : Value} {wr : World}
theorem GRel2.call {w1 : World} (h : GRel2 A B w KB p2 k n out f vc vo wr) (hb : Below wr.heap.size wr w1) : GRel2 A B w KB p2 k n out f vc vo w1 :=
  ⟨h.le, h.nle, h.outE, h.duo.call hb, h.map.call hb, fun x => by
    obtain ⟨p, c, h1, h2, h3, h4, h5⟩ := h.rows x
    exact ⟨p, c, h1, h2, h3, h4.call hb, h5⟩, h.its.call hb, h.addr, BelowOn h.below hb, h.bm⟩
theorem GRel2.alloc (h : GRel2 A B w KB p2 k n out f vc vo wr) (o : Obj) : GRel2 A B w KB p2 k n out f vc vo (wr.alloc o) := h.call (blw (Below.refl _ _) o)
theorem GRel2.skip (h : GRel2 A B w KB p2 k n out f vc vo wr) (hk : k < A.length) {x : It} (hx : A[k]'hk = x) (h0 : Fof B (out.map (·.2)) (keyI x) = []) : GRel2 A B w KB p2 (k + 1) n out f vc vo wr :=
  ⟨hk, by have := h.nle; omega, by subst hx; rw [pair_next B A k hk, ← h.outE, pair_miss (fof_none h0)], h.duo, h.map, h.rows, h.its, h.addr, h.below, h.bm⟩
/-- One pair more: the slices have grown, the group's rest is in its place. -/
theorem GRel2.take (h : GRel2 A B w KB p2 k n out f vc vo wr) (nB : (B.map It.id).Nodup) (hk : k < A.length) {x : It} (hx : A[k]'hk = x) {b : Int} {r : List Int} (h0 : Fof B (out.map (·.2)) (keyI x) = b :: r)
    {w5 w6 : World} {vc' vo' v' : Value} (hd : Duo KB ((out ++ [(x.id, b)]).map (·.1)) ((out ++ [(x.id, b)]).map (·.2)) vc' vo' w5) (bk : Below KB wr w5) (hM : MapAt 26 It.v id w6 w.heap.size (n + 1) (fun y => if y = keyI x then some v' else f y)) (hg : w5.grownBy w6 (some w.heap.size))
    (hv : ∃ p c, v' = .slice p r.length c ∧ r.length ≤ c ∧ c ≤ maxLen ∧ Ones w6 (Value.int .i64) p r ∧ ∀ a, p = some a → a.block < KB ∧ a.block ≠ w.heap.size) :
    GRel2 A B w KB p2 (k + 1) (n + 1) (out ++ [(x.id, b)]) (fun y => if y = keyI x then some v' else f y) vc' vo' w6 := by
  obtain ⟨⟨z, hz, hzb⟩, hF⟩ := fof_some nB h0
  have hbm := h.bm
  have hout2 : (out ++ [(x.id, b)]).map (·.2) = out.map (·.2) ++ [b] := by rw [List.map_append]; rfl
  have keep : ∀ a : Addr, a.block < KB ∧ a.block ≠ w.heap.size → a.block < w5.heap.size → w6.heap[a.block]? = wr.heap[a.block]? := fun a ha hlt =>
    (hg.block _ hlt (fun e => ha.2 (Option.some.inj e))).trans (bk.block _ ha.1)
  have s5 := hd.size
  have s6 := hg.size
  refine ⟨hk, by have := h.nle; omega, ?_, ⟨by omega, hd.c.other hg hbm, hd.o.other hg hbm, hd.ne⟩, hM, fun y => ?_, h.its.keep (by have := bk.size; omega) fun a ha => keep a (h.addr a ha) (by have := (h.addr a ha).1; omega), h.addr, ?_, hbm⟩
  · subst hx; rw [pair_next B A k hk, ← h.outE, pair_hit hz, hzb]
  · rw [hout2, hF y]
    by_cases e : y = keyI x
    · rw [if_pos e, if_pos e]; exact hv
    · rw [if_neg e, if_neg e]
      obtain ⟨p, c, h1, h2, h3, h4, h5⟩ := h.rows y
      exact ⟨p, c, h1, h2, h3, ones_keep h4 (by have := bk.size; omega) (fun _ a ha => keep a (h5 a ha) (by have := (h5 a ha).1; omega)), h5⟩
  · exact (h.below.trans (bk.mono (by omega))).grown hg (by have := h.below.size; have := bk.size; omega) (fun j hj => by cases hj; exact Nat.le_refl _)
end

theorem add_add (a : Addr) (n m : Nat) : (a.add n).add m = a.add (n + m) := by
  unfold Addr.add
  by_cases h1 : n = 0 <;> by_cases h2 : m = 0 <;> simp [h1, h2]
  · omega
theorem ones_tail {W : World} {a : Addr} {b : Int} {r : List Int} (h : Ones W (Value.int .i64) (some a) (b :: r)) : Ones W (Value.int .i64) (some (a.add 1)) r := fun h0 => by
  obtain ⟨a', e, hlt, hc⟩ := h (by simp)
  injection e with e; subst e
  refine ⟨_, rfl, by rw [add_block]; exact hlt, fun i hi => ?_⟩
  rw [add_add, Nat.add_comm]
  exact hc (i + 1) (by simp; omega)

theorem ones_rest {W : World} {a : Addr} {b : Int} {r : List Int} {c : Nat} (h : Ones W (Value.int .i64) (some a) (b :: r)) (hc : r.length + 1 ≤ c) : Ones W (Value.int .i64) (if c = 1 then some a else some ⟨a.block, a.off + 1, none⟩) r := by
  by_cases e : c = 1
  · have : r = [] := List.length_eq_zero_iff.1 (by omega)
    subst this; exact Ones.nil _ _ _
  · rw [if_neg e]; exact ones_tail h
theorem rest_block {a a' : Addr} {c : Nat} (h : (if c = 1 then some a else some (⟨a.block, a.off + 1, none⟩ : Addr)) = some a') : a'.block = a.block := by
  by_cases e : c = 1
  · rw [if_pos e] at h; injection h with h; rw [h]
  · rw [if_neg e] at h; injection h with h; rw [← h]

set_option maxHeartbeats 6400000 in
theorem pair_any (p q : Option Addr) (c d : Nat) (l m : List It) (w : World) (hR : Its w p l) (hS : Its w q m) (hO : Oks l) (hP : Oks m) (hc : l.length ≤ c) (hd : m.length ≤ d) (hcm : c ≤ maxLen) (hdm : d ≤ maxLen) (hl : l.length ≤ 1000000) (hm : m.length ≤ 1000000) :
    Calls Try.prog 56 #[.slice p l.length c, .slice q m.length d] w (EndPr (pairL l m) w) := by
  have t1 := fun W i => firsttags_any p c l W i hO hc hcm (by omega)
  have t2 := fun W i => firsttags_any q d m W i hP hd hdm (by omega)
  have g1 := firsts_len l; have g2 := firsts_len m
  have oA := hO.firsts; have oB := hP.firsts
  have nB : ((firsts m).map It.id).Nodup := fst_nodup _
  have mixed : Try.prog.follows .mixedOrders = true := by kernel_rfl
  have hmm := @run_makeMap Try.prog
  unfold maxLen at hcm hdm
  unfold pairL
  generalize firsts l = A at *
  generalize firsts m = B at *
  have T1 := Lib.hid t1; have T2 := Lib.hid t2; have NB := Lib.hid nB; clear t1 t2 nB
  go_enter Try.func56, Try.ntmps56
  go_wp2_with fail
  refine (T2.out _ (hS.call (blw (Below.refl _ _) _))).mono ?_; rintro e w1 ⟨v1, rfl, hA1⟩
  obtain ⟨p1, c1, rfl, x1, x2, hI1⟩ := hA1.own.its
  have hb1 := BelowOn (blw (Below.refl _ _) _) hA1.below
  have hsz : w.heap.size + 1 ≤ w1.heap.size := by have := hA1.below.size; simpa using this
  have hmap : MapAt 26 It.v id w1 w.heap.size 0 (fun _ => none) := (MapAt.made w).call hA1.below
  have hst : GRel1 B w w1.heap.size p1 0 (fun _ => none) w1 := ⟨Nat.zero_le _, hsz, Nat.le_refl _, hb1, hmap, fun x => OwnL.nil _ _, fun x y _ b hb => by simp [pickV, Value.ownBlock] at hb, hI1, fun a ha => by
    have := hA1.own.addr a ha
    simp at this; omega⟩
  unfold maxLen at x2
  go_wp2_with fail
  clear hmm hmap hI1 hA1
  generalize w1.heap.size = S at *
  have HS := Lib.hid hst; clear hst
  go_loopw [18] (fun i wr => ∃ (k : Nat) (f : It → Option Value), i = .int .i64 k ∧ GRel1 B w S p1 k f wr) (fun i _ => B.length - (intOf i).toNat)
  case atStart => exact ⟨0, _, rfl, HS.out⟩
  case round =>
    obtain ⟨k, f, rfl, hF⟩ := hrel
    by_cases hlt : k < B.length
    · obtain ⟨ad, rfl, had, c0, c1, c2⟩ := hF.its.row k hlt
      have hok := oB k hlt
      generalize hx : B[k] = x at *
      have HX := Lib.hid hx; clear hx
      obtain ⟨kl, hkey⟩ := key_ok x hok
      have hF1 := hF.alloc (.cells #[.int .i64 x.k, .string x.t, .int .i64 x.id] 26)
      have V8 := Var3.new wr x.k x.t x.id
      go_wp2_with fail
      refine (without_any x _).mono ?_; rintro e w2 ⟨rfl, hb2⟩
      have hF2 := (hF1.call hb2).alloc (.cells #[.int .i64 x.k, .string x.t, .int .i64 0] 26)
      have V8' := (V8.call hb2).alloc (.cells #[.int .i64 x.k, .string x.t, .int .i64 0] 26)
      have V9 := Var3.new w2 x.k x.t 0
      obtain ⟨u0, u1, u2, ul⟩ := id V8'
      obtain ⟨y0, y1, y2, yl⟩ := id V9
      have hF3 := hF2.alloc (.cells #[.int .i64 x.id] 3)
      have hID := heap_alloc_new (w2.alloc (.cells #[.int .i64 x.k, .string x.t, .int .i64 0] 26)) (.cells #[.int .i64 x.id] 3)
      obtain ⟨st, wE, f1, hE, hg1, hs1, hM1, hf1, hSt⟩ := hF3.map.entry (T := 102) Try.underlying102 (by have := hF.le; unfold maxLen; omega) (.slice none 0 0) zero24 hkey
      rw [show (id (Value.slice none 0 0) : Value) = .slice none 0 0 from rfl, pick_v] at hE
      have hown := hF3.own (keyI x)
      obtain ⟨pv, cv, hv⟩ := hown.form
      have hfl := fof_len (B.take k) [] (keyI x)
      rw [List.length_take] at hfl
      have hL : (Fof (B.take k) [] (keyI x)).length ≤ 1000000 := by omega
      have hownE := hown.other hg1 hF.base
      have hIDE := carry_row hID hg1 (fun e => by injection e with e; have := hF2.size; have := hF.base; omega)
      have hsE : S ≤ wE.heap.size := by rw [hs1]; exact hF3.size
      have HPx := Lib.hid (fun w5 w6 b n cap h1 h2 h3 h4 h5 => GRel1.pushX hF3 hlt HX.out (w1 := wE) (w5 := w5) (w6 := w6) hg1 hs1 (b := b) (n := n) (cap := cap) h1 h2 h3 h4 h5)
      have hgrow : ∀ w5, wE.grownBy w5 (pickV (f (keyI x))).ownBlock → w5.heap[w.heap.size]? = wE.heap[w.heap.size]? := fun w5 h => h.block _ hM1.lt (fun e => by have := (hown.lt _ e.symm).1; have := hF.base; omega)
      rw [hv] at hE hown hownE hgrow
      have HG := Lib.hid hgrow; clear hgrow
      rw [hv] at HPx
      generalize Fof (B.take k) [] (keyI x) = L at *
      have hE' : (Instr.mapEntry 102 (.map (some w.heap.size)) (.agg #[.int .i64 x.k, .string x.t, .int .i64 0])).run Try.prog _ = .ok (.tuple #[.slice pv L.length cv, .int .i64 st]) wE := hE
      have HSt := Lib.hid hSt
      have HC := Lib.hid (And.intro hF3 hown)
      clear hSt hE hf1 hM1 hF1 hF2 hF3 hown hF hok hkey V8 V9 V8' HX hv hfl
      go_wp2_with (at_builtin; refine wpl_app eN wE rfl _ _ rfl S L _ rfl hownE hsE x.id (w2.heap.size + 1) #[.int .i64 x.id] rfl (by simpa using hIDE) rfl (by omega) (by unfold maxLen; omega) ?_; intro gb cp w5 hown5 hgr5 hloc5; obtain ⟨w6, hS6, hM6, hg6, hsz6⟩ := HSt.out w5 (.slice (some ⟨gb, 0, none⟩) (L.length + 1) cp) (HG.out _ hgr5); have hS6' : (Instr.entryStore 102 (.map (some w.heap.size)) (.int .i64 st) (.slice (some ⟨gb, 0, none⟩) (L.length + 1) cp)).run Try.prog w5 = .ok () w6 := hS6)
      go_roundw
      case rel => exact ⟨k + 1, _, by go_num, HPx.out w5 w6 gb (L.length + 1) cp hown5 hgr5 hloc5 hM6 hg6⟩
      case measure => simp [intOf]; omega
    · obtain rfl : k = B.length := by have := hF.le; omega
      have hmapF := hF.map
      have hownF := hF.own
      rw [List.take_length] at hownF
      have hbF := hF.below
      have hbsF := hF.base
      go_wp2_with fail
      refine (T1.out _ (hR.call hbF)).mono ?_; rintro e w7 ⟨v7, rfl, hA7⟩
      obtain ⟨p2, c2, rfl, x3, x4, hI7⟩ := hA7.own.its
      obtain ⟨KB, hKB⟩ : ∃ KB, KB = w7.heap.size := ⟨_, rfl⟩
      have hD7 : Duo KB [] [] (.slice none 0 0) (.slice none 0 0) w7 := by rw [hKB]; exact Duo.start w7
      have hs7 := hA7.below.size
      have hst2 : GRel2 A B w KB p2 0 B.length [] f (.slice none 0 0) (.slice none 0 0) w7 := ⟨Nat.zero_le _, Nat.le_refl _, rfl, hD7, hmapF.call hA7.below, fun x => by
        obtain ⟨p, c, h1, h2, h3, h4⟩ := (hownF x).ints
        have had := OwnL.addr (h1 ▸ hownF x)
        exact ⟨p, c, h1, h2, h3, h4.call hA7.below, fun a ha => by have := had a ha; omega⟩, hI7, fun a ha => by have := OwnL.addr hA7.own a ha; have := hmapF.lt; omega, BelowOn hbF hA7.below, by have := hmapF.lt; omega⟩
      unfold maxLen at x4
      have HS2 := Lib.hid hst2
      clear hmapF hownF hbF hbsF hF hA7 hI7 hD7 hst2 T1 T2 HS
      go_wp2_with fail
      go_loopw [4, 5, 37] (fun vc vo i wr => ∃ (k n : Nat) (out : List (Int × Int)) (f : It → Option Value), i = .int .i64 k ∧ (∃ pc cc, vc = .slice pc out.length cc) ∧ (∃ po co, vo = .slice po out.length co) ∧ GRel2 A B w KB p2 k n out f vc vo wr) (fun _ _ i _ => A.length - (intOf i).toNat)
      case atStart => exact ⟨0, B.length, [], f, rfl, ⟨_, _, rfl⟩, ⟨_, _, rfl⟩, HS2.out⟩
      case round =>
        obtain ⟨k, n, out, f, rfl, ⟨pc, cc, rfl⟩, ⟨po, co, rfl⟩, hF⟩ := hrel
        by_cases hlt : k < A.length
        · obtain ⟨ad, rfl, had, c0, c1, c2⟩ := hF.its.row k hlt
          have hok := oA k hlt
          generalize hx : A[k] = x at *
          have HX := Lib.hid hx; clear hx
          obtain ⟨kl, hkey⟩ := key_ok x hok
          have hlen : out.length ≤ 1000000 := by
            have h1 := pair_len B (A.take k) []
            rw [← hF.outE, List.length_take] at h1
            simp at h1; omega
          have hF1 := hF.alloc (.cells #[.int .i64 x.k, .string x.t, .int .i64 x.id] 26)
          have n11c := hF.duo.freshC
          have n11o := hF.duo.freshO
          have V11 := Var3.new wr x.k x.t x.id
          go_wp2_with fail
          refine (without_any x _).mono ?_; rintro e w3 ⟨rfl, hb3⟩
          have hF2 := hF1.call hb3
          have n12c := hF2.duo.freshC
          have n12o := hF2.duo.freshO
          have hF3 := hF2.alloc (.cells #[.int .i64 x.k, .string x.t, .int .i64 0] 26)
          have V11' := (V11.call hb3).alloc (.cells #[.int .i64 x.k, .string x.t, .int .i64 0] 26)
          have hV12 := heap_alloc_new w3 (.cells #[.int .i64 x.k, .string x.t, .int .i64 0] 26)
          obtain ⟨y0, y1, y2, _⟩ := cells_item hV12
          have hM := hF3.map
          obtain ⟨pr, cr, hv, r2, r3, hrow, hra⟩ := hF3.rows (keyI x)
          have e1 : pickE id (.slice none 0 0) (f (keyI x)) = .slice pr (Fof B (out.map (·.2)) (keyI x)).length cr := by rw [pick_v, hv]
          have hFl := fof_len B (out.map (·.2)) (keyI x)
          generalize hFF : Fof B (out.map (·.2)) (keyI x) = L at *
          have HFF := Lib.hid hFF; clear hFF hv
          unfold maxLen at r3
          have HF := Lib.hid hF3
          cases L with
          | nil =>
            have HN := Lib.hid (hF3.skip hlt HX.out HFF.out)
            clear hF hF1 hF2 hF3 hrow hra r2 r3 hFl hV12 V11 V11' n11c n11o n12c n12o HF
            go_wp2_with (at_lookup; refine wpl_look rfl _ _ 102 rfl k26 Try.underlying102 _ (zero24 _) w.heap.size rfl hM (keyI x) rfl hkey ?_; simp only [id]; rw [e1])
            go_roundw
            case rel => exact ⟨k + 1, n, out, f, by go_num, ⟨_, _, rfl⟩, ⟨_, _, rfl⟩, HN.out⟩
            case measure => simp [intOf]; omega
          | cons b r =>
            obtain ⟨a0, rfl, la0, cY⟩ := one_row hrow 0 (by simp)
            have a00 : a0.add 0 = a0 := by unfold Addr.add; simp
            rw [a00, show (b :: r)[0] = b from rfl] at cY
            obtain ⟨lY0, hra0⟩ := hra a0 rfl
            have cX := V11'.c2
            have hT := hF3.duo
            have hbmK := hF3.bm
            have q0 : decide (0 < (r.length : Int) + 1) = true := decide_eq_true (by omega)
            have q1 : (1 : Int) ≤ (r.length : Int) + 1 := by omega
            have hfl2 : r.length ≤ 1000000 := by simp at hFl; omega
            have hcr : r.length + 1 ≤ cr := by simpa using r2
            simp only [List.length_cons] at e1
            clear hF hF1 hF2 hF3 hra hFl V11 V11' a00 la0 y0 y1 y2
            go_wp2_with (at_lookup; refine wpl_look rfl _ _ 102 rfl k26 Try.underlying102 _ (zero24 _) w.heap.size rfl hM (keyI x) rfl hkey ?_; simp only [id]; rw [e1])
            clear e1
            generalize w3.alloc (.cells #[.int .i64 x.k, .string x.t, .int .i64 0] 26) = wz at *
            have hKs : KB ≤ wz.heap.size := hT.size
            refine wp_region_held_drew (S := fun W => W.cell? ⟨wr.heap.size, 2, none⟩ = some (.int .i64 x.id) ∧ W.cell? a0 = some (.int .i64 b)) (by kernel_rfl) (⟨cX, cY⟩) (fun hHeld => ?_)
            have hT : Duo KB (out.map (·.1)) (out.map (·.2)) (.slice pc out.length cc) (.slice po out.length co) wz.drew := hT.drewN 1
            have bk : Below KB wz wz.drew := ⟨rfl, rfl, rfl, Nat.le_refl _, fun _ _ => rfl⟩
            refine wpAnyH_take (i := 0) (v := ?_) rfl (by kernel_rfl) (by kernel_rfl) (by kernel_rfl) (fun _ _ _ h => h) (Or.inl ⟨by rfl, ?_⟩) hHeld ?_
            rotate_left
            · (intro w hSw; (try dsimp only at hSw); go_simp; try with_reducible rfl)
            try simp only [Act.put, List.getElem_toArray, List.getElem_cons_zero, List.getElem_cons_succ, List.setIfInBounds_toArray, List.set_cons_zero, List.set_cons_succ]
            refine wpAnyH_take (i := 1) (v := ?_) rfl (by kernel_rfl) (by kernel_rfl) (by kernel_rfl) (fun _ _ _ h => h) (Or.inl ⟨by rfl, ?_⟩) hHeld ?_
            rotate_left
            · (intro w hSw; (try dsimp only at hSw); go_simp; try with_reducible rfl)
            try simp only [Act.put, List.getElem_toArray, List.getElem_cons_zero, List.getElem_cons_succ, List.setIfInBounds_toArray, List.set_cons_zero, List.set_cons_succ]
            refine wpAnyH_take (i := 2) (v := ?_) rfl (by kernel_rfl) (by kernel_rfl) (by kernel_rfl) (fun _ _ _ h => h) (Or.inl ⟨by rfl, ?_⟩) hHeld ?_
            rotate_left
            · (intro w hSw; obtain ⟨s1, s2⟩ := hSw; clear s2; go_simp; try with_reducible rfl)
            try simp only [Act.put, List.getElem_toArray, List.getElem_cons_zero, List.getElem_cons_succ, List.setIfInBounds_toArray, List.set_cons_zero, List.set_cons_succ]
            refine wpAnyH_take (i := 5) (v := ?_) rfl (by kernel_rfl) (by kernel_rfl) (by kernel_rfl) (fun _ _ _ h => h) (Or.inl ⟨by rfl, ?_⟩) hHeld ?_
            rotate_left
            · (intro w hSw; (try dsimp only at hSw); go_simp; try with_reducible rfl)
            try simp only [Act.put, List.getElem_toArray, List.getElem_cons_zero, List.getElem_cons_succ, List.setIfInBounds_toArray, List.set_cons_zero, List.set_cons_succ]
            refine wpAnyH_take (i := 6) (v := ?_) rfl (by kernel_rfl) (by kernel_rfl) (by kernel_rfl) (fun _ _ _ h => h) (Or.inl ⟨by rfl, ?_⟩) hHeld ?_
            rotate_left
            · (intro w hSw; (try dsimp only at hSw); go_simp; try with_reducible rfl)
            try simp only [Act.put, List.getElem_toArray, List.getElem_cons_zero, List.getElem_cons_succ, List.setIfInBounds_toArray, List.set_cons_zero, List.set_cons_succ]
            refine wpAnyH_take (i := 7) (v := ?_) rfl (by kernel_rfl) (by kernel_rfl) (by kernel_rfl) (fun _ _ _ h => h) (Or.inl ⟨by rfl, ?_⟩) hHeld ?_
            rotate_left
            · (intro w hSw; (try dsimp only at hSw); go_simp; try with_reducible rfl)
            try simp only [Act.put, List.getElem_toArray, List.getElem_cons_zero, List.getElem_cons_succ, List.setIfInBounds_toArray, List.set_cons_zero, List.set_cons_succ]
            refine wpAnyH_take (i := 8) (v := ?_) rfl (by kernel_rfl) (by kernel_rfl) (by kernel_rfl) (fun _ _ _ h => h) (Or.inl ⟨by rfl, ?_⟩) hHeld ?_
            rotate_left
            · (intro w hSw; obtain ⟨s1, s2⟩ := hSw; clear s1; go_simp; try with_reducible rfl)
            try simp only [Act.put, List.getElem_toArray, List.getElem_cons_zero, List.getElem_cons_succ, List.setIfInBounds_toArray, List.set_cons_zero, List.set_cons_succ]
            refine wpAnyH_ready (rs := [3, 9]) (by kernel_rfl) (by simp) ?_
            refine AllReadyH.cons rfl (fun K hK => ?_) (AllReadyH.cons rfl (fun K hK => ?_) (AllReadyH.nil))
            · skip
              have nn : (wz.drew).heap.size = wz.heap.size := by simp
              have hA := heap_at nn (.cells #[.int .i64 x.id] 3)
              have fhA := hT.freshC; rw [nn] at fhA
              have hV12 := carry_alloc hV12 (.cells #[.int .i64 x.id] 3)
              have hT := hT.alloc (.cells #[.int .i64 x.id] 3)
              have bk := bk.trans ((Below.refl _ _).alloc (Nat.le_trans hKs bk.size) (.cells #[.int .i64 x.id] 3))
              clear nn
              go_simp
              refine hK.out _ _ (⟨cell_alloc hHeld.1 _, cell_alloc hHeld.2 _⟩) (fun hHeld => ?_)
              clear hK K
              try simp only [Act.put, List.getElem_toArray, List.getElem_cons_zero, List.getElem_cons_succ, List.setIfInBounds_toArray, List.set_cons_zero, List.set_cons_succ]
              refine wpAnyH_ready (rs := [4, 9]) (by kernel_rfl) (by simp) ?_
              refine AllReadyH.cons rfl (fun K hK => ?_) (AllReadyH.cons rfl (fun K hK => ?_) (AllReadyH.nil))
              · skip
                refine step_app eN _ (by rfl) _ _ (by rfl) KB (out.map (·.1)) (.slice pc out.length cc) (by rfl) hT.c hT.size x.id (wz.heap.size) #[.int .i64 x.id] (by rfl) hA (by rfl) (by simp only [List.length_map]; omega) (by simp only [List.length_map]; unfold maxLen; omega) ?_
                intro gc gcc v1 hown hgr hloc
                have bk := hT.swap.grow bk hgr
                have hHeld2 := (⟨cell_grown hHeld.1 hgr n11c, cell_under cY bk lY0⟩ : _ ∧ _)
                have hV12 := carry_row (by exact hV12) hgr n12c
                have hT := (hT.swap.push hown hgr hloc).swap
                clear hown hgr hloc hA
                try go_simp
                refine hK.out _ _ hHeld2 (fun hHeld => ?_)
                clear hK K
                try simp only [Act.put, List.getElem_toArray, List.getElem_cons_zero, List.getElem_cons_succ, List.setIfInBounds_toArray, List.set_cons_zero, List.set_cons_succ]
                refine wpAnyH_ready (rs := [9]) (by kernel_rfl) (by simp) ?_
                refine AllReadyH.cons rfl (fun K hK => ?_) (AllReadyH.nil)
                · skip
                  have nn : (v1).heap.size = v1.heap.size := by simp
                  have hB := heap_at nn (.cells #[.int .i64 b] 3)
                  have fhB := hT.freshC; rw [nn] at fhB
                  have hV12 := carry_alloc hV12 (.cells #[.int .i64 b] 3)
                  have hT := hT.alloc (.cells #[.int .i64 b] 3)
                  have bk := bk.trans ((Below.refl _ _).alloc (Nat.le_trans hKs bk.size) (.cells #[.int .i64 b] 3))
                  clear nn
                  go_simp
                  refine hK.out _ _ (⟨cell_alloc hHeld.1 _, cell_alloc hHeld.2 _⟩) (fun hHeld => ?_)
                  clear hK K
                  try simp only [Act.put, List.getElem_toArray, List.getElem_cons_zero, List.getElem_cons_succ, List.setIfInBounds_toArray, List.set_cons_zero, List.set_cons_succ]
                  refine wpAnyH_ready (rs := [10]) (by kernel_rfl) (by simp) ?_
                  refine AllReadyH.cons rfl (fun K hK => ?_) (AllReadyH.nil)
                  · skip
                    refine step_app eN _ (by rfl) _ _ (by rfl) KB (out.map (·.2)) (.slice po out.length co) (by rfl) hT.o hT.size b (v1.heap.size) #[.int .i64 b] (by rfl) hB (by rfl) (by simp only [List.length_map]; omega) (by simp only [List.length_map]; unfold maxLen; omega) ?_
                    intro go goc v2 hown hgr hloc
                    have bk := hT.grow bk hgr
                    have hHeld2 := (⟨cell_grown hHeld.1 hgr n11o, cell_under cY bk lY0⟩ : _ ∧ _)
                    have hV12 := carry_row (by exact hV12) hgr n12o
                    have hT := hT.push hown hgr hloc
                    clear hown hgr hloc hB
                    try go_simp
                    refine hK.out _ _ hHeld2 (fun hHeld => ?_)
                    clear hK K
                    try simp only [Act.put, List.getElem_toArray, List.getElem_cons_zero, List.getElem_cons_succ, List.setIfInBounds_toArray, List.set_cons_zero, List.set_cons_succ]
                    refine wpAnyH_take (i := 11) (v := ?_) rfl (by kernel_rfl) (by kernel_rfl) (by kernel_rfl) (fun _ _ _ h => h) (Or.inl ⟨by rfl, ?_⟩) hHeld ?_
                    rotate_left
                    · (intro w hSw; (try dsimp only at hSw); go_simp; try with_reducible rfl)
                    try simp only [Act.put, List.getElem_toArray, List.getElem_cons_zero, List.getElem_cons_succ, List.setIfInBounds_toArray, List.set_cons_zero, List.set_cons_succ]
                    refine wpAnyH_take (i := 12) (v := ?_) rfl (by kernel_rfl) (by kernel_rfl) (by kernel_rfl) (fun _ _ _ h => h) (Or.inl ⟨by rfl, ?_⟩) hHeld ?_
                    rotate_left
                    · (intro w hSw; (try dsimp only at hSw); go_simp; try with_reducible rfl)
                    try simp only [Act.put, List.getElem_toArray, List.getElem_cons_zero, List.getElem_cons_succ, List.setIfInBounds_toArray, List.set_cons_zero, List.set_cons_succ]
                    refine wpAnyH_done (by kernel_rfl) ?_ _
                    simp only [List.length_map] at hT
                    clear hHeld
                    obtain ⟨y0, y1, y2, _⟩ := cells_item hV12
                    have hM5 := hM.block (bk.block _ hbmK)
                    obtain ⟨w6, hU, hM6, hg6⟩ := hM5.drew.put (T := 102) k26 itv_inj Try.underlying102 (by have := HF.out.nle; unfold maxLen; omega) hkey (.slice (if cr = 1 then some a0 else some ⟨a0.block, a0.off + 1, none⟩) r.length (cr - 1))
                    have hU' : (Instr.mapUpdate 102 (.map (some w.heap.size)) (.agg #[.int .i64 x.k, .string x.t, .int .i64 0]) (.slice (if cr = 1 then some a0 else some ⟨a0.block, a0.off + 1, none⟩) r.length (cr - 1))).run Try.prog _ = .ok () w6 := hU
                    clear hU
                    go_wp2_with fail
                    go_region_o
                    go_wp2_with fail
                    go_roundw
                    case rel =>
                      have s5 := hT.size
                      have s6 := hg6.size
                      exact ⟨k + 1, n + 1, out ++ [(x.id, b)], _, by go_num, ⟨some ⟨gc, 0, none⟩, gcc, by simp⟩, ⟨some ⟨go, 0, none⟩, goc, by simp⟩, GRel2.take HF.out NB.out hlt HX.out HFF.out (by rw [List.map_append, List.map_append]; exact hT) bk hM6 ⟨hg6.os, hg6.tape, hg6.output, hg6.size, hg6.block⟩ ⟨_, _, rfl, by simp at r2; omega, by unfold maxLen; omega, ones_keep (ones_rest hrow hcr) (Nat.le_trans bk.size s6) (fun _ a ha => by
                        rw [rest_block ha]
                        exact (hg6.block _ (Nat.lt_of_lt_of_le lY0 s5) (fun e => hra0 (Option.some.inj e))).trans (bk.block _ lY0)), fun a ha => by
                        rw [rest_block ha]
                        exact ⟨lY0, hra0⟩⟩⟩
                    case measure => simp [intOf]; omega
              · skip
                have nn : ((wz.drew).alloc (.cells #[.int .i64 x.id] 3)).heap.size = wz.heap.size + 1 := by simp
                have hB := heap_at nn (.cells #[.int .i64 b] 3)
                have fhB := hT.freshC; rw [nn] at fhB
                have hV12 := carry_alloc hV12 (.cells #[.int .i64 b] 3)
                have hA := carry_alloc hA (.cells #[.int .i64 b] 3)
                have hT := hT.alloc (.cells #[.int .i64 b] 3)
                have bk := bk.trans ((Below.refl _ _).alloc (Nat.le_trans hKs bk.size) (.cells #[.int .i64 b] 3))
                clear nn
                go_simp
                refine hK.out _ _ (⟨cell_alloc hHeld.1 _, cell_alloc hHeld.2 _⟩) (fun hHeld => ?_)
                clear hK K
                try simp only [Act.put, List.getElem_toArray, List.getElem_cons_zero, List.getElem_cons_succ, List.setIfInBounds_toArray, List.set_cons_zero, List.set_cons_succ]
                refine wpAnyH_ready (rs := [4]) (by kernel_rfl) (by simp) ?_
                refine AllReadyH.cons rfl (fun K hK => ?_) (AllReadyH.nil)
                · skip
                  refine step_app eN _ (by rfl) _ _ (by rfl) KB (out.map (·.1)) (.slice pc out.length cc) (by rfl) hT.c hT.size x.id (wz.heap.size) #[.int .i64 x.id] (by rfl) hA (by rfl) (by simp only [List.length_map]; omega) (by simp only [List.length_map]; unfold maxLen; omega) ?_
                  intro gc gcc v3 hown hgr hloc
                  have bk := hT.swap.grow bk hgr
                  have hHeld2 := (⟨cell_grown hHeld.1 hgr n11c, cell_under cY bk lY0⟩ : _ ∧ _)
                  have hV12 := carry_row (by exact hV12) hgr n12c
                  have hB := carry_row (by exact hB) hgr fhB
                  have hT := (hT.swap.push hown hgr hloc).swap
                  clear hown hgr hloc hA
                  try go_simp
                  refine hK.out _ _ hHeld2 (fun hHeld => ?_)
                  clear hK K
                  try simp only [Act.put, List.getElem_toArray, List.getElem_cons_zero, List.getElem_cons_succ, List.setIfInBounds_toArray, List.set_cons_zero, List.set_cons_succ]
                  refine wpAnyH_ready (rs := [10]) (by kernel_rfl) (by simp) ?_
                  refine AllReadyH.cons rfl (fun K hK => ?_) (AllReadyH.nil)
                  · skip
                    refine step_app eN _ (by rfl) _ _ (by rfl) KB (out.map (·.2)) (.slice po out.length co) (by rfl) hT.o hT.size b (wz.heap.size + 1) #[.int .i64 b] (by rfl) hB (by rfl) (by simp only [List.length_map]; omega) (by simp only [List.length_map]; unfold maxLen; omega) ?_
                    intro go goc v4 hown hgr hloc
                    have bk := hT.grow bk hgr
                    have hHeld2 := (⟨cell_grown hHeld.1 hgr n11o, cell_under cY bk lY0⟩ : _ ∧ _)
                    have hV12 := carry_row (by exact hV12) hgr n12o
                    have hT := hT.push hown hgr hloc
                    clear hown hgr hloc hB
                    try go_simp
                    refine hK.out _ _ hHeld2 (fun hHeld => ?_)
                    clear hK K
                    try simp only [Act.put, List.getElem_toArray, List.getElem_cons_zero, List.getElem_cons_succ, List.setIfInBounds_toArray, List.set_cons_zero, List.set_cons_succ]
                    refine wpAnyH_take (i := 11) (v := ?_) rfl (by kernel_rfl) (by kernel_rfl) (by kernel_rfl) (fun _ _ _ h => h) (Or.inl ⟨by rfl, ?_⟩) hHeld ?_
                    rotate_left
                    · (intro w hSw; (try dsimp only at hSw); go_simp; try with_reducible rfl)
                    try simp only [Act.put, List.getElem_toArray, List.getElem_cons_zero, List.getElem_cons_succ, List.setIfInBounds_toArray, List.set_cons_zero, List.set_cons_succ]
                    refine wpAnyH_take (i := 12) (v := ?_) rfl (by kernel_rfl) (by kernel_rfl) (by kernel_rfl) (fun _ _ _ h => h) (Or.inl ⟨by rfl, ?_⟩) hHeld ?_
                    rotate_left
                    · (intro w hSw; (try dsimp only at hSw); go_simp; try with_reducible rfl)
                    try simp only [Act.put, List.getElem_toArray, List.getElem_cons_zero, List.getElem_cons_succ, List.setIfInBounds_toArray, List.set_cons_zero, List.set_cons_succ]
                    refine wpAnyH_done (by kernel_rfl) ?_ _
                    simp only [List.length_map] at hT
                    clear hHeld
                    obtain ⟨y0, y1, y2, _⟩ := cells_item hV12
                    have hM5 := hM.block (bk.block _ hbmK)
                    obtain ⟨w6, hU, hM6, hg6⟩ := hM5.drew.put (T := 102) k26 itv_inj Try.underlying102 (by have := HF.out.nle; unfold maxLen; omega) hkey (.slice (if cr = 1 then some a0 else some ⟨a0.block, a0.off + 1, none⟩) r.length (cr - 1))
                    have hU' : (Instr.mapUpdate 102 (.map (some w.heap.size)) (.agg #[.int .i64 x.k, .string x.t, .int .i64 0]) (.slice (if cr = 1 then some a0 else some ⟨a0.block, a0.off + 1, none⟩) r.length (cr - 1))).run Try.prog _ = .ok () w6 := hU
                    clear hU
                    go_wp2_with fail
                    go_region_o
                    go_wp2_with fail
                    go_roundw
                    case rel =>
                      have s5 := hT.size
                      have s6 := hg6.size
                      exact ⟨k + 1, n + 1, out ++ [(x.id, b)], _, by go_num, ⟨some ⟨gc, 0, none⟩, gcc, by simp⟩, ⟨some ⟨go, 0, none⟩, goc, by simp⟩, GRel2.take HF.out NB.out hlt HX.out HFF.out (by rw [List.map_append, List.map_append]; exact hT) bk hM6 ⟨hg6.os, hg6.tape, hg6.output, hg6.size, hg6.block⟩ ⟨_, _, rfl, by simp at r2; omega, by unfold maxLen; omega, ones_keep (ones_rest hrow hcr) (Nat.le_trans bk.size s6) (fun _ a ha => by
                        rw [rest_block ha]
                        exact (hg6.block _ (Nat.lt_of_lt_of_le lY0 s5) (fun e => hra0 (Option.some.inj e))).trans (bk.block _ lY0)), fun a ha => by
                        rw [rest_block ha]
                        exact ⟨lY0, hra0⟩⟩⟩
                    case measure => simp [intOf]; omega
            · skip
              have nn : (wz.drew).heap.size = wz.heap.size := by simp
              have hB := heap_at nn (.cells #[.int .i64 b] 3)
              have fhB := hT.freshC; rw [nn] at fhB
              have hV12 := carry_alloc hV12 (.cells #[.int .i64 b] 3)
              have hT := hT.alloc (.cells #[.int .i64 b] 3)
              have bk := bk.trans ((Below.refl _ _).alloc (Nat.le_trans hKs bk.size) (.cells #[.int .i64 b] 3))
              clear nn
              go_simp
              refine hK.out _ _ (⟨cell_alloc hHeld.1 _, cell_alloc hHeld.2 _⟩) (fun hHeld => ?_)
              clear hK K
              try simp only [Act.put, List.getElem_toArray, List.getElem_cons_zero, List.getElem_cons_succ, List.setIfInBounds_toArray, List.set_cons_zero, List.set_cons_succ]
              refine wpAnyH_ready (rs := [3]) (by kernel_rfl) (by simp) ?_
              refine AllReadyH.cons rfl (fun K hK => ?_) (AllReadyH.nil)
              · skip
                have nn : ((wz.drew).alloc (.cells #[.int .i64 b] 3)).heap.size = wz.heap.size + 1 := by simp
                have hA := heap_at nn (.cells #[.int .i64 x.id] 3)
                have fhA := hT.freshC; rw [nn] at fhA
                have hV12 := carry_alloc hV12 (.cells #[.int .i64 x.id] 3)
                have hB := carry_alloc hB (.cells #[.int .i64 x.id] 3)
                have hT := hT.alloc (.cells #[.int .i64 x.id] 3)
                have bk := bk.trans ((Below.refl _ _).alloc (Nat.le_trans hKs bk.size) (.cells #[.int .i64 x.id] 3))
                clear nn
                go_simp
                refine hK.out _ _ (⟨cell_alloc hHeld.1 _, cell_alloc hHeld.2 _⟩) (fun hHeld => ?_)
                clear hK K
                try simp only [Act.put, List.getElem_toArray, List.getElem_cons_zero, List.getElem_cons_succ, List.setIfInBounds_toArray, List.set_cons_zero, List.set_cons_succ]
                refine wpAnyH_ready (rs := [4]) (by kernel_rfl) (by simp) ?_
                refine AllReadyH.cons rfl (fun K hK => ?_) (AllReadyH.nil)
                · skip
                  refine step_app eN _ (by rfl) _ _ (by rfl) KB (out.map (·.1)) (.slice pc out.length cc) (by rfl) hT.c hT.size x.id (wz.heap.size + 1) #[.int .i64 x.id] (by rfl) hA (by rfl) (by simp only [List.length_map]; omega) (by simp only [List.length_map]; unfold maxLen; omega) ?_
                  intro gc gcc v5 hown hgr hloc
                  have bk := hT.swap.grow bk hgr
                  have hHeld2 := (⟨cell_grown hHeld.1 hgr n11c, cell_under cY bk lY0⟩ : _ ∧ _)
                  have hV12 := carry_row (by exact hV12) hgr n12c
                  have hB := carry_row (by exact hB) hgr fhB
                  have hT := (hT.swap.push hown hgr hloc).swap
                  clear hown hgr hloc hA
                  try go_simp
                  refine hK.out _ _ hHeld2 (fun hHeld => ?_)
                  clear hK K
                  try simp only [Act.put, List.getElem_toArray, List.getElem_cons_zero, List.getElem_cons_succ, List.setIfInBounds_toArray, List.set_cons_zero, List.set_cons_succ]
                  refine wpAnyH_ready (rs := [10]) (by kernel_rfl) (by simp) ?_
                  refine AllReadyH.cons rfl (fun K hK => ?_) (AllReadyH.nil)
                  · skip
                    refine step_app eN _ (by rfl) _ _ (by rfl) KB (out.map (·.2)) (.slice po out.length co) (by rfl) hT.o hT.size b (wz.heap.size) #[.int .i64 b] (by rfl) hB (by rfl) (by simp only [List.length_map]; omega) (by simp only [List.length_map]; unfold maxLen; omega) ?_
                    intro go goc v6 hown hgr hloc
                    have bk := hT.grow bk hgr
                    have hHeld2 := (⟨cell_grown hHeld.1 hgr n11o, cell_under cY bk lY0⟩ : _ ∧ _)
                    have hV12 := carry_row (by exact hV12) hgr n12o
                    have hT := hT.push hown hgr hloc
                    clear hown hgr hloc hB
                    try go_simp
                    refine hK.out _ _ hHeld2 (fun hHeld => ?_)
                    clear hK K
                    try simp only [Act.put, List.getElem_toArray, List.getElem_cons_zero, List.getElem_cons_succ, List.setIfInBounds_toArray, List.set_cons_zero, List.set_cons_succ]
                    refine wpAnyH_take (i := 11) (v := ?_) rfl (by kernel_rfl) (by kernel_rfl) (by kernel_rfl) (fun _ _ _ h => h) (Or.inl ⟨by rfl, ?_⟩) hHeld ?_
                    rotate_left
                    · (intro w hSw; (try dsimp only at hSw); go_simp; try with_reducible rfl)
                    try simp only [Act.put, List.getElem_toArray, List.getElem_cons_zero, List.getElem_cons_succ, List.setIfInBounds_toArray, List.set_cons_zero, List.set_cons_succ]
                    refine wpAnyH_take (i := 12) (v := ?_) rfl (by kernel_rfl) (by kernel_rfl) (by kernel_rfl) (fun _ _ _ h => h) (Or.inl ⟨by rfl, ?_⟩) hHeld ?_
                    rotate_left
                    · (intro w hSw; (try dsimp only at hSw); go_simp; try with_reducible rfl)
                    try simp only [Act.put, List.getElem_toArray, List.getElem_cons_zero, List.getElem_cons_succ, List.setIfInBounds_toArray, List.set_cons_zero, List.set_cons_succ]
                    refine wpAnyH_done (by kernel_rfl) ?_ _
                    simp only [List.length_map] at hT
                    clear hHeld
                    obtain ⟨y0, y1, y2, _⟩ := cells_item hV12
                    have hM5 := hM.block (bk.block _ hbmK)
                    obtain ⟨w6, hU, hM6, hg6⟩ := hM5.drew.put (T := 102) k26 itv_inj Try.underlying102 (by have := HF.out.nle; unfold maxLen; omega) hkey (.slice (if cr = 1 then some a0 else some ⟨a0.block, a0.off + 1, none⟩) r.length (cr - 1))
                    have hU' : (Instr.mapUpdate 102 (.map (some w.heap.size)) (.agg #[.int .i64 x.k, .string x.t, .int .i64 0]) (.slice (if cr = 1 then some a0 else some ⟨a0.block, a0.off + 1, none⟩) r.length (cr - 1))).run Try.prog _ = .ok () w6 := hU
                    clear hU
                    go_wp2_with fail
                    go_region_o
                    go_wp2_with fail
                    go_roundw
                    case rel =>
                      have s5 := hT.size
                      have s6 := hg6.size
                      exact ⟨k + 1, n + 1, out ++ [(x.id, b)], _, by go_num, ⟨some ⟨gc, 0, none⟩, gcc, by simp⟩, ⟨some ⟨go, 0, none⟩, goc, by simp⟩, GRel2.take HF.out NB.out hlt HX.out HFF.out (by rw [List.map_append, List.map_append]; exact hT) bk hM6 ⟨hg6.os, hg6.tape, hg6.output, hg6.size, hg6.block⟩ ⟨_, _, rfl, by simp at r2; omega, by unfold maxLen; omega, ones_keep (ones_rest hrow hcr) (Nat.le_trans bk.size s6) (fun _ a ha => by
                        rw [rest_block ha]
                        exact (hg6.block _ (Nat.lt_of_lt_of_le lY0 s5) (fun e => hra0 (Option.some.inj e))).trans (bk.block _ lY0)), fun a ha => by
                        rw [rest_block ha]
                        exact ⟨lY0, hra0⟩⟩⟩
                    case measure => simp [intOf]; omega
        · obtain rfl : k = A.length := by have := hF.le; omega
          have hout := hF.outE
          rw [List.take_length] at hout
          have hbw := hF.below
          have hT := hF.duo
          obtain ⟨p1, c1, hv1, a1, a2, a3⟩ := hT.c.ints
          obtain ⟨p2, c2, hv2, b1, b2, b3⟩ := hT.o.ints
          simp only [List.length_map] at hv1 hv2 a1 b1
          injection hv1 with e1 _ e3; injection hv2 with e4 _ e6
          subst e1 e3 e4 e6
          have HE : Hid (EndPr (A.foldl (pairR B) []) w (.returned (.tuple #[.slice pc out.length cc, .slice po out.length co])) wr) := Lib.hid (by rw [← hout]; exact ⟨_, _, _, _, rfl, a1, a2, a3, b1, b2, b3, hbw⟩)
          clear a1 a2 a3 b1 b2 b3 hbw hT hF hout
          go_wp2_with fail
          go_ret2
          exact HE.out
end Go.Proofs.Ytnfapcfajoboaaa
namespace Go.Proofs.Ytnfapcfajoboaaa
open Go.ChangeShapes Go.WideShapes Go.ChangeAt Go.RowKit
set_option linter.unusedVariables false
set_option linter.unusedSimpArgs false

theorem pair_nodup (a b : List It) : ((pairL a b).map (·.2)).Nodup := by
  unfold pairL
  refine list_rev (P := fun A => ((A.foldl (pairR (firsts b)) []).map (·.2)).Nodup) (by simp) (fun A x ih => ?_) (firsts a)
  rw [List.foldl_append]
  show ((pairR (firsts b) (A.foldl (pairR (firsts b)) []) x).map (·.2)).Nodup
  unfold pairR
  split
  · rename_i z hz
    have hp := List.find?_some hz
    rw [List.map_append, List.nodup_append]
    refine ⟨ih, by simp, fun u hu v hv => ?_⟩
    simp at hv
    subst hv
    intro e
    subst e
    unfold hasP at hp
    simp only [Bool.and_eq_true, decide_eq_true_eq] at hp
    exact hp.1.1 hu
  · exact ih

theorem tags_rho (f : Int → Int) (l : List It) : tagsL (l.map (rho f)) = (tagsL l).map (rho f) := by
  unfold tagsL
  rw [List.filter_map]
  congr 2
  funext x
  show isT (rho f x).k = isT x.k
  rw [rho_k]
theorem tag_tags {l : List It} {x : It} (h : x ∈ tagsL l) : isT x.k = true := (List.mem_filter.1 h).2
theorem fst_rho (f : Int → Int) (g : List It) : (∀ x ∈ g, isT x.k = true) → (∀ x ∈ g, ∀ y ∈ g, f x.id = f y.id → x.id = y.id) → fstL (g.map (rho f)) = (fstL g).map (rho f) := by
  refine list_rev (P := fun g => (∀ x ∈ g, isT x.k = true) → (∀ x ∈ g, ∀ y ∈ g, f x.id = f y.id → x.id = y.id) → fstL (g.map (rho f)) = (fstL g).map (rho f)) (fun _ _ => rfl) (fun g x ih ht hi => ?_) g
  have ih := ih (fun y hy => ht y (List.mem_append_left _ hy)) (fun y hy z hz => hi y (List.mem_append_left _ hy) z (List.mem_append_left _ hz))
  rw [List.map_append, List.map_cons, List.map_nil, fst_snoc, fst_snoc, ih]
  have hx := ht x (by simp)
  have hid : ∀ y ∈ fstL g, (rho f y).id = f y.id := fun y hy => rho_id f y (ht y (List.mem_append_left _ (fst_sub g y hy)))
  have e1 : (rho f x).id ∈ ((fstL g).map (rho f)).map It.id ↔ x.id ∈ (fstL g).map It.id := by
    rw [rho_id f x hx]
    simp only [List.mem_map]
    constructor
    · rintro ⟨z, ⟨y, hy, rfl⟩, e⟩
      rw [hid y hy] at e
      exact ⟨y, hy, hi y (List.mem_append_left _ (fst_sub g y hy)) x (by simp) e⟩
    · rintro ⟨y, hy, e⟩
      exact ⟨_, ⟨y, hy, rfl⟩, by rw [hid y hy, e]⟩
  unfold fstS
  by_cases h : x.id ∈ (fstL g).map It.id
  · rw [if_pos (e1.2 h), if_pos h]
  · rw [if_neg (fun e => h (e1.1 e)), if_neg h, List.map_append]; rfl
theorem firsts_rho (f : Int → Int) (l : List It) (h : Apart f l) : firsts (l.map (rho f)) = (firsts l).map (rho f) := by
  unfold firsts
  rw [tags_rho]
  refine fst_rho f _ (fun x hx => tag_tags hx) fun x hx y hy e => ?_
  have mx := List.mem_filter.1 hx; have my := List.mem_filter.1 hy
  exact h x mx.1 mx.2 y my.1 my.2 e
theorem pair_same (f : Int → Int) (A : List It) (ht : ∀ x ∈ A, isT x.k = true) (hn : (A.map fun x => f x.id).Nodup) : A.foldl (pairR (A.map (rho f))) [] = A.map fun x => (x.id, f x.id) := by
  have : ∀ k, k ≤ A.length → (A.take k).foldl (pairR (A.map (rho f))) [] = (A.take k).map fun x => (x.id, f x.id) := by
    intro k
    induction k with
    | zero => intro _; rfl
    | succ j ih =>
      intro hj
      have hj' : j < A.length := hj
      rw [pair_next _ A j hj', ih (by omega), List.take_succ_eq_append_getElem hj', List.map_append]
      have hu : ((A.take j).map fun x => (x.id, f x.id)).map (·.2) = (A.take j).map fun x => f x.id := by rw [List.map_map]; rfl
      have hfind : (A.map (rho f)).find? (hasP (((A.take j).map fun x => (x.id, f x.id)).map (·.2)) A[j]) = some (rho f A[j]) := by
        rw [hu]
        have e : A = A.take j ++ A[j] :: A.drop (j + 1) := by rw [← List.drop_eq_getElem_cons hj', List.take_append_drop]
        have hm : A.map (rho f) = (A.take j).map (rho f) ++ rho f A[j] :: (A.drop (j + 1)).map (rho f) := by
          have := congrArg (List.map (rho f)) e
          rw [List.map_append, List.map_cons] at this
          exact this
        rw [hm, List.find?_append]
        have h1 : ((A.take j).map (rho f)).find? (hasP ((A.take j).map fun x => f x.id) A[j]) = none := by
          rw [List.find?_eq_none]
          intro z hz
          obtain ⟨y, hy, rfl⟩ := List.mem_map.1 hz
          unfold hasP
          rw [rho_id f y (ht y (List.mem_of_mem_take hy)), decide_eq_false (not_not_intro (List.mem_map.2 ⟨y, hy, rfl⟩))]
          simp
        have h2 : hasP ((A.take j).map fun x => f x.id) A[j] (rho f A[j]) = true := by
          unfold hasP
          rw [rho_k, rho_t, rho_id f _ (ht _ (List.getElem_mem hj'))]
          have hni : f A[j].id ∉ (A.take j).map fun x => f x.id := by
            have hn2 := hn
            have hm2 : (A.map fun x => f x.id) = (A.take j).map (fun x => f x.id) ++ f A[j].id :: (A.drop (j + 1)).map fun x => f x.id := by
              have := congrArg (List.map fun x => f x.id) e
              rw [List.map_append, List.map_cons] at this
              exact this
            rw [hm2, List.nodup_append] at hn2
            intro hin
            exact hn2.2.2 _ hin _ (List.mem_cons_self ..) rfl
          rw [decide_eq_true hni]; simp
        rw [h1, List.find?_cons_of_pos h2]; rfl
      rw [pair_hit hfind, rho_id f _ (ht _ (List.getElem_mem hj'))]; rfl
  have h := this A.length (Nat.le_refl _)
  rwa [List.take_length] at h
/-- Pair of a fragment and its renumbered form: its numbers, and 1, 2, 3 and so on. -/
theorem pair_reno {l : List It} (h : errL [] l = 0) : (pairL l (reno l)).map (·.1) = numsL l ∧ (pairL l (reno l)).map (·.2) = upL (numsL l).length := by
  have hA : ∀ x ∈ firsts l, isT x.k = true := fun x hx => tag_tags (fst_sub _ x hx)
  have hn : ((firsts l).map fun x => phi (numsL l) x.id) = upL (numsL l).length := by
    have := map_phi (numsL l) (nums_nodup l)
    rw [← this]
    conv => rhs; arg 2; rw [← nums_firsts l]
    rw [List.map_map]; rfl
  have hnd : ((firsts l).map fun x => phi (numsL l) x.id).Nodup := by
    rw [hn]
    unfold upL List.Nodup
    rw [List.pairwise_map]
    exact (List.nodup_range (n := (numsL l).length)).imp (fun hne e => hne (by omega))
  have hp : pairL l (reno l) = (firsts l).map fun x => (x.id, phi (numsL l) x.id) := by
    unfold pairL
    rw [reno_valid h, firsts_rho _ _ (apart_phi l)]
    exact pair_same _ _ hA hnd
  rw [hp, List.map_map, List.map_map]
  exact ⟨nums_firsts l, hn⟩
end Go.Proofs.Ytnfapcfajoboaaa
namespace Go.Proofs.Ytnfapcfajoboaaa
open Go.ChangeShapes Go.WideShapes Go.ChangeAt Go.RowKit Go.Sort
set_option linter.unusedVariables false
set_option maxRecDepth 100000

theorem ones_pre {W : World} {a : Addr} {l : List Int} (h : Ones W (Value.int .i64) (some a) l) (k : Nat) : Ones W (Value.int .i64) (some a) (l.take k) := fun h0 => by
  obtain ⟨a', e, hlt, hc⟩ := h (by rw [List.length_take] at h0; omega)
  refine ⟨a', e, hlt, fun i hi => ?_⟩
  rw [List.getElem_take]
  exact hc i (by rw [List.length_take] at hi; omega)
theorem has_prefix {out : List (Int × Int)} (hnd : (out.map (·.2)).Nodup) (a : Addr) (c k : Nat) (hk : k < out.length) (hc : out.length ≤ c) (hm : c ≤ maxLen) (W : World) (h : Ones W (Value.int .i64) (some a) (out.map (·.2))) :
    Calls Try.prog 58 #[.slice (some a) k c, .int .i64 ((out.map (·.2))[k]'(by simpa using hk))] W fun e w' => e = .returned (.bool false) ∧ Below W.heap.size W w' := by
  have hl : ((out.map (·.2)).take k).length = k := by rw [List.length_take, List.length_map]; omega
  have hk2 : k < (out.map (·.2)).length := by simpa using hk
  have hno : (out.map (·.2))[k] ∉ (out.map (·.2)).take k := by
    intro hin
    have e : out.map (·.2) = (out.map (·.2)).take k ++ (out.map (·.2))[k] :: (out.map (·.2)).drop (k + 1) := by rw [← List.drop_eq_getElem_cons hk2, List.take_append_drop]
    rw [e, List.nodup_append] at hnd
    exact hnd.2.2 _ hin _ (List.mem_cons_self ..) rfl
  have := has_any (some a) c ((out.map (·.2)).take k) ((out.map (·.2))[k]) W (ones_pre h k) (by omega) hm
  rw [hl, decide_eq_false hno] at this
  exact this.mono fun _ _ ⟨h1, h2⟩ => ⟨h1, h2 ▸ Below.refl _ _⟩
/-- Pairs that are numbers and 1, 2, 3 and so on. -/
def EndPn (nn : List Int) (w : World) (e : Ending) (w' : World) : Prop := ∃ p1 c1 p2 c2, e = .returned (.tuple #[.slice p1 nn.length c1, .slice p2 nn.length c2]) ∧
  nn.length ≤ c1 ∧ c1 ≤ maxLen ∧ Ones w' (Value.int .i64) p1 nn ∧ nn.length ≤ c2 ∧ c2 ≤ maxLen ∧ Ones w' (Value.int .i64) p2 (upL nn.length) ∧ Below w.heap.size w w'
theorem EndPr.nums {out : List (Int × Int)} {nn : List Int} {w w' : World} {e : Ending} (h : EndPr out w e w') (h1 : out.map (·.1) = nn) (h2 : out.map (·.2) = upL nn.length) : EndPn nn w e w' := by
  obtain ⟨p1, c1, p2, c2, he, a1, a2, a3, b1, b2, b3, hb⟩ := h
  have hl : nn.length = out.length := by rw [← h1]; simp
  rw [h1] at a3; rw [h2] at b3
  rw [← hl] at he a1 b1
  exact ⟨p1, c1, p2, c2, he, a1, a2, a3, b1, b2, b3, hb⟩

set_option maxHeartbeats 3200000 in
theorem pairs_few (p : Option Addr) (c : Nat) (f : List It) (q : Option Addr) (d : Nat) (g : List It) (r : Option Addr) (e : Nat) (l : List Int) (s : Option Addr) (h : Nat) (m : List Int) (w : World)
    (rf : Its w p f) (of : Oks f) (nf : f.length ≤ c) (mf : c ≤ maxLen)
    (rg : Its w q g) (og : Oks g) (ng : g.length ≤ d) (mg : d ≤ maxLen)
    (rl : Ones w (Value.int .i64) r l) (ol : ∀ i (h : i < l.length), (Lit.int .i64 (l[i]'h)).wf = true) (nl : l.length ≤ e) (ml : e ≤ maxLen)
    (rm : Ones w (Value.int .i64) s m) (om : ∀ i (h : i < m.length), (Lit.int .i64 (m[i]'h)).wf = true) (nm : m.length ≤ h) (mm : h ≤ maxLen)
    (ll : l.length ≤ 100)
    (lm : m.length ≤ 100)
    (hf : Calls Try.prog 22 #[.slice p f.length c] w fun e w' => e = .returned (.bool true) ∧ w = w') (sf : Sm 1 f)
    (hg : Calls Try.prog 22 #[.slice q g.length d] w fun e w' => e = .returned (.bool true) ∧ w = w') (sg : Sm 1 g) :
    Calls Try.prog 15 #[.slice p f.length c, .slice q g.length d, .slice r l.length e, .slice s m.length h] w fun e w' => e = .returned (.bool true) ∧ Below w.heap.size w w' := by
  have f1 := sf.len; have f2 := sg.len
  have pa := fun W i j => pair_any p q c d f g W i j of og nf ng mf mg (by omega) (by omega)
  have ra := fun W i j => rpair_any p q c d f g W i j nf ng mf mg (by omega) (by omega)
  unfold EndPr at pa ra
  have hnd := pair_nodup f g
  generalize pairL f g = out at *
  have SC0 := fun W x x' y y' i i' a a' m m' => sameints_any x x' y y' (out.map (·.1)) (out.map (·.1)) W i i' a a' m m'
  have SD0 := fun W x x' y y' i i' a a' m m' => sameints_any x x' y y' (out.map (·.2)) (out.map (·.2)) W i i' a a' m m'
  rw [decide_eq_true rfl] at SC0 SD0
  simp only [List.length_map] at SC0 SD0
  have hh := fun a c k hk ha hc W i => has_prefix (out := out) hnd a c k hk ha hc W i
  have m1 := fun W i => made_f r e l true false W i ol nl ml
  have gok := mk_ok l true false
  have g1 := gok.len; have g2 := gok.txt
  have go := oks_valid gok.e (by omega)
  obtain ⟨r1l, r1t, r1i, r1v, r1p, r1s, r1e⟩ := reno_ok gok
  have ro := oks_valid r1e (by omega)
  have hle := nums_le (mk l true false)
  have hwf := nums_wf (mk l true false) go
  obtain ⟨q1, q2⟩ := pair_reno gok.e
  unfold EndF at m1
  have k1 : ∀ W x y, Its W x (mk l true false) → _ → _ → Calls Try.prog 40 #[.slice x (mk l true false).length y] W (EndF2 (reno (mk l true false)) W) := fun W x y i a m => renumber_any x y (mk l true false) W i go a m (by omega) (by omega)
  have pb := fun W x y x' y' i j a a' m m' => (pair_any x x' y y' (mk l true false) (reno (mk l true false)) W i j go ro a a' m m' (by omega) (by omega)).mono fun _ _ h => EndPr.nums h q1 q2
  have n2 := fun W x y i a m => (numbers_any x y (mk l true false) W i go a m (by omega)).mono fun _ _ h => EndN.f h
  have rn : ∀ W x y u v u' v', Its W x (mk l true false) → _ → _ → _ → _ → _ → _ → _ → _ → Calls Try.prog 54 #[.slice x (mk l true false).length y, .slice u (numsL (mk l true false)).length v, .slice u' (upL (numsL (mk l true false)).length).length v'] W (EndF2 (reno (mk l true false)) W) := fun W x y u v u' v' i j j' a b a1 b1 a2 b2 => rename_f x u u' y v v' (mk l true false) (numsL (mk l true false)) (upL (numsL (mk l true false)).length) W i j j' go hwf a b a1 b1 a2 b2 (by omega) (by omega) (by omega)
  have sn := fun W x x' y y' i i' a a' m m' => sameints_any x x' y y' (numsL (mk l true false)) (numsL (mk l true false)) W i i' a a' m m'
  rw [decide_eq_true rfl] at sn
  simp only [upL_len] at rn
  have qq := fun W x x' y y' i i' a a' m m' => rsame_any x x' y y' (reno (mk l true false)) (reno (mk l true false)) W i i' a a' m m'
  rw [decide_eq_true rfl] at qq
  unfold EndF2 at k1 rn
  unfold EndNF at n2
  unfold EndPn at pb
  have mixed : Try.prog.follows .mixedOrders = true := by kernel_rfl
  clear hle hwf q1 q2 r1v r1p r1s r1e r1i ro go gok
  generalize reno (mk l true false) = R at *
  generalize numsL (mk l true false) = NN at *
  generalize upL NN.length = U at *
  generalize mk l true false = G at *
  have PA := Lib.hid pa; have RA := Lib.hid ra; have SC := Lib.hid SC0; have SD := Lib.hid SD0; have HH := Lib.hid hh; have M1 := Lib.hid m1; have K1 := Lib.hid k1; have PB := Lib.hid pb; have N2 := Lib.hid n2; have RN := Lib.hid rn; have SN := Lib.hid sn; have Q1 := Lib.hid qq
  clear pa ra SC0 SD0 hh m1 k1 pb n2 rn sn qq hnd f1 f2 g1 g2 r1l r1t ol of og
  have ql : decide (100 < l.length) = false := decide_eq_false (by omega)
  have qm : decide (100 < m.length) = false := decide_eq_false (by omega)
  have Hf := Lib.hid hf
  have Hg := Lib.hid hg
  clear hf sf hg sg
  go_enter Try.func15, Try.ntmps15
  go_wp2_with fail
  refine (Hf.out).mono ?_; rintro e w0 ⟨rfl, rfl⟩
  go_wp2_with fail
  refine (Hg.out).mono ?_; rintro e w0 ⟨rfl, rfl⟩
  go_wp2_with fail
  refine (PA.out _ rf rg).mono ?_; rintro e w1 ⟨p1, c1, p2, c2, rfl, a1, b1, i1, a2, b2, i2, hb⟩
  have rf := rf.call hb; have rg := rg.call hb; have rl := rl.call hb; have bl := hb
  go_wp2_with fail
  refine (RA.out _ rf rg).mono ?_; rintro e w2 ⟨p3, c3, p4, c4, rfl, a3, b3, i3, a4, b4, i4, hb⟩
  have rl := rl.call hb; have i1 := i1.call hb; have i2 := i2.call hb; have bl := BelowOn bl hb
  go_wp2_with fail
  refine (SC.out _ _ _ _ _ i1 i3 a1 a3 b1 b3).mono ?_; rintro e w3 ⟨rfl, hb⟩
  have rl := rl.call hb; have i2 := i2.call hb; have i4 := i4.call hb; have bl := BelowOn bl hb
  go_wp2_with fail
  refine (SD.out _ _ _ _ _ i2 i4 a2 a4 b2 b4).mono ?_; rintro e w4 ⟨rfl, hb⟩
  have rl := rl.call hb; have i2 := i2.call hb; have bl := BelowOn bl hb
  unfold maxLen at b2
  go_wp2_with fail
  go_loopw [67] (fun i wr => ∃ k : Nat, k ≤ out.length ∧ i = .int .i64 k ∧ Below w4.heap.size w4 wr) (fun i _ => out.length - (intOf i).toNat)
  case atStart => exact ⟨0, Nat.zero_le _, rfl, Below.refl _ _⟩
  case round =>
    obtain ⟨k, hk, rfl, hb⟩ := hrel
    by_cases hlt : k < out.length
    · obtain ⟨a0, rfl, ha0, cc0⟩ := one_row (i2.call hb) k (by simpa using hlt)
      have cH := fun d os => Calls.regrown_of (HH.out a0 c2 k hlt a2 b2 _ ((i2.call hb).call (below_regrown wr d os)))
      have k0 := cell_regrown cc0
      generalize (out.map (·.2))[k]'(by simpa using hlt) = y at *
      have h1 : (k : Int) ≤ (c2 : Int) := by omega
      have h2 : (0 : Int) ≤ (k : Int) := by omega
      clear cc0
      go_wp2_with fail
      refine wp_region_quiet_below (by assumption) (by kernel_rfl) ?_
      repeat (quiet_step (exact cH _ _))
      refine wpQuiet_nil ?_
      intro _ hw'
      obtain ⟨⟨dq, osq⟩, hw''⟩ := hw'
      subst hw''
      have hB2 := BelowOn hb (below_regrown wr dq osq)
      go_wp2_with fail
      go_roundw
      case rel => exact ⟨k + 1, hlt, by go_num, hB2⟩
      case measure => simp [intOf]; omega
    · obtain rfl : k = out.length := by omega
      have rl := rl.call hb; have bl := BelowOn bl hb
      go_wp2_with fail
      refine (M1.out _ rl).mono ?_; rintro e w5 ⟨p5, c5, rfl, a5, b5, i5, hb⟩
      have bl := BelowOn bl hb
      go_wp2_with fail
      refine (K1.out _ _ _ i5 a5 b5).mono ?_; rintro e w6 ⟨p6, c6, rfl, a6, b6, i6, hb⟩
      have i5 := i5.call hb; have bl := BelowOn bl hb
      go_wp2_with fail
      refine (PB.out _ _ _ _ _ i5 i6 a5 a6 b5 b6).mono ?_; rintro e w7 ⟨p7, c7, p8, c8, rfl, a7, b7, i7, a8, b8, i8, hb⟩
      have i5 := i5.call hb; have bl := BelowOn bl hb
      go_wp2_with fail
      refine (N2.out _ _ _ i5 a5 b5).mono ?_; rintro e w8 ⟨p9, c9, rfl, a9, b9, i9, hb⟩
      have i5 := i5.call hb; have i7 := i7.call hb; have i8 := i8.call hb; have bl := BelowOn bl hb
      go_wp2_with fail
      refine (SN.out _ _ _ _ _ i7 i9 a7 a9 b7 b9).mono ?_; rintro e w9 ⟨rfl, hb⟩
      have i5 := i5.call hb; have i7 := i7.call hb; have i8 := i8.call hb; have bl := BelowOn bl hb
      go_wp2_with fail
      refine (RN.out _ _ _ _ _ _ _ i5 i7 i8 a5 b5 a7 b7 a8 b8).mono ?_; rintro e w10 ⟨p10, c10, rfl, a10, b10, i10, hb⟩
      have i5 := i5.call hb; have bl := BelowOn bl hb
      go_wp2_with fail
      refine (K1.out _ _ _ i5 a5 b5).mono ?_; rintro e w11 ⟨p11, c11, rfl, a11, b11, i11, hb⟩
      have i10 := i10.call hb; have bl := BelowOn bl hb
      go_wp2_with fail
      refine (Q1.out _ _ _ _ _ i10 i11 a10 a11 b10 b11).mono ?_; rintro e w12 ⟨rfl, hb⟩
      have bl := BelowOn bl hb
      go_wp2_with fail
      refine (known_any _).mono ?_; rintro e w13 ⟨rfl, hb⟩
      have bl := BelowOn bl hb
      go_wp2_with fail
      go_ret
      exact ⟨rfl, bl⟩

set_option maxHeartbeats 3200000 in
theorem pairs_any (p : Option Addr) (c : Nat) (f : List It) (q : Option Addr) (d : Nat) (g : List It) (r : Option Addr) (e : Nat) (l : List Int) (s : Option Addr) (h : Nat) (m : List Int) (w : World)
    (rf : Its w p f) (of : Oks f) (nf : f.length ≤ c) (mf : c ≤ maxLen)
    (rg : Its w q g) (og : Oks g) (ng : g.length ≤ d) (mg : d ≤ maxLen)
    (rl : Ones w (Value.int .i64) r l) (ol : ∀ i (h : i < l.length), (Lit.int .i64 (l[i]'h)).wf = true) (nl : l.length ≤ e) (ml : e ≤ maxLen)
    (rm : Ones w (Value.int .i64) s m) (om : ∀ i (h : i < m.length), (Lit.int .i64 (m[i]'h)).wf = true) (nm : m.length ≤ h) (mm : h ≤ maxLen) :
    Calls Try.prog 15 #[.slice p f.length c, .slice q g.length d, .slice r l.length e, .slice s m.length h] w fun e w' => e = .returned (.bool true) ∧ Below w.heap.size w w' := by
  have hf := few_any p c f w rf of nf mf
  have hg := few_any q d g w rg og ng mg
  cases ef : fewB f
  · rw [ef] at hf
    have Hf := Lib.hid hf
    clear hf hg ef
    go_enter Try.func15, Try.ntmps15
    go_wp2_with fail
    refine (Hf.out).mono ?_; rintro e w0 ⟨rfl, rfl⟩
    go_wp2_with fail
    refine (known_any _).mono ?_; rintro e w17 ⟨rfl, hb⟩
    go_wp2_with fail
    go_ret
    exact ⟨rfl, hb⟩
  rw [ef] at hf
  cases eg : fewB g
  · rw [eg] at hg
    have Hf := Lib.hid hf
    have Hg := Lib.hid hg
    clear hf hg ef eg
    go_enter Try.func15, Try.ntmps15
    go_wp2_with fail
    refine (Hf.out).mono ?_; rintro e w0 ⟨rfl, rfl⟩
    go_wp2_with fail
    refine (Hg.out).mono ?_; rintro e w0 ⟨rfl, rfl⟩
    go_wp2_with fail
    refine (known_any _).mono ?_; rintro e w17 ⟨rfl, hb⟩
    go_wp2_with fail
    go_ret
    exact ⟨rfl, hb⟩
  rw [eg] at hg
  by_cases ll : l.length ≤ 100
  case neg =>
    have zl : 100 < l.length := by omega
    have Hf := Lib.hid hf
    have Hg := Lib.hid hg
    clear hf hg  ef eg ll
    go_enter Try.func15, Try.ntmps15
    go_wp2_with fail
    refine (Hf.out).mono ?_; rintro e w0 ⟨rfl, rfl⟩
    go_wp2_with fail
    refine (Hg.out).mono ?_; rintro e w0 ⟨rfl, rfl⟩
    go_wp2_with fail
    refine (known_any _).mono ?_; rintro e w17 ⟨rfl, hb⟩
    go_wp2_with fail
    go_ret
    exact ⟨rfl, hb⟩
  by_cases lm : m.length ≤ 100
  case neg =>
    have zm : 100 < m.length := by omega
    have Hf := Lib.hid hf
    have Hg := Lib.hid hg
    clear hf hg  ef eg lm
    go_enter Try.func15, Try.ntmps15
    go_wp2_with fail
    refine (Hf.out).mono ?_; rintro e w0 ⟨rfl, rfl⟩
    go_wp2_with fail
    refine (Hg.out).mono ?_; rintro e w0 ⟨rfl, rfl⟩
    go_wp2_with fail
    refine (known_any _).mono ?_; rintro e w17 ⟨rfl, hb⟩
    go_wp2_with fail
    go_ret
    exact ⟨rfl, hb⟩
  exact pairs_few p c f q d g r e l s h m w rf of nf mf rg og ng mg rl ol nl ml rm om nm mm ll lm hf (Sm.of ef) hg (Sm.of eg)
end Go.Proofs.Ytnfapcfajoboaaa
