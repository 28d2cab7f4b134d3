/- Maps from items: the key's law, an entry, and what is stored into it. How often each tag occurs: tally. maps.Equal of two maps from items to numbers. slices.Equal of numbers and of strings. Plain mathematics of Compatible, and of Target. Compatible, as the program says it. Compatible, as the reference says it. Target as a law calls it. -/
import Derived.Test.YtnfapcfajoboaaaMap
import Derived.Test.YtnfapcfajoboaaaSam
import Derived.DeepKeys4
import Derived.WideKeyEntry
import Derived.Test.YtnfapcfajoboaaaFst
import Derived.Lib.SlMapEqual
import Derived.WalkKit
import Derived.Maps.Ext
import Derived.Maps.RangeWalk
import Derived.Laws.IdiomRangeMap
import Derived.Deep.LoopGhost
import Derived.Test.YtnfapcfajoboaaaPrt
import Derived.Test.YtnfapcfajoboaaaTar
import Derived.Test.YtnfapcfajoboaaaSlt
import Derived.Test.YtnfapcfajoboaaaMad
import Derived.Lib.QuietBelow
namespace Go.Proofs.Ytnfapcfajoboaaa
open Go.ChangeShapes Go.WideShapes Go.ChangeAt Go.RowKit Go.Maps
set_option linter.unusedVariables false
set_option linter.unusedSectionVars false
set_option maxRecDepth 100000

theorem laidOut : laidOutB Try.prog = true := by kernel_rfl
theorem row26 : (26 : TypeId) < Try.prog.types.size := of_decide_eq_true (by kernel_rfl)
theorem wide26 : (match Try.prog.underlying 26 with | some (.array _ _) | some (.struct _) => true | _ => false) = true := by kernel_rfl
theorem law26 : WideMaps.KeyLaw Try.prog 26 := deep_law_laid laidOut (m := 2) (by omega) row26 (by kernel_rfl) wide26
theorem k26 : Keyed Try.prog 26 := Keyed.of_law law26
theorem itv_inj (a b : It) (h : a.v = b.v) : a = b := by
  unfold It.v at h
  injection h with h
  simp only [Array.mk.injEq, List.cons.injEq, Value.int.injEq, Value.string.injEq, true_and, and_true] at h
  exact It.ext' h.1 h.2.1 h.2.2
theorem deep26 : Try.prog.keyType 26 = true := by kernel_rfl
theorem key_item (x : It) (hk : (Lit.int .i64 x.k).wf = true) (ht : x.t.size ≤ maxLen) (hi : (Lit.int .i64 x.id).wf = true) : ∃ l, keyOf Try.prog 26 x.v = some l := by
  obtain ⟨m, hm⟩ : ∃ m, Try.prog.types.size + 1 = m + 1 + 1 := ⟨Try.prog.types.size - 1, by have h : 26 < Try.prog.types.size := row26; omega⟩
  obtain ⟨f0, f1, f2, hu, t0, t1, t2, o0, o1, o2⟩ := und26
  have hf : x.v.formed Try.prog 26 = true := by unfold It.v; simp [Value.formed, hu, cells26]
  have hn : (#[f0, f1, f2] : Array Field).all (fun f => f.name != "_") = true := by
    have h := deep26
    unfold Program.keyType at h
    rw [hm, Program.keyTypeAt, hu] at h
    simp only [Bool.and_eq_true] at h
    have h1 := h.1.1
    rw [Array.all_eq_true_iff_forall_mem] at h1 ⊢
    intro f hf
    have := h1 f hf
    simp only [Bool.and_eq_true] at this
    exact this.1
  have hc : x.v.cells.toList = [.int .i64 x.k, .string x.t, .int .i64 x.id] := rfl
  have hl : ∃ ls, Try.prog.keyLits (Try.prog.types.size + 1) 26 [.int .i64 x.k, .string x.t, .int .i64 x.id] = some ls := by
    rw [hm]
    unfold Program.keyLits
    simp only [hu, cells26, hn]
    refine ⟨[.int .i64 x.k, .string x.t.data.toList, .int .i64 x.id], ?_⟩
    rw [if_pos ⟨rfl, trivial⟩]
    have e0 : Try.prog.keyLits (m + 1) 3 [.int .i64 x.k] = some [.int .i64 x.k] := by unfold Program.keyLits; simp [Try.underlying3, hk]
    have e1 : Try.prog.keyLits (m + 1) 9 [.string x.t] = some [.string x.t.data.toList] := by unfold Program.keyLits; simp [Try.underlying9, ht]
    have e2 : Try.prog.keyLits (m + 1) 3 [.int .i64 x.id] = some [.int .i64 x.id] := by unfold Program.keyLits; simp [Try.underlying3, hi]
    simp [t0, t1, t2, o0, o1, o2, cells3, cells9, e0, e1, e2]
  obtain ⟨ls, hls⟩ := hl
  unfold keyOf
  rw [hu]
  simp only [deep26, hf, Bool.and_self, if_true]
  rw [hc, hls]
  exact ⟨_, rfl⟩

section
variable {β : Type} {et T : TypeId} {enc : β → Value}
open Go.ChangeMaps (setBlock heap_setBlock_same heap_setBlock_other)
/-- An entry is looked for, or laid; and what is stored into it afterwards. -/
theorem MapAt.entry {w : World} {b n : Nat} {f : It → Option β} (h : MapAt 26 It.v enc w b n f) (ht : Try.prog.underlying T = some (.map 26 et)) (hn : n < maxLen) (z : β) (hz : ∀ u : World, (zeroValue et).run Try.prog u = .ok (enc z) u)
    {k : It} {l : Lit} (hkey : keyOf Try.prog 26 k.v = some l) : ∃ (st : Nat) (w1 : World) (f1 : It → Option β), (Instr.mapEntry T (.map (some b)) k.v).run Try.prog w = .ok (.tuple #[pickE enc (enc z) (f k), goInt st]) w1 ∧ w.grownBy w1 (some b) ∧ w1.heap.size = w.heap.size ∧
      MapAt 26 It.v enc w1 b (n + 1) f1 ∧ pickE enc (enc z) (f1 k) = pickE enc (enc z) (f k) ∧
      ∀ (w2 : World) (v : β), w2.heap[b]? = w1.heap[b]? → ∃ w3, (Instr.entryStore T (.map (some b)) (goInt st) (enc v)).run Try.prog w2 = .ok () w3 ∧ MapAt 26 It.v enc w3 b (n + 1) (fun k' => if k' = k then some v else f k') ∧ w2.grownBy w3 (some b) ∧ w3.heap.size = w2.heap.size := by
  have hlook := h.look (T := T) k26 ht (hz w) hkey
  have hput := h.put k26 itv_inj ht hn hkey
  obtain ⟨D, ⟨es, clock, hb, F, h2⟩, r⟩ := id h
  have hbl : b < w.heap.size := h.lt
  obtain ⟨v0, st, es1, clock1, hrun, hv0, hst⟩ := WideElems.entry_then_store law26 ht hz hb F hkey
  have hbl2 : ∀ w2 : World, w2.heap[b]? = (setBlock w b (.map es1 clock1)).heap[b]? → w2.heap[b]? = some (.map es1 clock1) ∧ b < w2.heap.size := fun w2 e => by
    rw [heap_setBlock_same hb] at e
    refine ⟨e, ?_⟩
    rcases Nat.lt_or_ge b w2.heap.size with hlt | hge
    · exact hlt
    · rw [Array.getElem?_eq_none hge] at e; cases e
  have grow : ∀ (u : World) (o : Obj) (es : Array MapEntry) (c : Nat), u.heap[b]? = some (.map es c) → u.grownBy (setBlock u b o) (some b) := fun u o es c hu => ⟨rfl, rfl, rfl, by simp [setBlock], fun i hi hne => heap_setBlock_other hu o (fun e => hne (by rw [e]))⟩
  have store : ∀ (w2 : World) (v : β), w2.heap[b]? = (setBlock w b (.map es1 clock1)).heap[b]? → ∃ w3, (Instr.entryStore T (.map (some b)) (goInt st) (enc v)).run Try.prog w2 = .ok () w3 ∧ MapAt 26 It.v enc w3 b (n + 1) (fun k' => if k' = k then some v else f k') ∧ w2.grownBy w3 (some b) ∧ w3.heap.size = w2.heap.size := fun w2 v e => by
    obtain ⟨e1, hlt⟩ := hbl2 w2 e
    obtain ⟨es', clock', hr1, hr2⟩ := hst w2 (enc v) e1
    obtain ⟨w', hp1, hp2, _⟩ := hput v
    rw [hr2] at hp1
    replace hp1 := (Result.ok.inj hp1).2
    refine ⟨_, hr1, ?_, grow _ _ _ _ e1, by simp [setBlock]⟩
    rw [← hp1] at hp2
    exact hp2.block (by rw [heap_setBlock_same hb, heap_setBlock_same e1])
  -- the world behind the entry
  rcases law26.find w hkey es.toList F.keys with ⟨h3, h4⟩ | ⟨j, e0, h3, h4, h5⟩
  · -- no entry: the zero value is laid
    have hz0 : pickE enc (enc z) (f k) = enc z := by
      have : (Instr.lookup T (.map (some b)) k.v false).run Try.prog w = .ok (enc z) w := by
        simp [Instr.lookup, run_underlying ht, MapKept.run_getObj_map hb, law26.check w _ hkey, h3, hz, Result.andThen]
      rw [this] at hlook
      exact (Result.ok.inj hlook).1.symm
    obtain ⟨w', hp1, hp2, hp3⟩ := hput z
    have e1 : (Instr.mapEntry T (.map (some b)) k.v).run Try.prog w = .ok (.tuple #[enc z, goInt clock]) w' := by
      have e2 : (Instr.mapUpdate T (.map (some b)) k.v (enc z)).run Try.prog w = .ok () (setBlock w b (.map (es.push ⟨k.v, enc z, clock⟩) (clock + 1))) := by
        simp [Instr.mapUpdate, run_underlying ht, MapKept.run_getObj_map hb, law26.check w false hkey, h3, MapKept.run_setObj_map _ hb, Result.andThen, setBlock]
      rw [e2] at hp1
      replace hp1 := (Result.ok.inj hp1).2
      rw [← hp1]
      simp [Instr.mapEntry, run_underlying ht, MapKept.run_getObj_map hb, law26.check w false hkey, h3, hz, MapKept.run_setObj_map _ hb, Result.andThen, setBlock]
    rw [e1] at hrun
    obtain ⟨hr, hw⟩ := Result.ok.inj hrun
    refine ⟨st, w', _, ?_, hp3, by rw [hw]; simp [setBlock], hp2, by rw [hz0]; simp [pickE], fun w2 v e => store w2 v (by rw [e, hw])⟩
    rw [hz0, e1]
    have : goInt clock = goInt st := by
      injection hr with hr
      simp only [Array.mk.injEq, List.cons.injEq, and_true] at hr
      exact hr.2
    rw [this]
  · have hj : es[j]? = some e0 := by simpa using h4
    have hl0 : pickE enc (enc z) (f k) = e0.val := by
      have : (Instr.lookup T (.map (some b)) k.v false).run Try.prog w = .ok e0.val w := by
        simp [Instr.lookup, run_underlying ht, MapKept.run_getObj_map hb, law26.check w _ hkey, h3, Result.andThen]
      rw [this] at hlook
      exact (Result.ok.inj hlook).1.symm
    have hsame : es.modify j (fun e => { e with key := k.v }) = es := by
      apply Array.ext'
      rw [Array.toList_modify, ChangeMaps.modify_eq_set _ _ _ _ h4]
      have : ({ e0 with key := k.v } : MapEntry) = e0 := by rw [← h5]
      rw [this]
      exact WideElems.set_self _ _ _ h4
    have e1 : (Instr.mapEntry T (.map (some b)) k.v).run Try.prog w = .ok (.tuple #[e0.val, goInt e0.born]) (setBlock w b (.map es clock)) := by
      simp [Instr.mapEntry, run_underlying ht, MapKept.run_getObj_map hb, law26.check w false hkey, h3, hj, h5, law26.stays w hkey, hsame, MapKept.run_setObj_map _ hb, Result.andThen, setBlock]
    have hrun0 := hrun
    rw [e1] at hrun
    obtain ⟨hr, hw⟩ := Result.ok.inj hrun
    refine ⟨st, _, f, ?_, grow w _ _ _ hb, by simp [setBlock], ?_, rfl, store⟩
    · rw [hl0, hrun0]
      have : e0.val = v0 := by
        injection hr with hr
        simp only [Array.mk.injEq, List.cons.injEq, and_true] at hr
        exact hr.1
      rw [this]
    · rw [← hw]
      exact (h.mono (Nat.le_succ n)).block (by rw [heap_setBlock_same hb, hb])
end
end Go.Proofs.Ytnfapcfajoboaaa
namespace Go.Proofs.Ytnfapcfajoboaaa
open Go.ChangeShapes Go.WideShapes Go.ChangeAt Go.RowKit Go.Maps
set_option linter.unusedVariables false
set_option linter.unusedSimpArgs false
set_option maxRecDepth 100000

/-- How often a list has an item, if it has it. -/
def talF (l : List It) (x : It) : Option Int := if x ∈ l then some (l.count x : Int) else none
def numOf : Option Int → Int
  | some n => n
  | none => 0
theorem tal_nil (x : It) : talF [] x = none := if_neg (by simp)
theorem tal_next (l : List It) (x : It) : ∀ y, (if y = x then some (numOf (talF l x) + 1) else talF l y) = talF (l ++ [x]) y := fun y => by
  unfold talF
  by_cases h : y = x
  · subst h
    rw [if_pos rfl, if_pos (show y ∈ l ++ [y] by simp), List.count_append, List.count_singleton_self]
    by_cases hm : y ∈ l
    · rw [if_pos hm]; rfl
    · rw [if_neg hm, List.count_eq_zero_of_not_mem hm]; rfl
  · rw [if_neg h, List.count_append, List.count_eq_zero_of_not_mem (show y ∉ [x] by simp [h]), Nat.add_zero]
    by_cases hm : y ∈ l
    · rw [if_pos hm, if_pos (by simp [hm])]
    · rw [if_neg hm, if_neg (by simp [hm, h])]
theorem tal_pick (l : List It) (x : It) : pickE vInt (vInt 0) (talF l x) = .int .i64 (l.count x : Int) ∧ numOf (talF l x) = (l.count x : Int) := by
  unfold talF
  by_cases hm : x ∈ l
  · rw [if_pos hm]; exact ⟨rfl, rfl⟩
  · rw [if_neg hm, List.count_eq_zero_of_not_mem hm]; exact ⟨rfl, rfl⟩
theorem zeroV (u : World) : (zeroValue 3).run Try.prog u = .ok (vInt 0) u := zeroI u

/-- What holds at each round's head of tally. -/
structure TRel (g : List It) (w : World) (p1 : Option Addr) (k : Nat) (wr : World) : Prop where
  le : k ≤ g.length
  below : Below w.heap.size w wr
  map : MapAt 26 It.v vInt wr w.heap.size k (talF (g.take k))
  its : Its wr p1 g
  addr : ∀ a, p1 = some a → a.block ≠ w.heap.size
theorem TRel.alloc {g : List It} {w : World} {p1 : Option Addr} {k : Nat} {wr : World} (h : TRel g w p1 k wr) (o : Obj) : TRel g w p1 k (wr.alloc o) :=
  ⟨h.le, blw h.below o, h.map.alloc o, h.its.call (blw (Below.refl _ _) o), h.addr⟩

/-- What tally answers. -/
def EndTal (l : List It) (w : World) (e : Ending) (w' : World) : Prop := ∃ b, e = .returned (.map (some b)) ∧ w.heap.size ≤ b ∧ MapAt 26 It.v vInt w' b l.length (talF l) ∧ Below w.heap.size w w'

set_option maxHeartbeats 3200000 in
theorem tally_any (p : Option Addr) (cap : Nat) (l : List It) (w : World) (hR : Its w p l) (hO : Oks l) (hc : l.length ≤ cap) (hm : cap ≤ maxLen) (hn : l.length ≤ 4000000000) :
    Calls Try.prog 106 #[.slice p l.length cap] w (EndTal (tagsL l) w) := by
  have htags := fun W hI => tags_any p cap l W hI hc hm hn
  have hlen0 := tags_len l
  have hO' := hO.tags
  generalize tagsL l = g at *
  have HT := Lib.hid htags; clear htags
  have hmm := @run_makeMap Try.prog
  have mixed : Try.prog.follows .mixedOrders = true := by kernel_rfl
  unfold maxLen at hm
  go_enter Try.func106, Try.ntmps106
  go_wp2_with fail
  refine (HT.out _ (hR.call (blw (Below.refl _ _) _))).mono ?_; rintro e w1 ⟨v1, rfl, hA1⟩
  obtain ⟨p1, c1, rfl, g1, g2, hI1⟩ := hA1.own.its
  have hb1 := BelowOn (blw (Below.refl _ _) _) hA1.below
  have hsz : w.heap.size + 1 ≤ w1.heap.size := by have := hA1.below.size; simpa using this
  have hmap : MapAt 26 It.v vInt w1 w.heap.size 0 (fun _ => none) := (MapAt.made w).call hA1.below
  have hst : TRel g w p1 0 w1 := ⟨Nat.zero_le _, hb1, hmap.ext (fun x => (tal_nil x).symm), hI1, fun a ha => by
    have := hA1.own.addr a ha
    simp at this; omega⟩
  unfold maxLen at g2
  go_wp2_with fail
  clear hmm hmap hI1 hA1
  have HS := Lib.hid hst; clear hst
  go_loopw [10] (fun i wr => ∃ k : Nat, i = .int .i64 k ∧ TRel g w p1 k wr) (fun i _ => g.length - (intOf i).toNat)
  case atStart => exact ⟨0, rfl, HS.out⟩
  case round =>
    obtain ⟨k, rfl, hF⟩ := hrel
    by_cases hlt : k < g.length
    · obtain ⟨ad, rfl, had, c0, c1, c2⟩ := hF.its.row k hlt
      have hok := hO' k hlt
      have hnx : g.take (k + 1) = g.take k ++ [g[k]] := List.take_succ_eq_append_getElem hlt
      have hlen : (g.take k).count g[k] ≤ 4000000000 := Nat.le_trans (List.count_le_length) (by rw [List.length_take]; omega)
      have hF1 := hF.alloc (.cells #[.int .i64 g[k].k, .string g[k].t, .int .i64 g[k].id] 26)
      generalize g[k] = x at *
      obtain ⟨kl, hkey⟩ := key_item x hok.k (Nat.le_trans hok.t (by unfold maxLen; omega)) hok.id
      obtain ⟨hpick, hnum⟩ := tal_pick (g.take k) x
      have hlook := (hF1.map).drew.look (T := 114) k26 Try.underlying114 (z := vInt 0) (zeroV _) hkey
      obtain ⟨st, w1, f1, hE, hg1, hsz1, hM1, hf1, hSt⟩ := (hF1.map).drew.entry (T := 114) Try.underlying114 (by unfold maxLen; omega) 0 zeroV hkey
      have hlook1 := hM1.look (T := 114) k26 Try.underlying114 (z := vInt 0) (zeroV _) hkey
      rw [hf1] at hlook1
      obtain ⟨w3, hS, hM3, hg3, hsz3⟩ := hSt w1 (numOf (talF (g.take k) x) + 1) rfl
      rw [hpick] at hlook hlook1 hE
      have hM3 := hM3.ext (tal_next (g.take k) x)
      rw [hnum] at hS
      have V := (Var3.new wr x.k x.t x.id).drew
      obtain ⟨v0, v1, v2, vl⟩ := id V
      have hS' : (Instr.entryStore 114 (.map (some w.heap.size)) (.int .i64 st) (.int .i64 ((List.count x (List.take k g) : Int) + 1))).run Try.prog w1 = .ok () w3 := hS
      have hE' : (Instr.mapEntry 114 (.map (some w.heap.size)) (.agg #[.int .i64 x.k, .string x.t, .int .i64 x.id])).run Try.prog _ = .ok (.tuple #[.int .i64 (List.count x (List.take k g) : Int), .int .i64 st]) w1 := hE
      have hl' : (Instr.lookup 114 (.map (some w.heap.size)) (.agg #[.int .i64 x.k, .string x.t, .int .i64 x.id]) false).run Try.prog _ = .ok (.int .i64 (List.count x (List.take k g) : Int)) _ := hlook
      have hl1 : (Instr.lookup 114 (.map (some w.heap.size)) (.agg #[.int .i64 x.k, .string x.t, .int .i64 x.id]) false).run Try.prog _ = .ok (.int .i64 (List.count x (List.take k g) : Int)) _ := hlook1
      generalize List.count x (List.take k g) = n at *
      have H3 := Lib.hid (And.intro hM3 (And.intro hg3 (And.intro hg1 (And.intro hsz1 hsz3))))
      have HF := Lib.hid hF1; have HN := Lib.hid hnx
      clear hS hE hlook hlook1 hpick hnum hSt hM1 hf1 hM3 hg3 hsz1 hsz3 hnx hok hkey V hF1
      have wr1 : IntKind.i64.wrap ((n : Int) + 1) = (n : Int) + 1 := IntWalk.i64_in _ ⟨by omega, by omega⟩
      go_wp2_with fail
      go_region_o
      all_goals go_wp2_with fail
      all_goals go_roundw
      case rel =>
        obtain ⟨hM3, hg3, hg1, hsz1, hsz3⟩ := H3.out
        have hF := HF.out
        have hsF := hF.below.size
        have hb1 : Below w.heap.size w w1 := hF.below.drew.grown hg1 hsF (fun j hj => by cases hj; exact Nat.le_refl _)
        refine ⟨k + 1, by go_num, hlt, hb1.grown hg3 hb1.size (fun j hj => by cases hj; exact Nat.le_refl _), by rw [HN.out]; exact hM3, ?_, hF.addr⟩
        have i1 : Its w1 (some ad) g := Its.other (W := (wr.alloc (.cells #[.int .i64 x.k, .string x.t, .int .i64 x.id] 26)).drew) hF.its hg1 hF.addr
        exact i1.other hg3 hF.addr
      case measure => simp [intOf]; omega
    · obtain rfl : k = g.length := by have := hF.le; omega
      have hM := hF.map
      rw [List.take_length] at hM
      go_wp2_with fail
      go_ret
      exact ⟨_, rfl, Nat.le_refl _, hM, hF.below⟩
end Go.Proofs.Ytnfapcfajoboaaa
namespace Go.Proofs.Ytnfapcfajoboaaa
open Go.ChangeShapes Go.WideShapes Go.ChangeAt Go.RowKit Go.Maps
set_option linter.unusedVariables false
set_option linter.unusedSimpArgs false
set_option maxRecDepth 100000

/-! ### lists -/
theorem perm_counts {α : Type} [DecidableEq α] (s t : List α) (hl : s.length = t.length) (h : ∀ x ∈ s, s.count x = t.count x) : s.Perm t := by
  have hp : s.Perm (t.filter fun x => decide (x ∈ s)) := List.perm_iff_count.2 fun a => by
    by_cases ha : a ∈ s
    · rw [h a ha, List.count_filter (by simpa using ha)]
    · rw [List.count_eq_zero_of_not_mem ha, List.count_eq_zero_of_not_mem (by simp [ha])]
  have hl' : (t.filter fun x => decide (x ∈ s)).length = t.length := by rw [← hp.length_eq, hl]
  rw [List.length_filter_eq_length_iff] at hl'
  rwa [List.filter_eq_self.2 hl'] at hp
theorem nodup_count {α : Type} [DecidableEq α] {s : List α} (hs : s.Nodup) {x : α} (h : x ∈ s) : s.count x = 1 := by
  have h1 := List.nodup_iff_count.1 hs x
  have h2 := List.count_pos_iff.2 h
  omega
theorem keys_perm {α : Type} [DecidableEq α] {s t : List α} (hs : s.Nodup) (ht : t.Nodup) (h : ∀ x ∈ s, x ∈ t) (hl : s.length = t.length) : s.Perm t :=
  perm_counts s t hl fun x hx => by rw [nodup_count hs hx, nodup_count ht (h x hx)]
theorem keys_same {α : Type} [DecidableEq α] {s t : List α} (hs : s.Nodup) (ht : t.Nodup) (h : ∀ x, x ∈ s ↔ x ∈ t) : s.length = t.length := by
  have : s.Perm t := List.perm_iff_count.2 fun a => by
    by_cases ha : a ∈ s
    · rw [nodup_count hs ha, nodup_count ht ((h a).1 ha)]
    · rw [List.count_eq_zero_of_not_mem ha, List.count_eq_zero_of_not_mem (fun e => ha ((h a).2 e))]
  exact this.length_eq

/-! ### what two data say -/
def eqI : DataW Value → DataW Value → Bool
  | .held (.int .i64 x), .held (.int .i64 y) => decide (x = y)
  | _, _ => false
theorem has_mem {es : List (Lit × DataW Value)} (hkeys : ∀ p ∈ es, WideAt.IsKeyLit p.1) (l : Lit) : Maps.has (DataW.map es) l = true ↔ l ∈ es.map (·.1) := by
  constructor
  · intro h
    obtain ⟨p, hp, hs⟩ := List.any_eq_true.1 (show es.any (fun p => p.1.sameKey l) = true from h)
    exact List.mem_map.2 ⟨p, hp, WideAt.sameKey_eq hs⟩
  · intro h
    obtain ⟨p, hp, rfl⟩ := List.mem_map.1 h
    exact List.any_eq_true.2 ⟨p, hp, WideAt.sameKey_self (hkeys p hp)⟩
theorem good_says {D2 : DataW Value} {l : Lit} {f2 : Option Int} (h2 : Says vInt D2 l f2) (u : Int) : Lib.goodD eqI D2 (l, .held (vInt u)) = decide (f2 = some u) := by
  unfold Lib.goodD
  cases f2 with
  | none => rw [show Maps.has D2 l = false from h2.1]; simp
  | some v =>
    rw [show Maps.has D2 l = true from h2.1, h2.2 .nil]
    show (true && decide (u = v)) = _
    by_cases e : u = v
    · subst e; simp
    · simp [e, Ne.symm e]
section
variable {D1 D2 : DataW Value} {f1 f2 : It → Option Int}
theorem equal_says {es1 es2 : List (Lit × DataW Value)} (p1 : es1.Pairwise (fun p q => p.1 ≠ q.1)) (k1 : ∀ p ∈ es1, WideAt.IsKeyLit p.1) (p2 : es2.Pairwise (fun p q => p.1 ≠ q.1)) (k2 : ∀ p ∈ es2, WideAt.IsKeyLit p.1)
    (s1 : ∀ k l, keyOf Try.prog 26 (It.v k) = some l → Says vInt (.map es1) l (f1 k)) (t1 : ∀ l, Maps.has (DataW.map es1) l = true → ∃ k, keyOf Try.prog 26 (It.v k) = some l)
    (s2 : ∀ k l, keyOf Try.prog 26 (It.v k) = some l → Says vInt (.map es2) l (f2 k)) (t2 : ∀ l, Maps.has (DataW.map es2) l = true → ∃ k, keyOf Try.prog 26 (It.v k) = some l) :
    Lib.equalFuncD eqI (.map es1) (.map es2) = true ↔ ∀ k l, keyOf Try.prog 26 (It.v k) = some l → f1 k = f2 k := by
  classical
  have n1 : (es1.map (·.1)).Nodup := by unfold List.Nodup; rw [List.pairwise_map]; exact p1
  have n2 : (es2.map (·.1)).Nodup := by unfold List.Nodup; rw [List.pairwise_map]; exact p2
  have entry : ∀ p ∈ es1, ∃ k u, keyOf Try.prog 26 (It.v k) = some p.1 ∧ f1 k = some u ∧ p = (p.1, .held (vInt u)) := fun p hp => by
    have hh := (has_mem k1 p.1).2 (List.mem_map.2 ⟨p, hp, rfl⟩)
    obtain ⟨k, hk⟩ := t1 _ hh
    have hs := s1 k _ hk
    cases hf : f1 k with
    | none => rw [hf] at hs; rw [show Maps.has _ _ = false from hs.1] at hh; cases hh
    | some u =>
      rw [hf] at hs
      have := WideAt.atKey_mem .nil (k1 p hp) p1 hp
      rw [hs.2 .nil] at this
      exact ⟨k, u, hk, hf, Prod.ext rfl this.symm⟩
  have mem : ∀ (es : List (Lit × DataW Value)) (ks : ∀ p ∈ es, WideAt.IsKeyLit p.1) (f : It → Option Int), (∀ k l, keyOf Try.prog 26 (It.v k) = some l → Says vInt (.map es) l (f k)) → ∀ k l, keyOf Try.prog 26 (It.v k) = some l → (l ∈ es.map (·.1) ↔ (f k).isSome = true) := fun es ks f s k l hk => by
    rw [← has_mem ks]
    have hs := s k l hk
    cases hf : f k with
    | none => rw [hf] at hs; rw [show Maps.has _ _ = false from hs.1]; simp
    | some u => rw [hf] at hs; rw [show Maps.has _ _ = true from hs.1]; simp
  unfold Lib.equalFuncD
  rw [Bool.and_eq_true, decide_eq_true_eq, List.all_eq_true]
  constructor
  · rintro ⟨hsz, hall⟩ k l hk
    have hsub : ∀ x ∈ es1.map (·.1), x ∈ es2.map (·.1) := fun x hx => by
      obtain ⟨p, hp, rfl⟩ := List.mem_map.1 hx
      obtain ⟨k', u, hk', hf, he⟩ := entry p hp
      have hg := hall p hp
      rw [he, good_says (s2 k' _ hk') u, decide_eq_true_eq] at hg
      rw [mem es2 k2 f2 s2 k' _ hk', hg]; rfl
    have hperm := keys_perm n1 n2 hsub (by simpa [Maps.size] using hsz)
    cases hf : f1 k with
    | none =>
      have h1 : l ∉ es1.map (·.1) := by rw [mem es1 k1 f1 s1 k l hk, hf]; simp
      have h2 : l ∉ es2.map (·.1) := fun e => h1 (hperm.mem_iff.2 e)
      rw [mem es2 k2 f2 s2 k l hk] at h2
      cases hf2 : f2 k with
      | none => rfl
      | some v => rw [hf2] at h2; simp at h2
    | some u =>
      have h1 : l ∈ es1.map (·.1) := by rw [mem es1 k1 f1 s1 k l hk, hf]; rfl
      obtain ⟨p, hp, rfl⟩ := List.mem_map.1 h1
      obtain ⟨k', u', hk', hf', he⟩ := entry p hp
      have hkk : k' = k := itv_inj _ _ (k26.inj hk' hk)
      subst hkk
      rw [hf] at hf'; injection hf' with hf'; subst hf'
      have hg := hall p hp
      rw [he, good_says (s2 k' _ hk') u, decide_eq_true_eq] at hg
      exact hg.symm
  · intro h
    refine ⟨?_, fun p hp => ?_⟩
    · have : (es1.map (·.1)).length = (es2.map (·.1)).length := keys_same n1 n2 fun x => by
        constructor
        · intro hx
          obtain ⟨k, hk⟩ := t1 x ((has_mem k1 x).2 hx)
          rw [mem es1 k1 f1 s1 k x hk, h k x hk] at hx
          exact (mem es2 k2 f2 s2 k x hk).2 hx
        · intro hx
          obtain ⟨k, hk⟩ := t2 x ((has_mem k2 x).2 hx)
          rw [mem es2 k2 f2 s2 k x hk, ← h k x hk] at hx
          exact (mem es1 k1 f1 s1 k x hk).2 hx
      simpa [Maps.size] using this
    · obtain ⟨k', u, hk', hf, he⟩ := entry p hp
      rw [he, good_says (s2 k' _ hk') u, decide_eq_true_eq, ← h k' _ hk', hf]
end

/-- Two maps say the same of every item that can be a key. -/
def SameF (f1 f2 : It → Option Int) : Prop := ∀ k l, keyOf Try.prog 26 (It.v k) = some l → f1 k = f2 k

set_option maxHeartbeats 4000000 in
theorem mapsEq_any (b1 b2 n1 n2 : Nat) (f1 f2 : It → Option Int) (w : World) (h1 : MapAt 26 It.v vInt w b1 n1 f1) (h2 : MapAt 26 It.v vInt w b2 n2 f2) :
    Calls Try.prog 105 #[.map (some b1), .map (some b2)] w fun e w' => ∃ r : Bool, e = .returned (.bool r) ∧ (r = true ↔ SameF f1 f2) ∧ Below w.heap.size w w' := by
  have hm2 := h2
  obtain ⟨D1, o1, s1, t1⟩ := h1
  obtain ⟨D2, o2, s2, t2⟩ := h2
  have mixed : Try.prog.follows .mixedOrders = true := by kernel_rfl
  have l1 := fun ty => o1.len (t := 114) Try.underlying114 ty
  have l2 := fun ty => o2.len (t := 114) Try.underlying114 ty
  obtain ⟨es1, rfl, p1, k1⟩ := o1.entries k26
  obtain ⟨es2, rfl, p2, k2⟩ := id (o2.entries k26)
  have hb1 := o1.lt
  have hb2 := o2.lt
  have EQS := Lib.hid (equal_says p1 k1 p2 k2 s1 t1 s2 t2)
  have SS := Lib.hid (And.intro s1 (And.intro t1 (And.intro s2 (And.intro p1 k1))))
  clear s1 t1 s2 t2 p1 k1 p2 k2 o2
  generalize hres : Lib.equalFuncD eqI (.map es1) (.map es2) = res at *
  have RES : Aside (Lib.equalFuncD eqI (.map es1) (.map es2) = res) := hres
  clear hres
  by_cases hsz : Maps.size (.map es1 : DataW Value) = Maps.size (.map es2 : DataW Value)
  · go_enter Try.func105, Try.ntmps105
    go_wp2_with (first
      | (at_range; refine wpList_range_own _ rfl _ 114 rfl 26 3 k26 Try.underlying114 rawE b1 n1 _ rfl o1 ?_; intro w0 hrg0 hg0 hs0)
      | go_in)
    go_frame
    have hB0 : Below w.heap.size w w0 := (Below.refl _ _).grown hg0 (Nat.le_refl _) (fun j hj => by cases hj)
    have hM0 : MapAt 26 It.v vInt w0 b2 n2 f2 := hm2.call hB0
    clear hm2 hg0 hs0
    go_loopw [18] (fun _ wr => ∃ (left : Lit → Bool) (cnt : Nat), wr.ranges Try.prog 26 rawE b1 w.heap.size n1 (.map es1) left cnt ∧ MapAt 26 It.v vInt wr b2 n2 f2 ∧ Below w.heap.size w wr ∧ Aside (GoodAt eqI es1 (.map es2) left))
      (fun _ wr => wr.rangeLeft b1 w.heap.size)
    case atStart => exact ⟨_, _, hrg0, hM0, hB0, good_start SS.out.2.2.2.2 _⟩
    case round =>
      obtain ⟨left, cnt, hrg, hM, hB, G⟩ := hrel
      have hleft := hrg.left_eq
      go_wp2_with (first
        | (at_next; refine wpList_next_ranges _ rfl _ rfl 26 k26 rawE id id (fun key _ _ => ⟨key, rfl⟩) (fun v _ _ => ⟨v, rfl⟩) b1 w.heap.size n1 _ _ _ rfl hrg ?_ ?_)
        | go_in)
      · -- NOTHING IS LEFT
        intro _ hl0
        go_wp2_with fail
        go_ret
        have hT : res = true := by rw [← RES.out]; exact all_good G.out hl0 hsz
        subst hT
        exact ⟨true, rfl, EQS.out, hB⟩
      · -- AN ENTRY HAS COME
        intro x c kl yd yp w1 cnt1 hkey hlx hv hat hrg1 hlt hg1 hs1 hen
        obtain ⟨s1, t1, s2, p1, k1⟩ := SS.out
        have hh := has_true_of_atKey hat
        obtain ⟨y, hy⟩ := t1 kl hh
        have hxy : x = y.v := k26.inj hkey hy
        have hsy := s1 y kl hy
        have hB1 : Below w.heap.size w w1 := hB.grown hg1 hB.size (fun j hj => by cases hj; exact Nat.le_refl _)
        have hM1 := hM.other hg1 (fun e => by omega)
        cases hf : f1 y with
        | none => rw [hf] at hsy; rw [show Maps.has _ _ = false from hsy.1] at hh; cases hh
        | some u =>
          rw [hf] at hsy
          have hc : c = vInt u := by
            have h1 := hat .nil
            rw [hsy.2 .nil] at h1
            have h2 : some (DataW.held c, ([] : List MemPlace)) = some (yd, yp) := hv
            injection h2 with h2
            injection h2 with h2 _
            rw [← h2] at h1
            injection h1 with h1
            exact h1.symm
          subst hc; subst hxy
          have hgood := good_says (s2 y kl hy) u
          have hat' : ∀ zd, (DataW.map es1).atKey kl zd = .held (vInt u) := fun zd => hsy.2 zd
          have hen' : (Instr.entry (.pointer (some ⟨w.heap.size, 0, none⟩))).run Try.prog w1 = .ok (.tuple #[.agg #[.int .i64 y.k, .string y.t, .int .i64 y.id], .int .i64 u]) w1 := hen
          have hrg2 := hrg1.kept (World.grownBy_alloc w1 (.cells #[.int .i64 y.k, .string y.t, .int .i64 y.id] 26) none) (by simp) (by simp)
          have hM2 := hM1.alloc (.cells #[.int .i64 y.k, .string y.t, .int .i64 y.id] 26)
          have hB2 := blw hB1 (.cells #[.int .i64 y.k, .string y.t, .int .i64 y.id] 26)
          have HG := Lib.hid hgood; have HA := Lib.hid hat'; have HS2 := Lib.hid hs1; have HGR := Lib.hid hrg2; have HF := Lib.hid hf
          clear hv hen hat hsy s1 t1 s2 hgood hat' hs1 hrg2 hf hg1 hrg1 hM hrg
          cases hf2 : f2 y with
          | none =>
            have e1 : pickE vInt (vInt 0) (f2 y) = .int .i64 0 := by rw [hf2]; rfl
            have e2 : (f2 y).isSome = false := by rw [hf2]; rfl
            have hbad : res = false := by
              rw [← RES.out]
              refine bad_false p1 k1 HA.out ?_
              rw [HG.out, hf2]; rfl
            subst hbad
            clear hf2
            go_wp2_with (at_lookup; refine wpl_lookOk rfl _ _ 114 rfl k26 Try.underlying114 _ (zeroV _) b2 rfl hM2 y rfl hkey ?_; rw [e1, e2])
            go_ret
            exact ⟨false, rfl, EQS.out, hB2⟩
          | some v =>
            have e1 : pickE vInt (vInt 0) (f2 y) = .int .i64 v := by rw [hf2]; rfl
            have e2 : (f2 y).isSome = true := by rw [hf2]; rfl
            by_cases huv : u = v
            · subst huv
              have hg : Lib.goodD eqI (DataW.map es2) (kl, DataW.held (vInt u)) = true := by rw [HG.out, hf2]; simp
              have HGD := Lib.hid hg
              clear hf2 hg
              go_wp2_with (at_lookup; refine wpl_lookOk rfl _ _ 114 rfl k26 Try.underlying114 _ (zeroV _) b2 rfl hM2 y rfl hkey ?_; rw [e1, e2])
              go_roundw
              case rel => exact ⟨_, cnt1, HGR.out, hM2, hB2, good_step p1 k1 HA.out G.out HGD.out⟩
              case measure => rw [HGR.out.left_eq, hleft]; exact hlt
            · have hbad : res = false := by
                rw [← RES.out]
                refine bad_false p1 k1 HA.out ?_
                rw [HG.out, hf2]; simp [Ne.symm huv]
              subst hbad
              clear hf2
              go_wp2_with (at_lookup; refine wpl_lookOk rfl _ _ 114 rfl k26 Try.underlying114 _ (zeroV _) b2 rfl hM2 y rfl hkey ?_; rw [e1, e2])
              go_ret
              exact ⟨false, rfl, EQS.out, hB2⟩
  · -- not as many entries
    have hne : ¬ ((Maps.size (.map es1 : DataW Value) : Int) = (Maps.size (.map es2 : DataW Value) : Int)) := fun e => hsz (by exact_mod_cast e)
    go_enter Try.func105, Try.ntmps105
    go_wp2_with fail
    go_ret
    refine ⟨false, rfl, ?_, Below.refl _ _⟩
    rw [← show _ ↔ SameF f1 f2 from EQS.out, ← RES.out, sizes_false hsz]
end Go.Proofs.Ytnfapcfajoboaaa
namespace Go.Proofs.Ytnfapcfajoboaaa
open Go.ChangeShapes Go.WideShapes Go.ChangeAt Go.RowKit
set_option linter.unusedVariables false
set_option maxRecDepth 100000

set_option maxHeartbeats 1600000 in
theorem eqints_any (p q : Option Addr) (c d : Nat) (l m : List Int) (w : World) (hR : Ones w (Value.int .i64) p l) (hS : Ones w (Value.int .i64) q m) (hc : l.length ≤ c) (hd : m.length ≤ d) (hcm : c ≤ maxLen) (hdm : d ≤ maxLen) :
    Calls Try.prog 104 #[.slice p l.length c, .slice q m.length d] w fun e w' => e = .returned (.bool (decide (l = m))) ∧ Below w.heap.size w w' := by
  unfold maxLen at hcm hdm
  by_cases hlen : l.length = m.length
  · have qn : ((l.length : Int) != (l.length : Int)) = false := by simp
    have HM := Lib.hid (fun k (h : k < l.length) => (by omega : k < m.length))
    have HLEN := Lib.hid hlen
    rw [← hlen] at hd ⊢
    clear hlen
    have mixed : Try.prog.follows .mixedOrders = true := by kernel_rfl
    go_enter Try.func104, Try.ntmps104
    go_wp2_with fail
    go_loopw [13] (fun i wr => ∃ k : Nat, k ≤ l.length ∧ i = .int .i64 k ∧ Below w.heap.size w wr ∧ Hid (∀ j (hl : j < l.length) (hm : j < m.length), j < k → l[j] = m[j])) (fun i _ => l.length - (intOf i).toNat)
    case atStart => exact ⟨0, Nat.zero_le _, rfl, Below.refl _ _, Lib.hid (fun j _ _ h => by omega)⟩
    case round =>
      obtain ⟨k, hk, rfl, hB, HK⟩ := hrel
      by_cases hlt : k < l.length
      · obtain ⟨a, rfl, ha, c0⟩ := one_row (hR.call hB) k hlt
        obtain ⟨b, rfl, hb, d0⟩ := one_row (hS.call hB) k (HM.out k hlt)
        have hne : l[k] ≠ m[k]'(HM.out k hlt) → l ≠ m := fun h e => by subst e; exact h rfl
        have hnext : l[k] = m[k]'(HM.out k hlt) → ∀ j (hl : j < l.length) (hm : j < m.length), j < k + 1 → l[j] = m[j] := fun h j hl hm hj => by
          by_cases e : j = k
          · subst e; exact h
          · exact HK.out j hl hm (by omega)
        generalize l[k] = x at *
        generalize m[k]'(HM.out k hlt) = y at *
        have HN := Lib.hid hne; have HX := Lib.hid hnext; clear hne hnext
        by_cases hxy : x = y
        · subst hxy
          have HX' := Lib.hid (HX.out rfl)
          clear HX HN
          go_wp2_with fail
          go_quiet (fail)
          go_wp2_with fail
          go_roundw
          case rel => exact ⟨k + 1, hlt, by go_num, bdrN hB _, HX'⟩
          case measure => simp [intOf]; omega
        · clear HX
          have HZ := Lib.hid (HN.out hxy)
          go_wp2_with fail
          go_quiet (fail)
          go_wp2_with fail
          go_ret
          exact ⟨ret_bool (decide_eq_false HZ.out).symm, bdrN hB _⟩
      · obtain rfl : k = l.length := by omega
        have HZ := Lib.hid (ones_eq_at HLEN.out (fun j hl hm => HK.out j hl hm hl))
        go_wp2_with fail
        go_ret
        exact ⟨ret_bool (decide_eq_true HZ.out).symm, hB⟩
  · have qn : ((l.length : Int) != (m.length : Int)) = true := by simp; omega
    have qn' : (l.length != m.length) = true := by simp; omega
    have HZ := Lib.hid (decide_eq_false (p := l = m) (fun e => hlen (by rw [e])))
    clear hlen
    go_enter Try.func104, Try.ntmps104
    go_wp2_with fail
    go_ret
    exact ⟨ret_bool HZ.out.symm, Below.refl _ _⟩

set_option maxHeartbeats 1600000 in
theorem eqtexts_any (p q : Option Addr) (c d : Nat) (l m : List ByteArray) (w : World) (hR : Ones w Value.string p l) (hS : Ones w Value.string q m) (hc : l.length ≤ c) (hd : m.length ≤ d) (hcm : c ≤ maxLen) (hdm : d ≤ maxLen) :
    Calls Try.prog 89 #[.slice p l.length c, .slice q m.length d] w fun e w' => e = .returned (.bool (decide (l = m))) ∧ Below w.heap.size w w' := by
  unfold maxLen at hcm hdm
  by_cases hlen : l.length = m.length
  · have qn : ((l.length : Int) != (l.length : Int)) = false := by simp
    have HM := Lib.hid (fun k (h : k < l.length) => (by omega : k < m.length))
    have HLEN := Lib.hid hlen
    rw [← hlen] at hd ⊢
    clear hlen
    have mixed : Try.prog.follows .mixedOrders = true := by kernel_rfl
    go_enter Try.func89, Try.ntmps89
    go_wp2_with fail
    go_loopw [13] (fun i wr => ∃ k : Nat, k ≤ l.length ∧ i = .int .i64 k ∧ Below w.heap.size w wr ∧ Hid (∀ j (hl : j < l.length) (hm : j < m.length), j < k → l[j] = m[j])) (fun i _ => l.length - (intOf i).toNat)
    case atStart => exact ⟨0, Nat.zero_le _, rfl, Below.refl _ _, Lib.hid (fun j _ _ h => by omega)⟩
    case round =>
      obtain ⟨k, hk, rfl, hB, HK⟩ := hrel
      by_cases hlt : k < l.length
      · obtain ⟨a, rfl, ha, c0⟩ := one_row (hR.call hB) k hlt
        obtain ⟨b, rfl, hb, d0⟩ := one_row (hS.call hB) k (HM.out k hlt)
        have hne : l[k] ≠ m[k]'(HM.out k hlt) → l ≠ m := fun h e => by subst e; exact h rfl
        have hnext : l[k] = m[k]'(HM.out k hlt) → ∀ j (hl : j < l.length) (hm : j < m.length), j < k + 1 → l[j] = m[j] := fun h j hl hm hj => by
          by_cases e : j = k
          · subst e; exact h
          · exact HK.out j hl hm (by omega)
        generalize l[k] = x at *
        generalize m[k]'(HM.out k hlt) = y at *
        have HN := Lib.hid hne; have HX := Lib.hid hnext; clear hne hnext
        by_cases hxy : x = y
        · subst hxy
          have HX' := Lib.hid (HX.out rfl)
          clear HX HN
          go_wp2_with fail
          go_quiet (fail)
          go_wp2_with fail
          go_roundw
          case rel => exact ⟨k + 1, hlt, by go_num, bdrN hB _, HX'⟩
          case measure => simp [intOf]; omega
        · clear HX
          have HZ := Lib.hid (HN.out hxy)
          have qs := strl_ne hxy
          have qs' := str_ne hxy
          clear HN
          go_wp2_with fail
          go_quiet (fail)
          go_wp2_with fail
          go_ret
          exact ⟨ret_bool (decide_eq_false HZ.out).symm, bdrN hB _⟩
      · obtain rfl : k = l.length := by omega
        have HZ := Lib.hid (ones_eq_at HLEN.out (fun j hl hm => HK.out j hl hm hl))
        go_wp2_with fail
        go_ret
        exact ⟨ret_bool (decide_eq_true HZ.out).symm, hB⟩
  · have qn : ((l.length : Int) != (m.length : Int)) = true := by simp; omega
    have qn' : (l.length != m.length) = true := by simp; omega
    have HZ := Lib.hid (decide_eq_false (p := l = m) (fun e => hlen (by rw [e])))
    clear hlen
    go_enter Try.func89, Try.ntmps89
    go_wp2_with fail
    go_ret
    exact ⟨ret_bool HZ.out.symm, Below.refl _ _⟩
end Go.Proofs.Ytnfapcfajoboaaa
namespace Go.Proofs.Ytnfapcfajoboaaa
open Go.ChangeShapes Go.WideShapes Go.ChangeAt Go.RowKit
set_option linter.unusedVariables false

/-- Equal but for texts. -/
def Like (a b : List It) : Prop := ∀ (σ : Type) (f : σ → It → σ), (∀ s x, x.k = 1 → f s x = s) → ∀ s, a.foldl f s = b.foldl f s
theorem Like.refl (a : List It) : Like a a := fun _ _ _ _ => rfl
theorem Like.symm {a b : List It} (h : Like a b) : Like b a := fun σ f hf s => (h σ f hf s).symm
theorem Like.trans {a b c : List It} (h : Like a b) (k : Like b c) : Like a c := fun σ f hf s => (h σ f hf s).trans (k σ f hf s)
theorem like_norm (l : List It) : Like (norm l) l := fun σ f hf s => ign_norm f hf l s
theorem Like.append {a b c d : List It} (h : Like a b) (k : Like c d) : Like (a ++ c) (b ++ d) := fun σ f hf s => by
  rw [List.foldl_append, List.foldl_append, h σ f hf s, k σ f hf _]
theorem like_text (x : It) (h : x.k = 1) : Like [x] [] := fun σ f hf s => hf s x h
theorem like_texts (x y : It) (hx : x.k = 1) (hy : y.k = 1) : Like [x] [y] := (like_text x hx).trans (like_text y hy).symm
theorem Like.sh {a b : List It} (h : Like a b) : shL a = shL b := h _ shS (fun s x hx => by
  unfold shS
  cases s with
  | none => rfl
  | some st => obtain ⟨c, o⟩ := st; dsimp only; rw [hx]; rfl) _
theorem Like.filter {a b : List It} (h : Like a b) (p : It → Bool) (hp : ∀ x : It, x.k = 1 → p x = false) : a.filter p = b.filter p := by
  have h1 := h _ (fun (u : List It) x => if p x = true then u ++ [x] else u) (fun s x hx => by rw [hp x hx]; rfl) []
  rw [filter_fold, filter_fold] at h1
  simpa using h1
theorem Like.tags {a b : List It} (h : Like a b) : tagsL a = tagsL b := h.filter _ fun x hx => by rw [hx]; rfl
theorem Like.slots {a b : List It} (h : Like a b) : slS a = slS b := by
  unfold slS slN; rw [h.filter _ fun x hx => by rw [hx]; rfl]
theorem tar_snoc (L : List Int) (m : Nat) (l : List It) (x : It) : tarL L m (l ++ [x]) = tarS L (tarL L m l) x := by unfold tarL; rw [List.foldl_append]; rfl
theorem like_tar (L : List Int) (m : Nat) (l : List It) : Like (tarL L m l).1 l := by
  refine list_rev (P := fun l => Like (tarL L m l).1 l) (Like.refl _) (fun l x ih => ?_) l
  rw [tar_snoc]
  unfold tarS
  split
  · rename_i hx
    exact (like_norm _).trans (ih.append (like_texts _ _ hx hx))
  · split
    · refine (like_norm _).trans (Like.append ((like_norm _).trans ?_) (Like.refl _))
      have := ih.append (like_text ⟨1, (lineF L ((tarL L m l).2 + 1) 2).1, 0⟩ rfl)
      rwa [List.append_nil] at this
    · exact (like_norm _).trans (ih.append (Like.refl _))

/-- What Compatible says. -/
def compL (a b : List It) : Bool := decide ((shL a).isSome = true ∧ shL a = shL b ∧ slS a = slS b ∧ (tagsL a).Perm (tagsL b))
theorem Like.comp {a b : List It} (h : Like a b) : compL a b = (shL a).isSome := by
  unfold compL
  rw [h.sh, h.slots, h.tags]
  cases (shL b).isSome <;> simp
theorem Like.comp' {a b : List It} (h : Like a b) : compL b a = (shL a).isSome := by rw [h.symm.comp, h.sh]

/-! ### the end of a fragment that closes all has a shape -/
theorem sh_tail (b : List It) : ∀ (c o c1 o1 keep : List Int), o = keep ++ o1 → (b.foldl shS (some (c, o))).isSome = true → (b.foldl shS (some (c1, o1))).isSome = true := by
  induction b with
  | nil => intro c o c1 o1 keep _ _; rfl
  | cons x t ih =>
    intro c o c1 o1 keep he h
    rw [List.foldl_cons] at h ⊢
    subst he
    by_cases h2 : x.k = 2
    · have e : ∀ u v : List Int, shS (some (u, v)) x = some (u, v ++ [x.id]) := fun u v => by unfold shS; dsimp only; rw [if_pos h2]
      rw [e] at h ⊢
      exact ih _ _ _ _ keep (List.append_assoc _ _ _) h
    · by_cases h3 : x.k = 3
      · have e : ∀ u v : List Int, shS (some (u, v)) x = (match v.getLast? with | none => some (u ++ [x.id], v) | some y => if y = x.id then some (u, v.dropLast) else none) := fun u v => by
          unfold shS; dsimp only; rw [if_neg h2, if_pos h3]; cases v.getLast? <;> rfl
        rw [e] at h ⊢
        cases ho : o1.getLast? with
        | none =>
          have : o1 = [] := List.getLast?_eq_none_iff.1 ho
          subst this
          rw [List.append_nil] at h
          dsimp only
          cases hk : keep.getLast? with
          | none => rw [hk] at h; exact ih _ _ _ _ keep (List.append_nil _).symm h
          | some y =>
            rw [hk] at h
            dsimp only at h
            by_cases hy : y = x.id
            · rw [if_pos hy] at h; exact ih _ _ _ _ keep.dropLast (List.append_nil _).symm h
            · rw [if_neg hy, sh_stuck] at h; cases h
        | some y =>
          have hl : (keep ++ o1).getLast? = some y := by rw [List.getLast?_append, ho]; rfl
          rw [hl] at h
          dsimp only at h ⊢
          by_cases hy : y = x.id
          · rw [if_pos hy] at h ⊢
            refine ih _ _ _ _ keep ?_ h
            have hne : o1 ≠ [] := by intro e; rw [e] at ho; cases ho
            exact List.dropLast_append_of_ne_nil hne
          · rw [if_neg hy, sh_stuck] at h; cases h
      · have e : ∀ u v : List Int, shS (some (u, v)) x = some (u, v) := fun u v => by unfold shS; dsimp only; rw [if_neg h2, if_neg h3]
        rw [e] at h ⊢
        exact ih _ _ _ _ keep rfl h
theorem sh_parts (a b : List It) (h : (shL (a ++ b)).isSome = true) : (shL a).isSome = true ∧ (shL b).isSome = true := by
  unfold shL at *
  rw [List.foldl_append] at h
  cases ha : a.foldl shS (some ([], [])) with
  | none => rw [ha, sh_stuck] at h; cases h
  | some st =>
    obtain ⟨c, o⟩ := st
    rw [ha] at h
    exact ⟨rfl, sh_tail b c o [] [] o (List.append_nil _).symm h⟩
theorem like_slices (l : List It) (k n : Nat) (h1 : k ≤ n) (h2 : lenI l ≤ n) : Like (slI l 0 0 k ++ slI l 0 k n) l :=
  (like_norm _).symm.trans ((by rw [norm_sl_two l 0 k n (Nat.zero_le _) h1, norm_sl_all l n h2]; exact Like.refl _ : Like (norm (slI l 0 0 k ++ slI l 0 k n)) (norm l)).trans (like_norm l))
end Go.Proofs.Ytnfapcfajoboaaa
namespace Go.Proofs.Ytnfapcfajoboaaa
open Go.ChangeShapes Go.WideShapes Go.ChangeAt Go.RowKit Go.Maps
set_option linter.unusedVariables false
set_option linter.unusedSimpArgs false
set_option maxRecDepth 100000

theorem same_perm (l m : List It) (hl : Oks l) (hm : Oks m) : SameF (talF l) (talF m) ↔ l.Perm m := by
  have key : ∀ (l : List It), Oks l → ∀ x ∈ l, ∃ k, keyOf Try.prog 26 x.v = some k := fun l hl x hx => by
    obtain ⟨i, hi, rfl⟩ := List.getElem_of_mem hx
    exact key_item _ (hl i hi).k (Nat.le_trans (hl i hi).t (by unfold maxLen; omega)) (hl i hi).id
  constructor
  · intro h
    rw [List.perm_iff_count]
    intro x
    by_cases hx : x ∈ l
    · obtain ⟨k, hk⟩ := key l hl x hx
      have := h x k hk
      unfold talF at this
      rw [if_pos hx] at this
      by_cases hy : x ∈ m
      · rw [if_pos hy] at this; injection this with this; omega
      · rw [if_neg hy] at this; cases this
    · by_cases hy : x ∈ m
      · obtain ⟨k, hk⟩ := key m hm x hy
        have := h x k hk
        unfold talF at this
        rw [if_neg hx, if_pos hy] at this; cases this
      · rw [List.count_eq_zero_of_not_mem hx, List.count_eq_zero_of_not_mem hy]
  · intro h x k hk
    unfold talF
    by_cases hx : x ∈ l
    · rw [if_pos hx, if_pos (h.mem_iff.1 hx), h.count_eq]
    · rw [if_neg hx, if_neg (fun e => hx (h.mem_iff.2 e))]

set_option maxHeartbeats 1600000 in
theorem sametags_any (p q : Option Addr) (c d : Nat) (l m : List It) (w : World) (hR : Its w p l) (hS : Its w q m) (hO : Oks l) (hP : Oks m) (hc : l.length ≤ c) (hd : m.length ≤ d) (hcm : c ≤ maxLen) (hdm : d ≤ maxLen) (hl : l.length ≤ 4000000000) (hm : m.length ≤ 4000000000) :
    Calls Try.prog 88 #[.slice p l.length c, .slice q m.length d] w fun e w' => e = .returned (.bool (decide ((tagsL l).Perm (tagsL m)))) ∧ Below w.heap.size w w' := by
  have t1 := fun W i => tally_any p c l W i hO hc hcm hl
  have t2 := fun W i => tally_any q d m W i hP hd hdm hm
  have hp := same_perm (tagsL l) (tagsL m) hO.tags hP.tags
  generalize tagsL l = L at *
  generalize tagsL m = M at *
  have T1 := Lib.hid t1; have T2 := Lib.hid t2; have HP := Lib.hid hp; clear t1 t2 hp
  unfold maxLen at hcm hdm
  go_enter Try.func88, Try.ntmps88
  go_wp2_with fail
  refine (T1.out _ hR).mono ?_; rintro e w1 ⟨b1, rfl, hb1, hM1, hB1⟩
  go_wp2_with fail
  refine (T2.out _ (hS.call hB1)).mono ?_; rintro e w2 ⟨b2, rfl, hb2, hM2, hB2⟩
  have hM1' := hM1.call hB2
  have hB := BelowOn hB1 hB2
  go_wp2_with fail
  refine (mapsEq_any b1 b2 _ _ _ _ w2 hM1' hM2).mono ?_; rintro e w3 ⟨r, rfl, hr, hB3⟩
  have hr' := hr.trans HP.out
  have e : r = decide (L.Perm M) := by
    cases r
    · exact (decide_eq_false (fun h => by have := hr'.2 h; cases this)).symm
    · exact (decide_eq_true (hr'.1 rfl)).symm
  subst e
  have hBB := BelowOn hB hB3
  clear hr hr'
  go_wp2_with fail
  go_ret
  exact ⟨rfl, hBB⟩

set_option maxHeartbeats 1600000 in
theorem sameshape_any (p q : Option Addr) (c d : Nat) (l m : List It) (w : World) (hR : Its w p l) (hS : Its w q m) (hc : l.length ≤ c) (hd : m.length ≤ d) (hcm : c ≤ maxLen) (hdm : d ≤ maxLen) (hl : l.length ≤ 4000000000) (hm : m.length ≤ 4000000000) :
    Calls Try.prog 87 #[.slice p l.length c, .slice q m.length d] w fun e w' => e = .returned (.bool (decide ((shL l).isSome = true ∧ shL l = shL m))) ∧ Below w.heap.size w w' := by
  have t1 := fun W i => (shape_any p c l W i hc hcm hl).mono fun _ _ x => EndSh.u x
  have t2 := fun W i => (shape_any q d m W i hd hdm hm).mono fun _ _ x => EndSh.u x
  generalize shL l = s at *
  generalize shL m = t at *
  have T1 := Lib.hid t1; have T2 := Lib.hid t2; clear t1 t2
  unfold maxLen at hcm hdm
  have mixed : Try.prog.follows .mixedOrders = true := by kernel_rfl
  cases s with
  | none =>
    have e : decide ((none : Option (List Int × List Int)).isSome = true ∧ none = t) = false := decide_eq_false (by simp)
    rw [e]
    go_enter Try.func87, Try.ntmps87
    go_wp2_with fail
    refine (T1.out _ hR).mono ?_; rintro e w1 ⟨p1, c1, p2, c2, rfl, a1, a2, a3, b1, b2, b3, hB1⟩
    dsimp only [shC, shO, Option.isSome] at *
    go_wp2_with fail
    refine (T2.out _ (hS.call hB1)).mono ?_; rintro e w2 ⟨q1, d1, q2, d2, rfl, a4, a5, a6, b4, b5, b6, hB2⟩
    have hB := BelowOn hB1 hB2
    go_wp2_with fail
    go_ret
    exact ⟨rfl, hB⟩
  | some x =>
    obtain ⟨xc, xo⟩ := x
    cases t with
    | none =>
      have e : decide ((some (xc, xo)).isSome = true ∧ some (xc, xo) = none) = false := decide_eq_false (by simp)
      rw [e]
      go_enter Try.func87, Try.ntmps87
      go_wp2_with fail
      refine (T1.out _ hR).mono ?_; rintro e w1 ⟨p1, c1, p2, c2, rfl, a1, a2, a3, b1, b2, b3, hB1⟩
      dsimp only [shC, shO, Option.isSome] at *
      go_wp2_with fail
      refine (T2.out _ (hS.call hB1)).mono ?_; rintro e w2 ⟨q1, d1, q2, d2, rfl, a4, a5, a6, b4, b5, b6, hB2⟩
      dsimp only [shC, shO, Option.isSome] at *
      have hB := BelowOn hB1 hB2
      go_wp2_with fail
      go_ret
      exact ⟨rfl, hB⟩
    | some y =>
      obtain ⟨yc, yo⟩ := y
      have e : decide ((some (xc, xo)).isSome = true ∧ some (xc, xo) = some (yc, yo)) = (decide (xc = yc) && decide (xo = yo)) := by
        by_cases h1 : xc = yc <;> by_cases h2 : xo = yo <;> simp [h1, h2]
      rw [e]
      have u1 := fun p1 q1 c1 d1 W i j a1 a4 a2 a5 => eqints_any p1 q1 c1 d1 xc yc W i j a1 a4 a2 a5
      have u2 := fun p1 q1 c1 d1 W i j a1 a4 a2 a5 => eqints_any p1 q1 c1 d1 xo yo W i j a1 a4 a2 a5
      generalize decide (xc = yc) = r1 at *
      generalize decide (xo = yo) = r2 at *
      have U1 := Lib.hid u1; have U2 := Lib.hid u2; clear u1 u2 e
      go_enter Try.func87, Try.ntmps87
      go_wp2_with fail
      refine (T1.out _ hR).mono ?_; rintro e w1 ⟨p1, c1, p2, c2, rfl, a1, a2, a3, b1, b2, b3, hB1⟩
      dsimp only [shC, shO, Option.isSome] at *
      go_wp2_with fail
      refine (T2.out _ (hS.call hB1)).mono ?_; rintro e w2 ⟨q1, d1, q2, d2, rfl, a4, a5, a6, b4, b5, b6, hB2⟩
      dsimp only [shC, shO, Option.isSome] at *
      have hB := BelowOn hB1 hB2
      have a3' := a3.call hB2
      have b3' := b3.call hB2
      clear a3 b3
      cases r1
      · go_wp2_with fail
        refine (U1.out _ _ _ _ _ a3' a6 a1 a4 a2 a5).mono ?_; rintro e w3 ⟨rfl, hB3⟩
        have hBB := BelowOn hB hB3
        go_wp2_with fail
        go_ret
        exact ⟨rfl, hBB⟩
      · go_wp2_with fail
        refine (U1.out _ _ _ _ _ a3' a6 a1 a4 a2 a5).mono ?_; rintro e w3 ⟨rfl, hB3⟩
        have hBB := BelowOn hB hB3
        go_wp2_with fail
        refine (U2.out _ _ _ _ _ (b3'.call hB3) (b6.call hB3) b1 b4 b2 b5).mono ?_; rintro e w4 ⟨rfl, hB4⟩
        have hBC := BelowOn hBB hB4
        go_wp2_with fail
        go_ret
        cases r2 <;> exact ⟨rfl, hBC⟩

theorem comp_bools (l m : List It) : compL l m = (decide ((shL l).isSome = true ∧ shL l = shL m) && (decide ((tagsL l).Perm (tagsL m)) && decide (slS l = slS m))) := by
  unfold compL
  by_cases h1 : (shL l).isSome = true ∧ shL l = shL m
  · by_cases h2 : (tagsL l).Perm (tagsL m) <;> by_cases h3 : slS l = slS m <;> simp [h1, h2, h3]
  · rw [decide_eq_false h1, Bool.false_and]
    exact decide_eq_false fun h => h1 ⟨h.1, h.2.1⟩

/-- Strings that a call answers, as they lie. -/
def EndTF (L : List ByteArray) (w : World) (e : Ending) (w' : World) : Prop := ∃ p c, e = .returned (.slice p L.length c) ∧ L.length ≤ c ∧ c ≤ maxLen ∧ Ones w' Value.string p L ∧ Below w.heap.size w w'
theorem EndS.tf {L : List ByteArray} {w w' : World} {e : Ending} (h : EndS L w e w') : EndTF L w e w' := by
  obtain ⟨v, rfl, hA⟩ := h
  obtain ⟨p, c, rfl, h1, h2, h3⟩ := hA.own.strs
  exact ⟨p, c, rfl, h1, h2, h3, hA.below⟩

set_option maxHeartbeats 1600000 in
theorem compat_any (p q : Option Addr) (c d : Nat) (l m : List It) (w : World) (hR : Its w p l) (hS : Its w q m) (hO : Oks l) (hP : Oks m) (hc : l.length ≤ c) (hd : m.length ≤ d) (hcm : c ≤ maxLen) (hdm : d ≤ maxLen) (hl : l.length ≤ 4000000000) (hm : m.length ≤ 4000000000) :
    Calls Try.prog 50 #[.slice p l.length c, .slice q m.length d] w fun e w' => e = .returned (.bool (compL l m)) ∧ Below w.heap.size w w' := by
  have t1 := fun W i j => sameshape_any p q c d l m W i j hc hd hcm hdm hl hm
  have t2 := fun W i j => sametags_any p q c d l m W i j hO hP hc hd hcm hdm hl hm
  have t3 := fun W i => (slots_any p c l W i hc hcm hl).mono fun _ _ x => EndS.tf x
  have t4 := fun W i => (slots_any q d m W i hd hdm hm).mono fun _ _ x => EndS.tf x
  have t5 := fun p1 q1 c1 d1 W i j a1 a4 a2 a5 => eqtexts_any p1 q1 c1 d1 (slS l) (slS m) W i j a1 a4 a2 a5
  rw [comp_bools]
  generalize decide ((shL l).isSome = true ∧ shL l = shL m) = r1 at *
  generalize decide ((tagsL l).Perm (tagsL m)) = r2 at *
  generalize decide (slS l = slS m) = r3 at *
  generalize slS l = L at *
  generalize slS m = M at *
  have T1 := Lib.hid t1; have T2 := Lib.hid t2; have T3 := Lib.hid t3; have T4 := Lib.hid t4; have T5 := Lib.hid t5; clear t1 t2 t3 t4 t5
  unfold maxLen at hcm hdm
  cases r1
  · go_enter Try.func50, Try.ntmps50
    go_wp2_with fail
    refine (T1.out _ hR hS).mono ?_; rintro e w1 ⟨rfl, hB1⟩
    go_wp2_with fail
    go_ret
    exact ⟨rfl, hB1⟩
  · cases r2
    · go_enter Try.func50, Try.ntmps50
      go_wp2_with fail
      refine (T1.out _ hR hS).mono ?_; rintro e w1 ⟨rfl, hB1⟩
      go_wp2_with fail
      refine (T2.out _ (hR.call hB1) (hS.call hB1)).mono ?_; rintro e w2 ⟨rfl, hB2⟩
      have hB := BelowOn hB1 hB2
      go_wp2_with fail
      go_ret
      exact ⟨rfl, hB⟩
    · go_enter Try.func50, Try.ntmps50
      go_wp2_with fail
      refine (T1.out _ hR hS).mono ?_; rintro e w1 ⟨rfl, hB1⟩
      go_wp2_with fail
      refine (T2.out _ (hR.call hB1) (hS.call hB1)).mono ?_; rintro e w2 ⟨rfl, hB2⟩
      have hB := BelowOn hB1 hB2
      go_wp2_with fail
      refine (T3.out _ (hR.call hB)).mono ?_; rintro e w3 ⟨p1, c1, rfl, a1, a2, a3, hB3⟩
      have hBB := BelowOn hB hB3
      go_wp2_with fail
      refine (T4.out _ (hS.call hBB)).mono ?_; rintro e w4 ⟨p2, c2, rfl, b1, b2, b3, hB4⟩
      have hBC := BelowOn hBB hB4
      go_wp2_with fail
      refine (T5.out _ _ _ _ _ (a3.call hB4) b3 a1 b1 a2 b2).mono ?_; rintro e w5 ⟨rfl, hB5⟩
      have hBD := BelowOn hBC hB5
      go_wp2_with fail
      go_ret
      exact ⟨rfl, hBD⟩

theorem count_next (l : List It) (x : It) (k : Nat) (h : k < l.length) : (l.take (k + 1)).count x = (l.take k).count x + (if l[k]'h = x then 1 else 0) := by
  rw [List.take_succ_eq_append_getElem h, List.count_append, List.count_singleton]
  by_cases e : l[k] = x <;> simp [e]

set_option maxHeartbeats 1600000 in
theorem count_any (p : Option Addr) (cap : Nat) (l : List It) (x : It) (w : World) (hR : Its w p l) (hc : l.length ≤ cap) (hm : cap ≤ maxLen) (hn : l.length ≤ 4000000000) :
    Calls Try.prog 90 #[.slice p l.length cap, .agg #[.int .i64 x.k, .string x.t, .int .i64 x.id]] w fun e w' => e = .returned (.int .i64 (l.count x : Int)) ∧ Below w.heap.size w w' := by
  unfold maxLen at hm
  have mixed : Try.prog.follows .mixedOrders = true := by kernel_rfl
  go_enter Try.func90, Try.ntmps90
  go_wp2_with fail
  have V0 := Var3.new w x.k x.t x.id
  have hB0 := blw (Below.refl w.heap.size w) (.cells #[.int .i64 x.k, .string x.t, .int .i64 x.id] 26)
  have hR0 := hR.call hB0
  generalize w.alloc (.cells #[.int .i64 x.k, .string x.t, .int .i64 x.id] 26) = w0 at *
  go_loopw [5, 9] (fun v i wr => ∃ k : Nat, k ≤ l.length ∧ i = .int .i64 k ∧ v = .int .i64 ((l.take k).count x : Int) ∧ Below w0.heap.size w0 wr) (fun _ i _ => l.length - (intOf i).toNat)
  case atStart => exact ⟨0, Nat.zero_le _, rfl, rfl, Below.refl _ _⟩
  case round =>
    obtain ⟨k, hk, rfl, rfl, hB⟩ := hrel
    by_cases hlt : k < l.length
    · obtain ⟨a, rfl, ha, c0, c1, c2⟩ := (hR0.call hB).row k hlt
      obtain ⟨d0, d1, d2, dl⟩ := V0.call hB
      have hnx := count_next l x k hlt
      have hcl : (l.take k).count x ≤ 4000000000 := Nat.le_trans List.count_le_length (by rw [List.length_take]; omega)
      generalize l[k] = y at *
      generalize (l.take k).count x = n at *
      have wr1 : IntKind.i64.wrap ((n : Int) + 1) = (n : Int) + 1 := IntWalk.i64_in _ ⟨by omega, by omega⟩
      have HN := Lib.hid hnx; clear hnx
      obtain ⟨k1, t1, i1⟩ := x
      obtain ⟨k2, t2, i2⟩ := y
      dsimp only at c0 c1 c2 d0 d1 d2
      by_cases hkk : k2 = k1
      · subst hkk
        by_cases htt : t2 = t1
        · subst htt
          by_cases hii : i2 = i1
          · subst hii
            have HX := Lib.hid (HN.out.trans (by rw [if_pos rfl]))
            clear HN
            go_wp2_with fail
            go_quiet (fail)
            go_wp2_with fail
            go_roundw
            case rel => exact ⟨k + 1, hlt, by go_num, by rw [HX.out]; go_num, bdrN hB _⟩
            case measure => simp [intOf]; omega
          · have HX := Lib.hid (HN.out.trans (by rw [if_neg (by intro e; injection e with e1 e2 e3; exact hii e3)]))
            clear HN
            go_wp2_with fail
            go_quiet (fail)
            go_wp2_with fail
            go_roundw
            case rel => exact ⟨k + 1, hlt, by go_num, by rw [HX.out]; go_num, bdrN hB _⟩
            case measure => simp [intOf]; omega
        · have HX := Lib.hid (HN.out.trans (by rw [if_neg (by intro e; injection e with e1 e2 e3; exact htt e2)]))
          have qs := strl_ne htt
          have qs' := str_ne htt
          clear HN
          go_wp2_with fail
          go_quiet (fail)
          go_wp2_with fail
          go_roundw
          case rel => exact ⟨k + 1, hlt, by go_num, by rw [HX.out]; go_num, bdrN hB _⟩
          case measure => simp [intOf]; omega
      · have HX := Lib.hid (HN.out.trans (by rw [if_neg (by intro e; injection e with e1 e2 e3; exact hkk e1)]))
        clear HN
        go_wp2_with fail
        go_quiet (fail)
        go_wp2_with fail
        go_roundw
        case rel => exact ⟨k + 1, hlt, by go_num, by rw [HX.out]; go_num, bdrN hB _⟩
        case measure => simp [intOf]; omega
    · obtain rfl : k = l.length := by omega
      rw [List.take_length]
      have hBB := hB0.trans (hB.mono hB0.size)
      go_wp2_with fail
      go_ret
      exact ⟨rfl, hBB⟩
end Go.Proofs.Ytnfapcfajoboaaa
namespace Go.Proofs.Ytnfapcfajoboaaa
open Go.ChangeShapes Go.WideShapes Go.ChangeAt Go.RowKit Go.Maps Go.Sort
set_option linter.unusedVariables false
set_option linter.unusedSimpArgs false
set_option maxRecDepth 100000

theorem shape_bools (xc xo yc yo : List Int) : decide ((some (xc, xo)).isSome = true ∧ some (xc, xo) = some (yc, yo)) = (decide (xc = yc) && decide (xo = yo)) := by
  by_cases h1 : xc = yc <;> by_cases h2 : xo = yo <;> simp [h1, h2]
theorem not_counts (L M : List It) (i : Nat) (h : i < L.length) (hne : L.count L[i] ≠ M.count L[i]) : decide (L.Perm M) = false :=
  decide_eq_false fun e => hne (e.count_eq _)
theorem all_counts (L M : List It) (hl : L.length = M.length) (h : ∀ j (hj : j < L.length), j < L.length → L.count L[j] = M.count L[j]) : decide (L.Perm M) = true :=
  decide_eq_true (perm_counts L M hl fun x hx => by
    obtain ⟨j, hj, rfl⟩ := List.getElem_of_mem hx
    exact h j hj hj)

set_option maxHeartbeats 6400000 in
theorem rcompat_any (p q : Option Addr) (c d : Nat) (l m : List It) (w : World) (hR : Its w p l) (hS : Its w q m) (hc : l.length ≤ c) (hd : m.length ≤ d) (hcm : c ≤ maxLen) (hdm : d ≤ maxLen) (hl : l.length ≤ 4000000000) (hm : m.length ≤ 4000000000) :
    Calls Try.prog 51 #[.slice p l.length c, .slice q m.length d] w fun e w' => e = .returned (.bool (compL l m)) ∧ Below w.heap.size w w' := by
  have t1 := fun W i => (rshape_any p c l W i hc hcm hl).mono fun _ _ x => EndSh.u x
  have t2 := fun W i => (rshape_any q d m W i hd hdm hm).mono fun _ _ x => EndSh.u x
  have t3 := fun W i => (rslots_any p c l W i hc hcm hl).mono fun _ _ x => EndS.tf x
  have t4 := fun W i => (rslots_any q d m W i hd hdm hm).mono fun _ _ x => EndS.tf x
  have t5 := fun p1 q1 c1 d1 W i j a1 a4 a2 a5 => sametexts_any p1 q1 c1 d1 (slS l) (slS m) W i j a1 a4 a2 a5
  have t6 := fun W i => (rtags_any p c l W i hc hcm hl).mono fun _ _ x => EndI.f x
  have t7 := fun W i => (rtags_any q d m W i hd hdm hm).mono fun _ _ x => EndI.f x
  have hL := tags_len l
  have hM := tags_len m
  have mixed : Try.prog.follows .mixedOrders = true := by kernel_rfl
  unfold maxLen at hcm hdm
  rw [comp_bools]
  generalize shL l = s at *
  generalize shL m = t at *
  generalize decide (slS l = slS m) = r3 at *
  generalize slS l = SL at *
  generalize slS m = SM at *
  generalize tagsL l = L at *
  generalize tagsL m = M at *
  have T1 := Lib.hid t1; have T2 := Lib.hid t2; have T3 := Lib.hid t3; have T4 := Lib.hid t4; have T5 := Lib.hid t5; have T6 := Lib.hid t6; have T7 := Lib.hid t7; clear t1 t2 t3 t4 t5 t6 t7
  cases s with
  | none =>
    have e : decide ((none : Option (List Int × List Int)).isSome = true ∧ none = t) = false := decide_eq_false (by simp)
    rw [e, Bool.false_and]
    go_enter Try.func51, Try.ntmps51
    go_wp2_with fail
    refine (T1.out _ hR).mono ?_; rintro e w1 ⟨p1, c1, p2, c2, rfl, a1, a2, a3, b1, b2, b3, hB1⟩
    dsimp only [shC, shO, Option.isSome] at *
    go_wp2_with fail
    refine (T2.out _ (hS.call hB1)).mono ?_; rintro e w2 ⟨q1, d1, q2, d2, rfl, a4, a5, a6, b4, b5, b6, hB2⟩
    have hB := BelowOn hB1 hB2
    go_wp2_with fail
    go_ret
    exact ⟨rfl, hB⟩
  | some x =>
    obtain ⟨xc, xo⟩ := x
    cases t with
    | none =>
      have e : decide ((some (xc, xo)).isSome = true ∧ some (xc, xo) = none) = false := decide_eq_false (by simp)
      rw [e, Bool.false_and]
      go_enter Try.func51, Try.ntmps51
      go_wp2_with fail
      refine (T1.out _ hR).mono ?_; rintro e w1 ⟨p1, c1, p2, c2, rfl, a1, a2, a3, b1, b2, b3, hB1⟩
      dsimp only [shC, shO, Option.isSome] at *
      go_wp2_with fail
      refine (T2.out _ (hS.call hB1)).mono ?_; rintro e w2 ⟨q1, d1, q2, d2, rfl, a4, a5, a6, b4, b5, b6, hB2⟩
      dsimp only [shC, shO, Option.isSome] at *
      have hB := BelowOn hB1 hB2
      go_wp2_with fail
      go_ret
      exact ⟨rfl, hB⟩
    | some y =>
      obtain ⟨yc, yo⟩ := y
      rw [shape_bools]
      have u1 := fun p1 q1 c1 d1 W i j a1 a4 a2 a5 => sameints_any p1 q1 c1 d1 xc yc W i j a1 a4 a2 a5
      have u2 := fun p1 q1 c1 d1 W i j a1 a4 a2 a5 => sameints_any p1 q1 c1 d1 xo yo W i j a1 a4 a2 a5
      generalize decide (xc = yc) = r1 at *
      generalize decide (xo = yo) = r2 at *
      have U1 := Lib.hid u1; have U2 := Lib.hid u2; clear u1 u2
      generalize hres : ((r1 && r2) && (decide (L.Perm M) && r3)) = res
      have HRES := Lib.hid hres; clear hres
      go_enter Try.func51, Try.ntmps51
      go_wp2_with fail
      refine (T1.out _ hR).mono ?_; rintro e w1 ⟨p1, c1, p2, c2, rfl, a1, a2, a3, b1, b2, b3, hB1⟩
      dsimp only [shC, shO, Option.isSome] at *
      go_wp2_with fail
      refine (T2.out _ (hS.call hB1)).mono ?_; rintro e w2 ⟨q1, d1, q2, d2, rfl, a4, a5, a6, b4, b5, b6, hB2⟩
      dsimp only [shC, shO, Option.isSome] at *
      have hB := BelowOn hB1 hB2
      have a3' := a3.call hB2
      have b3' := b3.call hB2
      clear a3 b3
      cases r1
      · go_wp2_with fail
        refine (U1.out _ _ _ _ _ a3' a6 a1 a4 a2 a5).mono ?_; rintro e w3 ⟨rfl, hB3⟩
        have hBB := BelowOn hB hB3
        go_wp2_with fail
        go_ret
        exact ⟨ret_bool HRES.out, hBB⟩
      · go_wp2_with fail
        refine (U1.out _ _ _ _ _ a3' a6 a1 a4 a2 a5).mono ?_; rintro e w3 ⟨rfl, hB3⟩
        have hBB := BelowOn hB hB3
        cases r2
        · go_wp2_with fail
          refine (U2.out _ _ _ _ _ (b3'.call hB3) (b6.call hB3) b1 b4 b2 b5).mono ?_; rintro e w4 ⟨rfl, hB4⟩
          have hBC := BelowOn hBB hB4
          go_wp2_with fail
          go_ret
          exact ⟨ret_bool HRES.out, hBC⟩
        · go_wp2_with fail
          refine (U2.out _ _ _ _ _ (b3'.call hB3) (b6.call hB3) b1 b4 b2 b5).mono ?_; rintro e w4 ⟨rfl, hB4⟩
          have hBC := BelowOn hBB hB4
          clear a3' b3' a6 b6 hBB hB
          go_wp2_with fail
          refine (T3.out _ (hR.call hBC)).mono ?_; rintro e w5 ⟨p3, c3, rfl, g1, g2, g3, hB5⟩
          have hBD := BelowOn hBC hB5
          go_wp2_with fail
          refine (T4.out _ (hS.call hBD)).mono ?_; rintro e w6 ⟨p4, c4, rfl, g4, g5, g6, hB6⟩
          have hBE := BelowOn hBD hB6
          cases r3
          · go_wp2_with fail
            refine (T5.out _ _ _ _ _ (g3.call hB6) g6 g1 g4 g2 g5).mono ?_; rintro e w7 ⟨rfl, hB7⟩
            have hBF := BelowOn hBE hB7
            have hf : false = res := by rw [← HRES.out]; simp
            clear HRES
            subst hf
            go_wp2_with fail
            go_ret
            exact ⟨rfl, hBF⟩
          · go_wp2_with fail
            refine (T5.out _ _ _ _ _ (g3.call hB6) g6 g1 g4 g2 g5).mono ?_; rintro e w7 ⟨rfl, hB7⟩
            have hBF := BelowOn hBE hB7
            have HR2 : Hid (decide (L.Perm M) = res) := Lib.hid (by rw [← HRES.out]; simp)
            clear HRES T1 T2 T3 T4 T5 U1 U2 hB1 hB2 hB3 hB4 hB5 hB6 hB7 hBC hBD hBE g3 g6
            go_wp2_with fail
            refine (T6.out _ (hR.call hBF)).mono ?_; rintro e w8 ⟨p5, c5, rfl, g7, g8, hI8, hB8⟩
            have hBG := BelowOn hBF hB8
            go_wp2_with fail
            refine (T7.out _ (hS.call hBG)).mono ?_; rintro e w9 ⟨p6, c6, rfl, g9, g10, hI9, hB9⟩
            have hBH := BelowOn hBG hB9
            have hI8' := hI8.call hB9
            clear T6 T7 hI8 hBF hBG hB8 hB9
            unfold maxLen at g8 g10
            by_cases hlen : L.length = M.length
            · have qn : ((L.length : Int) != (M.length : Int)) = false := by simp [hlen]
              have qn' : (L.length != M.length) = false := by simp [hlen]
              have hall := all_counts L M hlen
              have hnot := not_counts L M
              have HL := Lib.hid hlen; have HA := Lib.hid hall; have HNO := Lib.hid hnot
              clear hall hnot hlen
              have cnt1 := fun (x : It) (W : World) (i : Its W p5 L) => count_any p5 c5 L x W i g7 g8 (by omega)
              have cnt2 := fun (x : It) (W : World) (i : Its W p6 M) => count_any p6 c6 M x W i g9 g10 (by omega)
              have C1 := Lib.hid cnt1; have C2 := Lib.hid cnt2; clear cnt1 cnt2
              go_wp2_with fail
              go_loopw [63] (fun i wr => ∃ k : Nat, k ≤ L.length ∧ i = .int .i64 k ∧ Below w9.heap.size w9 wr ∧ Hid (∀ j (hj : j < L.length), j < k → L.count L[j] = M.count L[j])) (fun i _ => L.length - (intOf i).toNat)
              case atStart => exact ⟨0, Nat.zero_le _, rfl, Below.refl _ _, Lib.hid (fun j _ h => by omega)⟩
              case round =>
                obtain ⟨k, hk, rfl, hB, HK⟩ := hrel
                by_cases hlt : k < L.length
                · obtain ⟨a, rfl, ha, c0, c1, c2⟩ := (hI8'.call hB).row k hlt
                  have hJ8 := hI8'.call hB
                  have hJ9 := hI9.call hB
                  have hno := HNO.out k hlt
                  have hnx : L.count (L[k]) = M.count (L[k]) → ∀ j (hj : j < L.length), j < k + 1 → L.count L[j] = M.count L[j] := fun h j hj hjk => by
                    by_cases e : j = k
                    · subst e; exact h
                    · exact HK.out j hj (by omega)
                  generalize L[k] = x at *
                  have k0 := cell_regrown c0
                  have k1 := cell_regrown c1
                  have k2 := cell_regrown c2
                  have cQ : ∀ d os, Calls Try.prog 90 #[.slice (some a) L.length c5, .agg #[.int .i64 x.k, .string x.t, .int .i64 x.id]] (grow (redrawn wr d) os) fun e w'' => e = .returned (.int .i64 (L.count x : Int)) ∧ ∃ p : Regrown, w'' = grow (redrawn wr p.d) p.os := fun d os => Calls.regrown_of (C1.out x _ (hJ8.call (below_regrown wr d os)))
                  have cE : ∀ d os, Calls Try.prog 90 #[.slice p6 M.length c6, .agg #[.int .i64 x.k, .string x.t, .int .i64 x.id]] (grow (redrawn wr d) os) fun e w'' => e = .returned (.int .i64 (M.count x : Int)) ∧ ∃ p : Regrown, w'' = grow (redrawn wr p.d) p.os := fun d os => Calls.regrown_of (C2.out x _ (hJ9.call (below_regrown wr d os)))
                  have HX := Lib.hid hnx; have HY := Lib.hid hno; clear hnx hno
                  generalize L.count x = n1 at *
                  generalize M.count x = n2 at *
                  go_wp2_with fail
                  refine wp_region_quiet_below (by assumption) (by kernel_rfl) ?_
                  iterate 8 (quiet_step (exact cQ _ _))
                  repeat (quiet_step (exact cE _ _))
                  refine wpQuiet_nil ?_
                  intro _ hw'
                  obtain ⟨⟨dq, osq⟩, hw''⟩ := hw'
                  subst hw''
                  have hB2 := BelowOn hB (below_regrown wr dq osq)
                  by_cases hn : n1 = n2
                  · subst hn
                    have HZ := Lib.hid (HX.out rfl); clear HX HY
                    go_wp2_with fail
                    go_roundw
                    case rel => exact ⟨k + 1, hlt, by go_num, hB2, HZ⟩
                    case measure => simp [intOf]; omega
                  · have hf : false = res := by rw [← HR2.out]; exact (HY.out hn).symm
                    have q1 : ((n1 : Int) != (n2 : Int)) = true := by simp; omega
                    subst hf
                    clear HX HY HR2
                    have hB3 := BelowOn hBH hB2
                    go_wp2_with fail
                    go_ret
                    exact ⟨rfl, hB3⟩
                · obtain rfl : k = L.length := by omega
                  have hf : true = res := by rw [← HR2.out]; exact (HA.out (fun j hj h => HK.out j hj h)).symm
                  subst hf
                  clear HR2
                  have hB3 := BelowOn hBH hB
                  go_wp2_with fail
                  go_ret
                  exact ⟨rfl, hB3⟩
            · have qn : ((L.length : Int) != (M.length : Int)) = true := by simp; omega
              have qn' : (L.length != M.length) = true := by simp; omega
              have hf : false = res := by rw [← HR2.out]; exact (decide_eq_false fun e => hlen e.length_eq).symm
              subst hf
              clear HR2
              go_wp2_with fail
              go_ret
              exact ⟨rfl, hBH⟩
end Go.Proofs.Ytnfapcfajoboaaa
namespace Go.Proofs.Ytnfapcfajoboaaa
open Go.ChangeShapes Go.WideShapes Go.ChangeAt Go.RowKit
set_option linter.unusedVariables false
set_option maxRecDepth 100000

/-- Its numbers are numbers of Go. -/
def Kid (x : It) : Prop := (Lit.int .i64 x.k).wf = true ∧ (Lit.int .i64 x.id).wf = true
theorem kid_text (t : ByteArray) : Kid ⟨1, t, 0⟩ := ⟨show (Lit.int .i64 1).wf = true by decide, show (Lit.int .i64 0).wf = true by decide⟩
theorem kid_normS (out : List It) (x : It) (h : ∀ y ∈ out, Kid y) (hx : Kid x) : ∀ y ∈ normS out x, Kid y := by
  unfold normS
  split
  · split
    · exact h
    · split
      · rename_i y hy
        split
        · intro z hz
          rcases List.mem_append.1 hz with hz | hz
          · exact h z (List.dropLast_subset _ hz)
          · rw [List.mem_singleton.1 hz]; exact kid_text _
        · intro z hz
          rcases List.mem_append.1 hz with hz | hz
          · exact h z hz
          · rw [List.mem_singleton.1 hz]; exact kid_text _
      · intro z hz
        rcases List.mem_append.1 hz with hz | hz
        · exact h z hz
        · rw [List.mem_singleton.1 hz]; exact kid_text _
  · intro z hz
    rcases List.mem_append.1 hz with hz | hz
    · exact h z hz
    · rw [List.mem_singleton.1 hz]; exact hx
theorem kid_norm (l : List It) : (∀ y ∈ l, Kid y) → ∀ y ∈ norm l, Kid y := by
  refine list_rev (P := fun l => (∀ y ∈ l, Kid y) → ∀ y ∈ norm l, Kid y) (fun _ y hy => by cases hy) (fun l x ih h => ?_) l
  rw [norm_snoc]
  exact kid_normS _ _ (ih fun y hy => h y (List.mem_append_left _ hy)) (h x (List.mem_append_right _ (List.mem_singleton.2 rfl)))
theorem kid_snoc {l : List It} {x : It} (h : ∀ y ∈ l, Kid y) (hx : Kid x) : ∀ y ∈ l ++ [x], Kid y := fun z hz => by
  rcases List.mem_append.1 hz with hz | hz
  · exact h z hz
  · rw [List.mem_singleton.1 hz]; exact hx
theorem kid_tar (L : List Int) (m : Nat) (l : List It) : (∀ y ∈ l, Kid y) → ∀ y ∈ (tarL L m l).1, Kid y := by
  refine list_rev (P := fun l => (∀ y ∈ l, Kid y) → ∀ y ∈ (tarL L m l).1, Kid y) (fun _ y hy => by cases hy) (fun l x ih h => ?_) l
  have ih := ih fun y hy => h y (List.mem_append_left _ hy)
  have hx := h x (List.mem_append_right _ (List.mem_singleton.2 rfl))
  rw [tar_snoc]
  unfold tarS
  split
  · exact kid_norm _ (kid_snoc ih ⟨hx.1, hx.2⟩)
  · split
    · exact kid_norm _ (kid_snoc (kid_norm _ (kid_snoc ih (kid_text _))) hx)
    · exact kid_norm _ (kid_snoc ih hx)
theorem Oks.kid {l : List It} (h : Oks l) : ∀ y ∈ l, Kid y := fun y hy => by
  obtain ⟨i, hi, rfl⟩ := List.getElem_of_mem hy
  exact ⟨(h i hi).k, (h i hi).id⟩
theorem oks_kid {l : List It} (h : ∀ y ∈ l, Kid y) (ht : txtI l ≤ 140737488355328) : Oks l := fun i hi =>
  ⟨(h _ (List.getElem_mem hi)).1, Nat.le_trans (mem_txt (List.getElem_mem hi)) ht, (h _ (List.getElem_mem hi)).2⟩

/-- A fragment that a call has made: a slice in a block of its own. -/
def EndFA (L : List It) (w : World) (e : Ending) (w' : World) : Prop := ∃ p c, e = .returned (.slice p L.length c) ∧ L.length ≤ c ∧ c ≤ maxLen ∧ Its w' p L ∧ (∀ a, p = some a → a.block < w'.heap.size) ∧ Below w.heap.size w w'
theorem made_fa (p : Option Addr) (cap : Nat) (L : List Int) (tags nested : Bool) (w : World) (hL : Ones w (Value.int .i64) p L) (hw : ∀ i (h : i < L.length), (Lit.int .i64 (L[i]'h)).wf = true) (hc : L.length ≤ cap) (hm : cap ≤ maxLen) :
    Calls Try.prog 23 #[.slice p L.length cap, .bool tags, .bool nested] w (EndFA (mk L tags nested) w) :=
  (made_any p cap L tags nested w hL hw hc hm).mono fun _ _ ⟨v, he, hA⟩ => by
    obtain ⟨p, c, rfl, h1, h2, h3⟩ := hA.own.its
    exact ⟨p, c, he, h1, h2, h3, fun a ha => (OwnL.addr hA.own a ha).2, hA.below⟩

/-- Target, the numbers newly laid. -/
theorem target_f (pn : Option Addr) (cn : Nat) (L : List Int) (p : Option Addr) (cap : Nat) (l : List It) (W : World) (hL : Ones W (Value.int .i64) pn L) (hw : ∀ i (h : i < L.length), (Lit.int .i64 (L[i]'h)).wf = true) (hn : L.length ≤ cn) (hnm : cn ≤ maxLen)
    (hI : Its W p l) (hpb : ∀ a, p = some a → a.block < W.heap.size) (hc : l.length ≤ cap) (hcm : cap ≤ maxLen) (hl : l.length ≤ 1000) (ht : txtI l ≤ 1000000) :
    Calls Try.prog 49 #[.pointer (some ⟨W.heap.size, 0, none⟩), .slice p l.length cap] (W.alloc (.cells #[.slice pn L.length cn, .int .i64 0] 38)) fun e w' => ∃ p' c', e = .returned (.slice p' (tarL L 0 l).1.length c') ∧ (tarL L 0 l).1.length ≤ c' ∧ c' ≤ maxLen ∧ Its w' p' (tarL L 0 l).1 ∧ Below W.heap.size W w' := by
  have hN := NumsAt.made hL hw hn hnm
  have hI' := hI.call (blw (Below.refl _ _) (.cells #[.slice pn L.length cn, .int .i64 0] 38))
  refine (target_any W.heap.size pn cn L 0 p cap l _ hN (fun h0 a ha => by have := ones_any hL h0 a ha; simp; omega) (by omega) hI' (fun a ha => by have := hpb a ha; omega) hc hcm hl ht).mono ?_
  rintro e w' ⟨v, rfl, hg, _, hown⟩
  obtain ⟨p', c', rfl, h1, h2, h3⟩ := hown.its
  exact ⟨p', c', rfl, h1, h2, h3, (blw (Below.refl W.heap.size W) _).trans (grown_below hg (Nat.le_refl _) (by simp))⟩
/-- Target, the numbers laid before. -/
theorem target_g (b : Nat) (pn : Option Addr) (cn : Nat) (L : List Int) (m : Nat) (p : Option Addr) (cap : Nat) (l : List It) (W : World) (hN : NumsAt W b pn cn L m) (hlo : ∀ a, pn = some a → 0 < L.length → a.block < W.heap.size) (hm : m ≤ 100000)
    (hI : Its W p l) (hpb : ∀ a, p = some a → a.block ≠ b) (hc : l.length ≤ cap) (hcm : cap ≤ maxLen) (hl : l.length ≤ 1000) (ht : txtI l ≤ 1000000) :
    Calls Try.prog 49 #[.pointer (some ⟨b, 0, none⟩), .slice p l.length cap] W fun e w' => ∃ p' c', e = .returned (.slice p' (tarL L m l).1.length c') ∧ (tarL L m l).1.length ≤ c' ∧ c' ≤ maxLen ∧ Its w' p' (tarL L m l).1 ∧ (∀ a, p' = some a → W.heap.size ≤ a.block) ∧ NumsAt w' b pn cn L (tarL L m l).2 ∧ W.grownBy w' (some b) := by
  refine (target_any b pn cn L m p cap l W hN (fun h0 a ha => hlo a ha h0) hm hI hpb hc hcm hl ht).mono ?_
  rintro e w' ⟨v, rfl, hg, hN2, hown⟩
  obtain ⟨p', c', rfl, h1, h2, h3⟩ := OwnL.its hown
  exact ⟨p', c', rfl, h1, h2, h3, fun a ha => (OwnL.addr hown a ha).1, hN2, hg⟩
end Go.Proofs.Ytnfapcfajoboaaa
