/- Maps from tags to numbers; contracts of count and surplus. Contract of Distance; the laws' generator; the fixed example. The fixed example; the laws' generator. The walk of DistanceMetric. The walk of DistanceJoins. -/
import Derived.Test.YtpkipdiecnokhaaDtA
import Derived.Test.YtpkipdiecnokhaaDtB
import Derived.Test.YtpkipdiecnokhaaMap
import Derived.Test.YtpkipdiecnokhaaVal
import Derived.DeepKeys4
import Derived.WideKeyEntry
import Derived.Test.YtpkipdiecnokhaaFst
import Derived.Test.YtpkipdiecnokhaaDtC
import Derived.WalkKit
import Derived.Maps.Ext
import Derived.Maps.RangeWalk
import Derived.Laws.IdiomRangeMap
import Derived.Deep.LoopGhost
import Derived.Test.YtpkipdiecnokhaaDtD
import Derived.Test.YtpkipdiecnokhaaDtU
namespace Go.Proofs.Ytpkipdiecnokhaa
open Go.ChangeShapes Go.WideShapes Go.ChangeAt Go.RowKit Go.Maps
set_option linter.unusedVariables false
set_option linter.unusedSimpArgs false
set_option linter.unusedSectionVars false
set_option maxRecDepth 100000

theorem laidOut : laidOutB Try.prog = true := by kernel_rfl
theorem rowTg : (90 : TypeId) < Try.prog.types.size := of_decide_eq_true (by kernel_rfl)
theorem wideTg : (match Try.prog.underlying 90 with | some (.array _ _) | some (.struct _) => true | _ => false) = true := by kernel_rfl
theorem lawTg : WideMaps.KeyLaw Try.prog 90 := deep_law_laid laidOut (m := 2) (by omega) rowTg (by kernel_rfl) wideTg
theorem kTg : Keyed Try.prog 90 := Keyed.of_law lawTg
theorem tgv_inj (a b : Tg) (h : a.v = b.v) : a = b := by
  unfold Tg.v at h
  injection h with h
  simp only [Array.mk.injEq, List.cons.injEq, Value.int.injEq, Value.string.injEq, true_and, and_true] at h
  cases a; cases b; simp_all
theorem deepTg : Try.prog.keyType 90 = true := by kernel_rfl
theorem undTg : ∃ f0 f1 : Field, Try.prog.underlying 90 = some (.struct #[f0, f1]) ∧ f0.type = 3 ∧ f1.type = 9 ∧ f0.offset = 0 ∧ f1.offset = 1 := ⟨_, _, Try.underlying90, rfl, rfl, rfl, rfl⟩
theorem cellsTg : Try.prog.cellsOf 90 = 2 := by kernel_rfl
theorem key_tg (x : Tg) (hk : (Lit.int .i64 x.k).wf = true) (ht : x.t.size ≤ maxLen) : ∃ l, keyOf Try.prog 90 x.v = some l := by
  obtain ⟨m, hm⟩ : ∃ m, Try.prog.types.size + 1 = m + 1 + 1 := ⟨Try.prog.types.size - 1, by have h : 90 < Try.prog.types.size := rowTg; omega⟩
  obtain ⟨f0, f1, hu, t0, t1, o0, o1⟩ := undTg
  have hf : x.v.formed Try.prog 90 = true := by unfold Tg.v; simp [Value.formed, hu, cellsTg]
  have hn : (#[f0, f1] : Array Field).all (fun f => f.name != "_") = true := by
    have h := deepTg
    unfold Program.keyType at h
    rw [hm, Program.keyTypeAt, hu] at h
    simp only [Bool.and_eq_true] at h
    have h1 := h.1.1
    rw [Array.all_eq_true_iff_forall_mem] at h1 ⊢
    intro f hf
    have := h1 f hf
    simp only [Bool.and_eq_true] at this
    exact this.1
  have hc : x.v.cells.toList = [.int .i64 x.k, .string x.t] := rfl
  have hl : ∃ ls, Try.prog.keyLits (Try.prog.types.size + 1) 90 [.int .i64 x.k, .string x.t] = some ls := by
    rw [hm]
    unfold Program.keyLits
    simp only [hu, cellsTg, hn]
    refine ⟨[.int .i64 x.k, .string x.t.data.toList], ?_⟩
    rw [if_pos ⟨rfl, trivial⟩]
    have e0 : Try.prog.keyLits (m + 1) 3 [.int .i64 x.k] = some [.int .i64 x.k] := by unfold Program.keyLits; simp [Try.underlying3, hk]
    have e1 : Try.prog.keyLits (m + 1) 9 [.string x.t] = some [.string x.t.data.toList] := by unfold Program.keyLits; simp [Try.underlying9, ht]
    simp [t0, t1, o0, o1, cells3, cells9, e0, e1]
  obtain ⟨ls, hls⟩ := hl
  unfold keyOf
  rw [hu]
  simp only [deepTg, hf, Bool.and_self, if_true]
  rw [hc, hls]
  exact ⟨_, rfl⟩
theorem zeroT (u : World) : (zeroValue 3).run Try.prog u = .ok (vInt 0) u := zeroI u

section
variable {κ β : Type} [DecidableEq κ] {kt et T : TypeId} {kv : κ → Value} {enc : β → Value}
open Go.ChangeMaps (setBlock heap_setBlock_same heap_setBlock_other)
/-- An entry is looked for, or laid; and what is stored into it afterwards. -/
theorem MapAt.entryG (law : WideMaps.KeyLaw Try.prog kt) (hinj : ∀ a b : κ, kv a = kv b → a = b) {w : World} {b n : Nat} {f : κ → Option β} (h : MapAt kt kv enc w b n f) (ht : Try.prog.underlying T = some (.map kt et)) (hn : n < maxLen) (z : β) (hz : ∀ u : World, (zeroValue et).run Try.prog u = .ok (enc z) u)
    {k : κ} {l : Lit} (hkey : keyOf Try.prog kt (kv k) = some l) : ∃ (st : Nat) (w1 : World) (f1 : κ → Option β), (Instr.mapEntry T (.map (some b)) (kv k)).run Try.prog w = .ok (.tuple #[pickE enc (enc z) (f k), goInt st]) w1 ∧ w.grownBy w1 (some b) ∧ w1.heap.size = w.heap.size ∧
      MapAt kt kv enc w1 b (n + 1) f1 ∧ pickE enc (enc z) (f1 k) = pickE enc (enc z) (f k) ∧
      ∀ (w2 : World) (v : β), w2.heap[b]? = w1.heap[b]? → ∃ w3, (Instr.entryStore T (.map (some b)) (goInt st) (enc v)).run Try.prog w2 = .ok () w3 ∧ MapAt kt kv enc w3 b (n + 1) (fun k' => if k' = k then some v else f k') ∧ w2.grownBy w3 (some b) ∧ w3.heap.size = w2.heap.size := by
  have hlook := h.look (T := T) (Keyed.of_law law) ht (hz w) hkey
  have hput := h.put (Keyed.of_law law) hinj ht hn hkey
  obtain ⟨D, ⟨es, clock, hb, F, h2⟩, r⟩ := id h
  have hbl : b < w.heap.size := h.lt
  obtain ⟨v0, st, es1, clock1, hrun, hv0, hst⟩ := WideElems.entry_then_store law ht hz hb F hkey
  have hbl2 : ∀ w2 : World, w2.heap[b]? = (setBlock w b (.map es1 clock1)).heap[b]? → w2.heap[b]? = some (.map es1 clock1) ∧ b < w2.heap.size := fun w2 e => by
    rw [heap_setBlock_same hb] at e
    refine ⟨e, ?_⟩
    rcases Nat.lt_or_ge b w2.heap.size with hlt | hge
    · exact hlt
    · rw [Array.getElem?_eq_none hge] at e; cases e
  have grow : ∀ (u : World) (o : Obj) (es : Array MapEntry) (c : Nat), u.heap[b]? = some (.map es c) → u.grownBy (setBlock u b o) (some b) := fun u o es c hu => ⟨rfl, rfl, rfl, by simp [setBlock], fun i hi hne => heap_setBlock_other hu o (fun e => hne (by rw [e]))⟩
  have store : ∀ (w2 : World) (v : β), w2.heap[b]? = (setBlock w b (.map es1 clock1)).heap[b]? → ∃ w3, (Instr.entryStore T (.map (some b)) (goInt st) (enc v)).run Try.prog w2 = .ok () w3 ∧ MapAt kt kv enc w3 b (n + 1) (fun k' => if k' = k then some v else f k') ∧ w2.grownBy w3 (some b) ∧ w3.heap.size = w2.heap.size := fun w2 v e => by
    obtain ⟨e1, hlt⟩ := hbl2 w2 e
    obtain ⟨es', clock', hr1, hr2⟩ := hst w2 (enc v) e1
    obtain ⟨w', hp1, hp2, _⟩ := hput v
    rw [hr2] at hp1
    replace hp1 := (Result.ok.inj hp1).2
    refine ⟨_, hr1, ?_, grow _ _ _ _ e1, by simp [setBlock]⟩
    rw [← hp1] at hp2
    exact hp2.block (by rw [heap_setBlock_same hb, heap_setBlock_same e1])
  -- the world behind the entry
  rcases law.find w hkey es.toList F.keys with ⟨h3, h4⟩ | ⟨j, e0, h3, h4, h5⟩
  · -- no entry: the zero value is laid
    have hz0 : pickE enc (enc z) (f k) = enc z := by
      have : (Instr.lookup T (.map (some b)) (kv k) false).run Try.prog w = .ok (enc z) w := by
        simp [Instr.lookup, run_underlying ht, MapKept.run_getObj_map hb, law.check w _ hkey, h3, hz, Result.andThen]
      rw [this] at hlook
      exact (Result.ok.inj hlook).1.symm
    obtain ⟨w', hp1, hp2, hp3⟩ := hput z
    have e1 : (Instr.mapEntry T (.map (some b)) (kv k)).run Try.prog w = .ok (.tuple #[enc z, goInt clock]) w' := by
      have e2 : (Instr.mapUpdate T (.map (some b)) (kv k) (enc z)).run Try.prog w = .ok () (setBlock w b (.map (es.push ⟨(kv k), enc z, clock⟩) (clock + 1))) := by
        simp [Instr.mapUpdate, run_underlying ht, MapKept.run_getObj_map hb, law.check w false hkey, h3, MapKept.run_setObj_map _ hb, Result.andThen, setBlock]
      rw [e2] at hp1
      replace hp1 := (Result.ok.inj hp1).2
      rw [← hp1]
      simp [Instr.mapEntry, run_underlying ht, MapKept.run_getObj_map hb, law.check w false hkey, h3, hz, MapKept.run_setObj_map _ hb, Result.andThen, setBlock]
    rw [e1] at hrun
    obtain ⟨hr, hw⟩ := Result.ok.inj hrun
    refine ⟨st, w', _, ?_, hp3, by rw [hw]; simp [setBlock], hp2, by rw [hz0]; simp [pickE], fun w2 v e => store w2 v (by rw [e, hw])⟩
    rw [hz0, e1]
    have : goInt clock = goInt st := by
      injection hr with hr
      simp only [Array.mk.injEq, List.cons.injEq, and_true] at hr
      exact hr.2
    rw [this]
  · have hj : es[j]? = some e0 := by simpa using h4
    have hl0 : pickE enc (enc z) (f k) = e0.val := by
      have : (Instr.lookup T (.map (some b)) (kv k) false).run Try.prog w = .ok e0.val w := by
        simp [Instr.lookup, run_underlying ht, MapKept.run_getObj_map hb, law.check w _ hkey, h3, Result.andThen]
      rw [this] at hlook
      exact (Result.ok.inj hlook).1.symm
    have hsame : es.modify j (fun e => { e with key := (kv k) }) = es := by
      apply Array.ext'
      rw [Array.toList_modify, ChangeMaps.modify_eq_set _ _ _ _ h4]
      have : ({ e0 with key := (kv k) } : MapEntry) = e0 := by rw [← h5]
      rw [this]
      exact WideElems.set_self _ _ _ h4
    have e1 : (Instr.mapEntry T (.map (some b)) (kv k)).run Try.prog w = .ok (.tuple #[e0.val, goInt e0.born]) (setBlock w b (.map es clock)) := by
      simp [Instr.mapEntry, run_underlying ht, MapKept.run_getObj_map hb, law.check w false hkey, h3, hj, h5, law.stays w hkey, hsame, MapKept.run_setObj_map _ hb, Result.andThen, setBlock]
    have hrun0 := hrun
    rw [e1] at hrun
    obtain ⟨hr, hw⟩ := Result.ok.inj hrun
    refine ⟨st, _, f, ?_, grow w _ _ _ hb, by simp [setBlock], ?_, rfl, store⟩
    · rw [hl0, hrun0]
      have : e0.val = v0 := by
        injection hr with hr
        simp only [Array.mk.injEq, List.cons.injEq, and_true] at hr
        exact hr.1
      rw [this]
    · rw [← hw]
      exact (h.mono (Nat.le_succ n)).block (by rw [heap_setBlock_same hb, hb])
end

/-- What count works with: a function for each list counted so far. -/
structure CntF (G : List It → Tg → Option Int) (d : Int) : Prop where
  next : ∀ l x, isT x.k = true → ∀ y, (if y = tkey x then some (numT (G l (tkey x)) + d) else G l y) = G (l ++ [x]) y
  skip : ∀ l x, isT x.k = false → G (l ++ [x]) = G l
  small : ∀ l y, l.length ≤ 1000000 → -2000000 ≤ numT (G l y) ∧ numT (G l y) ≤ 2000000
theorem pick_num (f : Option Int) : pickE vInt (vInt 0) f = .int .i64 (numT f) := by cases f <;> rfl
theorem kwf {x : It} (h : isT x.k = true) : (Lit.int .i64 x.k).wf = true := by
  unfold isT at h; simp at h; rcases h with h | h | h <;> (rw [h]; decide)
set_option maxHeartbeats 6400000 in
theorem dcount_any (G : List It → Tg → Option Int) (d : Int) (hd : d = 1 ∨ d = -1) (hG : CntF G d) (b n : Nat) (p : Option Addr) (cap : Nat) (l : List It) (w : World) (hM : MapAt 90 Tg.v vInt w b n (G [])) (hR : Its w p l) (hne : 0 < l.length → ∀ a, p = some a → a.block ≠ b) (hc : l.length ≤ cap) (hm : cap ≤ maxLen) (hn : l.length ≤ 1000000) (hnn : n ≤ 1000000) (ht : txtsB l) :
    Calls Try.prog 64 #[.map (some b), .slice p l.length cap, .int .i64 d] w fun e w' => e = .returned (.tuple #[]) ∧ w.grownBy w' (some b) ∧ MapAt 90 Tg.v vInt w' b (n + l.length) (G l) := by
  unfold maxLen at hm
  have mixed : Try.prog.follows .mixedOrders = true := by kernel_rfl
  have hmb := hM.lt
  have hM0 : MapAt 90 Tg.v vInt w b (n + 0) (G (l.take 0)) := by simpa using hM
  clear hM
  go_enter Try.func64, Try.ntmps64
  go_wp2_with fail
  go_loopw [10] (fun i wr => ∃ k : Nat, k ≤ l.length ∧ i = .int .i64 k ∧ w.grownBy wr (some b) ∧ MapAt 90 Tg.v vInt wr b (n + k) (G (l.take k)) ∧ Its wr p l) (fun i _ => l.length - (intOf i).toNat)
  case atStart => exact ⟨0, Nat.zero_le _, rfl, World.grownBy.refl _ _, hM0, hR⟩
  case round =>
    clear hM0
    obtain ⟨k, hk, rfl, hg, hM, hI⟩ := hrel
    by_cases hlt : k < l.length
    · obtain ⟨ad, rfl, had, c0, c1, c2⟩ := hI.row k hlt
      have hnx : l.take (k + 1) = l.take k ++ [l[k]] := List.take_succ_eq_append_getElem hlt
      have htx := ht _ (List.getElem_mem hlt)
      have hI1 := hI.call ((Below.refl _ _).alloc (Nat.le_refl _) (.cells #[.int .i64 l[k].k, .string l[k].t, .int .i64 l[k].id] 57))
      have hM1 := hM.alloc (.cells #[.int .i64 l[k].k, .string l[k].t, .int .i64 l[k].id] 57)
      have hg1 := hg.andThen (grow_below ((Below.refl wr.heap.size wr).alloc (Nat.le_refl _) (.cells #[.int .i64 l[k].k, .string l[k].t, .int .i64 l[k].id] 57)) (some b)) (fun j hj => .inr hj)
      have hV := Var3.newT wr l[k].k l[k].t l[k].id
      have hnext := hG.next (l.take k) l[k]
      have hskip := hG.skip (l.take k) l[k]
      have hsm := hG.small (l.take k) (tkey l[k]) (by simp; omega)
      have htg := fun W => dtag_any l[k].k l[k].t l[k].id W
      have hkw := @kwf l[k]
      generalize l[k] = x at *
      have HT := Lib.hid htg
      have HS := Lib.hid (And.intro hI1 (And.intro hM1 (And.intro hg1 hV)))
      have HN := Lib.hid (And.intro hnx (And.intro hnext hskip))
      clear htg hI1 hM1 hg1 hV hM hI hg hnx hnext hskip hR
      go_wp2_with fail
      refine (HT.out _).mono ?_; rintro e w2 ⟨rfl, hb⟩
      obtain ⟨hI1, hM1, hg1, hV⟩ := HS.out
      replace hI1 := hI1.call hb; replace hM1 := hM1.call hb; replace hV := hV.call hb
      replace hg1 := hg1.andThen (grow_below hb (some b)) (fun j hj => .inr hj)
      clear hb HS
      obtain ⟨v0, v1, v2, vl⟩ := id hV
      clear hV
      cases q : isT x.k
      · have HX := Lib.hid (And.intro hI1 (And.intro hM1 hg1))
        clear hI1 hM1 hg1 v0 v1 v2 vl
        go_wp2_with fail
        obtain ⟨hI1, hM1, hg1⟩ := HX.out
        obtain ⟨hnx, hnext, hskip⟩ := HN.out
        rw [← hskip q, ← hnx] at hM1
        go_roundw
        case rel => exact ⟨k + 1, hlt, by go_num, hg1, hM1.mono (by omega), hI1⟩
        case measure => simp [intOf] <;> omega
      · obtain ⟨kl, hkey⟩ := key_tg (tkey x) (hkw q) (Nat.le_trans htx (by unfold maxLen; omega))
        have hlook := (hM1.drew).look (T := 87) kTg Try.underlying87 (z := vInt 0) (zeroT _) hkey
        obtain ⟨st, w4, f1, hE, hg4, hsz4, hM4, hf1, hSt⟩ := (hM1.drew).entryG lawTg tgv_inj (T := 87) Try.underlying87 (by unfold maxLen; omega) 0 zeroT hkey
        have hlook1 := hM4.look (T := 87) kTg Try.underlying87 (z := vInt 0) (zeroT _) hkey
        rw [hf1] at hlook1
        obtain ⟨w5, hS, hM5, hg5, hsz5⟩ := hSt w4 (numT (G (l.take k) (tkey x)) + d) rfl
        rw [pick_num] at hlook hlook1 hE
        replace hM5 := hM5.ext (HN.out.2.1 q)
        rw [← HN.out.1] at hM5
        have u0 : w2.drew.cell? ⟨wr.heap.size, 0, none⟩ = _ := v0
        have u1 : w2.drew.cell? ⟨wr.heap.size, 1, none⟩ = _ := v1
        have hS' : (Instr.entryStore 87 (.map (some b)) (.int .i64 st) (.int .i64 (numT (G (l.take k) (tkey x)) + d))).run Try.prog w4 = .ok () w5 := hS
        have hE' : (Instr.mapEntry 87 (.map (some b)) (.agg #[.int .i64 x.k, .string x.t])).run Try.prog w2.drew = .ok (.tuple #[.int .i64 (numT (G (l.take k) (tkey x))), .int .i64 st]) w4 := hE
        have hl' : (Instr.lookup 87 (.map (some b)) (.agg #[.int .i64 x.k, .string x.t]) false).run Try.prog w2.drew = .ok (.int .i64 (numT (G (l.take k) (tkey x)))) w2.drew := hlook
        have hl1 : (Instr.lookup 87 (.map (some b)) (.agg #[.int .i64 x.k, .string x.t]) false).run Try.prog w4 = .ok (.int .i64 (numT (G (l.take k) (tkey x)))) w4 := hlook1
        generalize numT (G (l.take k) (tkey x)) = v at *
        have wr1 : IntKind.i64.wrap (v + d) = v + d := IntWalk.i64_in _ ⟨by omega, by omega⟩
        have hg6 : w.grownBy w5 (some b) := ((hg1.andThen (grow_drew w2 (some b)) (fun j hj => .inr hj)).andThen hg4 (fun j hj => .inr hj)).andThen hg5 (fun j hj => .inr hj)
        have hI5 : Its w5 (some ad) l := Its.other (Its.other (W := w2.drew) hI1 hg4 (hne (by omega))) hg5 (hne (by omega))
        have HX := Lib.hid (And.intro hI5 (And.intro hM5 hg6))
        clear hS hE hlook hlook1 hSt hM4 hf1 hM5 hg4 hg5 hsz4 hsz5 hkey hI1 hM1 hg1 hg6 hI5 vl v0 v1 v2
        go_wp2_with fail
        go_region_o
        all_goals go_wp2_with fail
        all_goals go_roundw
        case rel =>
          obtain ⟨hI5, hM5, hg6⟩ := HX.out
          exact ⟨k + 1, hlt, by go_num, hg6, hM5, hI5⟩
        case measure => simp [intOf] <;> omega
    · obtain rfl : k = l.length := by omega
      rw [List.take_length] at hM
      go_wp2_with fail
      go_end0
      exact ⟨rfl, hg, hM⟩
theorem cntF_A (B : List It) (hB : B.length ≤ 1000000) : CntF (fun l => gM l B) 1 :=
  ⟨fun l x h => gM_A l B x h, fun l x h => gM_A0 l B x h, fun l y hl => by rw [gM_num]; have := cntN_le l y; have := cntN_le B y; omega⟩
theorem cntF_B (A : List It) (hA : A.length ≤ 1000000) : CntF (fun l => gM A l) (-1) :=
  ⟨fun l x h => gM_B A l x h, fun l x h => gM_B0 A l x h, fun l y hl => by rw [gM_num]; have := cntN_le l y; have := cntN_le A y; omega⟩
theorem sumT_le (K : List Tg) (g : Tg → Nat) (M : Nat) (h : ∀ y, g y ≤ M) : sumT K g ≤ K.length * M := by
  induction K with
  | nil => exact Nat.zero_le _
  | cons x K ih => rw [sumT_cons, List.length_cons, Nat.add_mul, Nat.one_mul]; have := h x; omega
theorem tkeys_len (l : List It) : (tkeys l).length ≤ l.length := by unfold tkeys; rw [List.length_map]; exact List.length_filter_le _ _
theorem sur_le (a b : List It) : sur a b ≤ (a.length + b.length) * (a.length + b.length) := by
  refine Nat.le_trans (sumT_le _ _ (a.length + b.length) fun y => ?_) (Nat.mul_le_mul_right _ ?_)
  · unfold dif; have := cntN_le a y; have := cntN_le b y; omega
  · unfold surK; have := uniq_len (tkeys a ++ tkeys b); rw [List.length_append] at this; have := tkeys_len a; have := tkeys_len b; omega
/-- Keys still to come, and what they will add. -/
structure SRel (D : DataW Value) (left : Lit → Bool) (S tot : Nat) (f : Tg → Option Int) (rem : List Tg) : Prop where
  nodup : rem.Nodup
  left : ∀ y kl, keyOf Try.prog 90 (Tg.v y) = some kl → (left kl = true ↔ y ∈ rem)
  sum : tot + 2 * sumT rem (fun y => (numT (f y)).natAbs) = S
theorem SRel.next {D : DataW Value} {left : Lit → Bool} {S tot : Nat} {f : Tg → Option Int} {rem : List Tg} (h : SRel D left S tot f rem) {y : Tg} {kl : Lit} (hk : keyOf Try.prog 90 (Tg.v y) = some kl) (hl : left kl = true) :
    SRel D (fun z => left z && !z.sameKey kl) S (tot + 2 * (numT (f y)).natAbs) f (rem.erase y) := by
  have hy : y ∈ rem := (h.left y kl hk).1 hl
  refine ⟨h.nodup.erase y, fun y' kl' hk' => ?_, ?_⟩
  · rw [Bool.and_eq_true, h.left y' kl' hk', h.nodup.mem_erase_iff]
    constructor
    · rintro ⟨h1, h2⟩
      refine ⟨fun e => ?_, h1⟩
      subst e
      rw [hk] at hk'; injection hk' with hk'; subst hk'
      rw [WideAt.sameKey_self (kTg.key hk)] at h2; cases h2
    · rintro ⟨h1, h2⟩
      refine ⟨h2, ?_⟩
      cases hs : kl'.sameKey kl with
      | false => rfl
      | true =>
        have e := WideAt.sameKey_eq hs
        subst e
        exact absurd (tgv_inj _ _ (kTg.inj hk' hk)) h1
  · have := sumT_erase rem y hy (fun y => (numT (f y)).natAbs)
    have hs := h.sum
    omega
set_option maxHeartbeats 6400000 in
theorem surplus_any (p q : Option Addr) (c d : Nat) (a b : List It) (w : World) (hA : Its w p a) (hB : Its w q b) (hc : a.length ≤ c) (hd : b.length ≤ d) (hcm : c ≤ maxLen) (hdm : d ≤ maxLen) (ha : a.length ≤ 100000) (hb : b.length ≤ 100000) (ta : txtsB a) (tb : txtsB b) :
    Calls Try.prog 47 #[.slice p a.length c, .slice q b.length d] w fun e w' => e = .returned (.int .i64 ((2 * sur a b : Nat) : Int)) ∧ Below w.heap.size w w' := by
  have mixed : Try.prog.follows .mixedOrders = true := by kernel_rfl
  have hmm := @run_makeMap Try.prog
  have hM0 : MapAt 90 Tg.v vInt (w.alloc (.map #[] 0)) w.heap.size 0 (gM [] []) := (MapAt.made w).ext fun y => by unfold gM; rw [if_neg (by simp [tkeys])]
  have hA1 := hA.call ((Below.refl _ _).alloc (Nat.le_refl _) (.map #[] 0))
  have hB1 := hB.call ((Below.refl _ _).alloc (Nat.le_refl _) (.map #[] 0))
  have hBl : Below w.heap.size w (w.alloc (.map #[] 0)) := blw (Below.refl _ _) _
  have c1 := fun W h1 h2 => dcount_any (fun l => gM l []) 1 (.inl rfl) (cntF_A [] (by simp)) w.heap.size 0 p c a W h1 h2 (fun h0 => hpa hA h0) hc hcm (by omega) (by omega) ta
  have c2 := fun W h1 h2 => dcount_any (fun l => gM a l) (-1) (.inr rfl) (cntF_B a (by omega)) w.heap.size (0 + a.length) q d b W h1 h2 (fun h0 => hpa hB h0) hd hdm (by omega) (by omega) tb
  have C1 := Lib.hid c1; have C2 := Lib.hid c2
  have HP := Lib.hid (And.intro hA hB)
  clear c1 c2 hA hB
  go_enter Try.func47, Try.ntmps47
  go_wp2_with fail
  refine (C1.out _ hM0 hA1).mono ?_; rintro e w1 ⟨rfl, hg1, hM1⟩
  have hB2 : Its w1 q b := fun h0 => (Its.other hB1 hg1 (hpa HP.out.2 h0)) h0
  have hW1 := below_of_grow hBl hg1 hBl.size (Nat.le_refl _)
  clear hM0 hA1 hB1 hBl hg1 C1
  go_wp2_with fail
  refine (C2.out _ hM1 hB2).mono ?_; rintro e w2 ⟨rfl, hg2, hM2⟩
  have hW2 := below_of_grow hW1 hg2 hW1.size (Nat.le_refl _)
  clear hM1 hB2 hW1 hg2 C2 HP hmm
  rw [Nat.zero_add] at hM2
  obtain ⟨D, o1, s1, t1⟩ := hM2
  have hlt := o1.lt
  have hkeys : ∀ y ∈ surK a b, ∃ l, keyOf Try.prog 90 (Tg.v y) = some l := fun y hy => by
    unfold surK at hy
    rw [mem_uniq, List.mem_append] at hy
    have key : ∀ L : List It, txtsB L → y ∈ tkeys L → ∃ l, keyOf Try.prog 90 (Tg.v y) = some l := fun L tL h => by
      unfold tkeys at h
      rw [List.mem_map] at h
      obtain ⟨x, hx, rfl⟩ := h
      rw [List.mem_filter] at hx
      exact key_tg (tkey x) (kwf hx.2) (Nat.le_trans (tL x hx.1) (by unfold maxLen; omega))
    exact hy.elim (key a ta) (key b tb)
  have hin : ∀ y, (gM a b y).isSome = true ↔ y ∈ surK a b := fun y => by
    unfold surK gM; rw [mem_uniq, List.mem_append]
    by_cases h : y ∈ tkeys a ∨ y ∈ tkeys b
    · rw [if_pos h]; simp [h]
    · rw [if_neg h]; simp [h]
  have hS0 : SRel D (Maps.has D) (2 * sur a b) 0 (gM a b) (surK a b) := by
    refine ⟨nodup_uniq _, fun y kl hk => ?_, ?_⟩
    · rw [← hin]
      have := s1 y kl hk
      cases hf : gM a b y with
      | none => rw [hf] at this; rw [show Maps.has D kl = false from this.1]; simp
      | some u => rw [hf] at this; rw [show Maps.has D kl = true from this.1]; simp
    · rw [Nat.zero_add]
      show 2 * sumT (surK a b) _ = 2 * sumT (surK a b) (dif a b)
      rw [sumT_congr _ _ (dif a b) fun y _ => by rw [gM_num]; rfl]
  have hbnd : ∀ y, (numT (gM a b y)).natAbs ≤ 200000 := fun y => by rw [gM_num]; have := cntN_le a y; have := cntN_le b y; omega
  have htot := sur_le a b
  have htot2 : 2 * sur a b ≤ 80000000000 := by
    have : (a.length + b.length) * (a.length + b.length) ≤ 200000 * 200000 := Nat.mul_le_mul (by omega) (by omega)
    omega
  clear htot
  generalize hSS : 2 * sur a b = S at *
  have HSS := Lib.hid hSS
  clear hSS
  generalize gM a b = f at *
  generalize surK a b = K0 at *
  have HK := Lib.hid (And.intro hkeys (And.intro s1 (And.intro t1 hbnd)))
  clear hin hkeys s1 t1 hbnd
  go_wp2_with (first
    | (at_range; refine wpList_range_own _ rfl _ 87 rfl 90 3 kTg Try.underlying87 rawE w.heap.size (a.length + b.length) _ rfl o1 ?_; intro w0 hrg0 hg0 hs0)
    | go_in)
  go_frame
  have hB0 : Below w.heap.size w w0 := hW2.grown hg0 hW2.size (fun j hj => by cases hj)
  have hr0 : w.heap.size < w2.heap.size := hlt
  clear hg0 hs0 hW2 o1
  go_loopw [6] (fun v wr => ∃ (left : Lit → Bool) (cnt tot : Nat) (rem : List Tg), v = .int .i64 tot ∧ wr.ranges Try.prog 90 rawE w.heap.size w2.heap.size (a.length + b.length) D left cnt ∧ Below w.heap.size w wr ∧ Aside (SRel D left S tot f rem ∧ ∀ y ∈ rem, y ∈ K0))
    (fun _ wr => wr.rangeLeft w.heap.size w2.heap.size)
  case atStart => exact ⟨_, _, 0, K0, rfl, hrg0, hB0, hS0, fun y h => h⟩
  case round =>
    obtain ⟨left, cnt, tot, rem, rfl, hrg, hB, G⟩ := hrel
    have hleft := hrg.left_eq
    have hts : tot ≤ S := by have := G.out.1.sum; omega
    go_wp2_with (first
      | (at_next; refine wpList_next_ranges _ rfl _ rfl 90 kTg rawE id id (fun key _ _ => ⟨key, rfl⟩) (fun v _ _ => ⟨v, rfl⟩) w.heap.size w2.heap.size (a.length + b.length) _ _ _ rfl hrg ?_ ?_)
      | go_in)
    · intro _ hl0
      have e0 : rem = [] := by
        cases rem with
        | nil => rfl
        | cons y r =>
          obtain ⟨l, hl⟩ := HK.out.1 y (G.out.2 y (List.mem_cons_self ..))
          have := (G.out.1.left y l hl).2 (List.mem_cons_self ..)
          rw [hl0] at this; cases this
      have hsum := G.out.1.sum
      rw [e0, sumT_nil] at hsum
      have HE := Lib.hid (show tot = S by omega)
      clear hsum e0 G
      go_wp2_with fail
      go_ret
      exact ⟨by rw [HE.out, HSS.out]; rfl, hB⟩
    · intro x c kl yd yp w1 cnt1 hkey hlx hv hat hrg1 hlt1 hg1 hs1 hen
      obtain ⟨hkeys, s1, t1, hbnd⟩ := HK.out
      have hh := has_true_of_atKey hat
      obtain ⟨y, hy⟩ := t1 kl hh
      have hxy : x = y.v := kTg.inj hkey hy
      have hsy := s1 y kl hy
      have hB1 : Below w.heap.size w w1 := hB.grown hg1 hB.size (fun j hj => by cases hj; exact Nat.le_of_lt hr0)
      have hby := hbnd y
      cases hf : f y with
      | none => rw [hf] at hsy; rw [show Maps.has _ _ = false from hsy.1] at hh; cases hh
      | some u =>
        rw [hf] at hsy
        have hc : c = vInt u := by
          have h1 := hat .nil
          rw [hsy.2 .nil] at h1
          have h2 : some (DataW.held c, ([] : List MemPlace)) = some (yd, yp) := hv
          injection h2 with h2
          injection h2 with h2 _
          rw [← h2] at h1
          injection h1 with h1
          exact h1.symm
        subst hc; subst hxy
        have hnx := G.out.1.next hy hlx
        rw [hf] at hby hnx
        have hmem : ∀ z ∈ rem.erase y, z ∈ K0 := fun z hz => G.out.2 z (List.mem_of_mem_erase hz)
        have hle : tot + 2 * u.natAbs ≤ S := by have := hnx.sum; exact Nat.le_trans (Nat.le_add_right _ _) (Nat.le_of_eq this)
        have hby2 : u.natAbs ≤ 200000 := hby
        have hen' : (Instr.entry (.pointer (some ⟨w2.heap.size, 0, none⟩))).run Try.prog w1 = .ok (.tuple #[.agg #[.int .i64 y.k, .string y.t], .int .i64 u]) w1 := hen
        have HX := Lib.hid (And.intro hrg1 (And.intro hB1 (And.intro hnx hmem)))
        clear hv hen hat hsy hg1 hrg1 hrg hs1 hf hkeys s1 t1 hbnd hB1 hnx hmem hby G hh hkey hy hlx
        go_wp2_with fail
        obtain ⟨hrg1, hB1, hnx, hmem⟩ := HX.out
        refine ⟨⟨_, cnt1, tot + 2 * u.natAbs, rem.erase y, ?_, hrg1, hB1, hnx, hmem⟩, ?_⟩
        · have : max u (-u) = (u.natAbs : Int) := by omega
          rw [this]; simp
        · rw [hrg1.left_eq, hleft]; exact hlt1
end Go.Proofs.Ytpkipdiecnokhaa
namespace Go.Proofs.Ytpkipdiecnokhaa
open Go.ChangeShapes Go.WideShapes Go.ChangeAt Go.RowKit Go.Sort
set_option linter.unusedVariables false
set_option linter.unusedSimpArgs false
set_option maxRecDepth 100000

theorem fld0 (x y : Int) (W : World) : (Instr.field 74 (.agg #[.int .i64 x, .int .i64 y]) 0).run Try.prog W = .ok (.int .i64 x) W := by kernel_rfl
theorem fld1 (x y : Int) (W : World) : (Instr.field 74 (.agg #[.int .i64 x, .int .i64 y]) 1).run Try.prog W = .ok (.int .i64 y) W := by kernel_rfl
set_option maxHeartbeats 3200000 in
theorem distance_any (p q : Option Addr) (c d : Nat) (a b : List It) (w : World) (hA : Its w p a) (hB : Its w q b) (hc : a.length ≤ c) (hd : b.length ≤ d) (hcm : c ≤ maxLen) (hdm : d ≤ maxLen) (ha : a.length ≤ 100000) (hb : b.length ≤ 100000) (ta : txtsB a) (tb : txtsB b) :
    Calls Try.prog 32 #[.slice p a.length c, .slice q b.length d] w fun e w' => e = .returned (.int .i64 (dis a b : Nat)) ∧ Below w.heap.size w w' := by
  have h1 := fun W h => newparts_any p c a W h hc hcm ha ta
  have h2 := fun W h => newparts_any q d b W h hd hdm hb tb
  have h3 := fun W g1 g2 h h' => firstcell_any a b 0 0 (some ⟨g1, 0, none⟩) (some ⟨g2, 0, none⟩) a.length b.length 0 W h h' (Nat.le_refl _) (Nat.le_refl _) (by unfold maxLen; omega) (by unfold maxLen; omega) ha hb (Nat.zero_le _)
  have h4 := fun W h h' => surplus_any p q c d a b W h h' hc hd hcm hdm ha hb ta tb
  have hdl := dst_le a b
  have hsl := sur_le a b
  have hsl2 : 2 * sur a b ≤ 80000000000 := by
    have : (a.length + b.length) * (a.length + b.length) ≤ 200000 * 200000 := Nat.mul_le_mul (by omega) (by omega)
    omega
  have hdd : dst a b + 2 * sur a b = dis a b := rfl
  have hdl2 : dst a b ≤ 800000 := by omega
  generalize 2 * sur a b = S at *
  generalize dst a b = D at *
  have H1 := Lib.hid h1; have H2 := Lib.hid h2; have H3 := Lib.hid h3; have H4 := Lib.hid h4; have HD := Lib.hid hdd
  clear h1 h2 h3 h4 hdl hsl hdd
  go_enter Try.func32, Try.ntmps32
  go_wp2_with fail
  refine (H1.out _ hA).mono ?_; rintro e w1 ⟨g1, rfl, hb1, hg1, hP1⟩
  go_wp2_with fail
  refine (H2.out _ (hB.call hb1)).mono ?_; rintro e w2 ⟨g2, rfl, hb2, hg2, hP2⟩
  have hb3 := BelowOn hb1 hb2
  go_wp2_with fail
  refine (H3.out _ g1 g2 (hP1.call hb2).rw hP2.rw).mono ?_; rintro e w3 ⟨rfl, hb4⟩
  have hb5 := BelowOn hb3 hb4
  have hf0 := fld0 D (crs 0 a b) w3
  go_wp2_with fail
  refine (H4.out _ (hA.call hb5) (hB.call hb5)).mono ?_; rintro e w4 ⟨rfl, hb6⟩
  have hb7 := BelowOn hb5 hb6
  clear hb1 hb2 hb3 hb4 hb5 hb6 hP1 hP2
  go_wp2_with fail
  go_ret
  exact ⟨by rw [← HD.out]; simp, hb7⟩
end Go.Proofs.Ytpkipdiecnokhaa
namespace Go.Proofs.Ytpkipdiecnokhaa
open Go.ChangeShapes Go.WideShapes Go.ChangeAt Go.RowKit Go.Sort
set_option linter.unusedVariables false
set_option linter.unusedSimpArgs false
set_option maxRecDepth 100000

def rc : List It := [⟨1, ⟨#[114, 101, 100, 32, 99, 97, 114]⟩, 0⟩]
def rcs : List It := [⟨1, ⟨#[82, 101, 100, 32, 99, 97, 114, 115]⟩, 0⟩]
def rcT : List It := [⟨6, ⟨#[114, 101, 100]⟩, 0⟩, ⟨8, ⟨#[32]⟩, 0⟩, ⟨6, ⟨#[99, 97, 114]⟩, 0⟩]
def rcsT : List It := [⟨6, ⟨#[82, 101, 100]⟩, 0⟩, ⟨8, ⟨#[32]⟩, 0⟩, ⟨6, ⟨#[99, 97, 114, 115]⟩, 0⟩]
theorem rc_toks : toks rc = rcT := by decide +kernel
theorem rcs_toks : toks rcs = rcsT := by decide +kernel
def tX : It := ⟨2, ⟨#[98]⟩, 1⟩
def xX : It := ⟨6, ⟨#[120]⟩, 0⟩
theorem dis5 : dis rcT rcsT = 5 := by decide +kernel
theorem dis2 : dis [tX, xX] [xX, tX] = 2 := by decide +kernel
theorem dis3 : dis [tX, xX] [xX] = 3 := by decide +kernel
theorem Its.litT {W : World} {B : Nat} {cs : Array Value} {fr : Nat × Nat} {l : List It} (h : W.heap[B]? = some (.cells cs 57 fr)) (hc : cs.toList = icells l) : Its W (some ⟨B, 0, none⟩) l := fun h0 => by
  refine ⟨_, rfl, (Array.getElem?_eq_some_iff.1 h).1, fun i hi => ?_⟩
  obtain ⟨c0, c1, c2⟩ := icells_at l i hi
  have hn := World.news_of_block h
  rw [hc] at hn
  exact ⟨hn _ _ c0, hn _ _ c1, hn _ _ c2⟩
theorem txtsB_of (l : List It) (h : l.all (fun x => decide (x.t.size ≤ 1000)) = true) : txtsB l := fun x hx => by
  have := List.all_eq_true.1 h x hx
  simpa using this
set_option maxHeartbeats 3200000 in
theorem known_any (w : World) : Calls Try.prog 26 #[] w fun e w' => e = .returned (.bool true) ∧ Below w.heap.size w w' := by
  have t1 : ∀ W a, Its W a rc → Calls Try.prog 37 #[.slice a 1 1] W fun e w' => ∃ p c, e = .returned (.slice p 3 c) ∧ 3 ≤ c ∧ c ≤ maxLen ∧ Its w' p rcT ∧ Below W.heap.size W w' := fun W a h => by
    have := rtokens_any a 1 rc W h (by decide) (by decide) (by decide)
    rw [rc_toks] at this
    exact this.mono fun _ _ x => EndT.f x
  have t2 : ∀ W a, Its W a rcs → Calls Try.prog 37 #[.slice a 1 1] W fun e w' => ∃ p c, e = .returned (.slice p 3 c) ∧ 3 ≤ c ∧ c ≤ maxLen ∧ Its w' p rcsT ∧ Below W.heap.size W w' := fun W a h => by
    have := rtokens_any a 1 rcs W h (by decide) (by decide) (by decide)
    rw [rcs_toks] at this
    exact this.mono fun _ _ x => EndT.f x
  have d5 : ∀ W p c q d, Its W p rcT → Its W q rcsT → 3 ≤ c → c ≤ maxLen → 3 ≤ d → d ≤ maxLen → Calls Try.prog 32 #[.slice p 3 c, .slice q 3 d] W fun e w' => e = .returned (.int .i64 5) ∧ Below W.heap.size W w' := fun W p c q d h1 h2 h3 h4 h5 h6 => by
    have := distance_any p q c d rcT rcsT W h1 h2 h3 h5 h4 h6 (by decide) (by decide) (txtsB_of _ (by decide +kernel)) (txtsB_of _ (by decide +kernel))
    rwa [dis5] at this
  have d2 : ∀ W p q, Its W p [tX, xX] → Its W q [xX, tX] → Calls Try.prog 32 #[.slice p 2 2, .slice q 2 2] W fun e w' => e = .returned (.int .i64 2) ∧ Below W.heap.size W w' := fun W p q h1 h2 => by
    have := distance_any p q 2 2 [tX, xX] [xX, tX] W h1 h2 (by decide) (by decide) (by decide) (by decide) (by decide) (by decide) (txtsB_of _ (by decide +kernel)) (txtsB_of _ (by decide +kernel))
    rwa [dis2] at this
  have d3 : ∀ W p q, Its W p [tX, xX] → Its W q [xX] → Calls Try.prog 32 #[.slice p 2 2, .slice q 1 1] W fun e w' => e = .returned (.int .i64 3) ∧ Below W.heap.size W w' := fun W p q h1 h2 => by
    have := distance_any p q 2 1 [tX, xX] [xX] W h1 h2 (by decide) (by decide) (by decide) (by decide) (by decide) (by decide) (txtsB_of _ (by decide +kernel)) (txtsB_of _ (by decide +kernel))
    rwa [dis3] at this
  have T1 := Lib.hid t1; have T2 := Lib.hid t2; have D5 := Lib.hid d5; have D2 := Lib.hid d2; have D3 := Lib.hid d3
  clear t1 t2 d5 d2 d3
  go_enter Try.func26, Try.ntmps26
  go_wp2_with fail
  have hB0 : Below w.heap.size w _ := blw (Below.refl _ _) (.cells (icells rc).toArray 59)
  have hI0 : Its _ _ rc := Its.lit (heap_alloc_new w (.cells (icells rc).toArray 59)) rfl
  refine (T1.out _ _ hI0).mono ?_; rintro e w1 ⟨p1, c1, rfl, hc1, hm1, hI1, hb1⟩
  have hB1 := BelowOn hB0 hb1
  clear hI0 hB0 hb1
  go_wp2_with fail
  have hb2 : Below w1.heap.size w1 _ := blw (Below.refl _ _) (.cells (icells rcs).toArray 59)
  have hI2 : Its _ _ rcs := Its.lit (heap_alloc_new w1 (.cells (icells rcs).toArray 59)) rfl
  refine (T2.out _ _ hI2).mono ?_; rintro e w2 ⟨p2, c2, rfl, hc2, hm2, hI2, hb3⟩
  replace hb3 := BelowOn hb2 hb3
  have hB2 := BelowOn hB1 hb3
  replace hI1 := hI1.call hb3
  clear hB1 hb3 hb2
  have HI1 := Lib.hid hI1; have HI2 := Lib.hid hI2
  clear hI1 hI2
  go_wp2_with fail
  have hb4 : Below w2.heap.size w2 _ := blw (blw (Below.refl _ _) (.cells #[.int .i64 2, .string ⟨#[98]⟩, .int .i64 1] 57)) (.cells #[.int .i64 6, .string ⟨#[120]⟩, .int .i64 0] 57)
  refine (D5.out _ _ _ _ _ (HI1.out.call hb4) (HI2.out.call hb4) hc1 hm1 hc2 hm2).mono ?_; rintro e w3 ⟨rfl, hb5⟩
  have hB3 := BelowOn hB2 (BelowOn hb4 hb5)
  have V1 := ((Var3.newT w2 2 ⟨#[98]⟩ 1).alloc (.cells #[.int .i64 6, .string ⟨#[120]⟩, .int .i64 0] 57)).call hb5
  have V2 := (Var3.newT (w2.alloc (.cells #[.int .i64 2, .string ⟨#[98]⟩, .int .i64 1] 57)) 6 ⟨#[120]⟩ 0).call hb5
  rw [show (w2.alloc (.cells #[.int .i64 2, .string ⟨#[98]⟩, .int .i64 1] 57)).heap.size = w2.heap.size + 1 by simp] at V2
  clear hb4 hb5 hB2 HI1 HI2 D5
  obtain ⟨a0, a1, a2, al⟩ := id V1
  obtain ⟨x0, x1, x2, xl⟩ := id V2
  have i1 := heap_alloc_new w3 (.cells (icells [tX, xX]).toArray 57)
  have i2 := heap_alloc_new (w3.alloc (.cells (icells [tX, xX]).toArray 57)) (.cells (icells [xX, tX]).toArray 57)
  have hs : (w3.alloc (.cells (icells [tX, xX]).toArray 57)).heap.size = w3.heap.size + 1 := by simp
  rw [hs] at i2
  have hb6 : Below w3.heap.size w3 ((w3.alloc (.cells (icells [tX, xX]).toArray 57)).alloc (.cells (icells [xX, tX]).toArray 57)) := blw (blw (Below.refl _ _) _) _
  have i1' := keep_heap i1 ((Below.refl _ _).alloc (Nat.le_refl _) (.cells (icells [xX, tX]).toArray 57))
  have HX := Lib.hid (And.intro (Its.litT i1' rfl) (And.intro (Its.litT i2 rfl) hb6))
  clear i1 i2 hs hb6 i1'
  go_wp2_with fail
  obtain ⟨j1, j2, hb6⟩ := HX.out
  refine (D2.out _ _ _ j1 j2).mono ?_; rintro e w4 ⟨rfl, hb7⟩
  replace hb7 := BelowOn hb6 hb7
  have hB4 := BelowOn hB3 hb7
  replace V1 := V1.call hb7; replace V2 := V2.call hb7
  clear j1 j2 hb6 hb7 HX a0 a1 a2 al x0 x1 x2 xl D2 hB3
  obtain ⟨a0, a1, a2, al⟩ := V1
  obtain ⟨x0, x1, x2, xl⟩ := V2
  have i1 := heap_alloc_new w4 (.cells (icells [tX, xX]).toArray 57)
  have i2 := heap_alloc_new (w4.alloc (.cells (icells [tX, xX]).toArray 57)) (.cells (icells [xX]).toArray 57)
  have hs : (w4.alloc (.cells (icells [tX, xX]).toArray 57)).heap.size = w4.heap.size + 1 := by simp
  rw [hs] at i2
  have hb6 : Below w4.heap.size w4 ((w4.alloc (.cells (icells [tX, xX]).toArray 57)).alloc (.cells (icells [xX]).toArray 57)) := blw (blw (Below.refl _ _) _) _
  have i1' := keep_heap i1 ((Below.refl _ _).alloc (Nat.le_refl _) (.cells (icells [xX]).toArray 57))
  have HX := Lib.hid (And.intro (Its.litT i1' rfl) (And.intro (Its.litT i2 rfl) hb6))
  clear i1 i2 hs hb6 i1'
  go_wp2_with fail
  obtain ⟨j1, j2, hb6⟩ := HX.out
  refine (D3.out _ _ _ j1 j2).mono ?_; rintro e w5 ⟨rfl, hb7⟩
  replace hb7 := BelowOn hb6 hb7
  have hB5 := BelowOn hB4 hb7
  clear j1 j2 hb6 hb7 HX a0 a1 a2 al x0 x1 x2 xl D3 hB4
  go_wp2_with fail
  go_ret
  exact ⟨rfl, hB5⟩
/-- The tokens that a law draws. -/
def mkD (L : List Int) (n : Nat) : List It := (toks (mk L true false)).take n
theorem mkD_len (L : List Int) (n : Nat) : (mkD L n).length ≤ n := by unfold mkD; simp; omega
theorem kinds_toks (f : List It) (h : kindsOk f) : kindV (toks f) := fun x hx => by
  unfold toks at hx
  rw [List.mem_flatMap] at hx
  obtain ⟨y, hy, hx⟩ := hx
  have hk := h y hy
  unfold tokI at hx
  split at hx
  · have key : ∀ r : List UInt8, ∀ x ∈ cutT r, 6 ≤ x.k ∧ x.k ≤ 9 := by
      intro r
      induction r using cut_ind with
      | h0 => intro x hx; rw [cutT_nil] at hx; cases hx
      | h1 b t ih =>
        intro x hx
        rw [cutT_cons] at hx
        rcases List.mem_cons.1 hx with rfl | hx
        · exact kindT_range b
        · exact ih x hx
    have := key _ x hx; omega
  · split at hx
    · rename_i h2
      simp at hx; subst hx; omega
    · cases hx
theorem mkD_kind (L : List Int) (n : Nat) : kindV (mkD L n) := fun x hx => kinds_toks _ (mk_kinds L) x (List.mem_of_mem_take hx)
theorem txt_mem (l : List It) (x : It) (h : x ∈ l) : x.t.size ≤ txtI l := by
  induction l with
  | nil => cases h
  | cons y l ih =>
    have e : txtI (y :: l) = y.t.size + txtI l := rfl
    rcases List.mem_cons.1 h with rfl | h
    · omega
    · have := ih h; omega
theorem mkD_txt (L : List Int) (n : Nat) : txtsB (mkD L n) := fun x hx => by
  have h1 := toks_txt (mk L true false)
  have h2 := (mk_ok L true false).txt
  have := txt_mem _ x (show x ∈ toks (mk L true false) from List.mem_of_mem_take hx)
  omega
theorem own_take {base n cap : Nat} {L : List It} {p : Option Addr} {w : World} (h : OwnT base L (.slice p L.length cap) w) (hn : n ≤ L.length) : OwnT base (L.take n) (.slice p n cap) w := by
  have hl : (L.take n).length = n := by simp; omega
  have hcl : (cellsOf ienc (L.take n)) = (cellsOf ienc L).take (n * 3) := by
    unfold cellsOf
    have : ∀ (L : List It) (n : Nat), (L.take n).flatMap ienc = (L.flatMap ienc).take (n * 3) := by
      intro L
      induction L with
      | nil => intro n; simp
      | cons x L ih =>
        intro n
        cases n with
        | zero => simp
        | succ n =>
          rw [List.take_succ_cons, List.flatMap_cons, List.flatMap_cons, ih n, show (n + 1) * 3 = 3 + n * 3 by omega]
          have e3 : (ienc x).length = 3 := rfl
          rw [List.take_append, e3, List.take_of_length_le (l := ienc x) (by rw [e3]; omega), show 3 + n * 3 - 3 = n * 3 by omega]
    exact this L n
  obtain ⟨h1, h2⟩ := h
  refine ⟨by rw [cellsOf_len eT, hl], ?_⟩
  rcases h2 with ⟨hv, h0⟩ | ⟨g, c, cur, hv, hg, hh, hnn, hm, hs, ht⟩
  · injection hv with e1 e2 e3
    left
    rw [hl]
    refine ⟨by rw [e1, e3]; congr 1; omega, by omega⟩
  · injection hv with e1 e2 e3
    right
    refine ⟨g, c, cur, by rw [e1, e3, hl], hg, hh, by rw [hl]; omega, hm, hs, ?_⟩
    rw [hl, hcl, ← ht, List.take_take, Nat.min_eq_left (Nat.mul_le_mul_right 3 hn)]
set_option maxHeartbeats 3200000 in
theorem dmade_any (p : Option Addr) (cap : Nat) (L : List Int) (n : Nat) (w : World) (hL : Ones w (Value.int .i64) p L) (hw : ∀ i (h : i < L.length), (Lit.int .i64 (L[i]'h)).wf = true) (hc : L.length ≤ cap) (hm : cap ≤ maxLen) (hn : n ≤ 1000) :
    Calls Try.prog 27 #[.slice p L.length cap, .int .i64 n] w (EndT (mkD L n) w) := by
  have hN := NumsAt.made hL hw hc hm
  have hf := fragment_any w.heap.size p cap L 0 true false 8 8 rfl _ hN (fun h0 a ha => by have := ones_any hL h0 a ha; simp; omega) (by omega) (by omega)
  have HF := Lib.hid hf; clear hf hN
  have hsm := (mk_sm L true false)
  have hln := (mk_ok L true false).len
  have htx := (mk_ok L true false).txt
  have htl := toks_len (mk L true false)
  have hT := fun W q c h1 h2 h3 => rtokens_any q c (mk L true false) W h1 h2 h3 (by omega)
  have HT := Lib.hid hT; clear hT
  unfold maxLen at hm
  have hmk : mkD L n = (toks (mk L true false)).take n := rfl
  have HMK := Lib.hid hmk
  generalize hF : mk L true false = F at *
  have HFF := Lib.hid hF
  clear hF hsm hmk
  go_enter Try.func27, Try.ntmps27
  go_wp2_with fail
  refine (HF.out).mono ?_
  rintro e w2 ⟨v, rfl, hg, hN2, hown⟩
  have hb : Below w.heap.size w w2 := (blw (Below.refl w.heap.size w) _).trans (grown_below hg (Nat.le_refl _) (by simp))
  have hfr : (fragG L true false 0 8).1 = F := HFF.out
  have hown2 : OwnL 59 3 ienc w.heap.size F v w2 := by rw [← hfr]; exact ownsRow_base hown (by simp)
  obtain ⟨q, c, rfl, hc1, hc2, hI⟩ := OwnL.its hown2
  clear hN2 hown hg hown2 hfr
  go_wp2_with fail
  refine (HT.out w2 q c hI hc1 hc2).mono ?_
  rintro e w3 ⟨v, rfl, hA⟩
  have hb3 := BelowOn hb hA.below
  have hown3 : OwnT w.heap.size (toks F) v w3 := ownsRow_base hA.own hb.size
  obtain ⟨q2, c2, rfl, hd1, hd2, hI2⟩ := OwnT.its hown3
  unfold maxLen at hd2
  by_cases hle : n ≤ (toks F).length
  · have ht := own_take hown3 hle
    rw [← HMK.out] at ht
    have HX := Lib.hid (And.intro ht hb3)
    have e1 : min ((toks F).length : Int) (n : Int) = (n : Int) := by omega
    have q0 : (0 : Int) ≤ (n : Int) := by omega
    have q1 : (n : Int) ≤ (c2 : Int) := by omega
    clear ht hA hown3 hI2 hb3 hI hb
    generalize (toks F).length = T at *
    go_wp2_with fail
    obtain ⟨ht, hb3⟩ := HX.out
    go_ret
    exact ⟨_, rfl, hb3, ht⟩
  · have hmm : mkD L n = toks F := by rw [HMK.out, List.take_of_length_le (by omega)]
    have hA2 := hown3
    rw [← hmm] at hA2
    have hlen : (mkD L n).length = (toks F).length := by rw [hmm]
    have HX := Lib.hid (And.intro hown3 hb3)
    have HM := Lib.hid hmm
    have e1 : min ((toks F).length : Int) (n : Int) = ((toks F).length : Int) := by omega
    have q0 : (0 : Int) ≤ ((toks F).length : Int) := by omega
    have q1 : ((toks F).length : Int) ≤ (c2 : Int) := by omega
    clear hA hA2 hown3 hI2 hb3 hI hb hmm hlen
    go_wp2_with fail
    obtain ⟨ht, hb3⟩ := HX.out
    go_ret
    exact ⟨_, rfl, hb3, by rw [HM.out]; exact ht⟩
end Go.Proofs.Ytpkipdiecnokhaa
namespace Go.Proofs.Ytpkipdiecnokhaa
open Go.ChangeShapes Go.WideShapes Go.ChangeAt Go.RowKit Go.Sort
set_option linter.unusedVariables false
set_option linter.unusedSimpArgs false
set_option maxRecDepth 100000

theorem smL_len {a b : List It} (h : smL a b = true) : a.length = b.length := by
  induction a generalizing b with
  | nil => cases b with
    | nil => rfl
    | cons y b => cases h
  | cons x a ih => cases b with
    | nil => cases h
    | cons y b => rw [smL, Bool.and_eq_true] at h; rw [List.length_cons, List.length_cons, ih h.2]
theorem smL_snoc (a b : List It) (x y : It) (hl : a.length = b.length) : smL (a ++ [x]) (b ++ [y]) = (smL a b && sm x y) := by
  induction a generalizing b with
  | nil => cases b with
    | nil => simp [smL]
    | cons y b => cases hl
  | cons z a ih => cases b with
    | nil => cases hl
    | cons u b => simp only [List.cons_append, smL]; rw [ih b (by simpa using hl), Bool.and_assoc]
theorem smL_pre (a b c d : List It) (hl : a.length = b.length) (h : smL a b = false) : smL (a ++ c) (b ++ d) = false := by
  induction a generalizing b with
  | nil => cases b with
    | nil => cases h
    | cons y b => cases hl
  | cons z a ih => cases b with
    | nil => cases hl
    | cons u b =>
      simp only [List.cons_append, smL] at h ⊢
      cases hs : sm z u with
      | false => rfl
      | true => rw [hs] at h; rw [ih b (by simpa using hl) h]; rfl
def sK (A B : List It) (k : Nat) : Bool := decide (A.length = B.length) && smL (A.take k) (B.take k)
theorem sK_zero (A B : List It) : sK A B 0 = decide (A.length = B.length) := by unfold sK; simp [smL]
theorem sK_next (A B : List It) (k : Nat) (h : sK A B k = true) (hk : k < A.length) (hkB : k < B.length) : sK A B (k + 1) = sm A[k] B[k] := by
  unfold sK at h ⊢
  rw [Bool.and_eq_true, decide_eq_true_eq] at h
  rw [List.take_succ_eq_append_getElem hk, List.take_succ_eq_append_getElem hkB, smL_snoc _ _ _ _ (by simp; omega), h.2, decide_eq_true h.1]; rfl
theorem sK_no (A B : List It) (k : Nat) (h : sK A B k = false) : smL A B = false := by
  unfold sK at h
  cases hs : smL A B with
  | false => rfl
  | true =>
    have hl := smL_len hs
    rw [decide_eq_true hl, Bool.true_and] at h
    have := smL_pre (A.take k) (B.take k) (A.drop k) (B.drop k) (by simp; omega) h
    rw [List.take_append_drop, List.take_append_drop] at this
    rw [hs] at this; exact this
theorem sK_all (A B : List It) : sK A B A.length = smL A B := by
  cases h : sK A B A.length with
  | false => exact (sK_no A B _ h).symm
  | true =>
    unfold sK at h
    rw [Bool.and_eq_true, decide_eq_true_eq] at h
    have h2 := h.2
    rw [List.take_length, h.1, List.take_length] at h2
    exact h2.symm
theorem dis_small (A B : List It) (ha : A.length ≤ 40) (hb : B.length ≤ 40) : dis A B ≤ 100000 := by
  have h1 := dst_le A B
  have h2 := sur_le A B
  have : (A.length + B.length) * (A.length + B.length) ≤ 80 * 80 := Nat.mul_le_mul (by omega) (by omega)
  unfold dis; omega
/-- A slice of tokens that a law has drawn. -/
structure Dr (W : World) (p : Option Addr) (c : Nat) (A : List It) : Prop where
  its : Its W p A
  le : A.length ≤ c
  cm : c ≤ maxLen
  len : A.length ≤ 40
  txt : txtsB A
theorem Dr.call {W W' : World} {p : Option Addr} {c : Nat} {A : List It} (h : Dr W p c A) (hb : Below W.heap.size W W') : Dr W' p c A := ⟨h.its.call hb, h.le, h.cm, h.len, h.txt⟩
theorem Dr.dist {W : World} {p q : Option Addr} {c d : Nat} {A B : List It} (h : Dr W p c A) (k : Dr W q d B) : Calls Try.prog 32 #[.slice p A.length c, .slice q B.length d] W fun e w' => e = .returned (.int .i64 (dis A B : Nat)) ∧ Below W.heap.size W w' :=
  distance_any p q c d A B W h.its k.its h.le k.le h.cm k.cm (Nat.le_trans h.len (by omega)) (Nat.le_trans k.len (by omega)) h.txt k.txt
theorem dr_made {w w' : World} {L : List Int} {n : Nat} (hn : n ≤ 40) {e : Ending} (h : EndT (mkD L n) w e w') : ∃ p c, e = .returned (.slice p (mkD L n).length c) ∧ Dr w' p c (mkD L n) ∧ Below w.heap.size w w' := by
  obtain ⟨p, c, he, h1, h2, h3, h4⟩ := h.f
  exact ⟨p, c, he, ⟨h3, h1, h2, Nat.le_trans (mkD_len L n) hn, mkD_txt L n⟩, h4⟩
end Go.Proofs.Ytpkipdiecnokhaa
namespace Go.Proofs.Ytpkipdiecnokhaa
open Go.ChangeShapes Go.WideShapes Go.ChangeAt Go.RowKit Go.Sort
set_option linter.unusedVariables false
set_option linter.unusedSimpArgs false
set_option maxRecDepth 100000

theorem dr_own {W W' : World} {L : List It} {v : Value} (h : AccT W L v W') (hl : L.length ≤ 40) (ht : txtsB L) : ∃ p c, v = .slice p L.length c ∧ Dr W' p c L := by
  obtain ⟨p, c, hv, h1, h2, h3⟩ := OwnT.its h.own
  exact ⟨p, c, hv, h3, h1, h2, hl, ht⟩
theorem txtsB_app {a b : List It} (h : txtsB a) (k : txtsB b) : txtsB (a ++ b) := fun x hx => by
  rcases List.mem_append.1 hx with h1 | h1
  · exact h x h1
  · exact k x h1
end Go.Proofs.Ytpkipdiecnokhaa
