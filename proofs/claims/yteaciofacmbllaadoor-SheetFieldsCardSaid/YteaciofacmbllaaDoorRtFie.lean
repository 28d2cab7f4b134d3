/- Plain mathematics of SheetParts: what a document that could be divided is made of; a generated document can be divided. The contract of the generator's documents at the format of tables. The contract of the law's changed: a string of the same length. The walk of SheetParts. What the rows' condition on the listed variables gives: Itoa's contract. The walk of SheetFields. The law SheetFields holds for every input. -/
import Derived.Test.YteaciofacmbllaaDoorRtU
import Derived.Test.YteaciofacmbllaaDoorRtD
import Derived.Deep.RegionLaw
import Derived.Test.YteaciofacmbllaaDoorRtB
import Derived.Test.YteaciofacmbllaaDoorNxt
import Derived.Lib.ConvBytes
import Derived.Lib.SlBytesRow
import Derived.Lib.UnsafeStr
import Derived.Deep.Cut
import Derived.Deep.DeepCutAuto
import Derived.Test.YteaciofacmbllaaDoorRows
import Derived.Test.YteaciofacmbllaaDoorRtE
import Derived.LaidMore
import Derived.MakeChecks
import Derived.LaidHandle
import Derived.Lib.LaidU8
import Derived.Lib.AppendIntMem
import Derived.Test.YteaciofacmbllaaDoorSam
import Derived.WalkKit
import Derived.ProofKit
import Derived.OpenShut
import Derived.ChangeOld
import Derived.Below
import Derived.Carry
import Derived.SizedLaws
import Derived.Test.YteaciofacmbllaaDoorCards
import Derived.Test.YteaciofacmbllaaDoorTie
import Derived.Stop.Joined
import Derived.SevenTiedAt
import Derived.Lay
import Derived.Test.YteaciofacmbllaaDoorArf
namespace Go.Proofs.YteaciofacmbllaaDoor
set_option linter.unusedVariables false
open Go.Lib

/-- The parts so far: skeleton and units by turns, whose bytes are the first ones, and every unit can be decoded. -/
structure PInv (D : ByteArray) (ps : List Pt) (a : Nat) : Prop where
  even : ps.length % 2 = 0
  alt : ∀ i (h : i < ps.length), (ps[i]'h).u = decide (i % 2 = 1) ∧ (((ps[i]'h).key = .empty) ↔ (ps[i]'h).u = false) ∧ ((ps[i]'h).u = true → (dec elS (ps[i]'h).raw.data.toList).2.2.2 = 0)
  cat : ps.flatMap (fun x => x.raw.data.toList) = D.data.toList.take a
  le : a ≤ D.size
/-- What the parts of a document are. -/
structure POk (D : ByteArray) (ps : List Pt) : Prop where
  odd : ps.length % 2 = 1
  alt : ∀ i (h : i < ps.length), (ps[i]'h).u = decide (i % 2 = 1) ∧ (((ps[i]'h).key = .empty) ↔ (ps[i]'h).u = false) ∧ ((ps[i]'h).u = true → (dec elS (ps[i]'h).raw.data.toList).2.2.2 = 0)
  cat : ps.flatMap (fun x => x.raw.data.toList) = D.data.toList
theorem ext_list (D : ByteArray) (a b : Nat) : (D.extract a b).data.toList = (D.data.toList.drop a).take (b - a) := by simp [ByteArray.extract, ByteArray.copySlice]
theorem take_more (l : List UInt8) (a b : Nat) (h : a ≤ b) : l.take a ++ (l.drop a).take (b - a) = l.take b := by
  conv => rhs; rw [show b = a + (b - a) by omega, List.take_add]
theorem PInv.start (D : ByteArray) : PInv D [] 0 := ⟨rfl, fun i h => (by cases h), rfl, Nat.zero_le _⟩
theorem PInv.done {D : ByteArray} {ps : List Pt} {a : Nat} (h : PInv D ps a) : POk D (ps ++ [skel D a D.size]) := by
  refine ⟨by rw [List.length_append]; have := h.even; simp; omega, fun i hi => ?_, ?_⟩
  · rw [List.length_append] at hi
    by_cases hl : i < ps.length
    · rw [List.getElem_append_left hl]; exact h.alt i hl
    · have hi2 : i = ps.length := by simp at hi; omega
      subst hi2
      rw [List.getElem_append_right (Nat.le_refl _)]
      have he := h.even
      simp only [Nat.sub_self, List.getElem_cons_zero]
      refine ⟨?_, ⟨fun _ => rfl, fun _ => rfl⟩, fun hu => by cases hu⟩
      show false = _
      rw [decide_eq_false (by omega)]
  · rw [List.flatMap_append, h.cat]
    show _ ++ ((D.extract a D.size).data.toList ++ []) = _
    rw [List.append_nil, ext_list, take_more _ _ _ h.le, List.take_of_length_le (by simp)]
theorem PInv.unit {D : ByteArray} {ps : List Pt} {a b c : Nat} {key : ByteArray} (h : PInv D ps a) (h1 : a ≤ b) (h2 : b ≤ c) (h3 : c ≤ D.size) (hk : key ≠ .empty) (hd : (dec elS (D.extract b c).data.toList).2.2.2 = 0) : PInv D (ps ++ [skel D a b, ⟨true, key, D.extract b c⟩]) c := by
  have he := h.even
  refine ⟨by rw [List.length_append]; show (ps.length + 2) % 2 = 0; omega, fun i hi => ?_, ?_, h3⟩
  · rw [List.length_append] at hi
    by_cases hl : i < ps.length
    · rw [List.getElem_append_left hl]; exact h.alt i hl
    · rw [List.getElem_append_right (by omega)]
      have hi2 : i = ps.length ∨ i = ps.length + 1 := by simp at hi; omega
      rcases hi2 with rfl | rfl
      · simp only [Nat.sub_self, List.getElem_cons_zero]
        refine ⟨?_, ⟨fun _ => rfl, fun _ => rfl⟩, fun hu => by cases hu⟩
        show false = _
        rw [decide_eq_false (by omega)]
      · simp only [Nat.add_sub_cancel_left, List.getElem_cons_succ, List.getElem_cons_zero]
        refine ⟨?_, ⟨fun e => absurd e hk, fun e => by cases e⟩, fun _ => hd⟩
        show true = _
        rw [decide_eq_true (by omega)]
  · rw [List.flatMap_append, h.cat]
    show _ ++ ((D.extract a b).data.toList ++ ((D.extract b c).data.toList ++ [])) = _
    rw [List.append_nil, ext_list, ext_list, ← List.append_assoc, take_more _ _ _ h1, take_more _ _ _ h2]
theorem key_ne (r : Nat) : keyR r ≠ .empty := fun e => by
  have h : (keyR r).size = 0 := by rw [e]; rfl
  unfold keyR at h
  rw [bsL_size, decDigits_length] at h
  have := nDigits_pos r
  omega
theorem rawF_ext {D : ByteArray} {p : Nat} {x : Fld} (hq : x.quoted = true) : (D.extract (p + 1) (p + 1 + x.raw)).data.toList = rawF D p x := by
  unfold rawF restD; rw [ext_list, hq, if_pos rfl, Nat.add_sub_cancel_left]
/-- What the parts are, whatever has been read. -/
theorem rec_both (D : ByteArray) (f c : Nat) : ∀ (m : Nat) (ps : List Pt) (a p st n r : Nat), D.size - p < m → p ≤ D.size → PInv D ps a → a ≤ p →
    ((recS D f c ps a p st n r).2.2 = 0 → POk D (recS D f c ps a p st n r).1) ∧ ((recS D f c ps a p st n r).2.2 ≠ 0 → (recS D f c ps a p st n r).1 = []) := by
  intro m
  induction m with
  | zero => intro ps a p st n r h; omega
  | succ m ih =>
    intro ps a p st n r hm hp hI hap
    have bad : ∀ (q : Nat) (z : Int), recS D f c ps a p st n r = ([], q, z) → z ≠ 0 → ((recS D f c ps a p st n r).2.2 = 0 → POk D (recS D f c ps a p st n r).1) ∧ ((recS D f c ps a p st n r).2.2 ≠ 0 → (recS D f c ps a p st n r).1 = []) := fun q z h hz => by
      rw [h]; exact ⟨fun e => absurd e hz, fun _ => rfl⟩
    cases hf : fldS (restD D p) with
    | none => exact bad p 2 (rec_bad hp hf) (by decide)
    | some x =>
      have hx := fld_at hf hp
      by_cases h2 : n = f ∨ (n = c ∧ x.quoted = false)
      · exact bad p 2 (rec_many hp hf h2) (by decide)
      by_cases h3 : n = c ∧ (dec elS (rawF D p x)).2.2.2 ≠ 0
      · exact bad _ _ (rec_dec hp hf h2 h3) h3.2
      have hps : PInv D (psN D c ps a p n r x) (aN c a p n x) ∧ aN c a p n x ≤ p + x.size := by
        unfold psN aN
        by_cases hn : n = c
        · rw [if_pos hn, if_pos hn]
          have hq : x.quoted = true := by
            cases hq : x.quoted
            · exact absurd (.inr ⟨hn, hq⟩) h2
            · rfl
          have hs := (fldS_le hf).2.1 hq
          refine ⟨hI.unit (by omega) (by omega) (by omega) (key_ne r) ?_, by omega⟩
          rw [rawF_ext hq]
          rcases Classical.em ((dec elS (rawF D p x)).2.2.2 = 0) with e | e
          · exact e
          · exact absurd ⟨hn, e⟩ h3
        · rw [if_neg hn, if_neg hn]; exact ⟨hI, by omega⟩
      cases he : endsR D (p + x.size)
      · have hlt := endsR_lt he
        rw [rec_more hp hf h2 h3 he]
        exact ih _ _ _ _ _ _ (by omega) (by omega) hps.1 (by omega)
      · by_cases h4 : n + 1 < f
        · exact bad st 2 (rec_few hp hf h2 h3 he h4) (by decide)
        · rw [rec_next hp hf h2 h3 he h4]
          rcases Nat.lt_or_ge (p + x.size + 1) D.size with hl | hl
          · rw [recH_go hl]
            exact ih _ _ _ _ _ _ (by omega) (by omega) hps.1 (by omega)
          · rw [recH_end hl]
            exact ⟨fun _ => hps.1.done, fun h => absurd rfl h⟩
theorem splS_both (D : ByteArray) : ((splS D).2.2 = 0 → POk D (splS D).1) ∧ ((splS D).2.2 ≠ 0 → (splS D).1 = []) := by
  rcases Nat.lt_or_ge 65536 D.size with hb | hb
  · rw [splS_long hb]; exact ⟨fun e => (by cases e), fun _ => rfl⟩
  rw [splS_of hb]
  cases hdrS D 0 0 0 0 with
  | bad p => exact ⟨fun e => (by cases e), fun _ => rfl⟩
  | ok f t c nx =>
    dsimp only
    split
    · exact ⟨fun e => (by cases e), fun _ => rfl⟩
    split
    · rcases Nat.lt_or_ge nx D.size with hl | hl
      · rw [recH_go hl]
        exact rec_both D f c (D.size + 1) [] 0 nx nx 0 1 (by omega) (by omega) (PInv.start D) (Nat.zero_le _)
      · rw [recH_end hl]
        exact ⟨fun _ => (PInv.start D).done, fun h => absurd rfl h⟩
    · exact ⟨fun e => (by cases e), fun _ => rfl⟩
/-- What may stand behind a field. -/
def StopT (t : List UInt8) : Prop := ∀ c, t.head? = some c → c = 44 ∨ c = 10
theorem endF_app (u t : List UInt8) (x : Fld) (hx : x.size = u.length) (ht : StopT t) : endF (u ++ t) x = some x := by
  unfold endF
  rw [hx, List.drop_left]
  cases h : t.head? with
  | none => rfl
  | some c => exact if_pos (ht c h)
theorem fld_quotedS {raw t : List UInt8} (hs : Safe raw) (ht : StopT t) : fldS (34 :: (raw ++ 34 :: t)) = some ⟨true, raw.length, raw.length + 2⟩ := by
  have hne : t.head? ≠ some 34 := fun e => by rcases ht 34 e with h | h <;> revert h <;> decide
  have hc : cloQ (raw ++ 34 :: t) = some raw.length := by rw [hs, cloQ_here t hne]; show some (0 + raw.length) = _; rw [Nat.zero_add]
  unfold fldS
  rw [if_pos (show (34 :: (raw ++ 34 :: t)).head? = some 34 from rfl)]
  show (match cloQ (raw ++ 34 :: t) with | none => none | some n => endF (34 :: (raw ++ 34 :: t)) ⟨true, n, n + 2⟩) = _
  rw [hc]
  have := endF_app (34 :: (raw ++ [34])) t ⟨true, raw.length, raw.length + 2⟩ (by simp) ht
  have e : 34 :: (raw ++ [34]) ++ t = 34 :: (raw ++ 34 :: t) := by simp
  rw [e] at this; exact this
theorem fld_bareS {u t : List UInt8} (hu : ∀ c ∈ u, stopF c = false) (ht : StopT t) : fldS (u ++ t) = some ⟨false, u.length, u.length⟩ := by
  have hst : ∀ c, t.head? = some c → stopF c = true := fun c hc => by
    rcases ht c hc with rfl | rfl <;> decide
  have hb : barL (u ++ t) = u.length := by
    unfold barL
    rw [List.takeWhile_append_of_pos (fun c hc => by rw [hu c hc]; rfl)]
    cases t with
    | nil => simp
    | cons c r => rw [List.takeWhile_cons, hst c rfl]; simp
  have hq : (u ++ t).head? ≠ some 34 := fun e => by
    cases u with
    | nil => have := hst 34 e; rcases ht 34 e with h | h <;> revert h <;> decide
    | cons c r => injection e with e; have := hu c (List.mem_cons_self ..); rw [e] at this; revert this; decide
  unfold fldS
  rw [if_neg hq, hb]
  exact endF_app u t _ rfl ht
theorem rest_drop {D : ByteArray} {p k : Nat} {r : List UInt8} (h : restD D p = r) : restD D (p + k) = r.drop k := by rw [← h]; unfold restD; rw [List.drop_drop]
theorem rest_size {D : ByteArray} {p : Nat} {r : List UInt8} (h : restD D p = r) (hp : p ≤ D.size) : p + r.length = D.size := by rw [← h, restD_len]; omega
/-- The tables that the generator makes: fields, column, what stands before and behind the text of a row, the header. -/
structure Kind where
  f : Nat
  c : Nat
  pre : List UInt8
  suf : List UInt8
  hd : List UInt8
def kinds : List Kind := [⟨1, 0, [], [], [116, 101, 120, 116]⟩, ⟨2, 1, [55, 44], [], [105, 100, 44, 116, 101, 120, 116]⟩, ⟨3, 1, [120, 44], [44, 34, 121, 34], [34, 97, 44, 98, 34, 44, 116, 101, 120, 116, 44, 99]⟩]
def rowK (K : Kind) (raw : List UInt8) : List UInt8 := K.pre ++ 34 :: (raw ++ 34 :: K.suf)
/-- Records that can be read, from the beginning of one on. -/
def PD (K : Kind) (r : List UInt8) : Prop := ∀ (D : ByteArray) (ps : List Pt) (a p k : Nat), restD D p = r → p ≤ D.size → (recH D K.f K.c ps a p k).2 = (0, 0)
/-- What may stand behind a record. -/
def PE (K : Kind) (t : List UInt8) : Prop := t = [] ∨ ∃ r, t = 10 :: r ∧ PD K r
theorem PE.stop {K : Kind} {t : List UInt8} (h : PE K t) : StopT t := fun c hc => by
  rcases h with rfl | ⟨r, rfl, _⟩
  · cases hc
  · injection hc with hc; exact .inr hc.symm
theorem PE.ends {K : Kind} {t : List UInt8} (h : PE K t) {D : ByteArray} {q : Nat} (hq : restD D q = t) : endsR D q = true := by
  unfold endsR
  rw [hq]
  rcases h with rfl | ⟨r, rfl, _⟩ <;> rfl
theorem PE.next {K : Kind} {t : List UInt8} (h : PE K t) {D : ByteArray} {q : Nat} (hq : restD D q = t) (hle : q ≤ D.size) (ps : List Pt) (a k : Nat) : (recH D K.f K.c ps a (q + 1) k).2 = (0, 0) := by
  have hs := rest_size hq hle
  rcases h with rfl | ⟨r, rfl, hr⟩
  · rw [recH_end (by simp at hs; omega)]
  · exact hr D ps a (q + 1) k (by rw [rest_drop hq]; rfl) (by simp at hs; omega)

section
variable {D : ByteArray} {f c a p st n k : Nat} {ps : List Pt}
/-- A bare field that is not the text's, and its separator. -/
theorem step_bare {u r : List UInt8} (hr : restD D p = u ++ 44 :: r) (hp : p ≤ D.size) (hu : ∀ x ∈ u, stopF x = false) (hf : n ≠ f) (hc : n ≠ c) :
    recS D f c ps a p st n k = recS D f c ps a (p + u.length + 1) st (n + 1) k ∧ restD D (p + u.length + 1) = r ∧ p + u.length + 1 ≤ D.size := by
  have hfl : fldS (restD D p) = some ⟨false, u.length, u.length⟩ := by
    rw [hr]; exact fld_bareS hu (fun x hx => by injection hx with hx; exact .inl hx.symm)
  have hd : restD D (p + u.length) = 44 :: r := by rw [rest_drop hr, List.drop_left]
  have he : endsR D (p + u.length) = false := by unfold endsR; rw [hd]; rfl
  have hs := rest_size hr hp
  refine ⟨?_, ?_, by simp at hs; omega⟩
  · rw [rec_more hp hfl (by rintro (e | ⟨e, _⟩); exact hf e; exact hc e) (fun e => hc e.1) he]
    unfold psN aN
    rw [if_neg hc, if_neg hc]
  · rw [rest_drop (k := 1) hd]; rfl
theorem quoted_facts {raw t : List UInt8} (hr : restD D p = 34 :: (raw ++ 34 :: t)) (hp : p ≤ D.size) (hs : Safe raw) (ht : StopT t) :
    fldS (restD D p) = some ⟨true, raw.length, raw.length + 2⟩ ∧ rawF D p ⟨true, raw.length, raw.length + 2⟩ = raw ∧ restD D (p + (raw.length + 2)) = t ∧ p + (raw.length + 2) ≤ D.size := by
  refine ⟨by rw [hr]; exact fld_quotedS hs ht, ?_, ?_, ?_⟩
  · unfold rawF
    rw [if_pos rfl, rest_drop hr]
    show (raw ++ 34 :: t).take raw.length = raw
    exact List.take_left
  · rw [rest_drop hr]
    show (raw ++ 34 :: t).drop (raw.length + 1) = t
    have : raw ++ 34 :: t = (raw ++ [34]) ++ t := by simp
    rw [this, show raw.length + 1 = (raw ++ [34]).length by simp, List.drop_left]
  · have := rest_size hr hp; simp at this; omega
/-- A quoted field and its separator: the text's, or another. -/
theorem step_quoted {raw r : List UInt8} (hr : restD D p = 34 :: (raw ++ 34 :: 44 :: r)) (hp : p ≤ D.size) (hs : Safe raw) (hd : (dec elS raw).2.2.2 = 0) (hf : n ≠ f) :
    ∃ ps' a', recS D f c ps a p st n k = recS D f c ps' a' (p + (raw.length + 2) + 1) st (n + 1) k ∧ restD D (p + (raw.length + 2) + 1) = r ∧ p + (raw.length + 2) + 1 ≤ D.size := by
  obtain ⟨h1, h2, h3, h4⟩ := quoted_facts hr hp hs (fun x hx => by injection hx with hx; exact .inl hx.symm)
  have he : endsR D (p + (raw.length + 2)) = false := by unfold endsR; rw [h3]; rfl
  have hz := rest_size h3 h4
  refine ⟨_, _, rec_more hp h1 (by rintro (e | ⟨_, e⟩); exact hf e; cases e) (fun e => e.2 (by rw [h2]; exact hd)) he, ?_, by simp at hz; omega⟩
  rw [rest_drop (k := 1) h3]; rfl
/-- The last field of a record. -/
theorem step_last {K : Kind} {raw t : List UInt8} (hr : restD D p = 34 :: (raw ++ 34 :: t)) (hp : p ≤ D.size) (hs : Safe raw) (hd : (dec elS raw).2.2.2 = 0) (hf : n ≠ K.f) (hl : K.f ≤ n + 1) (ht : PE K t) : (recS D K.f K.c ps a p st n k).2 = (0, 0) := by
  obtain ⟨h1, h2, h3, h4⟩ := quoted_facts hr hp hs ht.stop
  rw [rec_next hp h1 (by rintro (e | ⟨_, e⟩); exact hf e; cases e) (fun e => e.2 (by rw [h2]; exact hd)) (ht.ends h3) (by omega)]
  exact ht.next h3 h4 _ _ _
end
theorem one_safe : Safe [121] := Safe.one (by decide)
theorem one_dec : (dec elS [121]).2.2.2 = 0 := by decide
/-- A row of the generator, and what stands behind it. -/
theorem PD.row {K : Kind} (hK : K ∈ kinds) {raw t : List UInt8} (hs : Safe raw) (hd : (dec elS raw).2.2.2 = 0) (ht : PE K t) : PD K (rowK K raw ++ t) := fun D ps a p k hr hp => by
  have hz := rest_size hr hp
  have hlt : p < D.size := by unfold rowK at hz; simp at hz; omega
  rw [recH_go hlt]
  unfold kinds at hK
  simp only [List.mem_cons, List.not_mem_nil, or_false] at hK
  rcases hK with rfl | rfl | rfl
  · have hr : restD D p = 34 :: (raw ++ 34 :: t) := by rw [hr]; unfold rowK; simp
    exact step_last hr hp hs hd (by decide) (by decide) ht
  · have hr : restD D p = [55] ++ 44 :: (34 :: (raw ++ 34 :: t)) := by rw [hr]; unfold rowK; simp
    obtain ⟨e1, e2, e3⟩ := step_bare (f := 2) (c := 1) (ps := ps) (a := a) (st := p) (n := 0) (k := k) hr hp (by decide) (by decide) (by decide)
    rw [e1]
    exact step_last e2 e3 hs hd (by decide) (by decide) ht
  · have hr : restD D p = [120] ++ 44 :: (34 :: (raw ++ 34 :: 44 :: (34 :: ([121] ++ 34 :: t)))) := by rw [hr]; unfold rowK; simp
    obtain ⟨e1, e2, e3⟩ := step_bare (f := 3) (c := 1) (ps := ps) (a := a) (st := p) (n := 0) (k := k) hr hp (by decide) (by decide) (by decide)
    rw [e1]
    obtain ⟨ps', a', e4, e5, e6⟩ := step_quoted (f := 3) (c := 1) (ps := ps) (a := a) (st := p) (n := 1) (k := k) e2 e3 hs hd (by decide)
    rw [e4]
    exact step_last e5 e6 one_safe one_dec (by decide) (by decide) ht
/-- A document so far: whatever records follow, it can be divided. -/
def PQ (K : Kind) (C : List UInt8) : Prop := ∀ t, PE K t → (C ++ t).length ≤ 65536 → (splS (bsL (C ++ t))).2 = (0, 0)
theorem PQ.row {K : Kind} (hK : K ∈ kinds) {C raw : List UInt8} (h : PQ K C) (hs : Safe raw) (hd : (dec elS raw).2.2.2 = 0) : PQ K (C ++ 10 :: rowK K raw) := fun t ht hl => by
  rw [List.append_assoc, List.cons_append] at hl ⊢
  exact h _ (.inr ⟨_, rfl, PD.row hK hs hd ht⟩) hl
theorem PQ.done {K : Kind} {C : List UInt8} (h : PQ K C) (hl : C.length ≤ 65536) : (splS (bsL C)).2 = (0, 0) := by
  have := h [] (.inl rfl) (by simpa using hl)
  rwa [List.append_nil] at this
section
variable {D : ByteArray} {p n t c : Nat}
theorem hstep {u r : List UInt8} (hr : restD D p = u ++ 44 :: r) (hp : p ≤ D.size) (hu : ∀ x ∈ u, stopF x = false) (ht : u ≠ [116, 101, 120, 116]) :
    hdrS D p n t c = hdrS D (p + u.length + 1) (n + 1) t c ∧ restD D (p + u.length + 1) = r ∧ p + u.length + 1 ≤ D.size := by
  have hfl : fldS (restD D p) = some ⟨false, u.length, u.length⟩ := by
    rw [hr]; exact fld_bareS hu (fun x hx => by injection hx with hx; exact .inl hx.symm)
  have hd : restD D (p + u.length) = 44 :: r := by rw [rest_drop hr, List.drop_left]
  have he : endsR D (p + u.length) = false := by unfold endsR; rw [hd]; rfl
  have hs := rest_size hr hp
  have hx : isText D p ⟨false, u.length, u.length⟩ = false := by
    unfold isText; rw [hr, decide_eq_false_iff_not]; show ¬ (u ++ 44 :: r).take u.length = _; rw [List.take_left]; exact ht
  refine ⟨?_, by rw [rest_drop (k := 1) hd]; rfl, by simp at hs; omega⟩
  rw [hdr_more hp hfl he, hx, if_neg (by decide), if_neg (by decide)]
theorem hquot {raw r : List UInt8} (hr : restD D p = 34 :: (raw ++ 34 :: 44 :: r)) (hp : p ≤ D.size) (hs : Safe raw) :
    hdrS D p n t c = hdrS D (p + (raw.length + 2) + 1) (n + 1) t c ∧ restD D (p + (raw.length + 2) + 1) = r ∧ p + (raw.length + 2) + 1 ≤ D.size := by
  obtain ⟨h1, h2, h3, h4⟩ := quoted_facts hr hp hs (fun x hx => by injection hx with hx; exact .inl hx.symm)
  have he : endsR D (p + (raw.length + 2)) = false := by unfold endsR; rw [h3]; rfl
  have hz := rest_size h3 h4
  refine ⟨?_, by rw [rest_drop (k := 1) h3]; rfl, by simp at hz; omega⟩
  rw [hdr_more hp h1 he, isText_quoted h1 rfl, if_neg (by decide), if_neg (by decide)]
theorem htext {r : List UInt8} (hr : restD D p = [116, 101, 120, 116] ++ 44 :: r) (hp : p ≤ D.size) :
    hdrS D p n t c = hdrS D (p + 4 + 1) (n + 1) (t + 1) n ∧ restD D (p + 4 + 1) = r ∧ p + 4 + 1 ≤ D.size := by
  have hfl : fldS (restD D p) = some ⟨false, 4, 4⟩ := by
    rw [hr]; exact fld_bareS (u := [116, 101, 120, 116]) (by decide) (fun x hx => by injection hx with hx; exact .inl hx.symm)
  have hd : restD D (p + 4) = 44 :: r := by rw [rest_drop hr]; rfl
  have he : endsR D (p + 4) = false := by unfold endsR; rw [hd]; rfl
  have hs := rest_size hr hp
  have hx : isText D p ⟨false, 4, 4⟩ = true := by unfold isText; rw [hr]; rfl
  refine ⟨?_, by rw [rest_drop (k := 1) hd]; rfl, by simp at hs; omega⟩
  rw [hdr_more hp hfl he, hx, if_pos rfl, if_pos rfl]
theorem hlast {K : Kind} {u s : List UInt8} (hr : restD D p = u ++ s) (hp : p ≤ D.size) (hu : ∀ x ∈ u, stopF x = false) (hs : PE K s) :
    hdrS D p n t c = .ok (n + 1) (if u = [116, 101, 120, 116] then t + 1 else t) (if u = [116, 101, 120, 116] then n else c) (p + u.length + 1) ∧ restD D (p + u.length) = s ∧ p + u.length ≤ D.size := by
  have hfl : fldS (restD D p) = some ⟨false, u.length, u.length⟩ := by rw [hr]; exact fld_bareS hu hs.stop
  have hd : restD D (p + u.length) = s := by rw [rest_drop hr, List.drop_left]
  have hz := rest_size hr hp
  have hx : isText D p ⟨false, u.length, u.length⟩ = decide (u = [116, 101, 120, 116]) := by
    unfold isText; rw [hr]; show decide ((u ++ s).take u.length = _) = _; rw [List.take_left]
  refine ⟨?_, hd, by simp at hz; omega⟩
  rw [hdr_end hp hfl (hs.ends hd), hx]
  by_cases h : u = [116, 101, 120, 116]
  · rw [decide_eq_true h, if_pos rfl, if_pos rfl, if_pos h, if_pos h]
  · rw [decide_eq_false h, if_neg (by decide), if_neg (by decide), if_neg h, if_neg h]
end
theorem rest_zero (L : List UInt8) : restD (bsL L) 0 = L := by unfold restD; rw [List.drop_zero, bsL_list]
theorem PQ.start {K : Kind} (hK : K ∈ kinds) : PQ K K.hd := fun t ht hl => by
  have hsz : (bsL (K.hd ++ t)).size ≤ 65536 := by rw [bsL_size]; exact hl
  rw [splS_of hsz]
  have h0 := rest_zero (K.hd ++ t)
  unfold kinds at hK
  simp only [List.mem_cons, List.not_mem_nil, or_false] at hK
  rcases hK with rfl | rfl | rfl
  · obtain ⟨e1, e2, e3⟩ := hlast (n := 0) (t := 0) (c := 0) h0 (Nat.zero_le _) (by decide) ht
    rw [e1]
    exact ht.next e2 e3 [] 0 1
  · have h0 : restD (bsL ([105, 100, 44, 116, 101, 120, 116] ++ t)) 0 = [105, 100] ++ 44 :: ([116, 101, 120, 116] ++ t) := h0
    obtain ⟨e1, e2, e3⟩ := hstep (n := 0) (t := 0) (c := 0) h0 (Nat.zero_le _) (by decide) (by decide)
    rw [e1]
    obtain ⟨f1, f2, f3⟩ := hlast (n := 1) (t := 0) (c := 0) e2 e3 (by decide) ht
    rw [f1]
    exact ht.next f2 f3 [] 0 1
  · have h0 : restD (bsL ([34, 97, 44, 98, 34, 44, 116, 101, 120, 116, 44, 99] ++ t)) 0 = 34 :: ([97, 44, 98] ++ 34 :: 44 :: ([116, 101, 120, 116] ++ 44 :: ([99] ++ t))) := h0
    obtain ⟨g1, g2, g3⟩ := hquot (n := 0) (t := 0) (c := 0) h0 (Nat.zero_le _) (Safe.all (by decide))
    rw [g1]
    obtain ⟨e1, e2, e3⟩ := htext (n := 1) (t := 0) (c := 0) g2 g3
    rw [e1]
    obtain ⟨f1, f2, f3⟩ := hlast (n := 2) (t := 1) (c := 1) e2 e3 (by decide) ht
    rw [f1]
    exact ht.next f2 f3 [] 0 1
end Go.Proofs.YteaciofacmbllaaDoor
namespace Go.Proofs.YteaciofacmbllaaDoor
open Go.ChangeShapes Go.WideShapes Go.ChangeAt Go.RowKit
set_option linter.unusedVariables false
set_option linter.unusedSimpArgs false
set_option maxRecDepth 100000

theorem frag_flat (L : List Int) (m n : Nat) : NoT (fragG L false true m n).1 := by
  unfold fragG startG
  obtain ⟨a, b⟩ := run_flat L (nx L m (n + 1)) ⟨[], [], 0, m + 1⟩ rfl rfl
  dsimp only
  rw [if_pos rfl, a]
  unfold NoT at b ⊢
  simpa using b
theorem encS_short (f : List It) : (encS f).length ≤ 2 * txtI f + 2 * f.length := by
  unfold encS
  induction f with
  | nil => exact Nat.zero_le _
  | cons x t ih =>
    rw [List.flatMap_cons, List.length_append, List.length_cons]
    have hs : x.t.data.toList.length = x.t.size := by simp
    have e : txtI (x :: t) = x.t.size + txtI t := rfl
    have h1 : (e1S x).length ≤ 2 * x.t.size + 2 := by
      unfold e1S
      split
      · have := encT_len x.t.data.toList
        unfold encT at this; omega
      · simp only [List.length_cons, List.length_append, List.length_nil, hs]; omega
    omega
theorem raws_short {f : List It} {raw : List UInt8} (h : RawsR (expI f) raw) : raw.length ≤ 2 * txtI f + 2 * f.length := by
  rw [raws_enc h]; exact encS_short f
theorem raws_safe {f : List It} (h : valE f = 0) (ht : NoT f) {raw : List UInt8} (hr : RawsR (expI f) raw) : Safe raw ∧ (dec elS raw).2.2.2 = 0 := by
  rw [raws_enc hr]
  exact ⟨enc_safe (valE_zero h).2.2 ht, by rw [dec_enc h ht]⟩
def hdB9 : List ByteArray := [⟨#[116, 101, 120, 116]⟩, ⟨#[105, 100, 44, 116, 101, 120, 116]⟩, ⟨#[34, 97, 44, 98, 34, 44, 116, 101, 120, 116, 44, 99]⟩]
theorem hdB_any (k : Nat) (hk : k < 3) : ∃ K : Kind, K ∈ kinds ∧ kinds[k]? = some K ∧ pickB hdB9 k = bsL K.hd ∧ K.hd.length ≤ 12 ∧ (K.hd.length : Int) / 6 = (k : Int) := by
  have : k = 0 ∨ k = 1 ∨ k = 2 := by omega
  rcases this with rfl | rfl | rfl
  · exact ⟨_, .head _, rfl, rfl, by decide, by decide⟩
  · exact ⟨_, .tail _ (.head _), rfl, rfl, by decide, by decide⟩
  · exact ⟨_, .tail _ (.tail _ (.head _)), rfl, rfl, by decide, by decide⟩
theorem rowK_len (K : Kind) (h : K ∈ kinds) (raw : List UInt8) : (rowK K raw).length ≤ raw.length + 8 := by
  unfold kinds at h
  simp only [List.mem_cons, List.not_mem_nil, or_false] at h
  rcases h with rfl | rfl | rfl <;> (unfold rowK; simp)
/-- What Data answers: a document that can be divided. -/
def EndDa (b : Nat) (w : World) (e : Ending) (w' : World) : Prop := ∃ C : List UInt8, e = .returned (.string (bsL C)) ∧ (splS (bsL C)).2.2 = 0 ∧ C.length ≤ 10000 ∧ w.grownBy w' (some b)
set_option maxHeartbeats 12800000 in
theorem data_any (b : Nat) (p : Option Addr) (cap : Nat) (L : List Int) (w : World) (h : NumsAt w b p cap L 0) (hpb : ∀ W, NumsAt W b p cap L 0 → True) :
    Calls Tryd.prog 29 #[.pointer (some ⟨b, 0, none⟩), .int .i64 3, .int .i64 4] w (EndDa b w) := by
  have hn5 := fun m (hm : m ≤ 900000) W h => next_any b p cap L m 5 5 rfl W h (by omega) (by omega) (by omega)
  have hfr := fun m (hm : m ≤ 100000) W (h : NumsAt W b p cap L m) => fragment_any b p cap L m false true 5 5 rfl W h (fun h0 a ha => ones_any h.ones h0 a ha) hm (by omega)
  have hfo := fun m => frag_ok L false true m 5 (by omega)
  have hff := fun m => frag_flat L m 5
  have hrw := fun m (hm : m ≤ 800000) pf cf (F : List It) (hF : FragOk 5 F) (ht : NoT F) W h i s hc hcm => mkraws_any b p cap L m pf cf F W h hm i s hc hcm (hF.valid (by omega)) ht (by have := hF.txt; omega)
  have hk1 := nx_lt L 0 3 (by omega)
  obtain ⟨K, hKm, hKi, hp0, hl0, hdv⟩ := hdB_any (nx L 0 3) hk1
  have hN0 := nx_lt L 1 5 (by omega)
  have HFR := Lib.hid hfr; have HFO := Lib.hid hfo; have HFF := Lib.hid hff; have HRW := Lib.hid hrw
  have N1 := Lib.hid (fun W h => next_any b p cap L 0 3 3 rfl W h (by omega) (by omega) (by omega)); have N2 := Lib.hid (hn5 1 (by omega))
  have HP0 := Lib.hid hp0; have HKI := Lib.hid hKi; have HKM := Lib.hid hKm
  clear hn5 hfr hfo hff hrw hp0 hpb hKi hKm
  generalize nx L 0 3 = k0 at *
  generalize nx L 1 5 = N at *
  have HQ := Lib.hid (PQ.start HKM.out)
  have hdv2 : ((bsL K.hd).size : Int) / 6 = (k0 : Int) := by rw [bsL_size]; exact hdv
  have hz0 : (bsL K.hd).size ≤ 12 := by rw [bsL_size]; exact hl0
  have HDV := Lib.hid hdv2
  have hlt := h.lt
  clear hdv hdv2
  go_enter Tryd.func29, Tryd.ntmps29
  go_wp2_with fail
  refine (N1.out _ (h.call (blw (Below.refl _ _) _))).mono ?_
  rintro e w1 ⟨rfl, hg, hN⟩
  have hB := (hg.block w.heap.size (by simp) (fun e => by injection e with e; omega)).trans (heap_alloc_new w _)
  have hc := pick_row hB hdB9 rfl k0 hk1
  rw [HP0.out] at hc
  have hgr := chg_trans (chg_below (b := b) (blw (Below.refl w.heap.size w) _)) hg
  have hk3 : (k0 : Int) < 3 := by omega
  clear hg hB
  go_wp2_with fail
  refine (N2.out _ hN).mono ?_
  rintro e w2 ⟨rfl, hg2, hN2⟩
  have hgr2 := chg_trans hgr hg2
  clear hc hg2 hgr hN N1 N2 HP0
  go_wp2_with fail
  have hkk : k0 = 0 ∨ k0 = 1 ∨ k0 = 2 := by omega
  rcases hkk with ek | ek | ek
  · have HDV2 := Lib.hid (show ((bsL K.hd).size : Int) / 6 = 0 by rw [HDV.out, ek]; rfl)
    have EK := Lib.hid ek
    clear ek
    rw [HDV2.out]
    clear HDV HDV2 hk3 hk1
    go_loopw [7, 9] (fun v i wr => ∃ (n m : Nat) (C : List UInt8), n ≤ N ∧ i = .int .i64 (n : Int) ∧ v = .string (bsL C) ∧ Hid (PQ K C) ∧ C.length ≤ 12 + 1200 * (N - n) ∧ m ≤ 2 + 400 * (N - n) ∧ w.grownBy wr (some b) ∧ NumsAt wr b p cap L m) (fun _ i _ => (intOf i).toNat)
    case atStart => exact ⟨N, 2, K.hd, Nat.le_refl _, rfl, rfl, HQ, by omega, by omega, hgr2, hN2⟩
    case round =>
      obtain ⟨n, m, C, hn, rfl, rfl, HC, hCl, hm, hgr, hN⟩ := hrel
      by_cases hn0 : 0 < n
      · obtain ⟨n, rfl⟩ : ∃ j, n = j + 1 := ⟨n - 1, by omega⟩
        have hf1 := HFR.out m (by omega)
        have hf2 := HFO.out m
        have hf3 := HFF.out m
        obtain ⟨hok, hm1, hm2⟩ := hf2
        generalize (fragG L false true m 5).1 = F at *
        generalize (fragG L false true m 5).2 = m1 at *
        have gl := hok.len; have gt := hok.txt; have gi := hok.lenI
        have hv := hok.valid (by omega)
        have hr1 := fun pf cf W h i s hc hcm => HRW.out m1 (by omega) pf cf F hok hf3 W h i s hc hcm
        have hrs : ∀ raw, RawsR (expI F) raw → Safe raw ∧ (dec elS raw).2.2.2 = 0 ∧ raw.length ≤ 1130 := fun raw hr => ⟨(raws_safe hv hf3 hr).1, (raws_safe hv hf3 hr).2, by have := raws_short hr; omega⟩
        have HF1 := Lib.hid hf1; have HR1 := Lib.hid hr1; have HRS := Lib.hid hrs
        clear hf1 hf3 hr1 hrs hv hok
        go_wp2_with fail
        refine (HF1.out _ hN).mono ?_
        rintro e w3 ⟨vf, rfl, hg3, hN3, hown⟩
        obtain ⟨pf, cf, rfl, fa, fb, fi⟩ := hown.its
        have hadr := OwnL.addr hown
        have hNlt := hN.lt
        have hgr3 := chg_trans hgr hg3
        have hsep : 0 < F.length → ∀ a, pf = some a → some b ≠ some a.block := fun _ a ha e => by
          have := (hadr a ha).1
          injection e with e
          omega
        clear hown hadr hg3
        go_wp2_with fail
        refine (HR1.out pf cf w3 hN3 fi hsep fa fb).mono ?_
        rintro e w4 ⟨raw, m2, rfl, hraw, hrl, hm3, hg4, hN4⟩
        obtain ⟨hsafe, hdd, hrz⟩ := HRS.out raw hraw
        have hgr4 := chg_trans hgr3 hg4
        have HNX := Lib.hid (HC.out.row HKM.out hsafe hdd)
        have hsr : (bsL raw).size ≤ 1130 := by rw [bsL_size]; exact hrz
        have hsC : (bsL C).size ≤ 10000 := by rw [bsL_size]; omega
        have hrk := rowK_len K HKM.out raw
        have hlen : (C ++ 10 :: rowK K raw).length ≤ 12 + 1200 * (N - n) := by
          simp only [List.length_append, List.length_cons]; omega
        clear hraw hsafe hdd hg4 fi hsep hN3 hrk
        have hrow : rowK K raw = ([] : List UInt8) ++ 34 :: (raw ++ 34 :: []) := by have := HKI.out; rw [EK.out] at this; injection this with e; rw [← e]; rfl
        have hend : bsL C ++ ((⟨#[10]⟩ : ByteArray) ++ ⟨#[]⟩ ++ ⟨#[34]⟩ ++ bsL raw ++ ⟨#[34]⟩ ++ ⟨#[]⟩) = bsL (C ++ 10 :: rowK K raw) := by
          show bsL C ++ (bsL [10] ++ bsL [] ++ bsL [34] ++ bsL raw ++ bsL [34] ++ bsL []) = _
          rw [bsL_append, bsL_append, bsL_append, bsL_append, bsL_append, bsL_append, hrow]
          congr 1; simp
        have HEND := Lib.hid hend
        clear hend hrow
        generalize (C ++ 10 :: rowK K raw) = C2 at *
        generalize bsL raw = sr at *
        generalize bsL C = sC at *
        have z1 : ¬ (9223372036854775807 < 1 + (⟨#[]⟩ : ByteArray).size) := by show ¬ (9223372036854775807 < 1 + 0); omega
        have z2 : ¬ (9223372036854775807 < ((⟨#[10]⟩ : ByteArray) ++ ⟨#[]⟩).size + 1) := by show ¬ (9223372036854775807 < 1 + 1); omega
        have z3 : ¬ (9223372036854775807 < ((⟨#[10]⟩ : ByteArray) ++ ⟨#[]⟩ ++ ⟨#[34]⟩).size + sr.size) := by show ¬ (9223372036854775807 < 2 + sr.size); omega
        have e0 : ((⟨#[10]⟩ : ByteArray) ++ ⟨#[]⟩ ++ ⟨#[34]⟩).size = 2 := rfl
        have z4 : ¬ (9223372036854775807 < ((⟨#[10]⟩ : ByteArray) ++ ⟨#[]⟩ ++ ⟨#[34]⟩ ++ sr).size + 1) := by rw [ByteArray.size_append, e0]; omega
        have e1 : ((⟨#[10]⟩ : ByteArray) ++ ⟨#[]⟩ ++ ⟨#[34]⟩ ++ sr ++ ⟨#[34]⟩).size = 3 + sr.size := by rw [ByteArray.size_append, ByteArray.size_append, e0]; show 2 + sr.size + 1 = _; omega
        have e2 : (⟨#[]⟩ : ByteArray).size = 0 := rfl
        have z5 : ¬ (9223372036854775807 < ((⟨#[10]⟩ : ByteArray) ++ ⟨#[]⟩ ++ ⟨#[34]⟩ ++ sr ++ ⟨#[34]⟩).size + (⟨#[]⟩ : ByteArray).size) := by rw [e1, e2]; omega
        have z6 : ¬ (9223372036854775807 < sC.size + ((⟨#[10]⟩ : ByteArray) ++ ⟨#[]⟩ ++ ⟨#[34]⟩ ++ sr ++ ⟨#[34]⟩ ++ ⟨#[]⟩).size) := by rw [ByteArray.size_append, e1, e2]; omega
        clear e0 e1 e2
        have mixed : Tryd.prog.follows .mixedOrders = true := by kernel_rfl
        go_upto_region 16 with fail
        go_region_o
        all_goals go_wp2_with fail
        all_goals go_roundw
        case rel => exact ⟨n, m2, C2, by omega, by first | go_num | (congr 1; omega), by rw [HEND.out], HNX, hlen, by omega, chg_trans hgr4 (chg_below (b := b) ((blw (blw (Below.refl w4.heap.size w4) _) _).drew)), hN4.call ((blw (blw (Below.refl w4.heap.size w4) _) _).drew)⟩
        case measure => simp [intOf]
        case rel => exact ⟨n, m2, C2, by omega, by first | go_num | (congr 1; omega), by rw [HEND.out], HNX, hlen, by omega, chg_trans hgr4 (chg_below (b := b) ((blw (blw (Below.refl w4.heap.size w4) _) _).drew)), hN4.call ((blw (blw (Below.refl w4.heap.size w4) _) _).drew)⟩
        case measure => simp [intOf]
      · obtain rfl : n = 0 := by omega
        have HD := Lib.hid (by have := HC.out.done (by omega); rw [this] : (splS (bsL C)).2.2 = 0)
        have hCz : C.length ≤ 10000 := by omega
        clear hn0
        go_wp2_with fail
        go_ret
        exact ⟨C, rfl, HD.out, hCz, hgr⟩
  · have HDV2 := Lib.hid (show ((bsL K.hd).size : Int) / 6 = 1 by rw [HDV.out, ek]; rfl)
    have EK := Lib.hid ek
    clear ek
    rw [HDV2.out]
    clear HDV HDV2 hk3 hk1
    go_loopw [7, 9] (fun v i wr => ∃ (n m : Nat) (C : List UInt8), n ≤ N ∧ i = .int .i64 (n : Int) ∧ v = .string (bsL C) ∧ Hid (PQ K C) ∧ C.length ≤ 12 + 1200 * (N - n) ∧ m ≤ 2 + 400 * (N - n) ∧ w.grownBy wr (some b) ∧ NumsAt wr b p cap L m) (fun _ i _ => (intOf i).toNat)
    case atStart => exact ⟨N, 2, K.hd, Nat.le_refl _, rfl, rfl, HQ, by omega, by omega, hgr2, hN2⟩
    case round =>
      obtain ⟨n, m, C, hn, rfl, rfl, HC, hCl, hm, hgr, hN⟩ := hrel
      by_cases hn0 : 0 < n
      · obtain ⟨n, rfl⟩ : ∃ j, n = j + 1 := ⟨n - 1, by omega⟩
        have hf1 := HFR.out m (by omega)
        have hf2 := HFO.out m
        have hf3 := HFF.out m
        obtain ⟨hok, hm1, hm2⟩ := hf2
        generalize (fragG L false true m 5).1 = F at *
        generalize (fragG L false true m 5).2 = m1 at *
        have gl := hok.len; have gt := hok.txt; have gi := hok.lenI
        have hv := hok.valid (by omega)
        have hr1 := fun pf cf W h i s hc hcm => HRW.out m1 (by omega) pf cf F hok hf3 W h i s hc hcm
        have hrs : ∀ raw, RawsR (expI F) raw → Safe raw ∧ (dec elS raw).2.2.2 = 0 ∧ raw.length ≤ 1130 := fun raw hr => ⟨(raws_safe hv hf3 hr).1, (raws_safe hv hf3 hr).2, by have := raws_short hr; omega⟩
        have HF1 := Lib.hid hf1; have HR1 := Lib.hid hr1; have HRS := Lib.hid hrs
        clear hf1 hf3 hr1 hrs hv hok
        go_wp2_with fail
        refine (HF1.out _ hN).mono ?_
        rintro e w3 ⟨vf, rfl, hg3, hN3, hown⟩
        obtain ⟨pf, cf, rfl, fa, fb, fi⟩ := hown.its
        have hadr := OwnL.addr hown
        have hNlt := hN.lt
        have hgr3 := chg_trans hgr hg3
        have hsep : 0 < F.length → ∀ a, pf = some a → some b ≠ some a.block := fun _ a ha e => by
          have := (hadr a ha).1
          injection e with e
          omega
        clear hown hadr hg3
        go_wp2_with fail
        refine (HR1.out pf cf w3 hN3 fi hsep fa fb).mono ?_
        rintro e w4 ⟨raw, m2, rfl, hraw, hrl, hm3, hg4, hN4⟩
        obtain ⟨hsafe, hdd, hrz⟩ := HRS.out raw hraw
        have hgr4 := chg_trans hgr3 hg4
        have HNX := Lib.hid (HC.out.row HKM.out hsafe hdd)
        have hsr : (bsL raw).size ≤ 1130 := by rw [bsL_size]; exact hrz
        have hsC : (bsL C).size ≤ 10000 := by rw [bsL_size]; omega
        have hrk := rowK_len K HKM.out raw
        have hlen : (C ++ 10 :: rowK K raw).length ≤ 12 + 1200 * (N - n) := by
          simp only [List.length_append, List.length_cons]; omega
        clear hraw hsafe hdd hg4 fi hsep hN3 hrk
        have hrow : rowK K raw = ([55, 44] : List UInt8) ++ 34 :: (raw ++ 34 :: []) := by have := HKI.out; rw [EK.out] at this; injection this with e; rw [← e]; rfl
        have hend : bsL C ++ ((⟨#[10]⟩ : ByteArray) ++ ⟨#[55, 44]⟩ ++ ⟨#[34]⟩ ++ bsL raw ++ ⟨#[34]⟩ ++ ⟨#[]⟩) = bsL (C ++ 10 :: rowK K raw) := by
          show bsL C ++ (bsL [10] ++ bsL [55, 44] ++ bsL [34] ++ bsL raw ++ bsL [34] ++ bsL []) = _
          rw [bsL_append, bsL_append, bsL_append, bsL_append, bsL_append, bsL_append, hrow]
          congr 1; simp
        have HEND := Lib.hid hend
        clear hend hrow
        generalize (C ++ 10 :: rowK K raw) = C2 at *
        generalize bsL raw = sr at *
        generalize bsL C = sC at *
        have z1 : ¬ (9223372036854775807 < 1 + (⟨#[55, 44]⟩ : ByteArray).size) := by show ¬ (9223372036854775807 < 1 + 2); omega
        have z2 : ¬ (9223372036854775807 < ((⟨#[10]⟩ : ByteArray) ++ ⟨#[55, 44]⟩).size + 1) := by show ¬ (9223372036854775807 < 3 + 1); omega
        have z3 : ¬ (9223372036854775807 < ((⟨#[10]⟩ : ByteArray) ++ ⟨#[55, 44]⟩ ++ ⟨#[34]⟩).size + sr.size) := by show ¬ (9223372036854775807 < 4 + sr.size); omega
        have e0 : ((⟨#[10]⟩ : ByteArray) ++ ⟨#[55, 44]⟩ ++ ⟨#[34]⟩).size = 4 := rfl
        have z4 : ¬ (9223372036854775807 < ((⟨#[10]⟩ : ByteArray) ++ ⟨#[55, 44]⟩ ++ ⟨#[34]⟩ ++ sr).size + 1) := by rw [ByteArray.size_append, e0]; omega
        have e1 : ((⟨#[10]⟩ : ByteArray) ++ ⟨#[55, 44]⟩ ++ ⟨#[34]⟩ ++ sr ++ ⟨#[34]⟩).size = 5 + sr.size := by rw [ByteArray.size_append, ByteArray.size_append, e0]; show 4 + sr.size + 1 = _; omega
        have e2 : (⟨#[]⟩ : ByteArray).size = 0 := rfl
        have z5 : ¬ (9223372036854775807 < ((⟨#[10]⟩ : ByteArray) ++ ⟨#[55, 44]⟩ ++ ⟨#[34]⟩ ++ sr ++ ⟨#[34]⟩).size + (⟨#[]⟩ : ByteArray).size) := by rw [e1, e2]; omega
        have z6 : ¬ (9223372036854775807 < sC.size + ((⟨#[10]⟩ : ByteArray) ++ ⟨#[55, 44]⟩ ++ ⟨#[34]⟩ ++ sr ++ ⟨#[34]⟩ ++ ⟨#[]⟩).size) := by rw [ByteArray.size_append, e1, e2]; omega
        clear e0 e1 e2
        have mixed : Tryd.prog.follows .mixedOrders = true := by kernel_rfl
        go_upto_region 16 with fail
        go_region_o
        all_goals go_wp2_with fail
        all_goals go_roundw
        case rel => exact ⟨n, m2, C2, by omega, by first | go_num | (congr 1; omega), by rw [HEND.out], HNX, hlen, by omega, chg_trans hgr4 (chg_below (b := b) ((blw (blw (Below.refl w4.heap.size w4) _) _).drew)), hN4.call ((blw (blw (Below.refl w4.heap.size w4) _) _).drew)⟩
        case measure => simp [intOf]
        case rel => exact ⟨n, m2, C2, by omega, by first | go_num | (congr 1; omega), by rw [HEND.out], HNX, hlen, by omega, chg_trans hgr4 (chg_below (b := b) ((blw (blw (Below.refl w4.heap.size w4) _) _).drew)), hN4.call ((blw (blw (Below.refl w4.heap.size w4) _) _).drew)⟩
        case measure => simp [intOf]
      · obtain rfl : n = 0 := by omega
        have HD := Lib.hid (by have := HC.out.done (by omega); rw [this] : (splS (bsL C)).2.2 = 0)
        have hCz : C.length ≤ 10000 := by omega
        clear hn0
        go_wp2_with fail
        go_ret
        exact ⟨C, rfl, HD.out, hCz, hgr⟩
  · have HDV2 := Lib.hid (show ((bsL K.hd).size : Int) / 6 = 2 by rw [HDV.out, ek]; rfl)
    have EK := Lib.hid ek
    clear ek
    rw [HDV2.out]
    clear HDV HDV2 hk3 hk1
    go_loopw [7, 9] (fun v i wr => ∃ (n m : Nat) (C : List UInt8), n ≤ N ∧ i = .int .i64 (n : Int) ∧ v = .string (bsL C) ∧ Hid (PQ K C) ∧ C.length ≤ 12 + 1200 * (N - n) ∧ m ≤ 2 + 400 * (N - n) ∧ w.grownBy wr (some b) ∧ NumsAt wr b p cap L m) (fun _ i _ => (intOf i).toNat)
    case atStart => exact ⟨N, 2, K.hd, Nat.le_refl _, rfl, rfl, HQ, by omega, by omega, hgr2, hN2⟩
    case round =>
      obtain ⟨n, m, C, hn, rfl, rfl, HC, hCl, hm, hgr, hN⟩ := hrel
      by_cases hn0 : 0 < n
      · obtain ⟨n, rfl⟩ : ∃ j, n = j + 1 := ⟨n - 1, by omega⟩
        have hf1 := HFR.out m (by omega)
        have hf2 := HFO.out m
        have hf3 := HFF.out m
        obtain ⟨hok, hm1, hm2⟩ := hf2
        generalize (fragG L false true m 5).1 = F at *
        generalize (fragG L false true m 5).2 = m1 at *
        have gl := hok.len; have gt := hok.txt; have gi := hok.lenI
        have hv := hok.valid (by omega)
        have hr1 := fun pf cf W h i s hc hcm => HRW.out m1 (by omega) pf cf F hok hf3 W h i s hc hcm
        have hrs : ∀ raw, RawsR (expI F) raw → Safe raw ∧ (dec elS raw).2.2.2 = 0 ∧ raw.length ≤ 1130 := fun raw hr => ⟨(raws_safe hv hf3 hr).1, (raws_safe hv hf3 hr).2, by have := raws_short hr; omega⟩
        have HF1 := Lib.hid hf1; have HR1 := Lib.hid hr1; have HRS := Lib.hid hrs
        clear hf1 hf3 hr1 hrs hv hok
        go_wp2_with fail
        refine (HF1.out _ hN).mono ?_
        rintro e w3 ⟨vf, rfl, hg3, hN3, hown⟩
        obtain ⟨pf, cf, rfl, fa, fb, fi⟩ := hown.its
        have hadr := OwnL.addr hown
        have hNlt := hN.lt
        have hgr3 := chg_trans hgr hg3
        have hsep : 0 < F.length → ∀ a, pf = some a → some b ≠ some a.block := fun _ a ha e => by
          have := (hadr a ha).1
          injection e with e
          omega
        clear hown hadr hg3
        go_wp2_with fail
        refine (HR1.out pf cf w3 hN3 fi hsep fa fb).mono ?_
        rintro e w4 ⟨raw, m2, rfl, hraw, hrl, hm3, hg4, hN4⟩
        obtain ⟨hsafe, hdd, hrz⟩ := HRS.out raw hraw
        have hgr4 := chg_trans hgr3 hg4
        have HNX := Lib.hid (HC.out.row HKM.out hsafe hdd)
        have hsr : (bsL raw).size ≤ 1130 := by rw [bsL_size]; exact hrz
        have hsC : (bsL C).size ≤ 10000 := by rw [bsL_size]; omega
        have hrk := rowK_len K HKM.out raw
        have hlen : (C ++ 10 :: rowK K raw).length ≤ 12 + 1200 * (N - n) := by
          simp only [List.length_append, List.length_cons]; omega
        clear hraw hsafe hdd hg4 fi hsep hN3 hrk
        have hrow : rowK K raw = ([120, 44] : List UInt8) ++ 34 :: (raw ++ 34 :: [44, 34, 121, 34]) := by have := HKI.out; rw [EK.out] at this; injection this with e; rw [← e]; rfl
        have hend : bsL C ++ ((⟨#[10]⟩ : ByteArray) ++ ⟨#[120, 44]⟩ ++ ⟨#[34]⟩ ++ bsL raw ++ ⟨#[34]⟩ ++ ⟨#[44, 34, 121, 34]⟩) = bsL (C ++ 10 :: rowK K raw) := by
          show bsL C ++ (bsL [10] ++ bsL [120, 44] ++ bsL [34] ++ bsL raw ++ bsL [34] ++ bsL [44, 34, 121, 34]) = _
          rw [bsL_append, bsL_append, bsL_append, bsL_append, bsL_append, bsL_append, hrow]
          congr 1; simp
        have HEND := Lib.hid hend
        clear hend hrow
        generalize (C ++ 10 :: rowK K raw) = C2 at *
        generalize bsL raw = sr at *
        generalize bsL C = sC at *
        have z1 : ¬ (9223372036854775807 < 1 + (⟨#[120, 44]⟩ : ByteArray).size) := by show ¬ (9223372036854775807 < 1 + 2); omega
        have z2 : ¬ (9223372036854775807 < ((⟨#[10]⟩ : ByteArray) ++ ⟨#[120, 44]⟩).size + 1) := by show ¬ (9223372036854775807 < 3 + 1); omega
        have z3 : ¬ (9223372036854775807 < ((⟨#[10]⟩ : ByteArray) ++ ⟨#[120, 44]⟩ ++ ⟨#[34]⟩).size + sr.size) := by show ¬ (9223372036854775807 < 4 + sr.size); omega
        have e0 : ((⟨#[10]⟩ : ByteArray) ++ ⟨#[120, 44]⟩ ++ ⟨#[34]⟩).size = 4 := rfl
        have z4 : ¬ (9223372036854775807 < ((⟨#[10]⟩ : ByteArray) ++ ⟨#[120, 44]⟩ ++ ⟨#[34]⟩ ++ sr).size + 1) := by rw [ByteArray.size_append, e0]; omega
        have e1 : ((⟨#[10]⟩ : ByteArray) ++ ⟨#[120, 44]⟩ ++ ⟨#[34]⟩ ++ sr ++ ⟨#[34]⟩).size = 5 + sr.size := by rw [ByteArray.size_append, ByteArray.size_append, e0]; show 4 + sr.size + 1 = _; omega
        have e2 : (⟨#[44, 34, 121, 34]⟩ : ByteArray).size = 4 := rfl
        have z5 : ¬ (9223372036854775807 < ((⟨#[10]⟩ : ByteArray) ++ ⟨#[120, 44]⟩ ++ ⟨#[34]⟩ ++ sr ++ ⟨#[34]⟩).size + (⟨#[44, 34, 121, 34]⟩ : ByteArray).size) := by rw [e1, e2]; omega
        have z6 : ¬ (9223372036854775807 < sC.size + ((⟨#[10]⟩ : ByteArray) ++ ⟨#[120, 44]⟩ ++ ⟨#[34]⟩ ++ sr ++ ⟨#[34]⟩ ++ ⟨#[44, 34, 121, 34]⟩).size) := by rw [ByteArray.size_append, e1, e2]; omega
        clear e0 e1 e2
        have mixed : Tryd.prog.follows .mixedOrders = true := by kernel_rfl
        go_upto_region 16 with fail
        go_region_o
        all_goals go_wp2_with fail
        all_goals go_roundw
        case rel => exact ⟨n, m2, C2, by omega, by first | go_num | (congr 1; omega), by rw [HEND.out], HNX, hlen, by omega, chg_trans hgr4 (chg_below (b := b) ((blw (blw (Below.refl w4.heap.size w4) _) _).drew)), hN4.call ((blw (blw (Below.refl w4.heap.size w4) _) _).drew)⟩
        case measure => simp [intOf]
        case rel => exact ⟨n, m2, C2, by omega, by first | go_num | (congr 1; omega), by rw [HEND.out], HNX, hlen, by omega, chg_trans hgr4 (chg_below (b := b) ((blw (blw (Below.refl w4.heap.size w4) _) _).drew)), hN4.call ((blw (blw (Below.refl w4.heap.size w4) _) _).drew)⟩
        case measure => simp [intOf]
      · obtain rfl : n = 0 := by omega
        have HD := Lib.hid (by have := HC.out.done (by omega); rw [this] : (splS (bsL C)).2.2 = 0)
        have hCz : C.length ≤ 10000 := by omega
        clear hn0
        go_wp2_with fail
        go_ret
        exact ⟨C, rfl, HD.out, hCz, hgr⟩
end Go.Proofs.YteaciofacmbllaaDoor
namespace Go.Proofs.YteaciofacmbllaaDoor
open Go.ChangeShapes Go.WideShapes Go.ChangeAt Go.RowKit
set_option linter.unusedVariables false
set_option linter.unusedSimpArgs false
set_option maxRecDepth 100000

theorem gbytes_below (w : World) (e : TypeId) (s : ByteArray) : Below w.heap.size w (Lib.bytesWorld w e s) :=
  Lib.below_freeze ((Below.drew (Below.refl _ w)).alloc (Nat.le_refl _) _) (p := ⟨w.heap.size, _, none⟩) (Nat.le_refl _) 1
theorem gconv_new (W : World) (T : ByteArray) : (convert 9 22 (.string T)).run Tryd.prog W = .ok (.slice (some ⟨W.heap.size, 0, none⟩) T.size (grownCap W T.size 0 5)) (Lib.bytesWorld W 5 T) :=
  Lib.run_convert_string_bytes W 9 22 5 T Tryd.underlying9 Tryd.underlying22 Tryd.underlying5
theorem gbytes_new (W : World) (T : ByteArray) : Lib.Bytes (Lib.bytesWorld W 5 T) W.heap.size 0 T := fun i h => by
  rw [Nat.zero_add, Lib.bytesWorld_cell W 5 T i h]
  have e : T.data.toList[i]? = some T[i] := by
    rw [List.getElem?_eq_getElem (by simpa using h)]; simp; rfl
  simp [List.getD, e]
/-- A text with one byte changed. -/
def chg (T : ByteArray) (i : Nat) (u : UInt8) : ByteArray := bsL (T.data.toList.set i u)
theorem chg_size (T : ByteArray) (i : Nat) (u : UInt8) : (chg T i u).size = T.size := by unfold chg; rw [bsL_size]; simp
theorem gbytes_set {W : World} {B : Nat} {T : ByteArray} (h : Lib.Bytes W B 0 T) (i : Nat) (hi : i < T.size) (u : UInt8) : Lib.Bytes (W.setCell ⟨B, i, none⟩ (.int .u8 (u.toNat : Int))) B 0 (chg T i u) := fun j hj => by
  have hz := chg_size T i u
  have hj' : j < T.size := by omega
  have e : (chg T i u)[j] = if i = j then u else T[j] := by
    have : (chg T i u).data.toList[j]'(by simpa using hj) = if i = j then u else T[j] := by
      unfold chg
      simp only [bsL_list]
      rw [List.getElem_set]
      split
      · rfl
      · simp; rfl
    rw [← this]; simp; rfl
  have ho := h j hj'
  have hm := h i hi
  rw [Nat.zero_add] at ho hm ⊢
  rw [e]
  by_cases hij : i = j
  · subst hij
    rw [if_pos rfl, World.cell?_setCell_same _ _ _ hm]
  · rw [if_neg hij, World.cell?_setCell_other _ _ _ _ (fun h => hij (by have := congrArg Addr.off h; simp at this; omega)), ho]
theorem gbytes_frozen (W : World) (T : ByteArray) (i : Nat) (hi : i < T.size) : (Lib.bytesWorld W 5 T).frozen? ⟨W.heap.size, i, none⟩ = false := by
  have := Lib.bytesWorld_at_new W 5 T
  unfold World.frozen?
  simp only [this]
  simp [Lib.bytesCells]
  omega
theorem gconv_back {W : World} {B : Nat} {V : ByteArray} (h : Lib.Bytes W B 0 V) (n c : Nat) (hn : V.size = n) : (convert 22 9 (.slice (some ⟨B, 0, none⟩) n c)).run Tryd.prog W = .ok (.string V) W := by
  subst hn
  exact Lib.run_convert_whole (P := Tryd.prog) W 22 5 9 Tryd.underlying22 Tryd.underlying5 Tryd.underlying9 B 0 V h c
set_option maxHeartbeats 1600000 in
theorem changed_any (T : ByteArray) (a : Int) (b : Int) (w : World) (hs : T.size ≤ 1000000000000) (ha : (Lit.int .i64 a).wf = true) (hb : (Lit.int .u8 b).wf = true) :
    Calls Tryd.prog 18 #[.string T, .int .i64 a, .int .u8 b] w fun e w' => ∃ V : ByteArray, e = .returned (.string V) ∧ V.size = T.size ∧ Below w.heap.size w w' := by
  obtain ⟨u, rfl⟩ : ∃ u : UInt8, b = (u.toNat : Int) := by
    have hb : 0 ≤ b ∧ b ≤ 255 := by simpa [Lit.wf, IntKind.min, IntKind.max, IntKind.signed, IntKind.bits] using hb
    exact ⟨UInt8.ofNat b.toNat, by rw [UInt8.toNat_ofNat']; omega⟩
  clear hb
  have pl := fun (h : 1 ≤ T.size) W => place_any a (T.size : Int) W (by omega) (by omega) ha
  have hI : 1 ≤ T.size → ∃ i : Nat, a % (T.size : Int) = i ∧ i < T.size := fun h => by
    have e0 := Int.emod_nonneg a (show (T.size : Int) ≠ 0 by omega)
    have e1 := Int.emod_lt_of_pos a (show (0 : Int) < (T.size : Int) by omega)
    obtain ⟨i, hi⟩ := Int.eq_ofNat_of_zero_le e0
    exact ⟨i, hi, by omega⟩
  have PL := Lib.hid pl; have HI := Lib.hid hI
  clear pl hI ha
  have hcn := gconv_new w T
  have hbn := gbytes_new w T
  have hfz := fun i hi => gbytes_frozen w T i hi
  have bl := gbytes_below w 5 T
  go_enter Tryd.func18, Tryd.ntmps18
  by_cases h0 : 0 < T.size
  · obtain ⟨i, hi, hi2⟩ := HI.out (by omega)
    have pl := fun W => PL.out (by omega) W
    rw [hi] at pl
    have P2 := Lib.hid pl; clear pl hi
    have hfz := hfz i hi2
    have hc := hbn i hi2
    rw [Nat.zero_add] at hc
    have hset := gbytes_set hbn i hi2 u
    have hcb := fun c => gconv_back hset T.size c (chg_size T i u)
    have j0 : (0 : Int) ≤ (i : Int) := by omega
    have j1 : (i : Int) < (T.size : Int) := by omega
    generalize Lib.bytesWorld w 5 T = wb at *
    go_wp2_with fail
    refine (P2.out _).mono ?_; rintro e w5 ⟨rfl, rfl⟩
    go_wp2_with fail
    go_ret
    exact ⟨_, rfl, chg_size T i u, bl.setCell (p := ⟨w.heap.size, i, none⟩) (Nat.le_refl _) _⟩
  · have i1 : decide (0 < T.size) = false := decide_eq_false (by omega)
    have hcb := fun c => gconv_back hbn T.size c rfl
    generalize Lib.bytesWorld w 5 T = wb at *
    go_wp2_with fail
    go_ret
    exact ⟨_, rfl, rfl, bl⟩
end Go.Proofs.YteaciofacmbllaaDoor
namespace Go.Proofs.YteaciofacmbllaaDoor
open Go.ChangeShapes Go.WideShapes Go.ChangeAt Go.RowKit
set_option linter.unusedVariables false
set_option linter.unusedSimpArgs false
set_option maxRecDepth 100000

theorem byte_ne {a b : ByteArray} (h : ¬ a = b) : (a.toList == b.toList) = false := by
  rw [beq_eq_false_iff_ne, Go.ByteArray.toList_eq, Go.ByteArray.toList_eq]
  intro e; exact h (by rw [← bsL_of a, e, bsL_of])
theorem ItoaOk.le {N M : Nat} {w : World} (h : ItoaOk N w) (hm : M ≤ N) : ItoaOk M w := fun r W hr hb => h r W (by omega) hb
theorem ItoaOk.call {N : Nat} {w w' : World} (h : ItoaOk N w) (hb : Below w.heap.size w w') : ItoaOk N w' := fun r W hr hb2 => h r W hr (BelowOn hb hb2)
theorem hidx0 (W : World) (a b : ByteArray) : Sem.run Tryd.prog (Instr.index 62 (.agg #[.string a, .string b]) (.int .i64 0)) W = .ok (.string a) W := by kernel_rfl
theorem hidx1 (W : World) (a b : ByteArray) : Sem.run Tryd.prog (Instr.index 62 (.agg #[.string a, .string b]) (.int .i64 1)) W = .ok (.string b) W := by kernel_rfl
def catP (ps : List Pt) (i : Nat) : List UInt8 := (ps.take i).flatMap (fun x => x.raw.data.toList)
theorem catP_next (ps : List Pt) (i : Nat) (h : i < ps.length) : bsL (catP ps i) ++ (ps[i]'h).raw = bsL (catP ps (i + 1)) := by
  unfold catP
  rw [List.take_add_one, List.getElem?_eq_getElem h, Option.toList_some, List.flatMap_append, ← bsL_append]
  congr 1
  simp [bsL_of]
theorem catP_le (ps : List Pt) (i : Nat) : (catP ps i).length ≤ (ps.flatMap (fun x => x.raw.data.toList)).length := by
  unfold catP
  conv => rhs; rw [← List.take_append_drop i ps, List.flatMap_append, List.length_append]
  omega
/-- What the law asks of the parts of a document that could be divided. -/
structure PFacts (u : ByteArray) (ps : List Pt) : Prop where
  odd : ps.length % 2 = 1
  yes : ∀ i (h : i < ps.length), i % 2 = 1 → (ps[i]'h).u = true ∧ ((ps[i]'h).key.toList.isEmpty = false) ∧ (dec elS (ps[i]'h).raw.data.toList).2.2.2 = 0
  no : ∀ i (h : i < ps.length), ¬ i % 2 = 1 → (ps[i]'h).u = false ∧ (ps[i]'h).key = ⟨#[]⟩
  cat : bsL (catP ps ps.length) = u
  le : ∀ i, (bsL (catP ps i)).size ≤ u.size
  raw : ∀ i (h : i < ps.length), (ps[i]'h).raw.size ≤ u.size
theorem pfacts {u : ByteArray} {ps : List Pt} (h : POk u ps) : PFacts u ps := by
  have hcat : bsL (catP ps ps.length) = u := by unfold catP; rw [List.take_length, h.cat, bsL_of]
  have hle : ∀ i, (bsL (catP ps i)).size ≤ u.size := fun i => by
    rw [bsL_size]; have := catP_le ps i; rw [h.cat] at this; simpa using this
  refine ⟨h.odd, fun i hi h1 => ?_, fun i hi h1 => ?_, hcat, hle, fun i hi => ?_⟩
  · obtain ⟨a, b, c⟩ := h.alt i hi
    rw [decide_eq_true h1] at a
    refine ⟨a, ?_, c a⟩
    cases hk : (ps[i]'hi).key.toList.isEmpty
    · rfl
    · exfalso
      have : (ps[i]'hi).key = .empty := by
        rw [List.isEmpty_iff, Go.ByteArray.toList_eq] at hk
        rw [← bsL_of (ps[i]'hi).key, hk]; rfl
      rw [b.1 this] at a; cases a
  · obtain ⟨a, b, c⟩ := h.alt i hi
    rw [decide_eq_false h1] at a
    exact ⟨a, b.2 a⟩
  · have h1 := catP_next ps i hi
    have h2 := hle (i + 1)
    rw [← h1, ByteArray.size_append] at h2
    omega
set_option maxHeartbeats 12800000 in
theorem parts_any (p0 : Option Addr) (c0 : Nat) (a0 : List Int) (a1 a2 : Int) (w : World) (r0 : Ones w (Value.int .i64) p0 a0) (o0 : ∀ i (h : i < a0.length), (Lit.int .i64 (a0[i]'h)).wf = true) (n0 : a0.length ≤ c0) (m0 : c0 ≤ maxLen) (w1 : (Lit.int .i64 a1).wf = true) (w2 : (Lit.int .u8 a2).wf = true) (hI : ItoaOk 1000000000 w) :
    Calls Tryd.prog 8 #[.slice p0 a0.length c0, .int .i64 a1, .int .u8 a2] w fun e w' => e = .returned (.bool true) ∧ Below w.heap.size w w' := by
  have HK := Lib.hid known_any
  by_cases l0 : a0.length ≤ 200
  case neg =>
    have z0 : 200 < a0.length := by omega
    clear r0 o0 l0 w1 w2
    go_enter Tryd.func8, Tryd.ntmps8
    go_wp2_with fail
    refine (HK.out _).mono ?_; rintro e w1 ⟨rfl, hb⟩
    go_wp2_with fail
    go_ret
    exact ⟨rfl, hb⟩
  have hnm := NumsAt.made r0 o0 n0 m0
  have hda := data_any w.heap.size p0 c0 a0 _ hnm (fun _ _ => trivial)
  unfold EndDa at hda
  have HDA := Lib.hid hda
  have hch := fun T W (h : ByteArray.size T ≤ 1000000000000) => changed_any T a1 a2 W h w1 w2
  have HCH := Lib.hid hch
  have hde := fun (u : ByteArray) W (h : u.size ≤ 1000000) => decode_any u W (by omega)
  have HDE := Lib.hid hde
  clear hda hnm hch hde r0 o0 w1 w2
  go_enter Tryd.func8, Tryd.ntmps8
  go_wp2_with fail
  refine HDA.out.mono ?_; rintro e w3 ⟨C, rfl, hok, hCl, hg⟩
  have bl : Below w.heap.size w w3 := (blw (Below.refl w.heap.size w) _).trans (grown_below hg (Nat.le_refl _) (by simp))
  have hTz : (bsL C).size ≤ 10000 := by rw [bsL_size]; exact hCl
  generalize bsL C = T at *
  clear hg hCl
  go_wp2_with fail
  refine (HCH.out T _ (by omega)).mono ?_; rintro e w4 ⟨V, rfl, hVz, hb⟩
  have bl := BelowOn bl hb; clear hb
  have hsT := fun W (hb : Below w.heap.size w W) => split_any T W (by omega) ((hI.call hb).le (by omega))
  have hsV := fun W (hb : Below w.heap.size w W) => split_any V W (by omega) ((hI.call hb).le (by omega))
  clear hI
  have hfT := pfacts ((splS_both T).1 hok)
  have hfV := fun h => pfacts ((splS_both V).1 h)
  have hnV := (splS_both V).2
  have hVT : (splS V).2.2 ≠ 0 → (V.toList == T.toList) = false := fun h => byte_ne (fun e => h (by rw [e]; exact hok))
  have hVz2 : V.size ≤ 10000 := by omega
  obtain ⟨RT, hRT⟩ : ∃ R, splS T = R := ⟨_, rfl⟩
  obtain ⟨RV, hRV⟩ : ∃ R, splS V = R := ⟨_, rfl⟩
  rw [hRT] at hsT hfT hok
  rw [hRV] at hsV hfV hnV hVT
  obtain ⟨PT, qT, eT⟩ := RT
  obtain ⟨PV, qV, eV⟩ := RV
  unfold EndS at hsT hsV
  dsimp only at hsT hsV hfT hfV hnV hVT hok
  subst hok
  have HST := Lib.hid hsT; have HSV := Lib.hid hsV; have HFT := Lib.hid hfT; have HFV := Lib.hid hfV; have HNV := Lib.hid hnV; have HVT := Lib.hid hVT
  clear hsT hsV hfT hfV hnV hVT hRT hRV hVz
  have ix0 := fun W => hidx0 W T V
  have ix1 := fun W => hidx1 W T V
  go_wp2_with fail
  go_loopw [32] (fun i wr => ∃ k : Nat, k ≤ 2 ∧ i = .int .i64 k ∧ Below w.heap.size w wr) (fun i _ => 2 - (intOf i).toNat)
  case atStart => exact ⟨0, by omega, rfl, bl⟩
  case round =>
    obtain ⟨k, hk, rfl, hB⟩ := hrel
    clear bl
    have hk3 : k = 0 ∨ k = 1 ∨ k = 2 := by omega
    rcases hk3 with rfl | rfl | rfl
    · go_wp2_with fail
      refine (HST.out _ hB).mono ?_; rintro e w6 ⟨pp, cc, rfl, x1, x2, hP6, hb⟩
      have hB6 := BelowOn hB hb
      clear hb hB
      have HF := Lib.hid HFT.out
      have HC0 := Lib.hid (show (⟨#[]⟩ : ByteArray) = bsL (catP PT 0) from rfl)
      have hodd := HF.out.odd
      generalize hPl : PT.length = N at *
      have hNb : N ≤ 9223372036854775807 := by unfold maxLen at x2; omega
      go_wp2_with fail
      go_loopw [13, 53] (fun v i wr => ∃ j : Nat, j ≤ N ∧ i = .int .i64 (j : Int) ∧ v = .string (bsL (catP PT j)) ∧ Below w6.heap.size w6 wr) (fun _ i _ => N - (intOf i).toNat)
      case atStart => exact ⟨0, Nat.zero_le _, rfl, by rw [← HC0.out], Below.refl _ _⟩
      case round =>
        obtain ⟨j, hj, rfl, rfl, hB7⟩ := hrel
        by_cases hlt : j < N
        · have hjl : j < PT.length := by omega
          obtain ⟨ad, hpp, had, d0, d1, d2⟩ := (hP6.call hB7).row j hjl
          subst hpp
          have hle := HF.out.le j
          have hrz := HF.out.raw j hjl
          have hnx := catP_next PT j hjl
          have hyes := HF.out.yes j hjl
          have hno := HF.out.no j hjl
          have hdr := fun W => HDE.out (PT[j]'hjl).raw W (by omega)
          unfold EndD at hdr
          have j1 : (j : Int) < (N : Int) := by omega
          generalize PT[j]'hjl = x at *
          have HNX := Lib.hid hnx
          clear hnx
          by_cases hm : j % 2 = 1
          · obtain ⟨g1, g2, g3⟩ := hyes hm
            rw [g1] at d0
            rw [g3] at hdr
            have q1 : (((j : Int) % 2) == 1) = true := by rw [beq_iff_eq]; omega
            have HDR := Lib.hid hdr
            generalize (dec elS x.raw.data.toList) = Y at *
            clear hyes hno hdr g3
            generalize bsL (catP PT j) = S at *
            have z1 : ¬ (9223372036854775807 < S.size + x.raw.size) := by omega
            go_upto_region 16 with fail
            go_quiet (fail)
            have hB8 := BelowOn hB7 (below_qN wr nq)
            have d0' : (wr.drewN nq).cell? (ad.add (j * 3)) = some (.bool true) := d0
            clear d1
            go_wp2_with fail
            refine (HDR.out _).mono ?_; rintro e w8 ⟨p9, c9, rfl, -, -, -, hb9⟩
            have hB9 := BelowOn hB8 hb9
            have e0 : w8.cell? (ad.add (j * 3)) = some (.bool true) := by
              rw [hb9.cell (p := ad.add (j * 3)) (by rw [add_block]; exact had)]; exact d0'
            clear d0 d0' d2 hb9
            go_wp2_with fail
            go_roundw
            case rel => exact ⟨j + 1, by omega, by go_num, by rw [HNX.out], hB9⟩
            case measure => simp [intOf]; omega
          · obtain ⟨g1, g2⟩ := hno hm
            rw [g1] at d0
            rw [g2] at d1
            have q1 : (((j : Int) % 2) == 1) = false := by rw [beq_eq_false_iff_ne]; omega
            have HDR := Lib.hid hdr
            generalize (dec elS x.raw.data.toList) = Y at *
            clear hyes hno hdr g2
            generalize bsL (catP PT j) = S at *
            have z1 : ¬ (9223372036854775807 < S.size + x.raw.size) := by omega
            go_upto_region 16 with fail
            go_quiet (fail)
            have hB8 := BelowOn hB7 (below_qN wr nq)
            have d0' : (wr.drewN nq).cell? (ad.add (j * 3)) = some (.bool false) := d0
            clear d1
            go_wp2_with fail
            refine (HDR.out _).mono ?_; rintro e w8 ⟨p9, c9, rfl, -, -, -, hb9⟩
            have hB9 := BelowOn hB8 hb9
            have e0 : w8.cell? (ad.add (j * 3)) = some (.bool false) := by
              rw [hb9.cell (p := ad.add (j * 3)) (by rw [add_block]; exact had)]; exact d0'
            clear d0 d0' d2 hb9
            go_wp2_with fail
            go_roundw
            case rel => exact ⟨j + 1, by omega, by go_num, by rw [HNX.out], hB9⟩
            case measure => simp [intOf]; omega
        · obtain rfl : j = N := by omega
          have hcS : bsL (catP PT j) = T := by rw [← hPl]; exact HF.out.cat
          generalize bsL (catP PT j) = S at *
          subst hcS
          have q2 : (((j : Int) % 2) != 1) = false := by
            have : (((j : Int) % 2) == 1) = true := by rw [beq_iff_eq]; omega
            rw [bne, this]; rfl
          have hB9 := BelowOn hB6 hB7
          go_wp2_with fail
          go_roundw
          case rel => exact ⟨1, by omega, by go_num, hB9⟩
          case measure => simp [intOf]
    · by_cases hv : eV = 0
      · subst hv
        have HFV2 := Lib.hid (HFV.out rfl)
        clear HFV HNV HVT
        go_wp2_with fail
        refine (HSV.out _ hB).mono ?_; rintro e w6 ⟨pp, cc, rfl, x1, x2, hP6, hb⟩
        have hB6 := BelowOn hB hb
        clear hb hB
        have HF := Lib.hid HFV2.out
        have HC0 := Lib.hid (show (⟨#[]⟩ : ByteArray) = bsL (catP PV 0) from rfl)
        have hodd := HF.out.odd
        generalize hPl : PV.length = N at *
        have hNb : N ≤ 9223372036854775807 := by unfold maxLen at x2; omega
        go_wp2_with fail
        go_loopw [13, 53] (fun v i wr => ∃ j : Nat, j ≤ N ∧ i = .int .i64 (j : Int) ∧ v = .string (bsL (catP PV j)) ∧ Below w6.heap.size w6 wr) (fun _ i _ => N - (intOf i).toNat)
        case atStart => exact ⟨0, Nat.zero_le _, rfl, by rw [← HC0.out], Below.refl _ _⟩
        case round =>
          obtain ⟨j, hj, rfl, rfl, hB7⟩ := hrel
          by_cases hlt : j < N
          · have hjl : j < PV.length := by omega
            obtain ⟨ad, hpp, had, d0, d1, d2⟩ := (hP6.call hB7).row j hjl
            subst hpp
            have hle := HF.out.le j
            have hrz := HF.out.raw j hjl
            have hnx := catP_next PV j hjl
            have hyes := HF.out.yes j hjl
            have hno := HF.out.no j hjl
            have hdr := fun W => HDE.out (PV[j]'hjl).raw W (by omega)
            unfold EndD at hdr
            have j1 : (j : Int) < (N : Int) := by omega
            generalize PV[j]'hjl = x at *
            have HNX := Lib.hid hnx
            clear hnx
            by_cases hm : j % 2 = 1
            · obtain ⟨g1, g2, g3⟩ := hyes hm
              rw [g1] at d0
              rw [g3] at hdr
              have q1 : (((j : Int) % 2) == 1) = true := by rw [beq_iff_eq]; omega
              have HDR := Lib.hid hdr
              generalize (dec elS x.raw.data.toList) = Y at *
              clear hyes hno hdr g3
              generalize bsL (catP PV j) = S at *
              have z1 : ¬ (9223372036854775807 < S.size + x.raw.size) := by omega
              go_upto_region 16 with fail
              go_quiet (fail)
              have hB8 := BelowOn hB7 (below_qN wr nq)
              have d0' : (wr.drewN nq).cell? (ad.add (j * 3)) = some (.bool true) := d0
              clear d1
              go_wp2_with fail
              refine (HDR.out _).mono ?_; rintro e w8 ⟨p9, c9, rfl, -, -, -, hb9⟩
              have hB9 := BelowOn hB8 hb9
              have e0 : w8.cell? (ad.add (j * 3)) = some (.bool true) := by
                rw [hb9.cell (p := ad.add (j * 3)) (by rw [add_block]; exact had)]; exact d0'
              clear d0 d0' d2 hb9
              go_wp2_with fail
              go_roundw
              case rel => exact ⟨j + 1, by omega, by go_num, by rw [HNX.out], hB9⟩
              case measure => simp [intOf]; omega
            · obtain ⟨g1, g2⟩ := hno hm
              rw [g1] at d0
              rw [g2] at d1
              have q1 : (((j : Int) % 2) == 1) = false := by rw [beq_eq_false_iff_ne]; omega
              have HDR := Lib.hid hdr
              generalize (dec elS x.raw.data.toList) = Y at *
              clear hyes hno hdr g2
              generalize bsL (catP PV j) = S at *
              have z1 : ¬ (9223372036854775807 < S.size + x.raw.size) := by omega
              go_upto_region 16 with fail
              go_quiet (fail)
              have hB8 := BelowOn hB7 (below_qN wr nq)
              have d0' : (wr.drewN nq).cell? (ad.add (j * 3)) = some (.bool false) := d0
              clear d1
              go_wp2_with fail
              refine (HDR.out _).mono ?_; rintro e w8 ⟨p9, c9, rfl, -, -, -, hb9⟩
              have hB9 := BelowOn hB8 hb9
              have e0 : w8.cell? (ad.add (j * 3)) = some (.bool false) := by
                rw [hb9.cell (p := ad.add (j * 3)) (by rw [add_block]; exact had)]; exact d0'
              clear d0 d0' d2 hb9
              go_wp2_with fail
              go_roundw
              case rel => exact ⟨j + 1, by omega, by go_num, by rw [HNX.out], hB9⟩
              case measure => simp [intOf]; omega
          · obtain rfl : j = N := by omega
            have hcS : bsL (catP PV j) = V := by rw [← hPl]; exact HF.out.cat
            generalize bsL (catP PV j) = S at *
            subst hcS
            have q2 : (((j : Int) % 2) != 1) = false := by
              have : (((j : Int) % 2) == 1) = true := by rw [beq_iff_eq]; omega
              rw [bne, this]; rfl
            have hB9 := BelowOn hB6 hB7
            go_wp2_with fail
            go_roundw
            case rel => exact ⟨2, by omega, by go_num, hB9⟩
            case measure => simp [intOf]
      · have hz := HNV.out hv
        have hvt := HVT.out hv
        have q : (eV != 0) = true := by simpa using hv
        subst hz
        clear HFV HNV HVT
        go_wp2_with fail
        refine (HSV.out _ hB).mono ?_; rintro e w6 ⟨pp, cc, rfl, x1, x2, hP6, hb⟩
        have hB6 := BelowOn hB hb
        clear hb hB hP6
        go_wp2_with fail
        go_roundw
        case rel => exact ⟨2, by omega, by go_num, hB6⟩
        case measure => simp [intOf]
    · go_wp2_with fail
      refine (HK.out _).mono ?_; rintro e w7 ⟨rfl, hb⟩
      have bl := BelowOn hB hb; clear hb
      go_wp2_with fail
      go_ret
      exact ⟨rfl, bl⟩
end Go.Proofs.YteaciofacmbllaaDoor
namespace Go.Proofs.YteaciofacmbllaaDoor
open Go.ChangeShapes Go.WideShapes Go.ChangeAt Go.RowKit
set_option linter.unusedVariables false
set_option maxRecDepth 100000

theorem gPow : Tryd.prog.globalNamed "internal/strconv.uint64pow10" = some 0 := by kernel_rfl
theorem tPow : (Tryd.prog.globals[0]?).map (·.type) = some 168 := by kernel_rfl
theorem cellsU64 : Tryd.prog.cellsOf 155 = 1 := by kernel_rfl
theorem cellsPow : Tryd.prog.cellsOf 168 = 20 := by kernel_rfl
theorem laidData : (Rows.laid_internal_strconv_uint64pow10 : DataW Unit) = Lib.tabData .u64 Lib.pow10Tab := by rfl
abbrev laidL : List (String × DataW Unit) := [("math/bits.deBruijn32tab", Rows.laid_math_bits_deBruijn32tab), ("math/bits.deBruijn64tab", Rows.laid_math_bits_deBruijn64tab), ("internal/strconv.uint64pow10", Rows.laid_internal_strconv_uint64pow10)]
theorem itoa_of_laid {W : World} (h : laidMetH Tryd.prog laidL W) : ItoaOk 1000000000 W := by
  rw [MakeChecks.laidMetH_plain _ _ _ (by kernel_rfl)] at h
  have hT : Lib.TabIs Tryd.prog W "internal/strconv.uint64pow10" .u64 Lib.pow10Tab := by
    obtain ⟨g, t, cs, fuel, p, hg, ht, hv, hd⟩ := Lib.laidMet.reads h (n := "internal/strconv.uint64pow10") (d := Rows.laid_internal_strconv_uint64pow10) (.tail _ (.tail _ (.head _)))
    obtain rfl := Option.some.inj (gPow.symm.trans hg)
    obtain rfl := Option.some.inj (tPow.symm.trans ht)
    unfold Lib.TabIs
    rw [laidData] at hd
    rw [hv, ← Lib.cells_of_tab Tryd.underlying168 Tryd.underlying155 cellsU64 cellsPow hd]
  exact ItoaOk.of (fun w1 hb => Lib.tabBelow_of_tabIs hT w1 hb) (by decide)
end Go.Proofs.YteaciofacmbllaaDoor
namespace Go.Proofs.YteaciofacmbllaaDoor
open Go.ChangeShapes Go.WideShapes Go.ChangeAt Go.RowKit
set_option linter.unusedVariables false
set_option linter.unusedSimpArgs false
set_option maxRecDepth 100000

section
variable {D : ByteArray} {f c a p st n k : Nat} {ps : List Pt}
theorem step_q {raw r : List UInt8} (hr : restD D p = 34 :: (raw ++ 34 :: 44 :: r)) (hp : p ≤ D.size) (hs : Safe raw) (hd : (dec elS raw).2.2.2 = 0) (hf : n ≠ f) (hc : n = c) :
    recS D f c ps a p st n k = recS D f c (ps ++ [skel D a (p + 1), ⟨true, keyR k, bsL raw⟩]) (p + 1 + raw.length) (p + (raw.length + 2) + 1) st (n + 1) k ∧ restD D (p + (raw.length + 2) + 1) = r ∧ p + (raw.length + 2) + 1 ≤ D.size := by
  obtain ⟨h1, h2, h3, h4⟩ := quoted_facts hr hp hs (fun x hx => by injection hx with hx; exact .inl hx.symm)
  have he : endsR D (p + (raw.length + 2)) = false := by unfold endsR; rw [h3]; rfl
  have hz := rest_size h3 h4
  have e : D.extract (p + 1) (p + 1 + raw.length) = bsL raw := by
    rw [← bsL_of (D.extract (p + 1) (p + 1 + raw.length)), show (D.extract (p + 1) (p + 1 + raw.length)).data.toList = raw from (rawF_ext (x := ⟨true, raw.length, raw.length + 2⟩) rfl).trans h2]
  refine ⟨?_, by rw [rest_drop (k := 1) h3]; rfl, by simp at hz; omega⟩
  rw [rec_more hp h1 (by rintro (e | ⟨_, e⟩); exact hf e; cases e) (fun e => e.2 (by rw [h2]; exact hd)) he]
  unfold psN aN
  rw [if_pos hc, if_pos hc]
  show recS D f c (ps ++ [skel D a (p + 1), ⟨true, keyR k, D.extract (p + 1) (p + 1 + raw.length)⟩]) _ _ _ _ _ = _
  rw [e]
theorem step_n {u r : List UInt8} (hr : restD D p = u ++ 10 :: r) (hp : p ≤ D.size) (hu : ∀ x ∈ u, stopF x = false) (hf : n ≠ f) (hc : n ≠ c) (hl : ¬ n + 1 < f) :
    recS D f c ps a p st n k = recH D f c ps a (p + u.length + 1) (k + 1) ∧ restD D (p + u.length + 1) = r ∧ p + u.length + 1 ≤ D.size := by
  have hfl : fldS (restD D p) = some ⟨false, u.length, u.length⟩ := by
    rw [hr]; exact fld_bareS hu (fun x hx => by injection hx with hx; exact .inr hx.symm)
  have hd : restD D (p + u.length) = 10 :: r := by rw [rest_drop hr, List.drop_left]
  have he : endsR D (p + u.length) = true := by unfold endsR; rw [hd]; rfl
  have hs := rest_size hr hp
  refine ⟨?_, by rw [rest_drop (k := 1) hd]; rfl, by simp at hs; omega⟩
  rw [rec_next hp hfl (by rintro (e | ⟨e, _⟩); exact hf e; exact hc e) (fun e => hc e.1) he hl]
  unfold psN aN
  rw [if_neg hc, if_neg hc]
theorem step_e {u : List UInt8} (hr : restD D p = u) (hp : p ≤ D.size) (hu : ∀ x ∈ u, stopF x = false) (hf : n ≠ f) (hc : n ≠ c) (hl : ¬ n + 1 < f) :
    recS D f c ps a p st n k = (ps ++ [skel D a D.size], 0, 0) := by
  have hfl : fldS (restD D p) = some ⟨false, u.length, u.length⟩ := by
    have := fld_bareS (t := []) hu (fun x hx => by cases hx)
    rw [hr]; rwa [List.append_nil] at this
  have hs := rest_size hr hp
  have he : endsR D (p + u.length) = true := endsR_end _ _ (by omega)
  rw [rec_next hp hfl (by rintro (e | ⟨e, _⟩); exact hf e; exact hc e) (fun e => hc e.1) he hl]
  unfold psN aN
  rw [if_neg hc, if_neg hc]
  exact recH_end (show D.size ≤ p + u.length + 1 by omega)
end
def docF (e : List UInt8) : List UInt8 := [116, 101, 120, 116] ++ 44 :: ([110] ++ 10 :: (34 :: (e ++ 34 :: 44 :: ([49] ++ 10 :: (34 :: ([] ++ 34 :: 44 :: [50]))))))
theorem docF_len (e : List UInt8) : (docF e).length = e.length + 16 := by unfold docF; simp
theorem spl_fields {e : List UInt8} (hs : Safe e) (hd : (dec elS e).2.2.2 = 0) (hl : e.length ≤ 60000) : ∃ x y z, splS (bsL (docF e)) = ([x, ⟨true, keyR 1, bsL e⟩, y, ⟨true, keyR 2, bsL []⟩, z], 0, 0) := by
  have hsz : (bsL (docF e)).size = e.length + 16 := by rw [bsL_size, docF_len]
  have h0 := rest_zero (docF e)
  rw [splS_of (by rw [hsz]; omega)]
  generalize bsL (docF e) = D at *
  obtain ⟨e1, r1, l1⟩ := htext (n := 0) (t := 0) (c := 0) (by rw [h0]; rfl) (Nat.zero_le _)
  have hfl : fldS (restD D (0 + 4 + 1)) = some ⟨false, 1, 1⟩ := by
    rw [r1]; exact fld_bareS (u := [110]) (by decide) (fun x hx => by injection hx with hx; exact .inr hx.symm)
  have r2 := rest_drop (k := 1) r1
  have he : endsR D (0 + 4 + 1 + 1) = true := by unfold endsR; rw [r2]; rfl
  have hx : isText D (0 + 4 + 1) ⟨false, 1, 1⟩ = false := by unfold isText; rw [r1]; rfl
  rw [e1, hdr_end l1 hfl he, hx, if_neg (by decide), if_neg (by decide)]
  have r3 := rest_drop (k := 1) r2
  show ∃ x y z, recH D 2 0 [] 0 7 1 = _
  rw [recH_go (by omega)]
  obtain ⟨e4, r4, l4⟩ := step_q (f := 2) (c := 0) (ps := []) (a := 0) (st := 7) (n := 0) (k := 1) r3 (by omega) hs hd (by decide) rfl
  rw [show (0 + 4 + 1 + 1 + 1 : Nat) = 7 from rfl] at e4 r4 l4
  rw [e4]
  obtain ⟨e5, r5, l5⟩ := step_n (u := [49]) (f := 2) (c := 0) (ps := [] ++ [skel D 0 (7 + 1), ⟨true, keyR 1, bsL e⟩]) (a := 7 + 1 + e.length) (st := 7) (n := 0 + 1) (k := 1) r4 l4 (by decide) (by decide) (by decide) (by decide)
  rw [e5]
  have s5 := rest_size r5 l5
  rw [recH_go (by simp at s5 ⊢; omega)]
  obtain ⟨e6, r6, l6⟩ := step_q (f := 2) (c := 0) (ps := [] ++ [skel D 0 (7 + 1), ⟨true, keyR 1, bsL e⟩]) (a := 7 + 1 + e.length) (st := 7 + (e.length + 2) + 1 + ([49] : List UInt8).length + 1) (n := 0) (k := 1 + 1) r5 l5 Safe.nil (by decide) (by decide) rfl
  rw [e6, step_e r6 l6 (by decide) (by decide) (by decide) (by decide)]
  exact ⟨_, _, _, rfl⟩
theorem key_two : keyR 2 = (⟨#[50]⟩ : ByteArray) := by decide +kernel
theorem docF_eq (e : List UInt8) : ((⟨#[116, 101, 120, 116, 44, 110, 10, 34]⟩ : ByteArray) ++ bsL e) ++ (⟨#[34, 44, 49, 10, 34, 34, 44, 50]⟩ : ByteArray) = bsL (docF e) := by
  show (bsL [116, 101, 120, 116, 44, 110, 10, 34] ++ bsL e) ++ bsL [34, 44, 49, 10, 34, 34, 44, 50] = _
  rw [bsL_append, bsL_append]; unfold docF; simp
set_option maxHeartbeats 3200000 in
theorem fields_any (p0 : Option Addr) (c0 : Nat) (a0 : List Int) (a1 : ByteArray) (w : World) (r0 : Ones w (Value.int .i64) p0 a0) (o0 : ∀ i (h : i < a0.length), (Lit.int .i64 (a0[i]'h)).wf = true) (n0 : a0.length ≤ c0) (m0 : c0 ≤ maxLen) (w1 : a1.size ≤ 140737488355328) (hI : ItoaOk 1000000000 w) :
    Calls Tryd.prog 10 #[.slice p0 a0.length c0, .string a1] w fun e w' => e = .returned (.bool true) ∧ Below w.heap.size w w' := by
  have HK := Lib.hid known_any
  by_cases l0 : a0.length ≤ 60
  case neg =>
    have z0 : 60 < a0.length := by omega
    clear r0 o0 l0 hI
    go_enter Tryd.func10, Tryd.ntmps10
    go_wp2_with fail
    refine (HK.out _).mono ?_; rintro e w1 ⟨rfl, hb⟩
    go_wp2_with fail
    go_ret
    exact ⟨rfl, hb⟩
  by_cases l1 : a1.size ≤ 100
  case neg =>
    have z1 : 100 < a1.size := by omega
    have q0 : decide (60 < a0.length) = false := decide_eq_false (by omega)
    clear r0 o0 l1 hI
    go_enter Tryd.func10, Tryd.ntmps10
    go_wp2_with fail
    refine (HK.out _).mono ?_; rintro e w1 ⟨rfl, hb⟩
    go_wp2_with fail
    go_ret
    exact ⟨rfl, hb⟩
  have q0 : decide (60 < a0.length) = false := decide_eq_false (by omega)
  have q1 : decide (100 < a1.size) = false := decide_eq_false (by omega)
  have M0 := Lib.hid (fun W h => rmade_any p0 c0 a0 W h o0 n0 m0)
  unfold EndF at M0
  have v0 := mkT_valid a0 a1 (by omega)
  have t0 := mkT_flat a0 a1
  have g := mk_ok a0 false true
  have g1 := g.len; have g2 := g.txt
  have htx2 : txtI (mkT a0 a1) ≤ txtI (mk a0 false true) + a1.size := by
    have h2 := txt_normed (mk a0 false true ++ [⟨1, a1, 0⟩])
    rw [txtI_snoc] at h2
    exact h2
  have htx : txtI (mkT a0 a1) ≤ 140737488355328 := by omega
  have hln2 : (mkT a0 a1).length ≤ (mk a0 false true).length + 1 := by
    have := norm_len (mk a0 false true ++ [⟨1, a1, 0⟩])
    rw [List.length_append] at this; exact this
  have cc := fun p q c d W i j => rconcat_any p q c d (mk a0 false true) [⟨1, a1, 0⟩] W i j (by simp; omega) (by show txtI (mk a0 false true) + (a1.size + 0) ≤ _; omega)
  have CC := Lib.hid cc; clear cc g
  rw [show norm (mk a0 false true ++ [⟨1, a1, 0⟩]) = mkT a0 a1 from rfl] at CC
  generalize mkT a0 a1 = F at *
  generalize mk a0 false true = G at *
  have x0 := oks_valid (valE_zero v0).2.2 htx
  have f0 := fun p c W (i : Its W p F) (a : F.length ≤ c) (b : c ≤ maxLen) => rencode_any p c F W i x0 a b
  rw [encE_ok v0 (by rw [show tagsL F = [] from t0]; rfl)] at f0
  have hshort := encS_short F
  have hel : (encS F).length ≤ 50000 := by omega
  have hsz : (bsL (encS F)).size ≤ 50000 := by rw [bsL_size]; exact hel
  have d0 := fun W => decode_any (bsL (encS F)) W (by omega)
  rw [bsL_list, dec_enc v0 t0] at d0
  unfold EndD at d0; dsimp only at d0 f0
  have hlen := (valE_zero v0).1
  have ss := fun p q c d W (i : Its W p F) (j : Its W q F) (a : F.length ≤ c) (b : F.length ≤ d) (x : c ≤ maxLen) (y : d ≤ maxLen) => rsame_any p q c d F F W i j a b x y
  rw [decide_eq_true (rfl : F = F)] at ss
  have sp := fun W (hb : Below w.heap.size w W) => split_any (bsL (docF (encS F))) W (by rw [bsL_size, docF_len]; omega) ((hI.call hb).le (by rw [bsL_size, docF_len]; omega))
  obtain ⟨sx, sy, sz, hspl⟩ := spl_fields (enc_safe (valE_zero v0).2.2 t0) (by rw [dec_enc v0 t0]) (by omega)
  rw [hspl] at sp
  unfold EndS at sp
  dsimp only at sp
  rw [← docF_eq] at sp
  clear hspl
  generalize bsL (encS F) = S at *
  have F0 := Lib.hid f0; have SS := Lib.hid ss; have DD := Lib.hid d0; have SP := Lib.hid sp
  clear f0 ss d0 sp x0 v0 t0 htx htx2 hln2 hlen o0 g1 g2 hshort hel hI
  have z1 : ¬ (9223372036854775807 < 8 + S.size) := by omega
  have z2 : ¬ (9223372036854775807 < ((⟨#[116, 101, 120, 116, 44, 110, 10, 34]⟩ : ByteArray) ++ S).size + 8) := by rw [ByteArray.size_append]; show ¬ (9223372036854775807 < 8 + S.size + 8); omega
  have z3 : ¬ (9223372036854775807 < 8 + S.size + 8) := by omega
  clear hsz
  go_enter Tryd.func10, Tryd.ntmps10
  go_wp2_with fail
  refine (M0.out _ r0).mono ?_; rintro e w1 ⟨p2, c2, rfl, a2, b2, i2, hb⟩
  have bl := hb; clear r0 hb
  go_wp2_with fail
  refine (CC.out _ _ _ _ _ (i2.call (blw (Below.refl _ _) _)) (its_one (x := ⟨1, a1, 0⟩) (heap_alloc_new _ _))).mono ?_; rintro e w2 h
  obtain ⟨p4, c4, rfl, a4, b4, i4, hb⟩ := EndI.f h
  have hb := BelowOn (blw (Below.refl _ _) _) hb
  have bl := BelowOn bl hb; clear hb i2 a2 b2 h
  have i2 := i4; have a2 := a4; have b2 := b4
  clear i4 a4 b4
  go_wp2_with fail
  refine (F0.out _ _ _ i2 a2 b2).mono ?_; rintro e w3 ⟨rfl, hb⟩
  have i2 := i2.call hb; have bl := BelowOn bl hb; clear hb
  go_wp2_with fail
  refine (SP.out _ bl).mono ?_; rintro e w6 ⟨pp, cc, rfl, x1, x2, hP6, hb⟩
  have i2 := i2.call hb; have bl := BelowOn bl hb; clear hb
  obtain ⟨ad, hpp, had, d0, d1, d2⟩ := hP6.row 1 (by show 1 < 5; omega)
  obtain ⟨ad3, hpp3, had3, f0, f1, f2⟩ := hP6.row 3 (by show 3 < 5; omega)
  rw [hpp] at hpp3
  injection hpp3 with hpp3
  subst hpp3; subst hpp
  have d2 : w6.cell? ⟨ad.block, ad.off + 3 + 2, none⟩ = some (.string S) := d2
  have f1 : w6.cell? ⟨ad.block, ad.off + 9 + 1, none⟩ = some (.string (⟨#[50]⟩ : ByteArray)) := by rw [← key_two]; exact f1
  have f2 : w6.cell? ⟨ad.block, ad.off + 9 + 2, none⟩ = some (.string (⟨#[]⟩ : ByteArray)) := f2
  clear d0 d1 f0 hP6 had3
  go_wp2_with fail
  refine (DD.out _).mono ?_; rintro e w7 ⟨p3, c3, rfl, a3, b3, i3, hb⟩
  have g1 : w7.cell? ⟨ad.block, ad.off + 9 + 1, none⟩ = some (.string (⟨#[50]⟩ : ByteArray)) := by rw [hb.cell (p := ⟨ad.block, ad.off + 9 + 1, none⟩) had]; exact f1
  have g2 : w7.cell? ⟨ad.block, ad.off + 9 + 2, none⟩ = some (.string (⟨#[]⟩ : ByteArray)) := by rw [hb.cell (p := ⟨ad.block, ad.off + 9 + 2, none⟩) had]; exact f2
  have had : ad.block < w7.heap.size := Nat.lt_of_lt_of_le had hb.size
  have i2 := i2.call hb; have bl := BelowOn bl hb; clear hb d2 f1 f2
  go_wp2_with fail
  refine (SS.out _ _ _ _ _ i2 i3 a2 a3 b2 b3).mono ?_; rintro e w8 ⟨rfl, hb⟩
  have f1 : w8.cell? ⟨ad.block, ad.off + 9 + 1, none⟩ = some (.string (⟨#[50]⟩ : ByteArray)) := by rw [hb.cell (p := ⟨ad.block, ad.off + 9 + 1, none⟩) had]; exact g1
  have f2 : w8.cell? ⟨ad.block, ad.off + 9 + 2, none⟩ = some (.string (⟨#[]⟩ : ByteArray)) := by rw [hb.cell (p := ⟨ad.block, ad.off + 9 + 2, none⟩) had]; exact g2
  have bl := BelowOn bl hb; clear hb i2 i3 g1 g2
  go_wp2_with fail
  refine (HK.out _).mono ?_; rintro e w9 ⟨rfl, hb⟩
  have bl := BelowOn bl hb; clear hb
  go_wp2_with fail
  go_ret
  exact ⟨rfl, bl⟩
end Go.Proofs.YteaciofacmbllaaDoor
namespace Go.Proofs.YteaciofacmbllaaDoor.sheetFields
open Go.ChangeShapes Go.WideShapes Go.ChangeAt Go.RowKit
open Go.ChangeMaps (open_string shut_string)
set_option linter.unusedVariables false
set_option maxRecDepth 100000

theorem own : ownKnob Tryd.prog.godebug = none := by kernel_rfl
theorem laidOut : laidOutB Tryd.prog = true := by kernel_rfl


set_option maxHeartbeats 1600000 in
theorem walk (p0 : Option Addr) (c0 : Nat) (a0 : List Int) (a1 : ByteArray) (w : World) (r0 : Ones w (Value.int .i64) p0 a0) (o0 : ∀ i (h : i < a0.length), (Lit.int .i64 (a0[i]'h)).wf = true) (n0 : a0.length ≤ c0) (m0 : c0 ≤ maxLen) (w1 : a1.size ≤ 140737488355328) (hE : ItoaOk 1000000000 w) :
    Calls Tryd.prog 10 #[.slice p0 a0.length c0, .string a1] w fun e w' => e = .returned (.bool true) ∧ Below w.heap.size w w' := by
  exact fields_any p0 c0 a0 a1 w r0 o0 n0 m0 w1 hE

theorem lifted (os : Os) (started : os.Started) (H : Type) (enc : TypeId × Value → H) :
    ReturnsInHanded {} Tryd.checked os 10 .any (fun w args => (Rows.sheetFieldsSpec.pre enc Tryd.prog Tryd.f10 Rows.sheetFieldsRow.domain false w args ∧ laidMetH Tryd.prog Rows.sheetFieldsRow.laid w) ∧ sizedMet enc Tryd.prog Tryd.f10 (OpenSpec.ofChange Rows.sheetFieldsSpec) false w args)
      (Rows.sheetFieldsSpec.post enc Tryd.prog Tryd.f10 false true false false) := by
  refine returnsInHanded_of_change_and (C := Tryd.checked) (X := fun w _ => laidMetH Tryd.prog Rows.sheetFieldsRow.laid w) (fun _ _ _ hh h => h.of_heap hh) own started (by kernel_rfl) Tryd.func10
    (ChangeSpec.witness_shaped (enc := enc) (C := Tryd.checked) (os := os) (X := fun w _ => laidMetH Tryd.prog Rows.sheetFieldsRow.laid w) false (World.laidAll Tryd.prog os Rows.sheetFieldsRow.laid) #[.slice none 0 0, .string ByteArray.empty] 8 (World.laidAll_os _ _ _) (World.shaped_of_ZipB (by kernel_rfl) (by kernel_rfl)) (by kernel_rfl) (by kernel_rfl) (by kernel_rfl) (by rw [MakeChecks.laidMetH_plain _ _ _ (by kernel_rfl)]; exact laidMet_laidAll _ (by kernel_rfl) (by kernel_rfl))) ?_
  intro W base args ds gs before hval0 hW hcnd hsz0 hL _
  have hval : ∀ (j : Nat) t v, Tryd.f10.params[j]? = some t → args[j]? = some v → Value.okWide Tryd.prog W .any base t v := hval0
  have hW' := hW
  have hlt : ∀ x ∈ before, x.block < W.heap.size := fun x hx => hW'.lt x hx
  obtain ⟨p, q, hA0, hV, rfl, hfz, hnd⟩ := hW
  have hA : DataW.TrodAll enc Tryd.prog W 0 (fun _ => true) true Tryd.f10.params.toList args.toList ds p := hA0
  rw [Tryd.params10] at hA hval hsz0
  obtain ⟨v0, vs0, d0, ds0, p0, q0, hargs, rfl, rfl, h0, r0⟩ := trodAll_cons hA
  obtain ⟨v1, vs1, d1, ds1, p1, q1, rfl, rfl, rfl, h1, r1⟩ := trodAll_cons r0
  obtain ⟨rfl, rfl, rfl⟩ := trodAll_nil r1
  obtain rfl : args = #[v0, v1] := by cases args; simp_all
  obtain ⟨rfl, rfl⟩ := trodVars_none hV
  have hsz := hsz0; clear hsz0
  obtain ⟨pp0, c0, a0, rfl, n0, m0, y0, o0⟩ := opened_ints (okBase (hval 0 32 v0 rfl rfl)) h0
  have z1 : ∀ n ∈ DataW.weights Tryd.prog 9 d1, n ≤ reachBytes := (fun n hn => by simpa using List.all_eq_true.1 hsz n (DataW.weights_mem_each (j := 1) rfl rfl n hn))
  obtain ⟨a1, rfl, e1, -, -⟩ := open_string Tryd.underlying9 (hval 1 9 v1 rfl rfl) h1
  have w1 : a1.size ≤ 140737488355328 := str_le e1 z1
  clear hA0 hval0
  refine (walk pp0 c0 a0 a1 W y0 o0 n0 m0 w1 (itoa_of_laid hL)).mono fun e W' ⟨he, bel⟩ => ?_
  subst he
  exact ⟨_, rfl, _, _, _, [], _, [], hW', trodAll_mk1 (shut_bool Tryd.underlying4 _), (trodAll_cons_mk (Below.trod laidOut (by kernel_rfl) (of_decide_eq_true (by kernel_rfl)) h0 bel (fun x hx => hlt x (by simp [hx]))) (trodAll_cons_mk (Below.trod laidOut (by kernel_rfl) (of_decide_eq_true (by kernel_rfl)) h1 bel (fun x hx => hlt x (by simp [hx]))) trodAll_mk0)), rfl, bel.frame _, fun h => by cases h⟩

theorem over : Rows.SheetFieldsSaid :=
  OpenClaim.holds_of_wide 10 Tryd.f10 rfl rfl rfl rfl rfl rfl rfl ⟨rfl, rfl, rfl, rfl, rfl⟩ rfl rfl rfl rfl rfl (by kernel_rfl) Tryd.func10 (by kernel_rfl)
    (of_decide_eq_true (by kernel_rfl)) (by unfold Func.isWrapper; first | (rw [if_pos (by decide +kernel)]; kernel_rfl) | (rw [if_neg (by decide +kernel)]; exact ⟨rfl, rfl⟩))
    (fun os started H enc _ => lifted os started H enc)

theorem proved : Rows.SheetFieldsCardSaid :=
  Claim7.holds_tied_plain_at .later [] [.data, .data, .data] true (true, "a5b6abed314576cd32e3bf15c06510b1206821911040e32ccdbaea1ea5d6fcc3") false
    over (fun _ h => by cases h) (by kernel_rfl) (fun _ h => by cases h) sheetFields_row_tie rfl ⟨rfl, rfl⟩ (by kernel_rfl) rfl
    (fun f fn hf hfn => by
      obtain rfl : f = 10 := Option.some.inj ((show Tryd.prog.funcNamed "bitext/bitextlaw9.SheetFields" = some 10 by kernel_rfl).symm.trans hf) |>.symm
      obtain rfl : fn = Tryd.f10 := (Option.some.inj (Tryd.func10.symm.trans hfn)).symm
      exact ⟨by kernel_rfl, fun j t ht => by
        rw [Tryd.params10] at ht
        have hm : t ∈ [32, 9] := by simpa using Array.mem_of_getElem? ht
        have hall : ([32, 9].all fun u => !Tryd.prog.wantsStandIn u) = true := by kernel_rfl
        exact (show Tryd.prog.wantsStandIn t = false by simpa using List.all_eq_true.1 hall t hm)⟩)
    (by kernel_rfl)
#print axioms proved
end Go.Proofs.YteaciofacmbllaaDoor.sheetFields
