/- Plain mathematics of SheetParts: what a document that could be divided is made of; a generated document can be divided. The contract of the generator's documents at the format of tables. Contracts of the reference's text and slot. Contracts of the reference's sheet (an element of chapter 9). The contracts of the reference's sheet and element. The contract of the reference's Decode at the format of tables. The contract of the law's changed: a string of the same length. The walk of SheetParts. The walk of SheetFields. Contracts of the reference's builder of parts. The contract of the reference's decimal. The contract of the reference's field. The walk of the reference's splitSheet. The contract of the reference's Split at the format of tables. What the rows' condition on the listed variables gives: Itoa's contract. Plain mathematics of SheetLimits: many bytes, many placeholders, a long comment. The walk of SheetLimits. The law SheetLimits holds for every input. -/
import Derived.Test.YteaciofacmbllaaDoorRtU
import Derived.Test.YteaciofacmbllaaDoorRtD
import Derived.Deep.RegionLaw
import Derived.Test.YteaciofacmbllaaDoorRtB
import Derived.Test.YteaciofacmbllaaDoorNxt
import Derived.Lib.ConvBytes
import Derived.Lib.SlBytesRow
import Derived.Lib.UnsafeStr
import Derived.Deep.Cut
import Derived.Deep.DeepCutAuto
import Derived.Test.YteaciofacmbllaaDoorSam
import Derived.Test.YteaciofacmbllaaDoorRtE
import Derived.Handy
import Derived.Test.YteaciofacmbllaaDoorRows
import Derived.LaidMore
import Derived.MakeChecks
import Derived.LaidHandle
import Derived.Lib.LaidU8
import Derived.Lib.AppendIntMem
import Derived.ArgAppend
import Derived.Lib.SlBytesConst
import Derived.WalkKit
import Derived.ProofKit
import Derived.OpenShut
import Derived.ChangeOld
import Derived.Below
import Derived.Carry
import Derived.SizedLaws
import Derived.Test.YteaciofacmbllaaDoorCards
import Derived.Test.YteaciofacmbllaaDoorTie
import Derived.Stop.Joined
import Derived.SevenTiedAt
import Derived.Lay
import Derived.Test.YteaciofacmbllaaDoorArf
namespace Go.Proofs.YteaciofacmbllaaDoor
set_option linter.unusedVariables false
open Go.Lib

/-- The parts so far: skeleton and units by turns, whose bytes are the first ones, and every unit can be decoded. -/
structure PInv (D : ByteArray) (ps : List Pt) (a : Nat) : Prop where
  even : ps.length % 2 = 0
  alt : ∀ i (h : i < ps.length), (ps[i]'h).u = decide (i % 2 = 1) ∧ (((ps[i]'h).key = .empty) ↔ (ps[i]'h).u = false) ∧ ((ps[i]'h).u = true → (dec elS (ps[i]'h).raw.data.toList).2.2.2 = 0)
  cat : ps.flatMap (fun x => x.raw.data.toList) = D.data.toList.take a
  le : a ≤ D.size
/-- What the parts of a document are. -/
structure POk (D : ByteArray) (ps : List Pt) : Prop where
  odd : ps.length % 2 = 1
  alt : ∀ i (h : i < ps.length), (ps[i]'h).u = decide (i % 2 = 1) ∧ (((ps[i]'h).key = .empty) ↔ (ps[i]'h).u = false) ∧ ((ps[i]'h).u = true → (dec elS (ps[i]'h).raw.data.toList).2.2.2 = 0)
  cat : ps.flatMap (fun x => x.raw.data.toList) = D.data.toList
theorem ext_list (D : ByteArray) (a b : Nat) : (D.extract a b).data.toList = (D.data.toList.drop a).take (b - a) := by simp [ByteArray.extract, ByteArray.copySlice]
theorem take_more (l : List UInt8) (a b : Nat) (h : a ≤ b) : l.take a ++ (l.drop a).take (b - a) = l.take b := by
  conv => rhs; rw [show b = a + (b - a) by omega, List.take_add]
theorem PInv.start (D : ByteArray) : PInv D [] 0 := ⟨rfl, fun i h => (by cases h), rfl, Nat.zero_le _⟩
theorem PInv.done {D : ByteArray} {ps : List Pt} {a : Nat} (h : PInv D ps a) : POk D (ps ++ [skel D a D.size]) := by
  refine ⟨by rw [List.length_append]; have := h.even; simp; omega, fun i hi => ?_, ?_⟩
  · rw [List.length_append] at hi
    by_cases hl : i < ps.length
    · rw [List.getElem_append_left hl]; exact h.alt i hl
    · have hi2 : i = ps.length := by simp at hi; omega
      subst hi2
      rw [List.getElem_append_right (Nat.le_refl _)]
      have he := h.even
      simp only [Nat.sub_self, List.getElem_cons_zero]
      refine ⟨?_, ⟨fun _ => rfl, fun _ => rfl⟩, fun hu => by cases hu⟩
      show false = _
      rw [decide_eq_false (by omega)]
  · rw [List.flatMap_append, h.cat]
    show _ ++ ((D.extract a D.size).data.toList ++ []) = _
    rw [List.append_nil, ext_list, take_more _ _ _ h.le, List.take_of_length_le (by simp)]
theorem PInv.unit {D : ByteArray} {ps : List Pt} {a b c : Nat} {key : ByteArray} (h : PInv D ps a) (h1 : a ≤ b) (h2 : b ≤ c) (h3 : c ≤ D.size) (hk : key ≠ .empty) (hd : (dec elS (D.extract b c).data.toList).2.2.2 = 0) : PInv D (ps ++ [skel D a b, ⟨true, key, D.extract b c⟩]) c := by
  have he := h.even
  refine ⟨by rw [List.length_append]; show (ps.length + 2) % 2 = 0; omega, fun i hi => ?_, ?_, h3⟩
  · rw [List.length_append] at hi
    by_cases hl : i < ps.length
    · rw [List.getElem_append_left hl]; exact h.alt i hl
    · rw [List.getElem_append_right (by omega)]
      have hi2 : i = ps.length ∨ i = ps.length + 1 := by simp at hi; omega
      rcases hi2 with rfl | rfl
      · simp only [Nat.sub_self, List.getElem_cons_zero]
        refine ⟨?_, ⟨fun _ => rfl, fun _ => rfl⟩, fun hu => by cases hu⟩
        show false = _
        rw [decide_eq_false (by omega)]
      · simp only [Nat.add_sub_cancel_left, List.getElem_cons_succ, List.getElem_cons_zero]
        refine ⟨?_, ⟨fun e => absurd e hk, fun e => by cases e⟩, fun _ => hd⟩
        show true = _
        rw [decide_eq_true (by omega)]
  · rw [List.flatMap_append, h.cat]
    show _ ++ ((D.extract a b).data.toList ++ ((D.extract b c).data.toList ++ [])) = _
    rw [List.append_nil, ext_list, ext_list, ← List.append_assoc, take_more _ _ _ h1, take_more _ _ _ h2]
theorem key_ne (r : Nat) : keyR r ≠ .empty := fun e => by
  have h : (keyR r).size = 0 := by rw [e]; rfl
  unfold keyR at h
  rw [bsL_size, decDigits_length] at h
  have := nDigits_pos r
  omega
theorem rawF_ext {D : ByteArray} {p : Nat} {x : Fld} (hq : x.quoted = true) : (D.extract (p + 1) (p + 1 + x.raw)).data.toList = rawF D p x := by
  unfold rawF restD; rw [ext_list, hq, if_pos rfl, Nat.add_sub_cancel_left]
/-- What the parts are, whatever has been read. -/
theorem rec_both (D : ByteArray) (f c : Nat) : ∀ (m : Nat) (ps : List Pt) (a p st n r : Nat), D.size - p < m → p ≤ D.size → PInv D ps a → a ≤ p →
    ((recS D f c ps a p st n r).2.2 = 0 → POk D (recS D f c ps a p st n r).1) ∧ ((recS D f c ps a p st n r).2.2 ≠ 0 → (recS D f c ps a p st n r).1 = []) := by
  intro m
  induction m with
  | zero => intro ps a p st n r h; omega
  | succ m ih =>
    intro ps a p st n r hm hp hI hap
    have bad : ∀ (q : Nat) (z : Int), recS D f c ps a p st n r = ([], q, z) → z ≠ 0 → ((recS D f c ps a p st n r).2.2 = 0 → POk D (recS D f c ps a p st n r).1) ∧ ((recS D f c ps a p st n r).2.2 ≠ 0 → (recS D f c ps a p st n r).1 = []) := fun q z h hz => by
      rw [h]; exact ⟨fun e => absurd e hz, fun _ => rfl⟩
    cases hf : fldS (restD D p) with
    | none => exact bad p 2 (rec_bad hp hf) (by decide)
    | some x =>
      have hx := fld_at hf hp
      by_cases h2 : n = f ∨ (n = c ∧ x.quoted = false)
      · exact bad p 2 (rec_many hp hf h2) (by decide)
      by_cases h3 : n = c ∧ (dec elS (rawF D p x)).2.2.2 ≠ 0
      · exact bad _ _ (rec_dec hp hf h2 h3) h3.2
      have hps : PInv D (psN D c ps a p n r x) (aN c a p n x) ∧ aN c a p n x ≤ p + x.size := by
        unfold psN aN
        by_cases hn : n = c
        · rw [if_pos hn, if_pos hn]
          have hq : x.quoted = true := by
            cases hq : x.quoted
            · exact absurd (.inr ⟨hn, hq⟩) h2
            · rfl
          have hs := (fldS_le hf).2.1 hq
          refine ⟨hI.unit (by omega) (by omega) (by omega) (key_ne r) ?_, by omega⟩
          rw [rawF_ext hq]
          rcases Classical.em ((dec elS (rawF D p x)).2.2.2 = 0) with e | e
          · exact e
          · exact absurd ⟨hn, e⟩ h3
        · rw [if_neg hn, if_neg hn]; exact ⟨hI, by omega⟩
      cases he : endsR D (p + x.size)
      · have hlt := endsR_lt he
        rw [rec_more hp hf h2 h3 he]
        exact ih _ _ _ _ _ _ (by omega) (by omega) hps.1 (by omega)
      · by_cases h4 : n + 1 < f
        · exact bad st 2 (rec_few hp hf h2 h3 he h4) (by decide)
        · rw [rec_next hp hf h2 h3 he h4]
          rcases Nat.lt_or_ge (p + x.size + 1) D.size with hl | hl
          · rw [recH_go hl]
            exact ih _ _ _ _ _ _ (by omega) (by omega) hps.1 (by omega)
          · rw [recH_end hl]
            exact ⟨fun _ => hps.1.done, fun h => absurd rfl h⟩
theorem splS_both (D : ByteArray) : ((splS D).2.2 = 0 → POk D (splS D).1) ∧ ((splS D).2.2 ≠ 0 → (splS D).1 = []) := by
  rcases Nat.lt_or_ge 65536 D.size with hb | hb
  · rw [splS_long hb]; exact ⟨fun e => (by cases e), fun _ => rfl⟩
  rw [splS_of hb]
  cases hdrS D 0 0 0 0 with
  | bad p => exact ⟨fun e => (by cases e), fun _ => rfl⟩
  | ok f t c nx =>
    dsimp only
    split
    · exact ⟨fun e => (by cases e), fun _ => rfl⟩
    split
    · rcases Nat.lt_or_ge nx D.size with hl | hl
      · rw [recH_go hl]
        exact rec_both D f c (D.size + 1) [] 0 nx nx 0 1 (by omega) (by omega) (PInv.start D) (Nat.zero_le _)
      · rw [recH_end hl]
        exact ⟨fun _ => (PInv.start D).done, fun h => absurd rfl h⟩
    · exact ⟨fun e => (by cases e), fun _ => rfl⟩
/-- What may stand behind a field. -/
def StopT (t : List UInt8) : Prop := ∀ c, t.head? = some c → c = 44 ∨ c = 10
theorem endF_app (u t : List UInt8) (x : Fld) (hx : x.size = u.length) (ht : StopT t) : endF (u ++ t) x = some x := by
  unfold endF
  rw [hx, List.drop_left]
  cases h : t.head? with
  | none => rfl
  | some c => exact if_pos (ht c h)
theorem fld_quotedS {raw t : List UInt8} (hs : Safe raw) (ht : StopT t) : fldS (34 :: (raw ++ 34 :: t)) = some ⟨true, raw.length, raw.length + 2⟩ := by
  have hne : t.head? ≠ some 34 := fun e => by rcases ht 34 e with h | h <;> revert h <;> decide
  have hc : cloQ (raw ++ 34 :: t) = some raw.length := by rw [hs, cloQ_here t hne]; show some (0 + raw.length) = _; rw [Nat.zero_add]
  unfold fldS
  rw [if_pos (show (34 :: (raw ++ 34 :: t)).head? = some 34 from rfl)]
  show (match cloQ (raw ++ 34 :: t) with | none => none | some n => endF (34 :: (raw ++ 34 :: t)) ⟨true, n, n + 2⟩) = _
  rw [hc]
  have := endF_app (34 :: (raw ++ [34])) t ⟨true, raw.length, raw.length + 2⟩ (by simp) ht
  have e : 34 :: (raw ++ [34]) ++ t = 34 :: (raw ++ 34 :: t) := by simp
  rw [e] at this; exact this
theorem fld_bareS {u t : List UInt8} (hu : ∀ c ∈ u, stopF c = false) (ht : StopT t) : fldS (u ++ t) = some ⟨false, u.length, u.length⟩ := by
  have hst : ∀ c, t.head? = some c → stopF c = true := fun c hc => by
    rcases ht c hc with rfl | rfl <;> decide
  have hb : barL (u ++ t) = u.length := by
    unfold barL
    rw [List.takeWhile_append_of_pos (fun c hc => by rw [hu c hc]; rfl)]
    cases t with
    | nil => simp
    | cons c r => rw [List.takeWhile_cons, hst c rfl]; simp
  have hq : (u ++ t).head? ≠ some 34 := fun e => by
    cases u with
    | nil => have := hst 34 e; rcases ht 34 e with h | h <;> revert h <;> decide
    | cons c r => injection e with e; have := hu c (List.mem_cons_self ..); rw [e] at this; revert this; decide
  unfold fldS
  rw [if_neg hq, hb]
  exact endF_app u t _ rfl ht
theorem rest_drop {D : ByteArray} {p k : Nat} {r : List UInt8} (h : restD D p = r) : restD D (p + k) = r.drop k := by rw [← h]; unfold restD; rw [List.drop_drop]
theorem rest_size {D : ByteArray} {p : Nat} {r : List UInt8} (h : restD D p = r) (hp : p ≤ D.size) : p + r.length = D.size := by rw [← h, restD_len]; omega
/-- The tables that the generator makes: fields, column, what stands before and behind the text of a row, the header. -/
structure Kind where
  f : Nat
  c : Nat
  pre : List UInt8
  suf : List UInt8
  hd : List UInt8
def kinds : List Kind := [⟨1, 0, [], [], [116, 101, 120, 116]⟩, ⟨2, 1, [55, 44], [], [105, 100, 44, 116, 101, 120, 116]⟩, ⟨3, 1, [120, 44], [44, 34, 121, 34], [34, 97, 44, 98, 34, 44, 116, 101, 120, 116, 44, 99]⟩]
def rowK (K : Kind) (raw : List UInt8) : List UInt8 := K.pre ++ 34 :: (raw ++ 34 :: K.suf)
/-- Records that can be read, from the beginning of one on. -/
def PD (K : Kind) (r : List UInt8) : Prop := ∀ (D : ByteArray) (ps : List Pt) (a p k : Nat), restD D p = r → p ≤ D.size → (recH D K.f K.c ps a p k).2 = (0, 0)
/-- What may stand behind a record. -/
def PE (K : Kind) (t : List UInt8) : Prop := t = [] ∨ ∃ r, t = 10 :: r ∧ PD K r
theorem PE.stop {K : Kind} {t : List UInt8} (h : PE K t) : StopT t := fun c hc => by
  rcases h with rfl | ⟨r, rfl, _⟩
  · cases hc
  · injection hc with hc; exact .inr hc.symm
theorem PE.ends {K : Kind} {t : List UInt8} (h : PE K t) {D : ByteArray} {q : Nat} (hq : restD D q = t) : endsR D q = true := by
  unfold endsR
  rw [hq]
  rcases h with rfl | ⟨r, rfl, _⟩ <;> rfl
theorem PE.next {K : Kind} {t : List UInt8} (h : PE K t) {D : ByteArray} {q : Nat} (hq : restD D q = t) (hle : q ≤ D.size) (ps : List Pt) (a k : Nat) : (recH D K.f K.c ps a (q + 1) k).2 = (0, 0) := by
  have hs := rest_size hq hle
  rcases h with rfl | ⟨r, rfl, hr⟩
  · rw [recH_end (by simp at hs; omega)]
  · exact hr D ps a (q + 1) k (by rw [rest_drop hq]; rfl) (by simp at hs; omega)

section
variable {D : ByteArray} {f c a p st n k : Nat} {ps : List Pt}
/-- A bare field that is not the text's, and its separator. -/
theorem step_bare {u r : List UInt8} (hr : restD D p = u ++ 44 :: r) (hp : p ≤ D.size) (hu : ∀ x ∈ u, stopF x = false) (hf : n ≠ f) (hc : n ≠ c) :
    recS D f c ps a p st n k = recS D f c ps a (p + u.length + 1) st (n + 1) k ∧ restD D (p + u.length + 1) = r ∧ p + u.length + 1 ≤ D.size := by
  have hfl : fldS (restD D p) = some ⟨false, u.length, u.length⟩ := by
    rw [hr]; exact fld_bareS hu (fun x hx => by injection hx with hx; exact .inl hx.symm)
  have hd : restD D (p + u.length) = 44 :: r := by rw [rest_drop hr, List.drop_left]
  have he : endsR D (p + u.length) = false := by unfold endsR; rw [hd]; rfl
  have hs := rest_size hr hp
  refine ⟨?_, ?_, by simp at hs; omega⟩
  · rw [rec_more hp hfl (by rintro (e | ⟨e, _⟩); exact hf e; exact hc e) (fun e => hc e.1) he]
    unfold psN aN
    rw [if_neg hc, if_neg hc]
  · rw [rest_drop (k := 1) hd]; rfl
theorem quoted_facts {raw t : List UInt8} (hr : restD D p = 34 :: (raw ++ 34 :: t)) (hp : p ≤ D.size) (hs : Safe raw) (ht : StopT t) :
    fldS (restD D p) = some ⟨true, raw.length, raw.length + 2⟩ ∧ rawF D p ⟨true, raw.length, raw.length + 2⟩ = raw ∧ restD D (p + (raw.length + 2)) = t ∧ p + (raw.length + 2) ≤ D.size := by
  refine ⟨by rw [hr]; exact fld_quotedS hs ht, ?_, ?_, ?_⟩
  · unfold rawF
    rw [if_pos rfl, rest_drop hr]
    show (raw ++ 34 :: t).take raw.length = raw
    exact List.take_left
  · rw [rest_drop hr]
    show (raw ++ 34 :: t).drop (raw.length + 1) = t
    have : raw ++ 34 :: t = (raw ++ [34]) ++ t := by simp
    rw [this, show raw.length + 1 = (raw ++ [34]).length by simp, List.drop_left]
  · have := rest_size hr hp; simp at this; omega
/-- A quoted field and its separator: the text's, or another. -/
theorem step_quoted {raw r : List UInt8} (hr : restD D p = 34 :: (raw ++ 34 :: 44 :: r)) (hp : p ≤ D.size) (hs : Safe raw) (hd : (dec elS raw).2.2.2 = 0) (hf : n ≠ f) :
    ∃ ps' a', recS D f c ps a p st n k = recS D f c ps' a' (p + (raw.length + 2) + 1) st (n + 1) k ∧ restD D (p + (raw.length + 2) + 1) = r ∧ p + (raw.length + 2) + 1 ≤ D.size := by
  obtain ⟨h1, h2, h3, h4⟩ := quoted_facts hr hp hs (fun x hx => by injection hx with hx; exact .inl hx.symm)
  have he : endsR D (p + (raw.length + 2)) = false := by unfold endsR; rw [h3]; rfl
  have hz := rest_size h3 h4
  refine ⟨_, _, rec_more hp h1 (by rintro (e | ⟨_, e⟩); exact hf e; cases e) (fun e => e.2 (by rw [h2]; exact hd)) he, ?_, by simp at hz; omega⟩
  rw [rest_drop (k := 1) h3]; rfl
/-- The last field of a record. -/
theorem step_last {K : Kind} {raw t : List UInt8} (hr : restD D p = 34 :: (raw ++ 34 :: t)) (hp : p ≤ D.size) (hs : Safe raw) (hd : (dec elS raw).2.2.2 = 0) (hf : n ≠ K.f) (hl : K.f ≤ n + 1) (ht : PE K t) : (recS D K.f K.c ps a p st n k).2 = (0, 0) := by
  obtain ⟨h1, h2, h3, h4⟩ := quoted_facts hr hp hs ht.stop
  rw [rec_next hp h1 (by rintro (e | ⟨_, e⟩); exact hf e; cases e) (fun e => e.2 (by rw [h2]; exact hd)) (ht.ends h3) (by omega)]
  exact ht.next h3 h4 _ _ _
end
theorem one_safe : Safe [121] := Safe.one (by decide)
theorem one_dec : (dec elS [121]).2.2.2 = 0 := by decide
/-- A row of the generator, and what stands behind it. -/
theorem PD.row {K : Kind} (hK : K ∈ kinds) {raw t : List UInt8} (hs : Safe raw) (hd : (dec elS raw).2.2.2 = 0) (ht : PE K t) : PD K (rowK K raw ++ t) := fun D ps a p k hr hp => by
  have hz := rest_size hr hp
  have hlt : p < D.size := by unfold rowK at hz; simp at hz; omega
  rw [recH_go hlt]
  unfold kinds at hK
  simp only [List.mem_cons, List.not_mem_nil, or_false] at hK
  rcases hK with rfl | rfl | rfl
  · have hr : restD D p = 34 :: (raw ++ 34 :: t) := by rw [hr]; unfold rowK; simp
    exact step_last hr hp hs hd (by decide) (by decide) ht
  · have hr : restD D p = [55] ++ 44 :: (34 :: (raw ++ 34 :: t)) := by rw [hr]; unfold rowK; simp
    obtain ⟨e1, e2, e3⟩ := step_bare (f := 2) (c := 1) (ps := ps) (a := a) (st := p) (n := 0) (k := k) hr hp (by decide) (by decide) (by decide)
    rw [e1]
    exact step_last e2 e3 hs hd (by decide) (by decide) ht
  · have hr : restD D p = [120] ++ 44 :: (34 :: (raw ++ 34 :: 44 :: (34 :: ([121] ++ 34 :: t)))) := by rw [hr]; unfold rowK; simp
    obtain ⟨e1, e2, e3⟩ := step_bare (f := 3) (c := 1) (ps := ps) (a := a) (st := p) (n := 0) (k := k) hr hp (by decide) (by decide) (by decide)
    rw [e1]
    obtain ⟨ps', a', e4, e5, e6⟩ := step_quoted (f := 3) (c := 1) (ps := ps) (a := a) (st := p) (n := 1) (k := k) e2 e3 hs hd (by decide)
    rw [e4]
    exact step_last e5 e6 one_safe one_dec (by decide) (by decide) ht
/-- A document so far: whatever records follow, it can be divided. -/
def PQ (K : Kind) (C : List UInt8) : Prop := ∀ t, PE K t → (C ++ t).length ≤ 65536 → (splS (bsL (C ++ t))).2 = (0, 0)
theorem PQ.row {K : Kind} (hK : K ∈ kinds) {C raw : List UInt8} (h : PQ K C) (hs : Safe raw) (hd : (dec elS raw).2.2.2 = 0) : PQ K (C ++ 10 :: rowK K raw) := fun t ht hl => by
  rw [List.append_assoc, List.cons_append] at hl ⊢
  exact h _ (.inr ⟨_, rfl, PD.row hK hs hd ht⟩) hl
theorem PQ.done {K : Kind} {C : List UInt8} (h : PQ K C) (hl : C.length ≤ 65536) : (splS (bsL C)).2 = (0, 0) := by
  have := h [] (.inl rfl) (by simpa using hl)
  rwa [List.append_nil] at this
section
variable {D : ByteArray} {p n t c : Nat}
theorem hstep {u r : List UInt8} (hr : restD D p = u ++ 44 :: r) (hp : p ≤ D.size) (hu : ∀ x ∈ u, stopF x = false) (ht : u ≠ [116, 101, 120, 116]) :
    hdrS D p n t c = hdrS D (p + u.length + 1) (n + 1) t c ∧ restD D (p + u.length + 1) = r ∧ p + u.length + 1 ≤ D.size := by
  have hfl : fldS (restD D p) = some ⟨false, u.length, u.length⟩ := by
    rw [hr]; exact fld_bareS hu (fun x hx => by injection hx with hx; exact .inl hx.symm)
  have hd : restD D (p + u.length) = 44 :: r := by rw [rest_drop hr, List.drop_left]
  have he : endsR D (p + u.length) = false := by unfold endsR; rw [hd]; rfl
  have hs := rest_size hr hp
  have hx : isText D p ⟨false, u.length, u.length⟩ = false := by
    unfold isText; rw [hr, decide_eq_false_iff_not]; show ¬ (u ++ 44 :: r).take u.length = _; rw [List.take_left]; exact ht
  refine ⟨?_, by rw [rest_drop (k := 1) hd]; rfl, by simp at hs; omega⟩
  rw [hdr_more hp hfl he, hx, if_neg (by decide), if_neg (by decide)]
theorem hquot {raw r : List UInt8} (hr : restD D p = 34 :: (raw ++ 34 :: 44 :: r)) (hp : p ≤ D.size) (hs : Safe raw) :
    hdrS D p n t c = hdrS D (p + (raw.length + 2) + 1) (n + 1) t c ∧ restD D (p + (raw.length + 2) + 1) = r ∧ p + (raw.length + 2) + 1 ≤ D.size := by
  obtain ⟨h1, h2, h3, h4⟩ := quoted_facts hr hp hs (fun x hx => by injection hx with hx; exact .inl hx.symm)
  have he : endsR D (p + (raw.length + 2)) = false := by unfold endsR; rw [h3]; rfl
  have hz := rest_size h3 h4
  refine ⟨?_, by rw [rest_drop (k := 1) h3]; rfl, by simp at hz; omega⟩
  rw [hdr_more hp h1 he, isText_quoted h1 rfl, if_neg (by decide), if_neg (by decide)]
theorem htext {r : List UInt8} (hr : restD D p = [116, 101, 120, 116] ++ 44 :: r) (hp : p ≤ D.size) :
    hdrS D p n t c = hdrS D (p + 4 + 1) (n + 1) (t + 1) n ∧ restD D (p + 4 + 1) = r ∧ p + 4 + 1 ≤ D.size := by
  have hfl : fldS (restD D p) = some ⟨false, 4, 4⟩ := by
    rw [hr]; exact fld_bareS (u := [116, 101, 120, 116]) (by decide) (fun x hx => by injection hx with hx; exact .inl hx.symm)
  have hd : restD D (p + 4) = 44 :: r := by rw [rest_drop hr]; rfl
  have he : endsR D (p + 4) = false := by unfold endsR; rw [hd]; rfl
  have hs := rest_size hr hp
  have hx : isText D p ⟨false, 4, 4⟩ = true := by unfold isText; rw [hr]; rfl
  refine ⟨?_, by rw [rest_drop (k := 1) hd]; rfl, by simp at hs; omega⟩
  rw [hdr_more hp hfl he, hx, if_pos rfl, if_pos rfl]
theorem hlast {K : Kind} {u s : List UInt8} (hr : restD D p = u ++ s) (hp : p ≤ D.size) (hu : ∀ x ∈ u, stopF x = false) (hs : PE K s) :
    hdrS D p n t c = .ok (n + 1) (if u = [116, 101, 120, 116] then t + 1 else t) (if u = [116, 101, 120, 116] then n else c) (p + u.length + 1) ∧ restD D (p + u.length) = s ∧ p + u.length ≤ D.size := by
  have hfl : fldS (restD D p) = some ⟨false, u.length, u.length⟩ := by rw [hr]; exact fld_bareS hu hs.stop
  have hd : restD D (p + u.length) = s := by rw [rest_drop hr, List.drop_left]
  have hz := rest_size hr hp
  have hx : isText D p ⟨false, u.length, u.length⟩ = decide (u = [116, 101, 120, 116]) := by
    unfold isText; rw [hr]; show decide ((u ++ s).take u.length = _) = _; rw [List.take_left]
  refine ⟨?_, hd, by simp at hz; omega⟩
  rw [hdr_end hp hfl (hs.ends hd), hx]
  by_cases h : u = [116, 101, 120, 116]
  · rw [decide_eq_true h, if_pos rfl, if_pos rfl, if_pos h, if_pos h]
  · rw [decide_eq_false h, if_neg (by decide), if_neg (by decide), if_neg h, if_neg h]
end
theorem rest_zero (L : List UInt8) : restD (bsL L) 0 = L := by unfold restD; rw [List.drop_zero, bsL_list]
theorem PQ.start {K : Kind} (hK : K ∈ kinds) : PQ K K.hd := fun t ht hl => by
  have hsz : (bsL (K.hd ++ t)).size ≤ 65536 := by rw [bsL_size]; exact hl
  rw [splS_of hsz]
  have h0 := rest_zero (K.hd ++ t)
  unfold kinds at hK
  simp only [List.mem_cons, List.not_mem_nil, or_false] at hK
  rcases hK with rfl | rfl | rfl
  · obtain ⟨e1, e2, e3⟩ := hlast (n := 0) (t := 0) (c := 0) h0 (Nat.zero_le _) (by decide) ht
    rw [e1]
    exact ht.next e2 e3 [] 0 1
  · have h0 : restD (bsL ([105, 100, 44, 116, 101, 120, 116] ++ t)) 0 = [105, 100] ++ 44 :: ([116, 101, 120, 116] ++ t) := h0
    obtain ⟨e1, e2, e3⟩ := hstep (n := 0) (t := 0) (c := 0) h0 (Nat.zero_le _) (by decide) (by decide)
    rw [e1]
    obtain ⟨f1, f2, f3⟩ := hlast (n := 1) (t := 0) (c := 0) e2 e3 (by decide) ht
    rw [f1]
    exact ht.next f2 f3 [] 0 1
  · have h0 : restD (bsL ([34, 97, 44, 98, 34, 44, 116, 101, 120, 116, 44, 99] ++ t)) 0 = 34 :: ([97, 44, 98] ++ 34 :: 44 :: ([116, 101, 120, 116] ++ 44 :: ([99] ++ t))) := h0
    obtain ⟨g1, g2, g3⟩ := hquot (n := 0) (t := 0) (c := 0) h0 (Nat.zero_le _) (Safe.all (by decide))
    rw [g1]
    obtain ⟨e1, e2, e3⟩ := htext (n := 1) (t := 0) (c := 0) g2 g3
    rw [e1]
    obtain ⟨f1, f2, f3⟩ := hlast (n := 2) (t := 1) (c := 1) e2 e3 (by decide) ht
    rw [f1]
    exact ht.next f2 f3 [] 0 1
end Go.Proofs.YteaciofacmbllaaDoor
namespace Go.Proofs.YteaciofacmbllaaDoor
open Go.ChangeShapes Go.WideShapes Go.ChangeAt Go.RowKit
set_option linter.unusedVariables false
set_option linter.unusedSimpArgs false
set_option maxRecDepth 100000

theorem frag_flat (L : List Int) (m n : Nat) : NoT (fragG L false true m n).1 := by
  unfold fragG startG
  obtain ⟨a, b⟩ := run_flat L (nx L m (n + 1)) ⟨[], [], 0, m + 1⟩ rfl rfl
  dsimp only
  rw [if_pos rfl, a]
  unfold NoT at b ⊢
  simpa using b
theorem encS_short (f : List It) : (encS f).length ≤ 2 * txtI f + 2 * f.length := by
  unfold encS
  induction f with
  | nil => exact Nat.zero_le _
  | cons x t ih =>
    rw [List.flatMap_cons, List.length_append, List.length_cons]
    have hs : x.t.data.toList.length = x.t.size := by simp
    have e : txtI (x :: t) = x.t.size + txtI t := rfl
    have h1 : (e1S x).length ≤ 2 * x.t.size + 2 := by
      unfold e1S
      split
      · have := encT_len x.t.data.toList
        unfold encT at this; omega
      · simp only [List.length_cons, List.length_append, List.length_nil, hs]; omega
    omega
theorem raws_short {f : List It} {raw : List UInt8} (h : RawsR (expI f) raw) : raw.length ≤ 2 * txtI f + 2 * f.length := by
  rw [raws_enc h]; exact encS_short f
theorem raws_safe {f : List It} (h : valE f = 0) (ht : NoT f) {raw : List UInt8} (hr : RawsR (expI f) raw) : Safe raw ∧ (dec elS raw).2.2.2 = 0 := by
  rw [raws_enc hr]
  exact ⟨enc_safe (valE_zero h).2.2 ht, by rw [dec_enc h ht]⟩
def hdB9 : List ByteArray := [⟨#[116, 101, 120, 116]⟩, ⟨#[105, 100, 44, 116, 101, 120, 116]⟩, ⟨#[34, 97, 44, 98, 34, 44, 116, 101, 120, 116, 44, 99]⟩]
theorem hdB_any (k : Nat) (hk : k < 3) : ∃ K : Kind, K ∈ kinds ∧ kinds[k]? = some K ∧ pickB hdB9 k = bsL K.hd ∧ K.hd.length ≤ 12 ∧ (K.hd.length : Int) / 6 = (k : Int) := by
  have : k = 0 ∨ k = 1 ∨ k = 2 := by omega
  rcases this with rfl | rfl | rfl
  · exact ⟨_, .head _, rfl, rfl, by decide, by decide⟩
  · exact ⟨_, .tail _ (.head _), rfl, rfl, by decide, by decide⟩
  · exact ⟨_, .tail _ (.tail _ (.head _)), rfl, rfl, by decide, by decide⟩
theorem rowK_len (K : Kind) (h : K ∈ kinds) (raw : List UInt8) : (rowK K raw).length ≤ raw.length + 8 := by
  unfold kinds at h
  simp only [List.mem_cons, List.not_mem_nil, or_false] at h
  rcases h with rfl | rfl | rfl <;> (unfold rowK; simp)
/-- What Data answers: a document that can be divided. -/
def EndDa (b : Nat) (w : World) (e : Ending) (w' : World) : Prop := ∃ C : List UInt8, e = .returned (.string (bsL C)) ∧ (splS (bsL C)).2.2 = 0 ∧ C.length ≤ 10000 ∧ w.grownBy w' (some b)
set_option maxHeartbeats 12800000 in
theorem data_any (b : Nat) (p : Option Addr) (cap : Nat) (L : List Int) (w : World) (h : NumsAt w b p cap L 0) (hpb : ∀ W, NumsAt W b p cap L 0 → True) :
    Calls Tryd.prog 29 #[.pointer (some ⟨b, 0, none⟩), .int .i64 3, .int .i64 4] w (EndDa b w) := by
  have hn5 := fun m (hm : m ≤ 900000) W h => next_any b p cap L m 5 5 rfl W h (by omega) (by omega) (by omega)
  have hfr := fun m (hm : m ≤ 100000) W (h : NumsAt W b p cap L m) => fragment_any b p cap L m false true 5 5 rfl W h (fun h0 a ha => ones_any h.ones h0 a ha) hm (by omega)
  have hfo := fun m => frag_ok L false true m 5 (by omega)
  have hff := fun m => frag_flat L m 5
  have hrw := fun m (hm : m ≤ 800000) pf cf (F : List It) (hF : FragOk 5 F) (ht : NoT F) W h i s hc hcm => mkraws_any b p cap L m pf cf F W h hm i s hc hcm (hF.valid (by omega)) ht (by have := hF.txt; omega)
  have hk1 := nx_lt L 0 3 (by omega)
  obtain ⟨K, hKm, hKi, hp0, hl0, hdv⟩ := hdB_any (nx L 0 3) hk1
  have hN0 := nx_lt L 1 5 (by omega)
  have HFR := Lib.hid hfr; have HFO := Lib.hid hfo; have HFF := Lib.hid hff; have HRW := Lib.hid hrw
  have N1 := Lib.hid (fun W h => next_any b p cap L 0 3 3 rfl W h (by omega) (by omega) (by omega)); have N2 := Lib.hid (hn5 1 (by omega))
  have HP0 := Lib.hid hp0; have HKI := Lib.hid hKi; have HKM := Lib.hid hKm
  clear hn5 hfr hfo hff hrw hp0 hpb hKi hKm
  generalize nx L 0 3 = k0 at *
  generalize nx L 1 5 = N at *
  have HQ := Lib.hid (PQ.start HKM.out)
  have hdv2 : ((bsL K.hd).size : Int) / 6 = (k0 : Int) := by rw [bsL_size]; exact hdv
  have hz0 : (bsL K.hd).size ≤ 12 := by rw [bsL_size]; exact hl0
  have HDV := Lib.hid hdv2
  have hlt := h.lt
  clear hdv hdv2
  go_enter Tryd.func29, Tryd.ntmps29
  go_wp2_with fail
  refine (N1.out _ (h.call (blw (Below.refl _ _) _))).mono ?_
  rintro e w1 ⟨rfl, hg, hN⟩
  have hB := (hg.block w.heap.size (by simp) (fun e => by injection e with e; omega)).trans (heap_alloc_new w _)
  have hc := pick_row hB hdB9 rfl k0 hk1
  rw [HP0.out] at hc
  have hgr := chg_trans (chg_below (b := b) (blw (Below.refl w.heap.size w) _)) hg
  have hk3 : (k0 : Int) < 3 := by omega
  clear hg hB
  go_wp2_with fail
  refine (N2.out _ hN).mono ?_
  rintro e w2 ⟨rfl, hg2, hN2⟩
  have hgr2 := chg_trans hgr hg2
  clear hc hg2 hgr hN N1 N2 HP0
  go_wp2_with fail
  have hkk : k0 = 0 ∨ k0 = 1 ∨ k0 = 2 := by omega
  rcases hkk with ek | ek | ek
  · have HDV2 := Lib.hid (show ((bsL K.hd).size : Int) / 6 = 0 by rw [HDV.out, ek]; rfl)
    have EK := Lib.hid ek
    clear ek
    rw [HDV2.out]
    clear HDV HDV2 hk3 hk1
    go_loopw [7, 9] (fun v i wr => ∃ (n m : Nat) (C : List UInt8), n ≤ N ∧ i = .int .i64 (n : Int) ∧ v = .string (bsL C) ∧ Hid (PQ K C) ∧ C.length ≤ 12 + 1200 * (N - n) ∧ m ≤ 2 + 400 * (N - n) ∧ w.grownBy wr (some b) ∧ NumsAt wr b p cap L m) (fun _ i _ => (intOf i).toNat)
    case atStart => exact ⟨N, 2, K.hd, Nat.le_refl _, rfl, rfl, HQ, by omega, by omega, hgr2, hN2⟩
    case round =>
      obtain ⟨n, m, C, hn, rfl, rfl, HC, hCl, hm, hgr, hN⟩ := hrel
      by_cases hn0 : 0 < n
      · obtain ⟨n, rfl⟩ : ∃ j, n = j + 1 := ⟨n - 1, by omega⟩
        have hf1 := HFR.out m (by omega)
        have hf2 := HFO.out m
        have hf3 := HFF.out m
        obtain ⟨hok, hm1, hm2⟩ := hf2
        generalize (fragG L false true m 5).1 = F at *
        generalize (fragG L false true m 5).2 = m1 at *
        have gl := hok.len; have gt := hok.txt; have gi := hok.lenI
        have hv := hok.valid (by omega)
        have hr1 := fun pf cf W h i s hc hcm => HRW.out m1 (by omega) pf cf F hok hf3 W h i s hc hcm
        have hrs : ∀ raw, RawsR (expI F) raw → Safe raw ∧ (dec elS raw).2.2.2 = 0 ∧ raw.length ≤ 1130 := fun raw hr => ⟨(raws_safe hv hf3 hr).1, (raws_safe hv hf3 hr).2, by have := raws_short hr; omega⟩
        have HF1 := Lib.hid hf1; have HR1 := Lib.hid hr1; have HRS := Lib.hid hrs
        clear hf1 hf3 hr1 hrs hv hok
        go_wp2_with fail
        refine (HF1.out _ hN).mono ?_
        rintro e w3 ⟨vf, rfl, hg3, hN3, hown⟩
        obtain ⟨pf, cf, rfl, fa, fb, fi⟩ := hown.its
        have hadr := OwnL.addr hown
        have hNlt := hN.lt
        have hgr3 := chg_trans hgr hg3
        have hsep : 0 < F.length → ∀ a, pf = some a → some b ≠ some a.block := fun _ a ha e => by
          have := (hadr a ha).1
          injection e with e
          omega
        clear hown hadr hg3
        go_wp2_with fail
        refine (HR1.out pf cf w3 hN3 fi hsep fa fb).mono ?_
        rintro e w4 ⟨raw, m2, rfl, hraw, hrl, hm3, hg4, hN4⟩
        obtain ⟨hsafe, hdd, hrz⟩ := HRS.out raw hraw
        have hgr4 := chg_trans hgr3 hg4
        have HNX := Lib.hid (HC.out.row HKM.out hsafe hdd)
        have hsr : (bsL raw).size ≤ 1130 := by rw [bsL_size]; exact hrz
        have hsC : (bsL C).size ≤ 10000 := by rw [bsL_size]; omega
        have hrk := rowK_len K HKM.out raw
        have hlen : (C ++ 10 :: rowK K raw).length ≤ 12 + 1200 * (N - n) := by
          simp only [List.length_append, List.length_cons]; omega
        clear hraw hsafe hdd hg4 fi hsep hN3 hrk
        have hrow : rowK K raw = ([] : List UInt8) ++ 34 :: (raw ++ 34 :: []) := by have := HKI.out; rw [EK.out] at this; injection this with e; rw [← e]; rfl
        have hend : bsL C ++ ((⟨#[10]⟩ : ByteArray) ++ ⟨#[]⟩ ++ ⟨#[34]⟩ ++ bsL raw ++ ⟨#[34]⟩ ++ ⟨#[]⟩) = bsL (C ++ 10 :: rowK K raw) := by
          show bsL C ++ (bsL [10] ++ bsL [] ++ bsL [34] ++ bsL raw ++ bsL [34] ++ bsL []) = _
          rw [bsL_append, bsL_append, bsL_append, bsL_append, bsL_append, bsL_append, hrow]
          congr 1; simp
        have HEND := Lib.hid hend
        clear hend hrow
        generalize (C ++ 10 :: rowK K raw) = C2 at *
        generalize bsL raw = sr at *
        generalize bsL C = sC at *
        have z1 : ¬ (9223372036854775807 < 1 + (⟨#[]⟩ : ByteArray).size) := by show ¬ (9223372036854775807 < 1 + 0); omega
        have z2 : ¬ (9223372036854775807 < ((⟨#[10]⟩ : ByteArray) ++ ⟨#[]⟩).size + 1) := by show ¬ (9223372036854775807 < 1 + 1); omega
        have z3 : ¬ (9223372036854775807 < ((⟨#[10]⟩ : ByteArray) ++ ⟨#[]⟩ ++ ⟨#[34]⟩).size + sr.size) := by show ¬ (9223372036854775807 < 2 + sr.size); omega
        have e0 : ((⟨#[10]⟩ : ByteArray) ++ ⟨#[]⟩ ++ ⟨#[34]⟩).size = 2 := rfl
        have z4 : ¬ (9223372036854775807 < ((⟨#[10]⟩ : ByteArray) ++ ⟨#[]⟩ ++ ⟨#[34]⟩ ++ sr).size + 1) := by rw [ByteArray.size_append, e0]; omega
        have e1 : ((⟨#[10]⟩ : ByteArray) ++ ⟨#[]⟩ ++ ⟨#[34]⟩ ++ sr ++ ⟨#[34]⟩).size = 3 + sr.size := by rw [ByteArray.size_append, ByteArray.size_append, e0]; show 2 + sr.size + 1 = _; omega
        have e2 : (⟨#[]⟩ : ByteArray).size = 0 := rfl
        have z5 : ¬ (9223372036854775807 < ((⟨#[10]⟩ : ByteArray) ++ ⟨#[]⟩ ++ ⟨#[34]⟩ ++ sr ++ ⟨#[34]⟩).size + (⟨#[]⟩ : ByteArray).size) := by rw [e1, e2]; omega
        have z6 : ¬ (9223372036854775807 < sC.size + ((⟨#[10]⟩ : ByteArray) ++ ⟨#[]⟩ ++ ⟨#[34]⟩ ++ sr ++ ⟨#[34]⟩ ++ ⟨#[]⟩).size) := by rw [ByteArray.size_append, e1, e2]; omega
        clear e0 e1 e2
        have mixed : Tryd.prog.follows .mixedOrders = true := by kernel_rfl
        go_upto_region 16 with fail
        go_region_o
        all_goals go_wp2_with fail
        all_goals go_roundw
        case rel => exact ⟨n, m2, C2, by omega, by first | go_num | (congr 1; omega), by rw [HEND.out], HNX, hlen, by omega, chg_trans hgr4 (chg_below (b := b) ((blw (blw (Below.refl w4.heap.size w4) _) _).drew)), hN4.call ((blw (blw (Below.refl w4.heap.size w4) _) _).drew)⟩
        case measure => simp [intOf]
        case rel => exact ⟨n, m2, C2, by omega, by first | go_num | (congr 1; omega), by rw [HEND.out], HNX, hlen, by omega, chg_trans hgr4 (chg_below (b := b) ((blw (blw (Below.refl w4.heap.size w4) _) _).drew)), hN4.call ((blw (blw (Below.refl w4.heap.size w4) _) _).drew)⟩
        case measure => simp [intOf]
      · obtain rfl : n = 0 := by omega
        have HD := Lib.hid (by have := HC.out.done (by omega); rw [this] : (splS (bsL C)).2.2 = 0)
        have hCz : C.length ≤ 10000 := by omega
        clear hn0
        go_wp2_with fail
        go_ret
        exact ⟨C, rfl, HD.out, hCz, hgr⟩
  · have HDV2 := Lib.hid (show ((bsL K.hd).size : Int) / 6 = 1 by rw [HDV.out, ek]; rfl)
    have EK := Lib.hid ek
    clear ek
    rw [HDV2.out]
    clear HDV HDV2 hk3 hk1
    go_loopw [7, 9] (fun v i wr => ∃ (n m : Nat) (C : List UInt8), n ≤ N ∧ i = .int .i64 (n : Int) ∧ v = .string (bsL C) ∧ Hid (PQ K C) ∧ C.length ≤ 12 + 1200 * (N - n) ∧ m ≤ 2 + 400 * (N - n) ∧ w.grownBy wr (some b) ∧ NumsAt wr b p cap L m) (fun _ i _ => (intOf i).toNat)
    case atStart => exact ⟨N, 2, K.hd, Nat.le_refl _, rfl, rfl, HQ, by omega, by omega, hgr2, hN2⟩
    case round =>
      obtain ⟨n, m, C, hn, rfl, rfl, HC, hCl, hm, hgr, hN⟩ := hrel
      by_cases hn0 : 0 < n
      · obtain ⟨n, rfl⟩ : ∃ j, n = j + 1 := ⟨n - 1, by omega⟩
        have hf1 := HFR.out m (by omega)
        have hf2 := HFO.out m
        have hf3 := HFF.out m
        obtain ⟨hok, hm1, hm2⟩ := hf2
        generalize (fragG L false true m 5).1 = F at *
        generalize (fragG L false true m 5).2 = m1 at *
        have gl := hok.len; have gt := hok.txt; have gi := hok.lenI
        have hv := hok.valid (by omega)
        have hr1 := fun pf cf W h i s hc hcm => HRW.out m1 (by omega) pf cf F hok hf3 W h i s hc hcm
        have hrs : ∀ raw, RawsR (expI F) raw → Safe raw ∧ (dec elS raw).2.2.2 = 0 ∧ raw.length ≤ 1130 := fun raw hr => ⟨(raws_safe hv hf3 hr).1, (raws_safe hv hf3 hr).2, by have := raws_short hr; omega⟩
        have HF1 := Lib.hid hf1; have HR1 := Lib.hid hr1; have HRS := Lib.hid hrs
        clear hf1 hf3 hr1 hrs hv hok
        go_wp2_with fail
        refine (HF1.out _ hN).mono ?_
        rintro e w3 ⟨vf, rfl, hg3, hN3, hown⟩
        obtain ⟨pf, cf, rfl, fa, fb, fi⟩ := hown.its
        have hadr := OwnL.addr hown
        have hNlt := hN.lt
        have hgr3 := chg_trans hgr hg3
        have hsep : 0 < F.length → ∀ a, pf = some a → some b ≠ some a.block := fun _ a ha e => by
          have := (hadr a ha).1
          injection e with e
          omega
        clear hown hadr hg3
        go_wp2_with fail
        refine (HR1.out pf cf w3 hN3 fi hsep fa fb).mono ?_
        rintro e w4 ⟨raw, m2, rfl, hraw, hrl, hm3, hg4, hN4⟩
        obtain ⟨hsafe, hdd, hrz⟩ := HRS.out raw hraw
        have hgr4 := chg_trans hgr3 hg4
        have HNX := Lib.hid (HC.out.row HKM.out hsafe hdd)
        have hsr : (bsL raw).size ≤ 1130 := by rw [bsL_size]; exact hrz
        have hsC : (bsL C).size ≤ 10000 := by rw [bsL_size]; omega
        have hrk := rowK_len K HKM.out raw
        have hlen : (C ++ 10 :: rowK K raw).length ≤ 12 + 1200 * (N - n) := by
          simp only [List.length_append, List.length_cons]; omega
        clear hraw hsafe hdd hg4 fi hsep hN3 hrk
        have hrow : rowK K raw = ([55, 44] : List UInt8) ++ 34 :: (raw ++ 34 :: []) := by have := HKI.out; rw [EK.out] at this; injection this with e; rw [← e]; rfl
        have hend : bsL C ++ ((⟨#[10]⟩ : ByteArray) ++ ⟨#[55, 44]⟩ ++ ⟨#[34]⟩ ++ bsL raw ++ ⟨#[34]⟩ ++ ⟨#[]⟩) = bsL (C ++ 10 :: rowK K raw) := by
          show bsL C ++ (bsL [10] ++ bsL [55, 44] ++ bsL [34] ++ bsL raw ++ bsL [34] ++ bsL []) = _
          rw [bsL_append, bsL_append, bsL_append, bsL_append, bsL_append, bsL_append, hrow]
          congr 1; simp
        have HEND := Lib.hid hend
        clear hend hrow
        generalize (C ++ 10 :: rowK K raw) = C2 at *
        generalize bsL raw = sr at *
        generalize bsL C = sC at *
        have z1 : ¬ (9223372036854775807 < 1 + (⟨#[55, 44]⟩ : ByteArray).size) := by show ¬ (9223372036854775807 < 1 + 2); omega
        have z2 : ¬ (9223372036854775807 < ((⟨#[10]⟩ : ByteArray) ++ ⟨#[55, 44]⟩).size + 1) := by show ¬ (9223372036854775807 < 3 + 1); omega
        have z3 : ¬ (9223372036854775807 < ((⟨#[10]⟩ : ByteArray) ++ ⟨#[55, 44]⟩ ++ ⟨#[34]⟩).size + sr.size) := by show ¬ (9223372036854775807 < 4 + sr.size); omega
        have e0 : ((⟨#[10]⟩ : ByteArray) ++ ⟨#[55, 44]⟩ ++ ⟨#[34]⟩).size = 4 := rfl
        have z4 : ¬ (9223372036854775807 < ((⟨#[10]⟩ : ByteArray) ++ ⟨#[55, 44]⟩ ++ ⟨#[34]⟩ ++ sr).size + 1) := by rw [ByteArray.size_append, e0]; omega
        have e1 : ((⟨#[10]⟩ : ByteArray) ++ ⟨#[55, 44]⟩ ++ ⟨#[34]⟩ ++ sr ++ ⟨#[34]⟩).size = 5 + sr.size := by rw [ByteArray.size_append, ByteArray.size_append, e0]; show 4 + sr.size + 1 = _; omega
        have e2 : (⟨#[]⟩ : ByteArray).size = 0 := rfl
        have z5 : ¬ (9223372036854775807 < ((⟨#[10]⟩ : ByteArray) ++ ⟨#[55, 44]⟩ ++ ⟨#[34]⟩ ++ sr ++ ⟨#[34]⟩).size + (⟨#[]⟩ : ByteArray).size) := by rw [e1, e2]; omega
        have z6 : ¬ (9223372036854775807 < sC.size + ((⟨#[10]⟩ : ByteArray) ++ ⟨#[55, 44]⟩ ++ ⟨#[34]⟩ ++ sr ++ ⟨#[34]⟩ ++ ⟨#[]⟩).size) := by rw [ByteArray.size_append, e1, e2]; omega
        clear e0 e1 e2
        have mixed : Tryd.prog.follows .mixedOrders = true := by kernel_rfl
        go_upto_region 16 with fail
        go_region_o
        all_goals go_wp2_with fail
        all_goals go_roundw
        case rel => exact ⟨n, m2, C2, by omega, by first | go_num | (congr 1; omega), by rw [HEND.out], HNX, hlen, by omega, chg_trans hgr4 (chg_below (b := b) ((blw (blw (Below.refl w4.heap.size w4) _) _).drew)), hN4.call ((blw (blw (Below.refl w4.heap.size w4) _) _).drew)⟩
        case measure => simp [intOf]
        case rel => exact ⟨n, m2, C2, by omega, by first | go_num | (congr 1; omega), by rw [HEND.out], HNX, hlen, by omega, chg_trans hgr4 (chg_below (b := b) ((blw (blw (Below.refl w4.heap.size w4) _) _).drew)), hN4.call ((blw (blw (Below.refl w4.heap.size w4) _) _).drew)⟩
        case measure => simp [intOf]
      · obtain rfl : n = 0 := by omega
        have HD := Lib.hid (by have := HC.out.done (by omega); rw [this] : (splS (bsL C)).2.2 = 0)
        have hCz : C.length ≤ 10000 := by omega
        clear hn0
        go_wp2_with fail
        go_ret
        exact ⟨C, rfl, HD.out, hCz, hgr⟩
  · have HDV2 := Lib.hid (show ((bsL K.hd).size : Int) / 6 = 2 by rw [HDV.out, ek]; rfl)
    have EK := Lib.hid ek
    clear ek
    rw [HDV2.out]
    clear HDV HDV2 hk3 hk1
    go_loopw [7, 9] (fun v i wr => ∃ (n m : Nat) (C : List UInt8), n ≤ N ∧ i = .int .i64 (n : Int) ∧ v = .string (bsL C) ∧ Hid (PQ K C) ∧ C.length ≤ 12 + 1200 * (N - n) ∧ m ≤ 2 + 400 * (N - n) ∧ w.grownBy wr (some b) ∧ NumsAt wr b p cap L m) (fun _ i _ => (intOf i).toNat)
    case atStart => exact ⟨N, 2, K.hd, Nat.le_refl _, rfl, rfl, HQ, by omega, by omega, hgr2, hN2⟩
    case round =>
      obtain ⟨n, m, C, hn, rfl, rfl, HC, hCl, hm, hgr, hN⟩ := hrel
      by_cases hn0 : 0 < n
      · obtain ⟨n, rfl⟩ : ∃ j, n = j + 1 := ⟨n - 1, by omega⟩
        have hf1 := HFR.out m (by omega)
        have hf2 := HFO.out m
        have hf3 := HFF.out m
        obtain ⟨hok, hm1, hm2⟩ := hf2
        generalize (fragG L false true m 5).1 = F at *
        generalize (fragG L false true m 5).2 = m1 at *
        have gl := hok.len; have gt := hok.txt; have gi := hok.lenI
        have hv := hok.valid (by omega)
        have hr1 := fun pf cf W h i s hc hcm => HRW.out m1 (by omega) pf cf F hok hf3 W h i s hc hcm
        have hrs : ∀ raw, RawsR (expI F) raw → Safe raw ∧ (dec elS raw).2.2.2 = 0 ∧ raw.length ≤ 1130 := fun raw hr => ⟨(raws_safe hv hf3 hr).1, (raws_safe hv hf3 hr).2, by have := raws_short hr; omega⟩
        have HF1 := Lib.hid hf1; have HR1 := Lib.hid hr1; have HRS := Lib.hid hrs
        clear hf1 hf3 hr1 hrs hv hok
        go_wp2_with fail
        refine (HF1.out _ hN).mono ?_
        rintro e w3 ⟨vf, rfl, hg3, hN3, hown⟩
        obtain ⟨pf, cf, rfl, fa, fb, fi⟩ := hown.its
        have hadr := OwnL.addr hown
        have hNlt := hN.lt
        have hgr3 := chg_trans hgr hg3
        have hsep : 0 < F.length → ∀ a, pf = some a → some b ≠ some a.block := fun _ a ha e => by
          have := (hadr a ha).1
          injection e with e
          omega
        clear hown hadr hg3
        go_wp2_with fail
        refine (HR1.out pf cf w3 hN3 fi hsep fa fb).mono ?_
        rintro e w4 ⟨raw, m2, rfl, hraw, hrl, hm3, hg4, hN4⟩
        obtain ⟨hsafe, hdd, hrz⟩ := HRS.out raw hraw
        have hgr4 := chg_trans hgr3 hg4
        have HNX := Lib.hid (HC.out.row HKM.out hsafe hdd)
        have hsr : (bsL raw).size ≤ 1130 := by rw [bsL_size]; exact hrz
        have hsC : (bsL C).size ≤ 10000 := by rw [bsL_size]; omega
        have hrk := rowK_len K HKM.out raw
        have hlen : (C ++ 10 :: rowK K raw).length ≤ 12 + 1200 * (N - n) := by
          simp only [List.length_append, List.length_cons]; omega
        clear hraw hsafe hdd hg4 fi hsep hN3 hrk
        have hrow : rowK K raw = ([120, 44] : List UInt8) ++ 34 :: (raw ++ 34 :: [44, 34, 121, 34]) := by have := HKI.out; rw [EK.out] at this; injection this with e; rw [← e]; rfl
        have hend : bsL C ++ ((⟨#[10]⟩ : ByteArray) ++ ⟨#[120, 44]⟩ ++ ⟨#[34]⟩ ++ bsL raw ++ ⟨#[34]⟩ ++ ⟨#[44, 34, 121, 34]⟩) = bsL (C ++ 10 :: rowK K raw) := by
          show bsL C ++ (bsL [10] ++ bsL [120, 44] ++ bsL [34] ++ bsL raw ++ bsL [34] ++ bsL [44, 34, 121, 34]) = _
          rw [bsL_append, bsL_append, bsL_append, bsL_append, bsL_append, bsL_append, hrow]
          congr 1; simp
        have HEND := Lib.hid hend
        clear hend hrow
        generalize (C ++ 10 :: rowK K raw) = C2 at *
        generalize bsL raw = sr at *
        generalize bsL C = sC at *
        have z1 : ¬ (9223372036854775807 < 1 + (⟨#[120, 44]⟩ : ByteArray).size) := by show ¬ (9223372036854775807 < 1 + 2); omega
        have z2 : ¬ (9223372036854775807 < ((⟨#[10]⟩ : ByteArray) ++ ⟨#[120, 44]⟩).size + 1) := by show ¬ (9223372036854775807 < 3 + 1); omega
        have z3 : ¬ (9223372036854775807 < ((⟨#[10]⟩ : ByteArray) ++ ⟨#[120, 44]⟩ ++ ⟨#[34]⟩).size + sr.size) := by show ¬ (9223372036854775807 < 4 + sr.size); omega
        have e0 : ((⟨#[10]⟩ : ByteArray) ++ ⟨#[120, 44]⟩ ++ ⟨#[34]⟩).size = 4 := rfl
        have z4 : ¬ (9223372036854775807 < ((⟨#[10]⟩ : ByteArray) ++ ⟨#[120, 44]⟩ ++ ⟨#[34]⟩ ++ sr).size + 1) := by rw [ByteArray.size_append, e0]; omega
        have e1 : ((⟨#[10]⟩ : ByteArray) ++ ⟨#[120, 44]⟩ ++ ⟨#[34]⟩ ++ sr ++ ⟨#[34]⟩).size = 5 + sr.size := by rw [ByteArray.size_append, ByteArray.size_append, e0]; show 4 + sr.size + 1 = _; omega
        have e2 : (⟨#[44, 34, 121, 34]⟩ : ByteArray).size = 4 := rfl
        have z5 : ¬ (9223372036854775807 < ((⟨#[10]⟩ : ByteArray) ++ ⟨#[120, 44]⟩ ++ ⟨#[34]⟩ ++ sr ++ ⟨#[34]⟩).size + (⟨#[44, 34, 121, 34]⟩ : ByteArray).size) := by rw [e1, e2]; omega
        have z6 : ¬ (9223372036854775807 < sC.size + ((⟨#[10]⟩ : ByteArray) ++ ⟨#[120, 44]⟩ ++ ⟨#[34]⟩ ++ sr ++ ⟨#[34]⟩ ++ ⟨#[44, 34, 121, 34]⟩).size) := by rw [ByteArray.size_append, e1, e2]; omega
        clear e0 e1 e2
        have mixed : Tryd.prog.follows .mixedOrders = true := by kernel_rfl
        go_upto_region 16 with fail
        go_region_o
        all_goals go_wp2_with fail
        all_goals go_roundw
        case rel => exact ⟨n, m2, C2, by omega, by first | go_num | (congr 1; omega), by rw [HEND.out], HNX, hlen, by omega, chg_trans hgr4 (chg_below (b := b) ((blw (blw (Below.refl w4.heap.size w4) _) _).drew)), hN4.call ((blw (blw (Below.refl w4.heap.size w4) _) _).drew)⟩
        case measure => simp [intOf]
        case rel => exact ⟨n, m2, C2, by omega, by first | go_num | (congr 1; omega), by rw [HEND.out], HNX, hlen, by omega, chg_trans hgr4 (chg_below (b := b) ((blw (blw (Below.refl w4.heap.size w4) _) _).drew)), hN4.call ((blw (blw (Below.refl w4.heap.size w4) _) _).drew)⟩
        case measure => simp [intOf]
      · obtain rfl : n = 0 := by omega
        have HD := Lib.hid (by have := HC.out.done (by omega); rw [this] : (splS (bsL C)).2.2 = 0)
        have hCz : C.length ≤ 10000 := by omega
        clear hn0
        go_wp2_with fail
        go_ret
        exact ⟨C, rfl, HD.out, hCz, hgr⟩
end Go.Proofs.YteaciofacmbllaaDoor
namespace Go.Proofs.YteaciofacmbllaaDoor
open Go.ChangeShapes Go.WideShapes Go.ChangeAt Go.RowKit
set_option linter.unusedVariables false
set_option linter.unusedSimpArgs false
set_option maxRecDepth 100000

/-- What a reader of elements answers: the item and its length, or nothing and 0. -/
def xv (x : It) : Value := .agg #[.int .i64 x.k, .string x.t, .int .i64 x.id]
theorem rconv_byte2 (w : World) (c : UInt8) (o : Obj) (B : Nat) (h : (w.alloc o).heap.size = B) : (convert 22 9 (.slice (some ⟨B, 0, none⟩) 1 1)).run Tryd.prog ((w.alloc o).alloc (.cells #[.int .u8 (c.toNat : Int)] 5)) = .ok (.string ⟨#[c]⟩) ((w.alloc o).alloc (.cells #[.int .u8 (c.toNat : Int)] 5)) := by
  subst h; exact rconv_byte (w.alloc o) c
/-- A reader of elements answers an item and its length. -/
def EndX (P : It → Nat → Prop) (w : World) (e : Ending) (w' : World) : Prop := ∃ (x : It) (n : Nat), e = .returned (.tuple #[.agg #[.int .i64 x.k, .string x.t, .int .i64 x.id], .int .i64 n]) ∧ P x n ∧ Below w.heap.size w w'
def OptOk (o : Option (It × Nat)) (x : It) (n : Nat) : Prop := match o with | some y => x = y.1 ∧ n = y.2 | none => x = zI ∧ n = 0
theorem upto_get (c : UInt8) (r : List UInt8) (h : (upto c r).length < r.length) : r[(upto c r).length]'h = c := by
  induction r with
  | nil => simp at h
  | cons y t ih =>
    by_cases hy : y = c
    · subst hy
      have : upto y (y :: t) = [] := by unfold upto; simp
      simp only [this]; rfl
    · have hyc : (y != c) = true := by simpa using hy
      have e : upto c (y :: t) = y :: upto c t := by unfold upto; rw [List.takeWhile_cons, hyc, if_pos rfl]
      simp only [e, List.length_cons] at h ⊢
      simp only [List.getElem_cons_succ]
      exact ih (by omega)
theorem slot_at (r : List UInt8) (k : Nat) (hk : k < r.length) : (r[k] = 125 ∧ isNm (bsL (r.take k)) = true) ↔ (hasU 125 r = true ∧ k = (upto 125 r).length ∧ isNm (bsL (upto 125 r)) = true) := by
  constructor
  · rintro ⟨h1, h2⟩
    have hb : ∀ x ∈ r.take k, x ≠ 125 := fun x hx e => by
      have := nm_mem h2 (c := x) (by rw [bsL_list]; exact hx)
      rw [e] at this; exact absurd this (by decide)
    have e : r.take k ++ 125 :: r.drop (k + 1) = r := by
      have := List.take_append_drop k r
      rw [List.drop_eq_getElem_cons hk, h1] at this
      exact this
    have e2 : upto 125 r = r.take k := by rw [← e]; rw [upto_app _ _ _ hb]; rw [e]
    refine ⟨?_, ?_, by rw [e2]; exact h2⟩
    · unfold hasU; rw [e2]; simp; omega
    · rw [e2]; simp; omega
  · rintro ⟨h1, h2, h3⟩
    unfold hasU at h1
    have h1 := of_decide_eq_true h1
    subst h2
    exact ⟨upto_get 125 r h1, by rw [upto_take]; exact h3⟩
theorem byte_rest {s : ByteArray} {a : UInt8} {r : List UInt8} (hl : s.data.toList = a :: r) (k : Nat) (h1 : 1 ≤ k) (hk : k < s.size) : ∃ h : k - 1 < r.length, s[k] = r[k - 1] := by
  have hsz : s.data.toList.length = s.size := by simp
  have hrl : r.length + 1 = s.size := by rw [← hsz, hl]; simp
  refine ⟨by omega, ?_⟩
  have e : s.data.toList[k]'(by rw [hsz]; exact hk) = r[k - 1]'(by omega) := by
    simp only [hl]
    obtain ⟨j, rfl⟩ : ∃ j, k = j + 1 := ⟨k - 1, by omega⟩
    rfl
  rw [← e]; simp; rfl
theorem cut_rest {s : ByteArray} {a : UInt8} {r : List UInt8} (hl : s.data.toList = a :: r) (k : Nat) (h1 : 1 ≤ k) : s.extract 1 k = bsL (r.take (k - 1)) := by
  have e : (s.extract 1 k).data.toList = (s.data.toList.drop 1).take (k - 1) := by simp [ByteArray.extract, ByteArray.copySlice]
  rw [← bsL_of (s.extract 1 k), e, hl]; rfl
/-- What the slot's loop looks for. -/
def SlP (r : List UInt8) (k : Nat) : Prop := ∃ h : k - 1 < r.length, r[k - 1] = 125 ∧ isNm (bsL (r.take (k - 1))) = true
theorem slp_yes {r : List UInt8} {k : Nat} (h1 : 1 ≤ k) (h : SlP r k) : rdSlot r = some (⟨5, bsL (r.take (k - 1)), 0⟩, k + 1) := by
  obtain ⟨hk, h2⟩ := h
  obtain ⟨a, b, c⟩ := (slot_at r (k - 1) hk).1 h2
  have e : upto 125 r = r.take (k - 1) := by rw [b]; exact (upto_take 125 r).symm
  unfold rdSlot
  rw [if_pos ⟨a, c⟩, ← b, e, show k - 1 + 2 = k + 1 by omega]
theorem slp_no {r : List UInt8} {k : Nat} (hk : r.length + 1 ≤ k ∨ k = 26) (h : ∀ j, 1 ≤ j → j < k → ¬ SlP r j) : rdSlot r = none := by
  unfold rdSlot
  split
  · rename_i hc
    exfalso
    obtain ⟨h1, h2⟩ := hc
    have hlt : (upto 125 r).length < r.length := of_decide_eq_true h1
    have hs : (bsL (upto 125 r)).size ≤ 24 := (isNm_bytes _ h2).2.1
    rw [bsL_size] at hs
    refine h ((upto 125 r).length + 1) (by omega) (by omega) ⟨by simpa using hlt, ?_⟩
    have := (slot_at r (upto 125 r).length hlt).2 ⟨h1, rfl, h2⟩
    simpa using this
  · rfl
theorem slp_break {r : List UInt8} {k : Nat} (h1 : 1 ≤ k) (hk : k - 1 < r.length) (hc : r[k - 1]'hk = 125) (hj : ∀ j (h : j - 1 < r.length), 1 ≤ j → j < k → r[j - 1]'h ≠ 125) (hn : isNm (bsL (r.take (k - 1))) = false) : rdSlot r = none := by
  have e : r = r.take (k - 1) ++ 125 :: r.drop k := by
    have h2 := List.drop_eq_getElem_cons hk
    rw [hc, show k - 1 + 1 = k by omega] at h2
    rw [← h2, List.take_append_drop]
  have hu : upto 125 r = r.take (k - 1) := by
    have := upto_app 125 (r.take (k - 1)) (r.drop k) (fun x hx => by
      obtain ⟨i, hi, rfl⟩ := List.mem_iff_getElem.1 hx
      rw [List.length_take] at hi
      rw [List.getElem_take]
      have := hj (i + 1) (by simp; omega) (by omega) (by omega)
      simpa using this)
    rw [← e] at this; exact this
  unfold rdSlot
  rw [hu, if_neg (fun h => by rw [hn] at h; cases h.2)]
set_option maxHeartbeats 3200000 in
theorem refslot_any (s : ByteArray) (r : List UInt8) (w : World) (hl : s.data.toList = 123 :: r) (hs : s.size ≤ 1000000000000) :
    Calls Tryd.prog 104 #[.string s] w (EndX (OptOk (rdSlot r)) w) := by
  have hsz : s.data.toList.length = s.size := by simp
  have hrl : r.length + 1 = s.size := by rw [← hsz, hl]; simp
  have hpos : 0 < s.size := by omega
  have hb := fun k h1 hk => byte_rest hl k h1 hk
  have hc := fun k h1 => cut_rest hl k h1
  have hyes := fun k (h1 : 1 ≤ k) (h : SlP r k) => slp_yes h1 h
  have hno := fun k (hk : r.length + 1 ≤ k ∨ k = 26) h => slp_no hk h
  have hnm := fun (u : ByteArray) W (h : u.size ≤ maxLen) => risname_any u W h
  generalize hgo : rdSlot r = o at *
  have HGO := Lib.hid hgo; clear hgo
  have HB := Lib.hid hb; have HC := Lib.hid hc; have HYES := Lib.hid hyes; have HNO := Lib.hid hno; have HN := Lib.hid hnm
  have hZ := zV.new w
  have hBa := blw (Below.refl w.heap.size w) (.cells #[.int .i64 0, .string ByteArray.empty, .int .i64 0] 58)
  clear hb hc hyes hno hnm hl
  go_enter Tryd.func104, Tryd.ntmps104
  go_wp2_with fail
  go_loopw [4] (fun i wr => ∃ k : Nat, 1 ≤ k ∧ k ≤ s.size ∧ k ≤ 26 ∧ i = .int .i64 k ∧ Hid (∀ j (h : j - 1 < r.length), 1 ≤ j → j < k → r[j - 1]'h ≠ 125) ∧ zV wr w.heap.size ∧ Below w.heap.size w wr) (fun i _ => 26 - (intOf i).toNat)
  case atStart => exact ⟨1, by omega, by omega, by omega, rfl, Lib.hid (fun j _ h1 h2 => absurd h2 (by omega)), hZ, hBa⟩
  case round =>
    obtain ⟨k, hk1, hks, hk, rfl, HJ, hV, hB⟩ := hrel
    by_cases hend : k = s.size ∨ k = 26
    · have ho := HNO.out k (by omega) (fun j h1 h2 ⟨h, e, _⟩ => HJ.out j h h1 h2 e)
      have HT : Hid (OptOk o zI 0) := Lib.hid (by rw [ho]; exact ⟨rfl, rfl⟩)
      clear ho
      obtain ⟨v0, v1, v2, v3, v4, v5⟩ := cells_item hV
      rcases hend with hend | hend
      · have qq : (s.size : Int) ≤ (k : Int) := by omega
        go_wp2_with fail
        have hWz := heap_set3 (a' := .int .i64 0) (b' := .string ⟨#[]⟩) (c' := .int .i64 0) hV
        have hBz := ((hB.setCell (p := ⟨w.heap.size, 0, none⟩) (Nat.le_refl _) (.int .i64 0)).setCell (p := ⟨w.heap.size, 1, none⟩) (Nat.le_refl _) (.string ⟨#[]⟩)).setCell (p := ⟨w.heap.size, 2, none⟩) (Nat.le_refl _) (.int .i64 0)
        generalize (((wr.setCell ⟨w.heap.size, 0, none⟩ (.int .i64 0)).setCell ⟨w.heap.size, 1, none⟩ (.string ⟨#[]⟩)).setCell ⟨w.heap.size, 2, none⟩ (.int .i64 0)) = wz at *
        obtain ⟨z0, z1, z2, _⟩ := cells_item hWz
        (try simp only [Exit.inBlock, Exit.then])
        refine bodyPost_ret (v := .tuple #[.agg #[.int .i64 0, .string ⟨#[]⟩, .int .i64 0], .int .i64 0]) (by simp [results, Tryd.results104, go_sem, z0, z1, z2]; try rfl) rfl ⟨⟨0, ⟨#[]⟩, 0⟩, _, rfl, HT.out, hBz⟩
      · subst hend
        go_wp2_with fail
        all_goals (have hX := hV)
        all_goals (have hWz := heap_set3 (a' := .int .i64 0) (b' := .string ⟨#[]⟩) (c' := .int .i64 0) hV)
        all_goals (have hBz := ((hB.setCell (p := ⟨w.heap.size, 0, none⟩) (Nat.le_refl _) (.int .i64 0)).setCell (p := ⟨w.heap.size, 1, none⟩) (Nat.le_refl _) (.string ⟨#[]⟩)).setCell (p := ⟨w.heap.size, 2, none⟩) (Nat.le_refl _) (.int .i64 0))
        all_goals (generalize (((wr.setCell ⟨w.heap.size, 0, none⟩ (.int .i64 0)).setCell ⟨w.heap.size, 1, none⟩ (.string ⟨#[]⟩)).setCell ⟨w.heap.size, 2, none⟩ (.int .i64 0)) = wz at *)
        all_goals (obtain ⟨z0, z1, z2, _⟩ := cells_item hWz)
        all_goals ((try simp only [Exit.inBlock, Exit.then]))
        all_goals (refine bodyPost_ret (v := .tuple #[.agg #[.int .i64 0, .string ⟨#[]⟩, .int .i64 0], .int .i64 0]) (by simp [results, Tryd.results104, go_sem, z0, z1, z2]; try rfl) rfl ⟨⟨0, ⟨#[]⟩, 0⟩, _, rfl, HT.out, hBz⟩)
    · have hlt : k < s.size := by omega
      have h25 : k ≤ 25 := by omega
      have i0 : (0 : Int) ≤ (k : Int) := by omega
      have i1 : (1 : Int) ≤ (k : Int) := by omega
      have i2 : (k : Int) < (s.size : Int) := by omega
      have i3 : (k : Int) ≤ (s.size : Int) := by omega
      obtain ⟨hkr, hsk⟩ := HB.out k hk1 hlt
      have hcut := HC.out k hk1
      have hstep : r[k - 1] ≠ 125 → Hid (∀ j (h : j - 1 < r.length), 1 ≤ j → j < k + 1 → r[j - 1]'h ≠ 125) := fun hn => Lib.hid fun j h h1 h2 => by
        by_cases e : j = k
        · subst e; exact hn
        · exact HJ.out j h h1 (by omega)
      by_cases hc : r[k - 1] = 125
      · have q : ((s[k].toNat : Int) == 125) = true := by rw [hsk, hc]; rfl
        have hn := fun W => HN.out (s.extract 1 k) W (by unfold maxLen; simp; omega)
        cases hB0 : isNm (s.extract 1 k)
        · rw [hB0] at hn
          have ho := slp_break hk1 hkr hc HJ.out (by rw [← hcut]; exact hB0)
          have HT : Hid (OptOk o zI 0) := Lib.hid (by rw [← HGO.out, ho]; exact ⟨rfl, rfl⟩)
          have HN2 := Lib.hid hn
          clear hn hB0 hstep hcut hsk ho
          obtain ⟨v0, v1, v2, v3, v4, v5⟩ := cells_item hV
          go_wp2_with fail
          refine (HN2.out _).mono ?_; rintro e w1 ⟨rfl, rfl⟩
          go_wp2_with fail
          have hWz := heap_set3 (a' := .int .i64 0) (b' := .string ⟨#[]⟩) (c' := .int .i64 0) hV
          have hBz := ((hB.setCell (p := ⟨w.heap.size, 0, none⟩) (Nat.le_refl _) (.int .i64 0)).setCell (p := ⟨w.heap.size, 1, none⟩) (Nat.le_refl _) (.string ⟨#[]⟩)).setCell (p := ⟨w.heap.size, 2, none⟩) (Nat.le_refl _) (.int .i64 0)
          generalize (((wr.setCell ⟨w.heap.size, 0, none⟩ (.int .i64 0)).setCell ⟨w.heap.size, 1, none⟩ (.string ⟨#[]⟩)).setCell ⟨w.heap.size, 2, none⟩ (.int .i64 0)) = wz at *
          obtain ⟨z0, z1, z2, _⟩ := cells_item hWz
          (try simp only [Exit.inBlock, Exit.then])
          refine bodyPost_ret (v := .tuple #[.agg #[.int .i64 0, .string ⟨#[]⟩, .int .i64 0], .int .i64 0]) (by simp [results, Tryd.results104, go_sem, z0, z1, z2]; try rfl) rfl ⟨⟨0, ⟨#[]⟩, 0⟩, _, rfl, HT.out, hBz⟩
        · rw [hB0] at hn
          have ho := HYES.out k hk1 ⟨hkr, hc, by rw [← hcut]; exact hB0⟩
          rw [← hcut] at ho
          have HT : Hid (OptOk o ⟨5, s.extract 1 k, 0⟩ (k + 1)) := Lib.hid (by rw [ho]; exact ⟨rfl, rfl⟩)
          have HN2 := Lib.hid hn
          clear hn hB0 hstep hcut hsk ho
          go_wp2_with fail
          refine (HN2.out _).mono ?_; rintro e w1 ⟨rfl, rfl⟩
          obtain ⟨v0, v1, v2, v3, v4, v5⟩ := cells_item hV
          go_wp2_with fail
          have hWz := heap_set3 (a' := .int .i64 5) (b' := .string (s.extract 1 k)) (c' := .int .i64 0) hV
          have hBz := ((hB.setCell (p := ⟨w.heap.size, 0, none⟩) (Nat.le_refl _) (.int .i64 5)).setCell (p := ⟨w.heap.size, 1, none⟩) (Nat.le_refl _) (.string (s.extract 1 k))).setCell (p := ⟨w.heap.size, 2, none⟩) (Nat.le_refl _) (.int .i64 0)
          generalize (((wr.setCell ⟨w.heap.size, 0, none⟩ (.int .i64 5)).setCell ⟨w.heap.size, 1, none⟩ (.string (s.extract 1 k))).setCell ⟨w.heap.size, 2, none⟩ (.int .i64 0)) = wz at *
          obtain ⟨z0, z1, z2, _⟩ := cells_item hWz
          (try simp only [Exit.inBlock, Exit.then])
          refine bodyPost_ret (v := .tuple #[.agg #[.int .i64 5, .string (s.extract 1 k), .int .i64 0], .int .i64 ((k + 1 : Nat) : Int)]) (by simp [results, Tryd.results104, go_sem, z0, z1, z2]; try rfl) rfl ⟨⟨5, (s.extract 1 k), 0⟩, _, rfl, HT.out, hBz⟩
      · have q : ((s[k].toNat : Int) == 125) = false := by rw [hsk]; exact u8_int_ne hc
        have HZ := hstep hc
        clear hstep hcut hsk
        go_wp2_with fail
        go_roundw
        case rel => exact ⟨k + 1, by omega, hlt, by omega, by go_num, HZ, hV, hB⟩
        case measure => simp [intOf]; omega
set_option maxHeartbeats 1600000 in
theorem reftext_any (c : UInt8) (w : World) : Calls Tryd.prog 103 #[.int .u8 (c.toNat : Int)] w fun e w' => e = .returned (xv (bT c)) ∧ Below w.heap.size w w' := by
  have b0 : (0 : Int) ≤ (c.toNat : Int) := by omega
  have b1 : (c.toNat : Int) ≤ 255 := by have := c.toNat_lt; omega
  have hcv := rconv_byte2 w c (.cells #[.int .i64 0, .string ⟨#[]⟩, .int .i64 0] 58) (w.heap.size + 1) (by simp)
  go_enter Tryd.func103, Tryd.ntmps103
  go_wp2_with fail
  have hW := heap_set3 (a' := .int .i64 1) (b' := .string ⟨#[c]⟩) (c' := .int .i64 0) (heap_alloc_new w (.cells #[.int .i64 0, .string ByteArray.empty, .int .i64 0] 58))
  have hN := heap_alloc_new w (.cells #[.int .i64 1, .string ⟨#[c]⟩, .int .i64 0] 58)
  have hN2 := (Lib.alloc_old (w.alloc (.cells #[.int .i64 1, .string ⟨#[c]⟩, .int .i64 0] 58)) (.cells #[.int .u8 (c.toNat : Int)] 5) w.heap.size (by simp)).trans hN
  obtain ⟨z0, z1, z2, _⟩ := cells_item hN2
  (try simp only [Exit.inBlock, Exit.then])
  refine bodyPost_ret (v := .agg #[.int .i64 1, .string ⟨#[c]⟩, .int .i64 0]) (by simp [results, Tryd.results103, go_sem, z0, z1, z2]; try rfl) rfl ⟨rfl, blw (blw (Below.refl _ _) _) _⟩
end Go.Proofs.YteaciofacmbllaaDoor
namespace Go.Proofs.YteaciofacmbllaaDoor
open Go.ChangeShapes Go.WideShapes Go.ChangeAt Go.RowKit
set_option linter.unusedVariables false
set_option linter.unusedSimpArgs false
set_option maxRecDepth 100000

/-- What an element's reader answers: an item, a continuation (no item), or nothing. -/
def ElX (o : Option (Option It × Nat)) (x : It) (n : Nat) : Prop := match o with | none => x = zI ∧ n = 0 | some (none, k) => x = zI ∧ n = k | some (some y, k) => x = y ∧ n = k
theorem first_byte {s : ByteArray} {c : UInt8} {r : List UInt8} (hl : s.data.toList = c :: r) : ∃ h : 0 < s.size, s[0]'h = c := by
  have hsz : s.data.toList.length = s.size := by simp
  have hp : 0 < s.size := by rw [← hsz, hl]; simp
  refine ⟨hp, ?_⟩
  have : s.data.toList[0]'(by rw [hsz]; exact hp) = c := by simp only [hl]; rfl
  rw [← this]; simp; rfl
theorem begins_any (s : ByteArray) (a b : UInt8) (w : World) (hs : s.size ≤ 1000000000000) :
    Calls Tryd.prog 63 #[.string s, .string ⟨#[a, b]⟩] w fun e w' => e = .returned (.bool (twoB a b s.data.toList)) ∧ w = w' := by
  by_cases h2 : 2 ≤ s.size
  · have hl : s.data.toList.length = s.size := by simp
    obtain ⟨c, d, t, hl2⟩ : ∃ c d t, s.data.toList = c :: d :: t := by
      cases h : s.data.toList with
      | nil => rw [h] at hl; simp at hl; omega
      | cons c r =>
        cases r with
        | nil => rw [h] at hl; simp at hl; omega
        | cons d t => exact ⟨c, d, t, rfl⟩
    have he : (s.extract 0 2).toList = [c, d] := by
      rw [Go.ByteArray.toList_eq, show (s.extract 0 2).data.toList = (s.data.toList.drop 0).take (2 - 0) from by simp [ByteArray.extract, ByteArray.copySlice], hl2]; rfl
    have hb : (⟨#[a, b]⟩ : ByteArray).toList = [a, b] := by rw [Go.ByteArray.toList_eq]
    have hr : twoB a b s.data.toList = decide (c = a ∧ d = b) := by
      rw [hl2]; unfold twoB; simp [Bool.decide_and]
    have H2 : (2 : Int) ≤ (s.size : Int) := by omega
    rw [hr]
    have HE := Lib.hid he
    clear hr he hb hl2 hl
    go_enter Tryd.func63, Tryd.ntmps63
    go_wp2
    all_goals go_ret
    all_goals exact ⟨ret_bool (by rw [HE.out, Bool.eq_iff_iff]; simp), rfl⟩
  · have hr : twoB a b s.data.toList = false := by
      unfold twoB
      have hl : s.data.toList.length = s.size := by simp
      cases h : s.data.toList with
      | nil => simp
      | cons c r =>
        cases r with
        | nil => simp
        | cons d t => rw [h] at hl; simp at hl; omega
    have H2 : ¬ (2 : Int) ≤ (s.size : Int) := by omega
    rw [hr]
    clear hr
    go_enter Tryd.func63, Tryd.ntmps63
    go_wp2
    all_goals go_ret
    all_goals exact ⟨rfl, rfl⟩
theorem txt34 (w : World) : Calls Tryd.prog 103 #[.int .u8 34] w fun e w' => e = .returned (.agg #[.int .i64 1, .string ⟨#[34]⟩, .int .i64 0]) ∧ Below w.heap.size w w' := reftext_any 34 w
theorem txt123 (w : World) : Calls Tryd.prog 103 #[.int .u8 123] w fun e w' => e = .returned (.agg #[.int .i64 1, .string ⟨#[123]⟩, .int .i64 0]) ∧ Below w.heap.size w w' := reftext_any 123 w
set_option maxHeartbeats 3200000 in
theorem refel_text (s : ByteArray) (c : UInt8) (r : List UInt8) (w : World) (hl : s.data.toList = c :: r) (h1 : c ≠ 34) (h2 : c ≠ 123) (hs : s.size ≤ 1000000000000) :
    Calls Tryd.prog 84 #[.string s] w (EndX (ElX (elS s.data.toList)) w) := by
  obtain ⟨hp, h0⟩ := first_byte hl
  have q34 : (((s[0]'hp).toNat : Int) == 34) = false := by rw [h0]; exact u8_int_ne h1
  have q123 : (((s[0]'hp).toNat : Int) == 123) = false := by rw [h0]; exact u8_int_ne h2
  have HT : Hid (ElX (elS s.data.toList) (bT c) 1) := Lib.hid (by rw [hl, elS_text c r h1 h2]; exact ⟨rfl, rfl⟩)
  have ht := fun W => reftext_any (s[0]'hp) W
  rw [h0] at ht
  unfold xv at ht
  dsimp only [bT] at ht
  have HX := Lib.hid ht
  have hsc : ((s[0]'hp).toNat : Int) = (c.toNat : Int) := by rw [h0]
  have HSC := Lib.hid hsc
  have hZ := zV.new w
  have hBa := blw (Below.refl w.heap.size w) (.cells #[.int .i64 0, .string ByteArray.empty, .int .i64 0] 58)
  clear hl h0 ht h1 h2 hsc
  go_enter Tryd.func84, Tryd.ntmps84
  go_wp2_with fail
  rw [HSC.out]
  refine (HX.out _).mono ?_; rintro e w2 ⟨rfl, hb⟩
  have hV := hZ.call hb
  have hB := BelowOn hBa hb
  obtain ⟨v0, v1, v2, v3, v4, v5⟩ := cells_item hV
  go_wp2_with fail
  have hWz := heap_set3 (a' := .int .i64 1) (b' := .string ⟨#[c]⟩) (c' := .int .i64 0) hV
  have hBz := ((hB.setCell (p := ⟨w.heap.size, 0, none⟩) (Nat.le_refl _) (.int .i64 1)).setCell (p := ⟨w.heap.size, 1, none⟩) (Nat.le_refl _) (.string ⟨#[c]⟩)).setCell (p := ⟨w.heap.size, 2, none⟩) (Nat.le_refl _) (.int .i64 0)
  generalize (((w2.setCell ⟨w.heap.size, 0, none⟩ (.int .i64 1)).setCell ⟨w.heap.size, 1, none⟩ (.string ⟨#[c]⟩)).setCell ⟨w.heap.size, 2, none⟩ (.int .i64 0)) = wz at *
  obtain ⟨z0, z1, z2, _⟩ := cells_item hWz
  (try simp only [Exit.inBlock, Exit.then])
  refine bodyPost_ret (v := .tuple #[.agg #[.int .i64 1, .string ⟨#[c]⟩, .int .i64 0], .int .i64 1]) (by simp [results, Tryd.results84, go_sem, z0, z1, z2]; try rfl) rfl ⟨⟨1, ⟨#[c]⟩, 0⟩, 1, rfl, HT.out, hBz⟩
set_option maxHeartbeats 3200000 in
theorem refel_two34 (s : ByteArray) (r : List UInt8) (w : World) (hl : s.data.toList = 34 :: 34 :: r) (hs : s.size ≤ 1000000000000) :
    Calls Tryd.prog 84 #[.string s] w (EndX (ElX (elS s.data.toList)) w) := by
  obtain ⟨hp, h0⟩ := first_byte hl
  have q34 : (((s[0]'hp).toNat : Int) == 34) = true := by rw [h0]; rfl
  have HT : Hid (ElX (elS s.data.toList) (bT 34) 2) := Lib.hid (by rw [hl, elS_34]; exact ⟨rfl, rfl⟩)
  have hbg := fun W => begins_any s 34 34 W hs
  rw [show twoB 34 34 s.data.toList = true from by rw [hl]; exact twoB_yes 34 34 _ rfl] at hbg
  have HB := Lib.hid hbg
  have hZ := zV.new w
  have hBa := blw (Below.refl w.heap.size w) (.cells #[.int .i64 0, .string ByteArray.empty, .int .i64 0] 58)
  clear hl h0 hbg
  go_enter Tryd.func84, Tryd.ntmps84
  go_wp2_with fail
  refine (HB.out _).mono ?_; rintro e w1 ⟨rfl, rfl⟩
  go_wp2_with fail
  refine (txt34 _).mono ?_; rintro e w2 ⟨rfl, hb⟩
  have hV := hZ.call hb
  have hB := BelowOn hBa hb
  obtain ⟨v0, v1, v2, v3, v4, v5⟩ := cells_item hV
  go_wp2_with fail
  have hWz := heap_set3 (a' := .int .i64 1) (b' := .string ⟨#[34]⟩) (c' := .int .i64 0) hV
  have hBz := ((hB.setCell (p := ⟨w.heap.size, 0, none⟩) (Nat.le_refl _) (.int .i64 1)).setCell (p := ⟨w.heap.size, 1, none⟩) (Nat.le_refl _) (.string ⟨#[34]⟩)).setCell (p := ⟨w.heap.size, 2, none⟩) (Nat.le_refl _) (.int .i64 0)
  generalize (((w2.setCell ⟨w.heap.size, 0, none⟩ (.int .i64 1)).setCell ⟨w.heap.size, 1, none⟩ (.string ⟨#[34]⟩)).setCell ⟨w.heap.size, 2, none⟩ (.int .i64 0)) = wz at *
  obtain ⟨z0, z1, z2, _⟩ := cells_item hWz
  (try simp only [Exit.inBlock, Exit.then])
  refine bodyPost_ret (v := .tuple #[.agg #[.int .i64 1, .string ⟨#[34]⟩, .int .i64 0], .int .i64 2]) (by simp [results, Tryd.results84, go_sem, z0, z1, z2]; try rfl) rfl ⟨⟨1, ⟨#[34]⟩, 0⟩, 2, rfl, HT.out, hBz⟩
set_option maxHeartbeats 3200000 in
theorem refel_two123 (s : ByteArray) (r : List UInt8) (w : World) (hl : s.data.toList = 123 :: 123 :: r) (hs : s.size ≤ 1000000000000) :
    Calls Tryd.prog 84 #[.string s] w (EndX (ElX (elS s.data.toList)) w) := by
  obtain ⟨hp, h0⟩ := first_byte hl
  have q34 : (((s[0]'hp).toNat : Int) == 34) = false := by rw [h0]; rfl
  have q123 : (((s[0]'hp).toNat : Int) == 123) = true := by rw [h0]; rfl
  have HT : Hid (ElX (elS s.data.toList) (bT 123) 2) := Lib.hid (by rw [hl, elS_123]; exact ⟨rfl, rfl⟩)
  have hbg := fun W => begins_any s 123 123 W hs
  rw [show twoB 123 123 s.data.toList = true from by rw [hl]; exact twoB_yes 123 123 _ rfl] at hbg
  have HB := Lib.hid hbg
  have hZ := zV.new w
  have hBa := blw (Below.refl w.heap.size w) (.cells #[.int .i64 0, .string ByteArray.empty, .int .i64 0] 58)
  clear hl h0 hbg
  go_enter Tryd.func84, Tryd.ntmps84
  go_wp2_with fail
  refine (HB.out _).mono ?_; rintro e w1 ⟨rfl, rfl⟩
  go_wp2_with fail
  refine (txt123 _).mono ?_; rintro e w2 ⟨rfl, hb⟩
  have hV := hZ.call hb
  have hB := BelowOn hBa hb
  obtain ⟨v0, v1, v2, v3, v4, v5⟩ := cells_item hV
  go_wp2_with fail
  have hWz := heap_set3 (a' := .int .i64 1) (b' := .string ⟨#[123]⟩) (c' := .int .i64 0) hV
  have hBz := ((hB.setCell (p := ⟨w.heap.size, 0, none⟩) (Nat.le_refl _) (.int .i64 1)).setCell (p := ⟨w.heap.size, 1, none⟩) (Nat.le_refl _) (.string ⟨#[123]⟩)).setCell (p := ⟨w.heap.size, 2, none⟩) (Nat.le_refl _) (.int .i64 0)
  generalize (((w2.setCell ⟨w.heap.size, 0, none⟩ (.int .i64 1)).setCell ⟨w.heap.size, 1, none⟩ (.string ⟨#[123]⟩)).setCell ⟨w.heap.size, 2, none⟩ (.int .i64 0)) = wz at *
  obtain ⟨z0, z1, z2, _⟩ := cells_item hWz
  (try simp only [Exit.inBlock, Exit.then])
  refine bodyPost_ret (v := .tuple #[.agg #[.int .i64 1, .string ⟨#[123]⟩, .int .i64 0], .int .i64 2]) (by simp [results, Tryd.results84, go_sem, z0, z1, z2]; try rfl) rfl ⟨⟨1, ⟨#[123]⟩, 0⟩, 2, rfl, HT.out, hBz⟩
set_option maxHeartbeats 3200000 in
theorem refel_q (s : ByteArray) (r : List UInt8) (w : World) (hl : s.data.toList = 34 :: r) (hn : r.head? ≠ some 34) (hs : s.size ≤ 1000000000000) :
    Calls Tryd.prog 84 #[.string s] w (EndX (ElX (elS s.data.toList)) w) := by
  obtain ⟨hp, h0⟩ := first_byte hl
  have q34 : (((s[0]'hp).toNat : Int) == 34) = true := by rw [h0]; rfl
  have HT : Hid (ElX (elS s.data.toList) zI 0) := Lib.hid (by rw [hl, elS_34n r hn]; exact ⟨rfl, rfl⟩)
  have hbg := fun W => begins_any s 34 34 W hs
  rw [show twoB 34 34 s.data.toList = false from by rw [hl]; exact twoB_no2 34 34 _ _ hn] at hbg
  have HB := Lib.hid hbg
  have hN := heap_alloc_new w (.cells #[.int .i64 0, .string ⟨#[]⟩, .int .i64 0] 58)
  obtain ⟨z0, z1, z2, _⟩ := cells_item hN
  clear hl h0 hbg
  go_enter Tryd.func84, Tryd.ntmps84
  go_wp2_with fail
  refine (HB.out _).mono ?_; rintro e w1 ⟨rfl, rfl⟩
  go_wp2_with fail
  (try simp only [Exit.inBlock, Exit.then])
  refine bodyPost_ret (v := .tuple #[.agg #[.int .i64 0, .string ⟨#[]⟩, .int .i64 0], .int .i64 0]) (by simp [results, Tryd.results84, go_sem, z0, z1, z2]; try rfl) rfl ⟨⟨0, ⟨#[]⟩, 0⟩, _, rfl, HT.out, blw (Below.refl _ _) _⟩
set_option maxHeartbeats 3200000 in
theorem refel_slot (s : ByteArray) (r : List UInt8) (w : World) (hl : s.data.toList = 123 :: r) (hn : r.head? ≠ some 123) (hs : s.size ≤ 1000000000000) :
    Calls Tryd.prog 84 #[.string s] w (EndX (ElX (elS s.data.toList)) w) := by
  obtain ⟨hp, h0⟩ := first_byte hl
  have q34 : (((s[0]'hp).toNat : Int) == 34) = false := by rw [h0]; rfl
  have q123 : (((s[0]'hp).toNat : Int) == 123) = true := by rw [h0]; rfl
  have ht := fun W => refslot_any s r W hl hs
  unfold EndX at ht
  have hT : ∀ x n, OptOk (rdSlot r) x n → ElX (elS s.data.toList) x n := fun x n h => by
    rw [hl, elS_slotR r hn]
    cases ho : rdSlot r with
    | none => rw [ho] at h; exact h
    | some y => rw [ho] at h; exact h
  have hbg := fun W => begins_any s 123 123 W hs
  rw [show twoB 123 123 s.data.toList = false from by rw [hl]; exact twoB_no2 123 123 _ _ hn] at hbg
  have HB := Lib.hid hbg
  have HX := Lib.hid ht; have HT := Lib.hid hT
  have hZ := zV.new w
  have hBa := blw (Below.refl w.heap.size w) (.cells #[.int .i64 0, .string ByteArray.empty, .int .i64 0] 58)
  clear hl h0 ht hT hbg hn
  go_enter Tryd.func84, Tryd.ntmps84
  go_wp2_with fail
  refine (HB.out _).mono ?_; rintro e w1 ⟨rfl, rfl⟩
  go_wp2_with fail
  refine (HX.out _).mono ?_; rintro e w2 ⟨x, n, rfl, ho, hb⟩
  have hV := hZ.call hb
  have hB := BelowOn hBa hb
  obtain ⟨v0, v1, v2, v3, v4, v5⟩ := cells_item hV
  go_wp2_with fail
  have hWz := heap_set3 (a' := .int .i64 x.k) (b' := .string x.t) (c' := .int .i64 x.id) hV
  have hBz := ((hB.setCell (p := ⟨w.heap.size, 0, none⟩) (Nat.le_refl _) (.int .i64 x.k)).setCell (p := ⟨w.heap.size, 1, none⟩) (Nat.le_refl _) (.string x.t)).setCell (p := ⟨w.heap.size, 2, none⟩) (Nat.le_refl _) (.int .i64 x.id)
  generalize (((w2.setCell ⟨w.heap.size, 0, none⟩ (.int .i64 x.k)).setCell ⟨w.heap.size, 1, none⟩ (.string x.t)).setCell ⟨w.heap.size, 2, none⟩ (.int .i64 x.id)) = wz at *
  obtain ⟨z0, z1, z2, _⟩ := cells_item hWz
  (try simp only [Exit.inBlock, Exit.then])
  refine bodyPost_ret (v := .tuple #[.agg #[.int .i64 x.k, .string x.t, .int .i64 x.id], .int .i64 n]) (by simp [results, Tryd.results84, go_sem, z0, z1, z2]; try rfl) rfl ⟨x, n, rfl, HT.out x n ho, hBz⟩
end Go.Proofs.YteaciofacmbllaaDoor
namespace Go.Proofs.YteaciofacmbllaaDoor
open Go.ChangeShapes Go.WideShapes Go.ChangeAt Go.RowKit
set_option linter.unusedVariables false
set_option linter.unusedSimpArgs false
set_option maxRecDepth 100000

theorem refsheet_any (s : ByteArray) (w : World) (hp : 0 < s.size) (hs : s.size ≤ 1000000000000) :
    Calls Tryd.prog 84 #[.string s] w (EndX (ElX (elS s.data.toList)) w) := by
  cases hl : s.data.toList with
  | nil => exact absurd (show s.size = 0 by rw [show s.size = s.data.toList.length by simp, hl]; rfl) (by omega)
  | cons c r =>
    rw [← hl]
    by_cases h1 : c = 34
    · subst h1
      by_cases h : r.head? = some 34
      · cases r with
        | nil => cases h
        | cons d t => injection h with h; subst h; exact refel_two34 s t w hl hs
      · exact refel_q s r w hl h hs
    by_cases h2 : c = 123
    · subst h2
      by_cases h : r.head? = some 123
      · cases r with
        | nil => cases h
        | cons d t => injection h with h; subst h; exact refel_two123 s t w hl hs
      · exact refel_slot s r w hl h hs
    exact refel_text s c r w hl h1 h2 hs
set_option maxHeartbeats 1600000 in
theorem refelement_any (s : ByteArray) (w : World) (hp : 0 < s.size) (hs : s.size ≤ 1000000000000) :
    Calls Tryd.prog 42 #[.int .i64 3, .string s] w (EndX (ElX (elS s.data.toList)) w) := by
  have ht := fun W => refsheet_any s W hp hs
  unfold EndX at ht
  have HX := Lib.hid ht
  have hZ := zV.new w
  have hBa := blw (Below.refl w.heap.size w) (.cells #[.int .i64 0, .string ByteArray.empty, .int .i64 0] 58)
  clear ht
  generalize elS s.data.toList = o at *
  go_enter Tryd.func42, Tryd.ntmps42
  go_wp2_with fail
  refine (HX.out _).mono ?_; rintro e w2 ⟨x, n, rfl, ho, hb⟩
  have hV := hZ.call hb
  have hB := BelowOn hBa hb
  obtain ⟨v0, v1, v2, v3, v4, v5⟩ := cells_item hV
  go_wp2_with fail
  have hWz := heap_set3 (a' := .int .i64 x.k) (b' := .string x.t) (c' := .int .i64 x.id) hV
  have hBz := ((hB.setCell (p := ⟨w.heap.size, 0, none⟩) (Nat.le_refl _) (.int .i64 x.k)).setCell (p := ⟨w.heap.size, 1, none⟩) (Nat.le_refl _) (.string x.t)).setCell (p := ⟨w.heap.size, 2, none⟩) (Nat.le_refl _) (.int .i64 x.id)
  generalize (((w2.setCell ⟨w.heap.size, 0, none⟩ (.int .i64 x.k)).setCell ⟨w.heap.size, 1, none⟩ (.string x.t)).setCell ⟨w.heap.size, 2, none⟩ (.int .i64 x.id)) = wz at *
  obtain ⟨z0, z1, z2, _⟩ := cells_item hWz
  (try simp only [Exit.inBlock, Exit.then])
  refine bodyPost_ret (v := .tuple #[.agg #[.int .i64 x.k, .string x.t, .int .i64 x.id], .int .i64 n]) (by simp [results, Tryd.results42, go_sem, z0, z1, z2]; try rfl) rfl ⟨x, n, rfl, ho, hBz⟩
end Go.Proofs.YteaciofacmbllaaDoor
namespace Go.Proofs.YteaciofacmbllaaDoor
open Go.ChangeShapes Go.WideShapes Go.ChangeAt Go.RowKit
set_option linter.unusedVariables false
set_option linter.unusedSimpArgs false
set_option maxRecDepth 100000

/-- append of a number to numbers that the call owns; what lies in other blocks stays. -/
theorem wpl_appendN (w : World) {ops : Array Oper} {rest : List Oper} {o : Oper} {a : Act} {Q : Exit → Act → World → Prop} (hg : o.guard = none) (s x : Operand)
    (ho : o.op = .call { callee := .builtin .append, args := #[s, x], argTypes := #[32, 32] }) (w0 : World) (L : List Int) (v : Value) (hs : a.eval s = v) (h : Acc 3 1 nenc w0 L v w) (y : Int) (B : Nat) (cs : Array Value)
    (hx : a.eval x = .slice (some ⟨B, 0, none⟩) 1 1) (hB : w.heap[B]? = some (.cells cs 3 (0, 0))) (hcs : cs.toList = nenc y) (hlen : (L.length + 1) * 8 ≤ 140737488355328) (hlen' : L.length + 1 ≤ maxLen)
    (hK : ∀ v' w', Acc 3 1 nenc w0 (L ++ [y]) v' w' → w.grownBy w' v.ownBlock → (∀ k, k < w.heap.size → v.ownBlock ≠ some k → v'.ownBlock ≠ some k) → wpList Tryd.prog ops Q rest (a.put o.dst v') w') : wpList Tryd.prog ops Q (o :: rest) a w := by
  obtain ⟨i, hi, hz0, hz1, hz2⟩ := eN.hi
  refine wpList_append_lies w hg s x 32 ho w0.heap.size 3 i (.int .i64 0) 1 8 eN.ht hi hz0 hz1 hz2 eN.hzs eN.hsz v L.length (cellsOf nenc L) hs h.own ⟨B, 0, none⟩ 1 1 (nenc y) hx (by rw [eN.len]) ?_ (eN.one y) (by omega) hlen' hlen h.below.size _ rfl ?_
  · rw [← hcs]; exact World.news_of_block hB
  · intro g cap w' h2 h3 h4 h5
    have hown : OwnL 3 1 nenc w0.heap.size (L ++ [y]) (.slice (some ⟨g, 0, none⟩) (L.length + 1) cap) w' := by
      unfold OwnL; rw [List.length_append, show cellsOf nenc (L ++ [y]) = cellsOf nenc L ++ nenc y from by unfold cellsOf; rw [List.flatMap_append]; simp]; exact h2
    have hbel : Below w0.heap.size w0 w' := h.below.trans ((Below.refl w0.heap.size w).grown h3 h.below.size (fun k hk => (World.ownsRow.lt h.own k hk).1))
    refine hK _ w' ⟨hbel, hown⟩ h3 (fun k hk hne e => ?_)
    have e : g = k := by
      have : (Value.slice (some (⟨g, 0, none⟩ : Addr)) (L.length + 1) cap).ownBlock = some g := rfl
      rw [this] at e; injection e
    rcases h4 with h4 | h4
    · exact hne (by rw [h4, e])
    · omega
theorem elS_flat {s : List UInt8} {x : It} {n : Nat} (h : elS s = some (some x, n)) : Flat x := by
  rcases elS_some h with ⟨u, v, _, _, _, e, _⟩ | ⟨c, t, _, _, e, _⟩ | ⟨c, t, _, _, _, e, _⟩
  · injection e with e; subst e; exact .inr rfl
  · injection e with e; subst e; exact .inl rfl
  · injection e with e; subst e; exact .inl rfl
theorem ext_rest (s : ByteArray) (p : Nat) : (s.extract p s.size).data.toList = s.data.toList.drop p := by rw [extract_drop, bsL_list]
/-- The reference's Decode answers: the fragment, the cuts, the offset of an error, the error. -/
def EndR7 (R : List It × List Nat × Nat × Int) (w : World) (e : Ending) (w' : World) : Prop := ∃ pf cf pc cc, e = .returned (.tuple #[.slice pf R.1.length cf, .slice pc R.2.1.length cc, .int .i64 (R.2.2.1 : Nat), .int .i64 R.2.2.2]) ∧ R.1.length ≤ cf ∧ cf ≤ maxLen ∧ Its w' pf R.1 ∧ R.2.1.length ≤ cc ∧ cc ≤ maxLen ∧ Ones w' (Value.int .i64) pc (nI R.2.1) ∧ Below w.heap.size w w'
set_option maxHeartbeats 6400000 in
theorem refdecode_any (s : ByteArray) (w : World) (hs : s.size ≤ 1000000000000) : Calls Tryd.prog 19 #[.int .i64 3, .string s] w (EndR7 (dec elS s.data.toList) w) := by
  obtain ⟨R, hR⟩ : ∃ R, dec elS s.data.toList = R := ⟨_, rfl⟩
  have hR0 : decG elS [] [] 0 0 (s.data.toList.drop 0) = R := hR
  have hno : ∀ (p : Nat) (z : Int) w', R = ([], [], p, z) → Below w.heap.size w w' → EndR7 R w (.returned (.tuple #[.slice none 0 0, .slice none 0 0, .int .i64 p, .int .i64 z])) w' := fun p z w' h hb => ⟨none, 0, none, 0, by rw [h]; rfl, by rw [h]; exact Nat.le_refl _, Nat.zero_le _, by rw [h]; exact Its.nil _ _, by rw [h]; exact Nat.le_refl _, Nat.zero_le _, by rw [h]; exact fun h0 => (by cases h0), hb⟩
  have hel := fun p (hp : p < s.size) W => refelement_any (s.extract p s.size) W (by simp; omega) (by simp; omega)
  simp only [ext_rest] at hel
  rw [hR]
  have HEL := Lib.hid hel; have HNO := Lib.hid hno; have HR0 := Lib.hid hR0
  clear hel hno hR hR0
  go_enter Tryd.func19, Tryd.ntmps19
  go_wp2_with fail
  go_loopw [8, 9, 10, 11, 12] (fun v oo vc i dd wr => ∃ (f : List It) (cs : List Nat) (p d : Nat) (pf : Option Addr) (cf : Nat), p ≤ s.size ∧ d ≤ p ∧ i = .int .i64 p ∧ dd = .int .i64 d ∧ v = .slice pf f.length cf ∧ oo = .slice none 0 0 ∧ f.length ≤ cf ∧ cf ≤ maxLen ∧ Its wr pf f ∧ Acc 3 1 nenc w (nI cs) vc wr ∧ Hid (∀ a, pf = some a → vc.ownBlock ≠ some a.block) ∧ Hid (decG elS f cs p d (s.data.toList.drop p) = R) ∧ Hid (norm f = f) ∧ f.length ≤ 512 ∧ cs.length ≤ 1024 ∧ txtI f ≤ 1024 * cs.length) (fun _ _ _ i _ _ => s.size - (intOf i).toNat)
  case atStart => exact ⟨[], [], 0, 0, none, 0, Nat.zero_le _, Nat.le_refl _, rfl, rfl, rfl, rfl, Nat.le_refl _, Nat.zero_le _, Its.nil _ _, Acc.start _, Lib.hid (fun a h => by cases h), HR0, Lib.hid rfl, by simp, by simp, Nat.zero_le _⟩
  case round =>
    obtain ⟨f, cs, p, d, pf, cf, hp, hdp, rfl, rfl, rfl, rfl, hfc, hcm, hI, hA, HSEP, HG, HNF, hf1, hc1, htx⟩ := hrel
    by_cases hlt : p < s.size
    · have hne : s.data.toList.drop p ≠ [] := fun e => by have := congrArg List.length e; simp at this; omega
      have hel := fun W => HEL.out p hlt W
      have i0 : (0 : Int) ≤ (p : Int) := by omega
      have i1 : (p : Int) ≤ (s.size : Int) := by omega
      have i2 : (p : Int) < (s.size : Int) := by omega
      have hB := hA.below
      cases ho : elS (s.data.toList.drop p) with
      | none =>
        have hg := HG.out
        rw [decG_none elS_ok f cs p d _ hne ho] at hg
        rw [ho] at hel
        have HE := Lib.hid (fun w' hb => HNO.out p 2 w' hg.symm hb)
        have HX := Lib.hid hel
        clear hg ho hel hne
        go_wp2_with fail
        refine (HX.out _).mono ?_; rintro e w1 ⟨x, n, rfl, ⟨rfl, rfl⟩, hb⟩
        have hb2 := BelowOn hB hb
        go_wp2_with fail
        (try simp only [Exit.inBlock, Exit.then])
        refine bodyPost_ret (v := .tuple #[.slice none 0 0, .slice none 0 0, .int .i64 p, .int .i64 2]) (by simp [results, Tryd.results19, go_sem]; try rfl) rfl (HE.out _ (blw hb2 _))
      | some y =>
        obtain ⟨o, k⟩ := y
        obtain ⟨k1, k2⟩ := elS_ok.take _ _ _ ho
        rw [List.length_drop] at k2
        have k2 : p + k ≤ s.size := by simp at k2; omega
        have hk0 : ((k : Int) == 0) = false := by rw [beq_eq_false_iff_ne]; omega
        rw [ho] at hel
        have HX := Lib.hid hel
        cases o with
        | none =>
          have hg := HG.out
          rw [decG_cont elS_ok f cs p d _ ho, List.drop_drop] at hg
          have HG2 := Lib.hid hg
          clear hg ho hel hne HG
          go_wp2_with fail
          refine (HX.out _).mono ?_; rintro e w1 ⟨x, n, rfl, ⟨hxx, hnn⟩, hb⟩
          subst hxx
          have hnn : k = n := hnn.symm
          subst hnn
          obtain ⟨v0, v1, v2, v3⟩ := Var3.new w1 0 ByteArray.empty 0
          go_wp2_with fail
          go_roundw
          case rel => exact ⟨f, cs, p + k, d, pf, cf, k2, by omega, by go_num, rfl, rfl, rfl, hfc, hcm, (hI.call hb).call (blw (Below.refl _ _) _), (hA.call hb).alloc _, HSEP, HG2, HNF, hf1, hc1, htx⟩
          case measure => simp [intOf]; omega
        | some x =>
          have hone := elS_ok.one _ _ _ ho
          have hfl := elS_flat ho
          obtain ⟨hxt, hx0⟩ := one_small hone
          obtain ⟨g, hg⟩ : ∃ g, normS f x = g := ⟨_, rfl⟩
          have hnf : norm (f ++ [x]) = g := by rw [norm_snoc, HNF.out, hg]
          have HCI := Lib.hid (fun W q (h1 : Its W pf f) (h2 : Its W q [x]) => (by have hh := rconcat_any pf q cf 1 f [x] W h1 h2 (by simp; omega) (by show txtI f + (x.t.size + 0) ≤ _; omega); rw [hnf] at hh; exact hh : Calls Tryd.prog 26 #[.slice pf f.length cf, .slice q 1 1] W (EndI g W)))
          have hgt : txtI g ≤ 1024 * (cs.length + 1) := by
            have := txt_norm f x
            rw [hg] at this
            omega
          have HNG := Lib.hid (show norm g = g by rw [← hnf, norm_norm])
          have HMO := Lib.hid (fun (a : g.length ≤ 512) (b : cs.length < 1024) => (by
            have h1 := decG_more elS_ok f cs p d _ ho (by rw [hg]; exact a) b
            rw [List.drop_drop, hg] at h1
            exact h1.symm.trans HG.out : decG elS g (cs ++ [d]) (p + k) (p + k) (s.data.toList.drop (p + k)) = R))
          have HFU := Lib.hid (fun (a : 512 < g.length ∨ 1024 ≤ cs.length) w' hb => (by
            have h1 := decG_full elS_ok f cs p d _ ho (by rw [hg]; exact a)
            exact HNO.out p 3 w' (HG.out.symm.trans h1) hb : EndR7 R w (.returned (.tuple #[.slice none 0 0, .slice none 0 0, .int .i64 p, .int .i64 3])) w'))
          have q0 : (x.k == 0) = false := by rw [beq_eq_false_iff_ne]; exact hx0
          have q2 : (x.k == 2) = false := by rw [beq_eq_false_iff_ne]; rcases hfl with e | e <;> rw [e] <;> decide
          have q4 : (x.k == 4) = false := by rw [beq_eq_false_iff_ne]; rcases hfl with e | e <;> rw [e] <;> decide
          have q3 : (x.k == 3) = false := by rw [beq_eq_false_iff_ne]; rcases hfl with e | e <;> rw [e] <;> decide
          have V := Lib.hid (fun (W : World) => Var3.new W x.k x.t x.id)
          have HI1 := Lib.hid (fun (W : World) => (by have := its_one (x := x) (heap_alloc_new (W.alloc (.cells #[.int .i64 x.k, .string x.t, .int .i64 x.id] 58)) (.cells #[.int .i64 x.k, .string x.t, .int .i64 x.id] 58)); simpa using this : Its ((W.alloc (.cells #[.int .i64 x.k, .string x.t, .int .i64 x.id] 58)).alloc (.cells #[.int .i64 x.k, .string x.t, .int .i64 x.id] 58)) (some ⟨W.heap.size + 1, 0, none⟩) [x]))
          obtain ⟨pc, cc, hvc, hcc, hcm2, hIc⟩ := hA.own.ints
          rw [nI_len] at hvc hcc
          subst hvc
          have hkk : (k : Int) ≤ (s.size : Int) := by omega
          clear hg hnf ho hel hne HG hone hfl hIc HEL HNO HNF
          by_cases a1 : 512 < g.length
          · have HE := Lib.hid (fun w' hb => HFU.out (.inl a1) w' hb)
            have qf : (512 : Int) < (g.length : Int) := by omega
            clear HMO HFU HNG
            go_wp2_with fail
            refine (HX.out _).mono ?_
            rintro e w1 ⟨x', n, rfl, ⟨hxx, hnn⟩, hb⟩
            have hxx : x = x' := hxx.symm
            subst hxx
            have hnn : k = n := hnn.symm
            subst hnn
            obtain ⟨v0, v1, v2, v3⟩ := V.out w1
            go_wp2_with fail
            refine (HCI.out ((w1.alloc (.cells #[.int .i64 x.k, .string x.t, .int .i64 x.id] 58)).alloc (.cells #[.int .i64 x.k, .string x.t, .int .i64 x.id] 58)) (some ⟨w1.heap.size + 1, 0, none⟩) (((hI.call hb).call (blw (Below.refl _ _) _)).call (blw (Below.refl _ _) _)) (HI1.out w1)).mono ?_
            rintro e w5 h5
            obtain ⟨pg, cg, rfl, hgc, hgm, hIg, hb5⟩ := EndI.f h5
            have hb6 := BelowOn (blw (blw (BelowOn hB hb) _) _) hb5
            clear h5 hIg hI hA v0 v1 v2 v3 HSEP
            go_wp2_with fail
            (try simp only [Exit.inBlock, Exit.then])
            refine bodyPost_ret (v := .tuple #[.slice none 0 0, .slice none 0 0, .int .i64 p, .int .i64 3]) (by simp [results, Tryd.results19, go_sem]; try rfl) rfl (HE.out _ hb6)
          by_cases a2 : 1024 ≤ cs.length
          · have HE := Lib.hid (fun w' hb => HFU.out (.inr a2) w' hb)
            have qf : ¬ (512 : Int) < (g.length : Int) := by omega
            have qg : (1024 : Int) ≤ (cs.length : Int) := by omega
            clear HMO HFU HNG
            go_wp2_with fail
            refine (HX.out _).mono ?_
            rintro e w1 ⟨x', n, rfl, ⟨hxx, hnn⟩, hb⟩
            have hxx : x = x' := hxx.symm
            subst hxx
            have hnn : k = n := hnn.symm
            subst hnn
            obtain ⟨v0, v1, v2, v3⟩ := V.out w1
            go_wp2_with fail
            refine (HCI.out ((w1.alloc (.cells #[.int .i64 x.k, .string x.t, .int .i64 x.id] 58)).alloc (.cells #[.int .i64 x.k, .string x.t, .int .i64 x.id] 58)) (some ⟨w1.heap.size + 1, 0, none⟩) (((hI.call hb).call (blw (Below.refl _ _) _)).call (blw (Below.refl _ _) _)) (HI1.out w1)).mono ?_
            rintro e w5 h5
            obtain ⟨pg, cg, rfl, hgc, hgm, hIg, hb5⟩ := EndI.f h5
            have hb6 := BelowOn (blw (blw (BelowOn hB hb) _) _) hb5
            clear h5 hIg hI hA v0 v1 v2 v3 HSEP
            go_wp2_with fail
            (try simp only [Exit.inBlock, Exit.then])
            refine bodyPost_ret (v := .tuple #[.slice none 0 0, .slice none 0 0, .int .i64 p, .int .i64 3]) (by simp [results, Tryd.results19, go_sem]; try rfl) rfl (HE.out _ hb6)
          have q5 : ¬ ((512 : Int) < (g.length : Int)) := by omega
          have q6 : ¬ ((1024 : Int) ≤ (cs.length : Int)) := by omega
          have HM := Lib.hid (HMO.out (by omega) (by omega))
          clear HMO HFU
          go_wp2_with fail
          refine (HX.out _).mono ?_
          rintro e w1 ⟨x', n, rfl, ⟨hxx, hnn⟩, hb⟩
          have hxx : x = x' := hxx.symm
          subst hxx
          have hnn : k = n := hnn.symm
          subst hnn
          obtain ⟨v0, v1, v2, v3⟩ := V.out w1
          go_wp2_with fail
          have hA4 := ((hA.call hb).alloc (.cells #[.int .i64 x.k, .string x.t, .int .i64 x.id] 58)).alloc (.cells #[.int .i64 x.k, .string x.t, .int .i64 x.id] 58)
          refine (HCI.out ((w1.alloc (.cells #[.int .i64 x.k, .string x.t, .int .i64 x.id] 58)).alloc (.cells #[.int .i64 x.k, .string x.t, .int .i64 x.id] 58)) (some ⟨w1.heap.size + 1, 0, none⟩) (((hI.call hb).call (blw (Below.refl _ _) _)).call (blw (Below.refl _ _) _)) (HI1.out w1)).mono ?_
          rintro e w5 ⟨vg, rfl, hAg⟩
          have hA5 := hA4.call hAg.below
          obtain ⟨pg, cg, rfl, hgc, hgm, hIg⟩ := hAg.own.its
          have hadr := OwnL.addr hAg.own
          have hsep : ∀ a, pg = some a → (Value.slice pc cs.length cc).ownBlock ≠ some a.block := fun a ha e => by
            have h1 := (hadr a ha).1
            have h2 := (World.ownsRow.lt hA4.own a.block e).2
            omega
          have hV5 := ((V.out w1).call (blw (Below.refl _ _) (.cells #[.int .i64 x.k, .string x.t, .int .i64 x.id] 58))).call hAg.below
          obtain ⟨y0, y1, y2, y3⟩ := hV5
          have hlt5 : ∀ a, pg = some a → a.block < w5.heap.size := fun a ha => (hadr a ha).2
          have HSP := Lib.hid hsep; have HLT := Lib.hid hlt5
          clear hsep hadr hlt5 hAg HSEP v0 v1 v2 v3 hA4 hI hA hB
          have HA6 := Lib.hid (hA5.alloc (.cells #[.int .i64 (d : Int)] 3))
          have hnl : (nI cs).length = cs.length := nI_len cs
          have HNL := Lib.hid hnl
          have hW6 := blw (Below.refl _ w5) (.cells #[.int .i64 (d : Int)] 3)
          have hIg6 := hIg.call hW6
          have hlt6 : w5.heap.size < (w5.alloc (.cells #[.int .i64 (d : Int)] 3)).heap.size := by simp
          clear hnl hA5 hIg
          go_wp2_with (at_builtin; refine wpl_appendN _ rfl _ _ rfl w (nI cs) (.slice pc cs.length cc) rfl HA6.out (d : Int) w5.heap.size _ rfl (heap_alloc_new w5 _) rfl (by rw [HNL.out]; omega) (by rw [HNL.out]; unfold maxLen; omega) ?_; intro v' w6 hA6 hg6 hs6)
          have hI6 : Its w6 pg g := hIg6.past hg6 (fun a ha => HSP.out a ha)
          have hsp6 : ∀ a, pg = some a → v'.ownBlock ≠ some a.block := fun a ha => hs6 a.block (by have := HLT.out a ha; omega) (HSP.out a ha)
          have HS6 := Lib.hid hsp6
          clear hs6 hg6 hsp6 hIg6 hW6 y0 y1 y2
          go_roundw
          case rel => exact ⟨g, cs ++ [d], p + k, p + k, pg, cg, k2, Nat.le_refl _, by go_num, by go_num, rfl, rfl, hgc, hgm, hI6, by rw [nI_snoc]; exact hA6, HS6, HM, HNG, by omega, by rw [List.length_append]; show cs.length + 1 ≤ _; omega, by rw [List.length_append]; exact hgt⟩
          case measure => simp [intOf]; omega
    · have hpe : p = s.size := by omega
      have hg := HG.out
      rw [List.drop_of_length_le (by simp; omega), decG_nil] at hg
      obtain ⟨pc, cc, hvc, hcc, hcm2, hIc⟩ := hA.own.ints
      subst hvc
      have HG2 := Lib.hid hg
      clear hg HG
      have hAX := fun o => hA.alloc (o := o)
      go_wp2_with (at_builtin; refine wpl_appendN _ rfl _ _ rfl w (nI cs) _ rfl (hA.alloc _) (d : Int) wr.heap.size _ rfl (heap_alloc_new _ _) rfl (by rw [nI_len]; omega) (by rw [nI_len]; unfold maxLen; omega) ?_; intro v' w6 hA6 hg6 hs6)
      obtain ⟨p6, c6, rfl, h6a, h6b, h6i⟩ := hA6.own.ints
      have hI6 : Its w6 pf f := (hI.call (blw (Below.refl _ wr) _)).past hg6 HSEP.out
      (try simp only [Exit.inBlock, Exit.then])
      refine bodyPost_ret (v := .tuple #[.slice pf f.length cf, .slice p6 (nI cs ++ [(d : Int)]).length c6, .int .i64 0, .int .i64 0]) (by simp [results, Tryd.results19, go_sem]; try rfl) rfl ?_
      rw [← HG2.out]
      rw [← nI_snoc] at h6a h6i ⊢
      rw [nI_len] at h6a ⊢
      exact ⟨pf, cf, p6, c6, rfl, hfc, hcm, hI6, h6a, h6b, h6i, hA6.below⟩
end Go.Proofs.YteaciofacmbllaaDoor
namespace Go.Proofs.YteaciofacmbllaaDoor
open Go.ChangeShapes Go.WideShapes Go.ChangeAt Go.RowKit
set_option linter.unusedVariables false
set_option linter.unusedSimpArgs false
set_option maxRecDepth 100000

theorem gbytes_below (w : World) (e : TypeId) (s : ByteArray) : Below w.heap.size w (Lib.bytesWorld w e s) :=
  Lib.below_freeze ((Below.drew (Below.refl _ w)).alloc (Nat.le_refl _) _) (p := ⟨w.heap.size, _, none⟩) (Nat.le_refl _) 1
theorem gconv_new (W : World) (T : ByteArray) : (convert 9 22 (.string T)).run Tryd.prog W = .ok (.slice (some ⟨W.heap.size, 0, none⟩) T.size (grownCap W T.size 0 5)) (Lib.bytesWorld W 5 T) :=
  Lib.run_convert_string_bytes W 9 22 5 T Tryd.underlying9 Tryd.underlying22 Tryd.underlying5
theorem gbytes_new (W : World) (T : ByteArray) : Lib.Bytes (Lib.bytesWorld W 5 T) W.heap.size 0 T := fun i h => by
  rw [Nat.zero_add, Lib.bytesWorld_cell W 5 T i h]
  have e : T.data.toList[i]? = some T[i] := by
    rw [List.getElem?_eq_getElem (by simpa using h)]; simp; rfl
  simp [List.getD, e]
/-- A text with one byte changed. -/
def chg (T : ByteArray) (i : Nat) (u : UInt8) : ByteArray := bsL (T.data.toList.set i u)
theorem chg_size (T : ByteArray) (i : Nat) (u : UInt8) : (chg T i u).size = T.size := by unfold chg; rw [bsL_size]; simp
theorem gbytes_set {W : World} {B : Nat} {T : ByteArray} (h : Lib.Bytes W B 0 T) (i : Nat) (hi : i < T.size) (u : UInt8) : Lib.Bytes (W.setCell ⟨B, i, none⟩ (.int .u8 (u.toNat : Int))) B 0 (chg T i u) := fun j hj => by
  have hz := chg_size T i u
  have hj' : j < T.size := by omega
  have e : (chg T i u)[j] = if i = j then u else T[j] := by
    have : (chg T i u).data.toList[j]'(by simpa using hj) = if i = j then u else T[j] := by
      unfold chg
      simp only [bsL_list]
      rw [List.getElem_set]
      split
      · rfl
      · simp; rfl
    rw [← this]; simp; rfl
  have ho := h j hj'
  have hm := h i hi
  rw [Nat.zero_add] at ho hm ⊢
  rw [e]
  by_cases hij : i = j
  · subst hij
    rw [if_pos rfl, World.cell?_setCell_same _ _ _ hm]
  · rw [if_neg hij, World.cell?_setCell_other _ _ _ _ (fun h => hij (by have := congrArg Addr.off h; simp at this; omega)), ho]
theorem gbytes_frozen (W : World) (T : ByteArray) (i : Nat) (hi : i < T.size) : (Lib.bytesWorld W 5 T).frozen? ⟨W.heap.size, i, none⟩ = false := by
  have := Lib.bytesWorld_at_new W 5 T
  unfold World.frozen?
  simp only [this]
  simp [Lib.bytesCells]
  omega
theorem gconv_back {W : World} {B : Nat} {V : ByteArray} (h : Lib.Bytes W B 0 V) (n c : Nat) (hn : V.size = n) : (convert 22 9 (.slice (some ⟨B, 0, none⟩) n c)).run Tryd.prog W = .ok (.string V) W := by
  subst hn
  exact Lib.run_convert_whole (P := Tryd.prog) W 22 5 9 Tryd.underlying22 Tryd.underlying5 Tryd.underlying9 B 0 V h c
set_option maxHeartbeats 1600000 in
theorem changed_any (T : ByteArray) (a : Int) (b : Int) (w : World) (hs : T.size ≤ 1000000000000) (ha : (Lit.int .i64 a).wf = true) (hb : (Lit.int .u8 b).wf = true) :
    Calls Tryd.prog 18 #[.string T, .int .i64 a, .int .u8 b] w fun e w' => ∃ V : ByteArray, e = .returned (.string V) ∧ V.size = T.size ∧ Below w.heap.size w w' := by
  obtain ⟨u, rfl⟩ : ∃ u : UInt8, b = (u.toNat : Int) := by
    have hb : 0 ≤ b ∧ b ≤ 255 := by simpa [Lit.wf, IntKind.min, IntKind.max, IntKind.signed, IntKind.bits] using hb
    exact ⟨UInt8.ofNat b.toNat, by rw [UInt8.toNat_ofNat']; omega⟩
  clear hb
  have pl := fun (h : 1 ≤ T.size) W => place_any a (T.size : Int) W (by omega) (by omega) ha
  have hI : 1 ≤ T.size → ∃ i : Nat, a % (T.size : Int) = i ∧ i < T.size := fun h => by
    have e0 := Int.emod_nonneg a (show (T.size : Int) ≠ 0 by omega)
    have e1 := Int.emod_lt_of_pos a (show (0 : Int) < (T.size : Int) by omega)
    obtain ⟨i, hi⟩ := Int.eq_ofNat_of_zero_le e0
    exact ⟨i, hi, by omega⟩
  have PL := Lib.hid pl; have HI := Lib.hid hI
  clear pl hI ha
  have hcn := gconv_new w T
  have hbn := gbytes_new w T
  have hfz := fun i hi => gbytes_frozen w T i hi
  have bl := gbytes_below w 5 T
  go_enter Tryd.func18, Tryd.ntmps18
  by_cases h0 : 0 < T.size
  · obtain ⟨i, hi, hi2⟩ := HI.out (by omega)
    have pl := fun W => PL.out (by omega) W
    rw [hi] at pl
    have P2 := Lib.hid pl; clear pl hi
    have hfz := hfz i hi2
    have hc := hbn i hi2
    rw [Nat.zero_add] at hc
    have hset := gbytes_set hbn i hi2 u
    have hcb := fun c => gconv_back hset T.size c (chg_size T i u)
    have j0 : (0 : Int) ≤ (i : Int) := by omega
    have j1 : (i : Int) < (T.size : Int) := by omega
    generalize Lib.bytesWorld w 5 T = wb at *
    go_wp2_with fail
    refine (P2.out _).mono ?_; rintro e w5 ⟨rfl, rfl⟩
    go_wp2_with fail
    go_ret
    exact ⟨_, rfl, chg_size T i u, bl.setCell (p := ⟨w.heap.size, i, none⟩) (Nat.le_refl _) _⟩
  · have i1 : decide (0 < T.size) = false := decide_eq_false (by omega)
    have hcb := fun c => gconv_back hbn T.size c rfl
    generalize Lib.bytesWorld w 5 T = wb at *
    go_wp2_with fail
    go_ret
    exact ⟨_, rfl, rfl, bl⟩
end Go.Proofs.YteaciofacmbllaaDoor
namespace Go.Proofs.YteaciofacmbllaaDoor
open Go.ChangeShapes Go.WideShapes Go.ChangeAt Go.RowKit
set_option linter.unusedVariables false
set_option linter.unusedSimpArgs false
set_option maxRecDepth 100000

theorem byte_ne {a b : ByteArray} (h : ¬ a = b) : (a.toList == b.toList) = false := by
  rw [beq_eq_false_iff_ne, Go.ByteArray.toList_eq, Go.ByteArray.toList_eq]
  intro e; exact h (by rw [← bsL_of a, e, bsL_of])
theorem ItoaOk.le {N M : Nat} {w : World} (h : ItoaOk N w) (hm : M ≤ N) : ItoaOk M w := fun r W hr hb => h r W (by omega) hb
theorem ItoaOk.call {N : Nat} {w w' : World} (h : ItoaOk N w) (hb : Below w.heap.size w w') : ItoaOk N w' := fun r W hr hb2 => h r W hr (BelowOn hb hb2)
theorem hidx0 (W : World) (a b : ByteArray) : Sem.run Tryd.prog (Instr.index 62 (.agg #[.string a, .string b]) (.int .i64 0)) W = .ok (.string a) W := by kernel_rfl
theorem hidx1 (W : World) (a b : ByteArray) : Sem.run Tryd.prog (Instr.index 62 (.agg #[.string a, .string b]) (.int .i64 1)) W = .ok (.string b) W := by kernel_rfl
def catP (ps : List Pt) (i : Nat) : List UInt8 := (ps.take i).flatMap (fun x => x.raw.data.toList)
theorem catP_next (ps : List Pt) (i : Nat) (h : i < ps.length) : bsL (catP ps i) ++ (ps[i]'h).raw = bsL (catP ps (i + 1)) := by
  unfold catP
  rw [List.take_add_one, List.getElem?_eq_getElem h, Option.toList_some, List.flatMap_append, ← bsL_append]
  congr 1
  simp [bsL_of]
theorem catP_le (ps : List Pt) (i : Nat) : (catP ps i).length ≤ (ps.flatMap (fun x => x.raw.data.toList)).length := by
  unfold catP
  conv => rhs; rw [← List.take_append_drop i ps, List.flatMap_append, List.length_append]
  omega
/-- What the law asks of the parts of a document that could be divided. -/
structure PFacts (u : ByteArray) (ps : List Pt) : Prop where
  odd : ps.length % 2 = 1
  yes : ∀ i (h : i < ps.length), i % 2 = 1 → (ps[i]'h).u = true ∧ ((ps[i]'h).key.toList.isEmpty = false) ∧ (dec elS (ps[i]'h).raw.data.toList).2.2.2 = 0
  no : ∀ i (h : i < ps.length), ¬ i % 2 = 1 → (ps[i]'h).u = false ∧ (ps[i]'h).key = ⟨#[]⟩
  cat : bsL (catP ps ps.length) = u
  le : ∀ i, (bsL (catP ps i)).size ≤ u.size
  raw : ∀ i (h : i < ps.length), (ps[i]'h).raw.size ≤ u.size
theorem pfacts {u : ByteArray} {ps : List Pt} (h : POk u ps) : PFacts u ps := by
  have hcat : bsL (catP ps ps.length) = u := by unfold catP; rw [List.take_length, h.cat, bsL_of]
  have hle : ∀ i, (bsL (catP ps i)).size ≤ u.size := fun i => by
    rw [bsL_size]; have := catP_le ps i; rw [h.cat] at this; simpa using this
  refine ⟨h.odd, fun i hi h1 => ?_, fun i hi h1 => ?_, hcat, hle, fun i hi => ?_⟩
  · obtain ⟨a, b, c⟩ := h.alt i hi
    rw [decide_eq_true h1] at a
    refine ⟨a, ?_, c a⟩
    cases hk : (ps[i]'hi).key.toList.isEmpty
    · rfl
    · exfalso
      have : (ps[i]'hi).key = .empty := by
        rw [List.isEmpty_iff, Go.ByteArray.toList_eq] at hk
        rw [← bsL_of (ps[i]'hi).key, hk]; rfl
      rw [b.1 this] at a; cases a
  · obtain ⟨a, b, c⟩ := h.alt i hi
    rw [decide_eq_false h1] at a
    exact ⟨a, b.2 a⟩
  · have h1 := catP_next ps i hi
    have h2 := hle (i + 1)
    rw [← h1, ByteArray.size_append] at h2
    omega
set_option maxHeartbeats 12800000 in
theorem parts_any (p0 : Option Addr) (c0 : Nat) (a0 : List Int) (a1 a2 : Int) (w : World) (r0 : Ones w (Value.int .i64) p0 a0) (o0 : ∀ i (h : i < a0.length), (Lit.int .i64 (a0[i]'h)).wf = true) (n0 : a0.length ≤ c0) (m0 : c0 ≤ maxLen) (w1 : (Lit.int .i64 a1).wf = true) (w2 : (Lit.int .u8 a2).wf = true) (hI : ItoaOk 1000000000 w) :
    Calls Tryd.prog 8 #[.slice p0 a0.length c0, .int .i64 a1, .int .u8 a2] w fun e w' => e = .returned (.bool true) ∧ Below w.heap.size w w' := by
  have HK := Lib.hid known_any
  by_cases l0 : a0.length ≤ 200
  case neg =>
    have z0 : 200 < a0.length := by omega
    clear r0 o0 l0 w1 w2
    go_enter Tryd.func8, Tryd.ntmps8
    go_wp2_with fail
    refine (HK.out _).mono ?_; rintro e w1 ⟨rfl, hb⟩
    go_wp2_with fail
    go_ret
    exact ⟨rfl, hb⟩
  have hnm := NumsAt.made r0 o0 n0 m0
  have hda := data_any w.heap.size p0 c0 a0 _ hnm (fun _ _ => trivial)
  unfold EndDa at hda
  have HDA := Lib.hid hda
  have hch := fun T W (h : ByteArray.size T ≤ 1000000000000) => changed_any T a1 a2 W h w1 w2
  have HCH := Lib.hid hch
  have hde := fun (u : ByteArray) W (h : u.size ≤ 1000000) => decode_any u W (by omega)
  have HDE := Lib.hid hde
  clear hda hnm hch hde r0 o0 w1 w2
  go_enter Tryd.func8, Tryd.ntmps8
  go_wp2_with fail
  refine HDA.out.mono ?_; rintro e w3 ⟨C, rfl, hok, hCl, hg⟩
  have bl : Below w.heap.size w w3 := (blw (Below.refl w.heap.size w) _).trans (grown_below hg (Nat.le_refl _) (by simp))
  have hTz : (bsL C).size ≤ 10000 := by rw [bsL_size]; exact hCl
  generalize bsL C = T at *
  clear hg hCl
  go_wp2_with fail
  refine (HCH.out T _ (by omega)).mono ?_; rintro e w4 ⟨V, rfl, hVz, hb⟩
  have bl := BelowOn bl hb; clear hb
  have hsT := fun W (hb : Below w.heap.size w W) => split_any T W (by omega) ((hI.call hb).le (by omega))
  have hsV := fun W (hb : Below w.heap.size w W) => split_any V W (by omega) ((hI.call hb).le (by omega))
  clear hI
  have hfT := pfacts ((splS_both T).1 hok)
  have hfV := fun h => pfacts ((splS_both V).1 h)
  have hnV := (splS_both V).2
  have hVT : (splS V).2.2 ≠ 0 → (V.toList == T.toList) = false := fun h => byte_ne (fun e => h (by rw [e]; exact hok))
  have hVz2 : V.size ≤ 10000 := by omega
  obtain ⟨RT, hRT⟩ : ∃ R, splS T = R := ⟨_, rfl⟩
  obtain ⟨RV, hRV⟩ : ∃ R, splS V = R := ⟨_, rfl⟩
  rw [hRT] at hsT hfT hok
  rw [hRV] at hsV hfV hnV hVT
  obtain ⟨PT, qT, eT⟩ := RT
  obtain ⟨PV, qV, eV⟩ := RV
  unfold EndS at hsT hsV
  dsimp only at hsT hsV hfT hfV hnV hVT hok
  subst hok
  have HST := Lib.hid hsT; have HSV := Lib.hid hsV; have HFT := Lib.hid hfT; have HFV := Lib.hid hfV; have HNV := Lib.hid hnV; have HVT := Lib.hid hVT
  clear hsT hsV hfT hfV hnV hVT hRT hRV hVz
  have ix0 := fun W => hidx0 W T V
  have ix1 := fun W => hidx1 W T V
  go_wp2_with fail
  go_loopw [32] (fun i wr => ∃ k : Nat, k ≤ 2 ∧ i = .int .i64 k ∧ Below w.heap.size w wr) (fun i _ => 2 - (intOf i).toNat)
  case atStart => exact ⟨0, by omega, rfl, bl⟩
  case round =>
    obtain ⟨k, hk, rfl, hB⟩ := hrel
    clear bl
    have hk3 : k = 0 ∨ k = 1 ∨ k = 2 := by omega
    rcases hk3 with rfl | rfl | rfl
    · go_wp2_with fail
      refine (HST.out _ hB).mono ?_; rintro e w6 ⟨pp, cc, rfl, x1, x2, hP6, hb⟩
      have hB6 := BelowOn hB hb
      clear hb hB
      have HF := Lib.hid HFT.out
      have HC0 := Lib.hid (show (⟨#[]⟩ : ByteArray) = bsL (catP PT 0) from rfl)
      have hodd := HF.out.odd
      generalize hPl : PT.length = N at *
      have hNb : N ≤ 9223372036854775807 := by unfold maxLen at x2; omega
      go_wp2_with fail
      go_loopw [13, 53] (fun v i wr => ∃ j : Nat, j ≤ N ∧ i = .int .i64 (j : Int) ∧ v = .string (bsL (catP PT j)) ∧ Below w6.heap.size w6 wr) (fun _ i _ => N - (intOf i).toNat)
      case atStart => exact ⟨0, Nat.zero_le _, rfl, by rw [← HC0.out], Below.refl _ _⟩
      case round =>
        obtain ⟨j, hj, rfl, rfl, hB7⟩ := hrel
        by_cases hlt : j < N
        · have hjl : j < PT.length := by omega
          obtain ⟨ad, hpp, had, d0, d1, d2⟩ := (hP6.call hB7).row j hjl
          subst hpp
          have hle := HF.out.le j
          have hrz := HF.out.raw j hjl
          have hnx := catP_next PT j hjl
          have hyes := HF.out.yes j hjl
          have hno := HF.out.no j hjl
          have hdr := fun W => HDE.out (PT[j]'hjl).raw W (by omega)
          unfold EndD at hdr
          have j1 : (j : Int) < (N : Int) := by omega
          generalize PT[j]'hjl = x at *
          have HNX := Lib.hid hnx
          clear hnx
          by_cases hm : j % 2 = 1
          · obtain ⟨g1, g2, g3⟩ := hyes hm
            rw [g1] at d0
            rw [g3] at hdr
            have q1 : (((j : Int) % 2) == 1) = true := by rw [beq_iff_eq]; omega
            have HDR := Lib.hid hdr
            generalize (dec elS x.raw.data.toList) = Y at *
            clear hyes hno hdr g3
            generalize bsL (catP PT j) = S at *
            have z1 : ¬ (9223372036854775807 < S.size + x.raw.size) := by omega
            go_upto_region 16 with fail
            go_quiet (fail)
            have hB8 := BelowOn hB7 (below_qN wr nq)
            have d0' : (wr.drewN nq).cell? (ad.add (j * 3)) = some (.bool true) := d0
            clear d1
            go_wp2_with fail
            refine (HDR.out _).mono ?_; rintro e w8 ⟨p9, c9, rfl, -, -, -, hb9⟩
            have hB9 := BelowOn hB8 hb9
            have e0 : w8.cell? (ad.add (j * 3)) = some (.bool true) := by
              rw [hb9.cell (p := ad.add (j * 3)) (by rw [add_block]; exact had)]; exact d0'
            clear d0 d0' d2 hb9
            go_wp2_with fail
            go_roundw
            case rel => exact ⟨j + 1, by omega, by go_num, by rw [HNX.out], hB9⟩
            case measure => simp [intOf]; omega
          · obtain ⟨g1, g2⟩ := hno hm
            rw [g1] at d0
            rw [g2] at d1
            have q1 : (((j : Int) % 2) == 1) = false := by rw [beq_eq_false_iff_ne]; omega
            have HDR := Lib.hid hdr
            generalize (dec elS x.raw.data.toList) = Y at *
            clear hyes hno hdr g2
            generalize bsL (catP PT j) = S at *
            have z1 : ¬ (9223372036854775807 < S.size + x.raw.size) := by omega
            go_upto_region 16 with fail
            go_quiet (fail)
            have hB8 := BelowOn hB7 (below_qN wr nq)
            have d0' : (wr.drewN nq).cell? (ad.add (j * 3)) = some (.bool false) := d0
            clear d1
            go_wp2_with fail
            refine (HDR.out _).mono ?_; rintro e w8 ⟨p9, c9, rfl, -, -, -, hb9⟩
            have hB9 := BelowOn hB8 hb9
            have e0 : w8.cell? (ad.add (j * 3)) = some (.bool false) := by
              rw [hb9.cell (p := ad.add (j * 3)) (by rw [add_block]; exact had)]; exact d0'
            clear d0 d0' d2 hb9
            go_wp2_with fail
            go_roundw
            case rel => exact ⟨j + 1, by omega, by go_num, by rw [HNX.out], hB9⟩
            case measure => simp [intOf]; omega
        · obtain rfl : j = N := by omega
          have hcS : bsL (catP PT j) = T := by rw [← hPl]; exact HF.out.cat
          generalize bsL (catP PT j) = S at *
          subst hcS
          have q2 : (((j : Int) % 2) != 1) = false := by
            have : (((j : Int) % 2) == 1) = true := by rw [beq_iff_eq]; omega
            rw [bne, this]; rfl
          have hB9 := BelowOn hB6 hB7
          go_wp2_with fail
          go_roundw
          case rel => exact ⟨1, by omega, by go_num, hB9⟩
          case measure => simp [intOf]
    · by_cases hv : eV = 0
      · subst hv
        have HFV2 := Lib.hid (HFV.out rfl)
        clear HFV HNV HVT
        go_wp2_with fail
        refine (HSV.out _ hB).mono ?_; rintro e w6 ⟨pp, cc, rfl, x1, x2, hP6, hb⟩
        have hB6 := BelowOn hB hb
        clear hb hB
        have HF := Lib.hid HFV2.out
        have HC0 := Lib.hid (show (⟨#[]⟩ : ByteArray) = bsL (catP PV 0) from rfl)
        have hodd := HF.out.odd
        generalize hPl : PV.length = N at *
        have hNb : N ≤ 9223372036854775807 := by unfold maxLen at x2; omega
        go_wp2_with fail
        go_loopw [13, 53] (fun v i wr => ∃ j : Nat, j ≤ N ∧ i = .int .i64 (j : Int) ∧ v = .string (bsL (catP PV j)) ∧ Below w6.heap.size w6 wr) (fun _ i _ => N - (intOf i).toNat)
        case atStart => exact ⟨0, Nat.zero_le _, rfl, by rw [← HC0.out], Below.refl _ _⟩
        case round =>
          obtain ⟨j, hj, rfl, rfl, hB7⟩ := hrel
          by_cases hlt : j < N
          · have hjl : j < PV.length := by omega
            obtain ⟨ad, hpp, had, d0, d1, d2⟩ := (hP6.call hB7).row j hjl
            subst hpp
            have hle := HF.out.le j
            have hrz := HF.out.raw j hjl
            have hnx := catP_next PV j hjl
            have hyes := HF.out.yes j hjl
            have hno := HF.out.no j hjl
            have hdr := fun W => HDE.out (PV[j]'hjl).raw W (by omega)
            unfold EndD at hdr
            have j1 : (j : Int) < (N : Int) := by omega
            generalize PV[j]'hjl = x at *
            have HNX := Lib.hid hnx
            clear hnx
            by_cases hm : j % 2 = 1
            · obtain ⟨g1, g2, g3⟩ := hyes hm
              rw [g1] at d0
              rw [g3] at hdr
              have q1 : (((j : Int) % 2) == 1) = true := by rw [beq_iff_eq]; omega
              have HDR := Lib.hid hdr
              generalize (dec elS x.raw.data.toList) = Y at *
              clear hyes hno hdr g3
              generalize bsL (catP PV j) = S at *
              have z1 : ¬ (9223372036854775807 < S.size + x.raw.size) := by omega
              go_upto_region 16 with fail
              go_quiet (fail)
              have hB8 := BelowOn hB7 (below_qN wr nq)
              have d0' : (wr.drewN nq).cell? (ad.add (j * 3)) = some (.bool true) := d0
              clear d1
              go_wp2_with fail
              refine (HDR.out _).mono ?_; rintro e w8 ⟨p9, c9, rfl, -, -, -, hb9⟩
              have hB9 := BelowOn hB8 hb9
              have e0 : w8.cell? (ad.add (j * 3)) = some (.bool true) := by
                rw [hb9.cell (p := ad.add (j * 3)) (by rw [add_block]; exact had)]; exact d0'
              clear d0 d0' d2 hb9
              go_wp2_with fail
              go_roundw
              case rel => exact ⟨j + 1, by omega, by go_num, by rw [HNX.out], hB9⟩
              case measure => simp [intOf]; omega
            · obtain ⟨g1, g2⟩ := hno hm
              rw [g1] at d0
              rw [g2] at d1
              have q1 : (((j : Int) % 2) == 1) = false := by rw [beq_eq_false_iff_ne]; omega
              have HDR := Lib.hid hdr
              generalize (dec elS x.raw.data.toList) = Y at *
              clear hyes hno hdr g2
              generalize bsL (catP PV j) = S at *
              have z1 : ¬ (9223372036854775807 < S.size + x.raw.size) := by omega
              go_upto_region 16 with fail
              go_quiet (fail)
              have hB8 := BelowOn hB7 (below_qN wr nq)
              have d0' : (wr.drewN nq).cell? (ad.add (j * 3)) = some (.bool false) := d0
              clear d1
              go_wp2_with fail
              refine (HDR.out _).mono ?_; rintro e w8 ⟨p9, c9, rfl, -, -, -, hb9⟩
              have hB9 := BelowOn hB8 hb9
              have e0 : w8.cell? (ad.add (j * 3)) = some (.bool false) := by
                rw [hb9.cell (p := ad.add (j * 3)) (by rw [add_block]; exact had)]; exact d0'
              clear d0 d0' d2 hb9
              go_wp2_with fail
              go_roundw
              case rel => exact ⟨j + 1, by omega, by go_num, by rw [HNX.out], hB9⟩
              case measure => simp [intOf]; omega
          · obtain rfl : j = N := by omega
            have hcS : bsL (catP PV j) = V := by rw [← hPl]; exact HF.out.cat
            generalize bsL (catP PV j) = S at *
            subst hcS
            have q2 : (((j : Int) % 2) != 1) = false := by
              have : (((j : Int) % 2) == 1) = true := by rw [beq_iff_eq]; omega
              rw [bne, this]; rfl
            have hB9 := BelowOn hB6 hB7
            go_wp2_with fail
            go_roundw
            case rel => exact ⟨2, by omega, by go_num, hB9⟩
            case measure => simp [intOf]
      · have hz := HNV.out hv
        have hvt := HVT.out hv
        have q : (eV != 0) = true := by simpa using hv
        subst hz
        clear HFV HNV HVT
        go_wp2_with fail
        refine (HSV.out _ hB).mono ?_; rintro e w6 ⟨pp, cc, rfl, x1, x2, hP6, hb⟩
        have hB6 := BelowOn hB hb
        clear hb hB hP6
        go_wp2_with fail
        go_roundw
        case rel => exact ⟨2, by omega, by go_num, hB6⟩
        case measure => simp [intOf]
    · go_wp2_with fail
      refine (HK.out _).mono ?_; rintro e w7 ⟨rfl, hb⟩
      have bl := BelowOn hB hb; clear hb
      go_wp2_with fail
      go_ret
      exact ⟨rfl, bl⟩
end Go.Proofs.YteaciofacmbllaaDoor
namespace Go.Proofs.YteaciofacmbllaaDoor
open Go.ChangeShapes Go.WideShapes Go.ChangeAt Go.RowKit
set_option linter.unusedVariables false
set_option linter.unusedSimpArgs false
set_option maxRecDepth 100000

section
variable {D : ByteArray} {f c a p st n k : Nat} {ps : List Pt}
theorem step_q {raw r : List UInt8} (hr : restD D p = 34 :: (raw ++ 34 :: 44 :: r)) (hp : p ≤ D.size) (hs : Safe raw) (hd : (dec elS raw).2.2.2 = 0) (hf : n ≠ f) (hc : n = c) :
    recS D f c ps a p st n k = recS D f c (ps ++ [skel D a (p + 1), ⟨true, keyR k, bsL raw⟩]) (p + 1 + raw.length) (p + (raw.length + 2) + 1) st (n + 1) k ∧ restD D (p + (raw.length + 2) + 1) = r ∧ p + (raw.length + 2) + 1 ≤ D.size := by
  obtain ⟨h1, h2, h3, h4⟩ := quoted_facts hr hp hs (fun x hx => by injection hx with hx; exact .inl hx.symm)
  have he : endsR D (p + (raw.length + 2)) = false := by unfold endsR; rw [h3]; rfl
  have hz := rest_size h3 h4
  have e : D.extract (p + 1) (p + 1 + raw.length) = bsL raw := by
    rw [← bsL_of (D.extract (p + 1) (p + 1 + raw.length)), show (D.extract (p + 1) (p + 1 + raw.length)).data.toList = raw from (rawF_ext (x := ⟨true, raw.length, raw.length + 2⟩) rfl).trans h2]
  refine ⟨?_, by rw [rest_drop (k := 1) h3]; rfl, by simp at hz; omega⟩
  rw [rec_more hp h1 (by rintro (e | ⟨_, e⟩); exact hf e; cases e) (fun e => e.2 (by rw [h2]; exact hd)) he]
  unfold psN aN
  rw [if_pos hc, if_pos hc]
  show recS D f c (ps ++ [skel D a (p + 1), ⟨true, keyR k, D.extract (p + 1) (p + 1 + raw.length)⟩]) _ _ _ _ _ = _
  rw [e]
theorem step_n {u r : List UInt8} (hr : restD D p = u ++ 10 :: r) (hp : p ≤ D.size) (hu : ∀ x ∈ u, stopF x = false) (hf : n ≠ f) (hc : n ≠ c) (hl : ¬ n + 1 < f) :
    recS D f c ps a p st n k = recH D f c ps a (p + u.length + 1) (k + 1) ∧ restD D (p + u.length + 1) = r ∧ p + u.length + 1 ≤ D.size := by
  have hfl : fldS (restD D p) = some ⟨false, u.length, u.length⟩ := by
    rw [hr]; exact fld_bareS hu (fun x hx => by injection hx with hx; exact .inr hx.symm)
  have hd : restD D (p + u.length) = 10 :: r := by rw [rest_drop hr, List.drop_left]
  have he : endsR D (p + u.length) = true := by unfold endsR; rw [hd]; rfl
  have hs := rest_size hr hp
  refine ⟨?_, by rw [rest_drop (k := 1) hd]; rfl, by simp at hs; omega⟩
  rw [rec_next hp hfl (by rintro (e | ⟨e, _⟩); exact hf e; exact hc e) (fun e => hc e.1) he hl]
  unfold psN aN
  rw [if_neg hc, if_neg hc]
theorem step_e {u : List UInt8} (hr : restD D p = u) (hp : p ≤ D.size) (hu : ∀ x ∈ u, stopF x = false) (hf : n ≠ f) (hc : n ≠ c) (hl : ¬ n + 1 < f) :
    recS D f c ps a p st n k = (ps ++ [skel D a D.size], 0, 0) := by
  have hfl : fldS (restD D p) = some ⟨false, u.length, u.length⟩ := by
    have := fld_bareS (t := []) hu (fun x hx => by cases hx)
    rw [hr]; rwa [List.append_nil] at this
  have hs := rest_size hr hp
  have he : endsR D (p + u.length) = true := endsR_end _ _ (by omega)
  rw [rec_next hp hfl (by rintro (e | ⟨e, _⟩); exact hf e; exact hc e) (fun e => hc e.1) he hl]
  unfold psN aN
  rw [if_neg hc, if_neg hc]
  exact recH_end (show D.size ≤ p + u.length + 1 by omega)
end
def docF (e : List UInt8) : List UInt8 := [116, 101, 120, 116] ++ 44 :: ([110] ++ 10 :: (34 :: (e ++ 34 :: 44 :: ([49] ++ 10 :: (34 :: ([] ++ 34 :: 44 :: [50]))))))
theorem docF_len (e : List UInt8) : (docF e).length = e.length + 16 := by unfold docF; simp
theorem spl_fields {e : List UInt8} (hs : Safe e) (hd : (dec elS e).2.2.2 = 0) (hl : e.length ≤ 60000) : ∃ x y z, splS (bsL (docF e)) = ([x, ⟨true, keyR 1, bsL e⟩, y, ⟨true, keyR 2, bsL []⟩, z], 0, 0) := by
  have hsz : (bsL (docF e)).size = e.length + 16 := by rw [bsL_size, docF_len]
  have h0 := rest_zero (docF e)
  rw [splS_of (by rw [hsz]; omega)]
  generalize bsL (docF e) = D at *
  obtain ⟨e1, r1, l1⟩ := htext (n := 0) (t := 0) (c := 0) (by rw [h0]; rfl) (Nat.zero_le _)
  have hfl : fldS (restD D (0 + 4 + 1)) = some ⟨false, 1, 1⟩ := by
    rw [r1]; exact fld_bareS (u := [110]) (by decide) (fun x hx => by injection hx with hx; exact .inr hx.symm)
  have r2 := rest_drop (k := 1) r1
  have he : endsR D (0 + 4 + 1 + 1) = true := by unfold endsR; rw [r2]; rfl
  have hx : isText D (0 + 4 + 1) ⟨false, 1, 1⟩ = false := by unfold isText; rw [r1]; rfl
  rw [e1, hdr_end l1 hfl he, hx, if_neg (by decide), if_neg (by decide)]
  have r3 := rest_drop (k := 1) r2
  show ∃ x y z, recH D 2 0 [] 0 7 1 = _
  rw [recH_go (by omega)]
  obtain ⟨e4, r4, l4⟩ := step_q (f := 2) (c := 0) (ps := []) (a := 0) (st := 7) (n := 0) (k := 1) r3 (by omega) hs hd (by decide) rfl
  rw [show (0 + 4 + 1 + 1 + 1 : Nat) = 7 from rfl] at e4 r4 l4
  rw [e4]
  obtain ⟨e5, r5, l5⟩ := step_n (u := [49]) (f := 2) (c := 0) (ps := [] ++ [skel D 0 (7 + 1), ⟨true, keyR 1, bsL e⟩]) (a := 7 + 1 + e.length) (st := 7) (n := 0 + 1) (k := 1) r4 l4 (by decide) (by decide) (by decide) (by decide)
  rw [e5]
  have s5 := rest_size r5 l5
  rw [recH_go (by simp at s5 ⊢; omega)]
  obtain ⟨e6, r6, l6⟩ := step_q (f := 2) (c := 0) (ps := [] ++ [skel D 0 (7 + 1), ⟨true, keyR 1, bsL e⟩]) (a := 7 + 1 + e.length) (st := 7 + (e.length + 2) + 1 + ([49] : List UInt8).length + 1) (n := 0) (k := 1 + 1) r5 l5 Safe.nil (by decide) (by decide) rfl
  rw [e6, step_e r6 l6 (by decide) (by decide) (by decide) (by decide)]
  exact ⟨_, _, _, rfl⟩
theorem key_two : keyR 2 = (⟨#[50]⟩ : ByteArray) := by decide +kernel
theorem docF_eq (e : List UInt8) : ((⟨#[116, 101, 120, 116, 44, 110, 10, 34]⟩ : ByteArray) ++ bsL e) ++ (⟨#[34, 44, 49, 10, 34, 34, 44, 50]⟩ : ByteArray) = bsL (docF e) := by
  show (bsL [116, 101, 120, 116, 44, 110, 10, 34] ++ bsL e) ++ bsL [34, 44, 49, 10, 34, 34, 44, 50] = _
  rw [bsL_append, bsL_append]; unfold docF; simp
set_option maxHeartbeats 3200000 in
theorem fields_any (p0 : Option Addr) (c0 : Nat) (a0 : List Int) (a1 : ByteArray) (w : World) (r0 : Ones w (Value.int .i64) p0 a0) (o0 : ∀ i (h : i < a0.length), (Lit.int .i64 (a0[i]'h)).wf = true) (n0 : a0.length ≤ c0) (m0 : c0 ≤ maxLen) (w1 : a1.size ≤ 140737488355328) (hI : ItoaOk 1000000000 w) :
    Calls Tryd.prog 10 #[.slice p0 a0.length c0, .string a1] w fun e w' => e = .returned (.bool true) ∧ Below w.heap.size w w' := by
  have HK := Lib.hid known_any
  by_cases l0 : a0.length ≤ 60
  case neg =>
    have z0 : 60 < a0.length := by omega
    clear r0 o0 l0 hI
    go_enter Tryd.func10, Tryd.ntmps10
    go_wp2_with fail
    refine (HK.out _).mono ?_; rintro e w1 ⟨rfl, hb⟩
    go_wp2_with fail
    go_ret
    exact ⟨rfl, hb⟩
  by_cases l1 : a1.size ≤ 100
  case neg =>
    have z1 : 100 < a1.size := by omega
    have q0 : decide (60 < a0.length) = false := decide_eq_false (by omega)
    clear r0 o0 l1 hI
    go_enter Tryd.func10, Tryd.ntmps10
    go_wp2_with fail
    refine (HK.out _).mono ?_; rintro e w1 ⟨rfl, hb⟩
    go_wp2_with fail
    go_ret
    exact ⟨rfl, hb⟩
  have q0 : decide (60 < a0.length) = false := decide_eq_false (by omega)
  have q1 : decide (100 < a1.size) = false := decide_eq_false (by omega)
  have M0 := Lib.hid (fun W h => rmade_any p0 c0 a0 W h o0 n0 m0)
  unfold EndF at M0
  have v0 := mkT_valid a0 a1 (by omega)
  have t0 := mkT_flat a0 a1
  have g := mk_ok a0 false true
  have g1 := g.len; have g2 := g.txt
  have htx2 : txtI (mkT a0 a1) ≤ txtI (mk a0 false true) + a1.size := by
    have h2 := txt_normed (mk a0 false true ++ [⟨1, a1, 0⟩])
    rw [txtI_snoc] at h2
    exact h2
  have htx : txtI (mkT a0 a1) ≤ 140737488355328 := by omega
  have hln2 : (mkT a0 a1).length ≤ (mk a0 false true).length + 1 := by
    have := norm_len (mk a0 false true ++ [⟨1, a1, 0⟩])
    rw [List.length_append] at this; exact this
  have cc := fun p q c d W i j => rconcat_any p q c d (mk a0 false true) [⟨1, a1, 0⟩] W i j (by simp; omega) (by show txtI (mk a0 false true) + (a1.size + 0) ≤ _; omega)
  have CC := Lib.hid cc; clear cc g
  rw [show norm (mk a0 false true ++ [⟨1, a1, 0⟩]) = mkT a0 a1 from rfl] at CC
  generalize mkT a0 a1 = F at *
  generalize mk a0 false true = G at *
  have x0 := oks_valid (valE_zero v0).2.2 htx
  have f0 := fun p c W (i : Its W p F) (a : F.length ≤ c) (b : c ≤ maxLen) => rencode_any p c F W i x0 a b
  rw [encE_ok v0 (by rw [show tagsL F = [] from t0]; rfl)] at f0
  have hshort := encS_short F
  have hel : (encS F).length ≤ 50000 := by omega
  have hsz : (bsL (encS F)).size ≤ 50000 := by rw [bsL_size]; exact hel
  have d0 := fun W => decode_any (bsL (encS F)) W (by omega)
  rw [bsL_list, dec_enc v0 t0] at d0
  unfold EndD at d0; dsimp only at d0 f0
  have hlen := (valE_zero v0).1
  have ss := fun p q c d W (i : Its W p F) (j : Its W q F) (a : F.length ≤ c) (b : F.length ≤ d) (x : c ≤ maxLen) (y : d ≤ maxLen) => rsame_any p q c d F F W i j a b x y
  rw [decide_eq_true (rfl : F = F)] at ss
  have sp := fun W (hb : Below w.heap.size w W) => split_any (bsL (docF (encS F))) W (by rw [bsL_size, docF_len]; omega) ((hI.call hb).le (by rw [bsL_size, docF_len]; omega))
  obtain ⟨sx, sy, sz, hspl⟩ := spl_fields (enc_safe (valE_zero v0).2.2 t0) (by rw [dec_enc v0 t0]) (by omega)
  rw [hspl] at sp
  unfold EndS at sp
  dsimp only at sp
  rw [← docF_eq] at sp
  clear hspl
  generalize bsL (encS F) = S at *
  have F0 := Lib.hid f0; have SS := Lib.hid ss; have DD := Lib.hid d0; have SP := Lib.hid sp
  clear f0 ss d0 sp x0 v0 t0 htx htx2 hln2 hlen o0 g1 g2 hshort hel hI
  have z1 : ¬ (9223372036854775807 < 8 + S.size) := by omega
  have z2 : ¬ (9223372036854775807 < ((⟨#[116, 101, 120, 116, 44, 110, 10, 34]⟩ : ByteArray) ++ S).size + 8) := by rw [ByteArray.size_append]; show ¬ (9223372036854775807 < 8 + S.size + 8); omega
  have z3 : ¬ (9223372036854775807 < 8 + S.size + 8) := by omega
  clear hsz
  go_enter Tryd.func10, Tryd.ntmps10
  go_wp2_with fail
  refine (M0.out _ r0).mono ?_; rintro e w1 ⟨p2, c2, rfl, a2, b2, i2, hb⟩
  have bl := hb; clear r0 hb
  go_wp2_with fail
  refine (CC.out _ _ _ _ _ (i2.call (blw (Below.refl _ _) _)) (its_one (x := ⟨1, a1, 0⟩) (heap_alloc_new _ _))).mono ?_; rintro e w2 h
  obtain ⟨p4, c4, rfl, a4, b4, i4, hb⟩ := EndI.f h
  have hb := BelowOn (blw (Below.refl _ _) _) hb
  have bl := BelowOn bl hb; clear hb i2 a2 b2 h
  have i2 := i4; have a2 := a4; have b2 := b4
  clear i4 a4 b4
  go_wp2_with fail
  refine (F0.out _ _ _ i2 a2 b2).mono ?_; rintro e w3 ⟨rfl, hb⟩
  have i2 := i2.call hb; have bl := BelowOn bl hb; clear hb
  go_wp2_with fail
  refine (SP.out _ bl).mono ?_; rintro e w6 ⟨pp, cc, rfl, x1, x2, hP6, hb⟩
  have i2 := i2.call hb; have bl := BelowOn bl hb; clear hb
  obtain ⟨ad, hpp, had, d0, d1, d2⟩ := hP6.row 1 (by show 1 < 5; omega)
  obtain ⟨ad3, hpp3, had3, f0, f1, f2⟩ := hP6.row 3 (by show 3 < 5; omega)
  rw [hpp] at hpp3
  injection hpp3 with hpp3
  subst hpp3; subst hpp
  have d2 : w6.cell? ⟨ad.block, ad.off + 3 + 2, none⟩ = some (.string S) := d2
  have f1 : w6.cell? ⟨ad.block, ad.off + 9 + 1, none⟩ = some (.string (⟨#[50]⟩ : ByteArray)) := by rw [← key_two]; exact f1
  have f2 : w6.cell? ⟨ad.block, ad.off + 9 + 2, none⟩ = some (.string (⟨#[]⟩ : ByteArray)) := f2
  clear d0 d1 f0 hP6 had3
  go_wp2_with fail
  refine (DD.out _).mono ?_; rintro e w7 ⟨p3, c3, rfl, a3, b3, i3, hb⟩
  have g1 : w7.cell? ⟨ad.block, ad.off + 9 + 1, none⟩ = some (.string (⟨#[50]⟩ : ByteArray)) := by rw [hb.cell (p := ⟨ad.block, ad.off + 9 + 1, none⟩) had]; exact f1
  have g2 : w7.cell? ⟨ad.block, ad.off + 9 + 2, none⟩ = some (.string (⟨#[]⟩ : ByteArray)) := by rw [hb.cell (p := ⟨ad.block, ad.off + 9 + 2, none⟩) had]; exact f2
  have had : ad.block < w7.heap.size := Nat.lt_of_lt_of_le had hb.size
  have i2 := i2.call hb; have bl := BelowOn bl hb; clear hb d2 f1 f2
  go_wp2_with fail
  refine (SS.out _ _ _ _ _ i2 i3 a2 a3 b2 b3).mono ?_; rintro e w8 ⟨rfl, hb⟩
  have f1 : w8.cell? ⟨ad.block, ad.off + 9 + 1, none⟩ = some (.string (⟨#[50]⟩ : ByteArray)) := by rw [hb.cell (p := ⟨ad.block, ad.off + 9 + 1, none⟩) had]; exact g1
  have f2 : w8.cell? ⟨ad.block, ad.off + 9 + 2, none⟩ = some (.string (⟨#[]⟩ : ByteArray)) := by rw [hb.cell (p := ⟨ad.block, ad.off + 9 + 2, none⟩) had]; exact g2
  have bl := BelowOn bl hb; clear hb i2 i3 g1 g2
  go_wp2_with fail
  refine (HK.out _).mono ?_; rintro e w9 ⟨rfl, hb⟩
  have bl := BelowOn bl hb; clear hb
  go_wp2_with fail
  go_ret
  exact ⟨rfl, bl⟩
end Go.Proofs.YteaciofacmbllaaDoor
namespace Go.Proofs.YteaciofacmbllaaDoor
open Go.ChangeShapes Go.WideShapes Go.ChangeAt Go.RowKit
set_option linter.unusedVariables false
set_option linter.unusedSimpArgs false
set_option maxRecDepth 100000

/-- The builder: the data, the parts, where the skeleton goes on. -/
structure Bu (W : World) (B : Nat) (D : ByteArray) (base : Nat) (ps : List Pt) (vp : Value) (a : Nat) : Prop where
  hh : W.heap[B]? = some (.cells #[.string D, vp, .int .i64 (a : Int)] 107 (0, 0))
  own : OwnL 64 3 penc base ps vp W
  lt : B < base
theorem Bu.call {W W1 : World} {B : Nat} {D : ByteArray} {base : Nat} {ps : List Pt} {vp : Value} {a : Nat} (h : Bu W B D base ps vp a) (hb : Below W.heap.size W W1) : Bu W1 B D base ps vp a :=
  ⟨(hb.block B (Array.getElem?_eq_some_iff.1 h.hh).1).trans h.hh, h.own.call hb, h.lt⟩
theorem Bu.cells {W : World} {B : Nat} {D : ByteArray} {base : Nat} {ps : List Pt} {vp : Value} {a : Nat} (h : Bu W B D base ps vp a) : W.cell? ⟨B, 0, none⟩ = some (.string D) ∧ W.cell? ⟨B, 1, none⟩ = some vp ∧ W.cell? ⟨B, 2, none⟩ = some (.int .i64 (a : Int)) ∧ W.frozen? ⟨B, 0, none⟩ = false ∧ W.frozen? ⟨B, 1, none⟩ = false ∧ W.frozen? ⟨B, 2, none⟩ = false :=
  ⟨by rw [Lib.cell_of_heap h.hh]; rfl, by rw [Lib.cell_of_heap h.hh]; rfl, by rw [Lib.cell_of_heap h.hh]; rfl, Lib.frozen_of_heap h.hh 0, Lib.frozen_of_heap h.hh 1, Lib.frozen_of_heap h.hh 2⟩
theorem Bu.blk {W W1 : World} {B : Nat} {D : ByteArray} {base : Nat} {ps : List Pt} {vp : Value} {a : Nat} (h : Bu W B D base ps vp a) (hg : W.grownBy W1 vp.ownBlock) : W1.heap[B]? = some (.cells #[.string D, vp, .int .i64 (a : Int)] 107 (0, 0)) := by
  refine (hg.block B (Array.getElem?_eq_some_iff.1 h.hh).1 (fun e => ?_)).trans h.hh
  have := (h.own.lt B e.symm).1
  have := h.lt
  omega
theorem Bu.past {W W1 : World} {B : Nat} {D : ByteArray} {base : Nat} {ps : List Pt} {vp : Value} {a : Nat} (h : Bu W B D base ps vp a) (hg : W.grownBy W1 vp.ownBlock) : W1.cell? ⟨B, 0, none⟩ = some (.string D) ∧ W1.cell? ⟨B, 1, none⟩ = some vp ∧ W1.cell? ⟨B, 2, none⟩ = some (.int .i64 (a : Int)) ∧ W1.frozen? ⟨B, 0, none⟩ = false ∧ W1.frozen? ⟨B, 1, none⟩ = false ∧ W1.frozen? ⟨B, 2, none⟩ = false := by
  have hh := h.blk hg
  exact ⟨by rw [Lib.cell_of_heap hh]; rfl, by rw [Lib.cell_of_heap hh]; rfl, by rw [Lib.cell_of_heap hh]; rfl, Lib.frozen_of_heap hh 0, Lib.frozen_of_heap hh 1, Lib.frozen_of_heap hh 2⟩
/-- The two parts that a unit adds. -/
def unitP (D : ByteArray) (a f t : Nat) (key : ByteArray) : List Pt := [skel D a f, ⟨true, key, D.extract f t⟩]
def EndUnit (B : Nat) (D : ByteArray) (base : Nat) (ps : List Pt) (a : Nat) (w : World) (e : Ending) (w' : World) : Prop := e = .returned (.tuple #[]) ∧ ∃ vp', Bu w' B D base ps vp' a ∧ ∀ k, k ≤ B → Below k w w'
set_option maxHeartbeats 6400000 in
theorem refunit_any (B : Nat) (D : ByteArray) (base : Nat) (ps : List Pt) (vp : Value) (a f t : Nat) (key : ByteArray) (w : World) (h : Bu w B D base ps vp a) (hs : D.size ≤ 1000000000000) (h1 : a ≤ f) (h2 : f ≤ t) (h3 : t ≤ D.size) (hps : ps.length ≤ 1000000000000) (hbw : base ≤ w.heap.size) :
    Calls Tryd.prog 66 #[.pointer (some ⟨B, 0, none⟩), .string key, .int .i64 f, .int .i64 t] w (EndUnit B D base (ps ++ unitP D a f t key) t w) := by
  obtain ⟨pv, cv, rfl, hv1, hv2, _⟩ := h.own.pts
  obtain ⟨c0, c1, c2, f0, f1, f2⟩ := h.cells
  have hdr : Below w.heap.size w w.drew := (Below.refl _ w).drew
  obtain ⟨e0, e1, e2, _, _, _⟩ := (h.call hdr).cells
  have j0 : (0 : Int) ≤ (a : Int) := by omega
  have j1 : (a : Int) ≤ (f : Int) := by omega
  have j2 : (f : Int) ≤ (D.size : Int) := by omega
  have j3 : (0 : Int) ≤ (f : Int) := by omega
  have j4 : (f : Int) ≤ (t : Int) := by omega
  have j5 : (t : Int) ≤ (D.size : Int) := by omega
  have hlt := (Array.getElem?_eq_some_iff.1 h.hh).1
  have hBb := h.lt
  have hbA : Below w.heap.size w ((w.drew).alloc (.cells #[.bool false, .string ⟨#[]⟩, .string (D.extract a f), .bool true, .string key, .string (D.extract f t)] 64)) := hdr.trans ((Below.refl _ _).alloc (by simp) _)
  have hVA : Bu ((w.drew).alloc (.cells #[.bool false, .string ⟨#[]⟩, .string (D.extract a f), .bool true, .string key, .string (D.extract f t)] 64)) B D base ps (.slice pv ps.length cv) a := h.call hbA
  obtain ⟨d0, d1, d2, k0, k1, k2⟩ := hVA.cells
  have HV := Lib.hid hVA
  have HOW := Lib.hid hVA.own
  have hsz6 : base ≤ ((w.drew).alloc (.cells #[.bool false, .string ⟨#[]⟩, .string (D.extract a f), .bool true, .string key, .string (D.extract f t)] 64)).heap.size := by simp; omega
  have hnw : ((w.drew).alloc (.cells #[.bool false, .string ⟨#[]⟩, .string (D.extract a f), .bool true, .string key, .string (D.extract f t)] 64)).heap[w.heap.size]? = some (.cells #[.bool false, .string ⟨#[]⟩, .string (D.extract a f), .bool true, .string key, .string (D.extract f t)] 64 (0, 0)) := heap_at (by simp) _
  have HNW := Lib.hid hnw
  have hfin : ∀ g cap w5, OwnL 64 3 penc base (ps ++ unitP D a f t key) (.slice (some ⟨g, 0, none⟩) (ps.length + 2) cap) w5 → World.grownBy ((w.drew).alloc (.cells #[.bool false, .string ⟨#[]⟩, .string (D.extract a f), .bool true, .string key, .string (D.extract f t)] 64)) w5 (Value.slice pv ps.length cv).ownBlock → (w5.setCell ⟨B, 1, none⟩ (.slice (some ⟨g, 0, none⟩) (ps.length + 2) cap)).heap[B]? = some (.cells #[.string D, .slice (some ⟨g, 0, none⟩) (ps.length + 2) cap, .int .i64 (a : Int)] 107 (0, 0)) →
      EndUnit B D base (ps ++ unitP D a f t key) t w (.returned (.tuple #[])) ((w5.setCell ⟨B, 1, none⟩ (.slice (some ⟨g, 0, none⟩) (ps.length + 2) cap)).setCell ⟨B, 2, none⟩ (.int .i64 (t : Int))) := fun g cap w5 hO hg hst => by
    have hst2 := setCell_heap _ B 2 _ 107 (.int .i64 (t : Int)) hst
    have hk : ∀ j, j ≠ B → ((w5.setCell ⟨B, 1, none⟩ (.slice (some ⟨g, 0, none⟩) (ps.length + 2) cap)).setCell ⟨B, 2, none⟩ (.int .i64 (t : Int))).heap[j]? = w5.heap[j]? := fun j hj => (Below.heap_setCell _ ⟨B, 2, none⟩ _ j hj).trans (Below.heap_setCell _ ⟨B, 1, none⟩ _ j hj)
    have hsz : ((w5.setCell ⟨B, 1, none⟩ (.slice (some ⟨g, 0, none⟩) (ps.length + 2) cap)).setCell ⟨B, 2, none⟩ (.int .i64 (t : Int))).heap.size = w5.heap.size := by simp
    refine ⟨rfl, .slice (some ⟨g, 0, none⟩) (ps.length + 2) cap, ⟨by simpa using hst2, hO.keep (by rw [hsz]; exact Nat.le_refl _) (fun j hj hjl => hk j (fun e => by omega)), hBb⟩, fun k hkB => ?_⟩
    have b1 : Below k w ((w.drew).alloc (.cells #[.bool false, .string ⟨#[]⟩, .string (D.extract a f), .bool true, .string key, .string (D.extract f t)] 64)) := ⟨hbA.os, hbA.tape, hbA.output, hbA.size, fun i hi => hbA.block i (by omega)⟩
    have b2 := b1.grown hg (by have := hbA.size; omega) (fun j hj => by have := (HOW.out.lt j hj).1; omega)
    exact (b2.setCell (p := ⟨B, 1, none⟩) hkB _).setCell (p := ⟨B, 2, none⟩) hkB _
  have FIN := Lib.hid hfin
  clear hfin hnw hVA hdr hbA
  go_enter Tryd.func66, Tryd.ntmps66
  go_upto_region 0 with fail
  refine wp_region_held_drew (S := fun W => W.cell? ⟨B, 0, none⟩ = some (.string D) ∧ W.cell? ⟨B, 2, none⟩ = some (.int .i64 (a : Int))) (by kernel_rfl) ⟨e0, e2⟩ (fun hHeld => ?_)
  refine wpAnyH_take (i := 0) (v := ?_) rfl (by kernel_rfl) (by kernel_rfl) (by kernel_rfl) (fun _ _ _ h => h) (Or.inl ⟨by rfl, ?_⟩) hHeld ?_
  rotate_left
  · (intro w hSw; (try dsimp only at hSw); go_simp; try with_reducible rfl)
  try simp only [Act.put, List.getElem_toArray, List.getElem_cons_zero, List.getElem_cons_succ, List.setIfInBounds_toArray, List.set_cons_zero, List.set_cons_succ]
  refine wpAnyH_take (i := 1) (v := ?_) rfl (by kernel_rfl) (by kernel_rfl) (by kernel_rfl) (fun _ _ _ h => h) (Or.inl ⟨by rfl, ?_⟩) hHeld ?_
  rotate_left
  · (intro w hSw; (try dsimp only at hSw); go_simp; try with_reducible rfl)
  try simp only [Act.put, List.getElem_toArray, List.getElem_cons_zero, List.getElem_cons_succ, List.setIfInBounds_toArray, List.set_cons_zero, List.set_cons_succ]
  refine wpAnyH_take (i := 2) (v := ?_) rfl (by kernel_rfl) (by kernel_rfl) (by kernel_rfl) (fun _ _ _ h => h) (Or.inl ⟨by rfl, ?_⟩) hHeld ?_
  rotate_left
  · (intro w hSw; (try dsimp only at hSw); go_simp; try with_reducible rfl)
  try simp only [Act.put, List.getElem_toArray, List.getElem_cons_zero, List.getElem_cons_succ, List.setIfInBounds_toArray, List.set_cons_zero, List.set_cons_succ]
  refine wpAnyH_take (i := 3) (v := ?_) rfl (by kernel_rfl) (by kernel_rfl) (by kernel_rfl) (fun _ _ _ h => h) (Or.inl ⟨by rfl, ?_⟩) hHeld ?_
  rotate_left
  · (intro w hSw; (try dsimp only at hSw); go_simp; try with_reducible rfl)
  try simp only [Act.put, List.getElem_toArray, List.getElem_cons_zero, List.getElem_cons_succ, List.setIfInBounds_toArray, List.set_cons_zero, List.set_cons_succ]
  refine wpAnyH_take (i := 5) (v := ?_) rfl (by kernel_rfl) (by kernel_rfl) (by kernel_rfl) (fun _ _ _ h => h) (Or.inl ⟨by rfl, ?_⟩) hHeld ?_
  rotate_left
  · (intro w hSw; (try dsimp only at hSw); go_simp; try with_reducible rfl)
  try simp only [Act.put, List.getElem_toArray, List.getElem_cons_zero, List.getElem_cons_succ, List.setIfInBounds_toArray, List.set_cons_zero, List.set_cons_succ]
  refine wpAnyH_take (i := 6) (v := ?_) rfl (by kernel_rfl) (by kernel_rfl) (by kernel_rfl) (fun _ _ _ h => h) (Or.inl ⟨by rfl, ?_⟩) hHeld ?_
  rotate_left
  · (intro w hSw; (try dsimp only at hSw); go_simp; try with_reducible rfl)
  try simp only [Act.put, List.getElem_toArray, List.getElem_cons_zero, List.getElem_cons_succ, List.setIfInBounds_toArray, List.set_cons_zero, List.set_cons_succ]
  refine wpAnyH_take (i := 7) (v := ?_) rfl (by kernel_rfl) (by kernel_rfl) (by kernel_rfl) (fun _ _ _ h => h) (Or.inl ⟨by rfl, ?_⟩) hHeld ?_
  rotate_left
  · (intro w hSw; (try dsimp only at hSw); go_simp; try with_reducible rfl)
  try simp only [Act.put, List.getElem_toArray, List.getElem_cons_zero, List.getElem_cons_succ, List.setIfInBounds_toArray, List.set_cons_zero, List.set_cons_succ]
  refine wpAnyH_take (i := 8) (v := ?_) rfl (by kernel_rfl) (by kernel_rfl) (by kernel_rfl) (fun _ _ _ h => h) (Or.inl ⟨by rfl, ?_⟩) hHeld ?_
  rotate_left
  · (intro w hSw; have hc := hSw.1; go_simp; try with_reducible rfl)
  try simp only [Act.put, List.getElem_toArray, List.getElem_cons_zero, List.getElem_cons_succ, List.setIfInBounds_toArray, List.set_cons_zero, List.set_cons_succ]
  refine wpAnyH_take (i := 9) (v := ?_) rfl (by kernel_rfl) (by kernel_rfl) (by kernel_rfl) (fun _ _ _ h => h) (Or.inl ⟨by rfl, ?_⟩) hHeld ?_
  rotate_left
  · (intro w hSw; (try dsimp only at hSw); go_simp; try with_reducible rfl)
  try simp only [Act.put, List.getElem_toArray, List.getElem_cons_zero, List.getElem_cons_succ, List.setIfInBounds_toArray, List.set_cons_zero, List.set_cons_succ]
  refine wpAnyH_take (i := 10) (v := ?_) rfl (by kernel_rfl) (by kernel_rfl) (by kernel_rfl) (fun _ _ _ h => h) (Or.inl ⟨by rfl, ?_⟩) hHeld ?_
  rotate_left
  · (intro w hSw; (try dsimp only at hSw); go_simp; try with_reducible rfl)
  try simp only [Act.put, List.getElem_toArray, List.getElem_cons_zero, List.getElem_cons_succ, List.setIfInBounds_toArray, List.set_cons_zero, List.set_cons_succ]
  refine wpAnyH_take (i := 11) (v := ?_) rfl (by kernel_rfl) (by kernel_rfl) (by kernel_rfl) (fun _ _ _ h => h) (Or.inl ⟨by rfl, ?_⟩) hHeld ?_
  rotate_left
  · (intro w hSw; (try dsimp only at hSw); go_simp; try with_reducible rfl)
  try simp only [Act.put, List.getElem_toArray, List.getElem_cons_zero, List.getElem_cons_succ, List.setIfInBounds_toArray, List.set_cons_zero, List.set_cons_succ]
  refine wpAnyH_take (i := 12) (v := ?_) rfl (by kernel_rfl) (by kernel_rfl) (by kernel_rfl) (fun _ _ _ h => h) (Or.inl ⟨by rfl, ?_⟩) hHeld ?_
  rotate_left
  · (intro w hSw; have hc := hSw.2; go_simp; try with_reducible rfl)
  try simp only [Act.put, List.getElem_toArray, List.getElem_cons_zero, List.getElem_cons_succ, List.setIfInBounds_toArray, List.set_cons_zero, List.set_cons_succ]
  refine wpAnyH_take (i := 13) (v := ?_) rfl (by kernel_rfl) (by kernel_rfl) (by kernel_rfl) (fun _ _ _ h => h) (Or.inl ⟨by rfl, ?_⟩) hHeld ?_
  rotate_left
  · (intro w hSw; (try dsimp only at hSw); go_simp; try with_reducible rfl)
  try simp only [Act.put, List.getElem_toArray, List.getElem_cons_zero, List.getElem_cons_succ, List.setIfInBounds_toArray, List.set_cons_zero, List.set_cons_succ]
  refine wpAnyH_take (i := 14) (v := ?_) rfl (by kernel_rfl) (by kernel_rfl) (by kernel_rfl) (fun _ _ _ h => h) (Or.inl ⟨by rfl, ?_⟩) hHeld ?_
  rotate_left
  · (intro w hSw; (try dsimp only at hSw); go_simp; try with_reducible rfl)
  try simp only [Act.put, List.getElem_toArray, List.getElem_cons_zero, List.getElem_cons_succ, List.setIfInBounds_toArray, List.set_cons_zero, List.set_cons_succ]
  refine wpAnyH_take (i := 15) (v := ?_) rfl (by kernel_rfl) (by kernel_rfl) (by kernel_rfl) (fun _ _ _ h => h) (Or.inl ⟨by rfl, ?_⟩) hHeld ?_
  rotate_left
  · (intro w hSw; (try dsimp only at hSw); go_simp; try with_reducible rfl)
  try simp only [Act.put, List.getElem_toArray, List.getElem_cons_zero, List.getElem_cons_succ, List.setIfInBounds_toArray, List.set_cons_zero, List.set_cons_succ]
  refine wpAnyH_take (i := 16) (v := ?_) rfl (by kernel_rfl) (by kernel_rfl) (by kernel_rfl) (fun _ _ _ h => h) (Or.inl ⟨by rfl, ?_⟩) hHeld ?_
  rotate_left
  · (intro w hSw; (try dsimp only at hSw); go_simp; try with_reducible rfl)
  try simp only [Act.put, List.getElem_toArray, List.getElem_cons_zero, List.getElem_cons_succ, List.setIfInBounds_toArray, List.set_cons_zero, List.set_cons_succ]
  refine wpAnyH_take (i := 17) (v := ?_) rfl (by kernel_rfl) (by kernel_rfl) (by kernel_rfl) (fun _ _ _ h => h) (Or.inl ⟨by rfl, ?_⟩) hHeld ?_
  rotate_left
  · (intro w hSw; (try dsimp only at hSw); go_simp; try with_reducible rfl)
  try simp only [Act.put, List.getElem_toArray, List.getElem_cons_zero, List.getElem_cons_succ, List.setIfInBounds_toArray, List.set_cons_zero, List.set_cons_succ]
  refine wpAnyH_take (i := 18) (v := ?_) rfl (by kernel_rfl) (by kernel_rfl) (by kernel_rfl) (fun _ _ _ h => h) (Or.inl ⟨by rfl, ?_⟩) hHeld ?_
  rotate_left
  · (intro w hSw; (try dsimp only at hSw); go_simp; try with_reducible rfl)
  try simp only [Act.put, List.getElem_toArray, List.getElem_cons_zero, List.getElem_cons_succ, List.setIfInBounds_toArray, List.set_cons_zero, List.set_cons_succ]
  refine wpAnyH_take (i := 19) (v := ?_) rfl (by kernel_rfl) (by kernel_rfl) (by kernel_rfl) (fun _ _ _ h => h) (Or.inl ⟨by rfl, ?_⟩) hHeld ?_
  rotate_left
  · (intro w hSw; (try dsimp only at hSw); go_simp; try with_reducible rfl)
  try simp only [Act.put, List.getElem_toArray, List.getElem_cons_zero, List.getElem_cons_succ, List.setIfInBounds_toArray, List.set_cons_zero, List.set_cons_succ]
  refine wpAnyH_take (i := 20) (v := ?_) rfl (by kernel_rfl) (by kernel_rfl) (by kernel_rfl) (fun _ _ _ h => h) (Or.inl ⟨by rfl, ?_⟩) hHeld ?_
  rotate_left
  · (intro w hSw; have hc := hSw.1; go_simp; try with_reducible rfl)
  try simp only [Act.put, List.getElem_toArray, List.getElem_cons_zero, List.getElem_cons_succ, List.setIfInBounds_toArray, List.set_cons_zero, List.set_cons_succ]
  refine wpAnyH_take (i := 21) (v := ?_) rfl (by kernel_rfl) (by kernel_rfl) (by kernel_rfl) (fun _ _ _ h => h) (Or.inl ⟨by rfl, ?_⟩) hHeld ?_
  rotate_left
  · (intro w hSw; (try dsimp only at hSw); go_simp; try with_reducible rfl)
  try simp only [Act.put, List.getElem_toArray, List.getElem_cons_zero, List.getElem_cons_succ, List.setIfInBounds_toArray, List.set_cons_zero, List.set_cons_succ]
  refine wpAnyH_take (i := 22) (v := ?_) rfl (by kernel_rfl) (by kernel_rfl) (by kernel_rfl) (fun _ _ _ h => h) (Or.inl ⟨by rfl, ?_⟩) hHeld ?_
  rotate_left
  · (intro w hSw; (try dsimp only at hSw); go_simp; try with_reducible rfl)
  try simp only [Act.put, List.getElem_toArray, List.getElem_cons_zero, List.getElem_cons_succ, List.setIfInBounds_toArray, List.set_cons_zero, List.set_cons_succ]
  refine wpAnyH_take (i := 23) (v := ?_) rfl (by kernel_rfl) (by kernel_rfl) (by kernel_rfl) (fun _ _ _ h => h) (Or.inl ⟨by rfl, ?_⟩) hHeld ?_
  rotate_left
  · (intro w hSw; (try dsimp only at hSw); go_simp; try with_reducible rfl)
  try simp only [Act.put, List.getElem_toArray, List.getElem_cons_zero, List.getElem_cons_succ, List.setIfInBounds_toArray, List.set_cons_zero, List.set_cons_succ]
  refine wpAnyH_take (i := 24) (v := ?_) rfl (by kernel_rfl) (by kernel_rfl) (by kernel_rfl) (fun _ _ _ h => h) (Or.inl ⟨by rfl, ?_⟩) hHeld ?_
  rotate_left
  · (intro w hSw; (try dsimp only at hSw); go_simp; try with_reducible rfl)
  try simp only [Act.put, List.getElem_toArray, List.getElem_cons_zero, List.getElem_cons_succ, List.setIfInBounds_toArray, List.set_cons_zero, List.set_cons_succ]
  refine wpAnyH_ready (rs := [4, 25]) (by kernel_rfl) (by simp) ?_
  refine AllReadyH.cons rfl (fun K hK => ?_) (AllReadyH.cons rfl (fun K hK => ?_) (AllReadyH.nil))
  · skip
    go_simp
    refine hK.out _ _ hHeld (fun hHeld => ?_)
    clear hK K
    try simp only [Act.put, List.getElem_toArray, List.getElem_cons_zero, List.getElem_cons_succ, List.setIfInBounds_toArray, List.set_cons_zero, List.set_cons_succ]
    refine wpAnyH_ready (rs := [25]) (by kernel_rfl) (by simp) ?_
    refine AllReadyH.cons rfl (fun K hK => ?_) (AllReadyH.nil)
    go_simp
    refine hK.out _ _ ⟨d0, d2⟩ (fun hHeld => ?_)
    clear hK K
    try simp only [Act.put, List.getElem_toArray, List.getElem_cons_zero, List.getElem_cons_succ, List.setIfInBounds_toArray, List.set_cons_zero, List.set_cons_succ]
    refine wpAnyH_ready (rs := [26]) (by kernel_rfl) (by simp) ?_
    refine AllReadyH.cons rfl (fun K hK => ?_) AllReadyH.nil
    refine step_appm eP _ (by rfl) _ _ (by rfl) base ps (.slice pv ps.length cv) (by rfl) HOW.out hsz6 (unitP D a f t key) 2 w.heap.size _ rfl (by omega) (by rfl) HNW.out (by rfl) (by omega) (by unfold maxLen; omega) ?_
    intro g cap w5 hO5 hg5 hl5
    obtain ⟨y0, y1, y2, m0, m1, m2⟩ := HV.out.past hg5
    try go_simp
    refine hK.out _ _ ⟨y0, y2⟩ (fun hHeld => ?_)
    clear hK K
    try simp only [Act.put, List.getElem_toArray, List.getElem_cons_zero, List.getElem_cons_succ, List.setIfInBounds_toArray, List.set_cons_zero, List.set_cons_succ]
    refine wpAnyH_take (i := 27) (v := ?_) rfl (by kernel_rfl) (by kernel_rfl) (by kernel_rfl) (fun _ _ _ h => h) (Or.inl ⟨by rfl, ?_⟩) hHeld ?_
    rotate_left
    · (intro w hSw; (try dsimp only at hSw); go_simp; try with_reducible rfl)
    try simp only [Act.put, List.getElem_toArray, List.getElem_cons_zero, List.getElem_cons_succ, List.setIfInBounds_toArray, List.set_cons_zero, List.set_cons_succ]
    refine wpAnyH_take (i := 28) (v := ?_) rfl (by kernel_rfl) (by kernel_rfl) (by kernel_rfl) (fun _ _ _ h => h) (Or.inl ⟨by rfl, ?_⟩) hHeld ?_
    rotate_left
    · (intro w hSw; (try dsimp only at hSw); go_simp; try with_reducible rfl)
    try simp only [Act.put, List.getElem_toArray, List.getElem_cons_zero, List.getElem_cons_succ, List.setIfInBounds_toArray, List.set_cons_zero, List.set_cons_succ]
    refine wpAnyH_ready (rs := [29]) (by kernel_rfl) (by simp) ?_
    refine AllReadyH.cons rfl (fun K hK => ?_) AllReadyH.nil
    go_simp
    have hb5 := HV.out.blk hg5
    have hst := setCell_heap w5 B 1 _ 107 (.slice (some ⟨g, 0, none⟩) (ps.length + 2) cap) hb5
    refine hK.out _ _ ⟨by rw [World.cell?_setCell_other _ _ _ _ (by simp)]; exact y0, by rw [World.cell?_setCell_other _ _ _ _ (by simp)]; exact y2⟩ (fun hHeld => ?_)
    clear hK K
    try simp only [Act.put, List.getElem_toArray, List.getElem_cons_zero, List.getElem_cons_succ, List.setIfInBounds_toArray, List.set_cons_zero, List.set_cons_succ]
    have hst0 : (w5.setCell ⟨B, 1, none⟩ (.slice (some ⟨g, 0, none⟩) (ps.length + 2) cap)).heap[B]? = some (.cells #[.string D, .slice (some ⟨g, 0, none⟩) (ps.length + 2) cap, .int .i64 (a : Int)] 107 (0, 0)) := by simpa using hst
    have hFIN := FIN.out g cap w5 hO5 hg5 hst0
    have HF := Lib.hid hFIN
    have z2 : (w5.setCell ⟨B, 1, none⟩ (.slice (some ⟨g, 0, none⟩) (ps.length + 2) cap)).cell? ⟨B, 2, none⟩ = some (.int .i64 (a : Int)) := by rw [Lib.cell_of_heap hst0]; rfl
    have zf := Lib.frozen_of_heap hst0 2
    clear hFIN hst hst0 hO5 hg5 hb5 y0 y1 y2 m0 m1 m2
    refine wpAnyH_done (by kernel_rfl) ?_ _
    generalize w5.setCell ⟨B, 1, none⟩ (.slice (some ⟨g, 0, none⟩) (ps.length + 2) cap) = w6 at *
    go_wp2_with fail
    go_returns
    exact HF.out
  · skip
    go_simp
    refine hK.out _ _ ⟨d0, d2⟩ (fun hHeld => ?_)
    clear hK K
    try simp only [Act.put, List.getElem_toArray, List.getElem_cons_zero, List.getElem_cons_succ, List.setIfInBounds_toArray, List.set_cons_zero, List.set_cons_succ]
    refine wpAnyH_ready (rs := [4]) (by kernel_rfl) (by simp) ?_
    refine AllReadyH.cons rfl (fun K hK => ?_) (AllReadyH.nil)
    go_simp
    refine hK.out _ _ ⟨d0, d2⟩ (fun hHeld => ?_)
    clear hK K
    try simp only [Act.put, List.getElem_toArray, List.getElem_cons_zero, List.getElem_cons_succ, List.setIfInBounds_toArray, List.set_cons_zero, List.set_cons_succ]
    refine wpAnyH_ready (rs := [26]) (by kernel_rfl) (by simp) ?_
    refine AllReadyH.cons rfl (fun K hK => ?_) AllReadyH.nil
    refine step_appm eP _ (by rfl) _ _ (by rfl) base ps (.slice pv ps.length cv) (by rfl) HOW.out hsz6 (unitP D a f t key) 2 w.heap.size _ rfl (by omega) (by rfl) HNW.out (by rfl) (by omega) (by unfold maxLen; omega) ?_
    intro g cap w5 hO5 hg5 hl5
    obtain ⟨y0, y1, y2, m0, m1, m2⟩ := HV.out.past hg5
    try go_simp
    refine hK.out _ _ ⟨y0, y2⟩ (fun hHeld => ?_)
    clear hK K
    try simp only [Act.put, List.getElem_toArray, List.getElem_cons_zero, List.getElem_cons_succ, List.setIfInBounds_toArray, List.set_cons_zero, List.set_cons_succ]
    refine wpAnyH_take (i := 27) (v := ?_) rfl (by kernel_rfl) (by kernel_rfl) (by kernel_rfl) (fun _ _ _ h => h) (Or.inl ⟨by rfl, ?_⟩) hHeld ?_
    rotate_left
    · (intro w hSw; (try dsimp only at hSw); go_simp; try with_reducible rfl)
    try simp only [Act.put, List.getElem_toArray, List.getElem_cons_zero, List.getElem_cons_succ, List.setIfInBounds_toArray, List.set_cons_zero, List.set_cons_succ]
    refine wpAnyH_take (i := 28) (v := ?_) rfl (by kernel_rfl) (by kernel_rfl) (by kernel_rfl) (fun _ _ _ h => h) (Or.inl ⟨by rfl, ?_⟩) hHeld ?_
    rotate_left
    · (intro w hSw; (try dsimp only at hSw); go_simp; try with_reducible rfl)
    try simp only [Act.put, List.getElem_toArray, List.getElem_cons_zero, List.getElem_cons_succ, List.setIfInBounds_toArray, List.set_cons_zero, List.set_cons_succ]
    refine wpAnyH_ready (rs := [29]) (by kernel_rfl) (by simp) ?_
    refine AllReadyH.cons rfl (fun K hK => ?_) AllReadyH.nil
    go_simp
    have hb5 := HV.out.blk hg5
    have hst := setCell_heap w5 B 1 _ 107 (.slice (some ⟨g, 0, none⟩) (ps.length + 2) cap) hb5
    refine hK.out _ _ ⟨by rw [World.cell?_setCell_other _ _ _ _ (by simp)]; exact y0, by rw [World.cell?_setCell_other _ _ _ _ (by simp)]; exact y2⟩ (fun hHeld => ?_)
    clear hK K
    try simp only [Act.put, List.getElem_toArray, List.getElem_cons_zero, List.getElem_cons_succ, List.setIfInBounds_toArray, List.set_cons_zero, List.set_cons_succ]
    have hst0 : (w5.setCell ⟨B, 1, none⟩ (.slice (some ⟨g, 0, none⟩) (ps.length + 2) cap)).heap[B]? = some (.cells #[.string D, .slice (some ⟨g, 0, none⟩) (ps.length + 2) cap, .int .i64 (a : Int)] 107 (0, 0)) := by simpa using hst
    have hFIN := FIN.out g cap w5 hO5 hg5 hst0
    have HF := Lib.hid hFIN
    have z2 : (w5.setCell ⟨B, 1, none⟩ (.slice (some ⟨g, 0, none⟩) (ps.length + 2) cap)).cell? ⟨B, 2, none⟩ = some (.int .i64 (a : Int)) := by rw [Lib.cell_of_heap hst0]; rfl
    have zf := Lib.frozen_of_heap hst0 2
    clear hFIN hst hst0 hO5 hg5 hb5 y0 y1 y2 m0 m1 m2
    refine wpAnyH_done (by kernel_rfl) ?_ _
    generalize w5.setCell ⟨B, 1, none⟩ (.slice (some ⟨g, 0, none⟩) (ps.length + 2) cap) = w6 at *
    go_wp2_with fail
    go_returns
    exact HF.out
def EndEnd (L : List Pt) (B : Nat) (w : World) (e : Ending) (w' : World) : Prop := ∃ p c, e = .returned (.slice p L.length c) ∧ L.length ≤ c ∧ c ≤ maxLen ∧ Pts w' p L ∧ ∀ k, k ≤ B → Below k w w'
set_option maxHeartbeats 3200000 in
theorem refend_any (B : Nat) (D : ByteArray) (base : Nat) (ps : List Pt) (vp : Value) (a : Nat) (w : World) (h : Bu w B D base ps vp a) (hs : D.size ≤ 1000000000000) (h1 : a ≤ D.size) (hps : ps.length ≤ 1000000000000) (hbw : base ≤ w.heap.size) :
    Calls Tryd.prog 67 #[.pointer (some ⟨B, 0, none⟩)] w (EndEnd (ps ++ [skel D a D.size]) B w) := by
  obtain ⟨pv, cv, rfl, hv1, hv2, _⟩ := h.own.pts
  obtain ⟨c0, c1, c2, f0, f1, f2⟩ := h.cells
  have hdr : Below w.heap.size w w.drew := (Below.refl _ w).drew
  obtain ⟨e0, e1, e2, _, _, _⟩ := (h.call hdr).cells
  have j0 : (0 : Int) ≤ (a : Int) := by omega
  have j1 : (a : Int) ≤ (D.size : Int) := by omega
  have hlt := (Array.getElem?_eq_some_iff.1 h.hh).1
  have hBb := h.lt
  have hbA : Below w.heap.size w ((w.drew).alloc (.cells #[.bool false, .string ⟨#[]⟩, .string (D.extract a D.size)] 64)) := hdr.trans ((Below.refl _ _).alloc (by simp) _)
  have hVA : Bu ((w.drew).alloc (.cells #[.bool false, .string ⟨#[]⟩, .string (D.extract a D.size)] 64)) B D base ps (.slice pv ps.length cv) a := h.call hbA
  obtain ⟨d0, d1, d2, k0, k1, k2⟩ := hVA.cells
  have HV := Lib.hid hVA
  have HOW := Lib.hid hVA.own
  have hsz6 : base ≤ ((w.drew).alloc (.cells #[.bool false, .string ⟨#[]⟩, .string (D.extract a D.size)] 64)).heap.size := by simp; omega
  have hnw : ((w.drew).alloc (.cells #[.bool false, .string ⟨#[]⟩, .string (D.extract a D.size)] 64)).heap[w.heap.size]? = some (.cells #[.bool false, .string ⟨#[]⟩, .string (D.extract a D.size)] 64 (0, 0)) := heap_at (by simp) _
  have HNW := Lib.hid hnw
  have hfin : ∀ g cap w5, OwnL 64 3 penc base (ps ++ [skel D a D.size]) (.slice (some ⟨g, 0, none⟩) (ps.length + 1) cap) w5 → World.grownBy ((w.drew).alloc (.cells #[.bool false, .string ⟨#[]⟩, .string (D.extract a D.size)] 64)) w5 (Value.slice pv ps.length cv).ownBlock →
      EndEnd (ps ++ [skel D a D.size]) B w (.returned (.slice (some ⟨g, 0, none⟩) (ps.length + 1) cap)) w5 := fun g cap w5 hO hg => by
    obtain ⟨p4, c4, hv4, x1, x2, hP4⟩ := hO.pts
    injection hv4 with q1 q2 q3
    refine ⟨some ⟨g, 0, none⟩, cap, by simp, by rw [q3]; exact x1, by rw [q3]; exact x2, by rw [q1]; exact hP4, fun k hkB => ?_⟩
    have b1 : Below k w ((w.drew).alloc (.cells #[.bool false, .string ⟨#[]⟩, .string (D.extract a D.size)] 64)) := ⟨hbA.os, hbA.tape, hbA.output, hbA.size, fun i hi => hbA.block i (by omega)⟩
    exact b1.grown hg (by have := hbA.size; omega) (fun j hj => by have := (HOW.out.lt j hj).1; omega)
  have FIN := Lib.hid hfin
  clear hfin hnw hVA hdr hbA
  go_enter Tryd.func67, Tryd.ntmps67
  go_upto_region 1 with fail
  refine wp_region_held_drew (S := fun W => W.cell? ⟨B, 0, none⟩ = some (.string D) ∧ W.cell? ⟨B, 2, none⟩ = some (.int .i64 (a : Int))) (by kernel_rfl) ⟨e0, e2⟩ (fun hHeld => ?_)
  refine wpAnyH_take (i := 0) (v := ?_) rfl (by kernel_rfl) (by kernel_rfl) (by kernel_rfl) (fun _ _ _ h => h) (Or.inl ⟨by rfl, ?_⟩) hHeld ?_
  rotate_left
  · (intro w hSw; (try dsimp only at hSw); go_simp; try with_reducible rfl)
  try simp only [Act.put, List.getElem_toArray, List.getElem_cons_zero, List.getElem_cons_succ, List.setIfInBounds_toArray, List.set_cons_zero, List.set_cons_succ]
  refine wpAnyH_take (i := 1) (v := ?_) rfl (by kernel_rfl) (by kernel_rfl) (by kernel_rfl) (fun _ _ _ h => h) (Or.inl ⟨by rfl, ?_⟩) hHeld ?_
  rotate_left
  · (intro w hSw; (try dsimp only at hSw); go_simp; try with_reducible rfl)
  try simp only [Act.put, List.getElem_toArray, List.getElem_cons_zero, List.getElem_cons_succ, List.setIfInBounds_toArray, List.set_cons_zero, List.set_cons_succ]
  refine wpAnyH_take (i := 2) (v := ?_) rfl (by kernel_rfl) (by kernel_rfl) (by kernel_rfl) (fun _ _ _ h => h) (Or.inl ⟨by rfl, ?_⟩) hHeld ?_
  rotate_left
  · (intro w hSw; (try dsimp only at hSw); go_simp; try with_reducible rfl)
  try simp only [Act.put, List.getElem_toArray, List.getElem_cons_zero, List.getElem_cons_succ, List.setIfInBounds_toArray, List.set_cons_zero, List.set_cons_succ]
  refine wpAnyH_take (i := 4) (v := ?_) rfl (by kernel_rfl) (by kernel_rfl) (by kernel_rfl) (fun _ _ _ h => h) (Or.inl ⟨by rfl, ?_⟩) hHeld ?_
  rotate_left
  · (intro w hSw; (try dsimp only at hSw); go_simp; try with_reducible rfl)
  try simp only [Act.put, List.getElem_toArray, List.getElem_cons_zero, List.getElem_cons_succ, List.setIfInBounds_toArray, List.set_cons_zero, List.set_cons_succ]
  refine wpAnyH_take (i := 5) (v := ?_) rfl (by kernel_rfl) (by kernel_rfl) (by kernel_rfl) (fun _ _ _ h => h) (Or.inl ⟨by rfl, ?_⟩) hHeld ?_
  rotate_left
  · (intro w hSw; (try dsimp only at hSw); go_simp; try with_reducible rfl)
  try simp only [Act.put, List.getElem_toArray, List.getElem_cons_zero, List.getElem_cons_succ, List.setIfInBounds_toArray, List.set_cons_zero, List.set_cons_succ]
  refine wpAnyH_take (i := 6) (v := ?_) rfl (by kernel_rfl) (by kernel_rfl) (by kernel_rfl) (fun _ _ _ h => h) (Or.inl ⟨by rfl, ?_⟩) hHeld ?_
  rotate_left
  · (intro w hSw; (try dsimp only at hSw); go_simp; try with_reducible rfl)
  try simp only [Act.put, List.getElem_toArray, List.getElem_cons_zero, List.getElem_cons_succ, List.setIfInBounds_toArray, List.set_cons_zero, List.set_cons_succ]
  refine wpAnyH_take (i := 7) (v := ?_) rfl (by kernel_rfl) (by kernel_rfl) (by kernel_rfl) (fun _ _ _ h => h) (Or.inl ⟨by rfl, ?_⟩) hHeld ?_
  rotate_left
  · (intro w hSw; have hc := hSw.1; go_simp; try with_reducible rfl)
  try simp only [Act.put, List.getElem_toArray, List.getElem_cons_zero, List.getElem_cons_succ, List.setIfInBounds_toArray, List.set_cons_zero, List.set_cons_succ]
  refine wpAnyH_take (i := 8) (v := ?_) rfl (by kernel_rfl) (by kernel_rfl) (by kernel_rfl) (fun _ _ _ h => h) (Or.inl ⟨by rfl, ?_⟩) hHeld ?_
  rotate_left
  · (intro w hSw; (try dsimp only at hSw); go_simp; try with_reducible rfl)
  try simp only [Act.put, List.getElem_toArray, List.getElem_cons_zero, List.getElem_cons_succ, List.setIfInBounds_toArray, List.set_cons_zero, List.set_cons_succ]
  refine wpAnyH_take (i := 9) (v := ?_) rfl (by kernel_rfl) (by kernel_rfl) (by kernel_rfl) (fun _ _ _ h => h) (Or.inl ⟨by rfl, ?_⟩) hHeld ?_
  rotate_left
  · (intro w hSw; (try dsimp only at hSw); go_simp; try with_reducible rfl)
  try simp only [Act.put, List.getElem_toArray, List.getElem_cons_zero, List.getElem_cons_succ, List.setIfInBounds_toArray, List.set_cons_zero, List.set_cons_succ]
  refine wpAnyH_take (i := 10) (v := ?_) rfl (by kernel_rfl) (by kernel_rfl) (by kernel_rfl) (fun _ _ _ h => h) (Or.inl ⟨by rfl, ?_⟩) hHeld ?_
  rotate_left
  · (intro w hSw; (try dsimp only at hSw); go_simp; try with_reducible rfl)
  try simp only [Act.put, List.getElem_toArray, List.getElem_cons_zero, List.getElem_cons_succ, List.setIfInBounds_toArray, List.set_cons_zero, List.set_cons_succ]
  refine wpAnyH_take (i := 11) (v := ?_) rfl (by kernel_rfl) (by kernel_rfl) (by kernel_rfl) (fun _ _ _ h => h) (Or.inl ⟨by rfl, ?_⟩) hHeld ?_
  rotate_left
  · (intro w hSw; have hc := hSw.2; go_simp; try with_reducible rfl)
  try simp only [Act.put, List.getElem_toArray, List.getElem_cons_zero, List.getElem_cons_succ, List.setIfInBounds_toArray, List.set_cons_zero, List.set_cons_succ]
  refine wpAnyH_take (i := 12) (v := ?_) rfl (by kernel_rfl) (by kernel_rfl) (by kernel_rfl) (fun _ _ _ h => h) (Or.inl ⟨by rfl, ?_⟩) hHeld ?_
  rotate_left
  · (intro w hSw; (try dsimp only at hSw); go_simp; try with_reducible rfl)
  try simp only [Act.put, List.getElem_toArray, List.getElem_cons_zero, List.getElem_cons_succ, List.setIfInBounds_toArray, List.set_cons_zero, List.set_cons_succ]
  refine wpAnyH_take (i := 13) (v := ?_) rfl (by kernel_rfl) (by kernel_rfl) (by kernel_rfl) (fun _ _ _ h => h) (Or.inl ⟨by rfl, ?_⟩) hHeld ?_
  rotate_left
  · (intro w hSw; (try dsimp only at hSw); go_simp; try with_reducible rfl)
  try simp only [Act.put, List.getElem_toArray, List.getElem_cons_zero, List.getElem_cons_succ, List.setIfInBounds_toArray, List.set_cons_zero, List.set_cons_succ]
  refine wpAnyH_ready (rs := [3, 14]) (by kernel_rfl) (by simp) ?_
  refine AllReadyH.cons rfl (fun K hK => ?_) (AllReadyH.cons rfl (fun K hK => ?_) (AllReadyH.nil))
  · skip
    go_simp
    refine hK.out _ _ hHeld (fun hHeld => ?_)
    clear hK K
    try simp only [Act.put, List.getElem_toArray, List.getElem_cons_zero, List.getElem_cons_succ, List.setIfInBounds_toArray, List.set_cons_zero, List.set_cons_succ]
    refine wpAnyH_ready (rs := [14]) (by kernel_rfl) (by simp) ?_
    refine AllReadyH.cons rfl (fun K hK => ?_) (AllReadyH.nil)
    go_simp
    refine hK.out _ _ ⟨d0, d2⟩ (fun hHeld => ?_)
    clear hK K
    try simp only [Act.put, List.getElem_toArray, List.getElem_cons_zero, List.getElem_cons_succ, List.setIfInBounds_toArray, List.set_cons_zero, List.set_cons_succ]
    refine wpAnyH_ready (rs := [15]) (by kernel_rfl) (by simp) ?_
    refine AllReadyH.cons rfl (fun K hK => ?_) AllReadyH.nil
    refine step_appm eP _ (by rfl) _ _ (by rfl) base ps (.slice pv ps.length cv) (by rfl) HOW.out hsz6 [skel D a D.size] 1 w.heap.size _ rfl (by omega) (by rfl) HNW.out (by rfl) (by omega) (by unfold maxLen; omega) ?_
    intro g cap w5 hO5 hg5 hl5
    have HF := Lib.hid (FIN.out g cap w5 hO5 hg5)
    have hS5 : w5.cell? ⟨B, 0, none⟩ = some (.string D) ∧ w5.cell? ⟨B, 2, none⟩ = some (.int .i64 (a : Int)) := ⟨(HV.out.past hg5).1, (HV.out.past hg5).2.2.1⟩
    clear hO5 hg5 hl5
    try go_simp
    refine hK.out _ _ hS5 (fun hHeld => ?_)
    clear hK K
    try simp only [Act.put, List.getElem_toArray, List.getElem_cons_zero, List.getElem_cons_succ, List.setIfInBounds_toArray, List.set_cons_zero, List.set_cons_succ]
    refine wpAnyH_take (i := 16) (v := ?_) rfl (by kernel_rfl) (by kernel_rfl) (by kernel_rfl) (fun _ _ _ h => h) (Or.inl ⟨by rfl, ?_⟩) hHeld ?_
    rotate_left
    · (intro w hSw; (try dsimp only at hSw); go_simp; try with_reducible rfl)
    try simp only [Act.put, List.getElem_toArray, List.getElem_cons_zero, List.getElem_cons_succ, List.setIfInBounds_toArray, List.set_cons_zero, List.set_cons_succ]
    refine wpAnyH_done (by kernel_rfl) ?_ _
    go_wp2_with fail
    go_ret
    exact HF.out
  · skip
    go_simp
    refine hK.out _ _ ⟨d0, d2⟩ (fun hHeld => ?_)
    clear hK K
    try simp only [Act.put, List.getElem_toArray, List.getElem_cons_zero, List.getElem_cons_succ, List.setIfInBounds_toArray, List.set_cons_zero, List.set_cons_succ]
    refine wpAnyH_ready (rs := [3]) (by kernel_rfl) (by simp) ?_
    refine AllReadyH.cons rfl (fun K hK => ?_) (AllReadyH.nil)
    go_simp
    refine hK.out _ _ ⟨d0, d2⟩ (fun hHeld => ?_)
    clear hK K
    try simp only [Act.put, List.getElem_toArray, List.getElem_cons_zero, List.getElem_cons_succ, List.setIfInBounds_toArray, List.set_cons_zero, List.set_cons_succ]
    refine wpAnyH_ready (rs := [15]) (by kernel_rfl) (by simp) ?_
    refine AllReadyH.cons rfl (fun K hK => ?_) AllReadyH.nil
    refine step_appm eP _ (by rfl) _ _ (by rfl) base ps (.slice pv ps.length cv) (by rfl) HOW.out hsz6 [skel D a D.size] 1 w.heap.size _ rfl (by omega) (by rfl) HNW.out (by rfl) (by omega) (by unfold maxLen; omega) ?_
    intro g cap w5 hO5 hg5 hl5
    have HF := Lib.hid (FIN.out g cap w5 hO5 hg5)
    have hS5 : w5.cell? ⟨B, 0, none⟩ = some (.string D) ∧ w5.cell? ⟨B, 2, none⟩ = some (.int .i64 (a : Int)) := ⟨(HV.out.past hg5).1, (HV.out.past hg5).2.2.1⟩
    clear hO5 hg5 hl5
    try go_simp
    refine hK.out _ _ hS5 (fun hHeld => ?_)
    clear hK K
    try simp only [Act.put, List.getElem_toArray, List.getElem_cons_zero, List.getElem_cons_succ, List.setIfInBounds_toArray, List.set_cons_zero, List.set_cons_succ]
    refine wpAnyH_take (i := 16) (v := ?_) rfl (by kernel_rfl) (by kernel_rfl) (by kernel_rfl) (fun _ _ _ h => h) (Or.inl ⟨by rfl, ?_⟩) hHeld ?_
    rotate_left
    · (intro w hSw; (try dsimp only at hSw); go_simp; try with_reducible rfl)
    try simp only [Act.put, List.getElem_toArray, List.getElem_cons_zero, List.getElem_cons_succ, List.setIfInBounds_toArray, List.set_cons_zero, List.set_cons_succ]
    refine wpAnyH_done (by kernel_rfl) ?_ _
    go_wp2_with fail
    go_ret
    exact HF.out
end Go.Proofs.YteaciofacmbllaaDoor
namespace Go.Proofs.YteaciofacmbllaaDoor
open Go.ChangeShapes Go.WideShapes Go.ChangeAt Go.RowKit
set_option linter.unusedVariables false
set_option linter.unusedSimpArgs false
set_option maxRecDepth 100000

theorem dec_more {m : Nat} (h : ¬ m < 10) : Lib.decDigits m = Lib.decDigits (m / 10) ++ [UInt8.ofNat (48 + m % 10)] := by rw [Lib.decDigits, dif_neg h]
set_option maxHeartbeats 1600000 in
theorem refdecimal_any (n : Nat) (w : World) (hn : n ≤ 1000000000000) : Calls Tryd.prog 92 #[.int .i64 (n : Int)] w fun e w' => e = .returned (.string (keyR n)) ∧ Below w.heap.size w w' := by
  have HE := Lib.hid (show bsL [] = (⟨#[]⟩ : ByteArray) from rfl)
  have HK := Lib.hid (show keyR n = bsL (Lib.decDigits n ++ []) from by rw [List.append_nil]; rfl)
  go_enter Tryd.func92, Tryd.ntmps92
  go_wp2_with fail
  go_loopw [0, 3] (fun vn va wr => ∃ (m : Nat) (acc : List UInt8), Hid (bsL (Lib.decDigits m ++ acc) = keyR n) ∧ m ≤ n ∧ acc.length + m ≤ n ∧ vn = .int .i64 (m : Int) ∧ va = .string (bsL acc) ∧ Below w.heap.size w wr) (fun vn _ _ => (intOf vn).toNat)
  case atStart => exact ⟨n, [], Lib.hid HK.out.symm, Nat.le_refl _, by simp, rfl, by rw [HE.out], Below.refl _ _⟩
  case round =>
    obtain ⟨m, acc, HM, hm, hl, rfl, rfl, hB⟩ := hrel
    obtain ⟨c, hc⟩ : ∃ c : UInt8, UInt8.ofNat (48 + m % 10) = c := ⟨_, rfl⟩
    have r1 : 48 + (m : Int) % 10 = (c.toNat : Int) := by
      rw [← hc, UInt8.toNat_ofNat', Nat.mod_eq_of_lt (by omega)]; omega
    have b0 : (0 : Int) ≤ (c.toNat : Int) := by omega
    have b1 : (c.toNat : Int) ≤ 255 := by have := c.toNat_lt; omega
    have hcv := rconv_byte wr c
    have hz : ¬ (9223372036854775807 < 1 + (bsL acc).size) := by rw [bsL_size]; omega
    have HC := Lib.hid (show (⟨#[c]⟩ : ByteArray) ++ bsL acc = bsL (c :: acc) from by show bsL [c] ++ bsL acc = _; rw [bsL_append]; rfl)
    have hB2 := BelowOn hB (blw (Below.refl wr.heap.size wr) (.cells #[.int .u8 (c.toNat : Int)] 5))
    by_cases h10 : m < 10
    · have r2 : (m : Int) / 10 = 0 := by omega
      have HR := Lib.hid (show bsL (c :: acc) = keyR n from by
        rw [← HM.out, Lib.decDigits_one h10, ← hc, Nat.mod_eq_of_lt h10]; rfl)
      clear hc
      go_wp2_with fail
      go_ret
      exact ⟨by rw [HC.out, HR.out]; rfl, hB2⟩
    · have r2 : (m : Int) / 10 = ((m / 10 : Nat) : Int) := by omega
      have r3 : (((m / 10 : Nat) : Int) == 0) = false := by rw [beq_eq_false_iff_ne]; omega
      have HR := Lib.hid (show bsL (Lib.decDigits (m / 10) ++ c :: acc) = keyR n from by
        rw [← HM.out, dec_more h10, ← hc, List.append_assoc]; rfl)
      have hlt : m / 10 + 1 ≤ m := by omega
      have hle : m / 10 ≤ n := by omega
      clear hc
      generalize m / 10 = m2 at *
      go_wp2_with fail
      go_roundw
      case rel => exact ⟨m2, c :: acc, HR, hle, by simp only [List.length_cons]; omega, rfl, by rw [HC.out], hB2⟩
      case measure => simp [intOf]; omega
theorem refDecimal_any (n : Nat) (w : World) (hn : n ≤ 1000000000000) : Calls Tryd.prog 57 #[.int .i64 (n : Int)] w fun e w' => e = .returned (.string (keyR n)) ∧ Below w.heap.size w w' := by
  have HD := Lib.hid (refdecimal_any n w hn)
  have r0 : ¬ (n : Int) < 0 := by omega
  have r1 : max (n : Int) 0 = (n : Int) := by omega
  generalize keyR n = K at *
  go_enter Tryd.func57, Tryd.ntmps57
  go_wp2_with fail
  refine HD.out.mono ?_; rintro e w1 ⟨rfl, hb⟩
  go_wp2_with fail
  go_ret
  exact ⟨rfl, hb⟩
end Go.Proofs.YteaciofacmbllaaDoor
namespace Go.Proofs.YteaciofacmbllaaDoor
open Go.ChangeShapes Go.WideShapes Go.ChangeAt Go.RowKit
set_option linter.unusedVariables false
set_option linter.unusedSimpArgs false
set_option maxRecDepth 100000

theorem restD_get (s : ByteArray) (k : Nat) (h : k < s.size) : restD s k = s[k] :: restD s (k + 1) := by unfold restD; exact drop_get s k h
theorem restD_nil (s : ByteArray) (k : Nat) (h : s.size ≤ k) : restD s k = [] := by unfold restD; exact List.drop_of_length_le (by simp; omega)
/-- What the reference's field answers: where it ends, is it quoted, is it one. -/
def FRok (o : Option Fld) (p q : Nat) (b ok : Bool) : Prop := match o with | none => ok = false | some x => ok = true ∧ q = p + x.size ∧ b = x.quoted
def EndFR (o : Option Fld) (p : Nat) (w : World) (e : Ending) (w' : World) : Prop :=
  (∃ (q : Nat) (b ok : Bool), e = .returned (.tuple #[.int .i64 (q : Int), .bool b, .bool ok]) ∧ FRok o p q b ok) ∧ Below w.heap.size w w'
theorem byte_eq {c k : UInt8} (h : (c.toNat : Int) = (k.toNat : Int)) : c = k := UInt8.toNat_inj.1 (by omega)
def stopAt (s : ByteArray) (q : Nat) : Bool := match (restD s q).head? with | none => true | some c => c == 44 || c == 10
theorem ends_at {s : ByteArray} {q : Nat} {x : Fld} {p : Nat} (hp : p + x.size = q) : endF (restD s p) x = if stopAt s q = true then some x else none := by
  have hd : (restD s p).drop x.size = restD s q := by unfold restD; rw [List.drop_drop, hp]
  unfold endF stopAt
  rw [hd]
  cases (restD s q).head? with
  | none => rfl
  | some c =>
    show (if c = 44 ∨ c = 10 then some x else none) = _
    by_cases h : c = 44 ∨ c = 10
    · rw [if_pos h, if_pos (by simpa using h)]
    · rw [if_neg h, if_neg (by simpa using h)]
theorem stop_end {s : ByteArray} {q : Nat} (h : s.size ≤ q) : stopAt s q = true := by unfold stopAt; rw [restD_nil s q h]; rfl
theorem stop_byte {s : ByteArray} {q : Nat} (h : q < s.size) : stopAt s q = (s[q] == 44 || s[q] == 10) := by unfold stopAt; rw [restD_get s q h]; rfl
theorem fr_yes {o : Option Fld} {x : Fld} {p q : Nat} {b : Bool} (h : o = some x) (hq : q = p + x.size) (hb : b = x.quoted) : FRok o p q b true := by subst h; exact ⟨rfl, hq, hb⟩
theorem fr_no {o : Option Fld} {p q : Nat} {b : Bool} (h : o = none) : FRok o p q b false := by subst h; rfl
theorem bar_get (s : ByteArray) (k : Nat) (h : k < s.size) : barL (restD s k) = if stopF s[k] = true then 0 else barL (restD s (k + 1)) + 1 := by
  rw [restD_get s k h]
  unfold barL
  rw [List.takeWhile_cons]
  by_cases hc : stopF s[k] = true
  · simp [hc]
  · have hc' : stopF s[k] = false := by simpa using hc
    simp [hc']
theorem cq_on {s : ByteArray} {k : Nat} (h : k < s.size) (hc : s[k] ≠ 34) : cloQ (restD s k) = (cloQ (restD s (k + 1))).map (· + 1) := by rw [restD_get s k h]; exact cloQ_on _ _ hc
theorem cq_two {s : ByteArray} {k : Nat} (h : k + 1 < s.size) (hc : s[k] = 34) (hd : s[k + 1] = 34) : cloQ (restD s k) = (cloQ (restD s (k + 2))).map (· + 2) := by
  rw [restD_get s k (by omega), restD_get s (k + 1) h, hc, hd]; exact cloQ_two _
theorem cq_one {s : ByteArray} {k : Nat} (h : k + 1 = s.size) (hc : s[k] = 34) : cloQ (restD s k) = some 0 := by
  rw [restD_get s k (by omega), restD_nil s (k + 1) (by omega), hc]; rfl
theorem cq_end {s : ByteArray} {k : Nat} (h : k + 1 < s.size) (hc : s[k] = 34) (hd : s[k + 1] ≠ 34) : cloQ (restD s k) = some 0 := by
  rw [restD_get s k (by omega), restD_get s (k + 1) h, hc]; exact cloQ_end _ _ hd
theorem cq_nil {s : ByteArray} {k : Nat} (h : s.size ≤ k) : cloQ (restD s k) = none := by rw [restD_nil s k h]; rfl
theorem map_add {o : Option Nat} (a b : Nat) : (o.map (· + a)).map (· + b) = o.map (· + (a + b)) := by cases o <;> simp [Nat.add_assoc]
theorem bar_nil (s : ByteArray) (k : Nat) (h : s.size ≤ k) : barL (restD s k) = 0 := by rw [restD_nil s k h]; rfl
set_option maxHeartbeats 6400000 in
theorem reffield_any (s : ByteArray) (p : Nat) (w : World) (hp : p ≤ s.size) (hs : s.size ≤ 1000000000000) : Calls Tryd.prog 71 #[.string s, .int .i64 (p : Int)] w (EndFR (fldS (restD s p)) p w) := by
  by_cases hpz : p < s.size
  · have hg := restD_get s p hpz
    have i0 : (p : Int) < (s.size : Int) := by omega
    have i1 : (0 : Int) ≤ (p : Int) := by omega
    by_cases hq : s[p] = 34
    · skip
      obtain ⟨a, ha⟩ : ∃ a, a = p + 1 := ⟨_, rfl⟩
      have HX0 : Hid (fldS (restD s p) = match cloQ (restD s a) with | none => none | some n => endF (restD s p) ⟨true, n, n + 2⟩) := Lib.hid (by
        have h1 : (restD s p).drop 1 = restD s a := by rw [ha]; unfold restD; rw [List.drop_drop]
        unfold fldS; rw [if_pos (by rw [hg, hq]; rfl), h1]; cases cloQ (restD s a) <;> rfl)
      have hb : ((s[p].toNat : Int) == 34) = true := by rw [hq]; rfl
      have hb2 : (s[p].toNat : Int) = 34 := by rw [hq]; rfl
      clear hg
      go_enter Tryd.func71, Tryd.ntmps71
      go_wp2_with fail
      rw [show (p : Int) + 1 = (a : Int) by omega]
      go_loopw [8] (fun vi wr => ∃ j : Nat, a ≤ j ∧ j ≤ s.size ∧ cloQ (restD s a) = (cloQ (restD s j)).map (· + (j - a)) ∧ vi = .int .i64 (j : Int) ∧ Below w.heap.size w wr) (fun vi _ => s.size - (intOf vi).toNat)
      case atStart => exact ⟨a, Nat.le_refl _, by omega, by rw [Nat.sub_self]; cases cloQ (restD s a) <;> rfl, by first | rfl | go_num | (congr 1; omega), Below.refl _ _⟩
      case round =>
        obtain ⟨j, hj, hjs, hcq, rfl, hB⟩ := hrel
        have HA := Lib.hid ha
        clear ha
        clear hb hb2 i0 i1
        by_cases hz : j < s.size
        · have j0 : (j : Int) < (s.size : Int) := by omega
          have j1 : (0 : Int) ≤ (j : Int) := by omega
          by_cases c3 : s[j] = 34
          · have b3 : ((s[j].toNat : Int) == 34) = true := by rw [c3]; rfl
            have b3b : ((s[j].toNat : Int) != 34) = false := by rw [c3]; rfl
            have b3c : (s[j].toNat : Int) = 34 := by rw [c3]; rfl
            obtain ⟨e, hje⟩ : ∃ e, e = j + 1 := ⟨_, rfl⟩
            have hjz : (j : Int) + 1 = (e : Int) := by omega
            have HJE := Lib.hid hje
            clear hje
            by_cases hez : e < s.size
            · have e0 : (e : Int) < (s.size : Int) := by omega
              have e1 : (0 : Int) ≤ (e : Int) := by omega
              by_cases c6 : s[e] = 34
              · have b6 : ((s[e].toNat : Int) == 34) = true := by rw [c6]; rfl
                have hnx : cloQ (restD s a) = (cloQ (restD s (e + 1))).map (· + (e + 1 - a)) := by
                  have hje := HJE.out; subst hje; rw [hcq, cq_two hez c3 c6, map_add, show 2 + (j - a) = j + 1 + 1 - a by omega]
                go_wp2_with fail
                go_roundw
                case rel => exact ⟨e + 1, by have := HJE.out; omega, by omega, hnx, by first | go_num | (congr 1; omega), hB⟩
                case measure => (try have := HJE.out); simp [intOf]; omega
              · have b6 : ((s[e].toNat : Int) == 34) = false := by rw [beq_eq_false_iff_ne]; exact fun h => c6 (byte_eq (k := 34) h)
                have hc0 : cloQ (restD s a) = some (j - a) := by have hje := HJE.out; subst hje; rw [hcq, cq_end hez c3 c6]; show some (0 + _) = _; rw [Nat.zero_add]
                have HX : Hid (fldS (restD s p) = if stopAt s e = true then some ⟨true, j - a, j - a + 2⟩ else none) := Lib.hid (by rw [HX0.out, hc0]; exact ends_at (show p + (j - a + 2) = e by have := HJE.out; have := HA.out; omega))
                have HS := Lib.hid (show p + (j - a + 2) = e by have := HJE.out; have := HA.out; omega)
                have hej : e ≤ s.size := by omega
                clear hcq hc0
                by_cases he : e = s.size
                · exfalso; omega
                · have q5 : ((e : Int) == (s.size : Int)) = false := by rw [beq_eq_false_iff_ne]; omega
                  have hlt : e < s.size := by omega
                  have e0 : (e : Int) < (s.size : Int) := by omega
                  have e1 : (0 : Int) ≤ (e : Int) := by omega
                  by_cases c1 : s[e] = 44
                  · have b1 : ((s[e].toNat : Int) == 44) = true := by rw [c1]; rfl
                    have HY := Lib.hid (show fldS (restD s p) = some _ from by rw [HX.out, stop_byte hlt, c1, if_pos (by decide)])
                    go_upto_region 14 with fail
                    go_quiet (fail)
                    go_wp2_with fail
                    go_ret3
                    exact ⟨⟨e, true, true, rfl, fr_yes HY.out HS.out.symm rfl⟩, BelowOn hB (below_qN _ _)⟩
                  · have b1 : ((s[e].toNat : Int) == 44) = false := by rw [beq_eq_false_iff_ne]; exact fun h => c1 (byte_eq (k := 44) h)
                    by_cases c2 : s[e] = 10
                    · have b2 : ((s[e].toNat : Int) == 10) = true := by rw [c2]; rfl
                      have HY := Lib.hid (show fldS (restD s p) = some _ from by rw [HX.out, stop_byte hlt, c2, if_pos (by decide)])
                      go_upto_region 14 with fail
                      go_quiet (fail)
                      go_wp2_with fail
                      go_ret3
                      exact ⟨⟨e, true, true, rfl, fr_yes HY.out HS.out.symm rfl⟩, BelowOn hB (below_qN _ _)⟩
                    · have b2 : ((s[e].toNat : Int) == 10) = false := by rw [beq_eq_false_iff_ne]; exact fun h => c2 (byte_eq (k := 10) h)
                      have HY := Lib.hid (show fldS (restD s p) = none from by rw [HX.out, stop_byte hlt, beq_eq_false_iff_ne.2 c1, beq_eq_false_iff_ne.2 c2, if_neg (by decide)])
                      go_upto_region 14 with fail
                      go_quiet (fail)
                      go_wp2_with fail
                      go_ret3
                      exact ⟨⟨e, true, false, rfl, fr_no HY.out⟩, BelowOn hB (below_qN _ _)⟩
            · obtain rfl : e = s.size := by omega
              have e0 : ¬ (s.size : Int) < (s.size : Int) := by omega
              have hc0 : cloQ (restD s a) = some (j - a) := by rw [hcq, cq_one HJE.out.symm c3]; show some (0 + _) = _; rw [Nat.zero_add]
              have HX : Hid (fldS (restD s p) = if stopAt s s.size = true then some ⟨true, j - a, j - a + 2⟩ else none) := Lib.hid (by rw [HX0.out, hc0]; exact ends_at (show p + (j - a + 2) = s.size by have := HJE.out; have := HA.out; omega))
              have HS := Lib.hid (show p + (j - a + 2) = s.size by have := HJE.out; have := HA.out; omega)
              have q5 : ((s.size : Int) == (s.size : Int)) = true := by rw [beq_iff_eq]
              have HY := Lib.hid (show fldS (restD s p) = some _ from by rw [HX.out, stop_end (by omega), if_pos rfl])
              clear hcq hc0
              go_upto_region 14 with fail
              go_quiet (fail)
              go_wp2_with fail
              go_ret3
              exact ⟨⟨s.size, true, true, rfl, fr_yes HY.out HS.out.symm rfl⟩, BelowOn hB (below_qN _ _)⟩
          · have b3 : ((s[j].toNat : Int) == 34) = false := by rw [beq_eq_false_iff_ne]; exact fun h => c3 (byte_eq (k := 34) h)
            have b3b : ((s[j].toNat : Int) != 34) = true := by rw [bne, b3]; rfl
            have hnx : cloQ (restD s a) = (cloQ (restD s (j + 1))).map (· + (j + 1 - a)) := by
              rw [hcq, cq_on hz c3, map_add, show 1 + (j - a) = j + 1 - a by omega]
            go_wp2_with fail
            go_roundw
            case rel => exact ⟨j + 1, by omega, by omega, hnx, by go_num, hB⟩
            case measure => (try have := HJE.out); simp [intOf]; omega
        · obtain rfl : j = s.size := by omega
          have j0 : ¬ (s.size : Int) < (s.size : Int) := by omega
          have hc0 : cloQ (restD s a) = none := by rw [hcq, cq_nil (Nat.le_refl _)]; rfl
          have HY := Lib.hid (show fldS (restD s p) = none from by rw [HX0.out, hc0])
          clear hcq hc0
          go_wp2_with fail
          go_ret3
          exact ⟨⟨0, true, false, rfl, fr_no HY.out⟩, hB⟩
    · have hb : ((s[p].toNat : Int) == 34) = false := by rw [beq_eq_false_iff_ne]; exact fun h => hq (byte_eq (k := 34) h)
      have HX0 := Lib.hid (show fldS (restD s p) = endF (restD s p) ⟨false, barL (restD s p), barL (restD s p)⟩ from by
        unfold fldS; rw [if_neg (by rw [hg]; intro h; injection h with h; exact hq h)])
      clear hg
      go_enter Tryd.func71, Tryd.ntmps71
      go_wp2_with fail
      go_loopw [8] (fun vi wr => ∃ j : Nat, p ≤ j ∧ j ≤ s.size ∧ barL (restD s p) = barL (restD s j) + (j - p) ∧ vi = .int .i64 (j : Int) ∧ Below w.heap.size w wr) (fun vi _ => s.size - (intOf vi).toNat)
      case atStart => exact ⟨p, Nat.le_refl _, hp, by omega, rfl, Below.refl _ _⟩
      case round =>
        obtain ⟨j, hj, hjs, hbar, rfl, hB⟩ := hrel
        by_cases hz : j < s.size
        · have j0 : (j : Int) < (s.size : Int) := by omega
          have j1 : (0 : Int) ≤ (j : Int) := by omega
          by_cases hst : stopF s[j] = true
          · have hb0 : barL (restD s j) = 0 := by rw [bar_get s j hz, if_pos hst]
            have HX : Hid (fldS (restD s p) = if stopAt s j = true then some ⟨false, j - p, j - p⟩ else none) := Lib.hid (by rw [HX0.out, show barL (restD s p) = j - p by omega]; exact ends_at (show p + (j - p) = j by omega))
            have HS := Lib.hid (show p + (j - p) = j by omega)
            by_cases c3 : s[j] = 34
            · have b3 : ((s[j].toNat : Int) == 34) = true := by rw [c3]; rfl
              have b4 : (s[j].toNat : Int) = 34 := by rw [c3]; rfl
              have q5 : ((j : Int) == (s.size : Int)) = false := by rw [beq_eq_false_iff_ne]; omega
              have b6 : ((s[j].toNat : Int) == 44) = false := by rw [c3]; rfl
              have b7 : ((s[j].toNat : Int) == 10) = false := by rw [c3]; rfl
              have HY := Lib.hid (show fldS (restD s p) = none from by rw [HX.out, stop_byte hz, c3, if_neg (by decide)])
              go_upto_region 14 with fail
              go_quiet (fail)
              go_wp2_with fail
              go_ret3
              exact ⟨⟨j, false, false, rfl, fr_no HY.out⟩, BelowOn hB (below_qN _ _)⟩
            · have b3 : ((s[j].toNat : Int) == 34) = false := by rw [beq_eq_false_iff_ne]; exact fun h => c3 (byte_eq (k := 34) h)
              by_cases c4 : s[j] = 44
              · have b4 : ((s[j].toNat : Int) == 44) = true := by rw [c4]; rfl
                have q5 : ((j : Int) == (s.size : Int)) = false := by rw [beq_eq_false_iff_ne]; omega
                have HY := Lib.hid (show fldS (restD s p) = some _ from by rw [HX.out, stop_byte hz, c4, if_pos (by decide)])
                go_upto_region 14 with fail
                go_quiet (fail)
                go_wp2_with fail
                go_ret3
                exact ⟨⟨j, false, true, rfl, fr_yes HY.out HS.out.symm rfl⟩, BelowOn hB (below_qN _ _)⟩
              · have b4 : ((s[j].toNat : Int) == 44) = false := by rw [beq_eq_false_iff_ne]; exact fun h => c4 (byte_eq (k := 44) h)
                have c5 : s[j] = 10 := by unfold stopF at hst; simpa [c3, c4] using hst
                have b5 : ((s[j].toNat : Int) == 10) = true := by rw [c5]; rfl
                have q5 : ((j : Int) == (s.size : Int)) = false := by rw [beq_eq_false_iff_ne]; omega
                have b6 : ((s[j].toNat : Int) == 44) = false := by rw [c5]; rfl
                have HY := Lib.hid (show fldS (restD s p) = some _ from by rw [HX.out, stop_byte hz, c5, if_pos (by decide)])
                go_upto_region 14 with fail
                go_quiet (fail)
                go_wp2_with fail
                go_ret3
                exact ⟨⟨j, false, true, rfl, fr_yes HY.out HS.out.symm rfl⟩, BelowOn hB (below_qN _ _)⟩
          · have hb1 : barL (restD s j) = barL (restD s (j + 1)) + 1 := by rw [bar_get s j hz, if_neg hst]
            have hst : stopF s[j] = false := by simpa using hst
            have c3 : ((s[j].toNat : Int) == 34) = false := by rw [beq_eq_false_iff_ne]; exact fun h => by rw [byte_eq (k := 34) h] at hst; revert hst; decide
            have c4 : ((s[j].toNat : Int) == 44) = false := by rw [beq_eq_false_iff_ne]; exact fun h => by rw [byte_eq (k := 44) h] at hst; revert hst; decide
            have c5 : ((s[j].toNat : Int) == 10) = false := by rw [beq_eq_false_iff_ne]; exact fun h => by rw [byte_eq (k := 10) h] at hst; revert hst; decide
            have d3 : ((s[j].toNat : Int) != 34) = true := by rw [bne, c3]; rfl
            have d4 : ((s[j].toNat : Int) != 44) = true := by rw [bne, c4]; rfl
            have d5 : ((s[j].toNat : Int) != 10) = true := by rw [bne, c5]; rfl
            go_wp2_with fail
            go_roundw
            case rel => exact ⟨j + 1, by omega, by omega, by omega, by go_num, hB⟩
            case measure => simp [intOf]; omega
        · obtain rfl : j = s.size := by omega
          have j0 : ¬ (s.size : Int) < (s.size : Int) := by omega
          have hb0 := bar_nil s s.size (Nat.le_refl _)
          have HX : Hid (fldS (restD s p) = if stopAt s s.size = true then some ⟨false, s.size - p, s.size - p⟩ else none) := Lib.hid (by rw [HX0.out, show barL (restD s p) = s.size - p by omega]; exact ends_at (show p + (s.size - p) = s.size by omega))
          have HS := Lib.hid (show p + (s.size - p) = s.size by omega)
          have q5 : ((s.size : Int) == (s.size : Int)) = true := by rw [beq_iff_eq]
          have HY := Lib.hid (show fldS (restD s p) = some _ from by rw [HX.out, stop_end (by omega), if_pos rfl])
          go_upto_region 14 with fail
          go_quiet (fail)
          go_wp2_with fail
          go_ret3
          exact ⟨⟨s.size, false, true, rfl, fr_yes HY.out HS.out.symm rfl⟩, BelowOn hB (below_qN _ _)⟩
  · have i0 : ¬ (p : Int) < (s.size : Int) := by omega
    have HX0 := Lib.hid (show fldS (restD s p) = endF (restD s p) ⟨false, barL (restD s p), barL (restD s p)⟩ from by
      unfold fldS; rw [if_neg (by rw [restD_nil s p (by omega)]; intro h; cases h)])
    go_enter Tryd.func71, Tryd.ntmps71
    go_wp2_with fail
    go_loopw [8] (fun vi wr => ∃ j : Nat, p ≤ j ∧ j ≤ s.size ∧ barL (restD s p) = barL (restD s j) + (j - p) ∧ vi = .int .i64 (j : Int) ∧ Below w.heap.size w wr) (fun vi _ => s.size - (intOf vi).toNat)
    case atStart => exact ⟨p, Nat.le_refl _, hp, by omega, rfl, Below.refl _ _⟩
    case round =>
      obtain ⟨j, hj, hjs, hbar, rfl, hB⟩ := hrel
      by_cases hz : j < s.size
      · exfalso; omega
      · obtain rfl : j = s.size := by omega
        have j0 : ¬ (s.size : Int) < (s.size : Int) := by omega
        have hb0 := bar_nil s s.size (Nat.le_refl _)
        have HX : Hid (fldS (restD s p) = if stopAt s s.size = true then some ⟨false, s.size - p, s.size - p⟩ else none) := Lib.hid (by rw [HX0.out, show barL (restD s p) = s.size - p by omega]; exact ends_at (show p + (s.size - p) = s.size by omega))
        have HS := Lib.hid (show p + (s.size - p) = s.size by omega)
        have q5 : ((s.size : Int) == (s.size : Int)) = true := by rw [beq_iff_eq]
        have HY := Lib.hid (show fldS (restD s p) = some _ from by rw [HX.out, stop_end (by omega), if_pos rfl])
        go_upto_region 14 with fail
        go_quiet (fail)
        go_wp2_with fail
        go_ret3
        exact ⟨⟨s.size, false, true, rfl, fr_yes HY.out HS.out.symm rfl⟩, BelowOn hB (below_qN _ _)⟩
end Go.Proofs.YteaciofacmbllaaDoor
namespace Go.Proofs.YteaciofacmbllaaDoor
open Go.ChangeShapes Go.WideShapes Go.ChangeAt Go.RowKit
set_option linter.unusedVariables false
set_option linter.unusedSimpArgs false
set_option maxRecDepth 100000

theorem ends_byte {s : ByteArray} {q : Nat} (h : q < s.size) : endsR s q = (s[q] == 10) := by unfold endsR; rw [restD_get s q h]; rfl
theorem ext_text {s : ByteArray} {p q : Nat} {x : Fld} (hq : q = p + x.size) : ((s.extract p q).toList == [116, 101, 120, 116]) = isText s p x := by
  unfold isText
  rw [Go.ByteArray.toList_eq, ext_list, hq, Nat.add_sub_cancel_left, Bool.eq_iff_iff, beq_iff_eq, decide_eq_true_eq]; rfl
theorem ends_cases (s : ByteArray) (q : Nat) (hq : q ≤ s.size) : (q = s.size ∧ endsR s q = true) ∨ (∃ h : q < s.size, s[q] = 10 ∧ endsR s q = true) ∨ (∃ h : q < s.size, s[q] ≠ 10 ∧ endsR s q = false) := by
  by_cases h : q < s.size
  · by_cases h10 : s[q] = 10
    · exact .inr (.inl ⟨h, h10, by rw [ends_byte h, h10]; rfl⟩)
    · exact .inr (.inr ⟨h, h10, by rw [ends_byte h]; simpa using h10⟩)
  · exact .inl ⟨by omega, endsR_end _ _ (by omega)⟩
theorem raw_ext {s : ByteArray} {p : Nat} {x : Fld} (hq : x.quoted = true) (hx : x.size = x.raw + 2) : (s.extract (p + 1) (p + x.size - 1)).data.toList = rawF s p x := by
  rw [show p + x.size - 1 = p + 1 + x.raw by omega]; exact rawF_ext hq
set_option maxHeartbeats 25600000 in
theorem refsplsheet_any (s : ByteArray) (w : World) (hs : s.size ≤ 65536) : Calls Tryd.prog 38 #[.string s] w (EndS (splS s) w) := by
  obtain ⟨R, hR⟩ : ∃ R, splS s = R := ⟨_, rfl⟩
  have hR2 := hR
  rw [splS_of hs] at hR2
  have HR := Lib.hid hR2
  rw [hR]; clear hR hR2
  have HFD := Lib.hid (fun p W (hp : p ≤ s.size) => reffield_any s p W hp (by omega))
  have HDE := Lib.hid (fun (u : ByteArray) W (h : u.size ≤ s.size) => refdecode_any u W (by omega))
  have HDC := Lib.hid (fun n W (h : n ≤ 1000000) => refDecimal_any n W (by omega))
  have hs0 : (s.size : Int) ≤ 65536 := by omega
  go_enter Tryd.func38, Tryd.ntmps38
  go_wp2_with fail
  go_loopw [6, 7, 8, 9] (fun vp vf vc vk wr => ∃ (p a : Nat) (ps : List Pt) (vb : Value) (f : Nat) (c : Int) (k : Nat), vp = .int .i64 (p : Int) ∧ vf = .int .i64 (f : Int) ∧ vc = .int .i64 c ∧ vk = .int .i64 (k : Int) ∧ p ≤ s.size + 1 ∧ Bu wr w.heap.size s (w.heap.size + 1) ps vb a ∧ a ≤ s.size ∧ a ≤ p ∧ ps.length ≤ 2 * p ∧ k ≤ p ∧ f ≤ s.size + 1 ∧ Below w.heap.size w wr ∧ ((k = 0 ∧ p = 0 ∧ f = 0 ∧ c = -1 ∧ ps = [] ∧ a = 0) ∨ (1 ≤ k ∧ ∃ c' : Nat, c = (c' : Int) ∧ c' < f ∧ Hid (recH s f c' ps a p k = R)))) (fun vp _ _ _ _ => s.size + 2 - (intOf vp).toNat)
  case atStart => exact ⟨0, 0, [], .slice none 0 0, 0, -1, 0, rfl, rfl, rfl, rfl, by omega, ⟨heap_alloc_new w _, OwnL.nil _ _, by omega⟩, Nat.zero_le _, Nat.le_refl _, Nat.zero_le _, Nat.le_refl _, by omega, blw (Below.refl _ _) _, .inl ⟨rfl, rfl, rfl, rfl, rfl, rfl⟩⟩
  case round =>
    obtain ⟨p0, a, ps, vb, f, c, k, rfl, rfl, rfl, rfl, hp, hBu, ha, hap, hfew, hkp, hf, hB, hcase⟩ := hrel
    rcases hcase with ⟨rfl, rfl, rfl, rfl, rfl, rfl⟩ | ⟨hk1, c', rfl, hcf, HEQ⟩
    · clear HDE HDC hkp hf hap hfew hp ha
      obtain ⟨H0, hH0⟩ : ∃ H, hdrS s 0 0 0 0 = H := ⟨_, rfl⟩
      have hR0 := HR.out
      rw [hH0] at hR0
      have HR0 := Lib.hid hR0
      have HH0 := Lib.hid hH0
      clear hR0 hH0 HR
      have hz0 : ((0 : Nat) : Int) = 0 := rfl
      rw [hz0]
      clear hz0
      go_wp2_with fail
      go_loopw [6, 8, 11, 12] (fun vp vc vn vt w2 => ∃ (p n t col : Nat) (cv : Int), vp = .int .i64 (p : Int) ∧ vc = .int .i64 cv ∧ vn = .int .i64 (n : Int) ∧ vt = .int .i64 (t : Int) ∧ p ≤ s.size ∧ n ≤ p ∧ t ≤ n ∧ (1 ≤ t → cv = (col : Int) ∧ col < n) ∧ Hid (hdrS s p n t col = H0) ∧ Bu w2 w.heap.size s (w.heap.size + 1) [] vb 0 ∧ Below w.heap.size w w2) (fun vp _ _ _ _ => s.size + 1 - (intOf vp).toNat)
      case atStart => exact ⟨0, 0, 0, 0, -1, rfl, rfl, rfl, rfl, Nat.zero_le _, Nat.le_refl _, Nat.le_refl _, fun h => by omega, HH0, hBu, hB⟩
      case round =>
        clear hBu hB
        obtain ⟨p, n, t, col, cv, rfl, rfl, rfl, rfl, hp, hn, ht, hcv, HEQ, hBu, hB⟩ := hrel
        have hfd := HFD.out p wr hp
        unfold EndFR at hfd
        cases hf : fldS (restD s p) with
        | none =>
          rw [hf] at hfd
          have HFD2 := Lib.hid hfd
          have HX := Lib.hid (show R = ([], p, 2) from by have := HR0.out; rw [← HEQ.out, hdr_bad hp hf] at this; exact this.symm)
          clear hfd hBu hcv
          go_wp2_with fail
          refine HFD2.out.mono ?_; rintro e w3 ⟨⟨q, b, ok, rfl, hok⟩, hb⟩
          have hok : ok = false := hok
          subst hok
          have hB3 := BelowOn hB hb
          go_wp2_with fail
          go_ret3
          exact EndS.no HX.out hB3
        | some x =>
          have hxs := fld_at hf hp
          rw [hf] at hfd
          have HFD2 := Lib.hid hfd
          obtain ⟨q, hq⟩ : ∃ q, q = p + x.size := ⟨_, rfl⟩
          have htx := ext_text (s := s) hq
          have hqs : q ≤ s.size := by omega
          have hpq : p ≤ q := by omega
          have hec := ends_cases s q hqs
          have hend : endsR s q = true → H0 = .ok (n + 1) (if isText s p x = true then t + 1 else t) (if isText s p x = true then n else col) (q + 1) := fun h => by
            subst hq; rw [← HEQ.out, hdr_end hp hf h]
          have hmore : endsR s q = false → hdrS s (q + 1) (n + 1) (if isText s p x = true then t + 1 else t) (if isText s p x = true then n else col) = H0 := fun h => by
            subst hq; rw [← HEQ.out, hdr_more hp hf h]
          obtain ⟨T, hT⟩ : ∃ T, isText s p x = T := ⟨_, rfl⟩
          rw [hT] at htx hend hmore
          have HQ := Lib.hid hq
          have HEND := Lib.hid hend
          have HMORE := Lib.hid hmore
          have HCV := Lib.hid hcv
          clear hfd hend hmore hcv hq hxs hT
          have i0 : (0 : Int) ≤ (p : Int) := by omega
          have i1 : (p : Int) ≤ (q : Int) := by omega
          have i2 : (q : Int) ≤ (s.size : Int) := by omega
          go_wp2_with fail
          refine HFD2.out.mono ?_; rintro e w3 ⟨⟨q2, b, ok, rfl, hok⟩, hb⟩
          obtain ⟨hok1, hq2, -⟩ := (hok : ok = true ∧ q2 = p + x.size ∧ b = x.quoted)
          have hq3 : q2 = q := hq2.trans HQ.out.symm
          subst hok1; subst hq3
          have hB3 := BelowOn hB hb
          have hBu3 := hBu.call hb
          clear hB hBu hb hq2 HQ HEQ HFD2
          cases T
          · rcases hec with ⟨he, hE⟩ | ⟨hlt, h10, hE⟩ | ⟨hlt, h10, hE⟩
            · skip
              have j0 : (s.size : Int) ≤ (q2 : Int) := by omega
              clear he
              have hm := HEND.out hE
              rw [if_neg (by decide), if_neg (by decide)] at hm
              have hr := HR0.out
              rw [hm] at hr
              dsimp only at hr
              clear hm HEND HMORE hE
              by_cases hz : t = 0
              ·
                skip
                rw [if_pos hz] at hr
                have t0 : ((t : Int) == 0) = true := by rw [beq_iff_eq]; omega
                clear hz
                have HX := Lib.hid hr.symm
                clear hr hBu3
                go_wp2_with fail
                go_ret3
                exact EndS.no (q := 0) HX.out hB3
              ·
                skip
                rw [if_neg hz] at hr
                have t0 : ((t : Int) == 0) = false := by rw [beq_eq_false_iff_ne]; omega
                by_cases hz1 : t = 1
                ·
                  skip
                  rw [if_pos hz1] at hr
                  have t1 : ¬ (1 < (t : Int)) := by omega
                  have HX := Lib.hid hr
                  obtain ⟨hc1, hc2⟩ := HCV.out (by omega)
                  have HC1 := Lib.hid hc1
                  clear hr hc1 hz hz1
                  go_wp2_with fail
                  go_roundw
                  case rel => exact ⟨q2 + 1, 0, [], vb, n + 1, cv, 1, by go_num, by go_num, rfl, by first | rfl | go_num, by omega, hBu3, Nat.zero_le _, Nat.zero_le _, Nat.zero_le _, by omega, by omega, hB3, .inr ⟨Nat.le_refl _, col, HC1.out, by omega, HX⟩⟩
                  case measure => simp [intOf]; omega
                ·
                  skip
                  rw [if_neg hz1] at hr
                  have t1 : 1 < (t : Int) := by omega
                  clear hz hz1
                  have HX := Lib.hid hr.symm
                  clear hr hBu3
                  go_wp2_with fail
                  go_ret3
                  exact EndS.no (q := 0) HX.out hB3
            · skip
              have j0 : ¬ ((s.size : Int) ≤ (q2 : Int)) := by omega
              have j1 : (q2 : Int) < (s.size : Int) := by omega
              have b10 : ((s[q2].toNat : Int) == 10) = true := by rw [h10]; rfl
              have hm := HEND.out hE
              rw [if_neg (by decide), if_neg (by decide)] at hm
              have hr := HR0.out
              rw [hm] at hr
              dsimp only at hr
              clear hm HEND HMORE hE
              by_cases hz : t = 0
              ·
                skip
                rw [if_pos hz] at hr
                have t0 : ((t : Int) == 0) = true := by rw [beq_iff_eq]; omega
                clear hz
                have HX := Lib.hid hr.symm
                clear hr hBu3
                go_wp2_with fail
                go_ret3
                exact EndS.no (q := 0) HX.out hB3
              ·
                skip
                rw [if_neg hz] at hr
                have t0 : ((t : Int) == 0) = false := by rw [beq_eq_false_iff_ne]; omega
                by_cases hz1 : t = 1
                ·
                  skip
                  rw [if_pos hz1] at hr
                  have t1 : ¬ (1 < (t : Int)) := by omega
                  have HX := Lib.hid hr
                  obtain ⟨hc1, hc2⟩ := HCV.out (by omega)
                  have HC1 := Lib.hid hc1
                  clear hr hc1 hz hz1
                  go_wp2_with fail
                  go_roundw
                  case rel => exact ⟨q2 + 1, 0, [], vb, n + 1, cv, 1, by go_num, by go_num, rfl, by first | rfl | go_num, by omega, hBu3, Nat.zero_le _, Nat.zero_le _, Nat.zero_le _, by omega, by omega, hB3, .inr ⟨Nat.le_refl _, col, HC1.out, by omega, HX⟩⟩
                  case measure => simp [intOf]; omega
                ·
                  skip
                  rw [if_neg hz1] at hr
                  have t1 : 1 < (t : Int) := by omega
                  clear hz hz1
                  have HX := Lib.hid hr.symm
                  clear hr hBu3
                  go_wp2_with fail
                  go_ret3
                  exact EndS.no (q := 0) HX.out hB3
            · skip
              have j0 : ¬ ((s.size : Int) ≤ (q2 : Int)) := by omega
              have j1 : (q2 : Int) < (s.size : Int) := by omega
              have b10 : ((s[q2].toNat : Int) == 10) = false := by rw [beq_eq_false_iff_ne]; exact fun h => h10 (byte_eq (k := 10) h)
              have hm := HMORE.out hE
              rw [if_neg (by decide), if_neg (by decide)] at hm
              have HM := Lib.hid hm
              clear hm HEND HMORE hE
              go_wp2_with fail
              go_roundw
              case rel => exact ⟨q2 + 1, n + 1, t, col, cv, by go_num, rfl, by go_num, rfl, by omega, by omega, by omega, fun h => ⟨(HCV.out h).1, by have := (HCV.out h).2; omega⟩, HM, hBu3, hB3⟩
              case measure => simp [intOf]; omega
          · rcases hec with ⟨he, hE⟩ | ⟨hlt, h10, hE⟩ | ⟨hlt, h10, hE⟩
            · skip
              have j0 : (s.size : Int) ≤ (q2 : Int) := by omega
              clear he
              have hm := HEND.out hE
              rw [if_pos rfl, if_pos rfl] at hm
              have hr := HR0.out
              rw [hm] at hr
              dsimp only at hr
              clear hm HEND HMORE hE
              rw [if_neg (by omega)] at hr
              have t0 : ((t : Int) + 1 == 0) = false := by rw [beq_eq_false_iff_ne]; omega
              by_cases hz : t = 0
              ·
                skip
                rw [if_pos (by omega)] at hr
                have t1 : ¬ (1 < (t : Int) + 1) := by omega
                clear hz
                have HX := Lib.hid hr
                clear hr
                go_wp2_with fail
                go_roundw
                case rel => exact ⟨q2 + 1, 0, [], vb, n + 1, (n : Int), 1, by go_num, by go_num, rfl, by first | rfl | go_num, by omega, hBu3, Nat.zero_le _, Nat.zero_le _, Nat.zero_le _, by omega, by omega, hB3, .inr ⟨Nat.le_refl _, n, rfl, by omega, HX⟩⟩
                case measure => simp [intOf]; omega
              ·
                skip
                rw [if_neg (by omega)] at hr
                have t1 : 1 < (t : Int) + 1 := by omega
                clear hz
                have HX := Lib.hid hr.symm
                clear hr hBu3
                go_wp2_with fail
                go_ret3
                exact EndS.no (q := 0) HX.out hB3
            · skip
              have j0 : ¬ ((s.size : Int) ≤ (q2 : Int)) := by omega
              have j1 : (q2 : Int) < (s.size : Int) := by omega
              have b10 : ((s[q2].toNat : Int) == 10) = true := by rw [h10]; rfl
              have hm := HEND.out hE
              rw [if_pos rfl, if_pos rfl] at hm
              have hr := HR0.out
              rw [hm] at hr
              dsimp only at hr
              clear hm HEND HMORE hE
              rw [if_neg (by omega)] at hr
              have t0 : ((t : Int) + 1 == 0) = false := by rw [beq_eq_false_iff_ne]; omega
              by_cases hz : t = 0
              ·
                skip
                rw [if_pos (by omega)] at hr
                have t1 : ¬ (1 < (t : Int) + 1) := by omega
                clear hz
                have HX := Lib.hid hr
                clear hr
                go_wp2_with fail
                go_roundw
                case rel => exact ⟨q2 + 1, 0, [], vb, n + 1, (n : Int), 1, by go_num, by go_num, rfl, by first | rfl | go_num, by omega, hBu3, Nat.zero_le _, Nat.zero_le _, Nat.zero_le _, by omega, by omega, hB3, .inr ⟨Nat.le_refl _, n, rfl, by omega, HX⟩⟩
                case measure => simp [intOf]; omega
              ·
                skip
                rw [if_neg (by omega)] at hr
                have t1 : 1 < (t : Int) + 1 := by omega
                clear hz
                have HX := Lib.hid hr.symm
                clear hr hBu3
                go_wp2_with fail
                go_ret3
                exact EndS.no (q := 0) HX.out hB3
            · skip
              have j0 : ¬ ((s.size : Int) ≤ (q2 : Int)) := by omega
              have j1 : (q2 : Int) < (s.size : Int) := by omega
              have b10 : ((s[q2].toNat : Int) == 10) = false := by rw [beq_eq_false_iff_ne]; exact fun h => h10 (byte_eq (k := 10) h)
              have hm := HMORE.out hE
              rw [if_pos rfl, if_pos rfl] at hm
              have HM := Lib.hid hm
              clear hm HEND HMORE hE
              go_wp2_with fail
              go_roundw
              case rel => exact ⟨q2 + 1, n + 1, t + 1, n, (n : Int), by go_num, rfl, by go_num, by go_num, by omega, by omega, by omega, fun _ => ⟨rfl, by omega⟩, HM, hBu3, hB3⟩
              case measure => simp [intOf]; omega
    · skip
      have kq : ((k : Int) == 0) = false := by rw [beq_eq_false_iff_ne]; omega
      have kp : 0 < (k : Int) := by omega
      clear HR
      by_cases hlt0 : p0 < s.size
      case neg =>
        have hbw : w.heap.size + 1 ≤ wr.heap.size := (Array.getElem?_eq_some_iff.1 hBu.hh).1
        have hd := HEQ.out
        rw [recH_end (by omega)] at hd
        have HD2 := Lib.hid hd
        have HND := Lib.hid (refend_any w.heap.size s (w.heap.size + 1) ps vb a wr hBu (by omega) ha (by omega) hbw)
        have i2 : ¬ (p0 : Int) < (s.size : Int) := by omega
        clear hd HEQ hBu
        go_wp2_with fail
        refine HND.out.mono ?_; rintro e w2 ⟨pe, ce, rfl, x1, x2, x3, x4⟩
        have hB2 := hB.trans (x4 w.heap.size (Nat.le_refl _))
        go_wp2_with fail
        (try simp only [Exit.inBlock, Exit.then])
        go_ret3
        rw [← HD2.out]
        exact ⟨pe, ce, by first | rfl | simp, x1, x2, x3, hB2⟩
      have i2 : (p0 : Int) < (s.size : Int) := by omega
      have heq := HEQ.out
      rw [recH_go hlt0] at heq
      have HEQ2 := Lib.hid heq
      clear heq HEQ
      go_wp2_with fail
      go_loopw [6, 8, 11] (fun vp vc vn w2 => ∃ (p n a : Nat) (ps : List Pt) (vb : Value), vp = .int .i64 (p : Int) ∧ vc = .int .i64 (c' : Int) ∧ vn = .int .i64 (n : Int) ∧ p ≤ s.size ∧ p0 ≤ p ∧ n ≤ f ∧ a ≤ p ∧ ps.length ≤ 2 * p ∧ Hid (recS s f c' ps a p p0 n k = R) ∧ Bu w2 w.heap.size s (w.heap.size + 1) ps vb a ∧ Below w.heap.size w w2) (fun vp _ _ _ => s.size + 1 - (intOf vp).toNat)
      case atStart => exact ⟨p0, 0, a, ps, vb, rfl, rfl, by first | rfl | go_num, by omega, Nat.le_refl _, Nat.zero_le _, hap, hfew, HEQ2, hBu, hB⟩
      case round =>
        clear hBu hB HEQ2 hap hfew ha
        obtain ⟨p, n, a, ps, vb, rfl, rfl, rfl, hp1, hpp, hnf, hap, hfew, HEQ, hBu, hB⟩ := hrel
        have hfd := HFD.out p wr hp1
        unfold EndFR at hfd
        have i0 : (0 : Int) ≤ (p : Int) := by omega
        cases hfl : fldS (restD s p) with
        | none =>
          rw [hfl] at hfd
          have HFD2 := Lib.hid hfd
          have HX := Lib.hid (show R = ([], p, 2) from by rw [← HEQ.out, rec_bad hp1 hfl])
          clear hfd hBu
          go_wp2_with fail
          refine HFD2.out.mono ?_; rintro e w3 ⟨⟨q, b, ok, rfl, hok⟩, hb⟩
          have hok : ok = false := hok
          subst hok
          have hB3 := BelowOn hB hb
          go_wp2_with fail
          go_ret3
          exact EndS.no HX.out hB3
        | some x =>
          have hxs := fld_at hfl hp1
          have hxq2 := (fldS_le hfl).2.1
          rw [hfl] at hfd
          have HFD2 := Lib.hid hfd
          obtain ⟨q, hq⟩ : ∃ q, q = p + x.size := ⟨_, rfl⟩
          have hqs : q ≤ s.size := by omega
          have hpq : p ≤ q := by omega
          have hec := ends_cases s q hqs
          have hmany : n = f ∨ (n = c' ∧ x.quoted = false) → R = ([], p, 2) := fun h => by rw [← HEQ.out, rec_many hp1 hfl h]
          have hbad : ¬ (n = f ∨ (n = c' ∧ x.quoted = false)) → n = c' ∧ (dec elS (rawF s p x)).2.2.2 ≠ 0 → R = ([], p + 1 + (dec elS (rawF s p x)).2.2.1, (dec elS (rawF s p x)).2.2.2) := fun h1 h2 => by rw [← HEQ.out, rec_dec hp1 hfl h1 h2]
          have hmore : ¬ (n = f ∨ (n = c' ∧ x.quoted = false)) → ¬ (n = c' ∧ (dec elS (rawF s p x)).2.2.2 ≠ 0) → endsR s q = false → recS s f c' (psN s c' ps a p n k x) (aN c' a p n x) (q + 1) p0 (n + 1) k = R := fun h1 h2 h => by subst hq; rw [← HEQ.out, rec_more hp1 hfl h1 h2 h]
          have hfew2 : ¬ (n = f ∨ (n = c' ∧ x.quoted = false)) → ¬ (n = c' ∧ (dec elS (rawF s p x)).2.2.2 ≠ 0) → endsR s q = true → n + 1 < f → R = ([], p0, 2) := fun h1 h2 h h3 => by subst hq; rw [← HEQ.out, rec_few hp1 hfl h1 h2 h h3]
          have hnext : ¬ (n = f ∨ (n = c' ∧ x.quoted = false)) → ¬ (n = c' ∧ (dec elS (rawF s p x)).2.2.2 ≠ 0) → endsR s q = true → ¬ n + 1 < f → recH s f c' (psN s c' ps a p n k x) (aN c' a p n x) (q + 1) (k + 1) = R := fun h1 h2 h h3 => by subst hq; rw [← HEQ.out, rec_next hp1 hfl h1 h2 h h3]
          have HQ := Lib.hid hq
          have hraw := fun h => raw_ext (s := s) (p := p) (x := x) h (hxq2 h)
          have hdat := dec_at elS_ok (rawF s p x)
          have hrl : (rawF s p x).length ≤ s.size := by unfold rawF; rw [List.length_take, restD_len]; omega
          have hsz2 : x.quoted = true → p + 2 ≤ q := fun h => by have := hxq2 h; omega
          have hraw2 : x.quoted = true → q = p + 1 + x.raw + 1 := fun h => by have := hxq2 h; omega
          rw [← hq] at hraw
          have HMANY := Lib.hid hmany; have HBAD := Lib.hid hbad; have HMORE := Lib.hid hmore; have HFEW := Lib.hid hfew2; have HNEXT := Lib.hid hnext; have HRAW := Lib.hid hraw; have HSZ2 := Lib.hid hsz2; have HRAW2 := Lib.hid hraw2
          clear hfd hmany hbad hmore hfew2 hnext hraw hq hxs hxq2 hsz2 hraw2 HEQ
          have i1 : (p : Int) ≤ (q : Int) := by omega
          have i3 : (q : Int) ≤ (s.size : Int) := by omega
          go_wp2_with fail
          refine HFD2.out.mono ?_; rintro e w3 ⟨⟨q2, b, ok, rfl, hok⟩, hb⟩
          obtain ⟨hok1, hq2, hbq⟩ := (hok : ok = true ∧ q2 = p + x.size ∧ b = x.quoted)
          have hq3 : q2 = q := hq2.trans HQ.out.symm
          subst hok1; subst hq3
          have hB3 := BelowOn hB hb
          have hBu3 := hBu.call hb
          clear hB hBu hb hq2 HQ HFD2
          by_cases hnff : n = f
          · have HX := Lib.hid (HMANY.out (.inl hnff))
            have c1 : (f : Int) ≤ (n : Int) := by omega
            clear hnff hBu3 HMANY HBAD HMORE HFEW HNEXT
            go_wp2_with fail
            go_ret3
            exact EndS.no HX.out hB3
          have c1 : ¬ (f : Int) ≤ (n : Int) := by omega
          by_cases hnc : n = c'
          · have c2 : ((n : Int) == (c' : Int)) = true := by rw [beq_iff_eq]; omega
            cases hxq : x.quoted
            · rw [hxq] at hbq
              subst hbq
              have HX := Lib.hid (HMANY.out (.inr ⟨hnc, hxq⟩))
              clear hBu3 HMANY HBAD HMORE HFEW HNEXT hnc
              go_wp2_with fail
              go_ret3
              exact EndS.no HX.out hB3
            · rw [hxq] at hbq
              subst hbq
              have hn1 : ¬ (n = f ∨ (n = c' ∧ x.quoted = false)) := by rintro (e | ⟨_, e⟩); exact hnff e; rw [hxq] at e; cases e
              have h2 := HSZ2.out hxq
              have hr2 := HRAW2.out hxq
              have hrw := HRAW.out hxq
              obtain ⟨p1, hp1e⟩ : ∃ p1, p1 = p + 1 := ⟨_, rfl⟩
              obtain ⟨m, hme⟩ : ∃ m, m = q2 - 1 := ⟨_, rfl⟩
              rw [← hp1e, ← hme] at hrw
              have hde := HDE.out (s.extract p1 m) w3 (by rw [ByteArray.size_extract]; omega)
              rw [hrw] at hde
              have hbad := HBAD.out hn1
              have hmo := HMORE.out hn1
              have hfe := HFEW.out hn1
              have hne := HNEXT.out hn1
              have hps : psN s c' ps a p n k x = ps ++ unitP s a p1 m (keyR k) := by
                unfold psN unitP; rw [if_pos hnc, hp1e, show m = p + 1 + x.raw by omega]
              have han : aN c' a p n x = m := by unfold aN; rw [if_pos hnc]; omega
              rw [hps, han] at hmo hne
              generalize dec elS (rawF s p x) = Y at *
              obtain ⟨YL, Yc, off, er⟩ := Y
              unfold EndR7 at hde
              dsimp only at hde hbad hmo hfe hne hdat
              have hun := fun W (h : Bu W w.heap.size s (w.heap.size + 1) ps vb a) hbw => refunit_any w.heap.size s (w.heap.size + 1) ps vb a p1 m (keyR k) W h (by omega) (by omega) (by omega) (by omega) (by omega) hbw
              have HDD := Lib.hid hde; have HUN := Lib.hid hun; have HMORE2 := Lib.hid hmo; have HFEW2 := Lib.hid hfe; have HNEXT2 := Lib.hid hne; have HBAD2 := Lib.hid hbad
              have HP1 := Lib.hid hp1e; have HM1 := Lib.hid hme
              have HNC := Lib.hid hnc
              have p1q : (p : Int) + 1 = (p1 : Int) := by omega
              have mq : (q2 : Int) - 1 = (m : Int) := by omega
              have g0 : (0 : Int) ≤ (p1 : Int) := by omega
              have g1 : (p1 : Int) ≤ (m : Int) := by omega
              have g2 : (m : Int) ≤ (s.size : Int) := by omega
              have g3 : (off : Int) ≤ 65536 := by omega
              have hmq : m ≤ q2 := by omega
              have hap1 : a ≤ p1 := by omega
              have hPL : (ps ++ unitP s a p1 m (keyR k)).length ≤ 2 * (q2 + 1) := by rw [List.length_append]; show ps.length + 2 ≤ _; omega
              clear hde hun hmo hfe hne hbad hp1e hme hnc hps han hn1 hrw hr2 h2 HMANY HBAD HMORE HFEW HNEXT HRAW HRAW2 HSZ2 hxq hnff
              by_cases her : er = 0
              · subst her
                have HMORE := Lib.hid (HMORE2.out (fun h => h.2 rfl)); have HFEW := Lib.hid (HFEW2.out (fun h => h.2 rfl)); have HNEXT := Lib.hid (HNEXT2.out (fun h => h.2 rfl))
                clear HMORE2 HFEW2 HNEXT2 HBAD2
                go_wp2_with fail
                refine HDD.out.mono ?_; rintro e w4 ⟨pf, cf, pc, cc, rfl, -, -, -, -, -, -, hb⟩
                have hB4 := BelowOn hB3 hb
                have hBu4 := hBu3.call hb
                clear hB3 hBu3 hb
                go_wp2_with fail
                refine (HDC.out k _ (by omega)).mono ?_; rintro e w5 ⟨rfl, hb⟩
                have hB5 := BelowOn hB4 hb
                have hBu5 := hBu4.call hb
                have hbw : w.heap.size + 1 ≤ w5.heap.size := (Array.getElem?_eq_some_iff.1 hBu5.hh).1
                clear hB4 hBu4 hb
                go_wp2_with fail
                refine (HUN.out _ hBu5 hbw).mono ?_; rintro e w6 ⟨rfl, vb', hBu6, hx⟩
                have hB6 := hB5.trans (hx w.heap.size (Nat.le_refl _))
                clear hx hBu5 hB5
                rcases hec with ⟨he, hE⟩ | ⟨hlt, h10, hE⟩ | ⟨hlt, h10, hE⟩
                · skip
                  have j0 : (s.size : Int) ≤ (q2 : Int) := by omega
                  clear he
                  by_cases hnf1 : n + 1 < f
                  · have HX := Lib.hid (HFEW.out hE hnf1)
                    have qlt : (n : Int) + 1 < (f : Int) := by omega
                    clear HMORE HFEW HNEXT hE
                    go_wp2_with fail
                    go_ret3
                    exact EndS.no HX.out hB6
                  · have HX := Lib.hid (HNEXT.out hE hnf1)
                    have qlt : ¬ (n : Int) + 1 < (f : Int) := by omega
                    clear HMORE HFEW HNEXT hE
                    go_wp2_with fail
                    go_roundw
                    case rel => exact ⟨q2 + 1, m, _, vb', f, (c' : Int), k + 1, by go_num, rfl, rfl, by go_num, by omega, hBu6, by omega, by omega, hPL, by omega, hf, hB6, .inr ⟨by omega, c', rfl, hcf, HX⟩⟩
                    case measure => simp [intOf]; omega
                · skip
                  have j0 : ¬ ((s.size : Int) ≤ (q2 : Int)) := by omega
                  have j1 : (q2 : Int) < (s.size : Int) := by omega
                  have b10 : ((s[q2].toNat : Int) == 10) = true := by rw [h10]; rfl
                  by_cases hnf1 : n + 1 < f
                  · have HX := Lib.hid (HFEW.out hE hnf1)
                    have qlt : (n : Int) + 1 < (f : Int) := by omega
                    clear HMORE HFEW HNEXT hE
                    go_wp2_with fail
                    go_ret3
                    exact EndS.no HX.out hB6
                  · have HX := Lib.hid (HNEXT.out hE hnf1)
                    have qlt : ¬ (n : Int) + 1 < (f : Int) := by omega
                    clear HMORE HFEW HNEXT hE
                    go_wp2_with fail
                    go_roundw
                    case rel => exact ⟨q2 + 1, m, _, vb', f, (c' : Int), k + 1, by go_num, rfl, rfl, by go_num, by omega, hBu6, by omega, by omega, hPL, by omega, hf, hB6, .inr ⟨by omega, c', rfl, hcf, HX⟩⟩
                    case measure => simp [intOf]; omega
                · skip
                  have j0 : ¬ ((s.size : Int) ≤ (q2 : Int)) := by omega
                  have j1 : (q2 : Int) < (s.size : Int) := by omega
                  have b10 : ((s[q2].toNat : Int) == 10) = false := by rw [beq_eq_false_iff_ne]; exact fun h => h10 (byte_eq (k := 10) h)
                  have HX := Lib.hid (HMORE.out hE)
                  clear HMORE HFEW HNEXT hE
                  go_wp2_with fail
                  go_roundw
                  case rel => exact ⟨q2 + 1, n + 1, m, _, vb', by go_num, rfl, by go_num, by omega, by omega, by omega, by omega, hPL, HX, hBu6, hB6⟩
                  case measure => simp [intOf]; omega
              · have HX := Lib.hid (HBAD2.out ⟨HNC.out, her⟩)
                have q7 : (er != 0) = true := by simpa using her
                have q8 : (er == 0) = false := by simpa using her
                clear HMORE2 HFEW2 HNEXT2 HBAD2 her
                go_wp2_with fail
                refine HDD.out.mono ?_; rintro e w4 ⟨pf, cf, pc, cc, rfl, -, -, -, -, -, -, hb⟩
                have hB4 := BelowOn hB3 hb
                clear hB3 hBu3 hb
                go_wp2_with fail
                go_ret3
                exact EndS.no' HX.out (by have := HP1.out; omega) hB4
          · have c2 : ((n : Int) == (c' : Int)) = false := by rw [beq_eq_false_iff_ne]; omega
            have hn1 : ¬ (n = f ∨ (n = c' ∧ x.quoted = false)) := by rintro (e | ⟨e, _⟩); exact hnff e; exact hnc e
            have hn2 : ¬ (n = c' ∧ (dec elS (rawF s p x)).2.2.2 ≠ 0) := fun h => hnc h.1
            have hmo := HMORE.out hn1 hn2
            have hfe := HFEW.out hn1 hn2
            have hne := HNEXT.out hn1 hn2
            rw [show psN s c' ps a p n k x = ps from if_neg hnc, show aN c' a p n x = a from if_neg hnc] at hmo hne
            clear HMORE HFEW HNEXT HMANY HBAD HRAW HRAW2 HSZ2 hdat hrl hbq
            have HMORE := Lib.hid hmo; have HFEW := Lib.hid hfe; have HNEXT := Lib.hid hne
            have hPL : ps.length ≤ 2 * (q2 + 1) := by omega
            clear hmo hfe hne hn1 hn2 hnc hnff
            rcases hec with ⟨he, hE⟩ | ⟨hlt, h10, hE⟩ | ⟨hlt, h10, hE⟩
            · skip
              have j0 : (s.size : Int) ≤ (q2 : Int) := by omega
              clear he
              by_cases hnf1 : n + 1 < f
              · have HX := Lib.hid (HFEW.out hE hnf1)
                have qlt : (n : Int) + 1 < (f : Int) := by omega
                clear HMORE HFEW HNEXT hE
                go_wp2_with fail
                go_ret3
                exact EndS.no HX.out hB3
              · have HX := Lib.hid (HNEXT.out hE hnf1)
                have qlt : ¬ (n : Int) + 1 < (f : Int) := by omega
                clear HMORE HFEW HNEXT hE
                go_wp2_with fail
                go_roundw
                case rel => exact ⟨q2 + 1, a, ps, vb, f, (c' : Int), k + 1, by go_num, rfl, rfl, by go_num, by omega, hBu3, by omega, by omega, hPL, by omega, hf, hB3, .inr ⟨by omega, c', rfl, hcf, HX⟩⟩
                case measure => simp [intOf]; omega
            · skip
              have j0 : ¬ ((s.size : Int) ≤ (q2 : Int)) := by omega
              have j1 : (q2 : Int) < (s.size : Int) := by omega
              have b10 : ((s[q2].toNat : Int) == 10) = true := by rw [h10]; rfl
              by_cases hnf1 : n + 1 < f
              · have HX := Lib.hid (HFEW.out hE hnf1)
                have qlt : (n : Int) + 1 < (f : Int) := by omega
                clear HMORE HFEW HNEXT hE
                go_wp2_with fail
                go_ret3
                exact EndS.no HX.out hB3
              · have HX := Lib.hid (HNEXT.out hE hnf1)
                have qlt : ¬ (n : Int) + 1 < (f : Int) := by omega
                clear HMORE HFEW HNEXT hE
                go_wp2_with fail
                go_roundw
                case rel => exact ⟨q2 + 1, a, ps, vb, f, (c' : Int), k + 1, by go_num, rfl, rfl, by go_num, by omega, hBu3, by omega, by omega, hPL, by omega, hf, hB3, .inr ⟨by omega, c', rfl, hcf, HX⟩⟩
                case measure => simp [intOf]; omega
            · skip
              have j0 : ¬ ((s.size : Int) ≤ (q2 : Int)) := by omega
              have j1 : (q2 : Int) < (s.size : Int) := by omega
              have b10 : ((s[q2].toNat : Int) == 10) = false := by rw [beq_eq_false_iff_ne]; exact fun h => h10 (byte_eq (k := 10) h)
              have HX := Lib.hid (HMORE.out hE)
              clear HMORE HFEW HNEXT hE
              go_wp2_with fail
              go_roundw
              case rel => exact ⟨q2 + 1, n + 1, a, ps, vb, by go_num, rfl, by go_num, by omega, by omega, by omega, by omega, hPL, HX, hBu3, hB3⟩
              case measure => simp [intOf]; omega
end Go.Proofs.YteaciofacmbllaaDoor
namespace Go.Proofs.YteaciofacmbllaaDoor
open Go.ChangeShapes Go.WideShapes Go.ChangeAt Go.RowKit
set_option linter.unusedVariables false
set_option linter.unusedSimpArgs false
set_option maxRecDepth 100000

set_option maxHeartbeats 1600000 in
theorem refsplit_any (s : ByteArray) (w : World) (hs : s.size ≤ 999999999999) : Calls Tryd.prog 13 #[.int .i64 3, .string s] w (EndS (splS s) w) := by
  by_cases hbig : 65536 < s.size
  · have hR : splS s = ([], 0, 3) := splS_long hbig
    rw [hR]
    have q : (65536 : Int) < (s.size : Int) := by omega
    go_enter Tryd.func13, Tryd.ntmps13
    go_wp2_with fail
    go_ret3
    exact ⟨none, 0, rfl, Nat.le_refl _, Nat.zero_le _, Pts.nil _ _, Below.refl _ _⟩
  · skip
    have q : ¬ (65536 : Int) < (s.size : Int) := by omega
    have hsp := refsplsheet_any s w (by omega)
    generalize splS s = R at *
    obtain ⟨L, q0, er⟩ := R
    have HSP := Lib.hid hsp
    clear hsp
    go_enter Tryd.func13, Tryd.ntmps13
    go_wp2_with fail
    refine HSP.out.mono ?_; rintro e w2 ⟨p, c, rfl, x1, x2, x3, x4⟩
    go_wp2_with fail
    go_ret3
    exact ⟨p, c, rfl, x1, x2, x3, x4⟩
end Go.Proofs.YteaciofacmbllaaDoor
namespace Go.Proofs.YteaciofacmbllaaDoor
open Go.ChangeShapes Go.WideShapes Go.ChangeAt Go.RowKit
set_option linter.unusedVariables false
set_option maxRecDepth 100000

theorem gPow : Tryd.prog.globalNamed "internal/strconv.uint64pow10" = some 0 := by kernel_rfl
theorem tPow : (Tryd.prog.globals[0]?).map (·.type) = some 168 := by kernel_rfl
theorem cellsU64 : Tryd.prog.cellsOf 155 = 1 := by kernel_rfl
theorem cellsPow : Tryd.prog.cellsOf 168 = 20 := by kernel_rfl
theorem laidData : (Rows.laid_internal_strconv_uint64pow10 : DataW Unit) = Lib.tabData .u64 Lib.pow10Tab := by rfl
abbrev laidL : List (String × DataW Unit) := [("math/bits.deBruijn32tab", Rows.laid_math_bits_deBruijn32tab), ("math/bits.deBruijn64tab", Rows.laid_math_bits_deBruijn64tab), ("internal/strconv.uint64pow10", Rows.laid_internal_strconv_uint64pow10)]
theorem itoa_of_laid {W : World} (h : laidMetH Tryd.prog laidL W) : ItoaOk 1000000000 W := by
  rw [MakeChecks.laidMetH_plain _ _ _ (by kernel_rfl)] at h
  have hT : Lib.TabIs Tryd.prog W "internal/strconv.uint64pow10" .u64 Lib.pow10Tab := by
    obtain ⟨g, t, cs, fuel, p, hg, ht, hv, hd⟩ := Lib.laidMet.reads h (n := "internal/strconv.uint64pow10") (d := Rows.laid_internal_strconv_uint64pow10) (.tail _ (.tail _ (.head _)))
    obtain rfl := Option.some.inj (gPow.symm.trans hg)
    obtain rfl := Option.some.inj (tPow.symm.trans ht)
    unfold Lib.TabIs
    rw [laidData] at hd
    rw [hv, ← Lib.cells_of_tab Tryd.underlying168 Tryd.underlying155 cellsU64 cellsPow hd]
  exact ItoaOk.of (fun w1 hb => Lib.tabBelow_of_tabIs hT w1 hb) (by decide)
end Go.Proofs.YteaciofacmbllaaDoor
namespace Go.Proofs.YteaciofacmbllaaDoor
set_option linter.unusedVariables false
open Go.Lib

/-- What comes behind some words. -/
theorem dec_behind {el : ElF} (ws : Ws) (r : List UInt8) : ∀ f cs p d, AllW el ws → ((itW ws).foldl normS f).length ≤ 512 → cs.length + ws.length ≤ 1024 → ws ≠ [] →
    ∃ cs', cs'.length = cs.length + ws.length ∧ decG el f cs p d (flatW ws ++ r) = decG el ((itW ws).foldl normS f) cs' (p + (flatW ws).length) (p + (flatW ws).length) r := by
  induction ws with
  | nil => intro f cs p d _ _ _ h; exact absurd rfl h
  | cons w ws ih =>
    intro f cs p d hw h1 h2 _
    have h1' : ((itW ws).foldl normS (normS f w.2)).length ≤ 512 := h1
    have h3 := fold_ge (itW ws) (normS f w.2)
    have hz : cs.length + (ws.length + 1) ≤ 1024 := h2
    have hfl : (flatW (w :: ws)).length = w.1.length + (flatW ws).length := by rw [flatW_cons, List.length_append]
    have hstep := (hw w (by simp)).2.2 f cs p d (flatW ws ++ r) (by omega) (by omega)
    by_cases hn : ws = []
    · subst hn
      refine ⟨cs ++ [d], by simp, ?_⟩
      rw [hfl, flatW_cons, List.append_assoc, hstep, flatW_nil, List.nil_append]
      show decG el (normS f w.2) _ (p + w.1.length) (p + w.1.length) r = decG el (normS f w.2) _ (p + (w.1.length + 0)) (p + (w.1.length + 0)) r
      rw [Nat.add_zero]
    · obtain ⟨cs', e1, e2⟩ := ih (normS f w.2) (cs ++ [d]) (p + w.1.length) (p + w.1.length) (fun v hv => hw v (by simp [hv])) h1' (by rw [List.length_append]; simp; omega) hn
      refine ⟨cs', by rw [e1, List.length_append]; simp; omega, ?_⟩
      rw [hfl, flatW_cons, List.append_assoc, hstep, e2, Nat.add_assoc]; rfl
theorem bT_flat (c : UInt8) : Flat (bT c) := .inl rfl
def rowA (m : Nat) : List UInt8 := List.replicate m 97
def slotN : It := ⟨5, bsL [110], 0⟩
def bitN : List UInt8 := [123, 110, 125]
def rowN (m : Nat) : List UInt8 := (List.replicate m bitN).flatten
theorem rowA_succ (m : Nat) : rowA (m + 1) = rowA m ++ [97] := by unfold rowA; rw [List.replicate_succ']
theorem rowN_succ (m : Nat) : rowN (m + 1) = rowN m ++ bitN := by unfold rowN; rw [List.replicate_succ', List.flatten_append]; simp
theorem rowA_len (m : Nat) : (rowA m).length = m := List.length_replicate
theorem rowN_len (m : Nat) : (rowN m).length = 3 * m := by
  induction m with
  | zero => rfl
  | succ m ih => rw [rowN_succ, List.length_append, ih]; show 3 * m + 3 = _; omega
theorem word_a : Word elS [97] (bT 97) := word_el elS_ok (by simp) (fun r => elS_text 97 r (by decide) (by decide))
theorem slot_nm : isNm (bsL [110]) = true := by decide
theorem word_n : Word elS bitN slotN := word_el elS_ok (by decide) (fun r => elS_slot [110] r (by decide) slot_nm)
def wsA (m : Nat) : Ws := List.replicate m ([97], bT 97)
def wsN (m : Nat) : Ws := List.replicate m (bitN, slotN)
theorem wsA_flat (m : Nat) : flatW (wsA m) = rowA m := by
  unfold flatW wsA rowA
  induction m with
  | zero => rfl
  | succ m ih => rw [List.replicate_succ, List.flatMap_cons, ih, List.replicate_succ]; rfl
theorem wsN_flat (m : Nat) : flatW (wsN m) = rowN m := by
  unfold flatW wsN rowN
  induction m with
  | zero => rfl
  | succ m ih => rw [List.replicate_succ, List.flatMap_cons, ih, List.replicate_succ, List.flatten_cons]
theorem wsA_fold (m : Nat) : ((itW (wsA m)).foldl normS []).length ≤ 1 := by
  have h1 : itW (wsA m) = (rowA m).map bT := by unfold itW wsA rowA; rw [List.map_replicate, List.map_replicate]
  rw [h1, fold_bytes]
  unfold normS
  repeat' split
  all_goals simp
theorem wsN_fold (m : Nat) : ∀ f : List It, ((itW (wsN m)).foldl normS f).length = f.length + m := by
  induction m with
  | zero => intro f; rfl
  | succ m ih =>
    intro f
    show ((itW (wsN m)).foldl normS (normS f slotN)).length = _
    rw [ih, norm_other f slotN (by decide), List.length_append]; simp; omega
theorem wsA_all (m : Nat) : AllW elS (wsA m) := fun w hw => by rw [List.eq_of_mem_replicate hw]; exact word_a
theorem wsN_all (m : Nat) : AllW elS (wsN m) := fun w hw => by rw [List.eq_of_mem_replicate hw]; exact word_n
theorem rowA_ok (m : Nat) (h : m ≤ 1024) : (dec elS (rowA m)).2.2 = (0, 0) ∧ (dec elS (rowA m)).2.1.length = m + 1 := by
  have h1 := wsA_fold m
  have := dec_words (wsA m) [] (Tail.nil elS) [] [] 0 0 (wsA_all m) (by omega) (by show 0 + (wsA m).length ≤ _; unfold wsA; rw [List.length_replicate]; omega)
  rw [List.append_nil, wsA_flat] at this
  unfold dec
  rw [this]
  refine ⟨rfl, ?_⟩
  show ([] ++ 0 :: (offs 0 (wsA m)).tail).length = _
  rw [List.nil_append, ← offs_head, offs_len]
  unfold wsA; rw [List.length_replicate]
theorem ne_of_len {ws : Ws} (h : 0 < ws.length) : ws ≠ [] := fun e => by rw [e] at h; cases h
theorem wsA_len (m : Nat) : (wsA m).length = m := List.length_replicate
theorem wsN_len (m : Nat) : (wsN m).length = m := List.length_replicate
theorem rowA_more (m : Nat) (hm : m = 1024) : (dec elS (rowA (m + 1))).2.2 = (m, 3) := by
  have h1 := wsA_fold m
  have hl := wsA_len m
  obtain ⟨cs', e1, e2⟩ := dec_behind (wsA m) [97] [] [] 0 0 (wsA_all m) (by omega) (by show 0 + (wsA m).length ≤ _; omega) (ne_of_len (by omega))
  rw [hl] at e1
  rw [wsA_flat, ← rowA_succ, rowA_len] at e2
  have e1' : cs'.length = 0 + m := e1
  unfold dec
  rw [e2, decG_full elS_ok _ _ _ _ [97] (elS_text 97 [] (by decide) (by decide)) (.inr (by omega)), Nat.zero_add]
theorem rowA_full (m : Nat) (hm : m = 1025) : (dec elS (rowA m)).2.2 = (1024, 3) := by
  obtain ⟨k, rfl⟩ : ∃ k, m = k + 1 := ⟨1024, hm⟩
  have h : k = 1024 := by omega
  rw [rowA_more k h, h]
theorem rowN_ok (m : Nat) (h : m ≤ 512) : (dec elS (rowN m)).2.2.2 = 0 := by
  have h1 := wsN_fold m []
  have := dec_words (wsN m) [] (Tail.nil elS) [] [] 0 0 (wsN_all m) (by rw [h1]; show 0 + m ≤ _; omega) (by show 0 + (wsN m).length ≤ _; unfold wsN; rw [List.length_replicate]; omega)
  rw [List.append_nil, wsN_flat] at this
  unfold dec
  rw [this]
theorem rowN_more (m : Nat) (hm : m = 512) : (dec elS (rowN (m + 1))).2.2 = (3 * m, 3) := by
  have h1 := wsN_fold m []
  have hl := wsN_len m
  have h1' : ((itW (wsN m)).foldl normS []).length = 0 + m := h1
  obtain ⟨cs', e1, e2⟩ := dec_behind (wsN m) bitN [] [] 0 0 (wsN_all m) (by omega) (by show 0 + (wsN m).length ≤ _; omega) (ne_of_len (by omega))
  rw [wsN_flat, ← rowN_succ, rowN_len] at e2
  have hel : elS bitN = some (some slotN, 3) := elS_slot [110] [] (by decide) slot_nm
  have hln : (normS ((itW (wsN m)).foldl normS []) slotN).length = m + 1 := by rw [norm_other _ slotN (by decide), List.length_append, h1']; simp
  unfold dec
  rw [e2, decG_full elS_ok _ _ _ _ bitN hel (.inl (by omega)), Nat.zero_add]
theorem rowN_full (m : Nat) (hm : m = 513) : (dec elS (rowN m)).2.2 = (1536, 3) := by
  obtain ⟨k, rfl⟩ : ∃ k, m = k + 1 := ⟨512, hm⟩
  have h : k = 512 := by omega
  rw [rowN_more k h, h]
/-- A unit and a long field. -/
def longL (n : Nat) : List UInt8 := [116, 101, 120, 116] ++ 44 :: ([110] ++ 10 :: (34 :: ([97] ++ 34 :: 44 :: List.replicate n 120)))
theorem longL_len (n : Nat) : (longL n).length = n + 11 := by unfold longL; simp
theorem longL_succ (n : Nat) : longL (n + 1) = longL n ++ [120] := by unfold longL; rw [List.replicate_succ']; simp
theorem longL_ok (n : Nat) (hn : n + 11 ≤ 65536) : (splS (bsL (longL n))).2 = (0, 0) := by
  have hsz : (bsL (longL n)).size = n + 11 := by rw [bsL_size, longL_len]
  have h0 := rest_zero (longL n)
  rw [splS_of (by rw [hsz]; omega)]
  generalize bsL (longL n) = D at *
  obtain ⟨e1, r1, l1⟩ := htext (n := 0) (t := 0) (c := 0) (by rw [h0]; rfl) (Nat.zero_le _)
  have hfl : fldS (restD D (0 + 4 + 1)) = some ⟨false, 1, 1⟩ := by
    rw [r1]; exact fld_bareS (u := [110]) (by decide) (fun x hx => by injection hx with hx; exact .inr hx.symm)
  have r2 := rest_drop (k := 1) r1
  have he : endsR D (0 + 4 + 1 + 1) = true := by unfold endsR; rw [r2]; rfl
  have hx : isText D (0 + 4 + 1) ⟨false, 1, 1⟩ = false := by unfold isText; rw [r1]; rfl
  rw [e1, hdr_end l1 hfl he, hx, if_neg (by decide), if_neg (by decide)]
  have r3 := rest_drop (k := 1) r2
  show (recH D 2 0 [] 0 7 1).2 = _
  rw [recH_go (by omega)]
  obtain ⟨e4, r4, l4⟩ := step_q (f := 2) (c := 0) (ps := []) (a := 0) (st := 7) (n := 0) (k := 1) r3 (by omega) (Safe.one (by decide)) (by decide) (by decide) rfl
  rw [show (0 + 4 + 1 + 1 + 1 : Nat) = 7 from rfl] at e4 r4 l4
  rw [e4, step_e r4 l4 (fun x hx => by
    rw [List.eq_of_mem_replicate hx]; decide) (by decide) (by decide) (by decide)]
end Go.Proofs.YteaciofacmbllaaDoor
namespace Go.Proofs.YteaciofacmbllaaDoor
open Go.ChangeShapes Go.WideShapes Go.ChangeAt Go.RowKit
set_option linter.unusedVariables false
set_option linter.unusedSimpArgs false
set_option maxRecDepth 100000

/-- Split's offset and error, on both sides. -/
def EndAt (q : Nat) (er : Int) (w : World) (e : Ending) (w' : World) : Prop := ∃ p n c, e = .returned (.tuple #[.slice p n c, .int .i64 (q : Int), .int .i64 er]) ∧ Below w.heap.size w w'
theorem EndS.at {R : List Pt × Nat × Int} {w w' : World} {e : Ending} {q : Nat} {er : Int} (h : EndS R w e w') (hq : R.2 = (q, er)) : EndAt q er w e w' := by
  obtain ⟨p, c, rfl, _, _, _, hb⟩ := h
  exact ⟨p, R.1.length, c, by rw [hq], hb⟩
theorem long_two (n : Nat) (h : n ≤ 65600) {w : World} (hI : ItoaOk 1000000000 w) : ∃ er : Int, (er == 3) = decide (65536 < n + 11) ∧ (∀ W, Below w.heap.size w W → Calls Tryd.prog 12 #[.string (bsL (longL n))] W (EndAt 0 er W)) ∧ ∀ W, Calls Tryd.prog 13 #[.int .i64 3, .string (bsL (longL n))] W (EndAt 0 er W) := by
  have hz : (bsL (longL n)).size = n + 11 := by rw [bsL_size, longL_len]
  by_cases hb : 65536 < n + 11
  · have hR : (splS (bsL (longL n))).2 = (0, 3) := by rw [splS_long (by omega)]
    exact ⟨3, by rw [decide_eq_true hb]; rfl, fun W hb => (split_any _ W (by omega) ((hI.call hb).le (by omega))).mono fun e w' h => h.at hR, fun W => (refsplit_any _ W (by omega)).mono fun e w' h => h.at hR⟩
  · have hR : (splS (bsL (longL n))).2 = (0, 0) := longL_ok n (by omega)
    exact ⟨0, by rw [decide_eq_false hb]; rfl, fun W hb => (split_any _ W (by omega) ((hI.call hb).le (by omega))).mono fun e w' h => h.at hR, fun W => (refsplit_any _ W (by omega)).mono fun e w' h => h.at hR⟩
theorem place3 (a : Int) (h : (Lit.int .i64 a).wf = true) : ∃ k : Nat, k ≤ 2 ∧ ∀ W, Calls Tryd.prog 11 #[.int .i64 a, .int .i64 3] W fun e w' => e = .returned (.int .i64 (k : Int)) ∧ W = w' := by
  have u0 := Int.emod_nonneg a (show (3 : Int) ≠ 0 by decide)
  have u1 := Int.emod_lt_of_pos a (show (0 : Int) < 3 by decide)
  refine ⟨(a % 3).toNat, by omega, fun W => ?_⟩
  have := place_any a 3 W (by omega) (by omega) h
  rw [show a % 3 = ((a % 3).toNat : Int) by omega] at this
  exact this
/-- append of a byte where there is no room. -/
theorem wpl_growB (w : World) {ops : Array Oper} {rest : List Oper} {o : Oper} {a : Act} {Q : Exit → Act → World → Prop} (hg : o.guard = none) (s x : Operand)
    (ho : o.op = .call { callee := .builtin .append, args := #[s, x], argTypes := #[22, 22] }) (B0 n : Nat) (l : List UInt8) (hs : a.eval s = .slice (some ⟨B0, 0, none⟩) n n) (hl : l.length = n) (hc : ∀ j u, (cellsOf benc l)[j]? = some u → w.cell? ((⟨B0, 0, none⟩ : Addr).add j) = some u)
    (y : UInt8) (B : Nat) (cs : Array Value) (hx : a.eval x = .slice (some ⟨B, 0, none⟩) 1 1) (hB : w.heap[B]? = some (.cells cs 5 (0, 0))) (hcs : cs.toList = benc y) (hn : n ≤ 1000000)
    (hK : ∀ v' w', OwB w.heap.size (l ++ [y]) v' w' → w.grownBy w' none → wpList Tryd.prog ops Q rest (a.put o.dst v') w') : wpList Tryd.prog ops Q (o :: rest) a w := by
  obtain ⟨i, hi, hz0, hz1, hz2⟩ := eB.hi
  have hlc : (cellsOf benc l).length = n * 1 := by rw [cellsOf_len eB, hl]
  refine wpList_append_grows w hg s x 22 ho 5 i (.int .u8 0) 1 1 eB.ht hi hz0 hz1 hz2 eB.hzs eB.hsz (some ⟨B0, 0, none⟩) n n (cellsOf benc l) hs (fun h => by cases h) hlc (fun b hb => by injection hb with hb; subst hb; exact hc) ⟨B, 0, none⟩ 1 1 (benc y) hx rfl ?_ (eB.one y) (by omega) (by unfold maxLen; omega) (by omega) ?_
  · rw [← hcs]; exact World.news_of_block hB
  · intro v' w' h1 h2
    refine hK v' w' (OwB.of ?_) h2
    unfold OwnL
    rw [List.length_append, hl, show cellsOf benc (l ++ [y]) = cellsOf benc l ++ benc y from by unfold cellsOf; rw [List.flatMap_append]; simp]; exact h1
theorem cellsB5 : cellsOf benc (longL 0) = (#[.int .u8 116, .int .u8 101, .int .u8 120, .int .u8 116, .int .u8 44, .int .u8 110, .int .u8 10, .int .u8 34, .int .u8 97, .int .u8 34, .int .u8 44] : Array Value).toList := rfl
set_option maxHeartbeats 12800000 in
theorem limits_any (a0 a1 a2 : Int) (w : World) (w0 : (Lit.int .i64 a0).wf = true) (w1 : (Lit.int .i64 a1).wf = true) (w2 : (Lit.int .i64 a2).wf = true) (hI : ItoaOk 1000000000 w) :
    Calls Tryd.prog 3 #[.int .i64 a0, .int .i64 a1, .int .i64 a2] w fun e w' => e = .returned (.bool true) ∧ Below w.heap.size w w' := by
  have HK := Lib.hid known_any
  obtain ⟨k0, hk0, P0⟩ := place3 a0 w0
  obtain ⟨k1, hk1, P1⟩ := place3 a1 w1
  obtain ⟨k2, hk2, P2⟩ := place3 a2 w2
  obtain ⟨er, her, hS, hT⟩ := long_two (65524 + k0) (by omega) hI
  have HP0 := Lib.hid P0; have HP1 := Lib.hid P1; have HP2 := Lib.hid P2; have HSP := Lib.hid hS; have HRS := Lib.hid hT
  unfold EndAt at HSP HRS
  have hdA := fun W => decode_any (bsL (rowA (1023 + k1))) W (by rw [bsL_size, rowA_len]; omega)
  have hcA := fun W => cuts_any (bsL (rowA (1023 + k1))) W (by rw [bsL_size, rowA_len]; omega)
  have hdN := fun W => decode_any (bsL (rowN (511 + k2))) W (by rw [bsL_size, rowN_len]; omega)
  rw [bsL_list] at hdA hcA hdN
  unfold EndD at hdA hdN
  unfold EndC at hcA
  have hA : (1023 + k1 ≤ 1024 → (dec elS (rowA (1023 + k1))).2.2 = (0, 0) ∧ (dec elS (rowA (1023 + k1))).2.1.length = 1023 + k1 + 1) ∧ (¬ 1023 + k1 ≤ 1024 → (dec elS (rowA (1023 + k1))).2.2 = (1024, 3)) := ⟨rowA_ok _, fun h => rowA_full _ (by omega)⟩
  have hN : (511 + k2 ≤ 512 → (dec elS (rowN (511 + k2))).2.2.2 = 0) ∧ (¬ 511 + k2 ≤ 512 → (dec elS (rowN (511 + k2))).2.2 = (1536, 3)) := ⟨rowN_ok _, fun h => rowN_full _ (by omega)⟩
  obtain ⟨RA, hRA⟩ : ∃ R, dec elS (rowA (1023 + k1)) = R := ⟨_, rfl⟩
  obtain ⟨RN, hRN⟩ : ∃ R, dec elS (rowN (511 + k2)) = R := ⟨_, rfl⟩
  rw [hRA] at hdA hcA hA
  rw [hRN] at hdN hN
  obtain ⟨FA, CA, qA, eA⟩ := RA
  obtain ⟨FN, CN, qN, eN⟩ := RN
  dsimp only at hdA hcA hdN hA hN
  rw [show (nI CA).length = CA.length from nI_len CA] at hcA
  have HDA := Lib.hid hdA; have HCA := Lib.hid hcA; have HDN := Lib.hid hdN; have HA := Lib.hid hA; have HN := Lib.hid hN
  clear P0 P1 P2 hS hT hdA hcA hdN hA hN hRA hRN w0 w1 w2
  have hkc := Lib.run_convert_bytes_const (P := Tryd.prog) w 22 5 #[.int .u8 116, .int .u8 101, .int .u8 120, .int .u8 116, .int .u8 44, .int .u8 110, .int .u8 10, .int .u8 34, .int .u8 97, .int .u8 34, .int .u8 44] 11 11 Tryd.underlying22 Tryd.underlying5
  have hst : ∀ j u, (cellsOf benc (longL 0))[j]? = some u → (w.alloc (.cells #[.int .u8 116, .int .u8 101, .int .u8 120, .int .u8 116, .int .u8 44, .int .u8 110, .int .u8 10, .int .u8 34, .int .u8 97, .int .u8 34, .int .u8 44] 5 (11, 12))).cell? ((⟨w.heap.size, 0, none⟩ : Addr).add j) = some u := fun j u h => by
    rw [cellsB5] at h
    have : (w.alloc (.cells #[.int .u8 116, .int .u8 101, .int .u8 120, .int .u8 116, .int .u8 44, .int .u8 110, .int .u8 10, .int .u8 34, .int .u8 97, .int .u8 34, .int .u8 44] 5 (11, 12))).heap[w.heap.size]? = some (.cells #[.int .u8 116, .int .u8 101, .int .u8 120, .int .u8 116, .int .u8 44, .int .u8 110, .int .u8 10, .int .u8 34, .int .u8 97, .int .u8 34, .int .u8 44] 5 (11, 12)) := heap_alloc_new w _
    have e : ((⟨w.heap.size, 0, none⟩ : Addr).add j) = ⟨w.heap.size, j, none⟩ := by simp [Addr.add]; try omega
    rw [e, Lib.cell_of_heap this, ← Array.getElem?_toList]; exact h
  have HST := Lib.hid hst
  have hBst := blw (Below.refl w.heap.size w) (.cells #[.int .u8 116, .int .u8 101, .int .u8 120, .int .u8 116, .int .u8 44, .int .u8 110, .int .u8 10, .int .u8 34, .int .u8 97, .int .u8 34, .int .u8 44] 5 (11, 12))
  clear hst
  go_enter Tryd.func3, Tryd.ntmps3
  go_wp2_with fail
  clear hkc
  refine (HP0.out _).mono ?_; rintro e w1 ⟨rfl, rfl⟩
  go_wp2_with fail
  go_loopw [7] (fun v wr => ∃ q : Nat, q ≤ 65524 + k0 ∧ ((q = 0 ∧ v = .slice (some ⟨w.heap.size, 0, none⟩) 11 11 ∧ Hid (∀ j u, (cellsOf benc (longL 0))[j]? = some u → wr.cell? ((⟨w.heap.size, 0, none⟩ : Addr).add j) = some u) ∧ w.heap.size < wr.heap.size) ∨ (0 < q ∧ OwB w.heap.size (longL q) v wr)) ∧ Below w.heap.size w wr) (fun v _ => 70000 - (match v with | .slice _ n _ => n | _ => 0))
  case atStart => exact ⟨0, Nat.zero_le _, .inl ⟨rfl, rfl, HST, by simp⟩, hBst⟩
  case round =>
    obtain ⟨q, hq, hor, hB⟩ := hrel
    have hbs := hB.size
    clear HST hBst
    rcases hor with ⟨rfl, rfl, hC, hlw⟩ | ⟨hq0, hO⟩
    · have i1 : (11 : Int) < 65535 + (k0 : Int) := by omega
      have hC2 : ∀ j u, (cellsOf benc (longL 0))[j]? = some u → (wr.alloc (.cells #[.int .u8 120] 5)).cell? ((⟨w.heap.size, 0, none⟩ : Addr).add j) = some u := fun j u h => by
        have hbw := blw (Below.refl _ wr) (.cells #[.int .u8 120] 5)
        rw [hbw.cell (p := (⟨w.heap.size, 0, none⟩ : Addr).add j) (by rw [add_block]; exact hlw)]
        exact hC.out j u h
      have HC2 := Lib.hid hC2
      clear hC2 hC
      go_wp2_with (at_builtin; refine wpl_growB _ rfl _ _ rfl w.heap.size 11 (longL 0) rfl rfl HC2.out (120 : UInt8) wr.heap.size _ rfl (heap_alloc_new wr _) rfl (by omega) ?_; intro v6 w6 hO6 hg6)
      have hO7 : OwB w.heap.size (longL 1) v6 w6 := by
        have := hO6
        rw [← longL_succ] at this
        unfold OwB at this ⊢
        exact ownsRow_base this (by simp; omega)
      have hB6 := (blw hB (.cells #[.int .u8 120] 5)).grown hg6 (by simp; omega) (fun k hk => by cases hk)
      obtain ⟨g6, cap6, hv6, -, -⟩ := World.ownsRow.form hO6 (by simp)
      subst hv6
      clear hO6 hg6
      go_roundw
      case rel => exact ⟨1, by omega, .inr ⟨by omega, hO7⟩, hB6⟩
      case measure => simp [longL_len]
    have hO0 := hO
    unfold OwB at hO0
    obtain ⟨g, cap, hv, -, -⟩ := World.ownsRow.form hO0 (by rw [longL_len]; omega)
    rw [longL_len] at hv
    subst hv
    have HO := Lib.hid hO.ownL
    have hcv := fun W (h : OwB w.heap.size (longL q) (.slice (some ⟨g, 0, none⟩) (q + 11) cap) W) => econv_own h
    clear hO0
    by_cases hlt : q < 65524 + k0
    · have i1 : (q : Int) + 11 < 65535 + (k0 : Int) := by omega
      have HO2 := Lib.hid (HO.out.call (blw (Below.refl _ wr) (.cells #[.int .u8 120] 5)))
      have hsz : w.heap.size ≤ (wr.alloc (.cells #[.int .u8 120] 5)).heap.size := by simp; omega
      have hll := longL_len q
      have HLL := Lib.hid hll
      clear hll hO hcv
      go_wp2_with (at_builtin; refine wpl_app eB _ rfl _ _ rfl w.heap.size (longL q) (.slice (some ⟨g, 0, none⟩) (q + 11) cap) rfl HO2.out hsz (120 : UInt8) wr.heap.size _ rfl (heap_alloc_new wr _) rfl (by rw [HLL.out]; omega) (by rw [HLL.out]; unfold maxLen; omega) ?_; intro g2 cap2 w6 hO6 hg6 hl6)
      have hB6 := (blw hB (.cells #[.int .u8 120] 5)).grown hg6 hsz (fun k hk => (HO2.out.lt k hk).1)
      go_roundw
      case rel => exact ⟨q + 1, hlt, .inr ⟨by omega, by rw [longL_succ]; exact OwB.of hO6⟩, hB6⟩
      case measure => rw [HLL.out]; show 70000 - (q + 11 + 1) < 70000 - (q + 11); omega
    · obtain rfl : q = 65524 + k0 := by omega
      have i1 : ¬ (((65524 + k0 : Nat) : Int) + 11 < 65535 + (k0 : Int)) := by omega
      have hc1 := econv_own hO
      have s3 : (er != er) = false := by simp
      go_wp2_with fail
      refine (HSP.out _ hB).mono ?_; rintro e w2 ⟨p1, n1, cc1, rfl, hb⟩
      have bl := BelowOn hB hb
      have hO2 := hO.call hb
      have hc2 := econv_own hO2
      clear hO hb hc1
      go_wp2_with fail
      refine (HRS.out _).mono ?_; rintro e w3 ⟨p2, n2, cc2, rfl, hb⟩
      have bl := BelowOn bl hb
      clear hb hc2 hO2 HO
      go_upto_region 7 with fail
      go_cut [68] (fun v w' => v = .bool false ∧ w' = w3)
      case first =>
        by_cases hk : 65536 < 65524 + k0 + 11
        · have q1 : (er == 3) = true := by rw [her]; exact decide_eq_true hk
          have i5 : (65536 : Int) < ((65524 + k0 : Nat) : Int) + 11 := by omega
          have i6 : (65536 : Int) < 65524 + (k0 : Int) + 11 := by omega
          have i7 : 65536 < 65524 + k0 + 11 := hk
          clear her
          go_wp2_with fail
          go_meet
          exact ⟨by first | rfl | simp, rfl⟩
        · have q1 : (er == 3) = false := by rw [her]; exact decide_eq_false hk
          have i5 : ¬ (65536 : Int) < ((65524 + k0 : Nat) : Int) + 11 := by omega
          have i6 : ¬ (65536 : Int) < 65524 + (k0 : Int) + 11 := by omega
          clear her
          go_wp2_with fail
          go_meet
          exact ⟨by first | rfl | simp, rfl⟩
      case rest =>
        obtain ⟨rfl, rfl⟩ := hcut
        clear her i1
        go_wp2_with fail
        refine (HP1.out _).mono ?_; rintro e w4 ⟨rfl, rfl⟩
        go_wp2_with fail
        go_loop [15, 17] (fun v i => ∃ x r : Nat, x + r = 1023 + k1 ∧ i = .int .i64 (r : Int) ∧ v = .string (bsL (rowA x))) (fun _ i => (intOf i).toNat)
        case atStart => exact ⟨0, 1023 + k1, Nat.zero_add _, by first | rfl | go_num, rfl⟩
        case round =>
          obtain ⟨x, r, hxr, rfl, rfl⟩ := hrel
          by_cases hr : 0 < r
          · have hz : (bsL (rowA x)).size = x := by rw [bsL_size, rowA_len]
            have hzz : ¬ (9223372036854775807 < (bsL (rowA x)).size + 1) := by omega
            have HNX := Lib.hid (show bsL (rowA x) ++ ⟨#[97]⟩ = bsL (rowA (x + 1)) by rw [rowA_succ, ← bsL_append]; rfl)
            clear hz
            go_wp2_with fail
            go_round
            case rel => exact ⟨x + 1, r - 1, by omega, by first | go_num | (congr 1; omega), by rw [← HNX.out]⟩
            case measure => simp [intOf]; omega
          · obtain rfl : r = 0 := by omega
            obtain rfl : x = 1023 + k1 := by omega
            clear hr hxr
            have hzA : (bsL (rowA (1023 + k1))).size = 1023 + k1 := by rw [bsL_size, rowA_len]
            generalize bsL (rowA (1023 + k1)) = SA at *
            go_wp2_with fail
            refine (HP2.out _).mono ?_; rintro e w5 ⟨rfl, rfl⟩
            go_wp2_with fail
            go_loop [16, 18] (fun v i => ∃ x r : Nat, x + r = 511 + k2 ∧ i = .int .i64 (r : Int) ∧ v = .string (bsL (rowN x))) (fun _ i => (intOf i).toNat)
            case atStart => exact ⟨0, 511 + k2, Nat.zero_add _, by first | rfl | go_num, rfl⟩
            case round =>
              obtain ⟨x, r, hxr, rfl, rfl⟩ := hrel
              by_cases hr : 0 < r
              · have hz : (bsL (rowN x)).size = 3 * x := by rw [bsL_size, rowN_len]
                have hzz : ¬ (9223372036854775807 < (bsL (rowN x)).size + 3) := by omega
                have HNX := Lib.hid (show bsL (rowN x) ++ ⟨#[123, 110, 125]⟩ = bsL (rowN (x + 1)) by rw [rowN_succ, ← bsL_append]; rfl)
                clear hz
                go_wp2_with fail
                go_round
                case rel => exact ⟨x + 1, r - 1, by omega, by first | go_num | (congr 1; omega), by rw [← HNX.out]⟩
                case measure => simp [intOf]; omega
              · obtain rfl : r = 0 := by omega
                obtain rfl : x = 511 + k2 := by omega
                clear hr hxr
                have hzN : (bsL (rowN (511 + k2))).size = 3 * (511 + k2) := by rw [bsL_size, rowN_len]
                generalize bsL (rowN (511 + k2)) = SN at *
                go_wp2_with fail
                refine (HDA.out _).mono ?_; rintro e w6 ⟨p3, c3, rfl, -, -, -, hb⟩
                have bl := BelowOn bl hb; clear hb
                go_wp2_with fail
                refine (HDN.out _).mono ?_; rintro e w7 ⟨p4, c4, rfl, -, -, -, hb⟩
                have bl := BelowOn bl hb; clear hb
                go_wp2_with fail
                refine (HCA.out _).mono ?_; rintro e w8 ⟨p5, c5, rfl, -, -, -, hb⟩
                have bl := BelowOn bl hb; clear hb
                have e3 : (eA != eA) = false := by simp
                clear HSP HRS HDA HDN HCA HP0 HP1 HP2
                go_upto_if 106 with (fail)
                go_cut [116] from 107 to 130 (fun v w' => w' = w8)
                case first =>
                  by_cases h1 : 1023 + k1 ≤ 1024
                  · obtain ⟨h2, h3⟩ := HA.out.1 h1
                    injection h2 with h4 h5
                    have t1 : (eA != 0) = false := by rw [h5]; rfl
                    have i5 : ¬ (1024 : Int) < (SA.size : Int) := by omega
                    have i6 : ((CA.length : Int) != (SA.size : Int) + 1) = false := by simp; omega
                    have i7 : ¬ 1024 < SA.size := by omega
                    have i8 : ¬ (9223372036854775807 < SA.size + 1) := by omega
                    clear hzA h3 h4 h5
                    go_wp2_with fail
                    go_meet
                    rfl
                  · have h2 := HA.out.2 h1
                    injection h2 with h4 h5
                    have t1 : (eA != 3) = false := by rw [h5]; rfl
                    have t2 : ((qA : Int) != 1024) = false := by rw [h4]; rfl
                    have i5 : (1024 : Int) < (SA.size : Int) := by omega
                    have i7 : 1024 < SA.size := by omega
                    clear hzA h4 h5
                    go_wp2_with fail
                    go_meet
                    rfl
                case rest =>
                  subst hcut
                  by_cases h1 : 511 + k2 ≤ 512
                  · have h2 := HN.out.1 h1
                    subst h2
                    have i5 : ¬ (1536 : Int) < (SN.size : Int) := by omega
                    have i7 : ¬ 1536 < SN.size := by omega
                    clear hzN
                    go_wp2_with fail
                    refine (HK.out _).mono ?_; rintro e w9 ⟨rfl, hb⟩
                    have bl := BelowOn bl hb; clear hb
                    go_wp2_with fail
                    go_ret
                    exact ⟨rfl, bl⟩
                  · have h2 := HN.out.2 h1
                    injection h2 with h4 h5
                    subst h4 h5
                    have i5 : (1536 : Int) < (SN.size : Int) := by omega
                    have i7 : 1536 < SN.size := by omega
                    clear hzN
                    go_wp2_with fail
                    refine (HK.out _).mono ?_; rintro e w9 ⟨rfl, hb⟩
                    have bl := BelowOn bl hb; clear hb
                    go_wp2_with fail
                    go_ret
                    exact ⟨rfl, bl⟩
end Go.Proofs.YteaciofacmbllaaDoor
namespace Go.Proofs.YteaciofacmbllaaDoor.sheetLimits
open Go.ChangeShapes Go.WideShapes Go.ChangeAt Go.RowKit
open Go.ChangeMaps (open_string shut_string)
set_option linter.unusedVariables false
set_option maxRecDepth 100000

theorem own : ownKnob Tryd.prog.godebug = none := by kernel_rfl
theorem laidOut : laidOutB Tryd.prog = true := by kernel_rfl


set_option maxHeartbeats 1600000 in
theorem walk (a0 : Int) (a1 : Int) (a2 : Int) (w : World) (w0 : (Lit.int .i64 a0).wf = true) (w1 : (Lit.int .i64 a1).wf = true) (w2 : (Lit.int .i64 a2).wf = true) (hE : ItoaOk 1000000000 w) :
    Calls Tryd.prog 3 #[.int .i64 a0, .int .i64 a1, .int .i64 a2] w fun e w' => e = .returned (.bool true) ∧ Below w.heap.size w w' := by
  exact limits_any a0 a1 a2 w w0 w1 w2 hE

theorem lifted (os : Os) (started : os.Started) (H : Type) (enc : TypeId × Value → H) :
    ReturnsInHanded {} Tryd.checked os 3 .any (fun w args => (Rows.sheetLimitsSpec.pre enc Tryd.prog Tryd.f3 Rows.sheetLimitsRow.domain false w args ∧ laidMetH Tryd.prog Rows.sheetLimitsRow.laid w) ∧ sizedMet enc Tryd.prog Tryd.f3 (OpenSpec.ofChange Rows.sheetLimitsSpec) false w args)
      (Rows.sheetLimitsSpec.post enc Tryd.prog Tryd.f3 false true false false) := by
  refine returnsInHanded_of_change_and (C := Tryd.checked) (X := fun w _ => laidMetH Tryd.prog Rows.sheetLimitsRow.laid w) (fun _ _ _ hh h => h.of_heap hh) own started (by kernel_rfl) Tryd.func3
    (ChangeSpec.witness_shaped (enc := enc) (C := Tryd.checked) (os := os) (X := fun w _ => laidMetH Tryd.prog Rows.sheetLimitsRow.laid w) false (World.laidAll Tryd.prog os Rows.sheetLimitsRow.laid) #[.int .i64 0, .int .i64 0, .int .i64 0] 8 (World.laidAll_os _ _ _) (World.shaped_of_ZipB (by kernel_rfl) (by kernel_rfl)) (by kernel_rfl) (by kernel_rfl) (by kernel_rfl) (by rw [MakeChecks.laidMetH_plain _ _ _ (by kernel_rfl)]; exact laidMet_laidAll _ (by kernel_rfl) (by kernel_rfl))) ?_
  intro W base args ds gs before hval0 hW hcnd hsz0 hL _
  have hval : ∀ (j : Nat) t v, Tryd.f3.params[j]? = some t → args[j]? = some v → Value.okWide Tryd.prog W .any base t v := hval0
  have hW' := hW
  have hlt : ∀ x ∈ before, x.block < W.heap.size := fun x hx => hW'.lt x hx
  obtain ⟨p, q, hA0, hV, rfl, hfz, hnd⟩ := hW
  have hA : DataW.TrodAll enc Tryd.prog W 0 (fun _ => true) true Tryd.f3.params.toList args.toList ds p := hA0
  rw [Tryd.params3] at hA hval hsz0
  obtain ⟨v0, vs0, d0, ds0, p0, q0, hargs, rfl, rfl, h0, r0⟩ := trodAll_cons hA
  obtain ⟨v1, vs1, d1, ds1, p1, q1, rfl, rfl, rfl, h1, r1⟩ := trodAll_cons r0
  obtain ⟨v2, vs2, d2, ds2, p2, q2, rfl, rfl, rfl, h2, r2⟩ := trodAll_cons r1
  obtain ⟨rfl, rfl, rfl⟩ := trodAll_nil r2
  obtain rfl : args = #[v0, v1, v2] := by cases args; simp_all
  obtain ⟨rfl, rfl⟩ := trodVars_none hV
  have hsz := hsz0; clear hsz0
  obtain ⟨a0, rfl, -, -, w0⟩ := open_int Tryd.underlying3 (hval 0 3 v0 rfl rfl) h0
  obtain ⟨a1, rfl, -, -, w1⟩ := open_int Tryd.underlying3 (hval 1 3 v1 rfl rfl) h1
  obtain ⟨a2, rfl, -, -, w2⟩ := open_int Tryd.underlying3 (hval 2 3 v2 rfl rfl) h2
  clear hA0 hval0
  refine (walk a0 a1 a2 W w0 w1 w2 (itoa_of_laid hL)).mono fun e W' ⟨he, bel⟩ => ?_
  subst he
  exact ⟨_, rfl, _, _, _, [], _, [], hW', trodAll_mk1 (shut_bool Tryd.underlying4 _), (trodAll_cons_mk (Below.trod laidOut (by kernel_rfl) (of_decide_eq_true (by kernel_rfl)) h0 bel (fun x hx => hlt x (by simp [hx]))) (trodAll_cons_mk (Below.trod laidOut (by kernel_rfl) (of_decide_eq_true (by kernel_rfl)) h1 bel (fun x hx => hlt x (by simp [hx]))) (trodAll_cons_mk (Below.trod laidOut (by kernel_rfl) (of_decide_eq_true (by kernel_rfl)) h2 bel (fun x hx => hlt x (by simp [hx]))) trodAll_mk0))), rfl, bel.frame _, fun h => by cases h⟩

theorem over : Rows.SheetLimitsSaid :=
  OpenClaim.holds_of_wide 3 Tryd.f3 rfl rfl rfl rfl rfl rfl rfl ⟨rfl, rfl, rfl, rfl, rfl⟩ rfl rfl rfl rfl rfl (by kernel_rfl) Tryd.func3 (by kernel_rfl)
    (of_decide_eq_true (by kernel_rfl)) (by unfold Func.isWrapper; first | (rw [if_pos (by decide +kernel)]; kernel_rfl) | (rw [if_neg (by decide +kernel)]; exact ⟨rfl, rfl⟩))
    (fun os started H enc _ => lifted os started H enc)

theorem proved : Rows.SheetLimitsCardSaid :=
  Claim7.holds_tied_plain_at .later [] [.data, .data, .data] true (true, "a5b6abed314576cd32e3bf15c06510b1206821911040e32ccdbaea1ea5d6fcc3") false
    over (fun _ h => by cases h) (by kernel_rfl) (fun _ h => by cases h) sheetLimits_row_tie rfl ⟨rfl, rfl⟩ (by kernel_rfl) rfl
    (fun f fn hf hfn => by
      obtain rfl : f = 3 := Option.some.inj ((show Tryd.prog.funcNamed "bitext/bitextlaw9.SheetLimits" = some 3 by kernel_rfl).symm.trans hf) |>.symm
      obtain rfl : fn = Tryd.f3 := (Option.some.inj (Tryd.func3.symm.trans hfn)).symm
      exact ⟨by kernel_rfl, fun j t ht => by
        rw [Tryd.params3] at ht
        have hm : t ∈ [3, 3, 3] := by simpa using Array.mem_of_getElem? ht
        have hall : ([3, 3, 3].all fun u => !Tryd.prog.wantsStandIn u) = true := by kernel_rfl
        exact (show Tryd.prog.wantsStandIn t = false by simpa using List.all_eq_true.1 hall t hm)⟩)
    (by kernel_rfl)
#print axioms proved
end Go.Proofs.YteaciofacmbllaaDoor.sheetLimits
