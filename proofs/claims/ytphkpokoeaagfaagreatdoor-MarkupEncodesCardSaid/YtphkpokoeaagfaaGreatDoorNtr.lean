/- Plain mathematics of notations: what is written is read, and what is read is what was written. -/
import Derived.Test.YtphkpokoeaagfaaGreatDoorNtm
namespace Go.Proofs.YtphkpokoeaagfaaGreatDoor
set_option linter.unusedVariables false
open Go.Lib

theorem all_u8 {P : UInt8 → Prop} (h : ∀ m : Fin 256, P (UInt8.ofNat m.val)) (c : UInt8) : P c := by
  have := h ⟨c.toNat, c.toNat_lt⟩
  simpa using this
theorem sg_60 : sg 60 = 60 := by decide +kernel
theorem sg_123 : sg 123 = 123 := by decide +kernel
theorem sg_92 : sg 92 = 92 := by decide +kernel
theorem plain_ne (c : UInt8) (h : sg c = 0) : c ≠ 60 ∧ c ≠ 123 ∧ c ≠ 92 := by
  refine ⟨fun e => ?_, fun e => ?_, fun e => ?_⟩ <;> subst e <;> revert h <;> decide +kernel
theorem esc_back : ∀ c : UInt8, sg c ≠ 0 → sg c ≠ 120 → unS (sg c) = c := all_u8 (by decide +kernel)
theorem hex_back : ∀ c : UInt8, UInt8.ofNat (16 * (c.toNat / 16) + c.toNat % 16) = c := fun c => by
  rw [show 16 * (c.toNat / 16) + c.toNat % 16 = c.toNat by omega]; simp
theorem sg_zero : sg 0 = 120 := by decide +kernel
/-- The notation of a byte is read. -/
theorem rd_byte (c : UInt8) (r : List UInt8) : rdE (wrU c ++ r) = some (bT c, (wrU c).length) := by
  by_cases h0 : sg c = 0
  · obtain ⟨a1, a2, a3⟩ := plain_ne c h0
    have e : wrU c = [c] := if_pos h0
    rw [e]
    show rdE (c :: r) = _
    rw [rdE_plain c r a1 a2 a3, rdPlain, if_pos h0]; rfl
  · by_cases h1 : sg c = 120
    · have e : wrU c = [92, 120, hxU (c.toNat / 16), hxU (c.toNat % 16)] := by unfold wrU; rw [if_neg h0, if_pos h1]
      have hlt := c.toNat_lt
      rw [e]
      show rdE (92 :: 120 :: hxU (c.toNat / 16) :: hxU (c.toNat % 16) :: r) = _
      rw [rdE_92, rdEsc_cons, if_pos rfl, rdHex_two, hxV_hxU _ (by omega), hxV_hxU _ (by omega), hex_back, if_pos ⟨by omega, by omega, h1⟩]; rfl
    · have e : wrU c = [92, sg c] := by unfold wrU; rw [if_neg h0, if_neg h1]
      rw [e]
      show rdE (92 :: sg c :: r) = _
      rw [rdE_92, rdEsc_cons, if_neg h1, esc_back c h0 h1, if_pos rfl]; rfl
theorem esc_fwd (c : UInt8) (hc : c ≠ 120) (h : sg (unS c) = c) : wrU (unS c) = [92, c] := by
  have h0 : c ≠ 0 := fun e => by subst e; revert h; decide +kernel
  unfold wrU
  rw [h, if_neg h0, if_neg hc]
theorem kindT_cases (d t : List UInt8) : kindT d t = 2 ∨ kindT d t = 3 ∨ kindT d t = 4 := by
  unfold kindT; split
  · exact .inr (.inl rfl)
  · split
    · exact .inr (.inr rfl)
    · exact .inl rfl
theorem rdHex_some {r : List UInt8} {x : It} {n : Nat} (h : rdHex r = some (x, n)) : ∃ a b t, r = a :: b :: t ∧ hxV a < 16 ∧ hxV b < 16 ∧ sg (UInt8.ofNat (16 * hxV a + hxV b)) = 120 ∧ x = bT (UInt8.ofNat (16 * hxV a + hxV b)) ∧ n = 4 := by
  match r, h with
  | a :: b :: t, h =>
    rw [rdHex_two] at h
    by_cases hh : hxV a < 16 ∧ hxV b < 16 ∧ sg (UInt8.ofNat (16 * hxV a + hxV b)) = 120
    · rw [if_pos hh] at h
      injection h with h
      injection h with h1 h2
      exact ⟨a, b, t, rfl, hh.1, hh.2.1, hh.2.2, h1.symm, h2.symm⟩
    · rw [if_neg hh] at h; cases h
  | [], h => cases h
  | [a], h => cases h
theorem rdEsc_some {r : List UInt8} {x : It} {n : Nat} (h : rdEsc r = some (x, n)) : ∃ c, x = bT c ∧ (92 :: r).take n = wrU c ∧ n = (wrU c).length ∧ n ≤ r.length + 1 := by
  cases r with
  | nil => cases h
  | cons c r' =>
    rw [rdEsc_cons] at h
    by_cases hc : c = 120
    · rw [if_pos hc] at h
      obtain ⟨a, b, t, e0, ha, hb, hs, e1, e2⟩ := rdHex_some h
      subst e0 e2 hc
      have ht : (UInt8.ofNat (16 * hxV a + hxV b)).toNat = 16 * hxV a + hxV b := by rw [UInt8.toNat_ofNat']; omega
      have e : wrU (UInt8.ofNat (16 * hxV a + hxV b)) = [92, 120, a, b] := by
        unfold wrU
        rw [if_neg (by rw [hs]; decide), if_pos hs, ht, show (16 * hxV a + hxV b) / 16 = hxV a by omega, show (16 * hxV a + hxV b) % 16 = hxV b by omega, hxU_hxV a ha, hxU_hxV b hb]
      exact ⟨_, e1, by rw [e]; rfl, by rw [e]; rfl, by simp⟩
    · rw [if_neg hc] at h
      by_cases hs : sg (unS c) = c
      · rw [if_pos hs] at h
        injection h with h
        injection h with h1 h2
        have e := esc_fwd c hc hs
        subst h2
        exact ⟨_, h1.symm, by rw [e]; rfl, by rw [e]; rfl, by simp⟩
      · rw [if_neg hs] at h; cases h
/-- What is read as a text is the notation of its byte. -/
theorem rd_text {l : List UInt8} {x : It} {n : Nat} (h : rdE l = some (x, n)) (hk : x.k = 1) : ∃ c, x = bT c ∧ l.take n = wrU c ∧ n = (wrU c).length ∧ n ≤ l.length := by
  cases l with
  | nil => cases h
  | cons c r =>
    rw [rdE_cons] at h
    by_cases h1 : c = 60
    · rw [if_pos h1, rdTag] at h
      split at h
      · injection h with h; injection h with h a2
        rw [← h] at hk
        have hk' : kindT (upto 58 (upto 62 r)) (aft 58 (upto 62 r)) = 1 := hk
        rcases kindT_cases (upto 58 (upto 62 r)) (aft 58 (upto 62 r)) with e | e | e <;> rw [e] at hk' <;> cases hk'
      · cases h
    · rw [if_neg h1] at h
      by_cases h2 : c = 123
      · rw [if_pos h2, rdSlot] at h
        split at h
        · injection h with h; injection h with h a2
          rw [← h] at hk; cases hk
        · cases h
      · rw [if_neg h2] at h
        by_cases h3 : c = 92
        · rw [if_pos h3] at h
          subst h3
          obtain ⟨c, a1, a2, a3, a4⟩ := rdEsc_some h
          exact ⟨c, a1, a2, a3, by simpa using a4⟩
        · rw [if_neg h3, rdPlain] at h
          split at h
          · rename_i hs
            injection h with h; injection h with h h'
            have e : wrU c = [c] := if_pos hs
            exact ⟨c, h.symm, by rw [e, ← h']; rfl, by rw [e, ← h']; rfl, by rw [← h']; simp⟩
          · cases h

/-! ### tags and slots -/
theorem mem_byte {s : ByteArray} {c : UInt8} (h : c ∈ s.data.toList) : ∃ i, i < s.size ∧ byte s i = (c.toNat : Int) := by
  obtain ⟨i, hi, e⟩ := List.mem_iff_getElem.1 h
  have hi' : i < s.size := by simpa using hi
  exact ⟨i, hi', by unfold byte; rw [List.getD_eq_getElem?_getD, List.getElem?_eq_getElem hi]; show ((s.data.toList[i]).toNat : Int) = _; rw [e]⟩
theorem nm_mem {s : ByteArray} (h : isNm s = true) {c : UInt8} (hc : c ∈ s.data.toList) : nmB (c.toNat : Int) = true := by
  obtain ⟨i, hi, e⟩ := mem_byte hc
  rw [← e]; exact (isNm_bytes s h).2.2 i hi
theorem con_mem {s : ByteArray} (h : isCon s = true) {c : UInt8} (hc : c ∈ s.data.toList) : conB (c.toNat : Int) = true := by
  obtain ⟨i, hi, e⟩ := mem_byte hc
  rw [← e]; exact con_all s ((isCon_iff s).1 h) i hi
theorem u8_ne {c d : UInt8} (h : (c.toNat : Int) ≠ (d.toNat : Int)) : c ≠ d := fun e => h (by rw [e])
theorem nm_ne {s : ByteArray} (h : isNm s = true) {c : UInt8} (hc : c ∈ s.data.toList) : c ≠ 125 ∧ c ≠ 62 ∧ c ≠ 10 ∧ c ≠ 47 := by
  have := nm_mem h hc
  unfold nmB at this; simp at this
  refine ⟨u8_ne ?_, u8_ne ?_, u8_ne ?_, u8_ne ?_⟩
  · show _ ≠ (125 : Int); omega
  · show _ ≠ (62 : Int); omega
  · show _ ≠ (10 : Int); omega
  · show _ ≠ (47 : Int); omega
theorem con_ne {s : ByteArray} (h : isCon s = true) {c : UInt8} (hc : c ∈ s.data.toList) : c ≠ 62 ∧ c ≠ 10 := by
  have := con_mem h hc
  unfold conB at this; simp at this
  refine ⟨u8_ne ?_, u8_ne ?_⟩
  · show _ ≠ (62 : Int); omega
  · show _ ≠ (10 : Int); omega
theorem last_byte (s : ByteArray) (c : UInt8) (h : s.data.toList.getLast? = some c) : byte s (s.size - 1) = (c.toNat : Int) := by
  rw [List.getLast?_eq_getElem?] at h
  have hl : s.data.toList.length = s.size := by simp
  unfold byte
  rw [List.getD_eq_getElem?_getD, ← hl, h]; rfl
theorem con_nolast {s : ByteArray} (h : isCon s = true) : s.data.toList.getLast? ≠ some 47 := fun e =>
  con_last s ((isCon_iff s).1 h) (by rw [last_byte s 47 e]; rfl)
theorem dec_ne58 (n : Nat) : ∀ c ∈ decDigits n, c ≠ 58 ∧ c ≠ 62 ∧ c ≠ 10 ∧ c ≠ 47 := fun c hc => by
  have := dec_digit n c hc
  refine ⟨u8_ne ?_, u8_ne ?_, u8_ne ?_, u8_ne ?_⟩
  · show _ ≠ (58 : Int); omega
  · show _ ≠ (62 : Int); omega
  · show _ ≠ (10 : Int); omega
  · show _ ≠ (47 : Int); omega
theorem dec_head (n : Nat) : (decDigits n).head? ≠ some 47 := fun e => by
  cases hd : decDigits n with
  | nil => exact dec_ne n hd
  | cons a t =>
    rw [hd] at e
    simp at e
    exact (dec_ne58 n a (by rw [hd]; exact .head _)).2.2.2 e
theorem head_app {a b : List UInt8} (h : a ≠ []) : (a ++ b).head? = a.head? := by cases a with | nil => exact absurd rfl h | cons x t => rfl
theorem isT_proper {x : It} (ht : isT x.k = true) (hp : properB x = true) : 1 ≤ x.id ∧ x.id ≤ 999 ∧ (x.k = 3 → isNm x.t = true) ∧ (x.k = 2 ∨ x.k = 4 → isCon x.t = true) := by
  unfold isT at ht; simp at ht
  unfold properB at hp
  rcases ht with h | h | h
  · rw [if_neg (by omega), if_pos (.inl h)] at hp
    simp [numB] at hp
    exact ⟨hp.2.1, hp.2.2, fun e => by omega, fun _ => hp.1⟩
  · rw [if_neg (by omega), if_neg (by omega), if_pos h] at hp
    simp [numB] at hp
    exact ⟨hp.2.1, hp.2.2, fun _ => hp.1, fun e => by omega⟩
  · rw [if_neg (by omega), if_pos (.inr h)] at hp
    simp [numB] at hp
    exact ⟨hp.2.1, hp.2.2, fun e => by omega, fun _ => hp.1⟩
/-- What stands between the brackets of a tag. -/
def insL (x : It) : List UInt8 := (if x.k = 3 then [47] else []) ++ decDigits x.id.toNat ++ [58] ++ x.t.data.toList ++ (if x.k = 4 then [47] else [])
theorem el_tag (x : It) (ht : isT x.k = true) : elL x = 60 :: (insL x ++ [62]) := by
  unfold isT at ht; simp at ht
  unfold elL insL
  rcases ht with h | h | h
  · rw [if_neg (by omega), if_pos h, if_neg (by omega), if_neg (by omega)]; simp
  · rw [if_neg (by omega), if_neg (by omega), if_pos h, if_pos h, if_neg (by omega)]; simp
  · rw [if_neg (by omega), if_neg (by omega), if_neg (by omega), if_pos h, if_neg (by omega), if_pos h]; simp
theorem ins_ne (x : It) (ht : isT x.k = true) (hp : properB x = true) : ∀ c ∈ insL x, c ≠ 62 ∧ c ≠ 10 := by
  obtain ⟨h1, h2, h3, h4⟩ := isT_proper ht hp
  intro c hc
  unfold insL at hc
  simp only [List.mem_append] at hc
  rcases hc with (((hc | hc) | hc) | hc) | hc
  · split at hc
    · simp at hc; subst hc; exact ⟨by decide, by decide⟩
    · cases hc
  · have := dec_ne58 _ c hc; exact ⟨this.2.1, this.2.2.1⟩
  · simp at hc; subst hc; exact ⟨by decide, by decide⟩
  · by_cases hk : x.k = 3
    · have := nm_ne (h3 hk) hc; exact ⟨this.2.1, this.2.2.1⟩
    · unfold isT at ht; simp at ht
      exact con_ne (h4 (by omega)) hc
  · split at hc
    · simp at hc; subst hc; exact ⟨by decide, by decide⟩
    · cases hc
theorem tag_ins (x : It) (ht : isT x.k = true) (hp : properB x = true) : hasU 58 (insL x) = true ∧ tagT (upto 58 (insL x)) (aft 58 (insL x)) = x := by
  obtain ⟨h1, h2, h3, h4⟩ := isT_proper ht hp
  have hd := dec_head x.id.toNat
  have hne := dec_ne x.id.toNat
  have h58 := dec_ne58 x.id.toNat
  have hnum := numF_dec x.id.toNat (by omega) (by omega)
  have e : insL x = ((if x.k = 3 then [47] else []) ++ decDigits x.id.toNat) ++ 58 :: (x.t.data.toList ++ (if x.k = 4 then [47] else [])) := by unfold insL; simp
  have hA : ∀ c ∈ (if x.k = 3 then [(47 : UInt8)] else []) ++ decDigits x.id.toNat, c ≠ 58 := by
    intro c hc
    rw [List.mem_append] at hc
    rcases hc with hc | hc
    · split at hc
      · simp at hc; subst hc; decide
      · cases hc
    · exact (h58 c hc).1
  rw [e, has_app _ _ _ hA, upto_app _ _ _ hA, aft_app _ _ _ hA]
  refine ⟨rfl, ?_⟩
  clear e hA
  unfold isT at ht; simp at ht
  have hid : ((x.id.toNat : Nat) : Int) = x.id := by omega
  rcases ht with h | h | h
  · have a3 : (if x.k = 3 then [(47 : UInt8)] else []) = [] := if_neg (by omega)
    have a4 : (if x.k = 4 then [(47 : UInt8)] else []) = [] := if_neg (by omega)
    rw [a3, a4, List.nil_append, List.append_nil]
    have hl := con_nolast (h4 (.inl h))
    apply It.ext'
    · show kindT _ _ = _; rw [kindT, if_neg hd, if_neg hl, h]
    · show bsL (txtT _ _) = _; rw [txtT, if_neg hd, if_neg hl, bsL_of]
    · show ((numF (digT _ _) : Nat) : Int) = _; rw [digT, if_neg hd, hnum, hid]
  · have a3 : (if x.k = 3 then [(47 : UInt8)] else []) = [47] := if_pos h
    have a4 : (if x.k = 4 then [(47 : UInt8)] else []) = [] := if_neg (by omega)
    rw [a3, a4, List.append_nil]
    have hd' : ([47] ++ decDigits x.id.toNat).head? = some (47 : UInt8) := rfl
    apply It.ext'
    · show kindT ([47] ++ decDigits x.id.toNat) x.t.data.toList = x.k; rw [kindT, if_pos hd', h]
    · show bsL (txtT ([47] ++ decDigits x.id.toNat) x.t.data.toList) = x.t; rw [txtT, if_pos hd', bsL_of]
    · show ((numF (digT ([47] ++ decDigits x.id.toNat) x.t.data.toList) : Nat) : Int) = x.id; rw [digT, if_pos hd']; show ((numF (decDigits x.id.toNat) : Nat) : Int) = x.id; rw [hnum, hid]
  · have a3 : (if x.k = 3 then [(47 : UInt8)] else []) = [] := if_neg (by omega)
    have a4 : (if x.k = 4 then [(47 : UInt8)] else []) = [47] := if_pos h
    rw [a3, a4, List.nil_append]
    have hl : (x.t.data.toList ++ [47]).getLast? = some (47 : UInt8) := by simp
    apply It.ext'
    · show kindT _ _ = _; rw [kindT, if_neg hd, if_pos hl, h]
    · show bsL (txtT _ _) = _; rw [txtT, if_neg hd, if_pos hl, List.dropLast_concat, bsL_of]
    · show ((numF (digT _ _) : Nat) : Int) = _; rw [digT, if_neg hd, hnum, hid]
theorem proper_kinds {x : It} (hp : properB x = true) : x.k = 1 ∨ isT x.k = true ∨ x.k = 5 := by
  unfold properB at hp
  by_cases h1 : x.k = 1
  · exact .inl h1
  · rw [if_neg h1] at hp
    by_cases h2 : x.k = 2 ∨ x.k = 4
    · refine .inr (.inl ?_); unfold isT; simp; omega
    · rw [if_neg h2] at hp
      by_cases h3 : x.k = 3
      · refine .inr (.inl ?_); unfold isT; simp; omega
      · rw [if_neg h3] at hp
        by_cases h5 : x.k = 5
        · exact .inr (.inr h5)
        · rw [if_neg h5] at hp; cases hp
theorem slot_proper {x : It} (hk : x.k = 5) : properB x = (isNm x.t && decide (x.id = 0)) := by
  unfold properB; rw [if_neg (by omega), if_neg (by omega), if_neg (by omega), if_pos hk]
theorem el_slot {x : It} (hk : x.k = 5) : elL x = 123 :: (x.t.data.toList ++ [125]) := by
  unfold elL; rw [if_neg (by omega), if_neg (by omega), if_neg (by omega), if_neg (by omega)]; simp
/-- The notation of a tag or a slot is read. -/
theorem rd_el (x : It) (hp : properB x = true) (hk : x.k ≠ 1) (r : List UInt8) : rdE (elL x ++ r) = some (x, (elL x).length) := by
  rcases proper_kinds hp with h | h | h
  · exact absurd h hk
  · obtain ⟨a1, a2⟩ := tag_ins x h hp
    have hn := fun c hc => (ins_ne x h hp c hc).1
    rw [el_tag x h]
    have e : 60 :: (insL x ++ [62]) ++ r = 60 :: (insL x ++ 62 :: r) := by simp
    have b1 := has_app 62 (insL x) r hn
    have b2 := upto_app 62 (insL x) r hn
    rw [e, rdE_60, rdTag, if_pos (by rw [b2, b1, a1, a2]; exact ⟨rfl, rfl, hp⟩), b2, a2]
    simp
  · rw [slot_proper h] at hp
    simp at hp
    have hn : ∀ c ∈ x.t.data.toList, c ≠ 125 := fun c hc => (nm_ne hp.1 hc).1
    rw [el_slot h]
    have e : 123 :: (x.t.data.toList ++ [125]) ++ r = 123 :: (x.t.data.toList ++ 125 :: r) := by simp
    have b1 := has_app 125 x.t.data.toList r hn
    have b2 := upto_app 125 x.t.data.toList r hn
    have e5 : (⟨5, x.t, 0⟩ : It) = x := It.ext' h.symm rfl hp.2.symm
    rw [e, rdE_123, rdSlot, if_pos (by rw [b2, b1, bsL_of]; exact ⟨rfl, hp.1⟩), b2, bsL_of, e5]
    simp
theorem txt_dec {d t : List UInt8} (hp : properB (tagT d t) = true) : insL (tagT d t) = d ++ 58 :: t := by
  have hT : isT (tagT d t).k = true := by
    show isT (kindT d t) = true
    unfold isT; have := kindT_cases d t; simp; omega
  obtain ⟨h1, h2, h3, h4⟩ := isT_proper hT hp
  have h0 : numF (digT d t) ≠ 0 := fun e => by
    have : (tagT d t).id = ((numF (digT d t) : Nat) : Int) := rfl
    rw [this, e] at h1; simp at h1
  obtain ⟨g1, g2, g3⟩ := numF_spec _ h0
  have eid : (tagT d t).id.toNat = numF (digT d t) := by show ((numF (digT d t) : Nat) : Int).toNat = _; omega
  have et : (tagT d t).t.data.toList = txtT d t := by show (bsL (txtT d t)).data.toList = _; exact bsL_list _
  have e0 : insL (tagT d t) = (if kindT d t = 3 then [47] else []) ++ digT d t ++ [58] ++ txtT d t ++ (if kindT d t = 4 then [47] else []) := by
    unfold insL; rw [eid, et, ← g3]; rfl
  rw [e0]
  clear e0 eid et g1 g2 g3 h0 h1 h2 h3 h4 hT hp
  by_cases hd : d.head? = some 47
  · have k3 : kindT d t = 3 := if_pos hd
    have k1 : digT d t = d.drop 1 := if_pos hd
    have k2 : txtT d t = t := if_pos hd
    rw [k3, k1, k2]
    cases d with
    | nil => cases hd
    | cons a r => simp at hd; subst hd; simp
  · have k1 : digT d t = d := if_neg hd
    rw [k1]
    by_cases hl : t.getLast? = some 47
    · have k3 : kindT d t = 4 := by rw [kindT, if_neg hd, if_pos hl]
      have k2 : txtT d t = t.dropLast := by rw [txtT, if_neg hd, if_pos hl]
      have e : t = t.dropLast ++ [47] := by
        have hne : t ≠ [] := by intro h; rw [h] at hl; cases hl
        rw [List.getLast?_eq_some_getLast hne] at hl
        injection hl with hl
        rw [← hl, List.dropLast_concat_getLast]
      rw [k3, k2]
      conv => rhs; rw [e]
      simp
    · have k3 : kindT d t = 2 := by rw [kindT, if_neg hd, if_neg hl]
      have k2 : txtT d t = t := by rw [txtT, if_neg hd, if_neg hl]
      rw [k3, k2]; simp
theorem take_cons_app (u v : List UInt8) (c : UInt8) : (u ++ c :: v).take (u.length + 1) = u ++ [c] := by
  rw [show u ++ c :: v = (u ++ [c]) ++ v by simp, List.take_append_of_le_length (by simp), List.take_of_length_le (by simp)]
/-- What is read as a tag or a slot is its notation. -/
theorem rd_other {l : List UInt8} {x : It} {n : Nat} (h : rdE l = some (x, n)) (hk : x.k ≠ 1) : properB x = true ∧ l.take n = elL x ∧ n = (elL x).length ∧ n ≤ l.length := by
  cases l with
  | nil => cases h
  | cons c r =>
    rw [rdE_cons] at h
    by_cases h1 : c = 60
    · rw [if_pos h1, rdTag] at h
      split at h
      · rename_i hh
        obtain ⟨b1, b2, b3⟩ := hh
        injection h with h; injection h with h a2
        have hT : isT x.k = true := by
          rw [← h]
          show isT (kindT _ _) = true
          have := kindT_cases (upto 58 (upto 62 r)) (aft 58 (upto 62 r))
          unfold isT; simp; omega
        have hi := txt_dec b3
        rw [h] at hi b3
        rw [← has_split 58 _ b2] at hi
        have hs := has_split 62 r b1
        have e : elL x = 60 :: (upto 62 r ++ [62]) := by rw [el_tag x hT, hi]
        refine ⟨b3, ?_, ?_, ?_⟩
        · rw [e, h1, ← a2]
          show 60 :: List.take ((upto 62 r).length + 1) r = _
          congr 1
          have := take_cons_app (upto 62 r) (aft 62 r) 62
          rwa [← hs] at this
        · rw [e, ← a2]; simp
        · rw [← a2]
          have := congrArg List.length hs
          simp at this
          simp; omega
      · cases h
    · rw [if_neg h1] at h
      by_cases h2 : c = 123
      · rw [if_pos h2, rdSlot] at h
        split at h
        · rename_i hh
          injection h with h; injection h with h a2
          have hs := has_split 125 r hh.1
          generalize hu : upto 125 r = u at *
          generalize aft 125 r = v at *
          have hk5 : x.k = 5 := by rw [← h]
          have e : elL x = 123 :: (u ++ [125]) := by rw [el_slot hk5, ← h]; show 123 :: ((bsL u).data.toList ++ _) = _; rw [bsL_list]
          refine ⟨?_, ?_, ?_, ?_⟩
          · rw [slot_proper hk5, ← h]; simp; exact hh.2
          · rw [e, h2, ← a2, hs]
            show 123 :: List.take (u.length + 1) (u ++ 125 :: v) = _
            rw [take_cons_app]
          · rw [e, ← a2]; simp
          · rw [← a2, hs]; simp
        · cases h
      · rw [if_neg h2] at h
        by_cases h3 : c = 92
        · rw [if_pos h3] at h
          obtain ⟨c, a1, _⟩ := rdEsc_some h
          rw [a1] at hk; exact absurd rfl hk
        · rw [if_neg h3, rdPlain] at h
          split at h
          · injection h with h; injection h with h h'
            rw [← h] at hk; exact absurd rfl hk
          · cases h
theorem rd_pos {l : List UInt8} {x : It} {n : Nat} (h : rdE l = some (x, n)) : 1 ≤ n ∧ n ≤ l.length := by
  by_cases hk : x.k = 1
  · obtain ⟨c, _, _, h2, h3⟩ := rd_text h hk
    have := (wrU_len c).1; omega
  · obtain ⟨h1, _, h2, h3⟩ := rd_other h hk
    have : 1 ≤ (elL x).length := by
      rcases proper_kinds h1 with h | h | h
      · exact absurd h hk
      · rw [el_tag x h]; simp
      · rw [el_slot h]; simp
    omega
end Go.Proofs.YtphkpokoeaagfaaGreatDoor
