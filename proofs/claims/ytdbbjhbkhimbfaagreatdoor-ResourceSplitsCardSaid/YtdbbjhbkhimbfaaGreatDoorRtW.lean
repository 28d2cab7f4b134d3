/- Contracts of the reference's text and slot. Contracts of the reference's resource (an element of chapter 8): all but the backslash. Contracts of the reference's resource behind a backslash, and of element. The contracts of the reference's resource and element. The contract of the reference's Decode at the format of resources. The contract of the law's changed: a string of the same length. Contracts of the reference's builder of parts. Plain mathematics of the reference's reading of lines: blanks, keys. The contract of the reference's Split at the format of resources. The walk of the reference's splitResource. The contract of the reference's Split at the format of resources. -/
import Derived.Test.YtdbbjhbkhimbfaaGreatDoorRtU
import Derived.Deep.Cut
import Derived.Test.YtdbbjhbkhimbfaaGreatDoorRtB
import Derived.Test.YtdbbjhbkhimbfaaGreatDoorNxt
import Derived.Lib.ConvBytes
import Derived.Lib.SlBytesRow
import Derived.Lib.UnsafeStr
import Derived.Test.YtdbbjhbkhimbfaaGreatDoorRtD
import Derived.Handy
import Derived.Deep.DeepCutAuto
namespace Go.Proofs.YtdbbjhbkhimbfaaGreatDoor
open Go.ChangeShapes Go.WideShapes Go.ChangeAt Go.RowKit
set_option linter.unusedVariables false
set_option linter.unusedSimpArgs false
set_option maxRecDepth 100000

/-- What a reader of elements answers: the item and its length, or nothing and 0. -/
def xv (x : It) : Value := .agg #[.int .i64 x.k, .string x.t, .int .i64 x.id]
theorem rconv_byte2 (w : World) (c : UInt8) (o : Obj) (B : Nat) (h : (w.alloc o).heap.size = B) : (convert 50 9 (.slice (some ⟨B, 0, none⟩) 1 1)).run Tryz.prog ((w.alloc o).alloc (.cells #[.int .u8 (c.toNat : Int)] 5)) = .ok (.string ⟨#[c]⟩) ((w.alloc o).alloc (.cells #[.int .u8 (c.toNat : Int)] 5)) := by
  subst h; exact rconv_byte (w.alloc o) c
/-- A reader of elements answers an item and its length. -/
def EndX (P : It → Nat → Prop) (w : World) (e : Ending) (w' : World) : Prop := ∃ (x : It) (n : Nat), e = .returned (.tuple #[.agg #[.int .i64 x.k, .string x.t, .int .i64 x.id], .int .i64 n]) ∧ P x n ∧ Below w.heap.size w w'
def OptOk (o : Option (It × Nat)) (x : It) (n : Nat) : Prop := match o with | some y => x = y.1 ∧ n = y.2 | none => x = zI ∧ n = 0
theorem upto_get (c : UInt8) (r : List UInt8) (h : (upto c r).length < r.length) : r[(upto c r).length]'h = c := by
  induction r with
  | nil => simp at h
  | cons y t ih =>
    by_cases hy : y = c
    · subst hy
      have : upto y (y :: t) = [] := by unfold upto; simp
      simp only [this]; rfl
    · have hyc : (y != c) = true := by simpa using hy
      have e : upto c (y :: t) = y :: upto c t := by unfold upto; rw [List.takeWhile_cons, hyc, if_pos rfl]
      simp only [e, List.length_cons] at h ⊢
      simp only [List.getElem_cons_succ]
      exact ih (by omega)
theorem slot_at (r : List UInt8) (k : Nat) (hk : k < r.length) : (r[k] = 125 ∧ isNm (bsL (r.take k)) = true) ↔ (hasU 125 r = true ∧ k = (upto 125 r).length ∧ isNm (bsL (upto 125 r)) = true) := by
  constructor
  · rintro ⟨h1, h2⟩
    have hb : ∀ x ∈ r.take k, x ≠ 125 := fun x hx e => by
      have := nm_mem h2 (c := x) (by rw [bsL_list]; exact hx)
      rw [e] at this; exact absurd this (by decide)
    have e : r.take k ++ 125 :: r.drop (k + 1) = r := by
      have := List.take_append_drop k r
      rw [List.drop_eq_getElem_cons hk, h1] at this
      exact this
    have e2 : upto 125 r = r.take k := by rw [← e]; rw [upto_app _ _ _ hb]; rw [e]
    refine ⟨?_, ?_, by rw [e2]; exact h2⟩
    · unfold hasU; rw [e2]; simp; omega
    · rw [e2]; simp; omega
  · rintro ⟨h1, h2, h3⟩
    unfold hasU at h1
    have h1 := of_decide_eq_true h1
    subst h2
    exact ⟨upto_get 125 r h1, by rw [upto_take]; exact h3⟩
theorem byte_rest {s : ByteArray} {a : UInt8} {r : List UInt8} (hl : s.data.toList = a :: r) (k : Nat) (h1 : 1 ≤ k) (hk : k < s.size) : ∃ h : k - 1 < r.length, s[k] = r[k - 1] := by
  have hsz : s.data.toList.length = s.size := by simp
  have hrl : r.length + 1 = s.size := by rw [← hsz, hl]; simp
  refine ⟨by omega, ?_⟩
  have e : s.data.toList[k]'(by rw [hsz]; exact hk) = r[k - 1]'(by omega) := by
    simp only [hl]
    obtain ⟨j, rfl⟩ : ∃ j, k = j + 1 := ⟨k - 1, by omega⟩
    rfl
  rw [← e]; simp; rfl
theorem cut_rest {s : ByteArray} {a : UInt8} {r : List UInt8} (hl : s.data.toList = a :: r) (k : Nat) (h1 : 1 ≤ k) : s.extract 1 k = bsL (r.take (k - 1)) := by
  have e : (s.extract 1 k).data.toList = (s.data.toList.drop 1).take (k - 1) := by simp [ByteArray.extract, ByteArray.copySlice]
  rw [← bsL_of (s.extract 1 k), e, hl]; rfl
/-- What the slot's loop looks for. -/
def SlP (r : List UInt8) (k : Nat) : Prop := ∃ h : k - 1 < r.length, r[k - 1] = 125 ∧ isNm (bsL (r.take (k - 1))) = true
theorem slp_yes {r : List UInt8} {k : Nat} (h1 : 1 ≤ k) (h : SlP r k) : rdSlot r = some (⟨5, bsL (r.take (k - 1)), 0⟩, k + 1) := by
  obtain ⟨hk, h2⟩ := h
  obtain ⟨a, b, c⟩ := (slot_at r (k - 1) hk).1 h2
  have e : upto 125 r = r.take (k - 1) := by rw [b]; exact (upto_take 125 r).symm
  unfold rdSlot
  rw [if_pos ⟨a, c⟩, ← b, e, show k - 1 + 2 = k + 1 by omega]
theorem slp_no {r : List UInt8} {k : Nat} (hk : r.length + 1 ≤ k ∨ k = 26) (h : ∀ j, 1 ≤ j → j < k → ¬ SlP r j) : rdSlot r = none := by
  unfold rdSlot
  split
  · rename_i hc
    exfalso
    obtain ⟨h1, h2⟩ := hc
    have hlt : (upto 125 r).length < r.length := of_decide_eq_true h1
    have hs : (bsL (upto 125 r)).size ≤ 24 := (isNm_bytes _ h2).2.1
    rw [bsL_size] at hs
    refine h ((upto 125 r).length + 1) (by omega) (by omega) ⟨by simpa using hlt, ?_⟩
    have := (slot_at r (upto 125 r).length hlt).2 ⟨h1, rfl, h2⟩
    simpa using this
  · rfl
theorem slp_break {r : List UInt8} {k : Nat} (h1 : 1 ≤ k) (hk : k - 1 < r.length) (hc : r[k - 1]'hk = 125) (hj : ∀ j (h : j - 1 < r.length), 1 ≤ j → j < k → r[j - 1]'h ≠ 125) (hn : isNm (bsL (r.take (k - 1))) = false) : rdSlot r = none := by
  have e : r = r.take (k - 1) ++ 125 :: r.drop k := by
    have h2 := List.drop_eq_getElem_cons hk
    rw [hc, show k - 1 + 1 = k by omega] at h2
    rw [← h2, List.take_append_drop]
  have hu : upto 125 r = r.take (k - 1) := by
    have := upto_app 125 (r.take (k - 1)) (r.drop k) (fun x hx => by
      obtain ⟨i, hi, rfl⟩ := List.mem_iff_getElem.1 hx
      rw [List.length_take] at hi
      rw [List.getElem_take]
      have := hj (i + 1) (by simp; omega) (by omega) (by omega)
      simpa using this)
    rw [← e] at this; exact this
  unfold rdSlot
  rw [hu, if_neg (fun h => by rw [hn] at h; cases h.2)]
set_option maxHeartbeats 3200000 in
theorem refslot_any (s : ByteArray) (r : List UInt8) (w : World) (hl : s.data.toList = 123 :: r) (hs : s.size ≤ 1000000000000) :
    Calls Tryz.prog 98 #[.string s] w (EndX (OptOk (rdSlot r)) w) := by
  have hsz : s.data.toList.length = s.size := by simp
  have hrl : r.length + 1 = s.size := by rw [← hsz, hl]; simp
  have hpos : 0 < s.size := by omega
  have hb := fun k h1 hk => byte_rest hl k h1 hk
  have hc := fun k h1 => cut_rest hl k h1
  have hyes := fun k (h1 : 1 ≤ k) (h : SlP r k) => slp_yes h1 h
  have hno := fun k (hk : r.length + 1 ≤ k ∨ k = 26) h => slp_no hk h
  have hnm := fun (u : ByteArray) W (h : u.size ≤ maxLen) => risname_any u W h
  generalize hgo : rdSlot r = o at *
  have HGO := Lib.hid hgo; clear hgo
  have HB := Lib.hid hb; have HC := Lib.hid hc; have HYES := Lib.hid hyes; have HNO := Lib.hid hno; have HN := Lib.hid hnm
  have hZ := zV.new w
  have hBa := blw (Below.refl w.heap.size w) (.cells #[.int .i64 0, .string ByteArray.empty, .int .i64 0] 43)
  clear hb hc hyes hno hnm hl
  go_enter Tryz.func98, Tryz.ntmps98
  go_wp2_with fail
  go_loopw [4] (fun i wr => ∃ k : Nat, 1 ≤ k ∧ k ≤ s.size ∧ k ≤ 26 ∧ i = .int .i64 k ∧ Hid (∀ j (h : j - 1 < r.length), 1 ≤ j → j < k → r[j - 1]'h ≠ 125) ∧ zV wr w.heap.size ∧ Below w.heap.size w wr) (fun i _ => 26 - (intOf i).toNat)
  case atStart => exact ⟨1, by omega, by omega, by omega, rfl, Lib.hid (fun j _ h1 h2 => absurd h2 (by omega)), hZ, hBa⟩
  case round =>
    obtain ⟨k, hk1, hks, hk, rfl, HJ, hV, hB⟩ := hrel
    by_cases hend : k = s.size ∨ k = 26
    · have ho := HNO.out k (by omega) (fun j h1 h2 ⟨h, e, _⟩ => HJ.out j h h1 h2 e)
      have HT : Hid (OptOk o zI 0) := Lib.hid (by rw [ho]; exact ⟨rfl, rfl⟩)
      clear ho
      obtain ⟨v0, v1, v2, v3, v4, v5⟩ := cells_item hV
      rcases hend with hend | hend
      · have qq : (s.size : Int) ≤ (k : Int) := by omega
        go_wp2_with fail
        have hWz := heap_set3 (a' := .int .i64 0) (b' := .string ⟨#[]⟩) (c' := .int .i64 0) hV
        have hBz := ((hB.setCell (p := ⟨w.heap.size, 0, none⟩) (Nat.le_refl _) (.int .i64 0)).setCell (p := ⟨w.heap.size, 1, none⟩) (Nat.le_refl _) (.string ⟨#[]⟩)).setCell (p := ⟨w.heap.size, 2, none⟩) (Nat.le_refl _) (.int .i64 0)
        generalize (((wr.setCell ⟨w.heap.size, 0, none⟩ (.int .i64 0)).setCell ⟨w.heap.size, 1, none⟩ (.string ⟨#[]⟩)).setCell ⟨w.heap.size, 2, none⟩ (.int .i64 0)) = wz at *
        obtain ⟨z0, z1, z2, _⟩ := cells_item hWz
        (try simp only [Exit.inBlock, Exit.then])
        refine bodyPost_ret (v := .tuple #[.agg #[.int .i64 0, .string ⟨#[]⟩, .int .i64 0], .int .i64 0]) (by simp [results, Tryz.results98, go_sem, z0, z1, z2]; try rfl) rfl ⟨⟨0, ⟨#[]⟩, 0⟩, _, rfl, HT.out, hBz⟩
      · subst hend
        go_wp2_with fail
        all_goals (have hX := hV)
        all_goals (have hWz := heap_set3 (a' := .int .i64 0) (b' := .string ⟨#[]⟩) (c' := .int .i64 0) hV)
        all_goals (have hBz := ((hB.setCell (p := ⟨w.heap.size, 0, none⟩) (Nat.le_refl _) (.int .i64 0)).setCell (p := ⟨w.heap.size, 1, none⟩) (Nat.le_refl _) (.string ⟨#[]⟩)).setCell (p := ⟨w.heap.size, 2, none⟩) (Nat.le_refl _) (.int .i64 0))
        all_goals (generalize (((wr.setCell ⟨w.heap.size, 0, none⟩ (.int .i64 0)).setCell ⟨w.heap.size, 1, none⟩ (.string ⟨#[]⟩)).setCell ⟨w.heap.size, 2, none⟩ (.int .i64 0)) = wz at *)
        all_goals (obtain ⟨z0, z1, z2, _⟩ := cells_item hWz)
        all_goals ((try simp only [Exit.inBlock, Exit.then]))
        all_goals (refine bodyPost_ret (v := .tuple #[.agg #[.int .i64 0, .string ⟨#[]⟩, .int .i64 0], .int .i64 0]) (by simp [results, Tryz.results98, go_sem, z0, z1, z2]; try rfl) rfl ⟨⟨0, ⟨#[]⟩, 0⟩, _, rfl, HT.out, hBz⟩)
    · have hlt : k < s.size := by omega
      have h25 : k ≤ 25 := by omega
      have i0 : (0 : Int) ≤ (k : Int) := by omega
      have i1 : (1 : Int) ≤ (k : Int) := by omega
      have i2 : (k : Int) < (s.size : Int) := by omega
      have i3 : (k : Int) ≤ (s.size : Int) := by omega
      obtain ⟨hkr, hsk⟩ := HB.out k hk1 hlt
      have hcut := HC.out k hk1
      have hstep : r[k - 1] ≠ 125 → Hid (∀ j (h : j - 1 < r.length), 1 ≤ j → j < k + 1 → r[j - 1]'h ≠ 125) := fun hn => Lib.hid fun j h h1 h2 => by
        by_cases e : j = k
        · subst e; exact hn
        · exact HJ.out j h h1 (by omega)
      by_cases hc : r[k - 1] = 125
      · have q : ((s[k].toNat : Int) == 125) = true := by rw [hsk, hc]; rfl
        have hn := fun W => HN.out (s.extract 1 k) W (by unfold maxLen; simp; omega)
        cases hB0 : isNm (s.extract 1 k)
        · rw [hB0] at hn
          have ho := slp_break hk1 hkr hc HJ.out (by rw [← hcut]; exact hB0)
          have HT : Hid (OptOk o zI 0) := Lib.hid (by rw [← HGO.out, ho]; exact ⟨rfl, rfl⟩)
          have HN2 := Lib.hid hn
          clear hn hB0 hstep hcut hsk ho
          obtain ⟨v0, v1, v2, v3, v4, v5⟩ := cells_item hV
          go_wp2_with fail
          refine (HN2.out _).mono ?_; rintro e w1 ⟨rfl, rfl⟩
          go_wp2_with fail
          have hWz := heap_set3 (a' := .int .i64 0) (b' := .string ⟨#[]⟩) (c' := .int .i64 0) hV
          have hBz := ((hB.setCell (p := ⟨w.heap.size, 0, none⟩) (Nat.le_refl _) (.int .i64 0)).setCell (p := ⟨w.heap.size, 1, none⟩) (Nat.le_refl _) (.string ⟨#[]⟩)).setCell (p := ⟨w.heap.size, 2, none⟩) (Nat.le_refl _) (.int .i64 0)
          generalize (((wr.setCell ⟨w.heap.size, 0, none⟩ (.int .i64 0)).setCell ⟨w.heap.size, 1, none⟩ (.string ⟨#[]⟩)).setCell ⟨w.heap.size, 2, none⟩ (.int .i64 0)) = wz at *
          obtain ⟨z0, z1, z2, _⟩ := cells_item hWz
          (try simp only [Exit.inBlock, Exit.then])
          refine bodyPost_ret (v := .tuple #[.agg #[.int .i64 0, .string ⟨#[]⟩, .int .i64 0], .int .i64 0]) (by simp [results, Tryz.results98, go_sem, z0, z1, z2]; try rfl) rfl ⟨⟨0, ⟨#[]⟩, 0⟩, _, rfl, HT.out, hBz⟩
        · rw [hB0] at hn
          have ho := HYES.out k hk1 ⟨hkr, hc, by rw [← hcut]; exact hB0⟩
          rw [← hcut] at ho
          have HT : Hid (OptOk o ⟨5, s.extract 1 k, 0⟩ (k + 1)) := Lib.hid (by rw [ho]; exact ⟨rfl, rfl⟩)
          have HN2 := Lib.hid hn
          clear hn hB0 hstep hcut hsk ho
          go_wp2_with fail
          refine (HN2.out _).mono ?_; rintro e w1 ⟨rfl, rfl⟩
          obtain ⟨v0, v1, v2, v3, v4, v5⟩ := cells_item hV
          go_wp2_with fail
          have hWz := heap_set3 (a' := .int .i64 5) (b' := .string (s.extract 1 k)) (c' := .int .i64 0) hV
          have hBz := ((hB.setCell (p := ⟨w.heap.size, 0, none⟩) (Nat.le_refl _) (.int .i64 5)).setCell (p := ⟨w.heap.size, 1, none⟩) (Nat.le_refl _) (.string (s.extract 1 k))).setCell (p := ⟨w.heap.size, 2, none⟩) (Nat.le_refl _) (.int .i64 0)
          generalize (((wr.setCell ⟨w.heap.size, 0, none⟩ (.int .i64 5)).setCell ⟨w.heap.size, 1, none⟩ (.string (s.extract 1 k))).setCell ⟨w.heap.size, 2, none⟩ (.int .i64 0)) = wz at *
          obtain ⟨z0, z1, z2, _⟩ := cells_item hWz
          (try simp only [Exit.inBlock, Exit.then])
          refine bodyPost_ret (v := .tuple #[.agg #[.int .i64 5, .string (s.extract 1 k), .int .i64 0], .int .i64 ((k + 1 : Nat) : Int)]) (by simp [results, Tryz.results98, go_sem, z0, z1, z2]; try rfl) rfl ⟨⟨5, (s.extract 1 k), 0⟩, _, rfl, HT.out, hBz⟩
      · have q : ((s[k].toNat : Int) == 125) = false := by rw [hsk]; exact u8_int_ne hc
        have HZ := hstep hc
        clear hstep hcut hsk
        go_wp2_with fail
        go_roundw
        case rel => exact ⟨k + 1, by omega, hlt, by omega, by go_num, HZ, hV, hB⟩
        case measure => simp [intOf]; omega
set_option maxHeartbeats 1600000 in
theorem reftext_any (c : UInt8) (w : World) : Calls Tryz.prog 97 #[.int .u8 (c.toNat : Int)] w fun e w' => e = .returned (xv (bT c)) ∧ Below w.heap.size w w' := by
  have b0 : (0 : Int) ≤ (c.toNat : Int) := by omega
  have b1 : (c.toNat : Int) ≤ 255 := by have := c.toNat_lt; omega
  have hcv := rconv_byte2 w c (.cells #[.int .i64 0, .string ⟨#[]⟩, .int .i64 0] 43) (w.heap.size + 1) (by simp)
  go_enter Tryz.func97, Tryz.ntmps97
  go_wp2_with fail
  have hW := heap_set3 (a' := .int .i64 1) (b' := .string ⟨#[c]⟩) (c' := .int .i64 0) (heap_alloc_new w (.cells #[.int .i64 0, .string ByteArray.empty, .int .i64 0] 43))
  have hN := heap_alloc_new w (.cells #[.int .i64 1, .string ⟨#[c]⟩, .int .i64 0] 43)
  have hN2 := (Lib.alloc_old (w.alloc (.cells #[.int .i64 1, .string ⟨#[c]⟩, .int .i64 0] 43)) (.cells #[.int .u8 (c.toNat : Int)] 5) w.heap.size (by simp)).trans hN
  obtain ⟨z0, z1, z2, _⟩ := cells_item hN2
  (try simp only [Exit.inBlock, Exit.then])
  refine bodyPost_ret (v := .agg #[.int .i64 1, .string ⟨#[c]⟩, .int .i64 0]) (by simp [results, Tryz.results97, go_sem, z0, z1, z2]; try rfl) rfl ⟨rfl, blw (blw (Below.refl _ _) _) _⟩
end Go.Proofs.YtdbbjhbkhimbfaaGreatDoor
namespace Go.Proofs.YtdbbjhbkhimbfaaGreatDoor
open Go.ChangeShapes Go.WideShapes Go.ChangeAt Go.RowKit
set_option linter.unusedVariables false
set_option linter.unusedSimpArgs false
set_option maxRecDepth 100000

/-- What an element's reader answers: an item, a continuation (no item), or nothing. -/
def ElX (o : Option (Option It × Nat)) (x : It) (n : Nat) : Prop := match o with | none => x = zI ∧ n = 0 | some (none, k) => x = zI ∧ n = k | some (some y, k) => x = y ∧ n = k
theorem first_byte {s : ByteArray} {c : UInt8} {r : List UInt8} (hl : s.data.toList = c :: r) : ∃ h : 0 < s.size, s[0]'h = c := by
  have hsz : s.data.toList.length = s.size := by simp
  have hp : 0 < s.size := by rw [← hsz, hl]; simp
  refine ⟨hp, ?_⟩
  have : s.data.toList[0]'(by rw [hsz]; exact hp) = c := by simp only [hl]; rfl
  rw [← this]; simp; rfl
set_option maxHeartbeats 3200000 in
theorem refel_10 (s : ByteArray) (r : List UInt8) (w : World) (hl : s.data.toList = 10 :: r) (hs : s.size ≤ 1000000000000) :
    Calls Tryz.prog 85 #[.string s] w (EndX (ElX (elR s.data.toList)) w) := by
  obtain ⟨hp, h0⟩ := first_byte hl
  have q10 : (((s[0]'hp).toNat : Int) == 10) = true := by rw [h0]; rfl
  have HT : Hid (ElX (elR s.data.toList) zI 0) := Lib.hid (by rw [hl, elR_10]; exact ⟨rfl, rfl⟩)
  have hN := heap_alloc_new w (.cells #[.int .i64 0, .string ⟨#[]⟩, .int .i64 0] 43)
  obtain ⟨z0, z1, z2, _⟩ := cells_item hN
  clear hl h0
  go_enter Tryz.func85, Tryz.ntmps85
  go_wp2_with fail
  (try simp only [Exit.inBlock, Exit.then])
  refine bodyPost_ret (v := .tuple #[.agg #[.int .i64 0, .string ⟨#[]⟩, .int .i64 0], .int .i64 0]) (by simp [results, Tryz.results85, go_sem, z0, z1, z2]; try rfl) rfl ⟨⟨0, ⟨#[]⟩, 0⟩, _, rfl, HT.out, blw (Below.refl _ _) _⟩
set_option maxHeartbeats 3200000 in
theorem refel_text (s : ByteArray) (c : UInt8) (r : List UInt8) (w : World) (hl : s.data.toList = c :: r) (h1 : c ≠ 10) (h2 : c ≠ 123) (h3 : c ≠ 92) (hs : s.size ≤ 1000000000000) :
    Calls Tryz.prog 85 #[.string s] w (EndX (ElX (elR s.data.toList)) w) := by
  obtain ⟨hp, h0⟩ := first_byte hl
  have q10 : (((s[0]'hp).toNat : Int) == 10) = false := by rw [h0]; exact u8_int_ne h1
  have q123 : (((s[0]'hp).toNat : Int) == 123) = false := by rw [h0]; exact u8_int_ne h2
  have q92 : (((s[0]'hp).toNat : Int) == 92) = false := by rw [h0]; exact u8_int_ne h3
  have HT : Hid (ElX (elR s.data.toList) (bT c) 1) := Lib.hid (by rw [hl, elR_text c r h1 h2 h3]; exact ⟨rfl, rfl⟩)
  have ht := fun W => reftext_any (s[0]'hp) W
  rw [h0] at ht
  unfold xv at ht
  dsimp only [bT] at ht
  have HX := Lib.hid ht
  have hsc : ((s[0]'hp).toNat : Int) = (c.toNat : Int) := by rw [h0]
  have HSC := Lib.hid hsc
  have hZ := zV.new w
  have hBa := blw (Below.refl w.heap.size w) (.cells #[.int .i64 0, .string ByteArray.empty, .int .i64 0] 43)
  clear hl h0 ht h1 h2 h3 hsc
  go_enter Tryz.func85, Tryz.ntmps85
  go_wp2_with fail
  rw [HSC.out]
  refine (HX.out _).mono ?_; rintro e w2 ⟨rfl, hb⟩
  have hV := hZ.call hb
  have hB := BelowOn hBa hb
  obtain ⟨v0, v1, v2, v3, v4, v5⟩ := cells_item hV
  go_wp2_with fail
  have hWz := heap_set3 (a' := .int .i64 1) (b' := .string ⟨#[c]⟩) (c' := .int .i64 0) hV
  have hBz := ((hB.setCell (p := ⟨w.heap.size, 0, none⟩) (Nat.le_refl _) (.int .i64 1)).setCell (p := ⟨w.heap.size, 1, none⟩) (Nat.le_refl _) (.string ⟨#[c]⟩)).setCell (p := ⟨w.heap.size, 2, none⟩) (Nat.le_refl _) (.int .i64 0)
  generalize (((w2.setCell ⟨w.heap.size, 0, none⟩ (.int .i64 1)).setCell ⟨w.heap.size, 1, none⟩ (.string ⟨#[c]⟩)).setCell ⟨w.heap.size, 2, none⟩ (.int .i64 0)) = wz at *
  obtain ⟨z0, z1, z2, _⟩ := cells_item hWz
  (try simp only [Exit.inBlock, Exit.then])
  refine bodyPost_ret (v := .tuple #[.agg #[.int .i64 1, .string ⟨#[c]⟩, .int .i64 0], .int .i64 1]) (by simp [results, Tryz.results85, go_sem, z0, z1, z2]; try rfl) rfl ⟨⟨1, ⟨#[c]⟩, 0⟩, 1, rfl, HT.out, hBz⟩
set_option maxHeartbeats 3200000 in
theorem refel_123 (s : ByteArray) (r : List UInt8) (w : World) (hl : s.data.toList = 123 :: r) (hs : s.size ≤ 1000000000000) :
    Calls Tryz.prog 85 #[.string s] w (EndX (ElX (elR s.data.toList)) w) := by
  obtain ⟨hp, h0⟩ := first_byte hl
  have q10 : (((s[0]'hp).toNat : Int) == 10) = false := by rw [h0]; rfl
  have q123 : (((s[0]'hp).toNat : Int) == 123) = true := by rw [h0]; rfl
  have ht := fun W => refslot_any s r W hl hs
  unfold EndX at ht
  have hT : ∀ x n, OptOk (rdSlot r) x n → ElX (elR s.data.toList) x n := fun x n h => by
    rw [hl, elR_123]
    cases ho : rdSlot r with
    | none => rw [ho] at h; exact h
    | some y => rw [ho] at h; exact h
  have HX := Lib.hid ht; have HT := Lib.hid hT
  have hZ := zV.new w
  have hBa := blw (Below.refl w.heap.size w) (.cells #[.int .i64 0, .string ByteArray.empty, .int .i64 0] 43)
  clear hl h0 ht hT
  go_enter Tryz.func85, Tryz.ntmps85
  go_wp2_with fail
  refine (HX.out _).mono ?_; rintro e w2 ⟨x, n, rfl, ho, hb⟩
  have hV := hZ.call hb
  have hB := BelowOn hBa hb
  obtain ⟨v0, v1, v2, v3, v4, v5⟩ := cells_item hV
  go_wp2_with fail
  have hWz := heap_set3 (a' := .int .i64 x.k) (b' := .string x.t) (c' := .int .i64 x.id) hV
  have hBz := ((hB.setCell (p := ⟨w.heap.size, 0, none⟩) (Nat.le_refl _) (.int .i64 x.k)).setCell (p := ⟨w.heap.size, 1, none⟩) (Nat.le_refl _) (.string x.t)).setCell (p := ⟨w.heap.size, 2, none⟩) (Nat.le_refl _) (.int .i64 x.id)
  generalize (((w2.setCell ⟨w.heap.size, 0, none⟩ (.int .i64 x.k)).setCell ⟨w.heap.size, 1, none⟩ (.string x.t)).setCell ⟨w.heap.size, 2, none⟩ (.int .i64 x.id)) = wz at *
  obtain ⟨z0, z1, z2, _⟩ := cells_item hWz
  (try simp only [Exit.inBlock, Exit.then])
  refine bodyPost_ret (v := .tuple #[.agg #[.int .i64 x.k, .string x.t, .int .i64 x.id], .int .i64 n]) (by simp [results, Tryz.results85, go_sem, z0, z1, z2]; try rfl) rfl ⟨x, n, rfl, HT.out x n ho, hBz⟩
end Go.Proofs.YtdbbjhbkhimbfaaGreatDoor
namespace Go.Proofs.YtdbbjhbkhimbfaaGreatDoor
open Go.ChangeShapes Go.WideShapes Go.ChangeAt Go.RowKit
set_option linter.unusedVariables false
set_option linter.unusedSimpArgs false
set_option maxRecDepth 100000

theorem esc_idx0 (W : World) : Sem.run Tryz.prog (Instr.index 133 (.agg #[.string ⟨#[110, 10]⟩, .string ⟨#[116, 9]⟩, .string ⟨#[115, 32]⟩, .string ⟨#[114, 13]⟩, .string ⟨#[92, 92]⟩, .string ⟨#[123, 123]⟩]) (.int .i64 0)) W = .ok (.string ⟨#[110, 10]⟩) W := by kernel_rfl
theorem esc_txt0 (w : World) : Calls Tryz.prog 97 #[.int .u8 10] w fun e w' => e = .returned (.agg #[.int .i64 1, .string ⟨#[10]⟩, .int .i64 0]) ∧ Below w.heap.size w w' := reftext_any 10 w
theorem esc_idx1 (W : World) : Sem.run Tryz.prog (Instr.index 133 (.agg #[.string ⟨#[110, 10]⟩, .string ⟨#[116, 9]⟩, .string ⟨#[115, 32]⟩, .string ⟨#[114, 13]⟩, .string ⟨#[92, 92]⟩, .string ⟨#[123, 123]⟩]) (.int .i64 1)) W = .ok (.string ⟨#[116, 9]⟩) W := by kernel_rfl
theorem esc_txt1 (w : World) : Calls Tryz.prog 97 #[.int .u8 9] w fun e w' => e = .returned (.agg #[.int .i64 1, .string ⟨#[9]⟩, .int .i64 0]) ∧ Below w.heap.size w w' := reftext_any 9 w
theorem esc_idx2 (W : World) : Sem.run Tryz.prog (Instr.index 133 (.agg #[.string ⟨#[110, 10]⟩, .string ⟨#[116, 9]⟩, .string ⟨#[115, 32]⟩, .string ⟨#[114, 13]⟩, .string ⟨#[92, 92]⟩, .string ⟨#[123, 123]⟩]) (.int .i64 2)) W = .ok (.string ⟨#[115, 32]⟩) W := by kernel_rfl
theorem esc_txt2 (w : World) : Calls Tryz.prog 97 #[.int .u8 32] w fun e w' => e = .returned (.agg #[.int .i64 1, .string ⟨#[32]⟩, .int .i64 0]) ∧ Below w.heap.size w w' := reftext_any 32 w
theorem esc_idx3 (W : World) : Sem.run Tryz.prog (Instr.index 133 (.agg #[.string ⟨#[110, 10]⟩, .string ⟨#[116, 9]⟩, .string ⟨#[115, 32]⟩, .string ⟨#[114, 13]⟩, .string ⟨#[92, 92]⟩, .string ⟨#[123, 123]⟩]) (.int .i64 3)) W = .ok (.string ⟨#[114, 13]⟩) W := by kernel_rfl
theorem esc_txt3 (w : World) : Calls Tryz.prog 97 #[.int .u8 13] w fun e w' => e = .returned (.agg #[.int .i64 1, .string ⟨#[13]⟩, .int .i64 0]) ∧ Below w.heap.size w w' := reftext_any 13 w
theorem esc_idx4 (W : World) : Sem.run Tryz.prog (Instr.index 133 (.agg #[.string ⟨#[110, 10]⟩, .string ⟨#[116, 9]⟩, .string ⟨#[115, 32]⟩, .string ⟨#[114, 13]⟩, .string ⟨#[92, 92]⟩, .string ⟨#[123, 123]⟩]) (.int .i64 4)) W = .ok (.string ⟨#[92, 92]⟩) W := by kernel_rfl
theorem esc_txt4 (w : World) : Calls Tryz.prog 97 #[.int .u8 92] w fun e w' => e = .returned (.agg #[.int .i64 1, .string ⟨#[92]⟩, .int .i64 0]) ∧ Below w.heap.size w w' := reftext_any 92 w
theorem esc_idx5 (W : World) : Sem.run Tryz.prog (Instr.index 133 (.agg #[.string ⟨#[110, 10]⟩, .string ⟨#[116, 9]⟩, .string ⟨#[115, 32]⟩, .string ⟨#[114, 13]⟩, .string ⟨#[92, 92]⟩, .string ⟨#[123, 123]⟩]) (.int .i64 5)) W = .ok (.string ⟨#[123, 123]⟩) W := by kernel_rfl
theorem esc_txt5 (w : World) : Calls Tryz.prog 97 #[.int .u8 123] w fun e w' => e = .returned (.agg #[.int .i64 1, .string ⟨#[123]⟩, .int .i64 0]) ∧ Below w.heap.size w w' := reftext_any 123 w
theorem byte_one {s : ByteArray} {a d : UInt8} {t : List UInt8} (hl : s.data.toList = a :: d :: t) : ∃ h : 1 < s.size, s[1]'h = d := by
  obtain ⟨h, e⟩ := byte_rest hl 1 (Nat.le_refl _) (by rw [show s.size = s.data.toList.length by simp, hl]; simp)
  exact ⟨by rw [show s.size = s.data.toList.length by simp, hl]; simp, e⟩
theorem blank_in {t : List UInt8} (i : Nat) (h : i < (blanks t).length) : ∃ h2 : i < t.length, blB (t[i]'h2) = true := by
  have hle := blanks_len t
  refine ⟨by omega, ?_⟩
  have h3 := blanks_all t ((blanks t)[i]'h) (List.getElem_mem h)
  have e : (blanks t)[i]'h = t[i]'(by omega) := by
    have := blanks_take t
    have h4 : (t.take (blanks t).length)[i]'(by rw [List.length_take]; omega) = t[i]'(by omega) := List.getElem_take
    rw [← h4]
    congr 1
    exact this.symm
  rw [← e]; exact h3
theorem blank_out {t : List UInt8} (h : (blanks t).length < t.length) : blB (t[(blanks t).length]'h) = false :=
  blanks_stop t _ (by rw [List.drop_eq_getElem_cons h]; rfl)
set_option maxHeartbeats 6400000 in
theorem refel_92 (s : ByteArray) (r : List UInt8) (w : World) (hl : s.data.toList = 92 :: r) (hs : s.size ≤ 1000000000000) :
    Calls Tryz.prog 85 #[.string s] w (EndX (ElX (elR s.data.toList)) w) := by
  obtain ⟨hp, h0⟩ := first_byte hl
  have q10 : (((s[0]'hp).toNat : Int) == 10) = false := by rw [h0]; rfl
  have q123 : (((s[0]'hp).toNat : Int) == 123) = false := by rw [h0]; rfl
  have q92 : (((s[0]'hp).toNat : Int) == 92) = true := by rw [h0]; rfl
  have hsz : s.size = r.length + 1 := by rw [show s.size = s.data.toList.length by simp, hl]; simp
  cases r with
  | nil =>
    have HT : Hid (ElX (elR s.data.toList) zI 0) := Lib.hid (by rw [hl]; exact ⟨rfl, rfl⟩)
    have z2 : s.size < 2 := by rw [hsz]; simp
    have hN := heap_alloc_new w (.cells #[.int .i64 0, .string ⟨#[]⟩, .int .i64 0] 43)
    obtain ⟨z0, z1, z2, _⟩ := cells_item hN
    clear hl h0
    go_enter Tryz.func85, Tryz.ntmps85
    go_wp2_with fail
    (try simp only [Exit.inBlock, Exit.then])
    refine bodyPost_ret (v := .tuple #[.agg #[.int .i64 0, .string ⟨#[]⟩, .int .i64 0], .int .i64 0]) (by simp [results, Tryz.results85, go_sem, z0, z1, z2]; try rfl) rfl ⟨⟨0, ⟨#[]⟩, 0⟩, _, rfl, HT.out, blw (Below.refl _ _) _⟩
  | cons d t =>
    obtain ⟨hp1, h1⟩ := byte_one hl
    have z2 : ¬ (s.size < 2) := by omega
    have i1 : (1 : Int) < (s.size : Int) := by omega
    have HL := Lib.hid hl; have HD := Lib.hid h1
    have hZ := zV.new w
    have hB := blw (Below.refl w.heap.size w) (.cells #[.int .i64 0, .string ByteArray.empty, .int .i64 0] 43)
    clear hl h0 h1
    have HSZ := Lib.hid hsz
    clear hsz
    have mixed : Tryz.prog.follows .mixedOrders = true := by kernel_rfl
    go_enter Tryz.func85, Tryz.ntmps85
    go_wp2_with fail
    go_loopw [25] (fun i wr => ∃ k : Nat, k ≤ 6 ∧ i = .int .i64 k ∧ Hid (∀ j, j < k → d ≠ [110, 116, 115, 114, 92, 123].getD j 0) ∧ zV wr w.heap.size ∧ Below w.heap.size w wr) (fun i _ => 6 - (intOf i).toNat)
    case atStart => exact ⟨0, by omega, rfl, Lib.hid (fun j h => absurd h (Nat.not_lt_zero j)), hZ, hB⟩
    case round =>
      clear hZ hB
      obtain ⟨k, hk, rfl, HJ, hZ, hB⟩ := hrel
      have hk7 : k = 0 ∨ k = 1 ∨ k = 2 ∨ k = 3 ∨ k = 4 ∨ k = 5 ∨ k = 6 := by omega
      rcases hk7 with rfl | rfl | rfl | rfl | rfl | rfl | rfl
      · have hix := esc_idx0
        by_cases hd : d = 110
        · have q : (((s[1]'hp1).toNat : Int) == 110) = true := by rw [HD.out, hd]; rfl
          have q' : (((s[1]'hp1).toNat : Int) == (((⟨#[110, 10]⟩ : ByteArray)[0]'(by decide)).toNat : Int)) = true := q
          have HT : Hid (ElX (elR s.data.toList) (bT 10) 2) := Lib.hid (by rw [HL.out, hd, elR_esc 110 10 t (by decide) rfl]; exact ⟨rfl, rfl⟩)
          have HX := Lib.hid esc_txt0
          clear hd hk
          go_upto_region 12 with fail
          go_region_o
          all_goals go_wp2_with fail
          all_goals refine (HX.out _).mono ?_
          all_goals rintro e w2 ⟨rfl, hb⟩
          all_goals have hV : zV w2 w.heap.size := zV.call (show zV wr.drew w.heap.size from hZ) hb
          all_goals have hB := BelowOn hB.drew hb
          all_goals obtain ⟨v0, v1, v2, v3, v4, v5⟩ := cells_item hV
          all_goals go_wp2_with fail
          all_goals have hWz := heap_set3 (a' := .int .i64 1) (b' := .string ⟨#[10]⟩) (c' := .int .i64 0) hV
          all_goals have hBz := ((hB.setCell (p := ⟨w.heap.size, 0, none⟩) (Nat.le_refl _) (.int .i64 1)).setCell (p := ⟨w.heap.size, 1, none⟩) (Nat.le_refl _) (.string ⟨#[10]⟩)).setCell (p := ⟨w.heap.size, 2, none⟩) (Nat.le_refl _) (.int .i64 0)
          all_goals generalize (((w2.setCell ⟨w.heap.size, 0, none⟩ (.int .i64 1)).setCell ⟨w.heap.size, 1, none⟩ (.string ⟨#[10]⟩)).setCell ⟨w.heap.size, 2, none⟩ (.int .i64 0)) = wz at *
          all_goals obtain ⟨z0, z1, z2, _⟩ := cells_item hWz
          all_goals (try simp only [Exit.inBlock, Exit.then])
          all_goals refine bodyPost_ret (v := .tuple #[.agg #[.int .i64 1, .string ⟨#[10]⟩, .int .i64 0], .int .i64 2]) (by simp [results, Tryz.results85, go_sem, z0, z1, z2]; try rfl) rfl ⟨⟨1, ⟨#[10]⟩, 0⟩, 2, rfl, HT.out, hBz⟩
        · have q : (((s[1]'hp1).toNat : Int) == 110) = false := by rw [HD.out]; exact u8_int_ne hd
          have q' : (((s[1]'hp1).toNat : Int) == (((⟨#[110, 10]⟩ : ByteArray)[0]'(by decide)).toNat : Int)) = false := q
          have HJ2 : Hid (∀ j, j < 0 + 1 → d ≠ [110, 116, 115, 114, 92, 123].getD j 0) := Lib.hid (fun j hj => by
            by_cases e : j = 0
            · subst e; exact hd
            · exact HJ.out j (by omega))
          clear hd HJ
          go_upto_region 12 with fail
          go_region_o
          all_goals go_wp2_with fail
          all_goals go_roundw
          case rel => exact ⟨0 + 1, by omega, by go_num, HJ2, hZ, hB.drew⟩
          case measure => simp [intOf]
      · have hix := esc_idx1
        by_cases hd : d = 116
        · have q : (((s[1]'hp1).toNat : Int) == 116) = true := by rw [HD.out, hd]; rfl
          have q' : (((s[1]'hp1).toNat : Int) == (((⟨#[116, 9]⟩ : ByteArray)[0]'(by decide)).toNat : Int)) = true := q
          have HT : Hid (ElX (elR s.data.toList) (bT 9) 2) := Lib.hid (by rw [HL.out, hd, elR_esc 116 9 t (by decide) rfl]; exact ⟨rfl, rfl⟩)
          have HX := Lib.hid esc_txt1
          clear hd hk
          go_upto_region 12 with fail
          go_region_o
          all_goals go_wp2_with fail
          all_goals refine (HX.out _).mono ?_
          all_goals rintro e w2 ⟨rfl, hb⟩
          all_goals have hV : zV w2 w.heap.size := zV.call (show zV wr.drew w.heap.size from hZ) hb
          all_goals have hB := BelowOn hB.drew hb
          all_goals obtain ⟨v0, v1, v2, v3, v4, v5⟩ := cells_item hV
          all_goals go_wp2_with fail
          all_goals have hWz := heap_set3 (a' := .int .i64 1) (b' := .string ⟨#[9]⟩) (c' := .int .i64 0) hV
          all_goals have hBz := ((hB.setCell (p := ⟨w.heap.size, 0, none⟩) (Nat.le_refl _) (.int .i64 1)).setCell (p := ⟨w.heap.size, 1, none⟩) (Nat.le_refl _) (.string ⟨#[9]⟩)).setCell (p := ⟨w.heap.size, 2, none⟩) (Nat.le_refl _) (.int .i64 0)
          all_goals generalize (((w2.setCell ⟨w.heap.size, 0, none⟩ (.int .i64 1)).setCell ⟨w.heap.size, 1, none⟩ (.string ⟨#[9]⟩)).setCell ⟨w.heap.size, 2, none⟩ (.int .i64 0)) = wz at *
          all_goals obtain ⟨z0, z1, z2, _⟩ := cells_item hWz
          all_goals (try simp only [Exit.inBlock, Exit.then])
          all_goals refine bodyPost_ret (v := .tuple #[.agg #[.int .i64 1, .string ⟨#[9]⟩, .int .i64 0], .int .i64 2]) (by simp [results, Tryz.results85, go_sem, z0, z1, z2]; try rfl) rfl ⟨⟨1, ⟨#[9]⟩, 0⟩, 2, rfl, HT.out, hBz⟩
        · have q : (((s[1]'hp1).toNat : Int) == 116) = false := by rw [HD.out]; exact u8_int_ne hd
          have q' : (((s[1]'hp1).toNat : Int) == (((⟨#[116, 9]⟩ : ByteArray)[0]'(by decide)).toNat : Int)) = false := q
          have HJ2 : Hid (∀ j, j < 1 + 1 → d ≠ [110, 116, 115, 114, 92, 123].getD j 0) := Lib.hid (fun j hj => by
            by_cases e : j = 1
            · subst e; exact hd
            · exact HJ.out j (by omega))
          clear hd HJ
          go_upto_region 12 with fail
          go_region_o
          all_goals go_wp2_with fail
          all_goals go_roundw
          case rel => exact ⟨1 + 1, by omega, by go_num, HJ2, hZ, hB.drew⟩
          case measure => simp [intOf]
      · have hix := esc_idx2
        by_cases hd : d = 115
        · have q : (((s[1]'hp1).toNat : Int) == 115) = true := by rw [HD.out, hd]; rfl
          have q' : (((s[1]'hp1).toNat : Int) == (((⟨#[115, 32]⟩ : ByteArray)[0]'(by decide)).toNat : Int)) = true := q
          have HT : Hid (ElX (elR s.data.toList) (bT 32) 2) := Lib.hid (by rw [HL.out, hd, elR_esc 115 32 t (by decide) rfl]; exact ⟨rfl, rfl⟩)
          have HX := Lib.hid esc_txt2
          clear hd hk
          go_upto_region 12 with fail
          go_region_o
          all_goals go_wp2_with fail
          all_goals refine (HX.out _).mono ?_
          all_goals rintro e w2 ⟨rfl, hb⟩
          all_goals have hV : zV w2 w.heap.size := zV.call (show zV wr.drew w.heap.size from hZ) hb
          all_goals have hB := BelowOn hB.drew hb
          all_goals obtain ⟨v0, v1, v2, v3, v4, v5⟩ := cells_item hV
          all_goals go_wp2_with fail
          all_goals have hWz := heap_set3 (a' := .int .i64 1) (b' := .string ⟨#[32]⟩) (c' := .int .i64 0) hV
          all_goals have hBz := ((hB.setCell (p := ⟨w.heap.size, 0, none⟩) (Nat.le_refl _) (.int .i64 1)).setCell (p := ⟨w.heap.size, 1, none⟩) (Nat.le_refl _) (.string ⟨#[32]⟩)).setCell (p := ⟨w.heap.size, 2, none⟩) (Nat.le_refl _) (.int .i64 0)
          all_goals generalize (((w2.setCell ⟨w.heap.size, 0, none⟩ (.int .i64 1)).setCell ⟨w.heap.size, 1, none⟩ (.string ⟨#[32]⟩)).setCell ⟨w.heap.size, 2, none⟩ (.int .i64 0)) = wz at *
          all_goals obtain ⟨z0, z1, z2, _⟩ := cells_item hWz
          all_goals (try simp only [Exit.inBlock, Exit.then])
          all_goals refine bodyPost_ret (v := .tuple #[.agg #[.int .i64 1, .string ⟨#[32]⟩, .int .i64 0], .int .i64 2]) (by simp [results, Tryz.results85, go_sem, z0, z1, z2]; try rfl) rfl ⟨⟨1, ⟨#[32]⟩, 0⟩, 2, rfl, HT.out, hBz⟩
        · have q : (((s[1]'hp1).toNat : Int) == 115) = false := by rw [HD.out]; exact u8_int_ne hd
          have q' : (((s[1]'hp1).toNat : Int) == (((⟨#[115, 32]⟩ : ByteArray)[0]'(by decide)).toNat : Int)) = false := q
          have HJ2 : Hid (∀ j, j < 2 + 1 → d ≠ [110, 116, 115, 114, 92, 123].getD j 0) := Lib.hid (fun j hj => by
            by_cases e : j = 2
            · subst e; exact hd
            · exact HJ.out j (by omega))
          clear hd HJ
          go_upto_region 12 with fail
          go_region_o
          all_goals go_wp2_with fail
          all_goals go_roundw
          case rel => exact ⟨2 + 1, by omega, by go_num, HJ2, hZ, hB.drew⟩
          case measure => simp [intOf]
      · have hix := esc_idx3
        by_cases hd : d = 114
        · have q : (((s[1]'hp1).toNat : Int) == 114) = true := by rw [HD.out, hd]; rfl
          have q' : (((s[1]'hp1).toNat : Int) == (((⟨#[114, 13]⟩ : ByteArray)[0]'(by decide)).toNat : Int)) = true := q
          have HT : Hid (ElX (elR s.data.toList) (bT 13) 2) := Lib.hid (by rw [HL.out, hd, elR_esc 114 13 t (by decide) rfl]; exact ⟨rfl, rfl⟩)
          have HX := Lib.hid esc_txt3
          clear hd hk
          go_upto_region 12 with fail
          go_region_o
          all_goals go_wp2_with fail
          all_goals refine (HX.out _).mono ?_
          all_goals rintro e w2 ⟨rfl, hb⟩
          all_goals have hV : zV w2 w.heap.size := zV.call (show zV wr.drew w.heap.size from hZ) hb
          all_goals have hB := BelowOn hB.drew hb
          all_goals obtain ⟨v0, v1, v2, v3, v4, v5⟩ := cells_item hV
          all_goals go_wp2_with fail
          all_goals have hWz := heap_set3 (a' := .int .i64 1) (b' := .string ⟨#[13]⟩) (c' := .int .i64 0) hV
          all_goals have hBz := ((hB.setCell (p := ⟨w.heap.size, 0, none⟩) (Nat.le_refl _) (.int .i64 1)).setCell (p := ⟨w.heap.size, 1, none⟩) (Nat.le_refl _) (.string ⟨#[13]⟩)).setCell (p := ⟨w.heap.size, 2, none⟩) (Nat.le_refl _) (.int .i64 0)
          all_goals generalize (((w2.setCell ⟨w.heap.size, 0, none⟩ (.int .i64 1)).setCell ⟨w.heap.size, 1, none⟩ (.string ⟨#[13]⟩)).setCell ⟨w.heap.size, 2, none⟩ (.int .i64 0)) = wz at *
          all_goals obtain ⟨z0, z1, z2, _⟩ := cells_item hWz
          all_goals (try simp only [Exit.inBlock, Exit.then])
          all_goals refine bodyPost_ret (v := .tuple #[.agg #[.int .i64 1, .string ⟨#[13]⟩, .int .i64 0], .int .i64 2]) (by simp [results, Tryz.results85, go_sem, z0, z1, z2]; try rfl) rfl ⟨⟨1, ⟨#[13]⟩, 0⟩, 2, rfl, HT.out, hBz⟩
        · have q : (((s[1]'hp1).toNat : Int) == 114) = false := by rw [HD.out]; exact u8_int_ne hd
          have q' : (((s[1]'hp1).toNat : Int) == (((⟨#[114, 13]⟩ : ByteArray)[0]'(by decide)).toNat : Int)) = false := q
          have HJ2 : Hid (∀ j, j < 3 + 1 → d ≠ [110, 116, 115, 114, 92, 123].getD j 0) := Lib.hid (fun j hj => by
            by_cases e : j = 3
            · subst e; exact hd
            · exact HJ.out j (by omega))
          clear hd HJ
          go_upto_region 12 with fail
          go_region_o
          all_goals go_wp2_with fail
          all_goals go_roundw
          case rel => exact ⟨3 + 1, by omega, by go_num, HJ2, hZ, hB.drew⟩
          case measure => simp [intOf]
      · have hix := esc_idx4
        by_cases hd : d = 92
        · have q : (((s[1]'hp1).toNat : Int) == 92) = true := by rw [HD.out, hd]; rfl
          have q' : (((s[1]'hp1).toNat : Int) == (((⟨#[92, 92]⟩ : ByteArray)[0]'(by decide)).toNat : Int)) = true := q
          have HT : Hid (ElX (elR s.data.toList) (bT 92) 2) := Lib.hid (by rw [HL.out, hd, elR_esc 92 92 t (by decide) rfl]; exact ⟨rfl, rfl⟩)
          have HX := Lib.hid esc_txt4
          clear hd hk
          go_upto_region 12 with fail
          go_region_o
          all_goals go_wp2_with fail
          all_goals refine (HX.out _).mono ?_
          all_goals rintro e w2 ⟨rfl, hb⟩
          all_goals have hV : zV w2 w.heap.size := zV.call (show zV wr.drew w.heap.size from hZ) hb
          all_goals have hB := BelowOn hB.drew hb
          all_goals obtain ⟨v0, v1, v2, v3, v4, v5⟩ := cells_item hV
          all_goals go_wp2_with fail
          all_goals have hWz := heap_set3 (a' := .int .i64 1) (b' := .string ⟨#[92]⟩) (c' := .int .i64 0) hV
          all_goals have hBz := ((hB.setCell (p := ⟨w.heap.size, 0, none⟩) (Nat.le_refl _) (.int .i64 1)).setCell (p := ⟨w.heap.size, 1, none⟩) (Nat.le_refl _) (.string ⟨#[92]⟩)).setCell (p := ⟨w.heap.size, 2, none⟩) (Nat.le_refl _) (.int .i64 0)
          all_goals generalize (((w2.setCell ⟨w.heap.size, 0, none⟩ (.int .i64 1)).setCell ⟨w.heap.size, 1, none⟩ (.string ⟨#[92]⟩)).setCell ⟨w.heap.size, 2, none⟩ (.int .i64 0)) = wz at *
          all_goals obtain ⟨z0, z1, z2, _⟩ := cells_item hWz
          all_goals (try simp only [Exit.inBlock, Exit.then])
          all_goals refine bodyPost_ret (v := .tuple #[.agg #[.int .i64 1, .string ⟨#[92]⟩, .int .i64 0], .int .i64 2]) (by simp [results, Tryz.results85, go_sem, z0, z1, z2]; try rfl) rfl ⟨⟨1, ⟨#[92]⟩, 0⟩, 2, rfl, HT.out, hBz⟩
        · have q : (((s[1]'hp1).toNat : Int) == 92) = false := by rw [HD.out]; exact u8_int_ne hd
          have q' : (((s[1]'hp1).toNat : Int) == (((⟨#[92, 92]⟩ : ByteArray)[0]'(by decide)).toNat : Int)) = false := q
          have HJ2 : Hid (∀ j, j < 4 + 1 → d ≠ [110, 116, 115, 114, 92, 123].getD j 0) := Lib.hid (fun j hj => by
            by_cases e : j = 4
            · subst e; exact hd
            · exact HJ.out j (by omega))
          clear hd HJ
          go_upto_region 12 with fail
          go_region_o
          all_goals go_wp2_with fail
          all_goals go_roundw
          case rel => exact ⟨4 + 1, by omega, by go_num, HJ2, hZ, hB.drew⟩
          case measure => simp [intOf]
      · have hix := esc_idx5
        by_cases hd : d = 123
        · have q : (((s[1]'hp1).toNat : Int) == 123) = true := by rw [HD.out, hd]; rfl
          have q' : (((s[1]'hp1).toNat : Int) == (((⟨#[123, 123]⟩ : ByteArray)[0]'(by decide)).toNat : Int)) = true := q
          have HT : Hid (ElX (elR s.data.toList) (bT 123) 2) := Lib.hid (by rw [HL.out, hd, elR_esc 123 123 t (by decide) rfl]; exact ⟨rfl, rfl⟩)
          have HX := Lib.hid esc_txt5
          clear hd hk
          go_upto_region 12 with fail
          go_region_o
          all_goals go_wp2_with fail
          all_goals refine (HX.out _).mono ?_
          all_goals rintro e w2 ⟨rfl, hb⟩
          all_goals have hV : zV w2 w.heap.size := zV.call (show zV wr.drew w.heap.size from hZ) hb
          all_goals have hB := BelowOn hB.drew hb
          all_goals obtain ⟨v0, v1, v2, v3, v4, v5⟩ := cells_item hV
          all_goals go_wp2_with fail
          all_goals have hWz := heap_set3 (a' := .int .i64 1) (b' := .string ⟨#[123]⟩) (c' := .int .i64 0) hV
          all_goals have hBz := ((hB.setCell (p := ⟨w.heap.size, 0, none⟩) (Nat.le_refl _) (.int .i64 1)).setCell (p := ⟨w.heap.size, 1, none⟩) (Nat.le_refl _) (.string ⟨#[123]⟩)).setCell (p := ⟨w.heap.size, 2, none⟩) (Nat.le_refl _) (.int .i64 0)
          all_goals generalize (((w2.setCell ⟨w.heap.size, 0, none⟩ (.int .i64 1)).setCell ⟨w.heap.size, 1, none⟩ (.string ⟨#[123]⟩)).setCell ⟨w.heap.size, 2, none⟩ (.int .i64 0)) = wz at *
          all_goals obtain ⟨z0, z1, z2, _⟩ := cells_item hWz
          all_goals (try simp only [Exit.inBlock, Exit.then])
          all_goals refine bodyPost_ret (v := .tuple #[.agg #[.int .i64 1, .string ⟨#[123]⟩, .int .i64 0], .int .i64 2]) (by simp [results, Tryz.results85, go_sem, z0, z1, z2]; try rfl) rfl ⟨⟨1, ⟨#[123]⟩, 0⟩, 2, rfl, HT.out, hBz⟩
        · have q : (((s[1]'hp1).toNat : Int) == 123) = false := by rw [HD.out]; exact u8_int_ne hd
          have q' : (((s[1]'hp1).toNat : Int) == (((⟨#[123, 123]⟩ : ByteArray)[0]'(by decide)).toNat : Int)) = false := q
          have HJ2 : Hid (∀ j, j < 5 + 1 → d ≠ [110, 116, 115, 114, 92, 123].getD j 0) := Lib.hid (fun j hj => by
            by_cases e : j = 5
            · subst e; exact hd
            · exact HJ.out j (by omega))
          clear hd HJ
          go_upto_region 12 with fail
          go_region_o
          all_goals go_wp2_with fail
          all_goals go_roundw
          case rel => exact ⟨5 + 1, by omega, by go_num, HJ2, hZ, hB.drew⟩
          case measure => simp [intOf]
      · by_cases hd : d = 10
        · have q : (((s[1]'hp1).toNat : Int) == 10) = true := by rw [HD.out, hd]; rfl
          have hel : elR s.data.toList = some (none, 2 + (blanks t).length) := by rw [HL.out, hd]; exact elR_cont t
          have hle := blanks_len t
          have hst : s.size = t.length + 2 := by rw [HSZ.out]; simp
          have hby : ∀ j (h1 : 2 ≤ j) (h : j < s.size), ∃ h2 : j - 2 < t.length, s[j]'h = t[j - 2]'h2 := fun j h1 h => by
            obtain ⟨h2, e⟩ := byte_rest HL.out j (by omega) h
            refine ⟨by omega, ?_⟩
            rw [e]
            obtain ⟨m, rfl⟩ : ∃ m, j = m + 2 := ⟨j - 2, by omega⟩
            rfl
          have hin := fun i h => blank_in (t := t) i h
          have hout := fun h => blank_out (t := t) h
          have HEL := Lib.hid hel; have HBY := Lib.hid hby; have HIN := Lib.hid hin; have HOUT := Lib.hid hout; have HST := Lib.hid hst
          have hnb : 2 + (blanks t).length ≤ s.size := by omega
          clear hd hk HJ hel hby hin hout hst hle
          generalize (blanks t).length = nb at *
          go_wp2_with fail
          go_loop [6] (fun i => ∃ j : Nat, 2 ≤ j ∧ j ≤ 2 + nb ∧ i = .int .i64 j) (fun i => s.size - (intOf i).toNat)
          case atStart => exact ⟨2, by omega, by omega, rfl⟩
          case round =>
            obtain ⟨j, hj2, hjn, rfl⟩ := hrel
            have k0 : (0 : Int) ≤ (j : Int) := by omega
            by_cases hlt : j < 2 + nb
            · have hjs : (j : Int) < (s.size : Int) := by omega
              obtain ⟨h2, e⟩ := HBY.out j hj2 (by omega)
              obtain ⟨h3, hb⟩ := HIN.out (j - 2) (by omega)
              rw [← e] at hb
              unfold blB at hb
              cases h32 : (((s[j]'(by omega)).toNat : Int) == 32)
              · have h9 : (((s[j]'(by omega)).toNat : Int) == 9) = true := by
                  rw [Bool.or_eq_true] at hb
                  rcases hb with h | h
                  · rw [beq_iff_eq] at h
                    rw [h] at h32; exact absurd h32 (by decide)
                  · rw [beq_iff_eq] at h
                    rw [h]; rfl
                clear hb e
                go_wp2_with fail
                go_round
                case rel => exact ⟨j + 1, by omega, by omega, by go_num⟩
                case measure => simp [intOf]; omega
              · clear hb e
                go_wp2_with fail
                go_round
                case rel => exact ⟨j + 1, by omega, by omega, by go_num⟩
                case measure => simp [intOf]; omega
            · have hje : j = 2 + nb := by omega
              have HT : Hid (ElX (elR s.data.toList) zI j) := Lib.hid (by rw [HEL.out, ← hje]; exact ⟨rfl, rfl⟩)
              obtain ⟨v0, v1, v2, v3, v4, v5⟩ := cells_item hZ
              by_cases hend : s.size = j
              · have hjs : ¬ ((j : Int) < (s.size : Int)) := by omega
                clear hje hend HEL
                go_wp2_with fail
                have hWz := heap_set3 (a' := .int .i64 0) (b' := .string ⟨#[]⟩) (c' := .int .i64 0) hZ
                have hBz := ((hB.setCell (p := ⟨w.heap.size, 0, none⟩) (Nat.le_refl _) (.int .i64 0)).setCell (p := ⟨w.heap.size, 1, none⟩) (Nat.le_refl _) (.string ⟨#[]⟩)).setCell (p := ⟨w.heap.size, 2, none⟩) (Nat.le_refl _) (.int .i64 0)
                generalize (((wr.setCell ⟨w.heap.size, 0, none⟩ (.int .i64 0)).setCell ⟨w.heap.size, 1, none⟩ (.string ⟨#[]⟩)).setCell ⟨w.heap.size, 2, none⟩ (.int .i64 0)) = wz at *
                obtain ⟨z0, z1, z2, _⟩ := cells_item hWz
                (try simp only [Exit.inBlock, Exit.then])
                refine bodyPost_ret (v := .tuple #[.agg #[.int .i64 0, .string ⟨#[]⟩, .int .i64 0], .int .i64 (j : Nat)]) (by simp [results, Tryz.results85, go_sem, z0, z1, z2]; try rfl) rfl ⟨⟨0, ⟨#[]⟩, 0⟩, j, rfl, HT.out, hBz⟩
              · have hjs : (j : Int) < (s.size : Int) := by omega
                obtain ⟨h2, e⟩ := HBY.out j (by omega) (by omega)
                have hb := HOUT.out (by have := HST.out; omega)
                have e2 : t[j - 2]'h2 = t[nb]'(by have := HST.out; omega) := by congr 1; omega
                rw [← e2, ← e] at hb
                unfold blB at hb
                rw [Bool.or_eq_false_iff] at hb
                have h32 : (((s[j]'(by omega)).toNat : Int) == 32) = false := u8_int_ne (by simpa using hb.1)
                have h9 : (((s[j]'(by omega)).toNat : Int) == 9) = false := u8_int_ne (by simpa using hb.2)
                clear hb e e2 hend hje HEL
                go_wp2_with fail
                have hWz := heap_set3 (a' := .int .i64 0) (b' := .string ⟨#[]⟩) (c' := .int .i64 0) hZ
                have hBz := ((hB.setCell (p := ⟨w.heap.size, 0, none⟩) (Nat.le_refl _) (.int .i64 0)).setCell (p := ⟨w.heap.size, 1, none⟩) (Nat.le_refl _) (.string ⟨#[]⟩)).setCell (p := ⟨w.heap.size, 2, none⟩) (Nat.le_refl _) (.int .i64 0)
                generalize (((wr.setCell ⟨w.heap.size, 0, none⟩ (.int .i64 0)).setCell ⟨w.heap.size, 1, none⟩ (.string ⟨#[]⟩)).setCell ⟨w.heap.size, 2, none⟩ (.int .i64 0)) = wz at *
                obtain ⟨z0, z1, z2, _⟩ := cells_item hWz
                (try simp only [Exit.inBlock, Exit.then])
                refine bodyPost_ret (v := .tuple #[.agg #[.int .i64 0, .string ⟨#[]⟩, .int .i64 0], .int .i64 (j : Nat)]) (by simp [results, Tryz.results85, go_sem, z0, z1, z2]; try rfl) rfl ⟨⟨0, ⟨#[]⟩, 0⟩, j, rfl, HT.out, hBz⟩
        · have q : (((s[1]'hp1).toNat : Int) == 10) = false := by rw [HD.out]; exact u8_int_ne hd
          have hes : escO d = none := by
            have n0 : d ≠ 110 := HJ.out 0 (by omega)
            have n1 : d ≠ 116 := HJ.out 1 (by omega)
            have n2 : d ≠ 115 := HJ.out 2 (by omega)
            have n3 : d ≠ 114 := HJ.out 3 (by omega)
            have n4 : d ≠ 92 := HJ.out 4 (by omega)
            have n5 : d ≠ 123 := HJ.out 5 (by omega)
            unfold escO
            rw [if_neg n0, if_neg n1, if_neg n2, if_neg n3, if_neg n4, if_neg n5]
          have HT : Hid (ElX (elR s.data.toList) zI 0) := Lib.hid (by
            rw [HL.out, elR_92]
            show ElX (if d = 10 then some (none, 2 + (blanks t).length) else match escO d with | none => none | some v => some (some (bT v), 2)) zI 0
            rw [if_neg hd, hes]
            exact ⟨rfl, rfl⟩)
          obtain ⟨v0, v1, v2, v3, v4, v5⟩ := cells_item hZ
          clear hd hes HJ hk
          go_wp2_with fail
          have hWz := heap_set3 (a' := .int .i64 0) (b' := .string ⟨#[]⟩) (c' := .int .i64 0) hZ
          have hBz := ((hB.setCell (p := ⟨w.heap.size, 0, none⟩) (Nat.le_refl _) (.int .i64 0)).setCell (p := ⟨w.heap.size, 1, none⟩) (Nat.le_refl _) (.string ⟨#[]⟩)).setCell (p := ⟨w.heap.size, 2, none⟩) (Nat.le_refl _) (.int .i64 0)
          generalize (((wr.setCell ⟨w.heap.size, 0, none⟩ (.int .i64 0)).setCell ⟨w.heap.size, 1, none⟩ (.string ⟨#[]⟩)).setCell ⟨w.heap.size, 2, none⟩ (.int .i64 0)) = wz at *
          obtain ⟨z0, z1, z2, _⟩ := cells_item hWz
          (try simp only [Exit.inBlock, Exit.then])
          refine bodyPost_ret (v := .tuple #[.agg #[.int .i64 0, .string ⟨#[]⟩, .int .i64 0], .int .i64 0]) (by simp [results, Tryz.results85, go_sem, z0, z1, z2]; try rfl) rfl ⟨⟨0, ⟨#[]⟩, 0⟩, _, rfl, HT.out, hBz⟩
end Go.Proofs.YtdbbjhbkhimbfaaGreatDoor
namespace Go.Proofs.YtdbbjhbkhimbfaaGreatDoor
open Go.ChangeShapes Go.WideShapes Go.ChangeAt Go.RowKit
set_option linter.unusedVariables false
set_option linter.unusedSimpArgs false
set_option maxRecDepth 100000

theorem refres_any (s : ByteArray) (w : World) (hp : 0 < s.size) (hs : s.size ≤ 1000000000000) :
    Calls Tryz.prog 85 #[.string s] w (EndX (ElX (elR s.data.toList)) w) := by
  cases hl : s.data.toList with
  | nil => exact absurd (show s.size = 0 by rw [show s.size = s.data.toList.length by simp, hl]; rfl) (by omega)
  | cons c r =>
    rw [← hl]
    by_cases h1 : c = 10
    · subst h1; exact refel_10 s r w hl hs
    by_cases h2 : c = 123
    · subst h2; exact refel_123 s r w hl hs
    by_cases h3 : c = 92
    · subst h3; exact refel_92 s r w hl hs
    exact refel_text s c r w hl h1 h2 h3 hs
set_option maxHeartbeats 1600000 in
theorem refelement_any (s : ByteArray) (w : World) (hp : 0 < s.size) (hs : s.size ≤ 1000000000000) :
    Calls Tryz.prog 73 #[.int .i64 2, .string s] w (EndX (ElX (elR s.data.toList)) w) := by
  have ht := fun W => refres_any s W hp hs
  unfold EndX at ht
  have HX := Lib.hid ht
  have hZ := zV.new w
  have hBa := blw (Below.refl w.heap.size w) (.cells #[.int .i64 0, .string ByteArray.empty, .int .i64 0] 43)
  clear ht
  generalize elR s.data.toList = o at *
  go_enter Tryz.func73, Tryz.ntmps73
  go_wp2_with fail
  refine (HX.out _).mono ?_; rintro e w2 ⟨x, n, rfl, ho, hb⟩
  have hV := hZ.call hb
  have hB := BelowOn hBa hb
  obtain ⟨v0, v1, v2, v3, v4, v5⟩ := cells_item hV
  go_wp2_with fail
  have hWz := heap_set3 (a' := .int .i64 x.k) (b' := .string x.t) (c' := .int .i64 x.id) hV
  have hBz := ((hB.setCell (p := ⟨w.heap.size, 0, none⟩) (Nat.le_refl _) (.int .i64 x.k)).setCell (p := ⟨w.heap.size, 1, none⟩) (Nat.le_refl _) (.string x.t)).setCell (p := ⟨w.heap.size, 2, none⟩) (Nat.le_refl _) (.int .i64 x.id)
  generalize (((w2.setCell ⟨w.heap.size, 0, none⟩ (.int .i64 x.k)).setCell ⟨w.heap.size, 1, none⟩ (.string x.t)).setCell ⟨w.heap.size, 2, none⟩ (.int .i64 x.id)) = wz at *
  obtain ⟨z0, z1, z2, _⟩ := cells_item hWz
  (try simp only [Exit.inBlock, Exit.then])
  refine bodyPost_ret (v := .tuple #[.agg #[.int .i64 x.k, .string x.t, .int .i64 x.id], .int .i64 n]) (by simp [results, Tryz.results73, go_sem, z0, z1, z2]; try rfl) rfl ⟨x, n, rfl, ho, hBz⟩
end Go.Proofs.YtdbbjhbkhimbfaaGreatDoor
namespace Go.Proofs.YtdbbjhbkhimbfaaGreatDoor
open Go.ChangeShapes Go.WideShapes Go.ChangeAt Go.RowKit
set_option linter.unusedVariables false
set_option linter.unusedSimpArgs false
set_option maxRecDepth 100000

/-- append of a number to numbers that the call owns; what lies in other blocks stays. -/
theorem wpl_appendN (w : World) {ops : Array Oper} {rest : List Oper} {o : Oper} {a : Act} {Q : Exit → Act → World → Prop} (hg : o.guard = none) (s x : Operand)
    (ho : o.op = .call { callee := .builtin .append, args := #[s, x], argTypes := #[22, 22] }) (w0 : World) (L : List Int) (v : Value) (hs : a.eval s = v) (h : Acc 3 1 nenc w0 L v w) (y : Int) (B : Nat) (cs : Array Value)
    (hx : a.eval x = .slice (some ⟨B, 0, none⟩) 1 1) (hB : w.heap[B]? = some (.cells cs 3 (0, 0))) (hcs : cs.toList = nenc y) (hlen : (L.length + 1) * 8 ≤ 140737488355328) (hlen' : L.length + 1 ≤ maxLen)
    (hK : ∀ v' w', Acc 3 1 nenc w0 (L ++ [y]) v' w' → w.grownBy w' v.ownBlock → (∀ k, k < w.heap.size → v.ownBlock ≠ some k → v'.ownBlock ≠ some k) → wpList Tryz.prog ops Q rest (a.put o.dst v') w') : wpList Tryz.prog ops Q (o :: rest) a w := by
  obtain ⟨i, hi, hz0, hz1, hz2⟩ := eN.hi
  refine wpList_append_lies w hg s x 22 ho w0.heap.size 3 i (.int .i64 0) 1 8 eN.ht hi hz0 hz1 hz2 eN.hzs eN.hsz v L.length (cellsOf nenc L) hs h.own ⟨B, 0, none⟩ 1 1 (nenc y) hx (by rw [eN.len]) ?_ (eN.one y) (by omega) hlen' hlen h.below.size _ rfl ?_
  · rw [← hcs]; exact World.news_of_block hB
  · intro g cap w' h2 h3 h4 h5
    have hown : OwnL 3 1 nenc w0.heap.size (L ++ [y]) (.slice (some ⟨g, 0, none⟩) (L.length + 1) cap) w' := by
      unfold OwnL; rw [List.length_append, show cellsOf nenc (L ++ [y]) = cellsOf nenc L ++ nenc y from by unfold cellsOf; rw [List.flatMap_append]; simp]; exact h2
    have hbel : Below w0.heap.size w0 w' := h.below.trans ((Below.refl w0.heap.size w).grown h3 h.below.size (fun k hk => (World.ownsRow.lt h.own k hk).1))
    refine hK _ w' ⟨hbel, hown⟩ h3 (fun k hk hne e => ?_)
    have e : g = k := by
      have : (Value.slice (some (⟨g, 0, none⟩ : Addr)) (L.length + 1) cap).ownBlock = some g := rfl
      rw [this] at e; injection e
    rcases h4 with h4 | h4
    · exact hne (by rw [h4, e])
    · omega
theorem elR_flat {s : List UInt8} {x : It} {n : Nat} (h : elR s = some (some x, n)) : Flat x := by
  cases s with
  | nil => cases h
  | cons c r =>
    by_cases h1 : c = 10
    · subst h1; rw [elR_10] at h; cases h
    by_cases h2 : c = 123
    · subst h2; rw [elR_123] at h
      cases ho : rdSlot r with
      | none => rw [ho] at h; cases h
      | some y =>
        rw [ho] at h
        injection h with h; injection h with ha hb; injection ha with ha
        obtain ⟨u, v, _, _, _, e⟩ := slot_some ho
        right; rw [← ha, e]
    by_cases h3 : c = 92
    · subst h3; rw [elR_92] at h
      rcases esc_some h with ⟨t, _, ho, _⟩ | ⟨c, v, t, _, _, _, ho, _⟩
      · cases ho
      · left; injection ho with ho; rw [ho]; rfl
    · rw [elR_text c r h1 h2 h3] at h
      injection h with h; injection h with ha hb; injection ha with ha
      left; rw [← ha]; rfl
theorem ext_rest (s : ByteArray) (p : Nat) : (s.extract p s.size).data.toList = s.data.toList.drop p := by rw [extract_drop, bsL_list]
/-- The reference's Decode answers: the fragment, the cuts, the offset of an error, the error. -/
def EndR7 (R : List It × List Nat × Nat × Int) (w : World) (e : Ending) (w' : World) : Prop := ∃ pf cf pc cc, e = .returned (.tuple #[.slice pf R.1.length cf, .slice pc R.2.1.length cc, .int .i64 (R.2.2.1 : Nat), .int .i64 R.2.2.2]) ∧ R.1.length ≤ cf ∧ cf ≤ maxLen ∧ Its w' pf R.1 ∧ R.2.1.length ≤ cc ∧ cc ≤ maxLen ∧ Ones w' (Value.int .i64) pc (nI R.2.1) ∧ Below w.heap.size w w'
set_option maxHeartbeats 6400000 in
theorem refdecode_any (s : ByteArray) (w : World) (hs : s.size ≤ 1000000000000) : Calls Tryz.prog 44 #[.int .i64 2, .string s] w (EndR7 (dec elR s.data.toList) w) := by
  obtain ⟨R, hR⟩ : ∃ R, dec elR s.data.toList = R := ⟨_, rfl⟩
  have hR0 : decG elR [] [] 0 0 (s.data.toList.drop 0) = R := hR
  have hno : ∀ (p : Nat) (z : Int) w', R = ([], [], p, z) → Below w.heap.size w w' → EndR7 R w (.returned (.tuple #[.slice none 0 0, .slice none 0 0, .int .i64 p, .int .i64 z])) w' := fun p z w' h hb => ⟨none, 0, none, 0, by rw [h]; rfl, by rw [h]; exact Nat.le_refl _, Nat.zero_le _, by rw [h]; exact Its.nil _ _, by rw [h]; exact Nat.le_refl _, Nat.zero_le _, by rw [h]; exact fun h0 => (by cases h0), hb⟩
  have hel := fun p (hp : p < s.size) W => refelement_any (s.extract p s.size) W (by simp; omega) (by simp; omega)
  simp only [ext_rest] at hel
  rw [hR]
  have HEL := Lib.hid hel; have HNO := Lib.hid hno; have HR0 := Lib.hid hR0
  clear hel hno hR hR0
  go_enter Tryz.func44, Tryz.ntmps44
  go_wp2_with fail
  go_loopw [8, 9, 10, 11, 12] (fun v oo vc i dd wr => ∃ (f : List It) (cs : List Nat) (p d : Nat) (pf : Option Addr) (cf : Nat), p ≤ s.size ∧ d ≤ p ∧ i = .int .i64 p ∧ dd = .int .i64 d ∧ v = .slice pf f.length cf ∧ oo = .slice none 0 0 ∧ f.length ≤ cf ∧ cf ≤ maxLen ∧ Its wr pf f ∧ Acc 3 1 nenc w (nI cs) vc wr ∧ Hid (∀ a, pf = some a → vc.ownBlock ≠ some a.block) ∧ Hid (decG elR f cs p d (s.data.toList.drop p) = R) ∧ Hid (norm f = f) ∧ f.length ≤ 512 ∧ cs.length ≤ 1024 ∧ txtI f ≤ 1024 * cs.length) (fun _ _ _ i _ _ => s.size - (intOf i).toNat)
  case atStart => exact ⟨[], [], 0, 0, none, 0, Nat.zero_le _, Nat.le_refl _, rfl, rfl, rfl, rfl, Nat.le_refl _, Nat.zero_le _, Its.nil _ _, Acc.start _, Lib.hid (fun a h => by cases h), HR0, Lib.hid rfl, by simp, by simp, Nat.zero_le _⟩
  case round =>
    obtain ⟨f, cs, p, d, pf, cf, hp, hdp, rfl, rfl, rfl, rfl, hfc, hcm, hI, hA, HSEP, HG, HNF, hf1, hc1, htx⟩ := hrel
    by_cases hlt : p < s.size
    · have hne : s.data.toList.drop p ≠ [] := fun e => by have := congrArg List.length e; simp at this; omega
      have hel := fun W => HEL.out p hlt W
      have i0 : (0 : Int) ≤ (p : Int) := by omega
      have i1 : (p : Int) ≤ (s.size : Int) := by omega
      have i2 : (p : Int) < (s.size : Int) := by omega
      have hB := hA.below
      cases ho : elR (s.data.toList.drop p) with
      | none =>
        have hg := HG.out
        rw [decG_none elR_ok f cs p d _ hne ho] at hg
        rw [ho] at hel
        have HE := Lib.hid (fun w' hb => HNO.out p 2 w' hg.symm hb)
        have HX := Lib.hid hel
        clear hg ho hel hne
        go_wp2_with fail
        refine (HX.out _).mono ?_; rintro e w1 ⟨x, n, rfl, ⟨rfl, rfl⟩, hb⟩
        have hb2 := BelowOn hB hb
        go_wp2_with fail
        (try simp only [Exit.inBlock, Exit.then])
        refine bodyPost_ret (v := .tuple #[.slice none 0 0, .slice none 0 0, .int .i64 p, .int .i64 2]) (by simp [results, Tryz.results44, go_sem]; try rfl) rfl (HE.out _ (blw hb2 _))
      | some y =>
        obtain ⟨o, k⟩ := y
        obtain ⟨k1, k2⟩ := elR_ok.take _ _ _ ho
        rw [List.length_drop] at k2
        have k2 : p + k ≤ s.size := by simp at k2; omega
        have hk0 : ((k : Int) == 0) = false := by rw [beq_eq_false_iff_ne]; omega
        rw [ho] at hel
        have HX := Lib.hid hel
        cases o with
        | none =>
          have hg := HG.out
          rw [decG_cont elR_ok f cs p d _ ho, List.drop_drop] at hg
          have HG2 := Lib.hid hg
          clear hg ho hel hne HG
          go_wp2_with fail
          refine (HX.out _).mono ?_; rintro e w1 ⟨x, n, rfl, ⟨hxx, hnn⟩, hb⟩
          subst hxx
          have hnn : k = n := hnn.symm
          subst hnn
          obtain ⟨v0, v1, v2, v3⟩ := Var3.new w1 0 ByteArray.empty 0
          go_wp2_with fail
          go_roundw
          case rel => exact ⟨f, cs, p + k, d, pf, cf, k2, by omega, by go_num, rfl, rfl, rfl, hfc, hcm, (hI.call hb).call (blw (Below.refl _ _) _), (hA.call hb).alloc _, HSEP, HG2, HNF, hf1, hc1, htx⟩
          case measure => simp [intOf]; omega
        | some x =>
          have hone := elR_ok.one _ _ _ ho
          have hfl := elR_flat ho
          obtain ⟨hxt, hx0⟩ := one_small hone
          obtain ⟨g, hg⟩ : ∃ g, normS f x = g := ⟨_, rfl⟩
          have hnf : norm (f ++ [x]) = g := by rw [norm_snoc, HNF.out, hg]
          have HCI := Lib.hid (fun W q (h1 : Its W pf f) (h2 : Its W q [x]) => (by have hh := rconcat_any pf q cf 1 f [x] W h1 h2 (by simp; omega) (by show txtI f + (x.t.size + 0) ≤ _; omega); rw [hnf] at hh; exact hh : Calls Tryz.prog 34 #[.slice pf f.length cf, .slice q 1 1] W (EndI g W)))
          have hgt : txtI g ≤ 1024 * (cs.length + 1) := by
            have := txt_norm f x
            rw [hg] at this
            omega
          have HNG := Lib.hid (show norm g = g by rw [← hnf, norm_norm])
          have HMO := Lib.hid (fun (a : g.length ≤ 512) (b : cs.length < 1024) => (by
            have h1 := decG_more elR_ok f cs p d _ ho (by rw [hg]; exact a) b
            rw [List.drop_drop, hg] at h1
            exact h1.symm.trans HG.out : decG elR g (cs ++ [d]) (p + k) (p + k) (s.data.toList.drop (p + k)) = R))
          have HFU := Lib.hid (fun (a : 512 < g.length ∨ 1024 ≤ cs.length) w' hb => (by
            have h1 := decG_full elR_ok f cs p d _ ho (by rw [hg]; exact a)
            exact HNO.out p 3 w' (HG.out.symm.trans h1) hb : EndR7 R w (.returned (.tuple #[.slice none 0 0, .slice none 0 0, .int .i64 p, .int .i64 3])) w'))
          have q0 : (x.k == 0) = false := by rw [beq_eq_false_iff_ne]; exact hx0
          have q2 : (x.k == 2) = false := by rw [beq_eq_false_iff_ne]; rcases hfl with e | e <;> rw [e] <;> decide
          have q4 : (x.k == 4) = false := by rw [beq_eq_false_iff_ne]; rcases hfl with e | e <;> rw [e] <;> decide
          have q3 : (x.k == 3) = false := by rw [beq_eq_false_iff_ne]; rcases hfl with e | e <;> rw [e] <;> decide
          have V := Lib.hid (fun (W : World) => Var3.new W x.k x.t x.id)
          have HI1 := Lib.hid (fun (W : World) => (by have := its_one (x := x) (heap_alloc_new (W.alloc (.cells #[.int .i64 x.k, .string x.t, .int .i64 x.id] 43)) (.cells #[.int .i64 x.k, .string x.t, .int .i64 x.id] 43)); simpa using this : Its ((W.alloc (.cells #[.int .i64 x.k, .string x.t, .int .i64 x.id] 43)).alloc (.cells #[.int .i64 x.k, .string x.t, .int .i64 x.id] 43)) (some ⟨W.heap.size + 1, 0, none⟩) [x]))
          obtain ⟨pc, cc, hvc, hcc, hcm2, hIc⟩ := hA.own.ints
          rw [nI_len] at hvc hcc
          subst hvc
          have hkk : (k : Int) ≤ (s.size : Int) := by omega
          clear hg hnf ho hel hne HG hone hfl hIc HEL HNO HNF
          by_cases a1 : 512 < g.length
          · have HE := Lib.hid (fun w' hb => HFU.out (.inl a1) w' hb)
            have qf : (512 : Int) < (g.length : Int) := by omega
            clear HMO HFU HNG
            go_wp2_with fail
            refine (HX.out _).mono ?_
            rintro e w1 ⟨x', n, rfl, ⟨hxx, hnn⟩, hb⟩
            have hxx : x = x' := hxx.symm
            subst hxx
            have hnn : k = n := hnn.symm
            subst hnn
            obtain ⟨v0, v1, v2, v3⟩ := V.out w1
            go_wp2_with fail
            refine (HCI.out ((w1.alloc (.cells #[.int .i64 x.k, .string x.t, .int .i64 x.id] 43)).alloc (.cells #[.int .i64 x.k, .string x.t, .int .i64 x.id] 43)) (some ⟨w1.heap.size + 1, 0, none⟩) (((hI.call hb).call (blw (Below.refl _ _) _)).call (blw (Below.refl _ _) _)) (HI1.out w1)).mono ?_
            rintro e w5 h5
            obtain ⟨pg, cg, rfl, hgc, hgm, hIg, hb5⟩ := EndI.f h5
            have hb6 := BelowOn (blw (blw (BelowOn hB hb) _) _) hb5
            clear h5 hIg hI hA v0 v1 v2 v3 HSEP
            go_wp2_with fail
            (try simp only [Exit.inBlock, Exit.then])
            refine bodyPost_ret (v := .tuple #[.slice none 0 0, .slice none 0 0, .int .i64 p, .int .i64 3]) (by simp [results, Tryz.results44, go_sem]; try rfl) rfl (HE.out _ hb6)
          by_cases a2 : 1024 ≤ cs.length
          · have HE := Lib.hid (fun w' hb => HFU.out (.inr a2) w' hb)
            have qf : ¬ (512 : Int) < (g.length : Int) := by omega
            have qg : (1024 : Int) ≤ (cs.length : Int) := by omega
            clear HMO HFU HNG
            go_wp2_with fail
            refine (HX.out _).mono ?_
            rintro e w1 ⟨x', n, rfl, ⟨hxx, hnn⟩, hb⟩
            have hxx : x = x' := hxx.symm
            subst hxx
            have hnn : k = n := hnn.symm
            subst hnn
            obtain ⟨v0, v1, v2, v3⟩ := V.out w1
            go_wp2_with fail
            refine (HCI.out ((w1.alloc (.cells #[.int .i64 x.k, .string x.t, .int .i64 x.id] 43)).alloc (.cells #[.int .i64 x.k, .string x.t, .int .i64 x.id] 43)) (some ⟨w1.heap.size + 1, 0, none⟩) (((hI.call hb).call (blw (Below.refl _ _) _)).call (blw (Below.refl _ _) _)) (HI1.out w1)).mono ?_
            rintro e w5 h5
            obtain ⟨pg, cg, rfl, hgc, hgm, hIg, hb5⟩ := EndI.f h5
            have hb6 := BelowOn (blw (blw (BelowOn hB hb) _) _) hb5
            clear h5 hIg hI hA v0 v1 v2 v3 HSEP
            go_wp2_with fail
            (try simp only [Exit.inBlock, Exit.then])
            refine bodyPost_ret (v := .tuple #[.slice none 0 0, .slice none 0 0, .int .i64 p, .int .i64 3]) (by simp [results, Tryz.results44, go_sem]; try rfl) rfl (HE.out _ hb6)
          have q5 : ¬ ((512 : Int) < (g.length : Int)) := by omega
          have q6 : ¬ ((1024 : Int) ≤ (cs.length : Int)) := by omega
          have HM := Lib.hid (HMO.out (by omega) (by omega))
          clear HMO HFU
          go_wp2_with fail
          refine (HX.out _).mono ?_
          rintro e w1 ⟨x', n, rfl, ⟨hxx, hnn⟩, hb⟩
          have hxx : x = x' := hxx.symm
          subst hxx
          have hnn : k = n := hnn.symm
          subst hnn
          obtain ⟨v0, v1, v2, v3⟩ := V.out w1
          go_wp2_with fail
          have hA4 := ((hA.call hb).alloc (.cells #[.int .i64 x.k, .string x.t, .int .i64 x.id] 43)).alloc (.cells #[.int .i64 x.k, .string x.t, .int .i64 x.id] 43)
          refine (HCI.out ((w1.alloc (.cells #[.int .i64 x.k, .string x.t, .int .i64 x.id] 43)).alloc (.cells #[.int .i64 x.k, .string x.t, .int .i64 x.id] 43)) (some ⟨w1.heap.size + 1, 0, none⟩) (((hI.call hb).call (blw (Below.refl _ _) _)).call (blw (Below.refl _ _) _)) (HI1.out w1)).mono ?_
          rintro e w5 ⟨vg, rfl, hAg⟩
          have hA5 := hA4.call hAg.below
          obtain ⟨pg, cg, rfl, hgc, hgm, hIg⟩ := hAg.own.its
          have hadr := OwnL.addr hAg.own
          have hsep : ∀ a, pg = some a → (Value.slice pc cs.length cc).ownBlock ≠ some a.block := fun a ha e => by
            have h1 := (hadr a ha).1
            have h2 := (World.ownsRow.lt hA4.own a.block e).2
            omega
          have hV5 := ((V.out w1).call (blw (Below.refl _ _) (.cells #[.int .i64 x.k, .string x.t, .int .i64 x.id] 43))).call hAg.below
          obtain ⟨y0, y1, y2, y3⟩ := hV5
          have hlt5 : ∀ a, pg = some a → a.block < w5.heap.size := fun a ha => (hadr a ha).2
          have HSP := Lib.hid hsep; have HLT := Lib.hid hlt5
          clear hsep hadr hlt5 hAg HSEP v0 v1 v2 v3 hA4 hI hA hB
          have HA6 := Lib.hid (hA5.alloc (.cells #[.int .i64 (d : Int)] 3))
          have hnl : (nI cs).length = cs.length := nI_len cs
          have HNL := Lib.hid hnl
          have hW6 := blw (Below.refl _ w5) (.cells #[.int .i64 (d : Int)] 3)
          have hIg6 := hIg.call hW6
          have hlt6 : w5.heap.size < (w5.alloc (.cells #[.int .i64 (d : Int)] 3)).heap.size := by simp
          clear hnl hA5 hIg
          go_wp2_with (at_builtin; refine wpl_appendN _ rfl _ _ rfl w (nI cs) (.slice pc cs.length cc) rfl HA6.out (d : Int) w5.heap.size _ rfl (heap_alloc_new w5 _) rfl (by rw [HNL.out]; omega) (by rw [HNL.out]; unfold maxLen; omega) ?_; intro v' w6 hA6 hg6 hs6)
          have hI6 : Its w6 pg g := hIg6.past hg6 (fun a ha => HSP.out a ha)
          have hsp6 : ∀ a, pg = some a → v'.ownBlock ≠ some a.block := fun a ha => hs6 a.block (by have := HLT.out a ha; omega) (HSP.out a ha)
          have HS6 := Lib.hid hsp6
          clear hs6 hg6 hsp6 hIg6 hW6 y0 y1 y2
          go_roundw
          case rel => exact ⟨g, cs ++ [d], p + k, p + k, pg, cg, k2, Nat.le_refl _, by go_num, by go_num, rfl, rfl, hgc, hgm, hI6, by rw [nI_snoc]; exact hA6, HS6, HM, HNG, by omega, by rw [List.length_append]; show cs.length + 1 ≤ _; omega, by rw [List.length_append]; exact hgt⟩
          case measure => simp [intOf]; omega
    · have hpe : p = s.size := by omega
      have hg := HG.out
      rw [List.drop_of_length_le (by simp; omega), decG_nil] at hg
      obtain ⟨pc, cc, hvc, hcc, hcm2, hIc⟩ := hA.own.ints
      subst hvc
      have HG2 := Lib.hid hg
      clear hg HG
      have hAX := fun o => hA.alloc (o := o)
      go_wp2_with (at_builtin; refine wpl_appendN _ rfl _ _ rfl w (nI cs) _ rfl (hA.alloc _) (d : Int) wr.heap.size _ rfl (heap_alloc_new _ _) rfl (by rw [nI_len]; omega) (by rw [nI_len]; unfold maxLen; omega) ?_; intro v' w6 hA6 hg6 hs6)
      obtain ⟨p6, c6, rfl, h6a, h6b, h6i⟩ := hA6.own.ints
      have hI6 : Its w6 pf f := (hI.call (blw (Below.refl _ wr) _)).past hg6 HSEP.out
      (try simp only [Exit.inBlock, Exit.then])
      refine bodyPost_ret (v := .tuple #[.slice pf f.length cf, .slice p6 (nI cs ++ [(d : Int)]).length c6, .int .i64 0, .int .i64 0]) (by simp [results, Tryz.results44, go_sem]; try rfl) rfl ?_
      rw [← HG2.out]
      rw [← nI_snoc] at h6a h6i ⊢
      rw [nI_len] at h6a ⊢
      exact ⟨pf, cf, p6, c6, rfl, hfc, hcm, hI6, h6a, h6b, h6i, hA6.below⟩
end Go.Proofs.YtdbbjhbkhimbfaaGreatDoor
namespace Go.Proofs.YtdbbjhbkhimbfaaGreatDoor
open Go.ChangeShapes Go.WideShapes Go.ChangeAt Go.RowKit
set_option linter.unusedVariables false
set_option linter.unusedSimpArgs false
set_option maxRecDepth 100000

theorem gbytes_below (w : World) (e : TypeId) (s : ByteArray) : Below w.heap.size w (Lib.bytesWorld w e s) :=
  Lib.below_freeze ((Below.drew (Below.refl _ w)).alloc (Nat.le_refl _) _) (p := ⟨w.heap.size, _, none⟩) (Nat.le_refl _) 1
theorem gconv_new (W : World) (T : ByteArray) : (convert 9 50 (.string T)).run Tryz.prog W = .ok (.slice (some ⟨W.heap.size, 0, none⟩) T.size (grownCap W T.size 0 5)) (Lib.bytesWorld W 5 T) :=
  Lib.run_convert_string_bytes W 9 50 5 T Tryz.underlying9 Tryz.underlying50 Tryz.underlying5
theorem gbytes_new (W : World) (T : ByteArray) : Lib.Bytes (Lib.bytesWorld W 5 T) W.heap.size 0 T := fun i h => by
  rw [Nat.zero_add, Lib.bytesWorld_cell W 5 T i h]
  have e : T.data.toList[i]? = some T[i] := by
    rw [List.getElem?_eq_getElem (by simpa using h)]; simp; rfl
  simp [List.getD, e]
/-- A text with one byte changed. -/
def chg (T : ByteArray) (i : Nat) (u : UInt8) : ByteArray := bsL (T.data.toList.set i u)
theorem chg_size (T : ByteArray) (i : Nat) (u : UInt8) : (chg T i u).size = T.size := by unfold chg; rw [bsL_size]; simp
theorem gbytes_set {W : World} {B : Nat} {T : ByteArray} (h : Lib.Bytes W B 0 T) (i : Nat) (hi : i < T.size) (u : UInt8) : Lib.Bytes (W.setCell ⟨B, i, none⟩ (.int .u8 (u.toNat : Int))) B 0 (chg T i u) := fun j hj => by
  have hz := chg_size T i u
  have hj' : j < T.size := by omega
  have e : (chg T i u)[j] = if i = j then u else T[j] := by
    have : (chg T i u).data.toList[j]'(by simpa using hj) = if i = j then u else T[j] := by
      unfold chg
      simp only [bsL_list]
      rw [List.getElem_set]
      split
      · rfl
      · simp; rfl
    rw [← this]; simp; rfl
  have ho := h j hj'
  have hm := h i hi
  rw [Nat.zero_add] at ho hm ⊢
  rw [e]
  by_cases hij : i = j
  · subst hij
    rw [if_pos rfl, World.cell?_setCell_same _ _ _ hm]
  · rw [if_neg hij, World.cell?_setCell_other _ _ _ _ (fun h => hij (by have := congrArg Addr.off h; simp at this; omega)), ho]
theorem gbytes_frozen (W : World) (T : ByteArray) (i : Nat) (hi : i < T.size) : (Lib.bytesWorld W 5 T).frozen? ⟨W.heap.size, i, none⟩ = false := by
  have := Lib.bytesWorld_at_new W 5 T
  unfold World.frozen?
  simp only [this]
  simp [Lib.bytesCells]
  omega
theorem gconv_back {W : World} {B : Nat} {V : ByteArray} (h : Lib.Bytes W B 0 V) (n c : Nat) (hn : V.size = n) : (convert 50 9 (.slice (some ⟨B, 0, none⟩) n c)).run Tryz.prog W = .ok (.string V) W := by
  subst hn
  exact Lib.run_convert_whole (P := Tryz.prog) W 50 5 9 Tryz.underlying50 Tryz.underlying5 Tryz.underlying9 B 0 V h c
set_option maxHeartbeats 1600000 in
theorem changed_any (T : ByteArray) (a : Int) (b : Int) (w : World) (hs : T.size ≤ 1000000000000) (ha : (Lit.int .i64 a).wf = true) (hb : (Lit.int .u8 b).wf = true) :
    Calls Tryz.prog 6 #[.string T, .int .i64 a, .int .u8 b] w fun e w' => ∃ V : ByteArray, e = .returned (.string V) ∧ V.size = T.size ∧ Below w.heap.size w w' := by
  obtain ⟨u, rfl⟩ : ∃ u : UInt8, b = (u.toNat : Int) := by
    have hb : 0 ≤ b ∧ b ≤ 255 := by simpa [Lit.wf, IntKind.min, IntKind.max, IntKind.signed, IntKind.bits] using hb
    exact ⟨UInt8.ofNat b.toNat, by rw [UInt8.toNat_ofNat']; omega⟩
  clear hb
  have pl := fun (h : 1 ≤ T.size) W => place_any a (T.size : Int) W (by omega) (by omega) ha
  have hI : 1 ≤ T.size → ∃ i : Nat, a % (T.size : Int) = i ∧ i < T.size := fun h => by
    have e0 := Int.emod_nonneg a (show (T.size : Int) ≠ 0 by omega)
    have e1 := Int.emod_lt_of_pos a (show (0 : Int) < (T.size : Int) by omega)
    obtain ⟨i, hi⟩ := Int.eq_ofNat_of_zero_le e0
    exact ⟨i, hi, by omega⟩
  have PL := Lib.hid pl; have HI := Lib.hid hI
  clear pl hI ha
  have hcn := gconv_new w T
  have hbn := gbytes_new w T
  have hfz := fun i hi => gbytes_frozen w T i hi
  have bl := gbytes_below w 5 T
  go_enter Tryz.func6, Tryz.ntmps6
  by_cases h0 : 0 < T.size
  · obtain ⟨i, hi, hi2⟩ := HI.out (by omega)
    have pl := fun W => PL.out (by omega) W
    rw [hi] at pl
    have P2 := Lib.hid pl; clear pl hi
    have hfz := hfz i hi2
    have hc := hbn i hi2
    rw [Nat.zero_add] at hc
    have hset := gbytes_set hbn i hi2 u
    have hcb := fun c => gconv_back hset T.size c (chg_size T i u)
    have j0 : (0 : Int) ≤ (i : Int) := by omega
    have j1 : (i : Int) < (T.size : Int) := by omega
    generalize Lib.bytesWorld w 5 T = wb at *
    go_wp2_with fail
    refine (P2.out _).mono ?_; rintro e w5 ⟨rfl, rfl⟩
    go_wp2_with fail
    go_ret
    exact ⟨_, rfl, chg_size T i u, bl.setCell (p := ⟨w.heap.size, i, none⟩) (Nat.le_refl _) _⟩
  · have i1 : decide (0 < T.size) = false := decide_eq_false (by omega)
    have hcb := fun c => gconv_back hbn T.size c rfl
    generalize Lib.bytesWorld w 5 T = wb at *
    go_wp2_with fail
    go_ret
    exact ⟨_, rfl, rfl, bl⟩
end Go.Proofs.YtdbbjhbkhimbfaaGreatDoor
namespace Go.Proofs.YtdbbjhbkhimbfaaGreatDoor
open Go.ChangeShapes Go.WideShapes Go.ChangeAt Go.RowKit
set_option linter.unusedVariables false
set_option linter.unusedSimpArgs false
set_option maxRecDepth 100000

theorem step_appm {α : Type} {t e size bytes : Nat} {z : Value} {enc : α → List Value} (E : El t e size bytes z enc) (w : World) {ops : Array Oper} {o : Oper} {a : Act} {K : Act → World → Prop} {Q : Exit → Act → World → Prop} {EE : Prop} (hg : o.guard = none) (s x : Operand)
    (ho : o.op = .call { callee := .builtin .append, args := #[s, x], argTypes := #[t, t] }) (base : Nat) (L : List α) (v : Value) (hs : a.eval s = v) (h : OwnL e size enc base L v w) (hbase : base ≤ w.heap.size) (ys : List α) (m B : Nat) (cs : Array Value) (hm : ys.length = m) (hm0 : 0 < m)
    (hx : a.eval x = .slice (some ⟨B, 0, none⟩) m m) (hB : w.heap[B]? = some (.cells cs e (0, 0))) (hcs : cs.toList = cellsOf enc ys) (hlen : (L.length + m) * bytes ≤ 140737488355328) (hlen' : L.length + m ≤ maxLen)
    (hK : ∀ g cap w', OwnL e size enc base (L ++ ys) (.slice (some ⟨g, 0, none⟩) (L.length + m) cap) w' → w.grownBy w' v.ownBlock → (v.ownBlock = some g ∨ g = w.heap.size) → K (a.put o.dst (.slice (some ⟨g, 0, none⟩) (L.length + m) cap)) w') :
    if Region.wanted o (yielded ops a.tmps) = true then Oper.wp Tryz.prog o a w K Q else EE := by
  obtain ⟨i, hi, hz0, hz1, hz2⟩ := E.hi
  refine step_append_lies w hg s x t ho base e i z size bytes E.ht hi hz0 hz1 hz2 E.hzs E.hsz v L.length (cellsOf enc L) hs h ⟨B, 0, none⟩ m m (cellsOf enc ys) hx (by rw [cellsOf_len E, hm]) ?_ (fun u hu => ?_) hm0 hlen' hlen hbase _ rfl ?_
  · rw [← hcs]; exact World.news_of_block hB
  · unfold cellsOf at hu; rw [List.mem_flatMap] at hu; obtain ⟨y, _, hy⟩ := hu; exact E.one y u hy
  · intro g cap w' h2 h3 h4 h5
    refine hK _ _ _ ?_ h3 h4
    unfold OwnL; rw [List.length_append, hm, show cellsOf enc (L ++ ys) = cellsOf enc L ++ cellsOf enc ys from by unfold cellsOf; rw [List.flatMap_append]]; exact h2
/-- The builder: the data, the parts, where the skeleton goes on. -/
structure Bu (W : World) (B : Nat) (D : ByteArray) (base : Nat) (ps : List Pt) (vp : Value) (a : Nat) : Prop where
  hh : W.heap[B]? = some (.cells #[.string D, vp, .int .i64 (a : Int)] 81 (0, 0))
  own : OwnL 59 3 penc base ps vp W
  lt : B < base
theorem Bu.call {W W1 : World} {B : Nat} {D : ByteArray} {base : Nat} {ps : List Pt} {vp : Value} {a : Nat} (h : Bu W B D base ps vp a) (hb : Below W.heap.size W W1) : Bu W1 B D base ps vp a :=
  ⟨(hb.block B (Array.getElem?_eq_some_iff.1 h.hh).1).trans h.hh, h.own.call hb, h.lt⟩
theorem Bu.cells {W : World} {B : Nat} {D : ByteArray} {base : Nat} {ps : List Pt} {vp : Value} {a : Nat} (h : Bu W B D base ps vp a) : W.cell? ⟨B, 0, none⟩ = some (.string D) ∧ W.cell? ⟨B, 1, none⟩ = some vp ∧ W.cell? ⟨B, 2, none⟩ = some (.int .i64 (a : Int)) ∧ W.frozen? ⟨B, 0, none⟩ = false ∧ W.frozen? ⟨B, 1, none⟩ = false ∧ W.frozen? ⟨B, 2, none⟩ = false :=
  ⟨by rw [Lib.cell_of_heap h.hh]; rfl, by rw [Lib.cell_of_heap h.hh]; rfl, by rw [Lib.cell_of_heap h.hh]; rfl, Lib.frozen_of_heap h.hh 0, Lib.frozen_of_heap h.hh 1, Lib.frozen_of_heap h.hh 2⟩
theorem Bu.blk {W W1 : World} {B : Nat} {D : ByteArray} {base : Nat} {ps : List Pt} {vp : Value} {a : Nat} (h : Bu W B D base ps vp a) (hg : W.grownBy W1 vp.ownBlock) : W1.heap[B]? = some (.cells #[.string D, vp, .int .i64 (a : Int)] 81 (0, 0)) := by
  refine (hg.block B (Array.getElem?_eq_some_iff.1 h.hh).1 (fun e => ?_)).trans h.hh
  have := (h.own.lt B e.symm).1
  have := h.lt
  omega
theorem Bu.past {W W1 : World} {B : Nat} {D : ByteArray} {base : Nat} {ps : List Pt} {vp : Value} {a : Nat} (h : Bu W B D base ps vp a) (hg : W.grownBy W1 vp.ownBlock) : W1.cell? ⟨B, 0, none⟩ = some (.string D) ∧ W1.cell? ⟨B, 1, none⟩ = some vp ∧ W1.cell? ⟨B, 2, none⟩ = some (.int .i64 (a : Int)) ∧ W1.frozen? ⟨B, 0, none⟩ = false ∧ W1.frozen? ⟨B, 1, none⟩ = false ∧ W1.frozen? ⟨B, 2, none⟩ = false := by
  have hh := h.blk hg
  exact ⟨by rw [Lib.cell_of_heap hh]; rfl, by rw [Lib.cell_of_heap hh]; rfl, by rw [Lib.cell_of_heap hh]; rfl, Lib.frozen_of_heap hh 0, Lib.frozen_of_heap hh 1, Lib.frozen_of_heap hh 2⟩
/-- The two parts that a unit adds. -/
def unitP (D : ByteArray) (a f t : Nat) (key : ByteArray) : List Pt := [skel D a f, ⟨true, key, D.extract f t⟩]
def EndUnit (B : Nat) (D : ByteArray) (base : Nat) (ps : List Pt) (a : Nat) (w : World) (e : Ending) (w' : World) : Prop := e = .returned (.tuple #[]) ∧ ∃ vp', Bu w' B D base ps vp' a ∧ ∀ k, k ≤ B → Below k w w'
set_option maxHeartbeats 6400000 in
theorem refunit_any (B : Nat) (D : ByteArray) (base : Nat) (ps : List Pt) (vp : Value) (a f t : Nat) (key : ByteArray) (w : World) (h : Bu w B D base ps vp a) (hs : D.size ≤ 1000000000000) (h1 : a ≤ f) (h2 : f ≤ t) (h3 : t ≤ D.size) (hps : ps.length ≤ 1000000000000) (hbw : base ≤ w.heap.size) :
    Calls Tryz.prog 45 #[.pointer (some ⟨B, 0, none⟩), .string key, .int .i64 f, .int .i64 t] w (EndUnit B D base (ps ++ unitP D a f t key) t w) := by
  obtain ⟨pv, cv, rfl, hv1, hv2, _⟩ := h.own.pts
  obtain ⟨c0, c1, c2, f0, f1, f2⟩ := h.cells
  have hdr : Below w.heap.size w w.drew := (Below.refl _ w).drew
  obtain ⟨e0, e1, e2, _, _, _⟩ := (h.call hdr).cells
  have j0 : (0 : Int) ≤ (a : Int) := by omega
  have j1 : (a : Int) ≤ (f : Int) := by omega
  have j2 : (f : Int) ≤ (D.size : Int) := by omega
  have j3 : (0 : Int) ≤ (f : Int) := by omega
  have j4 : (f : Int) ≤ (t : Int) := by omega
  have j5 : (t : Int) ≤ (D.size : Int) := by omega
  have hlt := (Array.getElem?_eq_some_iff.1 h.hh).1
  have hBb := h.lt
  have hbA : Below w.heap.size w ((w.drew).alloc (.cells #[.bool false, .string ⟨#[]⟩, .string (D.extract a f), .bool true, .string key, .string (D.extract f t)] 59)) := hdr.trans ((Below.refl _ _).alloc (by simp) _)
  have hVA : Bu ((w.drew).alloc (.cells #[.bool false, .string ⟨#[]⟩, .string (D.extract a f), .bool true, .string key, .string (D.extract f t)] 59)) B D base ps (.slice pv ps.length cv) a := h.call hbA
  obtain ⟨d0, d1, d2, k0, k1, k2⟩ := hVA.cells
  have HV := Lib.hid hVA
  have HOW := Lib.hid hVA.own
  have hsz6 : base ≤ ((w.drew).alloc (.cells #[.bool false, .string ⟨#[]⟩, .string (D.extract a f), .bool true, .string key, .string (D.extract f t)] 59)).heap.size := by simp; omega
  have hnw : ((w.drew).alloc (.cells #[.bool false, .string ⟨#[]⟩, .string (D.extract a f), .bool true, .string key, .string (D.extract f t)] 59)).heap[w.heap.size]? = some (.cells #[.bool false, .string ⟨#[]⟩, .string (D.extract a f), .bool true, .string key, .string (D.extract f t)] 59 (0, 0)) := heap_at (by simp) _
  have HNW := Lib.hid hnw
  have hfin : ∀ g cap w5, OwnL 59 3 penc base (ps ++ unitP D a f t key) (.slice (some ⟨g, 0, none⟩) (ps.length + 2) cap) w5 → World.grownBy ((w.drew).alloc (.cells #[.bool false, .string ⟨#[]⟩, .string (D.extract a f), .bool true, .string key, .string (D.extract f t)] 59)) w5 (Value.slice pv ps.length cv).ownBlock → (w5.setCell ⟨B, 1, none⟩ (.slice (some ⟨g, 0, none⟩) (ps.length + 2) cap)).heap[B]? = some (.cells #[.string D, .slice (some ⟨g, 0, none⟩) (ps.length + 2) cap, .int .i64 (a : Int)] 81 (0, 0)) →
      EndUnit B D base (ps ++ unitP D a f t key) t w (.returned (.tuple #[])) ((w5.setCell ⟨B, 1, none⟩ (.slice (some ⟨g, 0, none⟩) (ps.length + 2) cap)).setCell ⟨B, 2, none⟩ (.int .i64 (t : Int))) := fun g cap w5 hO hg hst => by
    have hst2 := setCell_heap _ B 2 _ 81 (.int .i64 (t : Int)) hst
    have hk : ∀ j, j ≠ B → ((w5.setCell ⟨B, 1, none⟩ (.slice (some ⟨g, 0, none⟩) (ps.length + 2) cap)).setCell ⟨B, 2, none⟩ (.int .i64 (t : Int))).heap[j]? = w5.heap[j]? := fun j hj => (Below.heap_setCell _ ⟨B, 2, none⟩ _ j hj).trans (Below.heap_setCell _ ⟨B, 1, none⟩ _ j hj)
    have hsz : ((w5.setCell ⟨B, 1, none⟩ (.slice (some ⟨g, 0, none⟩) (ps.length + 2) cap)).setCell ⟨B, 2, none⟩ (.int .i64 (t : Int))).heap.size = w5.heap.size := by simp
    refine ⟨rfl, .slice (some ⟨g, 0, none⟩) (ps.length + 2) cap, ⟨by simpa using hst2, hO.keep (by rw [hsz]; exact Nat.le_refl _) (fun j hj hjl => hk j (fun e => by omega)), hBb⟩, fun k hkB => ?_⟩
    have b1 : Below k w ((w.drew).alloc (.cells #[.bool false, .string ⟨#[]⟩, .string (D.extract a f), .bool true, .string key, .string (D.extract f t)] 59)) := ⟨hbA.os, hbA.tape, hbA.output, hbA.size, fun i hi => hbA.block i (by omega)⟩
    have b2 := b1.grown hg (by have := hbA.size; omega) (fun j hj => by have := (HOW.out.lt j hj).1; omega)
    exact (b2.setCell (p := ⟨B, 1, none⟩) hkB _).setCell (p := ⟨B, 2, none⟩) hkB _
  have FIN := Lib.hid hfin
  clear hfin hnw hVA hdr hbA
  go_enter Tryz.func45, Tryz.ntmps45
  go_upto_region 0 with fail
  refine wp_region_held_drew (S := fun W => W.cell? ⟨B, 0, none⟩ = some (.string D) ∧ W.cell? ⟨B, 2, none⟩ = some (.int .i64 (a : Int))) (by kernel_rfl) ⟨e0, e2⟩ (fun hHeld => ?_)
  refine wpAnyH_take (i := 0) (v := ?_) rfl (by kernel_rfl) (by kernel_rfl) (by kernel_rfl) (fun _ _ _ h => h) (Or.inl ⟨by rfl, ?_⟩) hHeld ?_
  rotate_left
  · (intro w hSw; (try dsimp only at hSw); go_simp; try with_reducible rfl)
  try simp only [Act.put, List.getElem_toArray, List.getElem_cons_zero, List.getElem_cons_succ, List.setIfInBounds_toArray, List.set_cons_zero, List.set_cons_succ]
  refine wpAnyH_take (i := 1) (v := ?_) rfl (by kernel_rfl) (by kernel_rfl) (by kernel_rfl) (fun _ _ _ h => h) (Or.inl ⟨by rfl, ?_⟩) hHeld ?_
  rotate_left
  · (intro w hSw; (try dsimp only at hSw); go_simp; try with_reducible rfl)
  try simp only [Act.put, List.getElem_toArray, List.getElem_cons_zero, List.getElem_cons_succ, List.setIfInBounds_toArray, List.set_cons_zero, List.set_cons_succ]
  refine wpAnyH_take (i := 2) (v := ?_) rfl (by kernel_rfl) (by kernel_rfl) (by kernel_rfl) (fun _ _ _ h => h) (Or.inl ⟨by rfl, ?_⟩) hHeld ?_
  rotate_left
  · (intro w hSw; (try dsimp only at hSw); go_simp; try with_reducible rfl)
  try simp only [Act.put, List.getElem_toArray, List.getElem_cons_zero, List.getElem_cons_succ, List.setIfInBounds_toArray, List.set_cons_zero, List.set_cons_succ]
  refine wpAnyH_take (i := 3) (v := ?_) rfl (by kernel_rfl) (by kernel_rfl) (by kernel_rfl) (fun _ _ _ h => h) (Or.inl ⟨by rfl, ?_⟩) hHeld ?_
  rotate_left
  · (intro w hSw; (try dsimp only at hSw); go_simp; try with_reducible rfl)
  try simp only [Act.put, List.getElem_toArray, List.getElem_cons_zero, List.getElem_cons_succ, List.setIfInBounds_toArray, List.set_cons_zero, List.set_cons_succ]
  refine wpAnyH_take (i := 5) (v := ?_) rfl (by kernel_rfl) (by kernel_rfl) (by kernel_rfl) (fun _ _ _ h => h) (Or.inl ⟨by rfl, ?_⟩) hHeld ?_
  rotate_left
  · (intro w hSw; (try dsimp only at hSw); go_simp; try with_reducible rfl)
  try simp only [Act.put, List.getElem_toArray, List.getElem_cons_zero, List.getElem_cons_succ, List.setIfInBounds_toArray, List.set_cons_zero, List.set_cons_succ]
  refine wpAnyH_take (i := 6) (v := ?_) rfl (by kernel_rfl) (by kernel_rfl) (by kernel_rfl) (fun _ _ _ h => h) (Or.inl ⟨by rfl, ?_⟩) hHeld ?_
  rotate_left
  · (intro w hSw; (try dsimp only at hSw); go_simp; try with_reducible rfl)
  try simp only [Act.put, List.getElem_toArray, List.getElem_cons_zero, List.getElem_cons_succ, List.setIfInBounds_toArray, List.set_cons_zero, List.set_cons_succ]
  refine wpAnyH_take (i := 7) (v := ?_) rfl (by kernel_rfl) (by kernel_rfl) (by kernel_rfl) (fun _ _ _ h => h) (Or.inl ⟨by rfl, ?_⟩) hHeld ?_
  rotate_left
  · (intro w hSw; (try dsimp only at hSw); go_simp; try with_reducible rfl)
  try simp only [Act.put, List.getElem_toArray, List.getElem_cons_zero, List.getElem_cons_succ, List.setIfInBounds_toArray, List.set_cons_zero, List.set_cons_succ]
  refine wpAnyH_take (i := 8) (v := ?_) rfl (by kernel_rfl) (by kernel_rfl) (by kernel_rfl) (fun _ _ _ h => h) (Or.inl ⟨by rfl, ?_⟩) hHeld ?_
  rotate_left
  · (intro w hSw; have hc := hSw.1; go_simp; try with_reducible rfl)
  try simp only [Act.put, List.getElem_toArray, List.getElem_cons_zero, List.getElem_cons_succ, List.setIfInBounds_toArray, List.set_cons_zero, List.set_cons_succ]
  refine wpAnyH_take (i := 9) (v := ?_) rfl (by kernel_rfl) (by kernel_rfl) (by kernel_rfl) (fun _ _ _ h => h) (Or.inl ⟨by rfl, ?_⟩) hHeld ?_
  rotate_left
  · (intro w hSw; (try dsimp only at hSw); go_simp; try with_reducible rfl)
  try simp only [Act.put, List.getElem_toArray, List.getElem_cons_zero, List.getElem_cons_succ, List.setIfInBounds_toArray, List.set_cons_zero, List.set_cons_succ]
  refine wpAnyH_take (i := 10) (v := ?_) rfl (by kernel_rfl) (by kernel_rfl) (by kernel_rfl) (fun _ _ _ h => h) (Or.inl ⟨by rfl, ?_⟩) hHeld ?_
  rotate_left
  · (intro w hSw; (try dsimp only at hSw); go_simp; try with_reducible rfl)
  try simp only [Act.put, List.getElem_toArray, List.getElem_cons_zero, List.getElem_cons_succ, List.setIfInBounds_toArray, List.set_cons_zero, List.set_cons_succ]
  refine wpAnyH_take (i := 11) (v := ?_) rfl (by kernel_rfl) (by kernel_rfl) (by kernel_rfl) (fun _ _ _ h => h) (Or.inl ⟨by rfl, ?_⟩) hHeld ?_
  rotate_left
  · (intro w hSw; (try dsimp only at hSw); go_simp; try with_reducible rfl)
  try simp only [Act.put, List.getElem_toArray, List.getElem_cons_zero, List.getElem_cons_succ, List.setIfInBounds_toArray, List.set_cons_zero, List.set_cons_succ]
  refine wpAnyH_take (i := 12) (v := ?_) rfl (by kernel_rfl) (by kernel_rfl) (by kernel_rfl) (fun _ _ _ h => h) (Or.inl ⟨by rfl, ?_⟩) hHeld ?_
  rotate_left
  · (intro w hSw; have hc := hSw.2; go_simp; try with_reducible rfl)
  try simp only [Act.put, List.getElem_toArray, List.getElem_cons_zero, List.getElem_cons_succ, List.setIfInBounds_toArray, List.set_cons_zero, List.set_cons_succ]
  refine wpAnyH_take (i := 13) (v := ?_) rfl (by kernel_rfl) (by kernel_rfl) (by kernel_rfl) (fun _ _ _ h => h) (Or.inl ⟨by rfl, ?_⟩) hHeld ?_
  rotate_left
  · (intro w hSw; (try dsimp only at hSw); go_simp; try with_reducible rfl)
  try simp only [Act.put, List.getElem_toArray, List.getElem_cons_zero, List.getElem_cons_succ, List.setIfInBounds_toArray, List.set_cons_zero, List.set_cons_succ]
  refine wpAnyH_take (i := 14) (v := ?_) rfl (by kernel_rfl) (by kernel_rfl) (by kernel_rfl) (fun _ _ _ h => h) (Or.inl ⟨by rfl, ?_⟩) hHeld ?_
  rotate_left
  · (intro w hSw; (try dsimp only at hSw); go_simp; try with_reducible rfl)
  try simp only [Act.put, List.getElem_toArray, List.getElem_cons_zero, List.getElem_cons_succ, List.setIfInBounds_toArray, List.set_cons_zero, List.set_cons_succ]
  refine wpAnyH_take (i := 15) (v := ?_) rfl (by kernel_rfl) (by kernel_rfl) (by kernel_rfl) (fun _ _ _ h => h) (Or.inl ⟨by rfl, ?_⟩) hHeld ?_
  rotate_left
  · (intro w hSw; (try dsimp only at hSw); go_simp; try with_reducible rfl)
  try simp only [Act.put, List.getElem_toArray, List.getElem_cons_zero, List.getElem_cons_succ, List.setIfInBounds_toArray, List.set_cons_zero, List.set_cons_succ]
  refine wpAnyH_take (i := 16) (v := ?_) rfl (by kernel_rfl) (by kernel_rfl) (by kernel_rfl) (fun _ _ _ h => h) (Or.inl ⟨by rfl, ?_⟩) hHeld ?_
  rotate_left
  · (intro w hSw; (try dsimp only at hSw); go_simp; try with_reducible rfl)
  try simp only [Act.put, List.getElem_toArray, List.getElem_cons_zero, List.getElem_cons_succ, List.setIfInBounds_toArray, List.set_cons_zero, List.set_cons_succ]
  refine wpAnyH_take (i := 17) (v := ?_) rfl (by kernel_rfl) (by kernel_rfl) (by kernel_rfl) (fun _ _ _ h => h) (Or.inl ⟨by rfl, ?_⟩) hHeld ?_
  rotate_left
  · (intro w hSw; (try dsimp only at hSw); go_simp; try with_reducible rfl)
  try simp only [Act.put, List.getElem_toArray, List.getElem_cons_zero, List.getElem_cons_succ, List.setIfInBounds_toArray, List.set_cons_zero, List.set_cons_succ]
  refine wpAnyH_take (i := 18) (v := ?_) rfl (by kernel_rfl) (by kernel_rfl) (by kernel_rfl) (fun _ _ _ h => h) (Or.inl ⟨by rfl, ?_⟩) hHeld ?_
  rotate_left
  · (intro w hSw; (try dsimp only at hSw); go_simp; try with_reducible rfl)
  try simp only [Act.put, List.getElem_toArray, List.getElem_cons_zero, List.getElem_cons_succ, List.setIfInBounds_toArray, List.set_cons_zero, List.set_cons_succ]
  refine wpAnyH_take (i := 19) (v := ?_) rfl (by kernel_rfl) (by kernel_rfl) (by kernel_rfl) (fun _ _ _ h => h) (Or.inl ⟨by rfl, ?_⟩) hHeld ?_
  rotate_left
  · (intro w hSw; (try dsimp only at hSw); go_simp; try with_reducible rfl)
  try simp only [Act.put, List.getElem_toArray, List.getElem_cons_zero, List.getElem_cons_succ, List.setIfInBounds_toArray, List.set_cons_zero, List.set_cons_succ]
  refine wpAnyH_take (i := 20) (v := ?_) rfl (by kernel_rfl) (by kernel_rfl) (by kernel_rfl) (fun _ _ _ h => h) (Or.inl ⟨by rfl, ?_⟩) hHeld ?_
  rotate_left
  · (intro w hSw; have hc := hSw.1; go_simp; try with_reducible rfl)
  try simp only [Act.put, List.getElem_toArray, List.getElem_cons_zero, List.getElem_cons_succ, List.setIfInBounds_toArray, List.set_cons_zero, List.set_cons_succ]
  refine wpAnyH_take (i := 21) (v := ?_) rfl (by kernel_rfl) (by kernel_rfl) (by kernel_rfl) (fun _ _ _ h => h) (Or.inl ⟨by rfl, ?_⟩) hHeld ?_
  rotate_left
  · (intro w hSw; (try dsimp only at hSw); go_simp; try with_reducible rfl)
  try simp only [Act.put, List.getElem_toArray, List.getElem_cons_zero, List.getElem_cons_succ, List.setIfInBounds_toArray, List.set_cons_zero, List.set_cons_succ]
  refine wpAnyH_take (i := 22) (v := ?_) rfl (by kernel_rfl) (by kernel_rfl) (by kernel_rfl) (fun _ _ _ h => h) (Or.inl ⟨by rfl, ?_⟩) hHeld ?_
  rotate_left
  · (intro w hSw; (try dsimp only at hSw); go_simp; try with_reducible rfl)
  try simp only [Act.put, List.getElem_toArray, List.getElem_cons_zero, List.getElem_cons_succ, List.setIfInBounds_toArray, List.set_cons_zero, List.set_cons_succ]
  refine wpAnyH_take (i := 23) (v := ?_) rfl (by kernel_rfl) (by kernel_rfl) (by kernel_rfl) (fun _ _ _ h => h) (Or.inl ⟨by rfl, ?_⟩) hHeld ?_
  rotate_left
  · (intro w hSw; (try dsimp only at hSw); go_simp; try with_reducible rfl)
  try simp only [Act.put, List.getElem_toArray, List.getElem_cons_zero, List.getElem_cons_succ, List.setIfInBounds_toArray, List.set_cons_zero, List.set_cons_succ]
  refine wpAnyH_take (i := 24) (v := ?_) rfl (by kernel_rfl) (by kernel_rfl) (by kernel_rfl) (fun _ _ _ h => h) (Or.inl ⟨by rfl, ?_⟩) hHeld ?_
  rotate_left
  · (intro w hSw; (try dsimp only at hSw); go_simp; try with_reducible rfl)
  try simp only [Act.put, List.getElem_toArray, List.getElem_cons_zero, List.getElem_cons_succ, List.setIfInBounds_toArray, List.set_cons_zero, List.set_cons_succ]
  refine wpAnyH_ready (rs := [4, 25]) (by kernel_rfl) (by simp) ?_
  refine AllReadyH.cons rfl (fun K hK => ?_) (AllReadyH.cons rfl (fun K hK => ?_) (AllReadyH.nil))
  · skip
    go_simp
    refine hK.out _ _ hHeld (fun hHeld => ?_)
    clear hK K
    try simp only [Act.put, List.getElem_toArray, List.getElem_cons_zero, List.getElem_cons_succ, List.setIfInBounds_toArray, List.set_cons_zero, List.set_cons_succ]
    refine wpAnyH_ready (rs := [25]) (by kernel_rfl) (by simp) ?_
    refine AllReadyH.cons rfl (fun K hK => ?_) (AllReadyH.nil)
    go_simp
    refine hK.out _ _ ⟨d0, d2⟩ (fun hHeld => ?_)
    clear hK K
    try simp only [Act.put, List.getElem_toArray, List.getElem_cons_zero, List.getElem_cons_succ, List.setIfInBounds_toArray, List.set_cons_zero, List.set_cons_succ]
    refine wpAnyH_ready (rs := [26]) (by kernel_rfl) (by simp) ?_
    refine AllReadyH.cons rfl (fun K hK => ?_) AllReadyH.nil
    refine step_appm eP _ (by rfl) _ _ (by rfl) base ps (.slice pv ps.length cv) (by rfl) HOW.out hsz6 (unitP D a f t key) 2 w.heap.size _ rfl (by omega) (by rfl) HNW.out (by rfl) (by omega) (by unfold maxLen; omega) ?_
    intro g cap w5 hO5 hg5 hl5
    obtain ⟨y0, y1, y2, m0, m1, m2⟩ := HV.out.past hg5
    try go_simp
    refine hK.out _ _ ⟨y0, y2⟩ (fun hHeld => ?_)
    clear hK K
    try simp only [Act.put, List.getElem_toArray, List.getElem_cons_zero, List.getElem_cons_succ, List.setIfInBounds_toArray, List.set_cons_zero, List.set_cons_succ]
    refine wpAnyH_take (i := 27) (v := ?_) rfl (by kernel_rfl) (by kernel_rfl) (by kernel_rfl) (fun _ _ _ h => h) (Or.inl ⟨by rfl, ?_⟩) hHeld ?_
    rotate_left
    · (intro w hSw; (try dsimp only at hSw); go_simp; try with_reducible rfl)
    try simp only [Act.put, List.getElem_toArray, List.getElem_cons_zero, List.getElem_cons_succ, List.setIfInBounds_toArray, List.set_cons_zero, List.set_cons_succ]
    refine wpAnyH_take (i := 28) (v := ?_) rfl (by kernel_rfl) (by kernel_rfl) (by kernel_rfl) (fun _ _ _ h => h) (Or.inl ⟨by rfl, ?_⟩) hHeld ?_
    rotate_left
    · (intro w hSw; (try dsimp only at hSw); go_simp; try with_reducible rfl)
    try simp only [Act.put, List.getElem_toArray, List.getElem_cons_zero, List.getElem_cons_succ, List.setIfInBounds_toArray, List.set_cons_zero, List.set_cons_succ]
    refine wpAnyH_ready (rs := [29]) (by kernel_rfl) (by simp) ?_
    refine AllReadyH.cons rfl (fun K hK => ?_) AllReadyH.nil
    go_simp
    have hb5 := HV.out.blk hg5
    have hst := setCell_heap w5 B 1 _ 81 (.slice (some ⟨g, 0, none⟩) (ps.length + 2) cap) hb5
    refine hK.out _ _ ⟨by rw [World.cell?_setCell_other _ _ _ _ (by simp)]; exact y0, by rw [World.cell?_setCell_other _ _ _ _ (by simp)]; exact y2⟩ (fun hHeld => ?_)
    clear hK K
    try simp only [Act.put, List.getElem_toArray, List.getElem_cons_zero, List.getElem_cons_succ, List.setIfInBounds_toArray, List.set_cons_zero, List.set_cons_succ]
    have hst0 : (w5.setCell ⟨B, 1, none⟩ (.slice (some ⟨g, 0, none⟩) (ps.length + 2) cap)).heap[B]? = some (.cells #[.string D, .slice (some ⟨g, 0, none⟩) (ps.length + 2) cap, .int .i64 (a : Int)] 81 (0, 0)) := by simpa using hst
    have hFIN := FIN.out g cap w5 hO5 hg5 hst0
    have HF := Lib.hid hFIN
    have z2 : (w5.setCell ⟨B, 1, none⟩ (.slice (some ⟨g, 0, none⟩) (ps.length + 2) cap)).cell? ⟨B, 2, none⟩ = some (.int .i64 (a : Int)) := by rw [Lib.cell_of_heap hst0]; rfl
    have zf := Lib.frozen_of_heap hst0 2
    clear hFIN hst hst0 hO5 hg5 hb5 y0 y1 y2 m0 m1 m2
    refine wpAnyH_done (by kernel_rfl) ?_ _
    generalize w5.setCell ⟨B, 1, none⟩ (.slice (some ⟨g, 0, none⟩) (ps.length + 2) cap) = w6 at *
    go_wp2_with fail
    go_returns
    exact HF.out
  · skip
    go_simp
    refine hK.out _ _ ⟨d0, d2⟩ (fun hHeld => ?_)
    clear hK K
    try simp only [Act.put, List.getElem_toArray, List.getElem_cons_zero, List.getElem_cons_succ, List.setIfInBounds_toArray, List.set_cons_zero, List.set_cons_succ]
    refine wpAnyH_ready (rs := [4]) (by kernel_rfl) (by simp) ?_
    refine AllReadyH.cons rfl (fun K hK => ?_) (AllReadyH.nil)
    go_simp
    refine hK.out _ _ ⟨d0, d2⟩ (fun hHeld => ?_)
    clear hK K
    try simp only [Act.put, List.getElem_toArray, List.getElem_cons_zero, List.getElem_cons_succ, List.setIfInBounds_toArray, List.set_cons_zero, List.set_cons_succ]
    refine wpAnyH_ready (rs := [26]) (by kernel_rfl) (by simp) ?_
    refine AllReadyH.cons rfl (fun K hK => ?_) AllReadyH.nil
    refine step_appm eP _ (by rfl) _ _ (by rfl) base ps (.slice pv ps.length cv) (by rfl) HOW.out hsz6 (unitP D a f t key) 2 w.heap.size _ rfl (by omega) (by rfl) HNW.out (by rfl) (by omega) (by unfold maxLen; omega) ?_
    intro g cap w5 hO5 hg5 hl5
    obtain ⟨y0, y1, y2, m0, m1, m2⟩ := HV.out.past hg5
    try go_simp
    refine hK.out _ _ ⟨y0, y2⟩ (fun hHeld => ?_)
    clear hK K
    try simp only [Act.put, List.getElem_toArray, List.getElem_cons_zero, List.getElem_cons_succ, List.setIfInBounds_toArray, List.set_cons_zero, List.set_cons_succ]
    refine wpAnyH_take (i := 27) (v := ?_) rfl (by kernel_rfl) (by kernel_rfl) (by kernel_rfl) (fun _ _ _ h => h) (Or.inl ⟨by rfl, ?_⟩) hHeld ?_
    rotate_left
    · (intro w hSw; (try dsimp only at hSw); go_simp; try with_reducible rfl)
    try simp only [Act.put, List.getElem_toArray, List.getElem_cons_zero, List.getElem_cons_succ, List.setIfInBounds_toArray, List.set_cons_zero, List.set_cons_succ]
    refine wpAnyH_take (i := 28) (v := ?_) rfl (by kernel_rfl) (by kernel_rfl) (by kernel_rfl) (fun _ _ _ h => h) (Or.inl ⟨by rfl, ?_⟩) hHeld ?_
    rotate_left
    · (intro w hSw; (try dsimp only at hSw); go_simp; try with_reducible rfl)
    try simp only [Act.put, List.getElem_toArray, List.getElem_cons_zero, List.getElem_cons_succ, List.setIfInBounds_toArray, List.set_cons_zero, List.set_cons_succ]
    refine wpAnyH_ready (rs := [29]) (by kernel_rfl) (by simp) ?_
    refine AllReadyH.cons rfl (fun K hK => ?_) AllReadyH.nil
    go_simp
    have hb5 := HV.out.blk hg5
    have hst := setCell_heap w5 B 1 _ 81 (.slice (some ⟨g, 0, none⟩) (ps.length + 2) cap) hb5
    refine hK.out _ _ ⟨by rw [World.cell?_setCell_other _ _ _ _ (by simp)]; exact y0, by rw [World.cell?_setCell_other _ _ _ _ (by simp)]; exact y2⟩ (fun hHeld => ?_)
    clear hK K
    try simp only [Act.put, List.getElem_toArray, List.getElem_cons_zero, List.getElem_cons_succ, List.setIfInBounds_toArray, List.set_cons_zero, List.set_cons_succ]
    have hst0 : (w5.setCell ⟨B, 1, none⟩ (.slice (some ⟨g, 0, none⟩) (ps.length + 2) cap)).heap[B]? = some (.cells #[.string D, .slice (some ⟨g, 0, none⟩) (ps.length + 2) cap, .int .i64 (a : Int)] 81 (0, 0)) := by simpa using hst
    have hFIN := FIN.out g cap w5 hO5 hg5 hst0
    have HF := Lib.hid hFIN
    have z2 : (w5.setCell ⟨B, 1, none⟩ (.slice (some ⟨g, 0, none⟩) (ps.length + 2) cap)).cell? ⟨B, 2, none⟩ = some (.int .i64 (a : Int)) := by rw [Lib.cell_of_heap hst0]; rfl
    have zf := Lib.frozen_of_heap hst0 2
    clear hFIN hst hst0 hO5 hg5 hb5 y0 y1 y2 m0 m1 m2
    refine wpAnyH_done (by kernel_rfl) ?_ _
    generalize w5.setCell ⟨B, 1, none⟩ (.slice (some ⟨g, 0, none⟩) (ps.length + 2) cap) = w6 at *
    go_wp2_with fail
    go_returns
    exact HF.out
def EndEnd (L : List Pt) (B : Nat) (w : World) (e : Ending) (w' : World) : Prop := ∃ p c, e = .returned (.slice p L.length c) ∧ L.length ≤ c ∧ c ≤ maxLen ∧ Pts w' p L ∧ ∀ k, k ≤ B → Below k w w'
set_option maxHeartbeats 3200000 in
theorem refend_any (B : Nat) (D : ByteArray) (base : Nat) (ps : List Pt) (vp : Value) (a : Nat) (w : World) (h : Bu w B D base ps vp a) (hs : D.size ≤ 1000000000000) (h1 : a ≤ D.size) (hps : ps.length ≤ 1000000000000) (hbw : base ≤ w.heap.size) :
    Calls Tryz.prog 46 #[.pointer (some ⟨B, 0, none⟩)] w (EndEnd (ps ++ [skel D a D.size]) B w) := by
  obtain ⟨pv, cv, rfl, hv1, hv2, _⟩ := h.own.pts
  obtain ⟨c0, c1, c2, f0, f1, f2⟩ := h.cells
  have hdr : Below w.heap.size w w.drew := (Below.refl _ w).drew
  obtain ⟨e0, e1, e2, _, _, _⟩ := (h.call hdr).cells
  have j0 : (0 : Int) ≤ (a : Int) := by omega
  have j1 : (a : Int) ≤ (D.size : Int) := by omega
  have hlt := (Array.getElem?_eq_some_iff.1 h.hh).1
  have hBb := h.lt
  have hbA : Below w.heap.size w ((w.drew).alloc (.cells #[.bool false, .string ⟨#[]⟩, .string (D.extract a D.size)] 59)) := hdr.trans ((Below.refl _ _).alloc (by simp) _)
  have hVA : Bu ((w.drew).alloc (.cells #[.bool false, .string ⟨#[]⟩, .string (D.extract a D.size)] 59)) B D base ps (.slice pv ps.length cv) a := h.call hbA
  obtain ⟨d0, d1, d2, k0, k1, k2⟩ := hVA.cells
  have HV := Lib.hid hVA
  have HOW := Lib.hid hVA.own
  have hsz6 : base ≤ ((w.drew).alloc (.cells #[.bool false, .string ⟨#[]⟩, .string (D.extract a D.size)] 59)).heap.size := by simp; omega
  have hnw : ((w.drew).alloc (.cells #[.bool false, .string ⟨#[]⟩, .string (D.extract a D.size)] 59)).heap[w.heap.size]? = some (.cells #[.bool false, .string ⟨#[]⟩, .string (D.extract a D.size)] 59 (0, 0)) := heap_at (by simp) _
  have HNW := Lib.hid hnw
  have hfin : ∀ g cap w5, OwnL 59 3 penc base (ps ++ [skel D a D.size]) (.slice (some ⟨g, 0, none⟩) (ps.length + 1) cap) w5 → World.grownBy ((w.drew).alloc (.cells #[.bool false, .string ⟨#[]⟩, .string (D.extract a D.size)] 59)) w5 (Value.slice pv ps.length cv).ownBlock →
      EndEnd (ps ++ [skel D a D.size]) B w (.returned (.slice (some ⟨g, 0, none⟩) (ps.length + 1) cap)) w5 := fun g cap w5 hO hg => by
    obtain ⟨p4, c4, hv4, x1, x2, hP4⟩ := hO.pts
    injection hv4 with q1 q2 q3
    refine ⟨some ⟨g, 0, none⟩, cap, by simp, by rw [q3]; exact x1, by rw [q3]; exact x2, by rw [q1]; exact hP4, fun k hkB => ?_⟩
    have b1 : Below k w ((w.drew).alloc (.cells #[.bool false, .string ⟨#[]⟩, .string (D.extract a D.size)] 59)) := ⟨hbA.os, hbA.tape, hbA.output, hbA.size, fun i hi => hbA.block i (by omega)⟩
    exact b1.grown hg (by have := hbA.size; omega) (fun j hj => by have := (HOW.out.lt j hj).1; omega)
  have FIN := Lib.hid hfin
  clear hfin hnw hVA hdr hbA
  go_enter Tryz.func46, Tryz.ntmps46
  go_upto_region 1 with fail
  refine wp_region_held_drew (S := fun W => W.cell? ⟨B, 0, none⟩ = some (.string D) ∧ W.cell? ⟨B, 2, none⟩ = some (.int .i64 (a : Int))) (by kernel_rfl) ⟨e0, e2⟩ (fun hHeld => ?_)
  refine wpAnyH_take (i := 0) (v := ?_) rfl (by kernel_rfl) (by kernel_rfl) (by kernel_rfl) (fun _ _ _ h => h) (Or.inl ⟨by rfl, ?_⟩) hHeld ?_
  rotate_left
  · (intro w hSw; (try dsimp only at hSw); go_simp; try with_reducible rfl)
  try simp only [Act.put, List.getElem_toArray, List.getElem_cons_zero, List.getElem_cons_succ, List.setIfInBounds_toArray, List.set_cons_zero, List.set_cons_succ]
  refine wpAnyH_take (i := 1) (v := ?_) rfl (by kernel_rfl) (by kernel_rfl) (by kernel_rfl) (fun _ _ _ h => h) (Or.inl ⟨by rfl, ?_⟩) hHeld ?_
  rotate_left
  · (intro w hSw; (try dsimp only at hSw); go_simp; try with_reducible rfl)
  try simp only [Act.put, List.getElem_toArray, List.getElem_cons_zero, List.getElem_cons_succ, List.setIfInBounds_toArray, List.set_cons_zero, List.set_cons_succ]
  refine wpAnyH_take (i := 2) (v := ?_) rfl (by kernel_rfl) (by kernel_rfl) (by kernel_rfl) (fun _ _ _ h => h) (Or.inl ⟨by rfl, ?_⟩) hHeld ?_
  rotate_left
  · (intro w hSw; (try dsimp only at hSw); go_simp; try with_reducible rfl)
  try simp only [Act.put, List.getElem_toArray, List.getElem_cons_zero, List.getElem_cons_succ, List.setIfInBounds_toArray, List.set_cons_zero, List.set_cons_succ]
  refine wpAnyH_take (i := 4) (v := ?_) rfl (by kernel_rfl) (by kernel_rfl) (by kernel_rfl) (fun _ _ _ h => h) (Or.inl ⟨by rfl, ?_⟩) hHeld ?_
  rotate_left
  · (intro w hSw; (try dsimp only at hSw); go_simp; try with_reducible rfl)
  try simp only [Act.put, List.getElem_toArray, List.getElem_cons_zero, List.getElem_cons_succ, List.setIfInBounds_toArray, List.set_cons_zero, List.set_cons_succ]
  refine wpAnyH_take (i := 5) (v := ?_) rfl (by kernel_rfl) (by kernel_rfl) (by kernel_rfl) (fun _ _ _ h => h) (Or.inl ⟨by rfl, ?_⟩) hHeld ?_
  rotate_left
  · (intro w hSw; (try dsimp only at hSw); go_simp; try with_reducible rfl)
  try simp only [Act.put, List.getElem_toArray, List.getElem_cons_zero, List.getElem_cons_succ, List.setIfInBounds_toArray, List.set_cons_zero, List.set_cons_succ]
  refine wpAnyH_take (i := 6) (v := ?_) rfl (by kernel_rfl) (by kernel_rfl) (by kernel_rfl) (fun _ _ _ h => h) (Or.inl ⟨by rfl, ?_⟩) hHeld ?_
  rotate_left
  · (intro w hSw; (try dsimp only at hSw); go_simp; try with_reducible rfl)
  try simp only [Act.put, List.getElem_toArray, List.getElem_cons_zero, List.getElem_cons_succ, List.setIfInBounds_toArray, List.set_cons_zero, List.set_cons_succ]
  refine wpAnyH_take (i := 7) (v := ?_) rfl (by kernel_rfl) (by kernel_rfl) (by kernel_rfl) (fun _ _ _ h => h) (Or.inl ⟨by rfl, ?_⟩) hHeld ?_
  rotate_left
  · (intro w hSw; have hc := hSw.1; go_simp; try with_reducible rfl)
  try simp only [Act.put, List.getElem_toArray, List.getElem_cons_zero, List.getElem_cons_succ, List.setIfInBounds_toArray, List.set_cons_zero, List.set_cons_succ]
  refine wpAnyH_take (i := 8) (v := ?_) rfl (by kernel_rfl) (by kernel_rfl) (by kernel_rfl) (fun _ _ _ h => h) (Or.inl ⟨by rfl, ?_⟩) hHeld ?_
  rotate_left
  · (intro w hSw; (try dsimp only at hSw); go_simp; try with_reducible rfl)
  try simp only [Act.put, List.getElem_toArray, List.getElem_cons_zero, List.getElem_cons_succ, List.setIfInBounds_toArray, List.set_cons_zero, List.set_cons_succ]
  refine wpAnyH_take (i := 9) (v := ?_) rfl (by kernel_rfl) (by kernel_rfl) (by kernel_rfl) (fun _ _ _ h => h) (Or.inl ⟨by rfl, ?_⟩) hHeld ?_
  rotate_left
  · (intro w hSw; (try dsimp only at hSw); go_simp; try with_reducible rfl)
  try simp only [Act.put, List.getElem_toArray, List.getElem_cons_zero, List.getElem_cons_succ, List.setIfInBounds_toArray, List.set_cons_zero, List.set_cons_succ]
  refine wpAnyH_take (i := 10) (v := ?_) rfl (by kernel_rfl) (by kernel_rfl) (by kernel_rfl) (fun _ _ _ h => h) (Or.inl ⟨by rfl, ?_⟩) hHeld ?_
  rotate_left
  · (intro w hSw; (try dsimp only at hSw); go_simp; try with_reducible rfl)
  try simp only [Act.put, List.getElem_toArray, List.getElem_cons_zero, List.getElem_cons_succ, List.setIfInBounds_toArray, List.set_cons_zero, List.set_cons_succ]
  refine wpAnyH_take (i := 11) (v := ?_) rfl (by kernel_rfl) (by kernel_rfl) (by kernel_rfl) (fun _ _ _ h => h) (Or.inl ⟨by rfl, ?_⟩) hHeld ?_
  rotate_left
  · (intro w hSw; have hc := hSw.2; go_simp; try with_reducible rfl)
  try simp only [Act.put, List.getElem_toArray, List.getElem_cons_zero, List.getElem_cons_succ, List.setIfInBounds_toArray, List.set_cons_zero, List.set_cons_succ]
  refine wpAnyH_take (i := 12) (v := ?_) rfl (by kernel_rfl) (by kernel_rfl) (by kernel_rfl) (fun _ _ _ h => h) (Or.inl ⟨by rfl, ?_⟩) hHeld ?_
  rotate_left
  · (intro w hSw; (try dsimp only at hSw); go_simp; try with_reducible rfl)
  try simp only [Act.put, List.getElem_toArray, List.getElem_cons_zero, List.getElem_cons_succ, List.setIfInBounds_toArray, List.set_cons_zero, List.set_cons_succ]
  refine wpAnyH_take (i := 13) (v := ?_) rfl (by kernel_rfl) (by kernel_rfl) (by kernel_rfl) (fun _ _ _ h => h) (Or.inl ⟨by rfl, ?_⟩) hHeld ?_
  rotate_left
  · (intro w hSw; (try dsimp only at hSw); go_simp; try with_reducible rfl)
  try simp only [Act.put, List.getElem_toArray, List.getElem_cons_zero, List.getElem_cons_succ, List.setIfInBounds_toArray, List.set_cons_zero, List.set_cons_succ]
  refine wpAnyH_ready (rs := [3, 14]) (by kernel_rfl) (by simp) ?_
  refine AllReadyH.cons rfl (fun K hK => ?_) (AllReadyH.cons rfl (fun K hK => ?_) (AllReadyH.nil))
  · skip
    go_simp
    refine hK.out _ _ hHeld (fun hHeld => ?_)
    clear hK K
    try simp only [Act.put, List.getElem_toArray, List.getElem_cons_zero, List.getElem_cons_succ, List.setIfInBounds_toArray, List.set_cons_zero, List.set_cons_succ]
    refine wpAnyH_ready (rs := [14]) (by kernel_rfl) (by simp) ?_
    refine AllReadyH.cons rfl (fun K hK => ?_) (AllReadyH.nil)
    go_simp
    refine hK.out _ _ ⟨d0, d2⟩ (fun hHeld => ?_)
    clear hK K
    try simp only [Act.put, List.getElem_toArray, List.getElem_cons_zero, List.getElem_cons_succ, List.setIfInBounds_toArray, List.set_cons_zero, List.set_cons_succ]
    refine wpAnyH_ready (rs := [15]) (by kernel_rfl) (by simp) ?_
    refine AllReadyH.cons rfl (fun K hK => ?_) AllReadyH.nil
    refine step_appm eP _ (by rfl) _ _ (by rfl) base ps (.slice pv ps.length cv) (by rfl) HOW.out hsz6 [skel D a D.size] 1 w.heap.size _ rfl (by omega) (by rfl) HNW.out (by rfl) (by omega) (by unfold maxLen; omega) ?_
    intro g cap w5 hO5 hg5 hl5
    have HF := Lib.hid (FIN.out g cap w5 hO5 hg5)
    have hS5 : w5.cell? ⟨B, 0, none⟩ = some (.string D) ∧ w5.cell? ⟨B, 2, none⟩ = some (.int .i64 (a : Int)) := ⟨(HV.out.past hg5).1, (HV.out.past hg5).2.2.1⟩
    clear hO5 hg5 hl5
    try go_simp
    refine hK.out _ _ hS5 (fun hHeld => ?_)
    clear hK K
    try simp only [Act.put, List.getElem_toArray, List.getElem_cons_zero, List.getElem_cons_succ, List.setIfInBounds_toArray, List.set_cons_zero, List.set_cons_succ]
    refine wpAnyH_take (i := 16) (v := ?_) rfl (by kernel_rfl) (by kernel_rfl) (by kernel_rfl) (fun _ _ _ h => h) (Or.inl ⟨by rfl, ?_⟩) hHeld ?_
    rotate_left
    · (intro w hSw; (try dsimp only at hSw); go_simp; try with_reducible rfl)
    try simp only [Act.put, List.getElem_toArray, List.getElem_cons_zero, List.getElem_cons_succ, List.setIfInBounds_toArray, List.set_cons_zero, List.set_cons_succ]
    refine wpAnyH_done (by kernel_rfl) ?_ _
    go_wp2_with fail
    go_ret
    exact HF.out
  · skip
    go_simp
    refine hK.out _ _ ⟨d0, d2⟩ (fun hHeld => ?_)
    clear hK K
    try simp only [Act.put, List.getElem_toArray, List.getElem_cons_zero, List.getElem_cons_succ, List.setIfInBounds_toArray, List.set_cons_zero, List.set_cons_succ]
    refine wpAnyH_ready (rs := [3]) (by kernel_rfl) (by simp) ?_
    refine AllReadyH.cons rfl (fun K hK => ?_) (AllReadyH.nil)
    go_simp
    refine hK.out _ _ ⟨d0, d2⟩ (fun hHeld => ?_)
    clear hK K
    try simp only [Act.put, List.getElem_toArray, List.getElem_cons_zero, List.getElem_cons_succ, List.setIfInBounds_toArray, List.set_cons_zero, List.set_cons_succ]
    refine wpAnyH_ready (rs := [15]) (by kernel_rfl) (by simp) ?_
    refine AllReadyH.cons rfl (fun K hK => ?_) AllReadyH.nil
    refine step_appm eP _ (by rfl) _ _ (by rfl) base ps (.slice pv ps.length cv) (by rfl) HOW.out hsz6 [skel D a D.size] 1 w.heap.size _ rfl (by omega) (by rfl) HNW.out (by rfl) (by omega) (by unfold maxLen; omega) ?_
    intro g cap w5 hO5 hg5 hl5
    have HF := Lib.hid (FIN.out g cap w5 hO5 hg5)
    have hS5 : w5.cell? ⟨B, 0, none⟩ = some (.string D) ∧ w5.cell? ⟨B, 2, none⟩ = some (.int .i64 (a : Int)) := ⟨(HV.out.past hg5).1, (HV.out.past hg5).2.2.1⟩
    clear hO5 hg5 hl5
    try go_simp
    refine hK.out _ _ hS5 (fun hHeld => ?_)
    clear hK K
    try simp only [Act.put, List.getElem_toArray, List.getElem_cons_zero, List.getElem_cons_succ, List.setIfInBounds_toArray, List.set_cons_zero, List.set_cons_succ]
    refine wpAnyH_take (i := 16) (v := ?_) rfl (by kernel_rfl) (by kernel_rfl) (by kernel_rfl) (fun _ _ _ h => h) (Or.inl ⟨by rfl, ?_⟩) hHeld ?_
    rotate_left
    · (intro w hSw; (try dsimp only at hSw); go_simp; try with_reducible rfl)
    try simp only [Act.put, List.getElem_toArray, List.getElem_cons_zero, List.getElem_cons_succ, List.setIfInBounds_toArray, List.set_cons_zero, List.set_cons_succ]
    refine wpAnyH_done (by kernel_rfl) ?_ _
    go_wp2_with fail
    go_ret
    exact HF.out
end Go.Proofs.YtdbbjhbkhimbfaaGreatDoor
namespace Go.Proofs.YtdbbjhbkhimbfaaGreatDoor
set_option linter.unusedVariables false
open Go.Lib

theorem restD_get (s : ByteArray) (k : Nat) (h : k < s.size) : restD s k = s[k] :: restD s (k + 1) := by unfold restD; exact drop_get s k h
theorem restD_nil (s : ByteArray) (k : Nat) (h : s.size ≤ k) : restD s k = [] := by unfold restD; exact List.drop_of_length_le (by simp; omega)
theorem restD_add (s : ByteArray) (p k : Nat) : (restD s p).drop k = restD s (p + k) := by unfold restD; rw [List.drop_drop]
theorem tw_step {P : UInt8 → Bool} {l : List UInt8} {k : Nat} (h : k < (l.takeWhile P).length) : ∃ h' : k < l.length, P (l[k]'h') = true := by
  induction l generalizing k with
  | nil => cases h
  | cons a t ih =>
    rw [List.takeWhile_cons] at h
    cases ha : P a with
    | false => rw [ha, if_neg (by simp)] at h; cases h
    | true =>
      rw [ha, if_pos rfl] at h
      cases k with
      | zero => exact ⟨by simp, ha⟩
      | succ k =>
        obtain ⟨h1, h2⟩ := ih (k := k) (by simpa using h)
        exact ⟨by simp; omega, by simpa using h2⟩
theorem tw_stop {P : UInt8 → Bool} {l : List UInt8} (h : (l.takeWhile P).length < l.length) : P (l[(l.takeWhile P).length]'h) = false := by
  induction l with
  | nil => cases h
  | cons a t ih =>
    cases ha : P a with
    | false => simp only [List.takeWhile_cons, ha]; simpa using ha
    | true =>
      have e : ((a :: t).takeWhile P).length = (t.takeWhile P).length + 1 := by rw [List.takeWhile_cons, ha, if_pos rfl]; rfl
      have h2 : (t.takeWhile P).length < t.length := by rw [e] at h; simpa using h
      have := ih h2
      simp only [e]
      simpa using this
theorem rest_byte (s : ByteArray) (p k : Nat) (h : k < (restD s p).length) : ∃ h' : p + k < s.size, (restD s p)[k]'h = s[p + k]'h' := by
  have h' : p + k < s.size := by rw [restD_len] at h; omega
  refine ⟨h', ?_⟩
  have h1 : (restD s p)[k]? = some ((restD s p)[k]'h) := List.getElem?_eq_getElem h
  have h2 : (restD s p)[k]? = some (s[p + k]'h') := by
    unfold restD
    rw [List.getElem?_drop]
    have : s.data.toList[p + k]? = some (s[p + k]'h') := by rw [List.getElem?_eq_getElem (by simpa using h')]; simp; rfl
    exact this
  rw [h1] at h2; exact Option.some.inj h2
/-- Blanks at a place, one by one. -/
theorem blank_at (s : ByteArray) (p k : Nat) (h : k < (blanks (restD s p)).length) : ∃ h' : p + k < s.size, blB (s[p + k]'h') = true := by
  obtain ⟨h1, h2⟩ := tw_step (P := blB) (l := restD s p) h
  obtain ⟨h3, h4⟩ := rest_byte s p k h1
  exact ⟨h3, by rw [← h4]; exact h2⟩
theorem blank_end (s : ByteArray) (p : Nat) (h : p + (blanks (restD s p)).length < s.size) : blB (s[p + (blanks (restD s p)).length]'h) = false := by
  have h0 : (blanks (restD s p)).length < (restD s p).length := by rw [restD_len]; omega
  have h1 := tw_stop (P := blB) (l := restD s p) h0
  obtain ⟨h3, h4⟩ := rest_byte s p _ h0
  rw [← h4]; exact h1
theorem blank_le (s : ByteArray) (p : Nat) (hp : p ≤ s.size) : p + (blanks (restD s p)).length ≤ s.size := by
  have := blanks_len (restD s p); rw [restD_len] at this; omega
/-- Is a line skipped? That is seen at its first byte that is no blank. -/
theorem skip_at (s : ByteArray) (p : Nat) (hp : p ≤ s.size) : (s.size ≤ p + (blanks (restD s p)).length → skipL (restD s p) = true) ∧ ∀ h : p + (blanks (restD s p)).length < s.size, skipL (restD s p) = (s[p + (blanks (restD s p)).length]'h == 10 || s[p + (blanks (restD s p)).length]'h == 35) := by
  constructor
  · intro h
    unfold skipL
    rw [restD_add, restD_nil _ _ h]; rfl
  · intro h
    unfold skipL
    rw [restD_add, restD_get _ _ h]; rfl
/-- The line's end behind its blanks is its end. -/
theorem blank_line (s : ByteArray) (p : Nat) : p + (blanks (restD s p)).length + (upto 10 (restD s (p + (blanks (restD s p)).length))).length = p + (upto 10 (restD s p)).length := by
  have h1 : restD s p = blanks (restD s p) ++ restD s (p + (blanks (restD s p)).length) := by
    rw [← restD_add]
    conv => lhs; rw [← List.take_append_drop (blanks (restD s p)).length (restD s p)]
    rw [blanks_take]
  have h2 : ∀ u v : List UInt8, (∀ c ∈ u, blB c = true) → upto 10 (u ++ v) = u ++ upto 10 v := by
    intro u v hu
    induction u with
    | nil => rfl
    | cons a t ih =>
      have ha : a ≠ 10 := fun e => by have := hu a (List.mem_cons_self ..); rw [e] at this; revert this; decide
      rw [List.cons_append, upto_cons _ _ _ ha, ih (fun c hc => hu c (List.mem_cons_of_mem _ hc))]; rfl
  have h3 : (upto 10 (restD s p)).length = (blanks (restD s p)).length + (upto 10 (restD s (p + (blanks (restD s p)).length))).length := by
    conv => lhs; rw [h1, h2 _ _ (blanks_all (restD s p)), List.length_append]
  omega
/-- How far the reference reads a key. -/
def kn (s : List UInt8) : Nat := min 64 (s.takeWhile keyB).length
theorem kn_le (l : List UInt8) : kn l ≤ 64 ∧ kn l ≤ l.length := ⟨Nat.min_le_left _ _, Nat.le_trans (Nat.min_le_right _ _) (List.takeWhile_prefix _).length_le⟩
theorem key_at (s : ByteArray) (p k : Nat) (h : k < kn (restD s p)) : ∃ h' : p + k < s.size, keyB (s[p + k]'h') = true := by
  have h0 : k < ((restD s p).takeWhile keyB).length := Nat.lt_of_lt_of_le h (Nat.min_le_right _ _)
  obtain ⟨h1, h2⟩ := tw_step h0
  obtain ⟨h3, h4⟩ := rest_byte s p k h1
  exact ⟨h3, by rw [← h4]; exact h2⟩
theorem key_end (s : ByteArray) (p : Nat) (h : p + kn (restD s p) < s.size) (h64 : kn (restD s p) < 64) : keyB (s[p + kn (restD s p)]'h) = false := by
  have hk : kn (restD s p) = ((restD s p).takeWhile keyB).length := by unfold kn at h64 ⊢; omega
  have h0 : ((restD s p).takeWhile keyB).length < (restD s p).length := by rw [restD_len]; omega
  have h1 := tw_stop h0
  obtain ⟨h3, h4⟩ := rest_byte s p _ h0
  simp only [hk]
  rw [← h4]; exact h1
theorem key_not : keyB 61 = false := by decide
/-- The line has a key exactly if the sign stands behind what was read. -/
theorem key_yes (l : List UInt8) (h : keyK l = true) : kn l = (upto 61 l).length ∧ 1 ≤ kn l ∧ ∃ h' : kn l < l.length, l[kn l]'h' = 61 := by
  unfold keyK at h
  simp only [Bool.and_eq_true, decide_eq_true_eq] at h
  obtain ⟨⟨⟨h1, h2⟩, h3⟩, h4⟩ := h
  have hs := has_split 61 l h1
  have htw : l.takeWhile keyB = upto 61 l := by
    conv => lhs; rw [hs]
    rw [List.takeWhile_append_of_pos (fun c hc => List.all_eq_true.1 h2 c hc), List.takeWhile_cons, key_not]; simp
  have hk : kn l = (upto 61 l).length := by unfold kn; rw [htw]; omega
  have hlt : (upto 61 l).length < l.length := by unfold hasU at h1; exact of_decide_eq_true h1
  refine ⟨hk, by omega, by omega, ?_⟩
  have h5 : l[(upto 61 l).length]? = some 61 := by
    conv => lhs; rw [hs]
    rw [upto_app 61 (upto 61 l) (aft 61 l) (upto_mem 61 l), List.getElem?_append_right (Nat.le_refl _), Nat.sub_self]; rfl
  simp only [hk]
  rw [List.getElem?_eq_getElem hlt] at h5
  exact Option.some.inj h5
theorem key_of (l : List UInt8) (h1 : 1 ≤ kn l) (h2 : kn l < l.length) (h3 : l[kn l]'h2 = 61) : keyK l = true := by
  have hall : ∀ c ∈ l.take (kn l), keyB c = true := fun c hc => by
    obtain ⟨i, hi, rfl⟩ := List.mem_iff_getElem.1 hc
    rw [List.length_take] at hi
    obtain ⟨h5, h6⟩ := tw_step (P := keyB) (l := l) (k := i) (Nat.lt_of_lt_of_le (by omega : i < kn l) (Nat.min_le_right _ _))
    rw [List.getElem_take]; exact h6
  have hne : ∀ c ∈ l.take (kn l), c ≠ 61 := fun c hc e => by have := hall c hc; rw [e, key_not] at this; cases this
  have hs : l = l.take (kn l) ++ 61 :: l.drop (kn l + 1) := by
    conv => lhs; rw [← List.take_append_drop (kn l) l, List.drop_eq_getElem_cons h2, h3]
  have hu : upto 61 l = l.take (kn l) := by
    conv => lhs; rw [hs]
    exact upto_app 61 _ _ hne
  have hh : hasU 61 l = true := by
    rw [hs]; exact has_app 61 _ _ hne
  unfold keyK
  rw [hh, hu]
  have hl : (l.take (kn l)).length = kn l := by rw [List.length_take]; omega
  rw [hl, List.all_eq_true.2 hall, decide_eq_true h1, decide_eq_true (kn_le l).1]; rfl
end Go.Proofs.YtdbbjhbkhimbfaaGreatDoor
namespace Go.Proofs.YtdbbjhbkhimbfaaGreatDoor
open Go.ChangeShapes Go.WideShapes Go.ChangeAt Go.RowKit
set_option linter.unusedVariables false
set_option linter.unusedSimpArgs false
set_option maxRecDepth 100000

theorem bl_two {c : UInt8} (h : blB c = true) : c = 32 ∨ c = 9 := by
  unfold blB at h; simpa using h
theorem bl_none {c : UInt8} (h : blB c = false) : c ≠ 32 ∧ c ≠ 9 := by
  unfold blB at h; simpa using h
/-- All that a round reads of a line, by place. -/
structure Line (s : ByteArray) (p KB M : Nat) : Prop where
  b1 : ∀ k, p ≤ k → k < KB → ∃ h : k < s.size, s[k] = 32 ∨ s[k] = 9
  b2 : ∀ h : KB < s.size, s[KB] ≠ 32 ∧ s[KB] ≠ 9
  b3 : KB ≤ s.size
  b0 : p ≤ KB
  sk1 : s.size ≤ KB → skipL (restD s p) = true
  sk2 : ∀ h : KB < s.size, skipL (restD s p) = (s[KB] == 10 || s[KB] == 35)
  ln : KB + (upto 10 (restD s KB)).length = p + (upto 10 (restD s p)).length
  ln2 : p + (upto 10 (restD s p)).length ≤ s.size
  k0 : p ≤ M
  k1 : ∀ k, p ≤ k → k < M → ∃ h : k < s.size, keyB s[k] = true
  k2 : M ≤ s.size
  k3 : M ≤ p + 64
  k4 : ∀ h : M < s.size, M < p + 64 → keyB s[M] = false
  ky : keyK (restD s p) = true → p < M ∧ (∃ h : M < s.size, s[M] = 61) ∧ s.extract p M = keyAt s p ∧ rawAt s p = M + 1
  kn : p < M → ∀ h : M < s.size, s[M] = 61 → keyK (restD s p) = true
theorem line_of (s : ByteArray) (p : Nat) (hp : p ≤ s.size) : ∃ KB M, Line s p KB M := by
  have hk := kn_le (restD s p)
  rw [restD_len] at hk
  have hbl := blank_le s p hp
  have hup := upto_le 10 (restD s p)
  rw [restD_len] at hup
  refine ⟨p + (blanks (restD s p)).length, p + Go.Proofs.YtdbbjhbkhimbfaaGreatDoor.kn (restD s p), ?_⟩
  exact {
    b1 := fun k h1 h2 => by
      obtain ⟨h3, h4⟩ := blank_at s p (k - p) (by omega)
      have e : p + (k - p) = k := by omega
      simp only [e] at h3 h4
      exact ⟨h3, bl_two h4⟩
    b2 := fun h => bl_none (blank_end s p h)
    b3 := hbl
    b0 := by omega
    sk1 := (skip_at s p hp).1
    sk2 := (skip_at s p hp).2
    ln := blank_line s p
    ln2 := by omega
    k0 := by omega
    k1 := fun k h1 h2 => by
      obtain ⟨h3, h4⟩ := key_at s p (k - p) (by omega)
      have e : p + (k - p) = k := by omega
      simp only [e] at h3 h4
      exact ⟨h3, h4⟩
    k2 := by omega
    k3 := by omega
    k4 := fun h h2 => key_end s p h (by omega)
    ky := fun h => by
      obtain ⟨e1, e2, e3, e4⟩ := key_yes (restD s p) h
      obtain ⟨e5, e6⟩ := rest_byte s p _ e3
      refine ⟨by omega, ⟨e5, by rw [← e6]; exact e4⟩, ?_, by unfold rawAt; omega⟩
      unfold keyAt
      rw [← bsL_of (s.extract p _)]
      congr 1
      rw [show (s.extract p (p + Go.Proofs.YtdbbjhbkhimbfaaGreatDoor.kn (restD s p))).data.toList = (s.data.toList.drop p).take (p + Go.Proofs.YtdbbjhbkhimbfaaGreatDoor.kn (restD s p) - p) from by simp [ByteArray.extract, ByteArray.copySlice], Nat.add_sub_cancel_left, e1]
      exact upto_take 61 (restD s p)
    kn := fun h1 h2 h3 => by
      have hl : Go.Proofs.YtdbbjhbkhimbfaaGreatDoor.kn (restD s p) < (restD s p).length := by rw [restD_len]; omega
      obtain ⟨e5, e6⟩ := rest_byte s p _ hl
      exact key_of (restD s p) (by omega) hl (by rw [e6]; exact h3) }
theorem raw_bytes (s : ByteArray) (p : Nat) : (s.extract (rawAt s p) (rawAt s p + rawN s p)).data.toList = rawD s p := by
  unfold rawD restD
  rw [show (s.extract (rawAt s p) (rawAt s p + rawN s p)).data.toList = (s.data.toList.drop (rawAt s p)).take (rawAt s p + rawN s p - rawAt s p) from by simp [ByteArray.extract, ByteArray.copySlice]]
  congr 1; omega
end Go.Proofs.YtdbbjhbkhimbfaaGreatDoor
namespace Go.Proofs.YtdbbjhbkhimbfaaGreatDoor
open Go.ChangeShapes Go.WideShapes Go.ChangeAt Go.RowKit
set_option linter.unusedVariables false
set_option linter.unusedSimpArgs false
set_option maxRecDepth 100000

set_option maxHeartbeats 12800000 in
theorem refsplres_any (s : ByteArray) (w : World) (hs : s.size ≤ 65536) : Calls Tryz.prog 24 #[.string s] w (EndS (spl s [] 0 0) w) := by
  obtain ⟨R, hR⟩ : ∃ R, spl s [] 0 0 = R := ⟨_, rfl⟩
  have HR := Lib.hid hR
  rw [hR]; clear hR
  have hl1 := fun p W (hp : p ≤ s.size) => reflineend_line s p W (by omega) hp
  have hl2 := fun p W (hp : p + 1 ≤ s.size) => reflineend_raw s (p + 1) W (by omega) hp
  have hkb := fun c W => refkeybyte_any c W
  have hde := fun (u : ByteArray) W (h : u.size ≤ s.size) => refdecode_any u W (by omega)
  have HL1 := Lib.hid hl1; have HL2 := Lib.hid hl2; have HKB := Lib.hid hkb; have HDE := Lib.hid hde
  have hs0 : (s.size : Int) ≤ 65536 := by omega
  clear hl1 hl2 hkb hde
  go_enter Tryz.func24, Tryz.ntmps24
  go_wp2_with fail
  go_loopw [6] (fun vp wr => ∃ (p a : Nat) (ps : List Pt) (vb : Value), vp = .int .i64 p ∧ p ≤ s.size + 1 ∧ Bu wr w.heap.size s (w.heap.size + 1) ps vb a ∧ Hid (spl s ps a p = R) ∧ a ≤ s.size ∧ a ≤ p ∧ ps.length ≤ 2 * p ∧ Below w.heap.size w wr) (fun vp _ => s.size + 1 - (intOf vp).toNat)
  case atStart => exact ⟨0, 0, [], .slice none 0 0, rfl, by omega, ⟨heap_alloc_new w _, OwnL.nil _ _, by omega⟩, HR, Nat.zero_le _, Nat.le_refl _, Nat.zero_le _, blw (Below.refl _ _) _⟩
  case round =>
    obtain ⟨p, a, ps, vb, rfl, hp, hBu, HD, ha, hap, hfew, hB⟩ := hrel
    have hbw : w.heap.size + 1 ≤ wr.heap.size := (Array.getElem?_eq_some_iff.1 hBu.hh).1
    by_cases hlt : p < s.size
    case neg =>
      have hd := HD.out
      rw [spl_end s ps a p (by omega)] at hd
      have HD2 := Lib.hid hd
      have hnd := refend_any w.heap.size s (w.heap.size + 1) ps vb a wr hBu (by omega) ha (by omega) hbw
      have HND := Lib.hid hnd
      have i2 : ¬ (p : Int) < (s.size : Int) := by omega
      clear hd hnd HD hBu
      go_wp2_with fail
      refine HND.out.mono ?_; rintro e w2 ⟨pe, ce, rfl, x1, x2, x3, x4⟩
      have hB2 := hB.trans (x4 w.heap.size (Nat.le_refl _))
      go_wp2_with fail
      (try simp only [Exit.inBlock, Exit.then])
      go_ret3
      rw [← HD2.out]
      exact ⟨pe, ce, by first | rfl | simp, x1, x2, x3, hB2⟩
    obtain ⟨KB, M, hL⟩ := line_of s p (by omega)
    have i2 : (p : Int) < (s.size : Int) := by omega
    have HL := Lib.hid hL
    have b0 := hL.b0; have b3 := hL.b3; have k0 := hL.k0; have k2 := hL.k2; have k3 := hL.k3
    clear hL
    go_upto_block 2 with fail
    go_cut [7] (fun v w' => v = .int .i64 (KB : Int) ∧ w' = wr)
    case first =>
      go_wp2_with fail
      go_loop [7] (fun i => ∃ k : Nat, p ≤ k ∧ k ≤ KB ∧ i = .int .i64 k) (fun i => KB - (intOf i).toNat)
      case atStart => exact ⟨p, Nat.le_refl _, b0, rfl⟩
      case round =>
        obtain ⟨k, h1, h2, rfl⟩ := hrel
        have i0 : (0 : Int) ≤ (k : Int) := by omega
        by_cases hk : k < KB
        · obtain ⟨h3, h4⟩ := HL.out.b1 k h1 hk
          have i3 : (k : Int) < (s.size : Int) := by omega
          rcases h4 with h4 | h4
          · have q : ((s[k].toNat : Int) == 32) = true := by rw [h4]; rfl
            go_wp2_with fail
            go_round
            case rel => exact ⟨k + 1, by omega, hk, by go_num⟩
            case measure => simp [intOf]; omega
          · have q : ((s[k].toNat : Int) == 32) = false := by rw [h4]; rfl
            have q' : ((s[k].toNat : Int) == 9) = true := by rw [h4]; rfl
            go_wp2_with fail
            go_round
            case rel => exact ⟨k + 1, by omega, hk, by go_num⟩
            case measure => simp [intOf]; omega
        · obtain rfl : k = KB := by omega
          by_cases hks : k < s.size
          · obtain ⟨h4, h5⟩ := HL.out.b2 hks
            have i3 : (k : Int) < (s.size : Int) := by omega
            have q : ((s[k].toNat : Int) == 32) = false := u8_int_ne h4
            have q' : ((s[k].toNat : Int) == 9) = false := u8_int_ne h5
            go_wp2_with fail
            go_meet
            exact ⟨rfl, rfl⟩
          · have i3 : ¬ (k : Int) < (s.size : Int) := by omega
            go_wp2_with fail
            go_meet
            exact ⟨rfl, rfl⟩
    case rest =>
      obtain ⟨rfl, rfl⟩ := hcut
      go_upto_region 7 with fail
      go_cut [55] (fun v w' => v = .bool (skipL (restD s p)) ∧ w' = wc)
      case first =>
        by_cases hks : KB < s.size
        · have hsk := HL.out.sk2 hks
          have i3 : (KB : Int) < (s.size : Int) := by omega
          have i0 : (0 : Int) ≤ (KB : Int) := by omega
          by_cases h10 : s[KB] = 10
          · have q : ((s[KB].toNat : Int) == 10) = true := by rw [h10]; rfl
            have HSK := Lib.hid (show skipL (restD s p) = true by rw [hsk, h10]; rfl)
            clear hsk
            go_wp2_with fail
            go_meet
            exact ⟨by rw [HSK.out], rfl⟩
          · have q : ((s[KB].toNat : Int) == 10) = false := u8_int_ne h10
            by_cases h35 : s[KB] = 35
            · have q' : ((s[KB].toNat : Int) == 35) = true := by rw [h35]; rfl
              have HSK := Lib.hid (show skipL (restD s p) = true by rw [hsk, h35]; rfl)
              clear hsk
              go_wp2_with fail
              go_meet
              exact ⟨by rw [HSK.out], rfl⟩
            · have q' : ((s[KB].toNat : Int) == 35) = false := u8_int_ne h35
              have HSK := Lib.hid (show skipL (restD s p) = false by rw [hsk, beq_eq_false_iff_ne.2 h10, beq_eq_false_iff_ne.2 h35]; rfl)
              clear hsk
              go_wp2_with fail
              go_meet
              exact ⟨by rw [HSK.out]; first | rfl | (congr 1; exact decide_eq_false (by omega)), rfl⟩
        · have HSK := Lib.hid (HL.out.sk1 (by omega))
          have i3 : ¬ (KB : Int) < (s.size : Int) := by omega
          go_wp2_with fail
          go_meet
          exact ⟨by rw [HSK.out], rfl⟩
      case rest =>
        obtain ⟨rfl, rfl⟩ := hcut
        cases hsk : skipL (restD s p) with
        | true =>
          have hd := HD.out
          rw [spl_skip s ps a p hlt hsk] at hd
          have HD2 := Lib.hid hd
          have h1 := fun W => HL1.out KB W b3
          have hln := HL.out.ln; have hln2 := HL.out.ln2
          rw [hln] at h1
          have H1 := Lib.hid h1
          generalize p + (upto 10 (restD s p)).length = E at *
          have hpE : p ≤ E := by omega
          clear hd hsk HD h1 hln
          go_wp2_with fail
          refine (H1.out _).mono ?_; rintro e w2 ⟨rfl, rfl⟩
          go_wp2_with fail
          go_roundw
          case rel => exact ⟨E + 1, a, ps, vb, by go_num, by omega, hBu, HD2, ha, by omega, by omega, hB⟩
          case measure => simp [intOf]; omega
        | false =>
          have HSK := Lib.hid hsk
          clear hsk
          go_upto_block 4 with fail
          go_cut [7] (fun v w' => v = .int .i64 (M : Int) ∧ w' = wc)
          case first =>
            go_wp2_with fail
            go_loop [7] (fun i => ∃ k : Nat, p ≤ k ∧ k ≤ M ∧ i = .int .i64 k) (fun i => M - (intOf i).toNat)
            case atStart => exact ⟨p, Nat.le_refl _, k0, rfl⟩
            case round =>
              obtain ⟨k, h1, h2, rfl⟩ := hrel
              have i0 : (0 : Int) ≤ (k : Int) := by omega
              by_cases hk : k < M
              · obtain ⟨h3, h4⟩ := HL.out.k1 k h1 hk
                have i3 : (k : Int) < (s.size : Int) := by omega
                have i4 : (k : Int) < (p : Int) + 64 := by omega
                have hc := fun W => HKB.out s[k] W
                rw [h4] at hc
                have HC := Lib.hid hc
                clear hc h4
                go_wp2_with fail
                refine (HC.out _).mono ?_; rintro e w2 ⟨rfl, rfl⟩
                go_wp2_with fail
                go_round
                case rel => exact ⟨k + 1, by omega, hk, by go_num⟩
                case measure => simp [intOf]; omega
              · obtain rfl : k = M := by omega
                by_cases hks : k < s.size
                · have i3 : (k : Int) < (s.size : Int) := by omega
                  by_cases h64 : k < p + 64
                  · have i4 : (k : Int) < (p : Int) + 64 := by omega
                    have hc := fun W => HKB.out s[k] W
                    rw [HL.out.k4 hks h64] at hc
                    have HC := Lib.hid hc
                    clear hc
                    go_wp2_with fail
                    refine (HC.out _).mono ?_; rintro e w2 ⟨rfl, rfl⟩
                    go_wp2_with fail
                    go_meet
                    exact ⟨rfl, rfl⟩
                  · have i4 : ¬ (k : Int) < (p : Int) + 64 := by omega
                    go_wp2_with fail
                    go_meet
                    exact ⟨rfl, rfl⟩
                · have i3 : ¬ (k : Int) < (s.size : Int) := by omega
                  go_wp2_with fail
                  go_meet
                  exact ⟨rfl, rfl⟩
          case rest =>
            obtain ⟨rfl, rfl⟩ := hcut
            go_upto_region 12 with fail
            go_cut [93] (fun v w' => v = .bool (!keyK (restD s p)) ∧ w' = wc)
            case first =>
              have hky := HL.out.ky; have hkn := HL.out.kn
              have i0 : (0 : Int) ≤ (M : Int) := by omega
              by_cases hpm : p < M
              · have e1 : ((M : Int) == (p : Int)) = false := by rw [beq_eq_false_iff_ne]; omega
                by_cases hks : M < s.size
                · have i3 : (M : Int) < (s.size : Int) := by omega
                  have i5 : ¬ (s.size : Int) ≤ (M : Int) := by omega
                  by_cases h61 : s[M] = 61
                  · have HK := Lib.hid (hkn hpm hks h61)
                    have q : ((s[M].toNat : Int) == 61) = true := by rw [h61]; rfl
                    have q' : ((s[M].toNat : Int) != 61) = false := by rw [h61]; rfl
                    clear hky hkn
                    go_wp2_with fail
                    go_meet
                    exact ⟨by rw [HK.out]; first | rfl | simp, rfl⟩
                  · have HK := Lib.hid (show keyK (restD s p) = false by
                      cases h : keyK (restD s p)
                      · rfl
                      · obtain ⟨_, ⟨h1, h2⟩, _⟩ := hky h; exact absurd h2 h61)
                    have q : ((s[M].toNat : Int) == 61) = false := u8_int_ne h61
                    have q' : ((s[M].toNat : Int) != 61) = true := by
                      rw [bne, q]; rfl
                    clear hky hkn
                    go_wp2_with fail
                    go_meet
                    exact ⟨by rw [HK.out]; first | rfl | simp, rfl⟩
                · have i3 : ¬ (M : Int) < (s.size : Int) := by omega
                  have i5 : (s.size : Int) ≤ (M : Int) := by omega
                  have HK := Lib.hid (show keyK (restD s p) = false by
                    cases h : keyK (restD s p)
                    · rfl
                    · obtain ⟨_, ⟨h1, _⟩, _⟩ := hky h; exact absurd h1 hks)
                  clear hky hkn
                  go_wp2_with fail
                  go_meet
                  exact ⟨by rw [HK.out]; first | rfl | simp, rfl⟩
              · have e1 : ((M : Int) == (p : Int)) = true := by rw [beq_iff_eq]; omega
                have HK := Lib.hid (show keyK (restD s p) = false by
                  cases h : keyK (restD s p)
                  · rfl
                  · exact absurd (hky h).1 hpm)
                clear hky hkn
                go_wp2_with fail
                go_meet
                exact ⟨by rw [HK.out]; first | rfl | simp, rfl⟩
            case rest =>
              obtain ⟨rfl, rfl⟩ := hcut
              cases hkk : keyK (restD s p) with
              | false =>
                have hd := HD.out
                rw [spl_nokey s ps a p hlt HSK.out hkk] at hd
                have HD2 := Lib.hid hd
                clear hd hkk HD
                go_wp2_with fail
                (try simp only [Exit.inBlock, Exit.then])
                go_ret3
                rw [← HD2.out]
                exact ⟨none, 0, by first | rfl | simp, Nat.le_refl _, Nat.zero_le _, Pts.nil _ _, hB⟩
              | true =>
                obtain ⟨y1, ⟨y2, -⟩, y3, y4⟩ := HL.out.ky hkk
                have HKK := Lib.hid hkk
                have hsu := fun h1 => spl_twice s ps a p hlt HSK.out hkk h1
                have hsb := fun h1 h2 => spl_bad s ps a p hlt HSK.out hkk h1 h2
                have hsn := fun h1 h2 => spl_unit s ps a p hlt HSK.out hkk h1 h2
                have hrb := raw_bytes s p
                have hrn := rawN_le s p
                have hl2 := fun W => HL2.out M W (by omega)
                have hrr : M + 1 + rawL (restD s (M + 1)) = M + 1 + rawN s p := by unfold rawN; rw [y4]
                rw [hrr] at hl2
                rw [y4] at hsb hsn hrb hrn
                have hdat : (dec elR (rawD s p)).2.2.1 ≤ rawN s p := Nat.le_trans (dec_at elR_ok _) (by unfold rawD; rw [List.length_take]; exact Nat.min_le_left _ _)
                have hdec := fun W => HDE.out (s.extract (M + 1) (M + 1 + rawN s p)) W (by simp; omega)
                rw [hrb] at hdec
                have hMN : M + 1 + rawN s p ≤ s.size := by omega
                obtain ⟨pv, cv, rfl, hv1, hv2, hPt⟩ := hBu.own.pts
                have hhk : ∀ W, Pts W pv ps → Calls Tryz.prog 49 #[.slice pv ps.length cv, .string (s.extract p M)] W fun e w' => e = .returned (.bool (hasK ps (keyAt s p))) ∧ W = w' := fun W i => by rw [y3]; exact refhaskey_any pv cv ps (keyAt s p) W i hv1 hv2
                have hun := fun W i hb => refunit_any w.heap.size s (w.heap.size + 1) ps (.slice pv ps.length cv) a (M + 1) (M + 1 + rawN s p) (s.extract p M) W i (by omega) (by omega) (by omega) hMN (by omega) hb
                unfold unitP at hun
                rw [show ((M + 1 : Nat) : Int) = (M : Int) + 1 from by omega] at hl2 hun
                obtain ⟨c0, c1, c2, f0, f1, f2⟩ := hBu.cells
                have hMs : (M : Int) + 1 ≤ (s.size : Int) := by omega
                generalize keyAt s p = K at *
                subst y3
                generalize rawN s p = N at *
                generalize hDD : dec elR (rawD s p) = DD at *
                obtain ⟨F, cs, at0, er⟩ := DD
                clear hDD hrn hrr hrb y4
                unfold EndR7 at hdec
                dsimp only at hdec hsb hsn hdat
                obtain ⟨E, hE⟩ : ∃ E, M + 1 + N = E := ⟨_, rfl⟩
                rw [hE] at hl2 hdec hun hsn hMN
                have hEM : M + 1 ≤ E := by omega
                have hpM : (p : Int) ≤ (M : Int) := by omega
                have hMi : (M : Int) ≤ (s.size : Int) := by omega
                have hEi : (M : Int) + 1 ≤ (E : Int) := by omega
                have hEs : (E : Int) ≤ (s.size : Int) := by omega
                have hat : at0 ≤ s.size := by omega
                have hM0 : (0 : Int) ≤ (M : Int) + 1 := by omega
                have hMt : ((M : Int) + 1).toNat = M + 1 := by omega
                have hEn : M + 1 ≤ E ∧ E ≤ s.size := ⟨hEM, hMN⟩
                have HHK := Lib.hid hhk; have HUN := Lib.hid hun; have HDC := Lib.hid hdec; have HLE := Lib.hid hl2
                clear hhk hun hdec hl2
                cases hh : hasK ps (s.extract p M) with
                | true =>
                  have hd := HD.out
                  rw [hsu hh] at hd
                  have HD2 := Lib.hid hd
                  rw [hh] at HHK
                  clear hd hsu hsb hsn hh HD
                  go_wp2_with fail
                  refine (HHK.out _ hPt).mono ?_; rintro e w2 ⟨rfl, rfl⟩
                  go_wp2_with fail
                  (try simp only [Exit.inBlock, Exit.then])
                  go_ret3
                  rw [← HD2.out]
                  exact ⟨none, 0, by first | rfl | simp, Nat.le_refl _, Nat.zero_le _, Pts.nil _ _, hB⟩
                | false =>
                  rw [hh] at HHK
                  by_cases h0 : er = 0
                  · have hd := HD.out
                    rw [hsn hh h0] at hd
                    have HD2 := Lib.hid hd
                    subst h0
                    clear hd hsu hsb hsn hh HD
                    go_wp2_with fail
                    refine (HHK.out _ hPt).mono ?_; rintro e w2 ⟨rfl, rfl⟩
                    go_wp2_with fail
                    refine (HLE.out _).mono ?_; rintro e w3 ⟨rfl, rfl⟩
                    go_wp2_with fail
                    refine (HDC.out _).mono ?_; rintro e w4 ⟨pf, cf, pc, cc, rfl, -, -, -, -, -, -, hb⟩
                    have hBu4 := hBu.call hb
                    have hB4 := BelowOn hB hb
                    have hsz4 := hb.size
                    clear hBu hb c0 c1 c2 f0 f1 f2 hPt
                    go_wp2_with fail
                    refine (HUN.out _ hBu4 (by omega)).mono ?_; rintro e w5 ⟨rfl, vb', hBu5, hx⟩
                    have hB5 := hB4.trans (hx w.heap.size (Nat.le_refl _))
                    clear hx hBu4 hB4
                    go_wp2_with fail
                    go_roundw
                    case rel => exact ⟨E + 1, E, _, vb', by go_num, by omega, hBu5, HD2, hMN, by omega, by rw [List.length_append]; show ps.length + 2 ≤ _; omega, hB5⟩
                    case measure => simp [intOf]; omega
                  · have hd := HD.out
                    rw [hsb hh h0] at hd
                    have HD2 := Lib.hid hd
                    have q : (er != 0) = true := by simpa using h0
                    have q2 : (er == 0) = false := by simpa using h0
                    clear hd hsu hsb hsn hh HD
                    go_wp2_with fail
                    refine (HHK.out _ hPt).mono ?_; rintro e w2 ⟨rfl, rfl⟩
                    go_wp2_with fail
                    refine (HLE.out _).mono ?_; rintro e w3 ⟨rfl, rfl⟩
                    go_wp2_with fail
                    refine (HDC.out _).mono ?_; rintro e w4 ⟨pf, cf, pc, cc, rfl, -, -, -, -, -, -, hb⟩
                    have hB4 := BelowOn hB hb
                    clear hBu hb c0 c1 c2 f0 f1 f2 hPt hB
                    go_wp2_with fail
                    (try simp only [Exit.inBlock, Exit.then])
                    go_ret3
                    rw [← HD2.out]
                    exact ⟨none, 0, by first | rfl | simp, Nat.le_refl _, Nat.zero_le _, Pts.nil _ _, hB4⟩
end Go.Proofs.YtdbbjhbkhimbfaaGreatDoor
namespace Go.Proofs.YtdbbjhbkhimbfaaGreatDoor
open Go.ChangeShapes Go.WideShapes Go.ChangeAt Go.RowKit
set_option linter.unusedVariables false
set_option linter.unusedSimpArgs false
set_option maxRecDepth 100000

set_option maxHeartbeats 1600000 in
theorem refsplit_any (s : ByteArray) (w : World) (hs : s.size ≤ 999999999999) : Calls Tryz.prog 8 #[.int .i64 2, .string s] w (EndS (splR s) w) := by
  by_cases hbig : 65536 < s.size
  · have hR : splR s = ([], 0, 3) := by unfold splR; rw [if_pos hbig]
    rw [hR]
    have q : (65536 : Int) < (s.size : Int) := by omega
    go_enter Tryz.func8, Tryz.ntmps8
    go_wp2_with fail
    go_ret3
    exact ⟨none, 0, rfl, Nat.le_refl _, Nat.zero_le _, Pts.nil _ _, Below.refl _ _⟩
  · have hR : splR s = spl s [] 0 0 := by unfold splR; rw [if_neg hbig]
    rw [hR]
    have q : ¬ (65536 : Int) < (s.size : Int) := by omega
    have hsp := refsplres_any s w (by omega)
    generalize spl s [] 0 0 = R at *
    obtain ⟨L, q0, er⟩ := R
    have HSP := Lib.hid hsp
    clear hsp hR
    go_enter Tryz.func8, Tryz.ntmps8
    go_wp2_with fail
    refine HSP.out.mono ?_; rintro e w2 ⟨p, c, rfl, x1, x2, x3, x4⟩
    go_wp2_with fail
    go_ret3
    exact ⟨p, c, rfl, x1, x2, x3, x4⟩
end Go.Proofs.YtdbbjhbkhimbfaaGreatDoor
