/- Contracts of the reference's text and slot. Contracts of the reference's sheet (an element of chapter 9). The contracts of the reference's sheet and element. The contract of the reference's Decode at the format of tables. The contract of the law's changed: a string of the same length. The walk of SheetDecodes. The law SheetDecodes holds for every input. -/
import Derived.Test.YteaciofacmbllaaDoorRtU
import Derived.Test.YteaciofacmbllaaDoorRtB
import Derived.Test.YteaciofacmbllaaDoorNxt
import Derived.Lib.ConvBytes
import Derived.Lib.SlBytesRow
import Derived.Lib.UnsafeStr
import Derived.Test.YteaciofacmbllaaDoorSam
import Derived.Test.YteaciofacmbllaaDoorPrt
import Derived.Test.YteaciofacmbllaaDoorRows
import Derived.WalkKit
import Derived.ProofKit
import Derived.OpenShut
import Derived.ChangeOld
import Derived.Below
import Derived.Carry
import Derived.SizedLaws
import Derived.Test.YteaciofacmbllaaDoorCards
import Derived.Test.YteaciofacmbllaaDoorTie
import Derived.Stop.Joined
import Derived.SevenTiedAt
import Derived.Lay
import Derived.MakeChecks
import Derived.Test.YteaciofacmbllaaDoorArf
namespace Go.Proofs.YteaciofacmbllaaDoor
open Go.ChangeShapes Go.WideShapes Go.ChangeAt Go.RowKit
set_option linter.unusedVariables false
set_option linter.unusedSimpArgs false
set_option maxRecDepth 100000

/-- What a reader of elements answers: the item and its length, or nothing and 0. -/
def xv (x : It) : Value := .agg #[.int .i64 x.k, .string x.t, .int .i64 x.id]
theorem rconv_byte2 (w : World) (c : UInt8) (o : Obj) (B : Nat) (h : (w.alloc o).heap.size = B) : (convert 22 9 (.slice (some ⟨B, 0, none⟩) 1 1)).run Tryd.prog ((w.alloc o).alloc (.cells #[.int .u8 (c.toNat : Int)] 5)) = .ok (.string ⟨#[c]⟩) ((w.alloc o).alloc (.cells #[.int .u8 (c.toNat : Int)] 5)) := by
  subst h; exact rconv_byte (w.alloc o) c
/-- A reader of elements answers an item and its length. -/
def EndX (P : It → Nat → Prop) (w : World) (e : Ending) (w' : World) : Prop := ∃ (x : It) (n : Nat), e = .returned (.tuple #[.agg #[.int .i64 x.k, .string x.t, .int .i64 x.id], .int .i64 n]) ∧ P x n ∧ Below w.heap.size w w'
def OptOk (o : Option (It × Nat)) (x : It) (n : Nat) : Prop := match o with | some y => x = y.1 ∧ n = y.2 | none => x = zI ∧ n = 0
theorem upto_get (c : UInt8) (r : List UInt8) (h : (upto c r).length < r.length) : r[(upto c r).length]'h = c := by
  induction r with
  | nil => simp at h
  | cons y t ih =>
    by_cases hy : y = c
    · subst hy
      have : upto y (y :: t) = [] := by unfold upto; simp
      simp only [this]; rfl
    · have hyc : (y != c) = true := by simpa using hy
      have e : upto c (y :: t) = y :: upto c t := by unfold upto; rw [List.takeWhile_cons, hyc, if_pos rfl]
      simp only [e, List.length_cons] at h ⊢
      simp only [List.getElem_cons_succ]
      exact ih (by omega)
theorem slot_at (r : List UInt8) (k : Nat) (hk : k < r.length) : (r[k] = 125 ∧ isNm (bsL (r.take k)) = true) ↔ (hasU 125 r = true ∧ k = (upto 125 r).length ∧ isNm (bsL (upto 125 r)) = true) := by
  constructor
  · rintro ⟨h1, h2⟩
    have hb : ∀ x ∈ r.take k, x ≠ 125 := fun x hx e => by
      have := nm_mem h2 (c := x) (by rw [bsL_list]; exact hx)
      rw [e] at this; exact absurd this (by decide)
    have e : r.take k ++ 125 :: r.drop (k + 1) = r := by
      have := List.take_append_drop k r
      rw [List.drop_eq_getElem_cons hk, h1] at this
      exact this
    have e2 : upto 125 r = r.take k := by rw [← e]; rw [upto_app _ _ _ hb]; rw [e]
    refine ⟨?_, ?_, by rw [e2]; exact h2⟩
    · unfold hasU; rw [e2]; simp; omega
    · rw [e2]; simp; omega
  · rintro ⟨h1, h2, h3⟩
    unfold hasU at h1
    have h1 := of_decide_eq_true h1
    subst h2
    exact ⟨upto_get 125 r h1, by rw [upto_take]; exact h3⟩
theorem byte_rest {s : ByteArray} {a : UInt8} {r : List UInt8} (hl : s.data.toList = a :: r) (k : Nat) (h1 : 1 ≤ k) (hk : k < s.size) : ∃ h : k - 1 < r.length, s[k] = r[k - 1] := by
  have hsz : s.data.toList.length = s.size := by simp
  have hrl : r.length + 1 = s.size := by rw [← hsz, hl]; simp
  refine ⟨by omega, ?_⟩
  have e : s.data.toList[k]'(by rw [hsz]; exact hk) = r[k - 1]'(by omega) := by
    simp only [hl]
    obtain ⟨j, rfl⟩ : ∃ j, k = j + 1 := ⟨k - 1, by omega⟩
    rfl
  rw [← e]; simp; rfl
theorem cut_rest {s : ByteArray} {a : UInt8} {r : List UInt8} (hl : s.data.toList = a :: r) (k : Nat) (h1 : 1 ≤ k) : s.extract 1 k = bsL (r.take (k - 1)) := by
  have e : (s.extract 1 k).data.toList = (s.data.toList.drop 1).take (k - 1) := by simp [ByteArray.extract, ByteArray.copySlice]
  rw [← bsL_of (s.extract 1 k), e, hl]; rfl
/-- What the slot's loop looks for. -/
def SlP (r : List UInt8) (k : Nat) : Prop := ∃ h : k - 1 < r.length, r[k - 1] = 125 ∧ isNm (bsL (r.take (k - 1))) = true
theorem slp_yes {r : List UInt8} {k : Nat} (h1 : 1 ≤ k) (h : SlP r k) : rdSlot r = some (⟨5, bsL (r.take (k - 1)), 0⟩, k + 1) := by
  obtain ⟨hk, h2⟩ := h
  obtain ⟨a, b, c⟩ := (slot_at r (k - 1) hk).1 h2
  have e : upto 125 r = r.take (k - 1) := by rw [b]; exact (upto_take 125 r).symm
  unfold rdSlot
  rw [if_pos ⟨a, c⟩, ← b, e, show k - 1 + 2 = k + 1 by omega]
theorem slp_no {r : List UInt8} {k : Nat} (hk : r.length + 1 ≤ k ∨ k = 26) (h : ∀ j, 1 ≤ j → j < k → ¬ SlP r j) : rdSlot r = none := by
  unfold rdSlot
  split
  · rename_i hc
    exfalso
    obtain ⟨h1, h2⟩ := hc
    have hlt : (upto 125 r).length < r.length := of_decide_eq_true h1
    have hs : (bsL (upto 125 r)).size ≤ 24 := (isNm_bytes _ h2).2.1
    rw [bsL_size] at hs
    refine h ((upto 125 r).length + 1) (by omega) (by omega) ⟨by simpa using hlt, ?_⟩
    have := (slot_at r (upto 125 r).length hlt).2 ⟨h1, rfl, h2⟩
    simpa using this
  · rfl
theorem slp_break {r : List UInt8} {k : Nat} (h1 : 1 ≤ k) (hk : k - 1 < r.length) (hc : r[k - 1]'hk = 125) (hj : ∀ j (h : j - 1 < r.length), 1 ≤ j → j < k → r[j - 1]'h ≠ 125) (hn : isNm (bsL (r.take (k - 1))) = false) : rdSlot r = none := by
  have e : r = r.take (k - 1) ++ 125 :: r.drop k := by
    have h2 := List.drop_eq_getElem_cons hk
    rw [hc, show k - 1 + 1 = k by omega] at h2
    rw [← h2, List.take_append_drop]
  have hu : upto 125 r = r.take (k - 1) := by
    have := upto_app 125 (r.take (k - 1)) (r.drop k) (fun x hx => by
      obtain ⟨i, hi, rfl⟩ := List.mem_iff_getElem.1 hx
      rw [List.length_take] at hi
      rw [List.getElem_take]
      have := hj (i + 1) (by simp; omega) (by omega) (by omega)
      simpa using this)
    rw [← e] at this; exact this
  unfold rdSlot
  rw [hu, if_neg (fun h => by rw [hn] at h; cases h.2)]
set_option maxHeartbeats 3200000 in
theorem refslot_any (s : ByteArray) (r : List UInt8) (w : World) (hl : s.data.toList = 123 :: r) (hs : s.size ≤ 1000000000000) :
    Calls Tryd.prog 104 #[.string s] w (EndX (OptOk (rdSlot r)) w) := by
  have hsz : s.data.toList.length = s.size := by simp
  have hrl : r.length + 1 = s.size := by rw [← hsz, hl]; simp
  have hpos : 0 < s.size := by omega
  have hb := fun k h1 hk => byte_rest hl k h1 hk
  have hc := fun k h1 => cut_rest hl k h1
  have hyes := fun k (h1 : 1 ≤ k) (h : SlP r k) => slp_yes h1 h
  have hno := fun k (hk : r.length + 1 ≤ k ∨ k = 26) h => slp_no hk h
  have hnm := fun (u : ByteArray) W (h : u.size ≤ maxLen) => risname_any u W h
  generalize hgo : rdSlot r = o at *
  have HGO := Lib.hid hgo; clear hgo
  have HB := Lib.hid hb; have HC := Lib.hid hc; have HYES := Lib.hid hyes; have HNO := Lib.hid hno; have HN := Lib.hid hnm
  have hZ := zV.new w
  have hBa := blw (Below.refl w.heap.size w) (.cells #[.int .i64 0, .string ByteArray.empty, .int .i64 0] 58)
  clear hb hc hyes hno hnm hl
  go_enter Tryd.func104, Tryd.ntmps104
  go_wp2_with fail
  go_loopw [4] (fun i wr => ∃ k : Nat, 1 ≤ k ∧ k ≤ s.size ∧ k ≤ 26 ∧ i = .int .i64 k ∧ Hid (∀ j (h : j - 1 < r.length), 1 ≤ j → j < k → r[j - 1]'h ≠ 125) ∧ zV wr w.heap.size ∧ Below w.heap.size w wr) (fun i _ => 26 - (intOf i).toNat)
  case atStart => exact ⟨1, by omega, by omega, by omega, rfl, Lib.hid (fun j _ h1 h2 => absurd h2 (by omega)), hZ, hBa⟩
  case round =>
    obtain ⟨k, hk1, hks, hk, rfl, HJ, hV, hB⟩ := hrel
    by_cases hend : k = s.size ∨ k = 26
    · have ho := HNO.out k (by omega) (fun j h1 h2 ⟨h, e, _⟩ => HJ.out j h h1 h2 e)
      have HT : Hid (OptOk o zI 0) := Lib.hid (by rw [ho]; exact ⟨rfl, rfl⟩)
      clear ho
      obtain ⟨v0, v1, v2, v3, v4, v5⟩ := cells_item hV
      rcases hend with hend | hend
      · have qq : (s.size : Int) ≤ (k : Int) := by omega
        go_wp2_with fail
        have hWz := heap_set3 (a' := .int .i64 0) (b' := .string ⟨#[]⟩) (c' := .int .i64 0) hV
        have hBz := ((hB.setCell (p := ⟨w.heap.size, 0, none⟩) (Nat.le_refl _) (.int .i64 0)).setCell (p := ⟨w.heap.size, 1, none⟩) (Nat.le_refl _) (.string ⟨#[]⟩)).setCell (p := ⟨w.heap.size, 2, none⟩) (Nat.le_refl _) (.int .i64 0)
        generalize (((wr.setCell ⟨w.heap.size, 0, none⟩ (.int .i64 0)).setCell ⟨w.heap.size, 1, none⟩ (.string ⟨#[]⟩)).setCell ⟨w.heap.size, 2, none⟩ (.int .i64 0)) = wz at *
        obtain ⟨z0, z1, z2, _⟩ := cells_item hWz
        (try simp only [Exit.inBlock, Exit.then])
        refine bodyPost_ret (v := .tuple #[.agg #[.int .i64 0, .string ⟨#[]⟩, .int .i64 0], .int .i64 0]) (by simp [results, Tryd.results104, go_sem, z0, z1, z2]; try rfl) rfl ⟨⟨0, ⟨#[]⟩, 0⟩, _, rfl, HT.out, hBz⟩
      · subst hend
        go_wp2_with fail
        all_goals (have hX := hV)
        all_goals (have hWz := heap_set3 (a' := .int .i64 0) (b' := .string ⟨#[]⟩) (c' := .int .i64 0) hV)
        all_goals (have hBz := ((hB.setCell (p := ⟨w.heap.size, 0, none⟩) (Nat.le_refl _) (.int .i64 0)).setCell (p := ⟨w.heap.size, 1, none⟩) (Nat.le_refl _) (.string ⟨#[]⟩)).setCell (p := ⟨w.heap.size, 2, none⟩) (Nat.le_refl _) (.int .i64 0))
        all_goals (generalize (((wr.setCell ⟨w.heap.size, 0, none⟩ (.int .i64 0)).setCell ⟨w.heap.size, 1, none⟩ (.string ⟨#[]⟩)).setCell ⟨w.heap.size, 2, none⟩ (.int .i64 0)) = wz at *)
        all_goals (obtain ⟨z0, z1, z2, _⟩ := cells_item hWz)
        all_goals ((try simp only [Exit.inBlock, Exit.then]))
        all_goals (refine bodyPost_ret (v := .tuple #[.agg #[.int .i64 0, .string ⟨#[]⟩, .int .i64 0], .int .i64 0]) (by simp [results, Tryd.results104, go_sem, z0, z1, z2]; try rfl) rfl ⟨⟨0, ⟨#[]⟩, 0⟩, _, rfl, HT.out, hBz⟩)
    · have hlt : k < s.size := by omega
      have h25 : k ≤ 25 := by omega
      have i0 : (0 : Int) ≤ (k : Int) := by omega
      have i1 : (1 : Int) ≤ (k : Int) := by omega
      have i2 : (k : Int) < (s.size : Int) := by omega
      have i3 : (k : Int) ≤ (s.size : Int) := by omega
      obtain ⟨hkr, hsk⟩ := HB.out k hk1 hlt
      have hcut := HC.out k hk1
      have hstep : r[k - 1] ≠ 125 → Hid (∀ j (h : j - 1 < r.length), 1 ≤ j → j < k + 1 → r[j - 1]'h ≠ 125) := fun hn => Lib.hid fun j h h1 h2 => by
        by_cases e : j = k
        · subst e; exact hn
        · exact HJ.out j h h1 (by omega)
      by_cases hc : r[k - 1] = 125
      · have q : ((s[k].toNat : Int) == 125) = true := by rw [hsk, hc]; rfl
        have hn := fun W => HN.out (s.extract 1 k) W (by unfold maxLen; simp; omega)
        cases hB0 : isNm (s.extract 1 k)
        · rw [hB0] at hn
          have ho := slp_break hk1 hkr hc HJ.out (by rw [← hcut]; exact hB0)
          have HT : Hid (OptOk o zI 0) := Lib.hid (by rw [← HGO.out, ho]; exact ⟨rfl, rfl⟩)
          have HN2 := Lib.hid hn
          clear hn hB0 hstep hcut hsk ho
          obtain ⟨v0, v1, v2, v3, v4, v5⟩ := cells_item hV
          go_wp2_with fail
          refine (HN2.out _).mono ?_; rintro e w1 ⟨rfl, rfl⟩
          go_wp2_with fail
          have hWz := heap_set3 (a' := .int .i64 0) (b' := .string ⟨#[]⟩) (c' := .int .i64 0) hV
          have hBz := ((hB.setCell (p := ⟨w.heap.size, 0, none⟩) (Nat.le_refl _) (.int .i64 0)).setCell (p := ⟨w.heap.size, 1, none⟩) (Nat.le_refl _) (.string ⟨#[]⟩)).setCell (p := ⟨w.heap.size, 2, none⟩) (Nat.le_refl _) (.int .i64 0)
          generalize (((wr.setCell ⟨w.heap.size, 0, none⟩ (.int .i64 0)).setCell ⟨w.heap.size, 1, none⟩ (.string ⟨#[]⟩)).setCell ⟨w.heap.size, 2, none⟩ (.int .i64 0)) = wz at *
          obtain ⟨z0, z1, z2, _⟩ := cells_item hWz
          (try simp only [Exit.inBlock, Exit.then])
          refine bodyPost_ret (v := .tuple #[.agg #[.int .i64 0, .string ⟨#[]⟩, .int .i64 0], .int .i64 0]) (by simp [results, Tryd.results104, go_sem, z0, z1, z2]; try rfl) rfl ⟨⟨0, ⟨#[]⟩, 0⟩, _, rfl, HT.out, hBz⟩
        · rw [hB0] at hn
          have ho := HYES.out k hk1 ⟨hkr, hc, by rw [← hcut]; exact hB0⟩
          rw [← hcut] at ho
          have HT : Hid (OptOk o ⟨5, s.extract 1 k, 0⟩ (k + 1)) := Lib.hid (by rw [ho]; exact ⟨rfl, rfl⟩)
          have HN2 := Lib.hid hn
          clear hn hB0 hstep hcut hsk ho
          go_wp2_with fail
          refine (HN2.out _).mono ?_; rintro e w1 ⟨rfl, rfl⟩
          obtain ⟨v0, v1, v2, v3, v4, v5⟩ := cells_item hV
          go_wp2_with fail
          have hWz := heap_set3 (a' := .int .i64 5) (b' := .string (s.extract 1 k)) (c' := .int .i64 0) hV
          have hBz := ((hB.setCell (p := ⟨w.heap.size, 0, none⟩) (Nat.le_refl _) (.int .i64 5)).setCell (p := ⟨w.heap.size, 1, none⟩) (Nat.le_refl _) (.string (s.extract 1 k))).setCell (p := ⟨w.heap.size, 2, none⟩) (Nat.le_refl _) (.int .i64 0)
          generalize (((wr.setCell ⟨w.heap.size, 0, none⟩ (.int .i64 5)).setCell ⟨w.heap.size, 1, none⟩ (.string (s.extract 1 k))).setCell ⟨w.heap.size, 2, none⟩ (.int .i64 0)) = wz at *
          obtain ⟨z0, z1, z2, _⟩ := cells_item hWz
          (try simp only [Exit.inBlock, Exit.then])
          refine bodyPost_ret (v := .tuple #[.agg #[.int .i64 5, .string (s.extract 1 k), .int .i64 0], .int .i64 ((k + 1 : Nat) : Int)]) (by simp [results, Tryd.results104, go_sem, z0, z1, z2]; try rfl) rfl ⟨⟨5, (s.extract 1 k), 0⟩, _, rfl, HT.out, hBz⟩
      · have q : ((s[k].toNat : Int) == 125) = false := by rw [hsk]; exact u8_int_ne hc
        have HZ := hstep hc
        clear hstep hcut hsk
        go_wp2_with fail
        go_roundw
        case rel => exact ⟨k + 1, by omega, hlt, by omega, by go_num, HZ, hV, hB⟩
        case measure => simp [intOf]; omega
set_option maxHeartbeats 1600000 in
theorem reftext_any (c : UInt8) (w : World) : Calls Tryd.prog 103 #[.int .u8 (c.toNat : Int)] w fun e w' => e = .returned (xv (bT c)) ∧ Below w.heap.size w w' := by
  have b0 : (0 : Int) ≤ (c.toNat : Int) := by omega
  have b1 : (c.toNat : Int) ≤ 255 := by have := c.toNat_lt; omega
  have hcv := rconv_byte2 w c (.cells #[.int .i64 0, .string ⟨#[]⟩, .int .i64 0] 58) (w.heap.size + 1) (by simp)
  go_enter Tryd.func103, Tryd.ntmps103
  go_wp2_with fail
  have hW := heap_set3 (a' := .int .i64 1) (b' := .string ⟨#[c]⟩) (c' := .int .i64 0) (heap_alloc_new w (.cells #[.int .i64 0, .string ByteArray.empty, .int .i64 0] 58))
  have hN := heap_alloc_new w (.cells #[.int .i64 1, .string ⟨#[c]⟩, .int .i64 0] 58)
  have hN2 := (Lib.alloc_old (w.alloc (.cells #[.int .i64 1, .string ⟨#[c]⟩, .int .i64 0] 58)) (.cells #[.int .u8 (c.toNat : Int)] 5) w.heap.size (by simp)).trans hN
  obtain ⟨z0, z1, z2, _⟩ := cells_item hN2
  (try simp only [Exit.inBlock, Exit.then])
  refine bodyPost_ret (v := .agg #[.int .i64 1, .string ⟨#[c]⟩, .int .i64 0]) (by simp [results, Tryd.results103, go_sem, z0, z1, z2]; try rfl) rfl ⟨rfl, blw (blw (Below.refl _ _) _) _⟩
end Go.Proofs.YteaciofacmbllaaDoor
namespace Go.Proofs.YteaciofacmbllaaDoor
open Go.ChangeShapes Go.WideShapes Go.ChangeAt Go.RowKit
set_option linter.unusedVariables false
set_option linter.unusedSimpArgs false
set_option maxRecDepth 100000

/-- What an element's reader answers: an item, a continuation (no item), or nothing. -/
def ElX (o : Option (Option It × Nat)) (x : It) (n : Nat) : Prop := match o with | none => x = zI ∧ n = 0 | some (none, k) => x = zI ∧ n = k | some (some y, k) => x = y ∧ n = k
theorem first_byte {s : ByteArray} {c : UInt8} {r : List UInt8} (hl : s.data.toList = c :: r) : ∃ h : 0 < s.size, s[0]'h = c := by
  have hsz : s.data.toList.length = s.size := by simp
  have hp : 0 < s.size := by rw [← hsz, hl]; simp
  refine ⟨hp, ?_⟩
  have : s.data.toList[0]'(by rw [hsz]; exact hp) = c := by simp only [hl]; rfl
  rw [← this]; simp; rfl
theorem begins_any (s : ByteArray) (a b : UInt8) (w : World) (hs : s.size ≤ 1000000000000) :
    Calls Tryd.prog 63 #[.string s, .string ⟨#[a, b]⟩] w fun e w' => e = .returned (.bool (twoB a b s.data.toList)) ∧ w = w' := by
  by_cases h2 : 2 ≤ s.size
  · have hl : s.data.toList.length = s.size := by simp
    obtain ⟨c, d, t, hl2⟩ : ∃ c d t, s.data.toList = c :: d :: t := by
      cases h : s.data.toList with
      | nil => rw [h] at hl; simp at hl; omega
      | cons c r =>
        cases r with
        | nil => rw [h] at hl; simp at hl; omega
        | cons d t => exact ⟨c, d, t, rfl⟩
    have he : (s.extract 0 2).toList = [c, d] := by
      rw [Go.ByteArray.toList_eq, show (s.extract 0 2).data.toList = (s.data.toList.drop 0).take (2 - 0) from by simp [ByteArray.extract, ByteArray.copySlice], hl2]; rfl
    have hb : (⟨#[a, b]⟩ : ByteArray).toList = [a, b] := by rw [Go.ByteArray.toList_eq]
    have hr : twoB a b s.data.toList = decide (c = a ∧ d = b) := by
      rw [hl2]; unfold twoB; simp [Bool.decide_and]
    have H2 : (2 : Int) ≤ (s.size : Int) := by omega
    rw [hr]
    have HE := Lib.hid he
    clear hr he hb hl2 hl
    go_enter Tryd.func63, Tryd.ntmps63
    go_wp2
    all_goals go_ret
    all_goals exact ⟨ret_bool (by rw [HE.out, Bool.eq_iff_iff]; simp), rfl⟩
  · have hr : twoB a b s.data.toList = false := by
      unfold twoB
      have hl : s.data.toList.length = s.size := by simp
      cases h : s.data.toList with
      | nil => simp
      | cons c r =>
        cases r with
        | nil => simp
        | cons d t => rw [h] at hl; simp at hl; omega
    have H2 : ¬ (2 : Int) ≤ (s.size : Int) := by omega
    rw [hr]
    clear hr
    go_enter Tryd.func63, Tryd.ntmps63
    go_wp2
    all_goals go_ret
    all_goals exact ⟨rfl, rfl⟩
theorem txt34 (w : World) : Calls Tryd.prog 103 #[.int .u8 34] w fun e w' => e = .returned (.agg #[.int .i64 1, .string ⟨#[34]⟩, .int .i64 0]) ∧ Below w.heap.size w w' := reftext_any 34 w
theorem txt123 (w : World) : Calls Tryd.prog 103 #[.int .u8 123] w fun e w' => e = .returned (.agg #[.int .i64 1, .string ⟨#[123]⟩, .int .i64 0]) ∧ Below w.heap.size w w' := reftext_any 123 w
set_option maxHeartbeats 3200000 in
theorem refel_text (s : ByteArray) (c : UInt8) (r : List UInt8) (w : World) (hl : s.data.toList = c :: r) (h1 : c ≠ 34) (h2 : c ≠ 123) (hs : s.size ≤ 1000000000000) :
    Calls Tryd.prog 84 #[.string s] w (EndX (ElX (elS s.data.toList)) w) := by
  obtain ⟨hp, h0⟩ := first_byte hl
  have q34 : (((s[0]'hp).toNat : Int) == 34) = false := by rw [h0]; exact u8_int_ne h1
  have q123 : (((s[0]'hp).toNat : Int) == 123) = false := by rw [h0]; exact u8_int_ne h2
  have HT : Hid (ElX (elS s.data.toList) (bT c) 1) := Lib.hid (by rw [hl, elS_text c r h1 h2]; exact ⟨rfl, rfl⟩)
  have ht := fun W => reftext_any (s[0]'hp) W
  rw [h0] at ht
  unfold xv at ht
  dsimp only [bT] at ht
  have HX := Lib.hid ht
  have hsc : ((s[0]'hp).toNat : Int) = (c.toNat : Int) := by rw [h0]
  have HSC := Lib.hid hsc
  have hZ := zV.new w
  have hBa := blw (Below.refl w.heap.size w) (.cells #[.int .i64 0, .string ByteArray.empty, .int .i64 0] 58)
  clear hl h0 ht h1 h2 hsc
  go_enter Tryd.func84, Tryd.ntmps84
  go_wp2_with fail
  rw [HSC.out]
  refine (HX.out _).mono ?_; rintro e w2 ⟨rfl, hb⟩
  have hV := hZ.call hb
  have hB := BelowOn hBa hb
  obtain ⟨v0, v1, v2, v3, v4, v5⟩ := cells_item hV
  go_wp2_with fail
  have hWz := heap_set3 (a' := .int .i64 1) (b' := .string ⟨#[c]⟩) (c' := .int .i64 0) hV
  have hBz := ((hB.setCell (p := ⟨w.heap.size, 0, none⟩) (Nat.le_refl _) (.int .i64 1)).setCell (p := ⟨w.heap.size, 1, none⟩) (Nat.le_refl _) (.string ⟨#[c]⟩)).setCell (p := ⟨w.heap.size, 2, none⟩) (Nat.le_refl _) (.int .i64 0)
  generalize (((w2.setCell ⟨w.heap.size, 0, none⟩ (.int .i64 1)).setCell ⟨w.heap.size, 1, none⟩ (.string ⟨#[c]⟩)).setCell ⟨w.heap.size, 2, none⟩ (.int .i64 0)) = wz at *
  obtain ⟨z0, z1, z2, _⟩ := cells_item hWz
  (try simp only [Exit.inBlock, Exit.then])
  refine bodyPost_ret (v := .tuple #[.agg #[.int .i64 1, .string ⟨#[c]⟩, .int .i64 0], .int .i64 1]) (by simp [results, Tryd.results84, go_sem, z0, z1, z2]; try rfl) rfl ⟨⟨1, ⟨#[c]⟩, 0⟩, 1, rfl, HT.out, hBz⟩
set_option maxHeartbeats 3200000 in
theorem refel_two34 (s : ByteArray) (r : List UInt8) (w : World) (hl : s.data.toList = 34 :: 34 :: r) (hs : s.size ≤ 1000000000000) :
    Calls Tryd.prog 84 #[.string s] w (EndX (ElX (elS s.data.toList)) w) := by
  obtain ⟨hp, h0⟩ := first_byte hl
  have q34 : (((s[0]'hp).toNat : Int) == 34) = true := by rw [h0]; rfl
  have HT : Hid (ElX (elS s.data.toList) (bT 34) 2) := Lib.hid (by rw [hl, elS_34]; exact ⟨rfl, rfl⟩)
  have hbg := fun W => begins_any s 34 34 W hs
  rw [show twoB 34 34 s.data.toList = true from by rw [hl]; exact twoB_yes 34 34 _ rfl] at hbg
  have HB := Lib.hid hbg
  have hZ := zV.new w
  have hBa := blw (Below.refl w.heap.size w) (.cells #[.int .i64 0, .string ByteArray.empty, .int .i64 0] 58)
  clear hl h0 hbg
  go_enter Tryd.func84, Tryd.ntmps84
  go_wp2_with fail
  refine (HB.out _).mono ?_; rintro e w1 ⟨rfl, rfl⟩
  go_wp2_with fail
  refine (txt34 _).mono ?_; rintro e w2 ⟨rfl, hb⟩
  have hV := hZ.call hb
  have hB := BelowOn hBa hb
  obtain ⟨v0, v1, v2, v3, v4, v5⟩ := cells_item hV
  go_wp2_with fail
  have hWz := heap_set3 (a' := .int .i64 1) (b' := .string ⟨#[34]⟩) (c' := .int .i64 0) hV
  have hBz := ((hB.setCell (p := ⟨w.heap.size, 0, none⟩) (Nat.le_refl _) (.int .i64 1)).setCell (p := ⟨w.heap.size, 1, none⟩) (Nat.le_refl _) (.string ⟨#[34]⟩)).setCell (p := ⟨w.heap.size, 2, none⟩) (Nat.le_refl _) (.int .i64 0)
  generalize (((w2.setCell ⟨w.heap.size, 0, none⟩ (.int .i64 1)).setCell ⟨w.heap.size, 1, none⟩ (.string ⟨#[34]⟩)).setCell ⟨w.heap.size, 2, none⟩ (.int .i64 0)) = wz at *
  obtain ⟨z0, z1, z2, _⟩ := cells_item hWz
  (try simp only [Exit.inBlock, Exit.then])
  refine bodyPost_ret (v := .tuple #[.agg #[.int .i64 1, .string ⟨#[34]⟩, .int .i64 0], .int .i64 2]) (by simp [results, Tryd.results84, go_sem, z0, z1, z2]; try rfl) rfl ⟨⟨1, ⟨#[34]⟩, 0⟩, 2, rfl, HT.out, hBz⟩
set_option maxHeartbeats 3200000 in
theorem refel_two123 (s : ByteArray) (r : List UInt8) (w : World) (hl : s.data.toList = 123 :: 123 :: r) (hs : s.size ≤ 1000000000000) :
    Calls Tryd.prog 84 #[.string s] w (EndX (ElX (elS s.data.toList)) w) := by
  obtain ⟨hp, h0⟩ := first_byte hl
  have q34 : (((s[0]'hp).toNat : Int) == 34) = false := by rw [h0]; rfl
  have q123 : (((s[0]'hp).toNat : Int) == 123) = true := by rw [h0]; rfl
  have HT : Hid (ElX (elS s.data.toList) (bT 123) 2) := Lib.hid (by rw [hl, elS_123]; exact ⟨rfl, rfl⟩)
  have hbg := fun W => begins_any s 123 123 W hs
  rw [show twoB 123 123 s.data.toList = true from by rw [hl]; exact twoB_yes 123 123 _ rfl] at hbg
  have HB := Lib.hid hbg
  have hZ := zV.new w
  have hBa := blw (Below.refl w.heap.size w) (.cells #[.int .i64 0, .string ByteArray.empty, .int .i64 0] 58)
  clear hl h0 hbg
  go_enter Tryd.func84, Tryd.ntmps84
  go_wp2_with fail
  refine (HB.out _).mono ?_; rintro e w1 ⟨rfl, rfl⟩
  go_wp2_with fail
  refine (txt123 _).mono ?_; rintro e w2 ⟨rfl, hb⟩
  have hV := hZ.call hb
  have hB := BelowOn hBa hb
  obtain ⟨v0, v1, v2, v3, v4, v5⟩ := cells_item hV
  go_wp2_with fail
  have hWz := heap_set3 (a' := .int .i64 1) (b' := .string ⟨#[123]⟩) (c' := .int .i64 0) hV
  have hBz := ((hB.setCell (p := ⟨w.heap.size, 0, none⟩) (Nat.le_refl _) (.int .i64 1)).setCell (p := ⟨w.heap.size, 1, none⟩) (Nat.le_refl _) (.string ⟨#[123]⟩)).setCell (p := ⟨w.heap.size, 2, none⟩) (Nat.le_refl _) (.int .i64 0)
  generalize (((w2.setCell ⟨w.heap.size, 0, none⟩ (.int .i64 1)).setCell ⟨w.heap.size, 1, none⟩ (.string ⟨#[123]⟩)).setCell ⟨w.heap.size, 2, none⟩ (.int .i64 0)) = wz at *
  obtain ⟨z0, z1, z2, _⟩ := cells_item hWz
  (try simp only [Exit.inBlock, Exit.then])
  refine bodyPost_ret (v := .tuple #[.agg #[.int .i64 1, .string ⟨#[123]⟩, .int .i64 0], .int .i64 2]) (by simp [results, Tryd.results84, go_sem, z0, z1, z2]; try rfl) rfl ⟨⟨1, ⟨#[123]⟩, 0⟩, 2, rfl, HT.out, hBz⟩
set_option maxHeartbeats 3200000 in
theorem refel_q (s : ByteArray) (r : List UInt8) (w : World) (hl : s.data.toList = 34 :: r) (hn : r.head? ≠ some 34) (hs : s.size ≤ 1000000000000) :
    Calls Tryd.prog 84 #[.string s] w (EndX (ElX (elS s.data.toList)) w) := by
  obtain ⟨hp, h0⟩ := first_byte hl
  have q34 : (((s[0]'hp).toNat : Int) == 34) = true := by rw [h0]; rfl
  have HT : Hid (ElX (elS s.data.toList) zI 0) := Lib.hid (by rw [hl, elS_34n r hn]; exact ⟨rfl, rfl⟩)
  have hbg := fun W => begins_any s 34 34 W hs
  rw [show twoB 34 34 s.data.toList = false from by rw [hl]; exact twoB_no2 34 34 _ _ hn] at hbg
  have HB := Lib.hid hbg
  have hN := heap_alloc_new w (.cells #[.int .i64 0, .string ⟨#[]⟩, .int .i64 0] 58)
  obtain ⟨z0, z1, z2, _⟩ := cells_item hN
  clear hl h0 hbg
  go_enter Tryd.func84, Tryd.ntmps84
  go_wp2_with fail
  refine (HB.out _).mono ?_; rintro e w1 ⟨rfl, rfl⟩
  go_wp2_with fail
  (try simp only [Exit.inBlock, Exit.then])
  refine bodyPost_ret (v := .tuple #[.agg #[.int .i64 0, .string ⟨#[]⟩, .int .i64 0], .int .i64 0]) (by simp [results, Tryd.results84, go_sem, z0, z1, z2]; try rfl) rfl ⟨⟨0, ⟨#[]⟩, 0⟩, _, rfl, HT.out, blw (Below.refl _ _) _⟩
set_option maxHeartbeats 3200000 in
theorem refel_slot (s : ByteArray) (r : List UInt8) (w : World) (hl : s.data.toList = 123 :: r) (hn : r.head? ≠ some 123) (hs : s.size ≤ 1000000000000) :
    Calls Tryd.prog 84 #[.string s] w (EndX (ElX (elS s.data.toList)) w) := by
  obtain ⟨hp, h0⟩ := first_byte hl
  have q34 : (((s[0]'hp).toNat : Int) == 34) = false := by rw [h0]; rfl
  have q123 : (((s[0]'hp).toNat : Int) == 123) = true := by rw [h0]; rfl
  have ht := fun W => refslot_any s r W hl hs
  unfold EndX at ht
  have hT : ∀ x n, OptOk (rdSlot r) x n → ElX (elS s.data.toList) x n := fun x n h => by
    rw [hl, elS_slotR r hn]
    cases ho : rdSlot r with
    | none => rw [ho] at h; exact h
    | some y => rw [ho] at h; exact h
  have hbg := fun W => begins_any s 123 123 W hs
  rw [show twoB 123 123 s.data.toList = false from by rw [hl]; exact twoB_no2 123 123 _ _ hn] at hbg
  have HB := Lib.hid hbg
  have HX := Lib.hid ht; have HT := Lib.hid hT
  have hZ := zV.new w
  have hBa := blw (Below.refl w.heap.size w) (.cells #[.int .i64 0, .string ByteArray.empty, .int .i64 0] 58)
  clear hl h0 ht hT hbg hn
  go_enter Tryd.func84, Tryd.ntmps84
  go_wp2_with fail
  refine (HB.out _).mono ?_; rintro e w1 ⟨rfl, rfl⟩
  go_wp2_with fail
  refine (HX.out _).mono ?_; rintro e w2 ⟨x, n, rfl, ho, hb⟩
  have hV := hZ.call hb
  have hB := BelowOn hBa hb
  obtain ⟨v0, v1, v2, v3, v4, v5⟩ := cells_item hV
  go_wp2_with fail
  have hWz := heap_set3 (a' := .int .i64 x.k) (b' := .string x.t) (c' := .int .i64 x.id) hV
  have hBz := ((hB.setCell (p := ⟨w.heap.size, 0, none⟩) (Nat.le_refl _) (.int .i64 x.k)).setCell (p := ⟨w.heap.size, 1, none⟩) (Nat.le_refl _) (.string x.t)).setCell (p := ⟨w.heap.size, 2, none⟩) (Nat.le_refl _) (.int .i64 x.id)
  generalize (((w2.setCell ⟨w.heap.size, 0, none⟩ (.int .i64 x.k)).setCell ⟨w.heap.size, 1, none⟩ (.string x.t)).setCell ⟨w.heap.size, 2, none⟩ (.int .i64 x.id)) = wz at *
  obtain ⟨z0, z1, z2, _⟩ := cells_item hWz
  (try simp only [Exit.inBlock, Exit.then])
  refine bodyPost_ret (v := .tuple #[.agg #[.int .i64 x.k, .string x.t, .int .i64 x.id], .int .i64 n]) (by simp [results, Tryd.results84, go_sem, z0, z1, z2]; try rfl) rfl ⟨x, n, rfl, HT.out x n ho, hBz⟩
end Go.Proofs.YteaciofacmbllaaDoor
namespace Go.Proofs.YteaciofacmbllaaDoor
open Go.ChangeShapes Go.WideShapes Go.ChangeAt Go.RowKit
set_option linter.unusedVariables false
set_option linter.unusedSimpArgs false
set_option maxRecDepth 100000

theorem refsheet_any (s : ByteArray) (w : World) (hp : 0 < s.size) (hs : s.size ≤ 1000000000000) :
    Calls Tryd.prog 84 #[.string s] w (EndX (ElX (elS s.data.toList)) w) := by
  cases hl : s.data.toList with
  | nil => exact absurd (show s.size = 0 by rw [show s.size = s.data.toList.length by simp, hl]; rfl) (by omega)
  | cons c r =>
    rw [← hl]
    by_cases h1 : c = 34
    · subst h1
      by_cases h : r.head? = some 34
      · cases r with
        | nil => cases h
        | cons d t => injection h with h; subst h; exact refel_two34 s t w hl hs
      · exact refel_q s r w hl h hs
    by_cases h2 : c = 123
    · subst h2
      by_cases h : r.head? = some 123
      · cases r with
        | nil => cases h
        | cons d t => injection h with h; subst h; exact refel_two123 s t w hl hs
      · exact refel_slot s r w hl h hs
    exact refel_text s c r w hl h1 h2 hs
set_option maxHeartbeats 1600000 in
theorem refelement_any (s : ByteArray) (w : World) (hp : 0 < s.size) (hs : s.size ≤ 1000000000000) :
    Calls Tryd.prog 42 #[.int .i64 3, .string s] w (EndX (ElX (elS s.data.toList)) w) := by
  have ht := fun W => refsheet_any s W hp hs
  unfold EndX at ht
  have HX := Lib.hid ht
  have hZ := zV.new w
  have hBa := blw (Below.refl w.heap.size w) (.cells #[.int .i64 0, .string ByteArray.empty, .int .i64 0] 58)
  clear ht
  generalize elS s.data.toList = o at *
  go_enter Tryd.func42, Tryd.ntmps42
  go_wp2_with fail
  refine (HX.out _).mono ?_; rintro e w2 ⟨x, n, rfl, ho, hb⟩
  have hV := hZ.call hb
  have hB := BelowOn hBa hb
  obtain ⟨v0, v1, v2, v3, v4, v5⟩ := cells_item hV
  go_wp2_with fail
  have hWz := heap_set3 (a' := .int .i64 x.k) (b' := .string x.t) (c' := .int .i64 x.id) hV
  have hBz := ((hB.setCell (p := ⟨w.heap.size, 0, none⟩) (Nat.le_refl _) (.int .i64 x.k)).setCell (p := ⟨w.heap.size, 1, none⟩) (Nat.le_refl _) (.string x.t)).setCell (p := ⟨w.heap.size, 2, none⟩) (Nat.le_refl _) (.int .i64 x.id)
  generalize (((w2.setCell ⟨w.heap.size, 0, none⟩ (.int .i64 x.k)).setCell ⟨w.heap.size, 1, none⟩ (.string x.t)).setCell ⟨w.heap.size, 2, none⟩ (.int .i64 x.id)) = wz at *
  obtain ⟨z0, z1, z2, _⟩ := cells_item hWz
  (try simp only [Exit.inBlock, Exit.then])
  refine bodyPost_ret (v := .tuple #[.agg #[.int .i64 x.k, .string x.t, .int .i64 x.id], .int .i64 n]) (by simp [results, Tryd.results42, go_sem, z0, z1, z2]; try rfl) rfl ⟨x, n, rfl, ho, hBz⟩
end Go.Proofs.YteaciofacmbllaaDoor
namespace Go.Proofs.YteaciofacmbllaaDoor
open Go.ChangeShapes Go.WideShapes Go.ChangeAt Go.RowKit
set_option linter.unusedVariables false
set_option linter.unusedSimpArgs false
set_option maxRecDepth 100000

/-- append of a number to numbers that the call owns; what lies in other blocks stays. -/
theorem wpl_appendN (w : World) {ops : Array Oper} {rest : List Oper} {o : Oper} {a : Act} {Q : Exit → Act → World → Prop} (hg : o.guard = none) (s x : Operand)
    (ho : o.op = .call { callee := .builtin .append, args := #[s, x], argTypes := #[32, 32] }) (w0 : World) (L : List Int) (v : Value) (hs : a.eval s = v) (h : Acc 3 1 nenc w0 L v w) (y : Int) (B : Nat) (cs : Array Value)
    (hx : a.eval x = .slice (some ⟨B, 0, none⟩) 1 1) (hB : w.heap[B]? = some (.cells cs 3 (0, 0))) (hcs : cs.toList = nenc y) (hlen : (L.length + 1) * 8 ≤ 140737488355328) (hlen' : L.length + 1 ≤ maxLen)
    (hK : ∀ v' w', Acc 3 1 nenc w0 (L ++ [y]) v' w' → w.grownBy w' v.ownBlock → (∀ k, k < w.heap.size → v.ownBlock ≠ some k → v'.ownBlock ≠ some k) → wpList Tryd.prog ops Q rest (a.put o.dst v') w') : wpList Tryd.prog ops Q (o :: rest) a w := by
  obtain ⟨i, hi, hz0, hz1, hz2⟩ := eN.hi
  refine wpList_append_lies w hg s x 32 ho w0.heap.size 3 i (.int .i64 0) 1 8 eN.ht hi hz0 hz1 hz2 eN.hzs eN.hsz v L.length (cellsOf nenc L) hs h.own ⟨B, 0, none⟩ 1 1 (nenc y) hx (by rw [eN.len]) ?_ (eN.one y) (by omega) hlen' hlen h.below.size _ rfl ?_
  · rw [← hcs]; exact World.news_of_block hB
  · intro g cap w' h2 h3 h4 h5
    have hown : OwnL 3 1 nenc w0.heap.size (L ++ [y]) (.slice (some ⟨g, 0, none⟩) (L.length + 1) cap) w' := by
      unfold OwnL; rw [List.length_append, show cellsOf nenc (L ++ [y]) = cellsOf nenc L ++ nenc y from by unfold cellsOf; rw [List.flatMap_append]; simp]; exact h2
    have hbel : Below w0.heap.size w0 w' := h.below.trans ((Below.refl w0.heap.size w).grown h3 h.below.size (fun k hk => (World.ownsRow.lt h.own k hk).1))
    refine hK _ w' ⟨hbel, hown⟩ h3 (fun k hk hne e => ?_)
    have e : g = k := by
      have : (Value.slice (some (⟨g, 0, none⟩ : Addr)) (L.length + 1) cap).ownBlock = some g := rfl
      rw [this] at e; injection e
    rcases h4 with h4 | h4
    · exact hne (by rw [h4, e])
    · omega
theorem elS_flat {s : List UInt8} {x : It} {n : Nat} (h : elS s = some (some x, n)) : Flat x := by
  rcases elS_some h with ⟨u, v, _, _, _, e, _⟩ | ⟨c, t, _, _, e, _⟩ | ⟨c, t, _, _, _, e, _⟩
  · injection e with e; subst e; exact .inr rfl
  · injection e with e; subst e; exact .inl rfl
  · injection e with e; subst e; exact .inl rfl
theorem ext_rest (s : ByteArray) (p : Nat) : (s.extract p s.size).data.toList = s.data.toList.drop p := by rw [extract_drop, bsL_list]
/-- The reference's Decode answers: the fragment, the cuts, the offset of an error, the error. -/
def EndR7 (R : List It × List Nat × Nat × Int) (w : World) (e : Ending) (w' : World) : Prop := ∃ pf cf pc cc, e = .returned (.tuple #[.slice pf R.1.length cf, .slice pc R.2.1.length cc, .int .i64 (R.2.2.1 : Nat), .int .i64 R.2.2.2]) ∧ R.1.length ≤ cf ∧ cf ≤ maxLen ∧ Its w' pf R.1 ∧ R.2.1.length ≤ cc ∧ cc ≤ maxLen ∧ Ones w' (Value.int .i64) pc (nI R.2.1) ∧ Below w.heap.size w w'
set_option maxHeartbeats 6400000 in
theorem refdecode_any (s : ByteArray) (w : World) (hs : s.size ≤ 1000000000000) : Calls Tryd.prog 19 #[.int .i64 3, .string s] w (EndR7 (dec elS s.data.toList) w) := by
  obtain ⟨R, hR⟩ : ∃ R, dec elS s.data.toList = R := ⟨_, rfl⟩
  have hR0 : decG elS [] [] 0 0 (s.data.toList.drop 0) = R := hR
  have hno : ∀ (p : Nat) (z : Int) w', R = ([], [], p, z) → Below w.heap.size w w' → EndR7 R w (.returned (.tuple #[.slice none 0 0, .slice none 0 0, .int .i64 p, .int .i64 z])) w' := fun p z w' h hb => ⟨none, 0, none, 0, by rw [h]; rfl, by rw [h]; exact Nat.le_refl _, Nat.zero_le _, by rw [h]; exact Its.nil _ _, by rw [h]; exact Nat.le_refl _, Nat.zero_le _, by rw [h]; exact fun h0 => (by cases h0), hb⟩
  have hel := fun p (hp : p < s.size) W => refelement_any (s.extract p s.size) W (by simp; omega) (by simp; omega)
  simp only [ext_rest] at hel
  rw [hR]
  have HEL := Lib.hid hel; have HNO := Lib.hid hno; have HR0 := Lib.hid hR0
  clear hel hno hR hR0
  go_enter Tryd.func19, Tryd.ntmps19
  go_wp2_with fail
  go_loopw [8, 9, 10, 11, 12] (fun v oo vc i dd wr => ∃ (f : List It) (cs : List Nat) (p d : Nat) (pf : Option Addr) (cf : Nat), p ≤ s.size ∧ d ≤ p ∧ i = .int .i64 p ∧ dd = .int .i64 d ∧ v = .slice pf f.length cf ∧ oo = .slice none 0 0 ∧ f.length ≤ cf ∧ cf ≤ maxLen ∧ Its wr pf f ∧ Acc 3 1 nenc w (nI cs) vc wr ∧ Hid (∀ a, pf = some a → vc.ownBlock ≠ some a.block) ∧ Hid (decG elS f cs p d (s.data.toList.drop p) = R) ∧ Hid (norm f = f) ∧ f.length ≤ 512 ∧ cs.length ≤ 1024 ∧ txtI f ≤ 1024 * cs.length) (fun _ _ _ i _ _ => s.size - (intOf i).toNat)
  case atStart => exact ⟨[], [], 0, 0, none, 0, Nat.zero_le _, Nat.le_refl _, rfl, rfl, rfl, rfl, Nat.le_refl _, Nat.zero_le _, Its.nil _ _, Acc.start _, Lib.hid (fun a h => by cases h), HR0, Lib.hid rfl, by simp, by simp, Nat.zero_le _⟩
  case round =>
    obtain ⟨f, cs, p, d, pf, cf, hp, hdp, rfl, rfl, rfl, rfl, hfc, hcm, hI, hA, HSEP, HG, HNF, hf1, hc1, htx⟩ := hrel
    by_cases hlt : p < s.size
    · have hne : s.data.toList.drop p ≠ [] := fun e => by have := congrArg List.length e; simp at this; omega
      have hel := fun W => HEL.out p hlt W
      have i0 : (0 : Int) ≤ (p : Int) := by omega
      have i1 : (p : Int) ≤ (s.size : Int) := by omega
      have i2 : (p : Int) < (s.size : Int) := by omega
      have hB := hA.below
      cases ho : elS (s.data.toList.drop p) with
      | none =>
        have hg := HG.out
        rw [decG_none elS_ok f cs p d _ hne ho] at hg
        rw [ho] at hel
        have HE := Lib.hid (fun w' hb => HNO.out p 2 w' hg.symm hb)
        have HX := Lib.hid hel
        clear hg ho hel hne
        go_wp2_with fail
        refine (HX.out _).mono ?_; rintro e w1 ⟨x, n, rfl, ⟨rfl, rfl⟩, hb⟩
        have hb2 := BelowOn hB hb
        go_wp2_with fail
        (try simp only [Exit.inBlock, Exit.then])
        refine bodyPost_ret (v := .tuple #[.slice none 0 0, .slice none 0 0, .int .i64 p, .int .i64 2]) (by simp [results, Tryd.results19, go_sem]; try rfl) rfl (HE.out _ (blw hb2 _))
      | some y =>
        obtain ⟨o, k⟩ := y
        obtain ⟨k1, k2⟩ := elS_ok.take _ _ _ ho
        rw [List.length_drop] at k2
        have k2 : p + k ≤ s.size := by simp at k2; omega
        have hk0 : ((k : Int) == 0) = false := by rw [beq_eq_false_iff_ne]; omega
        rw [ho] at hel
        have HX := Lib.hid hel
        cases o with
        | none =>
          have hg := HG.out
          rw [decG_cont elS_ok f cs p d _ ho, List.drop_drop] at hg
          have HG2 := Lib.hid hg
          clear hg ho hel hne HG
          go_wp2_with fail
          refine (HX.out _).mono ?_; rintro e w1 ⟨x, n, rfl, ⟨hxx, hnn⟩, hb⟩
          subst hxx
          have hnn : k = n := hnn.symm
          subst hnn
          obtain ⟨v0, v1, v2, v3⟩ := Var3.new w1 0 ByteArray.empty 0
          go_wp2_with fail
          go_roundw
          case rel => exact ⟨f, cs, p + k, d, pf, cf, k2, by omega, by go_num, rfl, rfl, rfl, hfc, hcm, (hI.call hb).call (blw (Below.refl _ _) _), (hA.call hb).alloc _, HSEP, HG2, HNF, hf1, hc1, htx⟩
          case measure => simp [intOf]; omega
        | some x =>
          have hone := elS_ok.one _ _ _ ho
          have hfl := elS_flat ho
          obtain ⟨hxt, hx0⟩ := one_small hone
          obtain ⟨g, hg⟩ : ∃ g, normS f x = g := ⟨_, rfl⟩
          have hnf : norm (f ++ [x]) = g := by rw [norm_snoc, HNF.out, hg]
          have HCI := Lib.hid (fun W q (h1 : Its W pf f) (h2 : Its W q [x]) => (by have hh := rconcat_any pf q cf 1 f [x] W h1 h2 (by simp; omega) (by show txtI f + (x.t.size + 0) ≤ _; omega); rw [hnf] at hh; exact hh : Calls Tryd.prog 26 #[.slice pf f.length cf, .slice q 1 1] W (EndI g W)))
          have hgt : txtI g ≤ 1024 * (cs.length + 1) := by
            have := txt_norm f x
            rw [hg] at this
            omega
          have HNG := Lib.hid (show norm g = g by rw [← hnf, norm_norm])
          have HMO := Lib.hid (fun (a : g.length ≤ 512) (b : cs.length < 1024) => (by
            have h1 := decG_more elS_ok f cs p d _ ho (by rw [hg]; exact a) b
            rw [List.drop_drop, hg] at h1
            exact h1.symm.trans HG.out : decG elS g (cs ++ [d]) (p + k) (p + k) (s.data.toList.drop (p + k)) = R))
          have HFU := Lib.hid (fun (a : 512 < g.length ∨ 1024 ≤ cs.length) w' hb => (by
            have h1 := decG_full elS_ok f cs p d _ ho (by rw [hg]; exact a)
            exact HNO.out p 3 w' (HG.out.symm.trans h1) hb : EndR7 R w (.returned (.tuple #[.slice none 0 0, .slice none 0 0, .int .i64 p, .int .i64 3])) w'))
          have q0 : (x.k == 0) = false := by rw [beq_eq_false_iff_ne]; exact hx0
          have q2 : (x.k == 2) = false := by rw [beq_eq_false_iff_ne]; rcases hfl with e | e <;> rw [e] <;> decide
          have q4 : (x.k == 4) = false := by rw [beq_eq_false_iff_ne]; rcases hfl with e | e <;> rw [e] <;> decide
          have q3 : (x.k == 3) = false := by rw [beq_eq_false_iff_ne]; rcases hfl with e | e <;> rw [e] <;> decide
          have V := Lib.hid (fun (W : World) => Var3.new W x.k x.t x.id)
          have HI1 := Lib.hid (fun (W : World) => (by have := its_one (x := x) (heap_alloc_new (W.alloc (.cells #[.int .i64 x.k, .string x.t, .int .i64 x.id] 58)) (.cells #[.int .i64 x.k, .string x.t, .int .i64 x.id] 58)); simpa using this : Its ((W.alloc (.cells #[.int .i64 x.k, .string x.t, .int .i64 x.id] 58)).alloc (.cells #[.int .i64 x.k, .string x.t, .int .i64 x.id] 58)) (some ⟨W.heap.size + 1, 0, none⟩) [x]))
          obtain ⟨pc, cc, hvc, hcc, hcm2, hIc⟩ := hA.own.ints
          rw [nI_len] at hvc hcc
          subst hvc
          have hkk : (k : Int) ≤ (s.size : Int) := by omega
          clear hg hnf ho hel hne HG hone hfl hIc HEL HNO HNF
          by_cases a1 : 512 < g.length
          · have HE := Lib.hid (fun w' hb => HFU.out (.inl a1) w' hb)
            have qf : (512 : Int) < (g.length : Int) := by omega
            clear HMO HFU HNG
            go_wp2_with fail
            refine (HX.out _).mono ?_
            rintro e w1 ⟨x', n, rfl, ⟨hxx, hnn⟩, hb⟩
            have hxx : x = x' := hxx.symm
            subst hxx
            have hnn : k = n := hnn.symm
            subst hnn
            obtain ⟨v0, v1, v2, v3⟩ := V.out w1
            go_wp2_with fail
            refine (HCI.out ((w1.alloc (.cells #[.int .i64 x.k, .string x.t, .int .i64 x.id] 58)).alloc (.cells #[.int .i64 x.k, .string x.t, .int .i64 x.id] 58)) (some ⟨w1.heap.size + 1, 0, none⟩) (((hI.call hb).call (blw (Below.refl _ _) _)).call (blw (Below.refl _ _) _)) (HI1.out w1)).mono ?_
            rintro e w5 h5
            obtain ⟨pg, cg, rfl, hgc, hgm, hIg, hb5⟩ := EndI.f h5
            have hb6 := BelowOn (blw (blw (BelowOn hB hb) _) _) hb5
            clear h5 hIg hI hA v0 v1 v2 v3 HSEP
            go_wp2_with fail
            (try simp only [Exit.inBlock, Exit.then])
            refine bodyPost_ret (v := .tuple #[.slice none 0 0, .slice none 0 0, .int .i64 p, .int .i64 3]) (by simp [results, Tryd.results19, go_sem]; try rfl) rfl (HE.out _ hb6)
          by_cases a2 : 1024 ≤ cs.length
          · have HE := Lib.hid (fun w' hb => HFU.out (.inr a2) w' hb)
            have qf : ¬ (512 : Int) < (g.length : Int) := by omega
            have qg : (1024 : Int) ≤ (cs.length : Int) := by omega
            clear HMO HFU HNG
            go_wp2_with fail
            refine (HX.out _).mono ?_
            rintro e w1 ⟨x', n, rfl, ⟨hxx, hnn⟩, hb⟩
            have hxx : x = x' := hxx.symm
            subst hxx
            have hnn : k = n := hnn.symm
            subst hnn
            obtain ⟨v0, v1, v2, v3⟩ := V.out w1
            go_wp2_with fail
            refine (HCI.out ((w1.alloc (.cells #[.int .i64 x.k, .string x.t, .int .i64 x.id] 58)).alloc (.cells #[.int .i64 x.k, .string x.t, .int .i64 x.id] 58)) (some ⟨w1.heap.size + 1, 0, none⟩) (((hI.call hb).call (blw (Below.refl _ _) _)).call (blw (Below.refl _ _) _)) (HI1.out w1)).mono ?_
            rintro e w5 h5
            obtain ⟨pg, cg, rfl, hgc, hgm, hIg, hb5⟩ := EndI.f h5
            have hb6 := BelowOn (blw (blw (BelowOn hB hb) _) _) hb5
            clear h5 hIg hI hA v0 v1 v2 v3 HSEP
            go_wp2_with fail
            (try simp only [Exit.inBlock, Exit.then])
            refine bodyPost_ret (v := .tuple #[.slice none 0 0, .slice none 0 0, .int .i64 p, .int .i64 3]) (by simp [results, Tryd.results19, go_sem]; try rfl) rfl (HE.out _ hb6)
          have q5 : ¬ ((512 : Int) < (g.length : Int)) := by omega
          have q6 : ¬ ((1024 : Int) ≤ (cs.length : Int)) := by omega
          have HM := Lib.hid (HMO.out (by omega) (by omega))
          clear HMO HFU
          go_wp2_with fail
          refine (HX.out _).mono ?_
          rintro e w1 ⟨x', n, rfl, ⟨hxx, hnn⟩, hb⟩
          have hxx : x = x' := hxx.symm
          subst hxx
          have hnn : k = n := hnn.symm
          subst hnn
          obtain ⟨v0, v1, v2, v3⟩ := V.out w1
          go_wp2_with fail
          have hA4 := ((hA.call hb).alloc (.cells #[.int .i64 x.k, .string x.t, .int .i64 x.id] 58)).alloc (.cells #[.int .i64 x.k, .string x.t, .int .i64 x.id] 58)
          refine (HCI.out ((w1.alloc (.cells #[.int .i64 x.k, .string x.t, .int .i64 x.id] 58)).alloc (.cells #[.int .i64 x.k, .string x.t, .int .i64 x.id] 58)) (some ⟨w1.heap.size + 1, 0, none⟩) (((hI.call hb).call (blw (Below.refl _ _) _)).call (blw (Below.refl _ _) _)) (HI1.out w1)).mono ?_
          rintro e w5 ⟨vg, rfl, hAg⟩
          have hA5 := hA4.call hAg.below
          obtain ⟨pg, cg, rfl, hgc, hgm, hIg⟩ := hAg.own.its
          have hadr := OwnL.addr hAg.own
          have hsep : ∀ a, pg = some a → (Value.slice pc cs.length cc).ownBlock ≠ some a.block := fun a ha e => by
            have h1 := (hadr a ha).1
            have h2 := (World.ownsRow.lt hA4.own a.block e).2
            omega
          have hV5 := ((V.out w1).call (blw (Below.refl _ _) (.cells #[.int .i64 x.k, .string x.t, .int .i64 x.id] 58))).call hAg.below
          obtain ⟨y0, y1, y2, y3⟩ := hV5
          have hlt5 : ∀ a, pg = some a → a.block < w5.heap.size := fun a ha => (hadr a ha).2
          have HSP := Lib.hid hsep; have HLT := Lib.hid hlt5
          clear hsep hadr hlt5 hAg HSEP v0 v1 v2 v3 hA4 hI hA hB
          have HA6 := Lib.hid (hA5.alloc (.cells #[.int .i64 (d : Int)] 3))
          have hnl : (nI cs).length = cs.length := nI_len cs
          have HNL := Lib.hid hnl
          have hW6 := blw (Below.refl _ w5) (.cells #[.int .i64 (d : Int)] 3)
          have hIg6 := hIg.call hW6
          have hlt6 : w5.heap.size < (w5.alloc (.cells #[.int .i64 (d : Int)] 3)).heap.size := by simp
          clear hnl hA5 hIg
          go_wp2_with (at_builtin; refine wpl_appendN _ rfl _ _ rfl w (nI cs) (.slice pc cs.length cc) rfl HA6.out (d : Int) w5.heap.size _ rfl (heap_alloc_new w5 _) rfl (by rw [HNL.out]; omega) (by rw [HNL.out]; unfold maxLen; omega) ?_; intro v' w6 hA6 hg6 hs6)
          have hI6 : Its w6 pg g := hIg6.past hg6 (fun a ha => HSP.out a ha)
          have hsp6 : ∀ a, pg = some a → v'.ownBlock ≠ some a.block := fun a ha => hs6 a.block (by have := HLT.out a ha; omega) (HSP.out a ha)
          have HS6 := Lib.hid hsp6
          clear hs6 hg6 hsp6 hIg6 hW6 y0 y1 y2
          go_roundw
          case rel => exact ⟨g, cs ++ [d], p + k, p + k, pg, cg, k2, Nat.le_refl _, by go_num, by go_num, rfl, rfl, hgc, hgm, hI6, by rw [nI_snoc]; exact hA6, HS6, HM, HNG, by omega, by rw [List.length_append]; show cs.length + 1 ≤ _; omega, by rw [List.length_append]; exact hgt⟩
          case measure => simp [intOf]; omega
    · have hpe : p = s.size := by omega
      have hg := HG.out
      rw [List.drop_of_length_le (by simp; omega), decG_nil] at hg
      obtain ⟨pc, cc, hvc, hcc, hcm2, hIc⟩ := hA.own.ints
      subst hvc
      have HG2 := Lib.hid hg
      clear hg HG
      have hAX := fun o => hA.alloc (o := o)
      go_wp2_with (at_builtin; refine wpl_appendN _ rfl _ _ rfl w (nI cs) _ rfl (hA.alloc _) (d : Int) wr.heap.size _ rfl (heap_alloc_new _ _) rfl (by rw [nI_len]; omega) (by rw [nI_len]; unfold maxLen; omega) ?_; intro v' w6 hA6 hg6 hs6)
      obtain ⟨p6, c6, rfl, h6a, h6b, h6i⟩ := hA6.own.ints
      have hI6 : Its w6 pf f := (hI.call (blw (Below.refl _ wr) _)).past hg6 HSEP.out
      (try simp only [Exit.inBlock, Exit.then])
      refine bodyPost_ret (v := .tuple #[.slice pf f.length cf, .slice p6 (nI cs ++ [(d : Int)]).length c6, .int .i64 0, .int .i64 0]) (by simp [results, Tryd.results19, go_sem]; try rfl) rfl ?_
      rw [← HG2.out]
      rw [← nI_snoc] at h6a h6i ⊢
      rw [nI_len] at h6a ⊢
      exact ⟨pf, cf, p6, c6, rfl, hfc, hcm, hI6, h6a, h6b, h6i, hA6.below⟩
end Go.Proofs.YteaciofacmbllaaDoor
namespace Go.Proofs.YteaciofacmbllaaDoor
open Go.ChangeShapes Go.WideShapes Go.ChangeAt Go.RowKit
set_option linter.unusedVariables false
set_option linter.unusedSimpArgs false
set_option maxRecDepth 100000

theorem gbytes_below (w : World) (e : TypeId) (s : ByteArray) : Below w.heap.size w (Lib.bytesWorld w e s) :=
  Lib.below_freeze ((Below.drew (Below.refl _ w)).alloc (Nat.le_refl _) _) (p := ⟨w.heap.size, _, none⟩) (Nat.le_refl _) 1
theorem gconv_new (W : World) (T : ByteArray) : (convert 9 22 (.string T)).run Tryd.prog W = .ok (.slice (some ⟨W.heap.size, 0, none⟩) T.size (grownCap W T.size 0 5)) (Lib.bytesWorld W 5 T) :=
  Lib.run_convert_string_bytes W 9 22 5 T Tryd.underlying9 Tryd.underlying22 Tryd.underlying5
theorem gbytes_new (W : World) (T : ByteArray) : Lib.Bytes (Lib.bytesWorld W 5 T) W.heap.size 0 T := fun i h => by
  rw [Nat.zero_add, Lib.bytesWorld_cell W 5 T i h]
  have e : T.data.toList[i]? = some T[i] := by
    rw [List.getElem?_eq_getElem (by simpa using h)]; simp; rfl
  simp [List.getD, e]
/-- A text with one byte changed. -/
def chg (T : ByteArray) (i : Nat) (u : UInt8) : ByteArray := bsL (T.data.toList.set i u)
theorem chg_size (T : ByteArray) (i : Nat) (u : UInt8) : (chg T i u).size = T.size := by unfold chg; rw [bsL_size]; simp
theorem gbytes_set {W : World} {B : Nat} {T : ByteArray} (h : Lib.Bytes W B 0 T) (i : Nat) (hi : i < T.size) (u : UInt8) : Lib.Bytes (W.setCell ⟨B, i, none⟩ (.int .u8 (u.toNat : Int))) B 0 (chg T i u) := fun j hj => by
  have hz := chg_size T i u
  have hj' : j < T.size := by omega
  have e : (chg T i u)[j] = if i = j then u else T[j] := by
    have : (chg T i u).data.toList[j]'(by simpa using hj) = if i = j then u else T[j] := by
      unfold chg
      simp only [bsL_list]
      rw [List.getElem_set]
      split
      · rfl
      · simp; rfl
    rw [← this]; simp; rfl
  have ho := h j hj'
  have hm := h i hi
  rw [Nat.zero_add] at ho hm ⊢
  rw [e]
  by_cases hij : i = j
  · subst hij
    rw [if_pos rfl, World.cell?_setCell_same _ _ _ hm]
  · rw [if_neg hij, World.cell?_setCell_other _ _ _ _ (fun h => hij (by have := congrArg Addr.off h; simp at this; omega)), ho]
theorem gbytes_frozen (W : World) (T : ByteArray) (i : Nat) (hi : i < T.size) : (Lib.bytesWorld W 5 T).frozen? ⟨W.heap.size, i, none⟩ = false := by
  have := Lib.bytesWorld_at_new W 5 T
  unfold World.frozen?
  simp only [this]
  simp [Lib.bytesCells]
  omega
theorem gconv_back {W : World} {B : Nat} {V : ByteArray} (h : Lib.Bytes W B 0 V) (n c : Nat) (hn : V.size = n) : (convert 22 9 (.slice (some ⟨B, 0, none⟩) n c)).run Tryd.prog W = .ok (.string V) W := by
  subst hn
  exact Lib.run_convert_whole (P := Tryd.prog) W 22 5 9 Tryd.underlying22 Tryd.underlying5 Tryd.underlying9 B 0 V h c
set_option maxHeartbeats 1600000 in
theorem changed_any (T : ByteArray) (a : Int) (b : Int) (w : World) (hs : T.size ≤ 1000000000000) (ha : (Lit.int .i64 a).wf = true) (hb : (Lit.int .u8 b).wf = true) :
    Calls Tryd.prog 18 #[.string T, .int .i64 a, .int .u8 b] w fun e w' => ∃ V : ByteArray, e = .returned (.string V) ∧ V.size = T.size ∧ Below w.heap.size w w' := by
  obtain ⟨u, rfl⟩ : ∃ u : UInt8, b = (u.toNat : Int) := by
    have hb : 0 ≤ b ∧ b ≤ 255 := by simpa [Lit.wf, IntKind.min, IntKind.max, IntKind.signed, IntKind.bits] using hb
    exact ⟨UInt8.ofNat b.toNat, by rw [UInt8.toNat_ofNat']; omega⟩
  clear hb
  have pl := fun (h : 1 ≤ T.size) W => place_any a (T.size : Int) W (by omega) (by omega) ha
  have hI : 1 ≤ T.size → ∃ i : Nat, a % (T.size : Int) = i ∧ i < T.size := fun h => by
    have e0 := Int.emod_nonneg a (show (T.size : Int) ≠ 0 by omega)
    have e1 := Int.emod_lt_of_pos a (show (0 : Int) < (T.size : Int) by omega)
    obtain ⟨i, hi⟩ := Int.eq_ofNat_of_zero_le e0
    exact ⟨i, hi, by omega⟩
  have PL := Lib.hid pl; have HI := Lib.hid hI
  clear pl hI ha
  have hcn := gconv_new w T
  have hbn := gbytes_new w T
  have hfz := fun i hi => gbytes_frozen w T i hi
  have bl := gbytes_below w 5 T
  go_enter Tryd.func18, Tryd.ntmps18
  by_cases h0 : 0 < T.size
  · obtain ⟨i, hi, hi2⟩ := HI.out (by omega)
    have pl := fun W => PL.out (by omega) W
    rw [hi] at pl
    have P2 := Lib.hid pl; clear pl hi
    have hfz := hfz i hi2
    have hc := hbn i hi2
    rw [Nat.zero_add] at hc
    have hset := gbytes_set hbn i hi2 u
    have hcb := fun c => gconv_back hset T.size c (chg_size T i u)
    have j0 : (0 : Int) ≤ (i : Int) := by omega
    have j1 : (i : Int) < (T.size : Int) := by omega
    generalize Lib.bytesWorld w 5 T = wb at *
    go_wp2_with fail
    refine (P2.out _).mono ?_; rintro e w5 ⟨rfl, rfl⟩
    go_wp2_with fail
    go_ret
    exact ⟨_, rfl, chg_size T i u, bl.setCell (p := ⟨w.heap.size, i, none⟩) (Nat.le_refl _) _⟩
  · have i1 : decide (0 < T.size) = false := decide_eq_false (by omega)
    have hcb := fun c => gconv_back hbn T.size c rfl
    generalize Lib.bytesWorld w 5 T = wb at *
    go_wp2_with fail
    go_ret
    exact ⟨_, rfl, rfl, bl⟩
end Go.Proofs.YteaciofacmbllaaDoor
namespace Go.Proofs.YteaciofacmbllaaDoor
open Go.ChangeShapes Go.WideShapes Go.ChangeAt Go.RowKit
set_option linter.unusedVariables false
set_option linter.unusedSimpArgs false
set_option maxRecDepth 100000

theorem gidx0 (W : World) (a b c : ByteArray) : Sem.run Tryd.prog (Instr.index 40 (.agg #[.string a, .string b, .string c]) (.int .i64 0)) W = .ok (.string a) W := by kernel_rfl
theorem gidx1 (W : World) (a b c : ByteArray) : Sem.run Tryd.prog (Instr.index 40 (.agg #[.string a, .string b, .string c]) (.int .i64 1)) W = .ok (.string b) W := by kernel_rfl
theorem gidx2 (W : World) (a b c : ByteArray) : Sem.run Tryd.prog (Instr.index 40 (.agg #[.string a, .string b, .string c]) (.int .i64 2)) W = .ok (.string c) W := by kernel_rfl
theorem gboth (u : ByteArray) (h : u.size ≤ 1000000000000) : ∃ (L : List It) (cs : List Nat) (q : Nat) (er : Int), Hid (∀ W, Calls Tryd.prog 14 #[.string u] W (EndD (L, cs, q, er) W)) ∧ Hid (∀ W, Calls Tryd.prog 15 #[.string u] W (EndC cs er W)) ∧ Hid (∀ W, Calls Tryd.prog 19 #[.int .i64 3, .string u] W (EndR7 (L, cs, q, er) W)) :=
  ⟨(dec elS u.data.toList).1, (dec elS u.data.toList).2.1, (dec elS u.data.toList).2.2.1, (dec elS u.data.toList).2.2.2, Lib.hid fun W => decode_any u W h, Lib.hid fun W => cuts_any u W h, Lib.hid fun W => refdecode_any u W h⟩
set_option maxHeartbeats 12800000 in
theorem decodes_any (a0 : ByteArray) (p1 : Option Addr) (c1 : Nat) (a1 : List Int) (p2 : Option Addr) (c2 : Nat) (a2 : List Int) (a3 : Int) (a4 : Int) (w : World) (w0 : a0.size ≤ 140737488355328) (r1 : Ones w (Value.int .i64) p1 a1) (o1 : ∀ i (h : i < a1.length), (Lit.int .i64 (a1[i]'h)).wf = true) (n1 : a1.length ≤ c1) (m1 : c1 ≤ maxLen)
    (r2 : Ones w (Value.int .i64) p2 a2) (o2 : ∀ i (h : i < a2.length), (Lit.int .i64 (a2[i]'h)).wf = true) (n2 : a2.length ≤ c2) (m2 : c2 ≤ maxLen) (w3 : (Lit.int .i64 a3).wf = true) (w4 : (Lit.int .u8 a4).wf = true) :
    Calls Tryd.prog 4 #[.string a0, .slice p1 a1.length c1, .slice p2 a2.length c2, .int .i64 a3, .int .u8 a4] w fun e w' => e = .returned (.bool true) ∧ Below w.heap.size w w' := by
  have HK := Lib.hid known_any
  by_cases l0 : a0.size ≤ 300
  case neg =>
    have z0 : 300 < a0.size := by omega
    clear r1 o1 r2 o2 w3 w4 l0
    go_enter Tryd.func4, Tryd.ntmps4
    go_wp2_with fail
    refine (HK.out _).mono ?_; rintro e w1 ⟨rfl, hb⟩
    go_wp2_with fail
    go_ret
    exact ⟨rfl, hb⟩
  by_cases l1 : a1.length ≤ 80
  case neg =>
    have z1 : 80 < a1.length := by omega
    have q0 : decide (300 < a0.size) = false := decide_eq_false (by omega)
    clear r1 o1 r2 o2 w3 w4 l1
    go_enter Tryd.func4, Tryd.ntmps4
    go_wp2_with fail
    refine (HK.out _).mono ?_; rintro e w1 ⟨rfl, hb⟩
    go_wp2_with fail
    go_ret
    exact ⟨rfl, hb⟩
  by_cases l2 : a2.length ≤ 200
  case neg =>
    have z2 : 200 < a2.length := by omega
    have q0 : decide (300 < a0.size) = false := decide_eq_false (by omega)
    have q1 : decide (80 < a1.length) = false := decide_eq_false (by omega)
    clear r1 o1 r2 o2 w3 w4 l2
    go_enter Tryd.func4, Tryd.ntmps4
    go_wp2_with fail
    refine (HK.out _).mono ?_; rintro e w1 ⟨rfl, hb⟩
    go_wp2_with fail
    go_ret
    exact ⟨rfl, hb⟩
  have q0 : decide (300 < a0.size) = false := decide_eq_false (by omega)
  have q1 : decide (80 < a1.length) = false := decide_eq_false (by omega)
  have q2 : decide (200 < a2.length) = false := decide_eq_false (by omega)
  have RW := Lib.hid (raws_any p1 c1 a1 p2 c2 a2 w r1 o1 n1 m1 r2 o2 n2 m2)
  have hle := (valE_zero ((mk_ok a1 false true).valid (by decide))).2.1
  unfold EndRaw at RW
  generalize mk a1 false true = F at *
  have hch := fun T W (h : ByteArray.size T ≤ 1000000000000) => changed_any T a3 a4 W h w3 w4
  have HCH := Lib.hid hch
  obtain ⟨LA, cA, qA, eA, PA, CA, RA⟩ := gboth a0 (by omega)
  clear hch w3 w4 r1 o1 r2 o2 w0
  go_enter Tryd.func4, Tryd.ntmps4
  go_wp2_with fail
  refine RW.out.mono ?_; rintro e w5 ⟨raw, p, c, rfl, -, hrl, -, -, -, hb⟩
  have hTz : (bsL raw).size ≤ 1000000000000 := by rw [bsL_size]; omega
  generalize bsL raw = T at *
  have bl := hb; clear hb hrl
  obtain ⟨LB, cB, qB, eB, PB, CB, RB⟩ := gboth T hTz
  go_wp2_with fail
  refine (HCH.out T _ hTz).mono ?_; rintro e w6 ⟨V, rfl, hVz, hb⟩
  have bl := BelowOn bl hb; clear hb
  obtain ⟨LC, cC, qC, eC, PC, CC, RC⟩ := gboth V (by omega)
  clear hTz hVz
  have ix0 := fun W => gidx0 W a0 T V
  have ix1 := fun W => gidx1 W a0 T V
  have ix2 := fun W => gidx2 W a0 T V
  unfold EndD at PA PB PC
  unfold EndC at CA CB CC
  unfold EndR7 at RA RB RC
  dsimp only at PA PB PC CA CB CC RA RB RC
  go_wp2_with fail
  go_loopw [51] (fun i wr => ∃ k : Nat, k ≤ 3 ∧ i = .int .i64 k ∧ Below w.heap.size w wr) (fun i _ => 3 - (intOf i).toNat)
  case atStart => exact ⟨0, by omega, rfl, bl⟩
  case round =>
    obtain ⟨k, hk, rfl, hB⟩ := hrel
    clear bl
    have hk4 : k = 0 ∨ k = 1 ∨ k = 2 ∨ k = 3 := by omega
    rcases hk4 with rfl | rfl | rfl | rfl
    · have ls := fun p q c d W (i : Its W p LA) (j : Its W q LA) (hc : LA.length ≤ c) (hd : LA.length ≤ d) (hcm : c ≤ maxLen) (hdm : d ≤ maxLen) => rsame_any p q c d LA LA W i j hc hd hcm hdm
      rw [decide_eq_true (rfl : LA = LA)] at ls
      have lc := fun p q c d W (i : Ones W (Value.int .i64) p (nI cA)) (j : Ones W (Value.int .i64) q (nI cA)) (hc : (nI cA).length ≤ c) (hd : (nI cA).length ≤ d) (hcm : c ≤ maxLen) (hdm : d ≤ maxLen) => sameints_any p q c d (nI cA) (nI cA) W i j hc hd hcm hdm
      rw [decide_eq_true (rfl : nI cA = nI cA)] at lc
      have hnl : (nI cA).length = cA.length := nI_len cA
      rw [← hnl] at RA
      have LS := Lib.hid ls; have LC' := Lib.hid lc; clear ls lc hnl
      generalize nI cA = M at *
      have s2 : ((qA : Int) != (qA : Int)) = false := by simp
      have s3 : (eA != eA) = false := by simp
      go_wp2_with fail
      refine (PA.out _).mono ?_; rintro e w7 ⟨p3, c3, rfl, a4, b4, i4, hb⟩
      have bl := BelowOn hB hb; clear hb
      go_wp2_with fail
      refine (CA.out _).mono ?_; rintro e w8 ⟨p5, c5, rfl, a5, b5, i5, hb⟩
      have i4 := i4.call hb; have bl := BelowOn bl hb; clear hb
      go_wp2_with fail
      refine (RA.out _).mono ?_; rintro e w9 ⟨p6, c6, p7, c7, rfl, a6, b6, i6, a7, b7, i7, hb⟩
      have i4 := i4.call hb; have i5 := i5.call hb; have bl := BelowOn bl hb; clear hb
      go_wp2_with fail
      refine (LS.out _ _ _ _ _ i4 i6 a4 a6 b4 b6).mono ?_; rintro e w10 ⟨rfl, hb⟩
      have i5 := i5.call hb; have i7 := i7.call hb; have bl := BelowOn bl hb; clear hb i4 i6
      go_wp2_with fail
      refine (LC'.out _ _ _ _ _ i5 i7 a5 a7 b5 b7).mono ?_; rintro e w11 ⟨rfl, hb⟩
      have bl := BelowOn bl hb; clear hb i5 i7
      go_wp2_with fail
      go_roundw
      case rel => exact ⟨1, by omega, by go_num, bl⟩
      case measure => simp [intOf]
    · have ls := fun p q c d W (i : Its W p LB) (j : Its W q LB) (hc : LB.length ≤ c) (hd : LB.length ≤ d) (hcm : c ≤ maxLen) (hdm : d ≤ maxLen) => rsame_any p q c d LB LB W i j hc hd hcm hdm
      rw [decide_eq_true (rfl : LB = LB)] at ls
      have lc := fun p q c d W (i : Ones W (Value.int .i64) p (nI cB)) (j : Ones W (Value.int .i64) q (nI cB)) (hc : (nI cB).length ≤ c) (hd : (nI cB).length ≤ d) (hcm : c ≤ maxLen) (hdm : d ≤ maxLen) => sameints_any p q c d (nI cB) (nI cB) W i j hc hd hcm hdm
      rw [decide_eq_true (rfl : nI cB = nI cB)] at lc
      have hnl : (nI cB).length = cB.length := nI_len cB
      rw [← hnl] at RB
      have LS := Lib.hid ls; have LC' := Lib.hid lc; clear ls lc hnl
      generalize nI cB = M at *
      have s2 : ((qB : Int) != (qB : Int)) = false := by simp
      have s3 : (eB != eB) = false := by simp
      go_wp2_with fail
      refine (PB.out _).mono ?_; rintro e w7 ⟨p3, c3, rfl, a4, b4, i4, hb⟩
      have bl := BelowOn hB hb; clear hb
      go_wp2_with fail
      refine (CB.out _).mono ?_; rintro e w8 ⟨p5, c5, rfl, a5, b5, i5, hb⟩
      have i4 := i4.call hb; have bl := BelowOn bl hb; clear hb
      go_wp2_with fail
      refine (RB.out _).mono ?_; rintro e w9 ⟨p6, c6, p7, c7, rfl, a6, b6, i6, a7, b7, i7, hb⟩
      have i4 := i4.call hb; have i5 := i5.call hb; have bl := BelowOn bl hb; clear hb
      go_wp2_with fail
      refine (LS.out _ _ _ _ _ i4 i6 a4 a6 b4 b6).mono ?_; rintro e w10 ⟨rfl, hb⟩
      have i5 := i5.call hb; have i7 := i7.call hb; have bl := BelowOn bl hb; clear hb i4 i6
      go_wp2_with fail
      refine (LC'.out _ _ _ _ _ i5 i7 a5 a7 b5 b7).mono ?_; rintro e w11 ⟨rfl, hb⟩
      have bl := BelowOn bl hb; clear hb i5 i7
      go_wp2_with fail
      go_roundw
      case rel => exact ⟨2, by omega, by go_num, bl⟩
      case measure => simp [intOf]
    · have ls := fun p q c d W (i : Its W p LC) (j : Its W q LC) (hc : LC.length ≤ c) (hd : LC.length ≤ d) (hcm : c ≤ maxLen) (hdm : d ≤ maxLen) => rsame_any p q c d LC LC W i j hc hd hcm hdm
      rw [decide_eq_true (rfl : LC = LC)] at ls
      have lc := fun p q c d W (i : Ones W (Value.int .i64) p (nI cC)) (j : Ones W (Value.int .i64) q (nI cC)) (hc : (nI cC).length ≤ c) (hd : (nI cC).length ≤ d) (hcm : c ≤ maxLen) (hdm : d ≤ maxLen) => sameints_any p q c d (nI cC) (nI cC) W i j hc hd hcm hdm
      rw [decide_eq_true (rfl : nI cC = nI cC)] at lc
      have hnl : (nI cC).length = cC.length := nI_len cC
      rw [← hnl] at RC
      have LS := Lib.hid ls; have LC' := Lib.hid lc; clear ls lc hnl
      generalize nI cC = M at *
      have s2 : ((qC : Int) != (qC : Int)) = false := by simp
      have s3 : (eC != eC) = false := by simp
      go_wp2_with fail
      refine (PC.out _).mono ?_; rintro e w7 ⟨p3, c3, rfl, a4, b4, i4, hb⟩
      have bl := BelowOn hB hb; clear hb
      go_wp2_with fail
      refine (CC.out _).mono ?_; rintro e w8 ⟨p5, c5, rfl, a5, b5, i5, hb⟩
      have i4 := i4.call hb; have bl := BelowOn bl hb; clear hb
      go_wp2_with fail
      refine (RC.out _).mono ?_; rintro e w9 ⟨p6, c6, p7, c7, rfl, a6, b6, i6, a7, b7, i7, hb⟩
      have i4 := i4.call hb; have i5 := i5.call hb; have bl := BelowOn bl hb; clear hb
      go_wp2_with fail
      refine (LS.out _ _ _ _ _ i4 i6 a4 a6 b4 b6).mono ?_; rintro e w10 ⟨rfl, hb⟩
      have i5 := i5.call hb; have i7 := i7.call hb; have bl := BelowOn bl hb; clear hb i4 i6
      go_wp2_with fail
      refine (LC'.out _ _ _ _ _ i5 i7 a5 a7 b5 b7).mono ?_; rintro e w11 ⟨rfl, hb⟩
      have bl := BelowOn bl hb; clear hb i5 i7
      go_wp2_with fail
      go_roundw
      case rel => exact ⟨3, by omega, by go_num, bl⟩
      case measure => simp [intOf]
    · go_wp2_with fail
      refine (HK.out _).mono ?_; rintro e w7 ⟨rfl, hb⟩
      have bl := BelowOn hB hb; clear hb
      go_wp2_with fail
      go_ret
      exact ⟨rfl, bl⟩
end Go.Proofs.YteaciofacmbllaaDoor
namespace Go.Proofs.YteaciofacmbllaaDoor.sheetDecodes
open Go.ChangeShapes Go.WideShapes Go.ChangeAt Go.RowKit
open Go.ChangeMaps (open_string shut_string)
set_option linter.unusedVariables false
set_option maxRecDepth 100000

theorem own : ownKnob Tryd.prog.godebug = none := by kernel_rfl
theorem laidOut : laidOutB Tryd.prog = true := by kernel_rfl


set_option maxHeartbeats 1600000 in
theorem walk (a0 : ByteArray) (p1 : Option Addr) (c1 : Nat) (a1 : List Int) (p2 : Option Addr) (c2 : Nat) (a2 : List Int) (a3 : Int) (a4 : Int) (w : World) (w0 : a0.size ≤ 140737488355328) (r1 : Ones w (Value.int .i64) p1 a1) (o1 : ∀ i (h : i < a1.length), (Lit.int .i64 (a1[i]'h)).wf = true) (n1 : a1.length ≤ c1) (m1 : c1 ≤ maxLen) (r2 : Ones w (Value.int .i64) p2 a2) (o2 : ∀ i (h : i < a2.length), (Lit.int .i64 (a2[i]'h)).wf = true) (n2 : a2.length ≤ c2) (m2 : c2 ≤ maxLen) (w3 : (Lit.int .i64 a3).wf = true) (w4 : (Lit.int .u8 a4).wf = true) :
    Calls Tryd.prog 4 #[.string a0, .slice p1 a1.length c1, .slice p2 a2.length c2, .int .i64 a3, .int .u8 a4] w fun e w' => e = .returned (.bool true) ∧ Below w.heap.size w w' := by
  exact decodes_any a0 p1 c1 a1 p2 c2 a2 a3 a4 w w0 r1 o1 n1 m1 r2 o2 n2 m2 w3 w4

theorem lifted (os : Os) (started : os.Started) (H : Type) (enc : TypeId × Value → H) :
    ReturnsInHanded {} Tryd.checked os 4 .any (fun w args => (Rows.sheetDecodesSpec.pre enc Tryd.prog Tryd.f4 Rows.sheetDecodesRow.domain false w args ∧ laidMetH Tryd.prog Rows.sheetDecodesRow.laid w) ∧ sizedMet enc Tryd.prog Tryd.f4 (OpenSpec.ofChange Rows.sheetDecodesSpec) false w args)
      (Rows.sheetDecodesSpec.post enc Tryd.prog Tryd.f4 false true false false) := by
  refine returnsInHanded_of_change_and (C := Tryd.checked) (X := fun w _ => laidMetH Tryd.prog Rows.sheetDecodesRow.laid w) (fun _ _ _ hh h => h.of_heap hh) own started (by kernel_rfl) Tryd.func4
    (ChangeSpec.witness_shaped (enc := enc) (C := Tryd.checked) (os := os) (X := fun w _ => laidMetH Tryd.prog Rows.sheetDecodesRow.laid w) false (World.laidAll Tryd.prog os Rows.sheetDecodesRow.laid) #[.string ByteArray.empty, .slice none 0 0, .slice none 0 0, .int .i64 0, .int .u8 0] 8 (World.laidAll_os _ _ _) (World.shaped_of_ZipB (by kernel_rfl) (by kernel_rfl)) (by kernel_rfl) (by kernel_rfl) (by kernel_rfl) (by rw [MakeChecks.laidMetH_plain _ _ _ (by kernel_rfl)]; exact laidMet_laidAll _ (by kernel_rfl) (by kernel_rfl))) ?_
  intro W base args ds gs before hval0 hW hcnd hsz0 hL _
  have hval : ∀ (j : Nat) t v, Tryd.f4.params[j]? = some t → args[j]? = some v → Value.okWide Tryd.prog W .any base t v := hval0
  have hW' := hW
  have hlt : ∀ x ∈ before, x.block < W.heap.size := fun x hx => hW'.lt x hx
  obtain ⟨p, q, hA0, hV, rfl, hfz, hnd⟩ := hW
  have hA : DataW.TrodAll enc Tryd.prog W 0 (fun _ => true) true Tryd.f4.params.toList args.toList ds p := hA0
  rw [Tryd.params4] at hA hval hsz0
  obtain ⟨v0, vs0, d0, ds0, p0, q0, hargs, rfl, rfl, h0, r0⟩ := trodAll_cons hA
  obtain ⟨v1, vs1, d1, ds1, p1, q1, rfl, rfl, rfl, h1, r1⟩ := trodAll_cons r0
  obtain ⟨v2, vs2, d2, ds2, p2, q2, rfl, rfl, rfl, h2, r2⟩ := trodAll_cons r1
  obtain ⟨v3, vs3, d3, ds3, p3, q3, rfl, rfl, rfl, h3, r3⟩ := trodAll_cons r2
  obtain ⟨v4, vs4, d4, ds4, p4, q4, rfl, rfl, rfl, h4, r4⟩ := trodAll_cons r3
  obtain ⟨rfl, rfl, rfl⟩ := trodAll_nil r4
  obtain rfl : args = #[v0, v1, v2, v3, v4] := by cases args; simp_all
  obtain ⟨rfl, rfl⟩ := trodVars_none hV
  have hsz := hsz0; clear hsz0
  have z0 : ∀ n ∈ DataW.weights Tryd.prog 9 d0, n ≤ reachBytes := (fun n hn => by simpa using List.all_eq_true.1 hsz n (DataW.weights_mem_each (j := 0) rfl rfl n hn))
  obtain ⟨a0, rfl, e0, -, -⟩ := open_string Tryd.underlying9 (hval 0 9 v0 rfl rfl) h0
  have w0 : a0.size ≤ 140737488355328 := str_le e0 z0
  obtain ⟨pp1, c1, a1, rfl, n1, m1, y1, o1⟩ := opened_ints (okBase (hval 1 32 v1 rfl rfl)) h1
  obtain ⟨pp2, c2, a2, rfl, n2, m2, y2, o2⟩ := opened_ints (okBase (hval 2 32 v2 rfl rfl)) h2
  obtain ⟨a3, rfl, -, -, w3⟩ := open_int Tryd.underlying3 (hval 3 3 v3 rfl rfl) h3
  obtain ⟨a4, rfl, -, -, w4⟩ := open_int Tryd.underlying5 (hval 4 5 v4 rfl rfl) h4
  clear hA0 hval0
  refine (walk a0 pp1 c1 a1 pp2 c2 a2 a3 a4 W w0 y1 o1 n1 m1 y2 o2 n2 m2 w3 w4).mono fun e W' ⟨he, bel⟩ => ?_
  subst he
  exact ⟨_, rfl, _, _, _, [], _, [], hW', trodAll_mk1 (shut_bool Tryd.underlying4 _), (trodAll_cons_mk (Below.trod laidOut (by kernel_rfl) (of_decide_eq_true (by kernel_rfl)) h0 bel (fun x hx => hlt x (by simp [hx]))) (trodAll_cons_mk (Below.trod laidOut (by kernel_rfl) (of_decide_eq_true (by kernel_rfl)) h1 bel (fun x hx => hlt x (by simp [hx]))) (trodAll_cons_mk (Below.trod laidOut (by kernel_rfl) (of_decide_eq_true (by kernel_rfl)) h2 bel (fun x hx => hlt x (by simp [hx]))) (trodAll_cons_mk (Below.trod laidOut (by kernel_rfl) (of_decide_eq_true (by kernel_rfl)) h3 bel (fun x hx => hlt x (by simp [hx]))) (trodAll_cons_mk (Below.trod laidOut (by kernel_rfl) (of_decide_eq_true (by kernel_rfl)) h4 bel (fun x hx => hlt x (by simp [hx]))) trodAll_mk0))))), rfl, bel.frame _, fun h => by cases h⟩

theorem over : Rows.SheetDecodesSaid :=
  OpenClaim.holds_of_wide 4 Tryd.f4 rfl rfl rfl rfl rfl rfl rfl ⟨rfl, rfl, rfl, rfl, rfl⟩ rfl rfl rfl rfl rfl (by kernel_rfl) Tryd.func4 (by kernel_rfl)
    (of_decide_eq_true (by kernel_rfl)) (by unfold Func.isWrapper; first | (rw [if_pos (by decide +kernel)]; kernel_rfl) | (rw [if_neg (by decide +kernel)]; exact ⟨rfl, rfl⟩))
    (fun os started H enc _ => lifted os started H enc)

theorem proved : Rows.SheetDecodesCardSaid :=
  Claim7.holds_tied_plain_at .later [] [.data, .data, .data] true (true, "a5b6abed314576cd32e3bf15c06510b1206821911040e32ccdbaea1ea5d6fcc3") false
    over (fun _ h => by cases h) (by kernel_rfl) (fun _ h => by cases h) sheetDecodes_row_tie rfl ⟨rfl, rfl⟩ (by kernel_rfl) rfl
    (fun f fn hf hfn => by
      obtain rfl : f = 4 := Option.some.inj ((show Tryd.prog.funcNamed "bitext/bitextlaw9.SheetDecodes" = some 4 by kernel_rfl).symm.trans hf) |>.symm
      obtain rfl : fn = Tryd.f4 := (Option.some.inj (Tryd.func4.symm.trans hfn)).symm
      exact ⟨by kernel_rfl, fun j t ht => by
        rw [Tryd.params4] at ht
        have hm : t ∈ [9, 32, 32, 3, 5] := by simpa using Array.mem_of_getElem? ht
        have hall : ([9, 32, 32, 3, 5].all fun u => !Tryd.prog.wantsStandIn u) = true := by kernel_rfl
        exact (show Tryd.prog.wantsStandIn t = false by simpa using List.all_eq_true.1 hall t hm)⟩)
    (by kernel_rfl)
#print axioms proved
end Go.Proofs.YteaciofacmbllaaDoor.sheetDecodes
