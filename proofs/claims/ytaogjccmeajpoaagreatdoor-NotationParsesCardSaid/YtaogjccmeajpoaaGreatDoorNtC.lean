/- Contracts of readTag, readSlot, readByte. Contracts of readSlot, readByte, readHex, readEscape. The contract of readElement. -/
import Derived.Test.YtaogjccmeajpoaaGreatDoorNtB
import Derived.Test.YtaogjccmeajpoaaGreatDoorFrg
import Derived.Deep.QuietTactic
import Derived.BigQuiet
import Derived.Lib.SlBytesRow
import Derived.Test.YtaogjccmeajpoaaGreatDoorRvl
import Derived.Test.YtaogjccmeajpoaaGreatDoorKno
import Derived.Deep.Cut
namespace Go.Proofs.YtaogjccmeajpoaaGreatDoor
open Go.ChangeShapes Go.WideShapes Go.ChangeAt Go.RowKit
set_option linter.unusedVariables false
set_option linter.unusedSimpArgs false
set_option maxRecDepth 100000

/-- No item. -/
def zI : It := ⟨0, .empty, 0⟩
/-- The result's variable, zero. -/
def zV (W : World) (b : Nat) : Prop := W.heap[b]? = some (.cells #[.int .i64 0, .string ByteArray.empty, .int .i64 0] 43 (0, 0))
theorem zV.new (W : World) : zV (W.alloc (.cells #[.int .i64 0, .string ByteArray.empty, .int .i64 0] 43)) W.heap.size := heap_alloc_new W _
theorem zV.call {W w1 : World} {b : Nat} (h : zV W b) (hb : Below W.heap.size W w1) : zV w1 b := (hb.block b (Array.getElem?_eq_some_iff.1 h).1).trans h
/-- What a reader answers: an item and a number. -/
def EndX (P : It → Nat → Prop) (w : World) (e : Ending) (w' : World) : Prop := ∃ (x : It) (n : Nat), e = .returned (.tuple #[.agg #[.int .i64 x.k, .string x.t, .int .i64 x.id], .int .i64 n]) ∧ P x n ∧ Below w.heap.size w w'
theorem EndX.to {P Q : It → Nat → Prop} {w : World} {e : Ending} {w' : World} (h : EndX P w e w') (hq : ∀ x n, P x n → Q x n) : EndX Q w e w' := by
  obtain ⟨x, n, h1, h2, h3⟩ := h; exact ⟨x, n, h1, hq x n h2, h3⟩
/-- What readTag reads behind the first bracket. -/
def TagOk (r : List UInt8) (x : It) (n : Nat) : Prop :=
  if hasU 62 r = true ∧ hasU 58 (upto 62 r) = true then
    (∃ z, NumOk z (digT (upto 58 (upto 62 r)) (aft 58 (upto 62 r))) ∧ (Lit.int .i64 z).wf = true ∧ x = ⟨kindT (upto 58 (upto 62 r)) (aft 58 (upto 62 r)), bsL (txtT (upto 58 (upto 62 r)) (aft 58 (upto 62 r))), z⟩ ∧ n = (upto 62 r).length + 2)
  else x = zI ∧ n = 0
theorem TagOk.no {r : List UInt8} (h : hasU 62 r = false ∨ hasU 58 (upto 62 r) = false) : TagOk r zI 0 := by
  unfold TagOk
  rw [if_neg (by rintro ⟨a, b⟩; rcases h with h | h; rw [a] at h; cases h; rw [b] at h; cases h)]
  exact ⟨rfl, rfl⟩
theorem TagOk.yes {r d t : List UInt8} {k z : Int} {tx dg : List UInt8} {m : Nat} (h1 : hasU 62 r = true) (h2 : hasU 58 (upto 62 r) = true) (hd : upto 58 (upto 62 r) = d) (ht : aft 58 (upto 62 r) = t) (hm : (upto 62 r).length = m)
    (hk : kindT d t = k) (htx : txtT d t = tx) (hdg : digT d t = dg) (hz : NumOk z dg) (hw : (Lit.int .i64 z).wf = true) : TagOk r ⟨k, bsL tx, z⟩ (m + 2) := by
  unfold TagOk
  rw [if_pos ⟨h1, h2⟩, hd, ht, hk, htx, hdg, hm]
  exact ⟨z, hz, hw, rfl, rfl⟩
-- WALKS
set_option maxHeartbeats 3200000 in
theorem readtag_any (s : ByteArray) (r : List UInt8) (base : Nat) (w : World) (h1 : 1 ≤ s.size) (hr : s.data.toList.drop 1 = r) (hs : s.size ≤ 1000000000000) (hb : base ≤ w.heap.size) (hE : Env base w) :
    Calls Tryz.prog 39 #[.string s] w (EndX (TagOk r) w) := by
  have hrl : r.length ≤ s.size := by rw [← hr]; simp
  have hul := upto_le 62 r
  have hs1 : (s.extract 1 s.size).size ≤ maxLen := by unfold maxLen; simp; omega
  have ha := fun W => cutc_any (s.extract 1 s.size) 62 W hs1
  have e1 : (s.extract 1 s.size).data.toList = r := by rw [← hr, extract_drop, bsL_list]
  rw [e1] at ha
  have hs2 : (bsL (upto 62 r)).size ≤ maxLen := by unfold maxLen; rw [bsL_size]; omega
  have hc := fun W => cutc_any (bsL (upto 62 r)) 58 W hs2
  rw [bsL_list] at hc
  have hsi : (bsL (upto 62 r)).size = (upto 62 r).length := bsL_size _
  have hdl := upto_le 58 (upto 62 r)
  have htl : (aft 58 (upto 62 r)).length ≤ (upto 62 r).length := by unfold aft; simp
  have hno := fun h => @TagOk.no r h
  have hyes := fun k z tx dg h1 h2 h3 h4 h5 h6 h7 => @TagOk.yes r (upto 58 (upto 62 r)) (aft 58 (upto 62 r)) k z tx dg (upto 62 r).length h1 h2 rfl rfl rfl h3 h4 h5 h6 h7
  have HA := Lib.hid ha; have HC := Lib.hid hc; have HNO := Lib.hid hno; have HYES := Lib.hid hyes
  have q1 : ¬ (s.size : Int) < 1 := by omega
  clear ha hc hno hyes e1 hr
  generalize hF : hasU 62 r = F at *
  generalize hG : hasU 58 (upto 62 r) = G at *
  have HF := Lib.hid hF; have HG := Lib.hid hG
  clear hF hG
  generalize upto 58 (upto 62 r) = d at *
  generalize aft 58 (upto 62 r) = t at *
  generalize hm : (upto 62 r).length = m at *
  have hZ := zV.new w
  have hBa := blw (Below.refl w.heap.size w) (.cells #[.int .i64 0, .string ByteArray.empty, .int .i64 0] 43)
  have HM := Lib.hid hm
  have HSI := Lib.hid hsi
  clear hm hsi
  generalize bsL (upto 62 r) = ins at *
  generalize hR : (bsL (aft 62 r)) = rest at *
  clear hR
  cases F
  · have HT := Lib.hid (HNO.out (.inl rfl))
    go_enter Tryz.func39, Tryz.ntmps39
    go_wp2_with fail
    refine (HA.out _).mono ?_; rintro e w1 ⟨rfl, hb1⟩
    have hZ1 := hZ.call hb1
    have hB1 := BelowOn hBa hb1
    clear hZ
    go_wp2_with fail
    refine (HC.out _).mono ?_; rintro e w2 ⟨rfl, hb2⟩
    have hV := hZ1.call hb2
    have hB := BelowOn hB1 hb2
    obtain ⟨v0, v1, v2, v3, v4, v5⟩ := cells_item hV
    go_wp2_with fail
    have hWz := heap_set3 (a' := .int .i64 0) (b' := .string ⟨#[]⟩) (c' := .int .i64 0) hV
    have hBz := ((hB.setCell (p := ⟨w.heap.size, 0, none⟩) (Nat.le_refl _) (.int .i64 0)).setCell (p := ⟨w.heap.size, 1, none⟩) (Nat.le_refl _) (.string ⟨#[]⟩)).setCell (p := ⟨w.heap.size, 2, none⟩) (Nat.le_refl _) (.int .i64 0)
    generalize (((w2.setCell ⟨w.heap.size, 0, none⟩ (.int .i64 0)).setCell ⟨w.heap.size, 1, none⟩ (.string ⟨#[]⟩)).setCell ⟨w.heap.size, 2, none⟩ (.int .i64 0)) = wz at *
    obtain ⟨z0, z1, z2, _⟩ := cells_item hWz
    (try simp only [Exit.inBlock, Exit.then])
    refine bodyPost_ret (v := .tuple #[.agg #[.int .i64 0, .string ⟨#[]⟩, .int .i64 0], .int .i64 0]) (by simp [results, Tryz.results39, go_sem, z0, z1, z2]; try rfl) rfl ⟨⟨0, ⟨#[]⟩, 0⟩, 0, rfl, HT.out, hBz⟩
  cases G
  · have HT := Lib.hid (HNO.out (.inr rfl))
    go_enter Tryz.func39, Tryz.ntmps39
    go_wp2_with fail
    refine (HA.out _).mono ?_; rintro e w1 ⟨rfl, hb1⟩
    have hZ1 := hZ.call hb1
    have hB1 := BelowOn hBa hb1
    clear hZ
    go_wp2_with fail
    refine (HC.out _).mono ?_; rintro e w2 ⟨rfl, hb2⟩
    have hV := hZ1.call hb2
    have hB := BelowOn hB1 hb2
    obtain ⟨v0, v1, v2, v3, v4, v5⟩ := cells_item hV
    go_wp2_with fail
    have hWz := heap_set3 (a' := .int .i64 0) (b' := .string ⟨#[]⟩) (c' := .int .i64 0) hV
    have hBz := ((hB.setCell (p := ⟨w.heap.size, 0, none⟩) (Nat.le_refl _) (.int .i64 0)).setCell (p := ⟨w.heap.size, 1, none⟩) (Nat.le_refl _) (.string ⟨#[]⟩)).setCell (p := ⟨w.heap.size, 2, none⟩) (Nat.le_refl _) (.int .i64 0)
    generalize (((w2.setCell ⟨w.heap.size, 0, none⟩ (.int .i64 0)).setCell ⟨w.heap.size, 1, none⟩ (.string ⟨#[]⟩)).setCell ⟨w.heap.size, 2, none⟩ (.int .i64 0)) = wz at *
    obtain ⟨z0, z1, z2, _⟩ := cells_item hWz
    (try simp only [Exit.inBlock, Exit.then])
    refine bodyPost_ret (v := .tuple #[.agg #[.int .i64 0, .string ⟨#[]⟩, .int .i64 0], .int .i64 0]) (by simp [results, Tryz.results39, go_sem, z0, z1, z2]; try rfl) rfl ⟨⟨0, ⟨#[]⟩, 0⟩, 0, rfl, HT.out, hBz⟩
  have hp := fun W => cutprefix_any (bsL d) 47 W
  have hq := fun W => cutsuffix_any (bsL t) 47 W (by unfold maxLen; rw [bsL_size]; omega)
  rw [bsL_list] at hp hq
  by_cases hd : d.head? = some 47
  · have e2 : hdB 47 d = true := decide_eq_true hd
    have e3 : tlB 47 d = digT d t := by unfold tlB digT; rw [if_pos hd]
    have e4 : kindT d t = 3 := if_pos hd
    have e5 : txtT d t = t := if_pos hd
    rw [e2, e3] at hp
    have hn := fun W h h2 => readnumber_any (bsL (digT d t)) base W (by rw [bsL_size]; rw [← e3]; unfold tlB; rw [if_pos hd]; simp; omega) h h2
    rw [bsL_list] at hn
    have HP := Lib.hid hp; have HN := Lib.hid hn
    have HT := Lib.hid (fun z => HYES.out 3 z t (digT d t) rfl rfl e4 e5 rfl)
    clear hp hq hn e2 e3 e4 e5 hd
    generalize digT d t = dg at *
    go_enter Tryz.func39, Tryz.ntmps39
    go_wp2_with fail
    refine (HA.out _).mono ?_; rintro e w1 ⟨rfl, hb1⟩
    have hZ1 := hZ.call hb1
    have hB1 := BelowOn hBa hb1
    clear hZ
    go_wp2_with fail
    refine (HC.out _).mono ?_; rintro e w2 ⟨rfl, hb2⟩
    have hZ2 := hZ1.call hb2
    have hB2 := BelowOn hB1 hb2
    go_wp2_with fail
    refine (HP.out _).mono ?_; rintro e w3 ⟨rfl, rfl⟩
    go_wp2_with fail
    refine (HN.out _ (Nat.le_trans hb hB2.size) (hE.call (hB2.mono hb))).mono ?_; rintro e w3 ⟨z, rfl, hz, hwf, hb3⟩
    have hV := hZ2.call hb3
    have hB := BelowOn hB2 hb3
    obtain ⟨v0, v1, v2, v3, v4, v5⟩ := cells_item hV
    have HZ := Lib.hid (HT.out z hz hwf)
    have hsi := HSI.out
    go_wp2_with fail
    have hWz := heap_set3 (a' := .int .i64 3) (b' := .string (bsL t)) (c' := .int .i64 z) hV
    have hBz := ((hB.setCell (p := ⟨w.heap.size, 0, none⟩) (Nat.le_refl _) (.int .i64 3)).setCell (p := ⟨w.heap.size, 1, none⟩) (Nat.le_refl _) (.string (bsL t))).setCell (p := ⟨w.heap.size, 2, none⟩) (Nat.le_refl _) (.int .i64 z)
    generalize (((w3.setCell ⟨w.heap.size, 0, none⟩ (.int .i64 3)).setCell ⟨w.heap.size, 1, none⟩ (.string (bsL t))).setCell ⟨w.heap.size, 2, none⟩ (.int .i64 z)) = wz at *
    obtain ⟨z0, z1, z2, _⟩ := cells_item hWz
    (try simp only [Exit.inBlock, Exit.then])
    refine bodyPost_ret (v := .tuple #[.agg #[.int .i64 3, .string (bsL t), .int .i64 z], .int .i64 (1 + (m : Int) + 1)]) (by simp [results, Tryz.results39, go_sem, z0, z1, z2]; try rfl) rfl ⟨⟨3, (bsL t), z⟩, (m + 2), by rw [show ((1 + (m : Int) + 1) : Int) = (((m + 2) : Nat) : Int) by omega], HZ.out, hBz⟩
  have e2 : hdB 47 d = false := decide_eq_false hd
  have e3 : digT d t = d := if_neg hd
  rw [e2] at hp
  have hn := fun W h h2 => readnumber_any (bsL d) base W (by rw [bsL_size]; omega) h h2
  rw [bsL_list] at hn
  by_cases hl : t.getLast? = some 47
  · have e4 : kindT d t = 4 := by unfold kindT; rw [if_neg hd, if_pos hl]
    have e5 : txtT d t = t.dropLast := by unfold txtT; rw [if_neg hd, if_pos hl]
    have e6 : laB 47 t = true := decide_eq_true hl
    have e7 : inB 47 t = t.dropLast := if_pos hl
    rw [e6, e7] at hq
    have HP := Lib.hid hp; have HN := Lib.hid hn; have HQ := Lib.hid hq
    have HT := Lib.hid (fun z => HYES.out 4 z (t.dropLast) d rfl rfl e4 e5 e3)
    clear hp hq hn e2 e3 e4 e5 hd e6 e7 hl
    generalize bsL (tlB 47 d) = dz at *
    generalize bsL (t.dropLast) = tt at *
    go_enter Tryz.func39, Tryz.ntmps39
    go_wp2_with fail
    refine (HA.out _).mono ?_; rintro e w1 ⟨rfl, hb1⟩
    have hZ1 := hZ.call hb1
    have hB1 := BelowOn hBa hb1
    clear hZ
    go_wp2_with fail
    refine (HC.out _).mono ?_; rintro e w2 ⟨rfl, hb2⟩
    have hZ2 := hZ1.call hb2
    have hB2 := BelowOn hB1 hb2
    go_wp2_with fail
    refine (HP.out _).mono ?_; rintro e w3 ⟨rfl, rfl⟩
    go_wp2_with fail
    refine (HQ.out _).mono ?_; rintro e w3 ⟨rfl, rfl⟩
    go_wp2_with fail
    refine (HN.out _ (Nat.le_trans hb hB2.size) (hE.call (hB2.mono hb))).mono ?_; rintro e w3 ⟨z, rfl, hz, hwf, hb3⟩
    have hV := hZ2.call hb3
    have hB := BelowOn hB2 hb3
    obtain ⟨v0, v1, v2, v3, v4, v5⟩ := cells_item hV
    have HZ := Lib.hid (HT.out z hz hwf)
    have hsi := HSI.out
    go_wp2_with fail
    have hWz := heap_set3 (a' := .int .i64 4) (b' := .string tt) (c' := .int .i64 z) hV
    have hBz := ((hB.setCell (p := ⟨w.heap.size, 0, none⟩) (Nat.le_refl _) (.int .i64 4)).setCell (p := ⟨w.heap.size, 1, none⟩) (Nat.le_refl _) (.string tt)).setCell (p := ⟨w.heap.size, 2, none⟩) (Nat.le_refl _) (.int .i64 z)
    generalize (((w3.setCell ⟨w.heap.size, 0, none⟩ (.int .i64 4)).setCell ⟨w.heap.size, 1, none⟩ (.string tt)).setCell ⟨w.heap.size, 2, none⟩ (.int .i64 z)) = wz at *
    obtain ⟨z0, z1, z2, _⟩ := cells_item hWz
    (try simp only [Exit.inBlock, Exit.then])
    refine bodyPost_ret (v := .tuple #[.agg #[.int .i64 4, .string tt, .int .i64 z], .int .i64 (1 + (m : Int) + 1)]) (by simp [results, Tryz.results39, go_sem, z0, z1, z2]; try rfl) rfl ⟨⟨4, tt, z⟩, (m + 2), by rw [show ((1 + (m : Int) + 1) : Int) = (((m + 2) : Nat) : Int) by omega], HZ.out, hBz⟩
  · have e4 : kindT d t = 2 := by unfold kindT; rw [if_neg hd, if_neg hl]
    have e5 : txtT d t = t := by unfold txtT; rw [if_neg hd, if_neg hl]
    have e6 : laB 47 t = false := decide_eq_false hl
    have e7 : inB 47 t = t := if_neg hl
    rw [e6, e7] at hq
    have HP := Lib.hid hp; have HN := Lib.hid hn; have HQ := Lib.hid hq
    have HT := Lib.hid (fun z => HYES.out 2 z (t) d rfl rfl e4 e5 e3)
    clear hp hq hn e2 e3 e4 e5 hd e6 e7 hl
    generalize bsL (tlB 47 d) = dz at *
    generalize bsL (t) = tt at *
    go_enter Tryz.func39, Tryz.ntmps39
    go_wp2_with fail
    refine (HA.out _).mono ?_; rintro e w1 ⟨rfl, hb1⟩
    have hZ1 := hZ.call hb1
    have hB1 := BelowOn hBa hb1
    clear hZ
    go_wp2_with fail
    refine (HC.out _).mono ?_; rintro e w2 ⟨rfl, hb2⟩
    have hZ2 := hZ1.call hb2
    have hB2 := BelowOn hB1 hb2
    go_wp2_with fail
    refine (HP.out _).mono ?_; rintro e w3 ⟨rfl, rfl⟩
    go_wp2_with fail
    refine (HQ.out _).mono ?_; rintro e w3 ⟨rfl, rfl⟩
    go_wp2_with fail
    refine (HN.out _ (Nat.le_trans hb hB2.size) (hE.call (hB2.mono hb))).mono ?_; rintro e w3 ⟨z, rfl, hz, hwf, hb3⟩
    have hV := hZ2.call hb3
    have hB := BelowOn hB2 hb3
    obtain ⟨v0, v1, v2, v3, v4, v5⟩ := cells_item hV
    have HZ := Lib.hid (HT.out z hz hwf)
    have hsi := HSI.out
    go_wp2_with fail
    have hWz := heap_set3 (a' := .int .i64 2) (b' := .string tt) (c' := .int .i64 z) hV
    have hBz := ((hB.setCell (p := ⟨w.heap.size, 0, none⟩) (Nat.le_refl _) (.int .i64 2)).setCell (p := ⟨w.heap.size, 1, none⟩) (Nat.le_refl _) (.string tt)).setCell (p := ⟨w.heap.size, 2, none⟩) (Nat.le_refl _) (.int .i64 z)
    generalize (((w3.setCell ⟨w.heap.size, 0, none⟩ (.int .i64 2)).setCell ⟨w.heap.size, 1, none⟩ (.string tt)).setCell ⟨w.heap.size, 2, none⟩ (.int .i64 z)) = wz at *
    obtain ⟨z0, z1, z2, _⟩ := cells_item hWz
    (try simp only [Exit.inBlock, Exit.then])
    refine bodyPost_ret (v := .tuple #[.agg #[.int .i64 2, .string tt, .int .i64 z], .int .i64 (1 + (m : Int) + 1)]) (by simp [results, Tryz.results39, go_sem, z0, z1, z2]; try rfl) rfl ⟨⟨2, tt, z⟩, (m + 2), by rw [show ((1 + (m : Int) + 1) : Int) = (((m + 2) : Nat) : Int) by omega], HZ.out, hBz⟩
end Go.Proofs.YtaogjccmeajpoaaGreatDoor
namespace Go.Proofs.YtaogjccmeajpoaaGreatDoor
open Go.ChangeShapes Go.WideShapes Go.ChangeAt Go.RowKit
set_option linter.unusedVariables false
set_option linter.unusedSimpArgs false
set_option maxRecDepth 100000

def SlotOk (r : List UInt8) (x : It) (n : Nat) : Prop := if hasU 125 r = true then x = ⟨5, bsL (upto 125 r), 0⟩ ∧ n = (upto 125 r).length + 2 else x = zI ∧ n = 0
set_option maxHeartbeats 1600000 in
theorem readslot_any (s : ByteArray) (r : List UInt8) (w : World) (h1 : 1 ≤ s.size) (hr : s.data.toList.drop 1 = r) (hs : s.size ≤ 1000000000000) :
    Calls Tryz.prog 40 #[.string s] w (EndX (SlotOk r) w) := by
  have hrl : r.length ≤ s.size := by rw [← hr]; simp
  have hul := upto_le 125 r
  have hs1 : (s.extract 1 s.size).size ≤ maxLen := by unfold maxLen; simp; omega
  have ha := fun W => cutc_any (s.extract 1 s.size) 125 W hs1
  have e1 : (s.extract 1 s.size).data.toList = r := by rw [← hr, extract_drop, bsL_list]
  rw [e1] at ha
  have hsi : (bsL (upto 125 r)).size = (upto 125 r).length := bsL_size _
  have hf : ∀ x n, SlotOk r x n = (if hasU 125 r = true then x = ⟨5, bsL (upto 125 r), 0⟩ ∧ n = (upto 125 r).length + 2 else x = zI ∧ n = 0) := fun _ _ => rfl
  have HA := Lib.hid ha
  have q1 : ¬ (s.size : Int) < 1 := by omega
  have HSI := Lib.hid hsi
  have HFF := Lib.hid hf
  clear ha e1 hr hsi hf
  generalize hasU 125 r = F at *
  generalize hm : (upto 125 r).length = m at *
  clear hm
  have hZ := zV.new w
  have hBa := blw (Below.refl w.heap.size w) (.cells #[.int .i64 0, .string ByteArray.empty, .int .i64 0] 43)
  generalize bsL (upto 125 r) = ins at *
  generalize bsL (aft 125 r) = rest at *
  cases F
  · have HT : Hid (SlotOk r zI 0) := Lib.hid (by rw [HFF.out, if_neg (by simp)]; exact ⟨rfl, rfl⟩)
    go_enter Tryz.func40, Tryz.ntmps40
    go_wp2_with fail
    refine (HA.out _).mono ?_; rintro e w1 ⟨rfl, hb1⟩
    have hV := hZ.call hb1
    have hB := BelowOn hBa hb1
    clear hZ
    obtain ⟨v0, v1, v2, v3, v4, v5⟩ := cells_item hV
    go_wp2_with fail
    have hWz := heap_set3 (a' := .int .i64 0) (b' := .string ⟨#[]⟩) (c' := .int .i64 0) hV
    have hBz := ((hB.setCell (p := ⟨w.heap.size, 0, none⟩) (Nat.le_refl _) (.int .i64 0)).setCell (p := ⟨w.heap.size, 1, none⟩) (Nat.le_refl _) (.string ⟨#[]⟩)).setCell (p := ⟨w.heap.size, 2, none⟩) (Nat.le_refl _) (.int .i64 0)
    generalize (((w1.setCell ⟨w.heap.size, 0, none⟩ (.int .i64 0)).setCell ⟨w.heap.size, 1, none⟩ (.string ⟨#[]⟩)).setCell ⟨w.heap.size, 2, none⟩ (.int .i64 0)) = wz at *
    obtain ⟨z0, z1, z2, _⟩ := cells_item hWz
    (try simp only [Exit.inBlock, Exit.then])
    refine bodyPost_ret (v := .tuple #[.agg #[.int .i64 0, .string ⟨#[]⟩, .int .i64 0], .int .i64 0]) (by simp [results, Tryz.results40, go_sem, z0, z1, z2]; try rfl) rfl ⟨⟨0, ⟨#[]⟩, 0⟩, 0, rfl, HT.out, hBz⟩
  · have HT : Hid (SlotOk r ⟨5, ins, 0⟩ (m + 2)) := Lib.hid (by rw [HFF.out, if_pos rfl]; exact ⟨rfl, rfl⟩)
    go_enter Tryz.func40, Tryz.ntmps40
    go_wp2_with fail
    refine (HA.out _).mono ?_; rintro e w1 ⟨rfl, hb1⟩
    have hV := hZ.call hb1
    have hB := BelowOn hBa hb1
    clear hZ
    obtain ⟨v0, v1, v2, v3, v4, v5⟩ := cells_item hV
    have hsi := HSI.out
    go_wp2_with fail
    have hWz := heap_set3 (a' := .int .i64 5) (b' := .string ins) (c' := .int .i64 0) hV
    have hBz := ((hB.setCell (p := ⟨w.heap.size, 0, none⟩) (Nat.le_refl _) (.int .i64 5)).setCell (p := ⟨w.heap.size, 1, none⟩) (Nat.le_refl _) (.string ins)).setCell (p := ⟨w.heap.size, 2, none⟩) (Nat.le_refl _) (.int .i64 0)
    generalize (((w1.setCell ⟨w.heap.size, 0, none⟩ (.int .i64 5)).setCell ⟨w.heap.size, 1, none⟩ (.string ins)).setCell ⟨w.heap.size, 2, none⟩ (.int .i64 0)) = wz at *
    obtain ⟨z0, z1, z2, _⟩ := cells_item hWz
    (try simp only [Exit.inBlock, Exit.then])
    refine bodyPost_ret (v := .tuple #[.agg #[.int .i64 5, .string ins, .int .i64 0], .int .i64 (1 + (m : Int) + 1)]) (by simp [results, Tryz.results40, go_sem, z0, z1, z2]; try rfl) rfl ⟨⟨5, ins, 0⟩, (m + 2), by rw [show ((1 + (m : Int) + 1) : Int) = (((m + 2) : Nat) : Int) by omega], HT.out, hBz⟩

theorem first_byte (s : ByteArray) (c : UInt8) (r : List UInt8) (h : s.data.toList = c :: r) : ∃ h0 : 0 < s.size, s[0] = c ∧ s.extract 0 1 = ⟨#[c]⟩ ∧ s.data.toList.drop 1 = r := by
  have hl : s.data.toList.length = s.size := by simp
  have h0 : 0 < s.size := by rw [← hl, h]; simp
  refine ⟨h0, ?_, ?_, by rw [h]; rfl⟩
  · have := byte_getD s 0 h0
    rw [h] at this
    exact this.symm
  · rw [extract_take, h]; rfl
def ByteOk (c : UInt8) (x : It) (n : Nat) : Prop := if sg c = 0 then x = bT c ∧ n = 1 else x = zI ∧ n = 0
theorem sg_zero_int (c : UInt8) : ((sg c).toNat : Int) = 0 ↔ sg c = 0 := by
  constructor
  · intro h; apply UInt8.toNat_inj.1; show _ = 0; omega
  · intro h; rw [h]; rfl
set_option maxHeartbeats 1600000 in
theorem readbyte_any (s : ByteArray) (c : UInt8) (r : List UInt8) (w : World) (hr : s.data.toList = c :: r) (hs : s.size ≤ 1000000000000) :
    Calls Tryz.prog 42 #[.string s] w (EndX (ByteOk c) w) := by
  obtain ⟨h0, hb, hex, _⟩ := first_byte s c r hr
  have hsg := fun w => sign_any (s[0].toNat : Int) w (by omega) (by have := s[0].toNat_lt; omega)
  rw [← sg_toNat] at hsg
  have hz := sg_zero_int s[0]
  have HS := Lib.hid hsg
  have q1 : ¬ (s.size : Int) < 1 := by omega
  have q2 : (0 : Int) < (s.size : Int) := by omega
  have hZ := zV.new w
  have hBa := blw (Below.refl w.heap.size w) (.cells #[.int .i64 0, .string ByteArray.empty, .int .i64 0] 43)
  have HEX := Lib.hid hex
  have HB := Lib.hid hb
  clear hsg hr hex hb
  have hV := hZ; have hB := hBa
  by_cases hc : sg s[0] = 0
  · have HT : Hid (ByteOk c (bT c) 1) := Lib.hid (by unfold ByteOk; rw [← HB.out, if_pos hc]; exact ⟨rfl, rfl⟩)
    have q3 : (((sg s[0]).toNat : Int) == 0) = true := by simpa using hz.2 hc
    have hx1 : s.extract 0 1 = ⟨#[c]⟩ := HEX.out
    clear hc hz
    obtain ⟨v0, v1, v2, v3, v4, v5⟩ := cells_item hV
    go_enter Tryz.func42, Tryz.ntmps42
    go_wp2_with fail
    refine (HS.out _).mono ?_; rintro e w1 ⟨rfl, rfl⟩
    go_wp2_with fail
    (try simp only [Exit.inBlock, Exit.then])
    refine bodyPost_ret (v := .tuple #[.agg #[.int .i64 1, .string ⟨#[c]⟩, .int .i64 0], .int .i64 1]) (by simp [results, Tryz.results42, go_sem]; try rfl) rfl ⟨⟨1, ⟨#[c]⟩, 0⟩, 1, rfl, HT.out, blw (Below.refl _ _) _⟩
  · have HT : Hid (ByteOk c zI 0) := Lib.hid (by unfold ByteOk; rw [← HB.out, if_neg hc]; exact ⟨rfl, rfl⟩)
    have q3 : (((sg s[0]).toNat : Int) == 0) = false := by simpa using fun h => hc (hz.1 h)
    clear hc hz
    obtain ⟨v0, v1, v2, v3, v4, v5⟩ := cells_item hV
    go_enter Tryz.func42, Tryz.ntmps42
    go_wp2_with fail
    refine (HS.out _).mono ?_; rintro e w1 ⟨rfl, rfl⟩
    go_wp2_with fail
    (try simp only [Exit.inBlock, Exit.then])
    refine bodyPost_ret (v := .tuple #[.agg #[.int .i64 0, .string ⟨#[]⟩, .int .i64 0], .int .i64 0]) (by simp [results, Tryz.results42, go_sem]; try rfl) rfl ⟨⟨0, ⟨#[]⟩, 0⟩, 0, rfl, HT.out, blw (Below.refl _ _) _⟩

/-! ### escapes -/
theorem hexIndex : ∀ c : UInt8, Lib.indexByte [48, 49, 50, 51, 52, 53, 54, 55, 56, 57, 97, 98, 99, 100, 101, 102] c = if hxV c < 16 then (hxV c : Int) else -1 := all_u8 (by decide +kernel)
theorem nat_u8 (c : UInt8) : ((c.toNat : Int).toNat).toUInt8 = c := by simp
/-- What readHex answers. -/
def EndH (r : List UInt8) (w : World) (e : Ending) (w' : World) : Prop := ∃ (b : UInt8) (n : Nat), e = .returned (.tuple #[.int .u8 b.toNat, .int .i64 n]) ∧ ((∃ u v t, r = u :: v :: t ∧ hxV u < 16 ∧ hxV v < 16 ∧ b = UInt8.ofNat (16 * hxV u + hxV v) ∧ n = 4) ∨ (n = 0 ∧ b = 0 ∧ ∀ u v t, r = u :: v :: t → ¬ (hxV u < 16 ∧ hxV v < 16))) ∧ Below w.heap.size w w'
theorem indexhex_any (c : UInt8) (w : World) : Calls Tryz.prog 77 #[.string ⟨#[48, 49, 50, 51, 52, 53, 54, 55, 56, 57, 97, 98, 99, 100, 101, 102]⟩, .int .u8 (c.toNat : Int)] w fun e w' => e = .returned (.int .i64 (if hxV c < 16 then (hxV c : Int) else -1)) ∧ w' = w := by
  refine (Tryz.strings_IndexByte _ (c.toNat : Int) w).mono fun e w' ⟨he, hw⟩ => ⟨?_, hw⟩
  rw [he, nat_u8]
  show Ending.returned (.int .i64 (Lib.indexByte [48, 49, 50, 51, 52, 53, 54, 55, 56, 57, 97, 98, 99, 100, 101, 102] c)) = _
  rw [hexIndex]
theorem below_drewN (w : World) (n : Nat) : Below w.heap.size w (w.drewN n) := ⟨rfl, rfl, rfl, Nat.le_refl _, fun _ _ => rfl⟩
set_option maxHeartbeats 1600000 in
theorem readhex_any (s : ByteArray) (r : List UInt8) (w : World) (hr : s.data.toList.drop 2 = r) (hs : s.size ≤ 1000000000000) :
    Calls Tryz.prog 65 #[.string s] w (EndH r w) := by
  have hl : s.data.toList.length = s.size := by simp
  by_cases h4 : s.size < 4
  · have hE : ∀ w', Below w.heap.size w w' → EndH r w (.returned (.tuple #[.int .u8 0, .int .i64 0])) w' := fun w' hb => ⟨0, 0, rfl, .inr ⟨rfl, rfl, fun u v t e => by
      have : r.length = s.size - 2 := by rw [← hr]; simp
      rw [e] at this; simp at this; omega⟩, hb⟩
    have HE := Lib.hid hE; clear hE hl hr
    go_enter Tryz.func65, Tryz.ntmps65
    go_wp2_with fail
    go_ret2
    exact HE.out _ (Below.refl _ _)
  · have g2 : 2 < s.size := by omega
    have g3 : 3 < s.size := by omega
    have hr2 : r = s[2]'g2 :: s[3]'g3 :: s.data.toList.drop 4 := by
      rw [← hr, List.drop_eq_getElem_cons (by omega), List.drop_eq_getElem_cons (by omega)]; rfl
    have b2 : (0 : Int) ≤ 2 := by omega
    have q4 : ¬ (s.size : Int) < 4 := by omega
    have q4' : (2 : Int) < (s.size : Int) := by omega
    have q4'' : (3 : Int) < (s.size : Int) := by omega
    have i1 := fun w => indexhex_any (s[2]'g2) w
    have i2 := fun w => indexhex_any (s[3]'g3) w
    have HR := Lib.hid hr2
    clear hr hl hr2
    have hfin : ∀ n, hxV (s[2]'g2) < 16 → hxV (s[3]'g3) < 16 → EndH r w (.returned (.tuple #[.int .u8 ((UInt8.ofNat (16 * hxV (s[2]'g2) + hxV (s[3]'g3))).toNat : Int), .int .i64 4])) (w.drewN n) := fun n h1 h2 => ⟨_, 4, rfl, .inl ⟨_, _, _, HR.out, h1, h2, rfl, rfl⟩, below_drewN w n⟩
    have hnot : ∀ n, ¬ (hxV (s[2]'g2) < 16 ∧ hxV (s[3]'g3) < 16) → EndH r w (.returned (.tuple #[.int .u8 0, .int .i64 0])) (w.drewN n) := fun n h1 => ⟨0, 0, rfl, .inr ⟨rfl, rfl, fun u v t e => by
      have := HR.out.symm.trans e
      injection this with a1 a2
      injection a2 with a2 a3
      rw [← a1, ← a2]; exact h1⟩, below_drewN w n⟩
    have HF := Lib.hid hfin; have HN := Lib.hid hnot
    clear hfin hnot HR
    by_cases h1 : hxV (s[2]'g2) < 16
    · by_cases h2 : hxV (s[3]'g3) < 16
      · have i1' := fun w => by have := i1 w; rw [if_pos h1] at this; exact this
        have i2' := fun w => by have := i2 w; rw [if_pos h2] at this; exact this
        have I1 := Lib.hid i1'; have I2 := Lib.hid i2'
        have HF2 := Lib.hid (fun n => HF.out n h1 h2)
        clear i1 i2 i1' i2' HF HN
        generalize hxV (s[2]'g2) = u at *
        generalize hxV (s[3]'g3) = v at *
        go_enter Tryz.func65, Tryz.ntmps65
        go_wp2_with fail
        go_quiet ((first | (exact Calls.quiet_of_same (I1.out _)) | (exact Calls.quiet_of_same (I2.out _))))
        have l1 : (u : Int) < 16 := by omega
        have l2 : (v : Int) < 16 := by omega
        go_wp2_with fail
        go_ret2
        have hf := HF2.out nq
        rw [show ((UInt8.ofNat (16 * u + v)).toNat : Int) = 16 * (u : Int) + (v : Int) by rw [UInt8.toNat_ofNat']; omega] at hf
        exact hf
      · have i1' := fun w => by have := i1 w; rw [if_pos h1] at this; exact this
        have i2' := fun w => by have := i2 w; rw [if_neg h2] at this; exact this
        have I1 := Lib.hid i1'; have I2 := Lib.hid i2'
        have HN2 := Lib.hid (fun n => HN.out n (fun h => h2 h.2))
        clear i1 i2 i1' i2' HF HN h2
        generalize hxV (s[2]'g2) = u at *
        go_enter Tryz.func65, Tryz.ntmps65
        go_wp2_with fail
        go_quiet ((first | (exact Calls.quiet_of_same (I1.out _)) | (exact Calls.quiet_of_same (I2.out _))))
        have l1 : (u : Int) < 16 := by omega
        go_wp2_with fail
        go_ret2
        exact HN2.out _
    · have i1' := fun w => by have := i1 w; rw [if_neg h1] at this; exact this
      have I1 := Lib.hid i1'
      have HN2 := Lib.hid (fun n => HN.out n (fun h => h1 h.1))
      clear i1 i1' HF HN h1
      obtain ⟨z, hz⟩ : ∃ z : Int, (if hxV (s[3]'g3) < 16 then (hxV (s[3]'g3) : Int) else -1) = z := ⟨_, rfl⟩
      rw [hz] at i2
      have I2 := Lib.hid i2
      clear i2 hz
      go_enter Tryz.func65, Tryz.ntmps65
      go_wp2_with fail
      go_quiet ((first | (exact Calls.quiet_of_same (I1.out _)) | (exact Calls.quiet_of_same (I2.out _))))
      go_wp2_with fail
      go_ret2
      exact HN2.out _

/-! ### readEscape -/
theorem conv_one {w : World} (c : UInt8) (B : Nat) (hB : w.heap[B]? = some (.cells #[.int .u8 (c.toNat : Int)] 5 (0, 0))) :
    (convert 31 9 (.slice (some ⟨B, 0, none⟩) 1 1)).run Tryz.prog w = .ok (.string ⟨#[c]⟩) w :=
  Lib.run_convert_whole (P := Tryz.prog) w 31 5 9 Tryz.underlying31 Tryz.underlying5 Tryz.underlying9 B 0 ⟨#[c]⟩ (fun i hi => by
    have hi' : i < 1 := hi
    obtain rfl : i = 0 := by omega
    rw [Nat.add_zero, Lib.cell_of_heap hB]; rfl) 1
def OptOk (o : Option (It × Nat)) (x : It) (n : Nat) : Prop := match o with | some y => x = y.1 ∧ n = y.2 | none => x = zI ∧ n = 0
theorem u8_int_ne {a b : UInt8} (h : a ≠ b) : ((a.toNat : Int) == (b.toNat : Int)) = false := by
  rw [beq_eq_false_iff_ne]; intro e; exact h (UInt8.toNat_inj.1 (by omega))
theorem u8_int_eq {a b : UInt8} (h : a = b) : ((a.toNat : Int) == (b.toNat : Int)) = true := by rw [h]; simp
theorem rdEsc_120 (r : List UInt8) : rdEsc (120 :: r) = rdHex r := by rw [rdEsc_cons, if_pos rfl]
theorem rdHex_none (r : List UInt8) (h : ∀ u v t, r = u :: v :: t → ¬ (hxV u < 16 ∧ hxV v < 16)) : rdHex r = none := by
  match r with
  | [] => rfl
  | [_] => rfl
  | u :: v :: t => rw [rdHex_two, if_neg (fun hh => h u v t rfl ⟨hh.1, hh.2.1⟩)]
set_option maxHeartbeats 3200000 in
theorem readescape_any (s : ByteArray) (r : List UInt8) (w : World) (h1 : 1 ≤ s.size) (hr : s.data.toList.drop 1 = r) (hs : s.size ≤ 1000000000000) :
    Calls Tryz.prog 41 #[.string s] w (EndX (OptOk (rdEsc r)) w) := by
  have hl : s.data.toList.length = s.size := by simp
  have hZ := zV.new w
  have hBa := blw (Below.refl w.heap.size w) (.cells #[.int .i64 0, .string ByteArray.empty, .int .i64 0] 43)
  by_cases h2 : s.size < 2
  · have hr0 : r = [] := by rw [← hr]; exact List.drop_of_length_le (by omega)
    have HT : Hid (OptOk (rdEsc r) zI 0) := Lib.hid (by rw [hr0]; exact ⟨rfl, rfl⟩)
    have hV := hZ
    obtain ⟨v0, v1, v2, v3, v4, v5⟩ := cells_item hV
    clear hr hr0 hl
    go_enter Tryz.func41, Tryz.ntmps41
    go_wp2_with fail
    (try simp only [Exit.inBlock, Exit.then])
    refine bodyPost_ret (v := .tuple #[.agg #[.int .i64 0, .string ⟨#[]⟩, .int .i64 0], .int .i64 0]) (by simp [results, Tryz.results41, go_sem]; try rfl) rfl ⟨⟨0, ⟨#[]⟩, 0⟩, 0, rfl, HT.out, blw (Below.refl _ _) _⟩
  have g1 : 1 < s.size := by omega
  have q1 : ¬ (s.size : Int) < 2 := by omega
  have q2 : (1 : Int) < (s.size : Int) := by omega
  have hr1 : r = s[1]'g1 :: s.data.toList.drop 2 := by rw [← hr, List.drop_eq_getElem_cons (by omega)]; rfl
  have hlt8 := (s[1]'g1).toNat_lt
  have hh := fun W => readhex_any s (s.data.toList.drop 2) W rfl hs
  have HH := Lib.hid hh
  have HR1 := Lib.hid hr1
  clear hh hr1 hr
  by_cases c120 : s[1]'g1 = 120
  · have q3 : (((s[1]'g1).toNat : Int) == 110) = false := by rw [c120]; rfl
    have q4 : (((s[1]'g1).toNat : Int) == 116) = false := by rw [c120]; rfl
    have q5 : (((s[1]'g1).toNat : Int) == 120) = true := by rw [c120]; rfl
    have HC := Lib.hid c120
    clear c120
    go_enter Tryz.func41, Tryz.ntmps41
    go_wp2_with fail
    refine (HH.out _).mono ?_; rintro e w1 ⟨b, n, rfl, hcase, hb1⟩
    have hZ1 := hZ.call hb1
    have hB1 := BelowOn hBa hb1
    have hlt1 : w.heap.size < w1.heap.size := (Array.getElem?_eq_some_iff.1 hZ1).1
    rcases hcase with ⟨u, v, t, er, hu, hv, eb, rfl⟩ | ⟨rfl, rfl, hno⟩
    · have hsg := fun w => sign_any (b.toNat : Int) w (by omega) (by have := b.toNat_lt; omega)
      rw [← sg_toNat] at hsg
      have HS := Lib.hid hsg
      clear hsg
      have hmod : rdEsc r = if sg b = 120 then some (bT b, 4) else none := by
        rw [HR1.out, HC.out, rdEsc_120, er, rdHex_two, ← eb]
        by_cases h : sg b = 120
        · rw [if_pos ⟨hu, hv, h⟩, if_pos h]
        · rw [if_neg (fun hh => h hh.2.2), if_neg h]
      clear er eb hu hv
      by_cases h120 : sg b = 120
      · have HT : Hid (OptOk (rdEsc r) (bT b) 4) := Lib.hid (by rw [hmod, if_pos h120]; exact ⟨rfl, rfl⟩)
        have q6 : (((sg b).toNat : Int) == ((s[1]'g1).toNat : Int)) = true := u8_int_eq (by rw [h120, HC.out])
        have q7 : (((sg b).toNat : Int) != ((s[1]'g1).toNat : Int)) = false := by rw [bne, q6]; rfl
        have hcv := conv_one (w := w1.alloc (.cells #[.int .u8 (b.toNat : Int)] 5)) b w1.heap.size (heap_alloc_new _ _)
        have hV := hZ1.call (blw (Below.refl _ _) (.cells #[.int .u8 (b.toNat : Int)] 5))
        have hB := blw hB1 (.cells #[.int .u8 (b.toNat : Int)] 5)
        obtain ⟨y0, y1, y2, y3, y4, y5⟩ := cells_item hZ1
        obtain ⟨v0, v1, v2, v3, v4, v5⟩ := cells_item hV
        clear hmod h120
        go_wp2_with fail
        refine (HS.out _).mono ?_; rintro e w2 ⟨rfl, rfl⟩
        go_wp2_with fail
        have hWz0 := heap_set3 (a' := .int .i64 1) (b' := .string ⟨#[b]⟩) (c' := .int .i64 0) hZ1
        have hBz0 := blw (((hB1.setCell (p := ⟨w.heap.size, 0, none⟩) (Nat.le_refl _) (.int .i64 1)).setCell (p := ⟨w.heap.size, 1, none⟩) (Nat.le_refl _) (.string ⟨#[b]⟩)).setCell (p := ⟨w.heap.size, 2, none⟩) (Nat.le_refl _) (.int .i64 0)) (.cells #[.int .u8 (b.toNat : Int)] 5)
        have hWz := (Lib.alloc_old _ (.cells #[.int .u8 (b.toNat : Int)] 5) _ (Array.getElem?_eq_some_iff.1 hWz0).1).trans hWz0
        generalize ((((w1.setCell ⟨w.heap.size, 0, none⟩ (.int .i64 1)).setCell ⟨w.heap.size, 1, none⟩ (.string ⟨#[b]⟩)).setCell ⟨w.heap.size, 2, none⟩ (.int .i64 0)).alloc (.cells #[.int .u8 (b.toNat : Int)] 5)) = wz at *
        obtain ⟨z0, z1, z2, _⟩ := cells_item hWz
        (try simp only [Exit.inBlock, Exit.then])
        refine bodyPost_ret (v := .tuple #[.agg #[.int .i64 1, .string ⟨#[b]⟩, .int .i64 0], .int .i64 4]) (by simp [results, Tryz.results41, go_sem, z0, z1, z2]; try rfl) rfl ⟨⟨1, ⟨#[b]⟩, 0⟩, 4, rfl, HT.out, hBz0⟩
      · have HT : Hid (OptOk (rdEsc r) zI 0) := Lib.hid (by rw [hmod, if_neg h120]; exact ⟨rfl, rfl⟩)
        have q6 : (((sg b).toNat : Int) == ((s[1]'g1).toNat : Int)) = false := u8_int_ne (by rw [HC.out]; exact h120)
        have q7 : (((sg b).toNat : Int) != ((s[1]'g1).toNat : Int)) = true := by rw [bne, q6]; rfl
        have hV := hZ1
        have hB := hB1
        obtain ⟨v0, v1, v2, v3, v4, v5⟩ := cells_item hV
        clear hmod h120
        go_wp2_with fail
        refine (HS.out _).mono ?_; rintro e w2 ⟨rfl, rfl⟩
        go_wp2_with fail
        have hWz := heap_set3 (a' := .int .i64 0) (b' := .string ⟨#[]⟩) (c' := .int .i64 0) hV
        have hBz := ((hB.setCell (p := ⟨w.heap.size, 0, none⟩) (Nat.le_refl _) (.int .i64 0)).setCell (p := ⟨w.heap.size, 1, none⟩) (Nat.le_refl _) (.string ⟨#[]⟩)).setCell (p := ⟨w.heap.size, 2, none⟩) (Nat.le_refl _) (.int .i64 0)
        generalize (((w1.setCell ⟨w.heap.size, 0, none⟩ (.int .i64 0)).setCell ⟨w.heap.size, 1, none⟩ (.string ⟨#[]⟩)).setCell ⟨w.heap.size, 2, none⟩ (.int .i64 0)) = wz at *
        obtain ⟨z0, z1, z2, _⟩ := cells_item hWz
        (try simp only [Exit.inBlock, Exit.then])
        refine bodyPost_ret (v := .tuple #[.agg #[.int .i64 0, .string ⟨#[]⟩, .int .i64 0], .int .i64 0]) (by simp [results, Tryz.results41, go_sem, z0, z1, z2]; try rfl) rfl ⟨⟨0, ⟨#[]⟩, 0⟩, 0, rfl, HT.out, hBz⟩
    · have HT : Hid (OptOk (rdEsc r) zI 0) := Lib.hid (by rw [HR1.out, HC.out, rdEsc_120, rdHex_none _ hno]; exact ⟨rfl, rfl⟩)
      have hV := hZ1
      have hB := hB1
      obtain ⟨v0, v1, v2, v3, v4, v5⟩ := cells_item hV
      clear hno
      go_wp2_with fail
      have hWz := heap_set3 (a' := .int .i64 0) (b' := .string ⟨#[]⟩) (c' := .int .i64 0) hV
      have hBz := ((hB.setCell (p := ⟨w.heap.size, 0, none⟩) (Nat.le_refl _) (.int .i64 0)).setCell (p := ⟨w.heap.size, 1, none⟩) (Nat.le_refl _) (.string ⟨#[]⟩)).setCell (p := ⟨w.heap.size, 2, none⟩) (Nat.le_refl _) (.int .i64 0)
      generalize (((w1.setCell ⟨w.heap.size, 0, none⟩ (.int .i64 0)).setCell ⟨w.heap.size, 1, none⟩ (.string ⟨#[]⟩)).setCell ⟨w.heap.size, 2, none⟩ (.int .i64 0)) = wz at *
      obtain ⟨z0, z1, z2, _⟩ := cells_item hWz
      (try simp only [Exit.inBlock, Exit.then])
      refine bodyPost_ret (v := .tuple #[.agg #[.int .i64 0, .string ⟨#[]⟩, .int .i64 0], .int .i64 0]) (by simp [results, Tryz.results41, go_sem, z0, z1, z2]; try rfl) rfl ⟨⟨0, ⟨#[]⟩, 0⟩, 0, rfl, HT.out, hBz⟩
  · have q5 : (((s[1]'g1).toNat : Int) == 120) = false := u8_int_ne c120
    have hmod : rdEsc r = if sg (unS (s[1]'g1)) = s[1]'g1 then some (bT (unS (s[1]'g1)), 2) else none := by rw [HR1.out, rdEsc_cons, if_neg c120]
    clear c120
    by_cases c110 : s[1]'g1 = 110
    · have hun : unS (s[1]'g1) = 10 := by unfold unS; rw [if_pos c110]
      have HT : Hid (OptOk (rdEsc r) (bT 10) 2) := Lib.hid (by rw [hmod, hun, c110, if_pos (by decide +kernel)]; exact ⟨rfl, rfl⟩)
      have q3 : (((s[1]'g1).toNat : Int) == 110) = true := by rw [c110]; rfl
      have q6 : ((110 : Int) == ((s[1]'g1).toNat : Int)) = true := by rw [c110]; rfl
      have q7 : ((110 : Int) != ((s[1]'g1).toNat : Int)) = false := by rw [bne, q6]; rfl
      have hsg := fun w => sign_any 10 w (by omega) (by omega)
      rw [show sgN 10 = 110 by decide] at hsg
      have HS := Lib.hid hsg
      have hcw : (convert 31 9 (.slice (some ⟨w.heap.size + 1, 0, none⟩) 1 1)).run Tryz.prog ((w.alloc (.cells #[.int .i64 0, .string ⟨#[]⟩, .int .i64 0] 43)).alloc (.cells #[.int .u8 10] 5)) = .ok (.string ⟨#[10]⟩) ((w.alloc (.cells #[.int .i64 0, .string ⟨#[]⟩, .int .i64 0] 43)).alloc (.cells #[.int .u8 10] 5)) := conv_one 10 _ (heap_new' _ _ _ (by simp))
      clear hsg hmod hun c110
      go_enter Tryz.func41, Tryz.ntmps41
      go_wp2_with fail
      refine (HS.out _).mono ?_; rintro e w2 ⟨rfl, rfl⟩
      go_wp2_with fail
      (try simp only [Exit.inBlock, Exit.then])
      refine bodyPost_ret (v := .tuple #[.agg #[.int .i64 1, .string ⟨#[10]⟩, .int .i64 0], .int .i64 2]) (by simp [results, Tryz.results41, go_sem]; try rfl) rfl ⟨bT 10, 2, rfl, HT.out, blw (blw (Below.refl _ _) _) _⟩
    by_cases c116 : s[1]'g1 = 116
    · have hun : unS (s[1]'g1) = 9 := by unfold unS; rw [if_neg c110, if_pos c116]
      have HT : Hid (OptOk (rdEsc r) (bT 9) 2) := Lib.hid (by rw [hmod, hun, c116, if_pos (by decide +kernel)]; exact ⟨rfl, rfl⟩)
      have q3 : (((s[1]'g1).toNat : Int) == 110) = false := by rw [c116]; rfl
      have q4 : (((s[1]'g1).toNat : Int) == 116) = true := by rw [c116]; rfl
      have q6 : ((116 : Int) == ((s[1]'g1).toNat : Int)) = true := by rw [c116]; rfl
      have q7 : ((116 : Int) != ((s[1]'g1).toNat : Int)) = false := by rw [bne, q6]; rfl
      have hsg := fun w => sign_any 9 w (by omega) (by omega)
      rw [show sgN 9 = 116 by decide] at hsg
      have HS := Lib.hid hsg
      have hcw : (convert 31 9 (.slice (some ⟨w.heap.size + 1, 0, none⟩) 1 1)).run Tryz.prog ((w.alloc (.cells #[.int .i64 0, .string ⟨#[]⟩, .int .i64 0] 43)).alloc (.cells #[.int .u8 9] 5)) = .ok (.string ⟨#[9]⟩) ((w.alloc (.cells #[.int .i64 0, .string ⟨#[]⟩, .int .i64 0] 43)).alloc (.cells #[.int .u8 9] 5)) := conv_one 9 _ (heap_new' _ _ _ (by simp))
      clear hsg hmod hun c116
      go_enter Tryz.func41, Tryz.ntmps41
      go_wp2_with fail
      refine (HS.out _).mono ?_; rintro e w2 ⟨rfl, rfl⟩
      go_wp2_with fail
      (try simp only [Exit.inBlock, Exit.then])
      refine bodyPost_ret (v := .tuple #[.agg #[.int .i64 1, .string ⟨#[9]⟩, .int .i64 0], .int .i64 2]) (by simp [results, Tryz.results41, go_sem]; try rfl) rfl ⟨bT 9, 2, rfl, HT.out, blw (blw (Below.refl _ _) _) _⟩
    have hun : unS (s[1]'g1) = s[1]'g1 := by unfold unS; rw [if_neg c110, if_neg c116]
    rw [hun] at hmod
    have q3 : (((s[1]'g1).toNat : Int) == 110) = false := u8_int_ne c110
    have q4 : (((s[1]'g1).toNat : Int) == 116) = false := u8_int_ne c116
    have hsg := fun w => sign_any ((s[1]'g1).toNat : Int) w (by omega) (by omega)
    rw [← sg_toNat] at hsg
    have HS := Lib.hid hsg
    clear hun hsg c110 c116
    by_cases hc : sg (s[1]'g1) = s[1]'g1
    · have HT : Hid (OptOk (rdEsc r) (bT (s[1]'g1)) 2) := Lib.hid (by rw [hmod, if_pos hc]; exact ⟨rfl, rfl⟩)
      have q6 : (((sg (s[1]'g1)).toNat : Int) == ((s[1]'g1).toNat : Int)) = true := u8_int_eq hc
      have q7 : (((sg (s[1]'g1)).toNat : Int) != ((s[1]'g1).toNat : Int)) = false := by rw [bne, q6]; rfl
      have hcw : (convert 31 9 (.slice (some ⟨w.heap.size + 1, 0, none⟩) 1 1)).run Tryz.prog ((w.alloc (.cells #[.int .i64 0, .string ⟨#[]⟩, .int .i64 0] 43)).alloc (.cells #[.int .u8 ((s[1]'g1).toNat : Int)] 5)) = .ok (.string ⟨#[s[1]'g1]⟩) ((w.alloc (.cells #[.int .i64 0, .string ⟨#[]⟩, .int .i64 0] 43)).alloc (.cells #[.int .u8 ((s[1]'g1).toNat : Int)] 5)) := conv_one _ _ (heap_new' _ _ _ (by simp))
      clear hmod hc
      go_enter Tryz.func41, Tryz.ntmps41
      go_wp2_with fail
      refine (HS.out _).mono ?_; rintro e w2 ⟨rfl, rfl⟩
      go_wp2_with fail
      (try simp only [Exit.inBlock, Exit.then])
      refine bodyPost_ret (v := .tuple #[.agg #[.int .i64 1, .string ⟨#[s[1]'g1]⟩, .int .i64 0], .int .i64 2]) (by simp [results, Tryz.results41, go_sem]; try rfl) rfl ⟨bT (s[1]'g1), 2, rfl, HT.out, blw (blw (Below.refl _ _) _) _⟩
    · have HT : Hid (OptOk (rdEsc r) zI 0) := Lib.hid (by rw [hmod, if_neg hc]; exact ⟨rfl, rfl⟩)
      have q6 : (((sg (s[1]'g1)).toNat : Int) == ((s[1]'g1).toNat : Int)) = false := u8_int_ne hc
      have q7 : (((sg (s[1]'g1)).toNat : Int) != ((s[1]'g1).toNat : Int)) = true := by rw [bne, q6]; rfl
      clear hmod hc
      go_enter Tryz.func41, Tryz.ntmps41
      go_wp2_with fail
      refine (HS.out _).mono ?_; rintro e w2 ⟨rfl, rfl⟩
      go_wp2_with fail
      (try simp only [Exit.inBlock, Exit.then])
      refine bodyPost_ret (v := .tuple #[.agg #[.int .i64 0, .string ⟨#[]⟩, .int .i64 0], .int .i64 0]) (by simp [results, Tryz.results41, go_sem]; try rfl) rfl ⟨⟨0, ⟨#[]⟩, 0⟩, 0, rfl, HT.out, blw (Below.refl _ _) _⟩
end Go.Proofs.YtaogjccmeajpoaaGreatDoor
namespace Go.Proofs.YtaogjccmeajpoaaGreatDoor
open Go.ChangeShapes Go.WideShapes Go.ChangeAt Go.RowKit
set_option linter.unusedVariables false
set_option linter.unusedSimpArgs false
set_option maxRecDepth 100000

theorem lenI_one (x : It) : lenI [x] = wid x := by unfold lenI; simp
theorem valE_one (x : It) (hw : wid x ≤ 1024) : valE [x] = if properB x = true then 0 else 1 := by
  unfold valE
  rw [if_neg (by rw [lenI_one]; simp; omega)]
  have e : errL [] [x] = errAt [] x := errL_one [] x
  rw [e]
  cases hp : properB x
  · rw [if_neg (by simp)]
    unfold errAt
    rw [if_pos (.inl hp)]
  · rw [if_pos rfl]
    exact (errAt_zero [] x).2 ⟨hp, fun _ => rfl, fun _ => rfl⟩
theorem its1 {W : World} {B : Nat} {x : It} (h : W.heap[B]? = some (.cells #[.int .i64 x.k, .string x.t, .int .i64 x.id] 43 (0, 0))) : Its W (some ⟨B, 0, none⟩) [x] := Its.lit h rfl
/-- What is read by its brackets is an element if it is an item of a fragment. -/
theorem tag_elem {r : List UInt8} {x : It} {n : Nat} (h : TagOk r x n) (hn : n ≠ 0) : (properB x = true → rdTag r = some (x, n)) ∧ (properB x = false → rdTag r = none) ∧ isT x.k = true ∧ (Lit.int .i64 x.k).wf = true ∧ (Lit.int .i64 x.id).wf = true ∧ x.t.size ≤ r.length := by
  unfold TagOk at h
  by_cases hh : hasU 62 r = true ∧ hasU 58 (upto 62 r) = true
  · rw [if_pos hh] at h
    obtain ⟨z, hz, hwf, rfl, rfl⟩ := h
    have hk := kindT_cases (upto 58 (upto 62 r)) (aft 58 (upto 62 r))
    have hk' : kindT (upto 58 (upto 62 r)) (aft 58 (upto 62 r)) = 2 ∨ kindT (upto 58 (upto 62 r)) (aft 58 (upto 62 r)) = 3 ∨ kindT (upto 58 (upto 62 r)) (aft 58 (upto 62 r)) = 4 := by omega
    obtain ⟨p1, p2⟩ := hz.proper _ (bsL (txtT (upto 58 (upto 62 r)) (aft 58 (upto 62 r)))) hk'
    refine ⟨fun hp => ?_, fun hp => ?_, ?_, ?_, hwf, ?_⟩
    · unfold rdTag
      rw [p1] at hp
      rw [if_pos ⟨hh.1, hh.2, hp⟩]
      have e : tagT (upto 58 (upto 62 r)) (aft 58 (upto 62 r)) = ⟨kindT (upto 58 (upto 62 r)) (aft 58 (upto 62 r)), bsL (txtT (upto 58 (upto 62 r)) (aft 58 (upto 62 r))), z⟩ := (p2 (by rw [p1]; exact hp)).symm
      rw [e]
    · unfold rdTag
      rw [p1] at hp
      rw [if_neg (fun h3 => by
        have h4 : properB (tagT (upto 58 (upto 62 r)) (aft 58 (upto 62 r))) = false := hp
        rw [h4] at h3; cases h3.2.2)]
    · show isT (kindT _ _) = true
      unfold isT; simp; omega
    · show (Lit.int .i64 (kindT _ _)).wf = true
      exact wf_i64 (by omega) (by omega)
    · show (bsL _).size ≤ _
      rw [bsL_size]
      have h1 := upto_le 62 r
      have h2 : (aft 58 (upto 62 r)).length ≤ (upto 62 r).length := by unfold aft; simp
      unfold txtT
      split
      · omega
      · split
        · simp; omega
        · omega
  · rw [if_neg hh] at h; exact absurd h.2 hn
theorem tag_zero {r : List UInt8} {x : It} {n : Nat} (h : TagOk r x n) (hn : n = 0) : rdTag r = none := by
  unfold TagOk at h
  by_cases hh : hasU 62 r = true ∧ hasU 58 (upto 62 r) = true
  · rw [if_pos hh] at h
    obtain ⟨z, _, _, _, rfl⟩ := h
    omega
  · unfold rdTag
    rw [if_neg (fun h3 => hh ⟨h3.1, h3.2.1⟩)]
theorem slot_elem {r : List UInt8} {x : It} {n : Nat} (h : SlotOk r x n) (hn : n ≠ 0) : (properB x = true → rdSlot r = some (x, n)) ∧ (properB x = false → rdSlot r = none) ∧ x.k = 5 ∧ (Lit.int .i64 x.k).wf = true ∧ (Lit.int .i64 x.id).wf = true ∧ x.t.size ≤ r.length := by
  unfold SlotOk at h
  by_cases hh : hasU 125 r = true
  · rw [if_pos hh] at h
    obtain ⟨rfl, rfl⟩ := h
    have hp := slot_proper (x := ⟨5, bsL (upto 125 r), 0⟩) rfl
    refine ⟨fun h => ?_, fun h => ?_, rfl, (show (Lit.int .i64 5).wf = true by decide), (show (Lit.int .i64 0).wf = true by decide), ?_⟩
    · rw [hp] at h; simp at h
      unfold rdSlot; rw [if_pos ⟨hh, h⟩]
    · rw [hp] at h; simp at h
      unfold rdSlot; rw [if_neg (by rw [h]; simp)]
    · rw [bsL_size]; exact upto_le _ _
  · rw [if_neg hh] at h; exact absurd h.2 hn
theorem slot_zero {r : List UInt8} {x : It} {n : Nat} (h : SlotOk r x n) (hn : n = 0) : rdSlot r = none := by
  unfold SlotOk at h
  by_cases hh : hasU 125 r = true
  · rw [if_pos hh] at h; omega
  · unfold rdSlot; rw [if_neg (fun h3 => hh h3.1)]
/-- What a bracket's reader leaves to readElement. -/
structure Brk (L : List UInt8) (x : It) (n : Nat) : Prop where
  zero : n = 0 → rdE L = none
  yes : n ≠ 0 → properB x = true → rdE L = some (x, n)
  no : n ≠ 0 → properB x = false → rdE L = none
  ok : n ≠ 0 → x.ok
  wid : n ≠ 0 → wid x ≤ 1024
theorem Brk.tag {r : List UInt8} {x : It} {n : Nat} (h : TagOk r x n) (hr : r.length ≤ 1000000000000) : Brk (60 :: r) x n := by
  refine ⟨fun hn => ?_, fun hn hp => ?_, fun hn hp => ?_, fun hn => ?_, fun hn => ?_⟩
  · rw [rdE_60]; exact tag_zero h hn
  · rw [rdE_60]; exact (tag_elem h hn).1 hp
  · rw [rdE_60]; exact (tag_elem h hn).2.1 hp
  · obtain ⟨_, _, _, a, b, c⟩ := tag_elem h hn
    exact ⟨a, by omega, b⟩
  · obtain ⟨_, _, a, _⟩ := tag_elem h hn
    have : x.k ≠ 1 := fun e => by rw [e] at a; cases a
    have e : Go.Proofs.YtaogjccmeajpoaaGreatDoor.wid x = 1 := if_neg this
    omega
theorem Brk.slot {r : List UInt8} {x : It} {n : Nat} (h : SlotOk r x n) (hr : r.length ≤ 1000000000000) : Brk (123 :: r) x n := by
  refine ⟨fun hn => ?_, fun hn hp => ?_, fun hn hp => ?_, fun hn => ?_, fun hn => ?_⟩
  · rw [rdE_123]; exact slot_zero h hn
  · rw [rdE_123]; exact (slot_elem h hn).1 hp
  · rw [rdE_123]; exact (slot_elem h hn).2.1 hp
  · obtain ⟨_, _, _, a, b, c⟩ := slot_elem h hn
    exact ⟨a, by omega, b⟩
  · obtain ⟨_, _, a, _⟩ := slot_elem h hn
    have e : Go.Proofs.YtaogjccmeajpoaaGreatDoor.wid x = 1 := if_neg (by omega)
    omega
theorem byte_opt {c : UInt8} {r : List UInt8} (h1 : c ≠ 60) (h2 : c ≠ 123) (h3 : c ≠ 92) {x : It} {n : Nat} (h : ByteOk c x n) : OptOk (rdE (c :: r)) x n := by
  rw [rdE_plain c r h1 h2 h3, rdPlain]
  unfold ByteOk at h
  by_cases hs : sg c = 0
  · rw [if_pos hs] at h ⊢; exact h
  · rw [if_neg hs] at h ⊢; exact h

set_option maxHeartbeats 3200000 in
theorem readelement_any (s : ByteArray) (L : List UInt8) (base : Nat) (w : World) (hL : s.data.toList = L) (h1 : L ≠ []) (hs : s.size ≤ 1000000000000) (hb : base ≤ w.heap.size) (hE : Env base w) :
    Calls Tryz.prog 21 #[.string s] w (EndX (OptOk (rdE L)) w) := by
  cases L with
  | nil => exact absurd rfl h1
  | cons c r =>
    clear h1
    obtain ⟨h0, hb0, _, hd⟩ := first_byte s c r hL
    have hrl : r.length ≤ 1000000000000 := by
      have : s.data.toList.length = s.size := by simp
      rw [hL] at this; simp at this; omega
    have q0 : ¬ (s.size : Int) < 1 := by omega
    have q0' : (0 : Int) < (s.size : Int) := by omega
    have hZ := zV.new w
    have hBa := blw (Below.refl w.heap.size w) (.cells #[.int .i64 0, .string ByteArray.empty, .int .i64 0] 43)
    have hval := fun (W : World) (B : Nat) (x : It) (hB : W.heap[B]? = some (.cells #[.int .i64 x.k, .string x.t, .int .i64 x.id] 43 (0, 0))) (ho : x.ok) => validate_any (some ⟨B, 0, none⟩) 1 [x] W (its1 hB) (Oks.of fun y hy => by rw [List.mem_singleton] at hy; rw [hy]; exact ho) (by simp) (by unfold maxLen; omega)
    have HVAL := Lib.hid hval; clear hval
    have HE := Lib.hid hE; clear hE
    subst hb0
    by_cases c60 : s[0] = 60
    · have hc := fun W h2 h3 => readtag_any s r base W h0 hd hs h2 h3
      have HC := Lib.hid hc
      have HBK := Lib.hid (fun (x : It) (n : Nat) (h : TagOk r x n) => Brk.tag h hrl)
      have HL := Lib.hid (show rdE (s[0] :: r) = rdE (60 :: r) by rw [c60])
      have q1 : ((s[0].toNat : Int) == 60) = true := by rw [c60]; rfl
      clear hc c60 hL hd
      go_enter Tryz.func21, Tryz.ntmps21
      go_wp2_with fail
      refine (HC.out _ (Nat.le_trans hb hBa.size) (HE.out.call (hBa.mono hb))).mono ?_; rintro e w1 ⟨x, n, rfl, hx, hb1⟩
      have hK := HBK.out x n hx
      have hZ1 := hZ.call hb1
      have hB1 := BelowOn hBa hb1
      have hlt1 : w.heap.size < w1.heap.size := (Array.getElem?_eq_some_iff.1 hZ1).1
      obtain ⟨v0, v1, v2, v3, v4, v5⟩ := cells_item hZ1
      go_upto_region 9 with (fail)
      have hX := heap_set3 (a' := .int .i64 x.k) (b' := .string x.t) (c' := .int .i64 x.id) hZ1
      have hBX := ((hB1.setCell (p := ⟨w.heap.size, 0, none⟩) (Nat.le_refl _) (.int .i64 x.k)).setCell (p := ⟨w.heap.size, 1, none⟩) (Nat.le_refl _) (.string x.t)).setCell (p := ⟨w.heap.size, 2, none⟩) (Nat.le_refl _) (.int .i64 x.id)
      generalize (((w1.setCell ⟨w.heap.size, 0, none⟩ (.int .i64 x.k)).setCell ⟨w.heap.size, 1, none⟩ (.string x.t)).setCell ⟨w.heap.size, 2, none⟩ (.int .i64 x.id)) = w2 at *
      clear v0 v1 v2 v3 v4 v5 hZ1 hB1 hlt1 hb1
      have HX := Lib.hid hX
      have hlt2 : w.heap.size < w2.heap.size := (Array.getElem?_eq_some_iff.1 hX).1
      obtain ⟨v0, v1, v2, v3, v4, v5⟩ := cells_item hX
      by_cases hn : n = 0
      · have q2 : ((n : Int) == 0) = true := by simpa using hn
        have HT : Hid (OptOk (rdE (s[0] :: r)) zI 0) := Lib.hid (by rw [HL.out, hK.zero hn]; exact ⟨rfl, rfl⟩)
        have hV := hX
        have hB := hBX
        clear hK hn
        go_wp2_with fail
        have hWz := heap_set3 (a' := .int .i64 0) (b' := .string ⟨#[]⟩) (c' := .int .i64 0) hV
        have hBz := ((hB.setCell (p := ⟨w.heap.size, 0, none⟩) (Nat.le_refl _) (.int .i64 0)).setCell (p := ⟨w.heap.size, 1, none⟩) (Nat.le_refl _) (.string ⟨#[]⟩)).setCell (p := ⟨w.heap.size, 2, none⟩) (Nat.le_refl _) (.int .i64 0)
        generalize (((w2.setCell ⟨w.heap.size, 0, none⟩ (.int .i64 0)).setCell ⟨w.heap.size, 1, none⟩ (.string ⟨#[]⟩)).setCell ⟨w.heap.size, 2, none⟩ (.int .i64 0)) = wz at *
        obtain ⟨z0, z1, z2, _⟩ := cells_item hWz
        (try simp only [Exit.inBlock, Exit.then])
        refine bodyPost_ret (v := .tuple #[.agg #[.int .i64 0, .string ⟨#[]⟩, .int .i64 0], .int .i64 0]) (by simp [results, Tryz.results21, go_sem, z0, z1, z2]; try rfl) rfl ⟨⟨0, ⟨#[]⟩, 0⟩, 0, rfl, HT.out, hBz⟩
      · have q2 : ((n : Int) == 0) = false := by simpa using hn
        have hcall := fun W B hB => HVAL.out W B x hB (hK.ok hn)
        rw [valE_one x (hK.wid hn)] at hcall
        have hy := hK.yes hn
        have hno := hK.no hn
        clear hK hn
        cases hp : properB x
        · rw [hp, if_neg (by simp)] at hcall
          have HT : Hid (OptOk (rdE (s[0] :: r)) zI 0) := Lib.hid (by rw [HL.out, hno hp]; exact ⟨rfl, rfl⟩)
          have HCALL := Lib.hid hcall
          clear hcall hy hno hp
          go_wp2_with fail
          refine (HCALL.out _ _ (heap_alloc_new _ _)).mono ?_; rintro e w3 ⟨rfl, hb3⟩
          have hb3' := BelowOn (blw (Below.refl _ w2) _) hb3
          have hV := (hb3'.block _ hlt2).trans HX.out
          have hB := BelowOn hBX hb3'
          clear v0 v1 v2 v3 v4 v5
          obtain ⟨v0, v1, v2, v3, v4, v5⟩ := cells_item hV
          go_wp2_with fail
          have hWz := heap_set3 (a' := .int .i64 0) (b' := .string ⟨#[]⟩) (c' := .int .i64 0) hV
          have hBz := ((hB.setCell (p := ⟨w.heap.size, 0, none⟩) (Nat.le_refl _) (.int .i64 0)).setCell (p := ⟨w.heap.size, 1, none⟩) (Nat.le_refl _) (.string ⟨#[]⟩)).setCell (p := ⟨w.heap.size, 2, none⟩) (Nat.le_refl _) (.int .i64 0)
          generalize (((w3.setCell ⟨w.heap.size, 0, none⟩ (.int .i64 0)).setCell ⟨w.heap.size, 1, none⟩ (.string ⟨#[]⟩)).setCell ⟨w.heap.size, 2, none⟩ (.int .i64 0)) = wz at *
          obtain ⟨z0, z1, z2, _⟩ := cells_item hWz
          (try simp only [Exit.inBlock, Exit.then])
          refine bodyPost_ret (v := .tuple #[.agg #[.int .i64 0, .string ⟨#[]⟩, .int .i64 0], .int .i64 0]) (by simp [results, Tryz.results21, go_sem, z0, z1, z2]; try rfl) rfl ⟨⟨0, ⟨#[]⟩, 0⟩, 0, rfl, HT.out, hBz⟩
        · rw [hp, if_pos rfl] at hcall
          have HT : Hid (OptOk (rdE (s[0] :: r)) x n) := Lib.hid (by rw [HL.out, hy hp]; exact ⟨rfl, rfl⟩)
          have HCALL := Lib.hid hcall
          clear hcall hy hno hp
          go_wp2_with fail
          refine (HCALL.out _ _ (heap_alloc_new _ _)).mono ?_; rintro e w3 ⟨rfl, hb3⟩
          have hb3' := BelowOn (blw (Below.refl _ w2) _) hb3
          have hV := (hb3'.block _ hlt2).trans HX.out
          have hB := BelowOn hBX hb3'
          clear v0 v1 v2 v3 v4 v5
          obtain ⟨v0, v1, v2, v3, v4, v5⟩ := cells_item hV
          go_wp2_with fail
          have hWz := heap_set3 (a' := .int .i64 x.k) (b' := .string x.t) (c' := .int .i64 x.id) hV
          have hBz := ((hB.setCell (p := ⟨w.heap.size, 0, none⟩) (Nat.le_refl _) (.int .i64 x.k)).setCell (p := ⟨w.heap.size, 1, none⟩) (Nat.le_refl _) (.string x.t)).setCell (p := ⟨w.heap.size, 2, none⟩) (Nat.le_refl _) (.int .i64 x.id)
          generalize (((w3.setCell ⟨w.heap.size, 0, none⟩ (.int .i64 x.k)).setCell ⟨w.heap.size, 1, none⟩ (.string x.t)).setCell ⟨w.heap.size, 2, none⟩ (.int .i64 x.id)) = wz at *
          obtain ⟨z0, z1, z2, _⟩ := cells_item hWz
          (try simp only [Exit.inBlock, Exit.then])
          refine bodyPost_ret (v := .tuple #[.agg #[.int .i64 x.k, .string x.t, .int .i64 x.id], .int .i64 (n : Int)]) (by simp [results, Tryz.results21, go_sem, z0, z1, z2]; try rfl) rfl ⟨⟨x.k, x.t, x.id⟩, n, rfl, HT.out, hBz⟩
    have q60 : ((s[0].toNat : Int) == 60) = false := u8_int_ne c60
    by_cases c123 : s[0] = 123
    · have hc := fun W => readslot_any s r W h0 hd hs
      have HC := Lib.hid hc
      have HBK := Lib.hid (fun (x : It) (n : Nat) (h : SlotOk r x n) => Brk.slot h hrl)
      have HL := Lib.hid (show rdE (s[0] :: r) = rdE (123 :: r) by rw [c123])
      have q1 : ((s[0].toNat : Int) == 123) = true := by rw [c123]; rfl
      clear hc c123 hL hd
      go_enter Tryz.func21, Tryz.ntmps21
      go_wp2_with fail
      refine (HC.out _).mono ?_; rintro e w1 ⟨x, n, rfl, hx, hb1⟩
      have hK := HBK.out x n hx
      have hZ1 := hZ.call hb1
      have hB1 := BelowOn hBa hb1
      have hlt1 : w.heap.size < w1.heap.size := (Array.getElem?_eq_some_iff.1 hZ1).1
      obtain ⟨v0, v1, v2, v3, v4, v5⟩ := cells_item hZ1
      go_upto_region 9 with (fail)
      have hX := heap_set3 (a' := .int .i64 x.k) (b' := .string x.t) (c' := .int .i64 x.id) hZ1
      have hBX := ((hB1.setCell (p := ⟨w.heap.size, 0, none⟩) (Nat.le_refl _) (.int .i64 x.k)).setCell (p := ⟨w.heap.size, 1, none⟩) (Nat.le_refl _) (.string x.t)).setCell (p := ⟨w.heap.size, 2, none⟩) (Nat.le_refl _) (.int .i64 x.id)
      generalize (((w1.setCell ⟨w.heap.size, 0, none⟩ (.int .i64 x.k)).setCell ⟨w.heap.size, 1, none⟩ (.string x.t)).setCell ⟨w.heap.size, 2, none⟩ (.int .i64 x.id)) = w2 at *
      clear v0 v1 v2 v3 v4 v5 hZ1 hB1 hlt1 hb1
      have HX := Lib.hid hX
      have hlt2 : w.heap.size < w2.heap.size := (Array.getElem?_eq_some_iff.1 hX).1
      obtain ⟨v0, v1, v2, v3, v4, v5⟩ := cells_item hX
      by_cases hn : n = 0
      · have q2 : ((n : Int) == 0) = true := by simpa using hn
        have HT : Hid (OptOk (rdE (s[0] :: r)) zI 0) := Lib.hid (by rw [HL.out, hK.zero hn]; exact ⟨rfl, rfl⟩)
        have hV := hX
        have hB := hBX
        clear hK hn
        go_wp2_with fail
        have hWz := heap_set3 (a' := .int .i64 0) (b' := .string ⟨#[]⟩) (c' := .int .i64 0) hV
        have hBz := ((hB.setCell (p := ⟨w.heap.size, 0, none⟩) (Nat.le_refl _) (.int .i64 0)).setCell (p := ⟨w.heap.size, 1, none⟩) (Nat.le_refl _) (.string ⟨#[]⟩)).setCell (p := ⟨w.heap.size, 2, none⟩) (Nat.le_refl _) (.int .i64 0)
        generalize (((w2.setCell ⟨w.heap.size, 0, none⟩ (.int .i64 0)).setCell ⟨w.heap.size, 1, none⟩ (.string ⟨#[]⟩)).setCell ⟨w.heap.size, 2, none⟩ (.int .i64 0)) = wz at *
        obtain ⟨z0, z1, z2, _⟩ := cells_item hWz
        (try simp only [Exit.inBlock, Exit.then])
        refine bodyPost_ret (v := .tuple #[.agg #[.int .i64 0, .string ⟨#[]⟩, .int .i64 0], .int .i64 0]) (by simp [results, Tryz.results21, go_sem, z0, z1, z2]; try rfl) rfl ⟨⟨0, ⟨#[]⟩, 0⟩, 0, rfl, HT.out, hBz⟩
      · have q2 : ((n : Int) == 0) = false := by simpa using hn
        have hcall := fun W B hB => HVAL.out W B x hB (hK.ok hn)
        rw [valE_one x (hK.wid hn)] at hcall
        have hy := hK.yes hn
        have hno := hK.no hn
        clear hK hn
        cases hp : properB x
        · rw [hp, if_neg (by simp)] at hcall
          have HT : Hid (OptOk (rdE (s[0] :: r)) zI 0) := Lib.hid (by rw [HL.out, hno hp]; exact ⟨rfl, rfl⟩)
          have HCALL := Lib.hid hcall
          clear hcall hy hno hp
          go_wp2_with fail
          refine (HCALL.out _ _ (heap_alloc_new _ _)).mono ?_; rintro e w3 ⟨rfl, hb3⟩
          have hb3' := BelowOn (blw (Below.refl _ w2) _) hb3
          have hV := (hb3'.block _ hlt2).trans HX.out
          have hB := BelowOn hBX hb3'
          clear v0 v1 v2 v3 v4 v5
          obtain ⟨v0, v1, v2, v3, v4, v5⟩ := cells_item hV
          go_wp2_with fail
          have hWz := heap_set3 (a' := .int .i64 0) (b' := .string ⟨#[]⟩) (c' := .int .i64 0) hV
          have hBz := ((hB.setCell (p := ⟨w.heap.size, 0, none⟩) (Nat.le_refl _) (.int .i64 0)).setCell (p := ⟨w.heap.size, 1, none⟩) (Nat.le_refl _) (.string ⟨#[]⟩)).setCell (p := ⟨w.heap.size, 2, none⟩) (Nat.le_refl _) (.int .i64 0)
          generalize (((w3.setCell ⟨w.heap.size, 0, none⟩ (.int .i64 0)).setCell ⟨w.heap.size, 1, none⟩ (.string ⟨#[]⟩)).setCell ⟨w.heap.size, 2, none⟩ (.int .i64 0)) = wz at *
          obtain ⟨z0, z1, z2, _⟩ := cells_item hWz
          (try simp only [Exit.inBlock, Exit.then])
          refine bodyPost_ret (v := .tuple #[.agg #[.int .i64 0, .string ⟨#[]⟩, .int .i64 0], .int .i64 0]) (by simp [results, Tryz.results21, go_sem, z0, z1, z2]; try rfl) rfl ⟨⟨0, ⟨#[]⟩, 0⟩, 0, rfl, HT.out, hBz⟩
        · rw [hp, if_pos rfl] at hcall
          have HT : Hid (OptOk (rdE (s[0] :: r)) x n) := Lib.hid (by rw [HL.out, hy hp]; exact ⟨rfl, rfl⟩)
          have HCALL := Lib.hid hcall
          clear hcall hy hno hp
          go_wp2_with fail
          refine (HCALL.out _ _ (heap_alloc_new _ _)).mono ?_; rintro e w3 ⟨rfl, hb3⟩
          have hb3' := BelowOn (blw (Below.refl _ w2) _) hb3
          have hV := (hb3'.block _ hlt2).trans HX.out
          have hB := BelowOn hBX hb3'
          clear v0 v1 v2 v3 v4 v5
          obtain ⟨v0, v1, v2, v3, v4, v5⟩ := cells_item hV
          go_wp2_with fail
          have hWz := heap_set3 (a' := .int .i64 x.k) (b' := .string x.t) (c' := .int .i64 x.id) hV
          have hBz := ((hB.setCell (p := ⟨w.heap.size, 0, none⟩) (Nat.le_refl _) (.int .i64 x.k)).setCell (p := ⟨w.heap.size, 1, none⟩) (Nat.le_refl _) (.string x.t)).setCell (p := ⟨w.heap.size, 2, none⟩) (Nat.le_refl _) (.int .i64 x.id)
          generalize (((w3.setCell ⟨w.heap.size, 0, none⟩ (.int .i64 x.k)).setCell ⟨w.heap.size, 1, none⟩ (.string x.t)).setCell ⟨w.heap.size, 2, none⟩ (.int .i64 x.id)) = wz at *
          obtain ⟨z0, z1, z2, _⟩ := cells_item hWz
          (try simp only [Exit.inBlock, Exit.then])
          refine bodyPost_ret (v := .tuple #[.agg #[.int .i64 x.k, .string x.t, .int .i64 x.id], .int .i64 (n : Int)]) (by simp [results, Tryz.results21, go_sem, z0, z1, z2]; try rfl) rfl ⟨⟨x.k, x.t, x.id⟩, n, rfl, HT.out, hBz⟩
    have q123 : ((s[0].toNat : Int) == 123) = false := u8_int_ne c123
    by_cases c92 : s[0] = 92
    · have q92 : ((s[0].toNat : Int) == 92) = true := by rw [c92]; rfl
      have HL := Lib.hid (show rdE (s[0] :: r) = rdEsc r by rw [c92, rdE_92])
      have hc := fun W => readescape_any s r W h0 hd hs
      have HC := Lib.hid hc
      have HT := Lib.hid (fun (x : It) (n : Nat) (h : OptOk (rdEsc r) x n) => (show OptOk (rdE (s[0] :: r)) x n by rw [HL.out]; exact h))
      clear c60 c123 c92
      clear hc hL hd
      go_enter Tryz.func21, Tryz.ntmps21
      go_wp2_with fail
      refine (HC.out _).mono ?_; rintro e w1 ⟨x, n, rfl, hx, hb1⟩
      have hK := Lib.hid (HT.out x n hx)
      have hV := hZ.call hb1
      have hB := BelowOn hBa hb1
      clear hx
      obtain ⟨v0, v1, v2, v3, v4, v5⟩ := cells_item hV
      go_wp2_with fail
      have hWz := heap_set3 (a' := .int .i64 x.k) (b' := .string x.t) (c' := .int .i64 x.id) hV
      have hBz := ((hB.setCell (p := ⟨w.heap.size, 0, none⟩) (Nat.le_refl _) (.int .i64 x.k)).setCell (p := ⟨w.heap.size, 1, none⟩) (Nat.le_refl _) (.string x.t)).setCell (p := ⟨w.heap.size, 2, none⟩) (Nat.le_refl _) (.int .i64 x.id)
      generalize (((w1.setCell ⟨w.heap.size, 0, none⟩ (.int .i64 x.k)).setCell ⟨w.heap.size, 1, none⟩ (.string x.t)).setCell ⟨w.heap.size, 2, none⟩ (.int .i64 x.id)) = wz at *
      obtain ⟨z0, z1, z2, _⟩ := cells_item hWz
      (try simp only [Exit.inBlock, Exit.then])
      refine bodyPost_ret (v := .tuple #[.agg #[.int .i64 x.k, .string x.t, .int .i64 x.id], .int .i64 (n : Int)]) (by simp [results, Tryz.results21, go_sem, z0, z1, z2]; try rfl) rfl ⟨⟨x.k, x.t, x.id⟩, n, rfl, hK.out, hBz⟩
    have q92 : ((s[0].toNat : Int) == 92) = false := u8_int_ne c92
    have hc := fun W => readbyte_any s s[0] r W hL hs
    have HC := Lib.hid hc
    have HT := Lib.hid (fun (x : It) (n : Nat) (h : ByteOk s[0] x n) => byte_opt (r := r) c60 c123 c92 h)
    clear c60 c123 c92
    clear hc hL hd
    go_enter Tryz.func21, Tryz.ntmps21
    go_wp2_with fail
    refine (HC.out _).mono ?_; rintro e w1 ⟨x, n, rfl, hx, hb1⟩
    have hK := Lib.hid (HT.out x n hx)
    have hV := hZ.call hb1
    have hB := BelowOn hBa hb1
    clear hx
    obtain ⟨v0, v1, v2, v3, v4, v5⟩ := cells_item hV
    go_wp2_with fail
    have hWz := heap_set3 (a' := .int .i64 x.k) (b' := .string x.t) (c' := .int .i64 x.id) hV
    have hBz := ((hB.setCell (p := ⟨w.heap.size, 0, none⟩) (Nat.le_refl _) (.int .i64 x.k)).setCell (p := ⟨w.heap.size, 1, none⟩) (Nat.le_refl _) (.string x.t)).setCell (p := ⟨w.heap.size, 2, none⟩) (Nat.le_refl _) (.int .i64 x.id)
    generalize (((w1.setCell ⟨w.heap.size, 0, none⟩ (.int .i64 x.k)).setCell ⟨w.heap.size, 1, none⟩ (.string x.t)).setCell ⟨w.heap.size, 2, none⟩ (.int .i64 x.id)) = wz at *
    obtain ⟨z0, z1, z2, _⟩ := cells_item hWz
    (try simp only [Exit.inBlock, Exit.then])
    refine bodyPost_ret (v := .tuple #[.agg #[.int .i64 x.k, .string x.t, .int .i64 x.id], .int .i64 (n : Int)]) (by simp [results, Tryz.results21, go_sem, z0, z1, z2]; try rfl) rfl ⟨⟨x.k, x.t, x.id⟩, n, rfl, hK.out, hBz⟩
end Go.Proofs.YtaogjccmeajpoaaGreatDoor
