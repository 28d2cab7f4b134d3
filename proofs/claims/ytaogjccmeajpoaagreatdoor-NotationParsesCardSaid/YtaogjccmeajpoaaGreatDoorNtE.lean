/- Plain mathematics of the reference's read: the first byte whose notation is ahead, a slot's first brace. Contracts of the reference's read: a byte of text. Contracts of the reference's read: a slot. Plain mathematics of the reference's readTag: up to four digits and what they write. The contract of the reference's readTag (under way). Plain mathematics of the digits' loop of the reference's readTag. The contract of the reference's readTag. The contract of the reference's Parse, over its read's. The contract of the reference's read, and of its Parse. -/
import Derived.Test.YtaogjccmeajpoaaGreatDoorNtA
import Derived.Test.YtaogjccmeajpoaaGreatDoorNrf
import Derived.Test.YtaogjccmeajpoaaGreatDoorNtC
import Derived.Deep.Cut
import Derived.Deep.DeepCutAuto
import Derived.Test.YtaogjccmeajpoaaGreatDoorNtD
namespace Go.Proofs.YtaogjccmeajpoaaGreatDoor
set_option linter.unusedVariables false
open Go.Lib

theorem rd_first {l : List UInt8} {c : UInt8} (h : wrU c <+: l) : rdE l = some (bT c, (wrU c).length) := by
  obtain ⟨t, rfl⟩ := h
  exact rd_byte c t
theorem rdHex_k {r : List UInt8} {x : It} {n : Nat} (h : rdHex r = some (x, n)) : x.k = 1 := by
  match r, h with
  | [], h => cases h
  | [_], h => cases h
  | a :: b :: t, h =>
    rw [rdHex_two] at h
    split at h
    · injection h with h; injection h with h _; rw [← h]; rfl
    · cases h
theorem rd_text_k {a : UInt8} {r : List UInt8} (h1 : a ≠ 60) (h2 : a ≠ 123) {x : It} {n : Nat} (h : rdE (a :: r) = some (x, n)) : x.k = 1 := by
  by_cases h3 : a = 92
  · subst h3
    rw [rdE_92] at h
    cases r with
    | nil => cases h
    | cons c r' =>
      rw [rdEsc_cons] at h
      split at h
      · exact rdHex_k h
      · split at h
        · injection h with h; injection h with h _; rw [← h]; rfl
        · cases h
  · rw [rdE_plain a r h1 h2 h3] at h
    unfold rdPlain at h
    split at h
    · injection h with h; injection h with h _; rw [← h]; rfl
    · cases h
theorem rd_none_of {a : UInt8} {r : List UInt8} (h1 : a ≠ 60) (h2 : a ≠ 123) (h : ∀ c : UInt8, ¬ (wrU c <+: a :: r)) : rdE (a :: r) = none := by
  cases h' : rdE (a :: r) with
  | none => rfl
  | some y =>
    obtain ⟨x, n⟩ := y
    have hk := rd_text_k h1 h2 h'
    obtain ⟨e1, _, _, e2⟩ := rd_take h'
    obtain ⟨e3, e4⟩ := e2 hk
    exfalso
    have e5 : elL x = wrL x.t.data.toList := if_pos hk
    obtain ⟨c, hc⟩ : ∃ c, x.t.data.toList = [c] := by
      have hl : x.t.data.toList.length = 1 := by rw [← e4]; simp
      exact List.length_eq_one_iff.1 hl
    rw [e5, hc] at e1
    have e6 : wrL [c] = wrU c := by unfold wrL; simp
    rw [e6] at e1
    exact h c (e1 ▸ List.take_prefix n (a :: r))
theorem upto_get (c : UInt8) (r : List UInt8) (h : (upto c r).length < r.length) : r[(upto c r).length]'h = c := by
  induction r with
  | nil => simp at h
  | cons y t ih =>
    by_cases hy : y = c
    · subst hy
      have : upto y (y :: t) = [] := by unfold upto; simp
      simp only [this]; rfl
    · have hyc : (y != c) = true := by simpa using hy
      have e : upto c (y :: t) = y :: upto c t := by unfold upto; rw [List.takeWhile_cons, hyc, if_pos rfl]
      simp only [e, List.length_cons] at h ⊢
      simp only [List.getElem_cons_succ]
      exact ih (by omega)
theorem slot_at (r : List UInt8) (k : Nat) (hk : k < r.length) : (r[k] = 125 ∧ isNm (bsL (r.take k)) = true) ↔ (hasU 125 r = true ∧ k = (upto 125 r).length ∧ isNm (bsL (upto 125 r)) = true) := by
  constructor
  · rintro ⟨h1, h2⟩
    have hb : ∀ x ∈ r.take k, x ≠ 125 := fun x hx e => by
      have := nm_mem h2 (c := x) (by rw [bsL_list]; exact hx)
      rw [e] at this; exact absurd this (by decide)
    have e : r.take k ++ 125 :: r.drop (k + 1) = r := by
      have := List.take_append_drop k r
      rw [List.drop_eq_getElem_cons hk, h1] at this
      exact this
    have e2 : upto 125 r = r.take k := by rw [← e]; rw [upto_app _ _ _ hb]; rw [e]
    refine ⟨?_, ?_, by rw [e2]; exact h2⟩
    · unfold hasU; rw [e2]; simp; omega
    · rw [e2]; simp; omega
  · rintro ⟨h1, h2, h3⟩
    unfold hasU at h1
    have h1 := of_decide_eq_true h1
    subst h2
    exact ⟨upto_get 125 r h1, by rw [upto_take]; exact h3⟩
end Go.Proofs.YtaogjccmeajpoaaGreatDoor
namespace Go.Proofs.YtaogjccmeajpoaaGreatDoor
open Go.ChangeShapes Go.WideShapes Go.ChangeAt Go.RowKit
set_option linter.unusedVariables false
set_option linter.unusedSimpArgs false
set_option maxRecDepth 100000

theorem pre_iff (s : ByteArray) (T : List UInt8) (h : T.length ≤ s.size) : T <+: s.data.toList ↔ s.extract 0 T.length = bsL T := by
  have e : (s.extract 0 T.length).data.toList = s.data.toList.take T.length := by simp [ByteArray.extract, ByteArray.copySlice]
  constructor
  · intro hp
    rw [← bsL_of (s.extract 0 T.length), e, ← List.prefix_iff_eq_take.1 hp]
  · intro hp
    rw [hp, bsL_list] at e
    exact List.prefix_iff_eq_take.2 e
theorem toList_iff (a b : ByteArray) : a.toList = b.toList ↔ a = b := by
  rw [Go.ByteArray.toList_eq a, Go.ByteArray.toList_eq b, Array.toList_inj]
  exact ⟨fun h => ByteArray.ext h, fun h => by rw [h]⟩
set_option maxHeartbeats 3200000 in
theorem rread_text (s : ByteArray) (a : UInt8) (r : List UInt8) (w : World) (hl : s.data.toList = a :: r) (h1 : a ≠ 60) (h2 : a ≠ 123) (hs : s.size ≤ 1000000000000) :
    Calls Tryz.prog 24 #[.string s] w (EndX (OptOk (rdE s.data.toList)) w) := by
  have hsz : s.data.toList.length = s.size := by simp
  have hpos : 0 < s.size := by rw [← hsz, hl]; simp
  have ha : s[0] = a := by
    have : s.data.toList[0]'(by rw [hsz]; exact hpos) = a := by simp only [hl]; rfl
    rw [← this]; simp; rfl
  have q1 : ((s[0].toNat : Int) == 123) = false := by rw [ha]; exact u8_int_ne h2
  have q2 : ((s[0].toNat : Int) == 60) = false := by rw [ha]; exact u8_int_ne h1
  have hno : (∀ c : UInt8, ¬ (wrU c <+: s.data.toList)) → rdE s.data.toList = none := fun h => by rw [hl] at h ⊢; exact rd_none_of h1 h2 h
  have hyes : ∀ c : UInt8, wrU c <+: s.data.toList → rdE s.data.toList = some (bT c, (wrU c).length) := fun c h => rd_first h
  have hpre := fun (c : UInt8) => pre_iff s (wrU c)
  have hlong : ∀ c : UInt8, wrU c <+: s.data.toList → (wrU c).length ≤ s.size := fun c h => by rw [← hsz]; exact h.length_le
  generalize rdE s.data.toList = o at *
  have HNO := Lib.hid hno; have HYES := Lib.hid hyes; have HPRE := Lib.hid hpre; have HLONG := Lib.hid hlong
  have hZ := zV.new w
  have hBa := blw (Below.refl w.heap.size w) (.cells #[.int .i64 0, .string ByteArray.empty, .int .i64 0] 43)
  clear hno hyes hpre hlong hl h1 h2 ha
  go_enter Tryz.func24, Tryz.ntmps24
  go_wp2_with fail
  go_loopw [5] (fun i wr => ∃ k : Nat, k ≤ 256 ∧ i = .int .i64 k ∧ Hid (∀ c : UInt8, c.toNat < k → ¬ (wrU c <+: s.data.toList)) ∧ zV wr w.heap.size ∧ Below w.heap.size w wr) (fun i _ => 256 - (intOf i).toNat)
  case atStart => exact ⟨0, by omega, rfl, Lib.hid (fun c h => absurd h (by omega)), hZ, hBa⟩
  case round =>
    obtain ⟨k, hk, rfl, HB, hV, hB⟩ := hrel
    by_cases hlt : k < 256
    · obtain ⟨u, rfl⟩ : ∃ u : UInt8, u.toNat = k := ⟨UInt8.ofNat k, by rw [UInt8.toNat_ofNat']; omega⟩
      have hw := fun W => rwritten_any u W
      have e5 : IntKind.u8.wrap (u.toNat : Int) = (u.toNat : Int) := by simp [IntKind.wrap, IntKind.signed, IntKind.bits]; omega
      have hT : (bsL (wrU u)).size = (wrU u).length := bsL_size _
      have hTl := (wrU_len u).2
      have hp := HPRE.out u
      rw [← hT] at hp hTl
      obtain ⟨T, hTT⟩ : ∃ T, T = bsL (wrU u) := ⟨_, rfl⟩
      simp only [← hTT] at hw hp hTl hT
      by_cases hpr : wrU u <+: s.data.toList
      · have hle : T.size ≤ s.size := by rw [hT]; exact HLONG.out u hpr
        have heq := (hp hle).1 hpr
        have qe : ((s.extract 0 T.size).toList == T.toList) = true := by rw [heq]; simp
        have ho := HYES.out u hpr
        have HT : Hid (OptOk o (bT u) T.size) := Lib.hid (by rw [ho]; exact ⟨rfl, hT⟩)
        have HW := Lib.hid hw
        have hle' : (T.size : Int) ≤ (s.size : Int) := by omega
        clear hw hp hTT hT ho hpr heq
        go_wp2_with fail
        refine (HW.out _).mono ?_; rintro e w1 ⟨rfl, hb⟩
        have hV1 := hV.call hb
        have hB1 := BelowOn hB hb
        have hcv := conv_one (w := w1.alloc (.cells #[.int .u8 (u.toNat : Int)] 5)) u w1.heap.size (heap_alloc_new _ _)
        have hV2 := hV1.call (blw (Below.refl _ _) (.cells #[.int .u8 (u.toNat : Int)] 5))
        have hB2 := blw hB1 (.cells #[.int .u8 (u.toNat : Int)] 5)
        obtain ⟨v0, v1, v2, v3, v4, v5⟩ := cells_item hV2
        go_wp2_with fail
        have hWz := heap_set3 (a' := .int .i64 1) (b' := .string ⟨#[u]⟩) (c' := .int .i64 0) hV2
        have hBz := ((hB2.setCell (p := ⟨w.heap.size, 0, none⟩) (Nat.le_refl _) (.int .i64 1)).setCell (p := ⟨w.heap.size, 1, none⟩) (Nat.le_refl _) (.string ⟨#[u]⟩)).setCell (p := ⟨w.heap.size, 2, none⟩) (Nat.le_refl _) (.int .i64 0)
        generalize ((((w1.alloc (.cells #[.int .u8 (u.toNat : Int)] 5)).setCell ⟨w.heap.size, 0, none⟩ (.int .i64 1)).setCell ⟨w.heap.size, 1, none⟩ (.string ⟨#[u]⟩)).setCell ⟨w.heap.size, 2, none⟩ (.int .i64 0)) = wz at *
        obtain ⟨z0, z1, z2, _⟩ := cells_item hWz
        (try simp only [Exit.inBlock, Exit.then])
        refine bodyPost_ret (v := .tuple #[.agg #[.int .i64 1, .string ⟨#[u]⟩, .int .i64 0], .int .i64 (T.size : Int)]) (by simp [results, Tryz.results24, go_sem, z0, z1, z2]; try rfl) rfl ⟨⟨1, ⟨#[u]⟩, 0⟩, _, rfl, HT.out, hBz⟩
      · have hz : Hid (∀ c : UInt8, c.toNat < u.toNat + 1 → ¬ (wrU c <+: s.data.toList)) := Lib.hid fun c hc => by
          by_cases e : c.toNat = u.toNat
          · rw [UInt8.toNat_inj.1 e]; exact hpr
          · exact HB.out c (by omega)
        have HW := Lib.hid hw
        by_cases hle : T.size ≤ s.size
        · have hne : ((s.extract 0 T.size).toList == T.toList) = false := by
            rw [beq_eq_false_iff_ne]; intro e; exact hpr ((hp hle).2 ((toList_iff _ _).1 e))
          have hle' : (T.size : Int) ≤ (s.size : Int) := by omega
          clear hw hp hTT hT hpr
          go_wp2_with fail
          refine (HW.out _).mono ?_; rintro e w1 ⟨rfl, hb⟩
          have hV1 := hV.call hb
          have hB1 := BelowOn hB hb
          go_wp2_with fail
          go_roundw
          case rel => exact ⟨u.toNat + 1, hlt, by go_num, hz, hV1, hB1⟩
          case measure => simp [intOf]; omega
        · have hle' : (s.size : Int) < (T.size : Int) := by omega
          clear hw hp hTT hT hpr
          go_wp2_with fail
          refine (HW.out _).mono ?_; rintro e w1 ⟨rfl, hb⟩
          have hV1 := hV.call hb
          have hB1 := BelowOn hB hb
          go_wp2_with fail
          go_roundw
          case rel => exact ⟨u.toNat + 1, hlt, by go_num, hz, hV1, hB1⟩
          case measure => simp [intOf]; omega
    · obtain rfl : k = 256 := by omega
      have ho := HNO.out (fun c => HB.out c c.toNat_lt)
      have HT : Hid (OptOk o zI 0) := Lib.hid (by rw [ho]; exact ⟨rfl, rfl⟩)
      clear ho
      obtain ⟨v0, v1, v2, v3, v4, v5⟩ := cells_item hV
      go_wp2_with fail
      have hWz := heap_set3 (a' := .int .i64 0) (b' := .string ⟨#[]⟩) (c' := .int .i64 0) hV
      have hBz := ((hB.setCell (p := ⟨w.heap.size, 0, none⟩) (Nat.le_refl _) (.int .i64 0)).setCell (p := ⟨w.heap.size, 1, none⟩) (Nat.le_refl _) (.string ⟨#[]⟩)).setCell (p := ⟨w.heap.size, 2, none⟩) (Nat.le_refl _) (.int .i64 0)
      generalize (((wr.setCell ⟨w.heap.size, 0, none⟩ (.int .i64 0)).setCell ⟨w.heap.size, 1, none⟩ (.string ⟨#[]⟩)).setCell ⟨w.heap.size, 2, none⟩ (.int .i64 0)) = wz at *
      obtain ⟨z0, z1, z2, _⟩ := cells_item hWz
      (try simp only [Exit.inBlock, Exit.then])
      refine bodyPost_ret (v := .tuple #[.agg #[.int .i64 0, .string ⟨#[]⟩, .int .i64 0], .int .i64 0]) (by simp [results, Tryz.results24, go_sem, z0, z1, z2]; try rfl) rfl ⟨⟨0, ⟨#[]⟩, 0⟩, _, rfl, HT.out, hBz⟩
end Go.Proofs.YtaogjccmeajpoaaGreatDoor
namespace Go.Proofs.YtaogjccmeajpoaaGreatDoor
open Go.ChangeShapes Go.WideShapes Go.ChangeAt Go.RowKit
set_option linter.unusedVariables false
set_option linter.unusedSimpArgs false
set_option maxRecDepth 100000

theorem byte_rest {s : ByteArray} {a : UInt8} {r : List UInt8} (hl : s.data.toList = a :: r) (k : Nat) (h1 : 1 ≤ k) (hk : k < s.size) : ∃ h : k - 1 < r.length, s[k] = r[k - 1] := by
  have hsz : s.data.toList.length = s.size := by simp
  have hrl : r.length + 1 = s.size := by rw [← hsz, hl]; simp
  refine ⟨by omega, ?_⟩
  have e : s.data.toList[k]'(by rw [hsz]; exact hk) = r[k - 1]'(by omega) := by
    simp only [hl]
    obtain ⟨j, rfl⟩ : ∃ j, k = j + 1 := ⟨k - 1, by omega⟩
    rfl
  rw [← e]; simp; rfl
theorem cut_rest {s : ByteArray} {a : UInt8} {r : List UInt8} (hl : s.data.toList = a :: r) (k : Nat) (h1 : 1 ≤ k) : s.extract 1 k = bsL (r.take (k - 1)) := by
  have e : (s.extract 1 k).data.toList = (s.data.toList.drop 1).take (k - 1) := by simp [ByteArray.extract, ByteArray.copySlice]
  rw [← bsL_of (s.extract 1 k), e, hl]; rfl
/-- What the slot's loop looks for. -/
def SlP (r : List UInt8) (k : Nat) : Prop := ∃ h : k - 1 < r.length, r[k - 1] = 125 ∧ isNm (bsL (r.take (k - 1))) = true
theorem slp_yes {r : List UInt8} {k : Nat} (h1 : 1 ≤ k) (h : SlP r k) : rdSlot r = some (⟨5, bsL (r.take (k - 1)), 0⟩, k + 1) := by
  obtain ⟨hk, h2⟩ := h
  obtain ⟨a, b, c⟩ := (slot_at r (k - 1) hk).1 h2
  have e : upto 125 r = r.take (k - 1) := by rw [b]; exact (upto_take 125 r).symm
  unfold rdSlot
  rw [if_pos ⟨a, c⟩, ← b, e, show k - 1 + 2 = k + 1 by omega]
theorem slp_no {r : List UInt8} {k : Nat} (hk : r.length + 1 ≤ k ∨ k = 26) (h : ∀ j, 1 ≤ j → j < k → ¬ SlP r j) : rdSlot r = none := by
  unfold rdSlot
  split
  · rename_i hc
    exfalso
    obtain ⟨h1, h2⟩ := hc
    have hlt : (upto 125 r).length < r.length := of_decide_eq_true h1
    have hs : (bsL (upto 125 r)).size ≤ 24 := (isNm_bytes _ h2).2.1
    rw [bsL_size] at hs
    refine h ((upto 125 r).length + 1) (by omega) (by omega) ⟨by simpa using hlt, ?_⟩
    have := (slot_at r (upto 125 r).length hlt).2 ⟨h1, rfl, h2⟩
    simpa using this
  · rfl
-- WALK
set_option maxHeartbeats 3200000 in
theorem rread_slot (s : ByteArray) (r : List UInt8) (w : World) (hl : s.data.toList = 123 :: r) (hs : s.size ≤ 1000000000000) :
    Calls Tryz.prog 24 #[.string s] w (EndX (OptOk (rdE s.data.toList)) w) := by
  have hsz : s.data.toList.length = s.size := by simp
  have hrl : r.length + 1 = s.size := by rw [← hsz, hl]; simp
  have hpos : 0 < s.size := by omega
  have ha : s[0] = 123 := by
    have : s.data.toList[0]'(by rw [hsz]; exact hpos) = 123 := by simp only [hl]; rfl
    rw [← this]; simp; rfl
  have q1 : ((s[0].toNat : Int) == 123) = true := by rw [ha]; rfl
  have hb := fun k h1 hk => byte_rest hl k h1 hk
  have hc := fun k h1 => cut_rest hl k h1
  rw [hl, rdE_123]
  have hyes := fun k (h1 : 1 ≤ k) (h : SlP r k) => slp_yes h1 h
  have hno := fun k (hk : r.length + 1 ≤ k ∨ k = 26) h => slp_no hk h
  have hnm := fun (u : ByteArray) W (h : u.size ≤ maxLen) => risname_any u W h
  generalize rdSlot r = o at *
  have HB := Lib.hid hb; have HC := Lib.hid hc; have HYES := Lib.hid hyes; have HNO := Lib.hid hno; have HN := Lib.hid hnm
  have hZ := zV.new w
  have hBa := blw (Below.refl w.heap.size w) (.cells #[.int .i64 0, .string ByteArray.empty, .int .i64 0] 43)
  clear hb hc hyes hno hnm hl ha
  go_enter Tryz.func24, Tryz.ntmps24
  go_wp2_with fail
  go_loopw [4] (fun i wr => ∃ k : Nat, 1 ≤ k ∧ k ≤ s.size ∧ k ≤ 26 ∧ i = .int .i64 k ∧ Hid (∀ j, 1 ≤ j → j < k → ¬ SlP r j) ∧ zV wr w.heap.size ∧ Below w.heap.size w wr) (fun i _ => 26 - (intOf i).toNat)
  case atStart => exact ⟨1, by omega, by omega, by omega, rfl, Lib.hid (fun j h1 h2 => absurd h2 (by omega)), hZ, hBa⟩
  case round =>
    obtain ⟨k, hk1, hks, hk, rfl, HJ, hV, hB⟩ := hrel
    by_cases hend : k = s.size ∨ k = 26
    · have ho := HNO.out k (by omega) HJ.out
      have HT : Hid (OptOk o zI 0) := Lib.hid (by rw [ho]; exact ⟨rfl, rfl⟩)
      clear ho
      obtain ⟨v0, v1, v2, v3, v4, v5⟩ := cells_item hV
      rcases hend with hend | hend
      · have qq : (s.size : Int) ≤ (k : Int) := by omega
        go_wp2_with fail
        have hWz := heap_set3 (a' := .int .i64 0) (b' := .string ⟨#[]⟩) (c' := .int .i64 0) hV
        have hBz := ((hB.setCell (p := ⟨w.heap.size, 0, none⟩) (Nat.le_refl _) (.int .i64 0)).setCell (p := ⟨w.heap.size, 1, none⟩) (Nat.le_refl _) (.string ⟨#[]⟩)).setCell (p := ⟨w.heap.size, 2, none⟩) (Nat.le_refl _) (.int .i64 0)
        generalize (((wr.setCell ⟨w.heap.size, 0, none⟩ (.int .i64 0)).setCell ⟨w.heap.size, 1, none⟩ (.string ⟨#[]⟩)).setCell ⟨w.heap.size, 2, none⟩ (.int .i64 0)) = wz at *
        obtain ⟨z0, z1, z2, _⟩ := cells_item hWz
        (try simp only [Exit.inBlock, Exit.then])
        refine bodyPost_ret (v := .tuple #[.agg #[.int .i64 0, .string ⟨#[]⟩, .int .i64 0], .int .i64 0]) (by simp [results, Tryz.results24, go_sem, z0, z1, z2]; try rfl) rfl ⟨⟨0, ⟨#[]⟩, 0⟩, _, rfl, HT.out, hBz⟩
      · subst hend
        go_wp2_with fail
        all_goals (have hX := hV)
        all_goals (have hWz := heap_set3 (a' := .int .i64 0) (b' := .string ⟨#[]⟩) (c' := .int .i64 0) hV)
        all_goals (have hBz := ((hB.setCell (p := ⟨w.heap.size, 0, none⟩) (Nat.le_refl _) (.int .i64 0)).setCell (p := ⟨w.heap.size, 1, none⟩) (Nat.le_refl _) (.string ⟨#[]⟩)).setCell (p := ⟨w.heap.size, 2, none⟩) (Nat.le_refl _) (.int .i64 0))
        all_goals (generalize (((wr.setCell ⟨w.heap.size, 0, none⟩ (.int .i64 0)).setCell ⟨w.heap.size, 1, none⟩ (.string ⟨#[]⟩)).setCell ⟨w.heap.size, 2, none⟩ (.int .i64 0)) = wz at *)
        all_goals (obtain ⟨z0, z1, z2, _⟩ := cells_item hWz)
        all_goals ((try simp only [Exit.inBlock, Exit.then]))
        all_goals (refine bodyPost_ret (v := .tuple #[.agg #[.int .i64 0, .string ⟨#[]⟩, .int .i64 0], .int .i64 0]) (by simp [results, Tryz.results24, go_sem, z0, z1, z2]; try rfl) rfl ⟨⟨0, ⟨#[]⟩, 0⟩, _, rfl, HT.out, hBz⟩)
    · have hlt : k < s.size := by omega
      have h25 : k ≤ 25 := by omega
      have i0 : (0 : Int) ≤ (k : Int) := by omega
      have i1 : (1 : Int) ≤ (k : Int) := by omega
      have i2 : (k : Int) < (s.size : Int) := by omega
      have i3 : (k : Int) ≤ (s.size : Int) := by omega
      obtain ⟨hkr, hsk⟩ := HB.out k hk1 hlt
      have hcut := HC.out k hk1
      have hstep : ¬ SlP r k → Hid (∀ j, 1 ≤ j → j < k + 1 → ¬ SlP r j) := fun hn => Lib.hid fun j h1 h2 => by
        by_cases e : j = k
        · subst e; exact hn
        · exact HJ.out j h1 (by omega)
      by_cases hc : r[k - 1] = 125
      · have q : ((s[k].toNat : Int) == 125) = true := by rw [hsk, hc]; rfl
        have hn := fun W => HN.out (s.extract 1 k) W (by unfold maxLen; simp; omega)
        cases hB0 : isNm (s.extract 1 k)
        · rw [hB0] at hn
          have HZ := hstep (fun ⟨_, _, h⟩ => by rw [← hcut, hB0] at h; cases h)
          have HN2 := Lib.hid hn
          clear hn hB0 hstep hcut hsk
          go_wp2_with fail
          refine (HN2.out _).mono ?_; rintro e w1 ⟨rfl, rfl⟩
          go_wp2_with fail
          go_roundw
          case rel => exact ⟨k + 1, by omega, hlt, by omega, by go_num, HZ, hV, hB⟩
          case measure => simp [intOf]; omega
        · rw [hB0] at hn
          have ho := HYES.out k hk1 ⟨hkr, hc, by rw [← hcut]; exact hB0⟩
          rw [← hcut] at ho
          have HT : Hid (OptOk o ⟨5, s.extract 1 k, 0⟩ (k + 1)) := Lib.hid (by rw [ho]; exact ⟨rfl, rfl⟩)
          have HN2 := Lib.hid hn
          clear hn hB0 hstep hcut hsk ho
          go_wp2_with fail
          refine (HN2.out _).mono ?_; rintro e w1 ⟨rfl, rfl⟩
          obtain ⟨v0, v1, v2, v3, v4, v5⟩ := cells_item hV
          go_wp2_with fail
          have hWz := heap_set3 (a' := .int .i64 5) (b' := .string (s.extract 1 k)) (c' := .int .i64 0) hV
          have hBz := ((hB.setCell (p := ⟨w.heap.size, 0, none⟩) (Nat.le_refl _) (.int .i64 5)).setCell (p := ⟨w.heap.size, 1, none⟩) (Nat.le_refl _) (.string (s.extract 1 k))).setCell (p := ⟨w.heap.size, 2, none⟩) (Nat.le_refl _) (.int .i64 0)
          generalize (((wr.setCell ⟨w.heap.size, 0, none⟩ (.int .i64 5)).setCell ⟨w.heap.size, 1, none⟩ (.string (s.extract 1 k))).setCell ⟨w.heap.size, 2, none⟩ (.int .i64 0)) = wz at *
          obtain ⟨z0, z1, z2, _⟩ := cells_item hWz
          (try simp only [Exit.inBlock, Exit.then])
          refine bodyPost_ret (v := .tuple #[.agg #[.int .i64 5, .string (s.extract 1 k), .int .i64 0], .int .i64 ((k + 1 : Nat) : Int)]) (by simp [results, Tryz.results24, go_sem, z0, z1, z2]; try rfl) rfl ⟨⟨5, (s.extract 1 k), 0⟩, _, rfl, HT.out, hBz⟩
      · have q : ((s[k].toNat : Int) == 125) = false := by rw [hsk]; exact u8_int_ne hc
        have HZ := hstep (fun ⟨_, h, _⟩ => hc h)
        clear hstep hcut hsk
        go_wp2_with fail
        go_roundw
        case rel => exact ⟨k + 1, by omega, hlt, by omega, by go_num, HZ, hV, hB⟩
        case measure => simp [intOf]; omega
end Go.Proofs.YtaogjccmeajpoaaGreatDoor
namespace Go.Proofs.YtaogjccmeajpoaaGreatDoor
set_option linter.unusedVariables false
open Go.Lib

def digB (c : UInt8) : Bool := decide (48 ≤ c.toNat ∧ c.toNat ≤ 57)
/-- The digits at the head of a list, at most four. -/
def dgs (l : List UInt8) : List UInt8 := (l.take 4).takeWhile digB
def valD (l : List UInt8) : Nat := l.foldl (fun a c => 10 * a + (c.toNat - 48)) 0
theorem valD_snoc (l : List UInt8) (c : UInt8) : valD (l ++ [c]) = 10 * valD l + (c.toNat - 48) := by unfold valD; rw [List.foldl_append]; rfl
theorem dig_of (c : UInt8) (h : digB c = true) : UInt8.ofNat (48 + (c.toNat - 48)) = c := by
  have h := of_decide_eq_true h
  rw [show 48 + (c.toNat - 48) = c.toNat by omega]; simp
theorem dec_val : ∀ (n : Nat) (d : List UInt8), d.length = n + 1 → (∀ c ∈ d, digB c = true) → d.head? ≠ some 48 → 1 ≤ valD d ∧ decDigits (valD d) = d := by
  intro n
  induction n with
  | zero =>
    intro d hl hd h0
    obtain ⟨c, rfl⟩ := List.length_eq_one_iff.1 hl
    have hc := hd c (by simp)
    have hr := of_decide_eq_true hc
    have hne : c.toNat ≠ 48 := fun e => h0 (by simp; exact UInt8.toNat_inj.1 e)
    have e : valD [c] = c.toNat - 48 := by unfold valD; simp
    rw [e]
    refine ⟨by omega, ?_⟩
    rw [decDigits_one (by omega), dig_of c hc]
  | succ n ih =>
    intro d hl hd h0
    have hne : d ≠ [] := fun e => by rw [e] at hl; cases hl
    obtain ⟨m, c, rfl⟩ : ∃ m c, d = m ++ [c] := ⟨d.dropLast, d.getLast hne, (List.dropLast_concat_getLast hne).symm⟩
    have hm : m.length = n + 1 := by simpa using hl
    have hmd : ∀ x ∈ m, digB x = true := fun x hx => hd x (by simp [hx])
    have hc := hd c (by simp)
    have hr := of_decide_eq_true hc
    have hm0 : m.head? ≠ some 48 := by
      cases m with
      | nil => cases hm
      | cons y t => simpa using h0
    obtain ⟨h1, h2⟩ := ih m hm hmd hm0
    rw [valD_snoc]
    refine ⟨by omega, ?_⟩
    rw [dec_big (by omega), show (10 * valD m + (c.toNat - 48)) / 10 = valD m by omega, show (10 * valD m + (c.toNat - 48)) % 10 = c.toNat - 48 by omega, h2, dig_of c hc]
theorem ofNat_dig (x : Nat) (h : x < 10) : digB (UInt8.ofNat (48 + x)) = true ∧ (UInt8.ofNat (48 + x)).toNat - 48 = x ∧ (UInt8.ofNat (48 + x) = 48 → x = 0) := by
  have e : (UInt8.ofNat (48 + x)).toNat = 48 + x := by rw [UInt8.toNat_ofNat']; omega
  refine ⟨decide_eq_true (by omega), by omega, fun h => ?_⟩
  rw [h] at e
  have : (48 : UInt8).toNat = 48 := rfl
  omega
theorem dec_shape : ∀ n, 1 ≤ n → (∀ c ∈ decDigits n, digB c = true) ∧ decDigits n ≠ [] ∧ (decDigits n).head? ≠ some 48 ∧ valD (decDigits n) = n := by
  intro n
  induction n using Nat.strongRecOn with
  | _ n ih =>
    intro h1
    by_cases h : n < 10
    · rw [decDigits_one h]
      obtain ⟨a, b, c⟩ := ofNat_dig n h
      refine ⟨fun x hx => by rw [List.mem_singleton.1 hx]; exact a, by simp, fun e => ?_, ?_⟩
      · have := c (by simpa using e); omega
      · have e : valD [UInt8.ofNat (48 + n)] = (UInt8.ofNat (48 + n)).toNat - 48 := by unfold valD; simp
        rw [e, b]
    · rw [dec_big h]
      obtain ⟨p, q, r, s⟩ := ih (n / 10) (by omega) (by omega)
      obtain ⟨a, b, c⟩ := ofNat_dig (n % 10) (by omega)
      refine ⟨fun x hx => ?_, by simp, ?_, ?_⟩
      · rcases List.mem_append.1 hx with hx | hx
        · exact p x hx
        · rw [List.mem_singleton.1 hx]; exact a
      · cases hd : decDigits (n / 10) with
        | nil => exact absurd hd q
        | cons y t => rw [hd] at r; simpa using r
      · rw [valD_snoc, s, b]; omega
theorem dec_three (n : Nat) (h : n ≤ 999) : (decDigits n).length ≤ 3 := by
  by_cases h1 : n < 10
  · rw [decDigits_one h1]; simp
  · rw [dec_big h1, List.length_append]
    by_cases h2 : n / 10 < 10
    · rw [decDigits_one h2]; simp
    · rw [dec_big h2, List.length_append, decDigits_one (by omega)]; simp
theorem dgs_dig (T : List UInt8) : ∀ c ∈ dgs T, digB c = true := fun c hc => by
  unfold dgs at hc
  exact (List.all_eq_true.1 (List.all_takeWhile (p := digB) (l := T.take 4))) c hc
theorem dgs_pre (T : List UInt8) : T.take (dgs T).length = dgs T := by
  have h1 : dgs T <+: T.take 4 := List.takeWhile_prefix _
  exact (List.prefix_iff_eq_take.1 (h1.trans (List.take_prefix 4 T))).symm
theorem dgs_four (T : List UInt8) : (dgs T).length ≤ 4 := by
  have h1 : dgs T <+: T.take 4 := List.takeWhile_prefix _
  have := h1.length_le
  simp at this; omega
/-- What readTag asks of the digits and of the byte behind them. -/
def NumT (T : List UInt8) : Prop := dgs T ≠ [] ∧ T.head? ≠ some 48 ∧ valD (dgs T) ≤ 999 ∧ T[(dgs T).length]? = some 58
theorem numT_yes {T : List UInt8} (h : NumT T) : hasU 58 T = true ∧ upto 58 T = dgs T ∧ numF (dgs T) = valD (dgs T) ∧ 1 ≤ valD (dgs T) ∧ aft 58 T = T.drop ((dgs T).length + 1) := by
  obtain ⟨h1, h2, h3, h4⟩ := h
  obtain ⟨hlt, h5⟩ := List.getElem?_eq_some_iff.1 h4
  have hsp : dgs T ++ 58 :: T.drop ((dgs T).length + 1) = T := by
    have := List.take_append_drop (dgs T).length T
    rw [List.drop_eq_getElem_cons hlt, h5, dgs_pre] at this
    exact this
  have hno : ∀ x ∈ dgs T, x ≠ 58 := fun x hx e => by have := dgs_dig T x hx; rw [e] at this; exact absurd this (by decide)
  have hh : (dgs T).head? ≠ some 48 := by
    intro e
    apply h2
    rw [← hsp]
    cases hd : dgs T with
    | nil => exact absurd hd h1
    | cons y t => rw [hd] at e; simpa using e
  obtain ⟨n, hn⟩ : ∃ n, (dgs T).length = n + 1 := ⟨(dgs T).length - 1, by have := List.length_pos_iff.2 h1; omega⟩
  obtain ⟨v1, v2⟩ := dec_val n _ hn (dgs_dig T) hh
  have e1 : upto 58 T = dgs T := by
    have := upto_app 58 (dgs T) (T.drop ((dgs T).length + 1)) hno
    rwa [hsp] at this
  have e2 : hasU 58 T = true := by
    have := has_app 58 (dgs T) (T.drop ((dgs T).length + 1)) hno
    rwa [hsp] at this
  have e3 := numF_dec (valD (dgs T)) v1 h3
  rw [v2] at e3
  exact ⟨e2, e1, e3, v1, by unfold aft; rw [e1]⟩
theorem numT_no {T : List UInt8} (h : ¬ NumT T) : ¬ (hasU 58 T = true ∧ numF (upto 58 T) ≠ 0) := by
  rintro ⟨h1, h2⟩
  apply h
  obtain ⟨n1, n2, n3⟩ := numF_spec _ h2
  generalize numF (upto 58 T) = n at *
  obtain ⟨s1, s2, s3, s4⟩ := dec_shape n n1
  have s5 := dec_three n n2
  have hsp := has_split 58 T h1
  rw [n3] at hsp
  generalize aft 58 T = R at *
  have e : dgs T = decDigits n := by
    unfold dgs
    rw [hsp]
    have : (decDigits n ++ 58 :: R).take 4 = decDigits n ++ 58 :: R.take (3 - (decDigits n).length) := by
      rw [List.take_append, List.take_of_length_le (by omega), show 4 - (decDigits n).length = (3 - (decDigits n).length) + 1 by omega, List.take_succ_cons]
    rw [this, List.takeWhile_append_of_pos s1, List.takeWhile_cons, if_neg (by decide), List.append_nil]
  refine ⟨by rw [e]; exact s2, ?_, by rw [e, s4]; exact n2, ?_⟩
  · rw [hsp]
    cases hd : decDigits n with
    | nil => exact absurd hd s2
    | cons y t => rw [hd] at s3; simpa using s3
  · rw [e]
    have : T[(decDigits n).length]? = (decDigits n ++ 58 :: R)[(decDigits n).length]? := by rw [← hsp]
    rw [this]; simp
/-- The kind that the slash says, and what is left without it. -/
def kindS (T : List UInt8) : Int := if T.head? = some 47 then 3 else if T.getLast? = some 47 then 4 else 2
def restS (T : List UInt8) : List UInt8 := if T.head? = some 47 then T.drop 1 else if T.getLast? = some 47 then T.dropLast else T
theorem tag_slash (T : List UInt8) (h : hasU 58 T = true) : hasU 58 (restS T) = true ∧ tagT (upto 58 T) (aft 58 T) = ⟨kindS T, bsL (aft 58 (restS T)), numF (upto 58 (restS T))⟩ := by
  have hsp := has_split 58 T h
  have hno := upto_mem 58 T
  generalize upto 58 T = d at *
  generalize aft 58 T = t at *
  subst hsp
  have hh : d.head? = some 47 ↔ (d ++ 58 :: t).head? = some 47 := by
    cases d with
    | nil => simp
    | cons y s => simp
  have hg : t.getLast? = some 47 ↔ (d ++ 58 :: t).getLast? = some 47 := by
    cases t with
    | nil => simp
    | cons y s => simp
  unfold kindS restS tagT kindT txtT digT
  by_cases h1 : d.head? = some 47
  · have h1' := hh.1 h1
    rw [if_pos h1', if_pos h1', if_pos h1, if_pos h1, if_pos h1]
    cases d with
    | nil => cases h1
    | cons y s =>
      have hn : ∀ x ∈ s, x ≠ 58 := fun x hx => hno x (by simp [hx])
      have e : (y :: s ++ 58 :: t).drop 1 = s ++ 58 :: t := rfl
      rw [e, upto_app 58 s t hn, aft_app 58 s t hn, has_app 58 s t hn]
      exact ⟨rfl, rfl⟩
  · have h1' := fun e => h1 (hh.2 e)
    rw [if_neg h1', if_neg h1', if_neg h1, if_neg h1, if_neg h1]
    by_cases h2 : t.getLast? = some 47
    · rw [if_pos (hg.1 h2), if_pos (hg.1 h2), if_pos h2, if_pos h2]
      have hne : t ≠ [] := fun e => by rw [e] at h2; cases h2
      have e : (d ++ 58 :: t).dropLast = d ++ 58 :: t.dropLast := by
        rw [List.dropLast_append_of_ne_nil (by simp), List.dropLast_cons_of_ne_nil hne]
      rw [e, upto_app 58 d _ hno, aft_app 58 d _ hno, has_app 58 d _ hno]
      exact ⟨rfl, rfl⟩
    · have h2' := fun e => h2 (hg.2 e)
      rw [if_neg h2', if_neg h2', if_neg h2, if_neg h2]
      rw [upto_app 58 d _ hno, aft_app 58 d _ hno, has_app 58 d _ hno]
      exact ⟨rfl, rfl⟩
theorem slash_has (T : List UInt8) (h : hasU 58 (restS T) = true) : hasU 58 T = true := by
  have hm : (58 : UInt8) ∈ restS T := by
    rw [has_split 58 _ h]; simp
  have hT : (58 : UInt8) ∈ T := by
    unfold restS at hm
    split at hm
    · exact List.mem_of_mem_drop hm
    · split at hm
      · exact List.dropLast_subset _ hm
      · exact hm
  cases hc : hasU 58 T with
  | true => rfl
  | false => exact absurd rfl ((upto_none 58 T hc).2 58 hT)
theorem kindS_any (T : List UInt8) : kindS T = 2 ∨ kindS T = 3 ∨ kindS T = 4 := by unfold kindS; split; simp; split <;> simp
/-- The tag that is read behind a bracket, as the reference reads it. -/
theorem rdTag_yes {r : List UInt8} (h1 : hasU 62 r = true) (h2 : NumT (restS (upto 62 r)))
    (h3 : properB ⟨kindS (upto 62 r), bsL ((restS (upto 62 r)).drop ((dgs (restS (upto 62 r))).length + 1)), valD (dgs (restS (upto 62 r)))⟩ = true) :
    rdTag r = some (⟨kindS (upto 62 r), bsL ((restS (upto 62 r)).drop ((dgs (restS (upto 62 r))).length + 1)), valD (dgs (restS (upto 62 r)))⟩, (upto 62 r).length + 2) := by
  obtain ⟨n1, n2, n3, n4, n5⟩ := numT_yes h2
  have h58 := slash_has _ n1
  obtain ⟨_, e⟩ := tag_slash _ h58
  rw [n2, n3, n5] at e
  unfold rdTag
  rw [e, if_pos ⟨h1, h58, h3⟩]
theorem rdTag_no {r : List UInt8} (h : ¬ (hasU 62 r = true ∧ NumT (restS (upto 62 r)) ∧ properB ⟨kindS (upto 62 r), bsL ((restS (upto 62 r)).drop ((dgs (restS (upto 62 r))).length + 1)), valD (dgs (restS (upto 62 r)))⟩ = true)) : rdTag r = none := by
  unfold rdTag
  split
  · rename_i hc
    exfalso
    obtain ⟨c1, c2, c3⟩ := hc
    obtain ⟨e1, e2⟩ := tag_slash _ c2
    rw [e2] at c3
    by_cases hn : NumT (restS (upto 62 r))
    · obtain ⟨n1, n2, n3, n4, n5⟩ := numT_yes hn
      rw [n2, n3, n5] at c3
      exact h ⟨c1, hn, c3⟩
    · apply numT_no hn
      refine ⟨e1, fun e => ?_⟩
      rw [e] at c3
      unfold properB at c3
      rcases kindS_any (upto 62 r) with hk | hk | hk <;> simp [hk, numB] at c3
  · rfl
end Go.Proofs.YtaogjccmeajpoaaGreatDoor
namespace Go.Proofs.YtaogjccmeajpoaaGreatDoor
open Go.ChangeShapes Go.WideShapes Go.ChangeAt Go.RowKit
set_option linter.unusedVariables false
set_option linter.unusedSimpArgs false
set_option maxRecDepth 100000

theorem upto_lt (c : UInt8) (r : List UInt8) (j : Nat) (h : j < (upto c r).length) : ∃ h' : j < r.length, r[j] ≠ c := by
  have hp : upto c r <+: r := List.takeWhile_prefix _
  have hl := hp.length_le
  refine ⟨by omega, ?_⟩
  have e : (upto c r)[j] = r[j]'(by omega) := hp.getElem h
  rw [← e]
  exact upto_mem c r _ (List.getElem_mem h)
set_option maxHeartbeats 3200000 in
theorem rreadtag_none (s : ByteArray) (r : List UInt8) (w : World) (hl : s.data.toList = 60 :: r) (hs : s.size ≤ 1000000000000) (h62 : hasU 62 r = false) :
    Calls Tryz.prog 47 #[.string s] w (EndX (OptOk (rdTag r)) w) := by
  have hsz : s.data.toList.length = s.size := by simp
  have hrl : r.length + 1 = s.size := by rw [← hsz, hl]; simp
  have hno : rdTag r = none := rdTag_no (fun h => by rw [h62] at h; cases h.1)
  have hm : (upto 62 r).length = r.length := by rw [(upto_none 62 r h62).1]
  have hb := fun k h1 hk => byte_rest hl k h1 hk
  have hu := upto_lt 62 r
  rw [hm] at hu
  have HB := Lib.hid hb; have HU := Lib.hid hu
  have HT : Hid (OptOk (rdTag r) zI 0) := Lib.hid (by rw [hno]; exact ⟨rfl, rfl⟩)
  have hV := zV.new w
  have hB := blw (Below.refl w.heap.size w) (.cells #[.int .i64 0, .string ByteArray.empty, .int .i64 0] 43)
  clear hb hu hno h62 hl hm
  go_enter Tryz.func47, Tryz.ntmps47
  go_wp2_with fail
  go_loop [4] (fun i => ∃ k : Nat, 1 ≤ k ∧ k ≤ s.size ∧ i = .int .i64 k) (fun i => s.size - (intOf i).toNat)
  case atStart => exact ⟨1, by omega, by omega, rfl⟩
  case round =>
    obtain ⟨k, hk1, hks, rfl⟩ := hrel
    by_cases hlt : k < s.size
    · obtain ⟨_, e⟩ := HB.out k hk1 hlt
      obtain ⟨_, e2⟩ := HU.out (k - 1) (by omega)
      have q : ((s[k].toNat : Int) == 62) = false := by rw [e]; exact u8_int_ne e2
      have i2 : (k : Int) < (s.size : Int) := by omega
      have i0 : (0 : Int) ≤ (k : Int) := by omega
      clear e e2
      go_wp2_with fail
      go_round
      case rel => exact ⟨k + 1, by omega, hlt, by go_num⟩
      case measure => simp [intOf]; omega
    · obtain rfl : k = s.size := by omega
      obtain ⟨v0, v1, v2, v3, v4, v5⟩ := cells_item hV
      go_wp2_with fail
      (try simp only [Exit.inBlock, Exit.then])
      refine bodyPost_ret (v := .tuple #[.agg #[.int .i64 0, .string ⟨#[]⟩, .int .i64 0], .int .i64 0]) (by simp [results, Tryz.results47, go_sem]; try rfl) rfl ⟨⟨0, ⟨#[]⟩, 0⟩, 0, rfl, HT.out, hB⟩
end Go.Proofs.YtaogjccmeajpoaaGreatDoor
namespace Go.Proofs.YtaogjccmeajpoaaGreatDoor
set_option linter.unusedVariables false
open Go.Lib

theorem dgs_sub (T : List UInt8) : dgs T <+: T := (List.takeWhile_prefix _).trans (List.take_prefix 4 T)
theorem dgs_le (T : List UInt8) : (dgs T).length ≤ T.length := (dgs_sub T).length_le
theorem dgs_step (T : List UInt8) (k : Nat) (h : k < (dgs T).length) : ∃ h' : k < T.length, 48 ≤ T[k].toNat ∧ T[k].toNat ≤ 57 ∧ valD (T.take (k + 1)) = 10 * valD (T.take k) + (T[k].toNat - 48) := by
  have hl := dgs_le T
  have h' : k < T.length := by omega
  have e : (dgs T)[k] = T[k] := (dgs_sub T).getElem h
  have hd := of_decide_eq_true (dgs_dig T _ (List.getElem_mem h))
  rw [e] at hd
  refine ⟨h', hd.1, hd.2, ?_⟩
  rw [List.take_succ_eq_append_getElem h', valD_snoc]
theorem while_stop (p : UInt8 → Bool) : ∀ (l : List UInt8) (h : (l.takeWhile p).length < l.length), p (l[(l.takeWhile p).length]'h) = false := by
  intro l
  induction l with
  | nil => intro h; simp at h
  | cons y t ih =>
    intro h
    cases hp : p y with
    | false =>
      have e : (y :: t).takeWhile p = [] := by rw [List.takeWhile_cons, hp]; rfl
      simp only [e]; exact hp
    | true =>
      have e : (y :: t).takeWhile p = y :: t.takeWhile p := by rw [List.takeWhile_cons, hp, if_pos rfl]
      simp only [e, List.length_cons, List.getElem_cons_succ] at h ⊢
      exact ih (by omega)
theorem dgs_stop (T : List UInt8) (h : (dgs T).length < T.length) (h4 : (dgs T).length < 4) : ¬ (48 ≤ (T[(dgs T).length]'h).toNat ∧ (T[(dgs T).length]'h).toNat ≤ 57) := by
  have hs := while_stop digB (T.take 4) (by show (dgs T).length < _; rw [List.length_take]; omega)
  have e : (T.take 4)[((T.take 4).takeWhile digB).length]'(by show (dgs T).length < _; rw [List.length_take]; omega) = T[(dgs T).length]'h := by
    simp only [List.getElem_take]; rfl
  rw [e] at hs
  exact of_decide_eq_false hs
theorem val_bound : ∀ (n : Nat) (l : List UInt8), l.length = n → (∀ c ∈ l, digB c = true) → valD l < 10 ^ n := by
  intro n
  induction n with
  | zero => intro l hl _; rw [List.length_eq_zero_iff.1 hl]; decide
  | succ n ih =>
    intro l hl hd
    have hne : l ≠ [] := fun e => by rw [e] at hl; cases hl
    obtain ⟨m, c, rfl⟩ : ∃ m c, l = m ++ [c] := ⟨l.dropLast, l.getLast hne, (List.dropLast_concat_getLast hne).symm⟩
    have hm : m.length = n := by simpa using hl
    have h1 := ih m hm (fun x hx => hd x (by simp [hx]))
    have hc := of_decide_eq_true (hd c (by simp))
    rw [valD_snoc, Nat.pow_succ]
    omega
theorem dgs_val (T : List UInt8) (k : Nat) (h : k ≤ (dgs T).length) : valD (T.take k) ≤ 9999 := by
  have h4 := dgs_four T
  have hl := dgs_le T
  have hp : T.take k <+: dgs T := by
    rw [← dgs_pre T, show T.take k = (T.take (dgs T).length).take k by rw [List.take_take, Nat.min_eq_left h]]
    exact List.take_prefix _ _
  have h1 := val_bound k (T.take k) (by rw [List.length_take]; omega) (fun c hc => dgs_dig T c (hp.subset hc))
  have h2 : 10 ^ k ≤ 10 ^ 4 := Nat.pow_le_pow_right (by omega) (by omega)
  omega
/-- A byte of a text that is a list. -/
theorem byte_list {t : ByteArray} {T : List UInt8} (h : t = bsL T) (k : Nat) (hk : k < t.size) : ∃ h' : k < T.length, t[k] = T[k] := by
  subst h
  have hz : (bsL T).size = T.length := bsL_size T
  refine ⟨by omega, ?_⟩
  have e : (bsL T).data.toList[k]'(by rw [bsL_list]; omega) = T[k]'(by omega) := by simp only [bsL_list]
  rw [← e]; simp; rfl
theorem cut_list (t : ByteArray) (T : List UInt8) (h : t = bsL T) (a b : Nat) : t.extract a b = bsL ((T.drop a).take (b - a)) := by
  subst h
  have e : ((bsL T).extract a b).data.toList = (T.drop a).take (b - a) := by
    have : ((bsL T).extract a b).data.toList = ((bsL T).data.toList.drop a).take (b - a) := by simp [ByteArray.extract, ByteArray.copySlice]
    rw [this, bsL_list]
  rw [← bsL_of ((bsL T).extract a b), e]
end Go.Proofs.YtaogjccmeajpoaaGreatDoor
namespace Go.Proofs.YtaogjccmeajpoaaGreatDoor
open Go.ChangeShapes Go.WideShapes Go.ChangeAt Go.RowKit
set_option linter.unusedVariables false
set_option linter.unusedSimpArgs false
set_option maxRecDepth 100000

theorem kindS_size (T : List UInt8) : (restS T).length ≤ T.length := by
  unfold restS; split
  · simp
  · split <;> simp
-- WALK
set_option maxHeartbeats 3200000 in
theorem rreadtag_some (s : ByteArray) (r : List UInt8) (w : World) (hl : s.data.toList = 60 :: r) (hs : s.size ≤ 1000000000000) (h62 : hasU 62 r = true) :
    Calls Tryz.prog 47 #[.string s] w (EndX (OptOk (rdTag r)) w) := by
  have hsz : s.data.toList.length = s.size := by simp
  have hrl : r.length + 1 = s.size := by rw [← hsz, hl]; simp
  have hml : (upto 62 r).length < r.length := of_decide_eq_true h62
  have hb := fun k h1 hk => byte_rest hl k h1 hk
  have hu := upto_lt 62 r
  have hg := upto_get 62 r hml
  have hcut := cut_rest hl ((upto 62 r).length + 1) (by omega)
  rw [Nat.add_sub_cancel, upto_take] at hcut
  have hyes := @rdTag_yes r h62
  have hno := @rdTag_no r
  have hu2 : ∀ k, 1 ≤ k → k < (upto 62 r).length + 1 → ∃ h : k < s.size, s[k] ≠ 62 := fun k h1 h2 => by
    obtain ⟨_, e2⟩ := hu (k - 1) (by omega)
    obtain ⟨_, e⟩ := hb k h1 (by omega)
    exact ⟨by omega, by rw [e]; exact e2⟩
  have hend : ∃ h : (upto 62 r).length + 1 < s.size, s[(upto 62 r).length + 1] = 62 := by
    obtain ⟨_, e⟩ := hb ((upto 62 r).length + 1) (by omega) (by omega)
    exact ⟨by omega, by rw [e]; simpa using hg⟩
  have hms : (upto 62 r).length + 1 < s.size := by omega
  generalize rdTag r = o at *
  generalize upto 62 r = T at *
  obtain ⟨M, hM⟩ : ∃ M, M = T.length + 1 := ⟨_, rfl⟩
  rw [← hM] at hu2 hend hms hcut
  have M1 : 1 ≤ M := by omega
  obtain ⟨he1, he2⟩ := hend
  have qM : ((s[M].toNat : Int) == 62) = true := by rw [he2]; rfl
  have j0 : (1 : Int) ≤ (M : Int) := by omega
  have j1 : (M : Int) ≤ (s.size : Int) := by omega
  have j2 : (M : Int) < (s.size : Int) := by omega
  have hTl : T.length < 1000000000000 := by omega
  have HU := Lib.hid hu2; have HCUT := Lib.hid hcut; have HYES := Lib.hid hyes; have HNO := Lib.hid hno
  have HM := Lib.hid hM
  have hV := zV.new w
  have hB := blw (Below.refl w.heap.size w) (.cells #[.int .i64 0, .string ByteArray.empty, .int .i64 0] 43)
  clear hb hu hu2 hg hyes hno h62 hl hml hcut hsz hrl he2 hM
  go_enter Tryz.func47, Tryz.ntmps47
  go_wp2_with fail
  go_loop [4] (fun i => ∃ k : Nat, 1 ≤ k ∧ k ≤ M ∧ i = .int .i64 k) (fun i => M - (intOf i).toNat)
  case atStart => exact ⟨1, by omega, by omega, rfl⟩
  case round =>
    obtain ⟨k, hk1, hks, rfl⟩ := hrel
    by_cases hlt : k < M
    · obtain ⟨hk, e2⟩ := HU.out k hk1 hlt
      have q : ((s[k].toNat : Int) == 62) = false := u8_int_ne e2
      have i2 : (k : Int) < (s.size : Int) := by omega
      have i0 : (0 : Int) ≤ (k : Int) := by omega
      clear e2
      go_wp2_with fail
      go_round
      case rel => exact ⟨k + 1, by omega, hlt, by go_num⟩
      case measure => simp [intOf]; omega
    · obtain rfl : k = M := by omega
      have i0 : (0 : Int) ≤ (k : Int) := by omega
      go_upto_region 7 with (fail)
      have hC := HCUT.out
      generalize s.extract 1 k = V at *
      have hVz : V.size = T.length := by rw [hC, bsL_size]
      have HVZ := Lib.hid hVz
      obtain ⟨hb, hhb⟩ : ∃ b : Bool, b = decide (T.head? = some 47) := ⟨_, rfl⟩
      have HHB := Lib.hid hhb
      have hbl := fun j hj => byte_list hC j hj
      have hct := fun a b => cut_list V T hC a b
      have HBL := Lib.hid hbl; have HCT := Lib.hid hct; have HC := Lib.hid hC
      clear hbl hct hC HU HCUT hVz hhb
      go_cut [37] (fun b w' => b = .bool hb ∧ w' = w.alloc (.cells #[.int .i64 0, .string ByteArray.empty, .int .i64 0] 43))
      case first =>
        by_cases h0 : 0 < V.size
        · obtain ⟨h0', e⟩ := HBL.out 0 h0
          have eh : T.head? = some T[0] := by rw [List.head?_eq_getElem?, List.getElem?_eq_getElem h0']
          have q : decide (T.head? = some 47) = ((V[0].toNat : Int) == 47) := by
            rw [e, eh]
            by_cases h : T[0] = 47
            · rw [h]; rfl
            · rw [show (((T[0]).toNat : Int) == 47) = false from u8_int_ne h]; simpa using h
          have QH := Lib.hid (HHB.out.trans q)
          clear q eh e
          go_wp2_with fail
          go_meet
          exact ⟨by rw [QH.out], rfl⟩
        · have hz : V.size = 0 := by omega
          have hT : T = [] := List.length_eq_zero_iff.1 (by have := HVZ.out; omega)
          have QH := Lib.hid (show hb = false by rw [HHB.out, hT]; rfl)
          have i1 : decide (0 < V.size) = false := decide_eq_false (by omega)
          clear hT
          go_wp2_with fail
          go_meet
          exact ⟨by rw [QH.out], rfl⟩
      case rest =>
        obtain ⟨rfl, rfl⟩ := hcut
        go_upto_if 37 with (fail)
        go_cut [5, 6] (fun t k w' => (∃ U : ByteArray, t = .string U ∧ U = bsL (restS T)) ∧ k = .int .i64 (kindS T) ∧ w' = w.alloc (.cells #[.int .i64 0, .string ByteArray.empty, .int .i64 0] 43))
        case first =>
          by_cases h1 : T.head? = some 47
          · have q1 : hb = true := by rw [HHB.out]; exact decide_eq_true h1
            subst q1
            have hne : T ≠ [] := fun e => by rw [e] at h1; cases h1
            have hp : 1 ≤ V.size := by have := List.length_pos_iff.2 hne; have := HVZ.out; omega
            have E := Lib.hid (show V.extract 1 V.size = bsL (restS T) by rw [HCT.out 1 V.size]; unfold restS; rw [if_pos h1, List.take_of_length_le (by rw [HVZ.out]; simp)])
            have KK := Lib.hid (show (3 : Int) = kindS T by unfold kindS; rw [if_pos h1])
            have i1 : (1 : Int) ≤ (V.size : Int) := by omega
            clear h1 hne
            go_wp2_with fail
            go_meet
            exact ⟨⟨_, rfl, E.out⟩, by rw [KK.out], rfl⟩
          · have q1 : hb = false := by rw [HHB.out]; exact decide_eq_false h1
            subst q1
            by_cases h0 : 0 < V.size
            · have hp : V.size - 1 < V.size := by omega
              obtain ⟨h0', e⟩ := HBL.out (V.size - 1) hp
              have eg : T.getLast? = some T[V.size - 1] := by rw [List.getLast?_eq_getElem?]; simp only [← HVZ.out]; rw [List.getElem?_eq_getElem h0']
              have hix : (0 : Int) ≤ (V.size : Int) - 1 := by omega
              have hbn : (((V.size : Int) - 1).toNat) = V.size - 1 := by omega
              have hi2 : (V.size : Int) - 1 < (V.size : Int) := by omega
              by_cases h2 : T.getLast? = some 47
              · have q2 : (((V[V.size - 1]'hp).toNat : Int) == 47) = true := by
                  rw [eg] at h2; injection h2 with h2; rw [e, h2]; rfl
                have E := Lib.hid (show V.extract 0 (V.size - 1) = bsL (restS T) by rw [HCT.out 0 (V.size - 1)]; unfold restS; rw [if_neg h1, if_pos h2, List.drop_zero, Nat.sub_zero, HVZ.out, List.dropLast_eq_take])
                have KK := Lib.hid (show (4 : Int) = kindS T by unfold kindS; rw [if_neg h1, if_pos h2])
                clear h1 h2 eg e
                go_wp2_with fail
                go_meet
                exact ⟨⟨_, rfl, E.out⟩, by rw [KK.out], rfl⟩
              · have q2 : (((V[V.size - 1]'hp).toNat : Int) == 47) = false := by
                  rw [e]; show (((T[V.size - 1]'h0').toNat : Int) == (((47 : UInt8).toNat : Nat) : Int)) = false
                  exact u8_int_ne (fun h => h2 (by rw [eg]; exact congrArg some h))
                have E := Lib.hid (show V = bsL (restS T) by unfold restS; rw [if_neg h1, if_neg h2]; exact HC.out)
                have KK := Lib.hid (show (2 : Int) = kindS T by unfold kindS; rw [if_neg h1, if_neg h2])
                clear h1 h2 eg e
                go_wp2_with fail
                go_meet
                exact ⟨⟨_, rfl, E.out⟩, by rw [KK.out], rfl⟩
            · have hT : T = [] := List.length_eq_zero_iff.1 (by have := HVZ.out; omega)
              have h2 : ¬ T.getLast? = some 47 := fun e => by rw [hT] at e; cases e
              have E := Lib.hid (show V = bsL (restS T) by unfold restS; rw [if_neg h1, if_neg h2]; exact HC.out)
              have KK := Lib.hid (show (2 : Int) = kindS T by unfold kindS; rw [if_neg h1, if_neg h2])
              have i1 : decide (0 < V.size) = false := decide_eq_false (by omega)
              clear h1 h2 hT
              go_wp2_with fail
              go_meet
              exact ⟨⟨_, rfl, E.out⟩, by rw [KK.out], rfl⟩
        case rest =>
          obtain ⟨⟨t, rfl, ht⟩, rfl, rfl⟩ := hcut
          have hKS := kindS_any T
          have hRl := kindS_size T
          generalize kindS T = K0 at *
          generalize restS T = U at *
          have htz : t.size = U.length := by rw [ht, bsL_size]
          have hts : t.size < 1000000000000 := by omega
          have hbl := fun j hj => byte_list ht j hj
          have hct := fun a => cut_list t U ht (a + 1) t.size
          obtain ⟨D, hD⟩ : ∃ D, D = (dgs U).length := ⟨_, rfl⟩
          have hstep := fun n h => dgs_step U n h
          have hstop : ∀ (h : D < U.length), D < 4 → ¬ (48 ≤ (U[D]'h).toNat ∧ (U[D]'h).toNat ≤ 57) := by subst hD; exact fun h h4 => dgs_stop U h h4
          have hval := fun n h => dgs_val U n h
          have hdl := dgs_le U
          have hd4 := dgs_four U
          have hpre := dgs_pre U
          rw [← htz] at hdl
          simp only [← hD] at hstep hval hdl hd4 hpre
          have hcd : ∀ n, n ≤ D → ∃ b : Bool, b = decide (n < D) ∧ True := fun n _ => ⟨_, rfl, trivial⟩
          have HCD := Lib.hid hcd
          have HTZ := Lib.hid htz; have HSTEP := Lib.hid hstep; have HSTOP := Lib.hid hstop; have HVAL := Lib.hid hval
          have HPRE := Lib.hid hpre; have HDD := Lib.hid hD; have HBT := Lib.hid hbl; have HCTT := Lib.hid hct; have HTT := Lib.hid ht
          have HKS := Lib.hid hKS
          clear hcd htz hstep hstop hval hpre hD hbl hct ht hKS hRl
          clear HBL HCT HC HVZ HHB qM j0 j1
          go_wp2_with fail
          go_loopw [7, 8] (fun i j wr => ∃ n : Nat, n ≤ D ∧ j = .int .i64 n ∧ i = .int .i64 (valD (U.take n) : Nat) ∧ wr = w.alloc (.cells #[.int .i64 0, .string ByteArray.empty, .int .i64 0] 43)) (fun _ j _ => D - (intOf j).toNat)
          case atStart => exact ⟨0, by omega, rfl, rfl, rfl⟩
          case round =>
            obtain ⟨n, hn, rfl, rfl, rfl⟩ := hrel
            have hv := HVAL.out n hn
            obtain ⟨v, hvv⟩ : ∃ v, v = valD (U.take n) := ⟨_, rfl⟩
            rw [← hvv] at hv
            simp only [← hvv]
            have HVV := Lib.hid hvv
            clear hvv
            obtain ⟨cb, hcb, -⟩ := HCD.out n hn
            have HCB := Lib.hid hcb
            clear hcb
            go_upto_region 12 with (fail)
            go_cut [75] (fun b w' => b = .bool cb ∧ w' = w.alloc (.cells #[.int .i64 0, .string ByteArray.empty, .int .i64 0] 43))
            case first =>
              by_cases hlt : n < D
              · obtain ⟨hU, b1, b2, _⟩ := HSTEP.out n hlt
                obtain ⟨_, e⟩ := HBT.out n (by omega)
                have i1 : (n : Int) < (t.size : Int) := by omega
                have i2 : (n : Int) < 4 := by omega
                have i3 : (0 : Int) ≤ (n : Int) := by omega
                have c0 : n < t.size := by omega
                have c1 : (48 : Int) ≤ (t[n].toNat : Int) := by rw [e]; omega
                have c2 : (t[n].toNat : Int) ≤ 57 := by rw [e]; omega
                have QB := Lib.hid (show cb = true by rw [HCB.out]; exact decide_eq_true hlt)
                clear e b1 b2
                go_wp2_with fail
                go_meet
                exact ⟨by rw [QB.out], rfl⟩
              · have QB := Lib.hid (show cb = false by rw [HCB.out]; exact decide_eq_false hlt)
                obtain rfl : n = D := by omega
                by_cases h1 : n < t.size
                · have i1 : (n : Int) < (t.size : Int) := by omega
                  have i3 : (0 : Int) ≤ (n : Int) := by omega
                  by_cases h2 : n < 4
                  · have i2 : (n : Int) < 4 := by omega
                    have hs2 := HSTOP.out (by have := HTZ.out; omega) h2
                    obtain ⟨_, e⟩ := HBT.out n h1
                    rw [← e] at hs2
                    by_cases c1 : 48 ≤ t[n].toNat
                    · have c3 : (48 : Int) ≤ (t[n].toNat : Int) := by omega
                      have c2 : decide ((t[n].toNat : Int) ≤ 57) = false := decide_eq_false (by omega)
                      clear hs2 e c1
                      go_wp2_with fail
                      go_meet
                      exact ⟨by rw [QB.out], rfl⟩
                    · have c2 : decide ((48 : Int) ≤ (t[n].toNat : Int)) = false := decide_eq_false (by omega)
                      clear hs2 e c1
                      go_wp2_with fail
                      go_meet
                      exact ⟨by rw [QB.out], rfl⟩
                  · have i2 : (4 : Int) ≤ (n : Int) := by omega
                    go_wp2_with fail
                    go_meet
                    exact ⟨by rw [QB.out], rfl⟩
                · have i1 : (t.size : Int) ≤ (n : Int) := by omega
                  go_wp2_with fail
                  go_meet
                  exact ⟨by rw [QB.out], rfl⟩
            case rest =>
              obtain ⟨rfl, rfl⟩ := hcut
              cases cb
              case true =>
                have hlt := of_decide_eq_true HCB.out.symm
                obtain ⟨hU, b1, b2, bv⟩ := HSTEP.out n hlt
                obtain ⟨_, e⟩ := HBT.out n (by omega)
                have i1 : (n : Int) < (t.size : Int) := by omega
                have i3 : (0 : Int) ≤ (n : Int) := by omega
                have c0 : n < t.size := by omega
                have c1 : (48 : Int) ≤ (t[n].toNat : Int) := by rw [e]; omega
                have c2 : (t[n].toNat : Int) ≤ 57 := by rw [e]; omega
                have BV : Hid ((10 * (v : Int) + ((t[n].toNat : Int) - 48)) = ((valD (U.take (n + 1)) : Nat) : Int)) := Lib.hid (by rw [bv, ← HVV.out, e]; omega)
                have wu : IntKind.u8.wrap ((t[n].toNat : Int) - 48) = (t[n].toNat : Int) - 48 := by
                  have := t[n].toNat_lt
                  simp [IntKind.wrap, IntKind.signed, IntKind.bits]; omega
                have v1 : (v : Int) ≤ 9999 := by omega
                clear e b1 b2 bv
                go_wp2_with fail
                exact ⟨⟨n + 1, hlt, by go_num, by rw [BV.out], trivial⟩, by simp [intOf]; omega⟩
              case false =>
                obtain rfl : n = D := by have := of_decide_eq_false HCB.out.symm; omega
                by_cases z0 : n = 0
                · have q0 : ((n : Int) == 0) = true := by rw [z0]; rfl
                  have HT : Hid (OptOk o zI 0) := Lib.hid (by rw [HNO.out (fun h => h.2.1.1 (List.length_eq_zero_iff.1 (by rw [← HDD.out]; exact z0)))]; exact ⟨rfl, rfl⟩)
                  go_wp2_with fail
                  (try simp only [Exit.inBlock, Exit.then])
                  refine bodyPost_ret (v := .tuple #[.agg #[.int .i64 0, .string ⟨#[]⟩, .int .i64 0], .int .i64 0]) (by simp [results, Tryz.results47, go_sem]; try rfl) rfl ⟨⟨0, ⟨#[]⟩, 0⟩, 0, rfl, HT.out, hB⟩
                have q0 : ((n : Int) == 0) = false := by simp; omega
                have i3 : (0 : Int) ≤ (n : Int) := by omega
                by_cases z1 : t.size ≤ n
                · have q1 : (t.size : Int) ≤ (n : Int) := by omega
                  have HT : Hid (OptOk o zI 0) := Lib.hid (by rw [HNO.out (fun h => by have h4 := h.2.1.2.2.2; rw [← HDD.out, List.getElem?_eq_none (by rw [← HTZ.out]; exact z1)] at h4; cases h4)]; exact ⟨rfl, rfl⟩)
                  go_wp2_with fail
                  (try simp only [Exit.inBlock, Exit.then])
                  refine bodyPost_ret (v := .tuple #[.agg #[.int .i64 0, .string ⟨#[]⟩, .int .i64 0], .int .i64 0]) (by simp [results, Tryz.results47, go_sem]; try rfl) rfl ⟨⟨0, ⟨#[]⟩, 0⟩, 0, rfl, HT.out, hB⟩
                have z1 : n < t.size := by omega
                have q1 : (n : Int) < (t.size : Int) := by omega
                have p0 : 0 < t.size := by omega
                obtain ⟨u0, e0⟩ := HBT.out 0 p0
                by_cases z2 : U[0] = 48
                · have q2 : ((t[0].toNat : Int) == 48) = true := by rw [e0, z2]; rfl
                  have Z2 := Lib.hid z2
                  clear e0 z2
                  have HT : Hid (OptOk o zI 0) := Lib.hid (by rw [HNO.out (fun h => h.2.1.2.1 (by rw [List.head?_eq_getElem?, List.getElem?_eq_getElem u0, Z2.out]))]; exact ⟨rfl, rfl⟩)
                  go_wp2_with fail
                  (try simp only [Exit.inBlock, Exit.then])
                  refine bodyPost_ret (v := .tuple #[.agg #[.int .i64 0, .string ⟨#[]⟩, .int .i64 0], .int .i64 0]) (by simp [results, Tryz.results47, go_sem]; try rfl) rfl ⟨⟨0, ⟨#[]⟩, 0⟩, 0, rfl, HT.out, hB⟩
                have q2 : ((t[0].toNat : Int) == 48) = false := by rw [e0]; exact u8_int_ne z2
                have Z2 := Lib.hid z2
                have EV := Lib.hid (show valD (dgs U) = v by rw [HVV.out, ← HPRE.out])
                clear e0 z2
                by_cases z3 : 999 < v
                · have q3 : (999 : Int) < (v : Int) := by omega
                  have HT : Hid (OptOk o zI 0) := Lib.hid (by rw [HNO.out (fun h => by have h4 := h.2.1.2.2.1; rw [EV.out] at h4; omega)]; exact ⟨rfl, rfl⟩)
                  go_wp2_with fail
                  (try simp only [Exit.inBlock, Exit.then])
                  refine bodyPost_ret (v := .tuple #[.agg #[.int .i64 0, .string ⟨#[]⟩, .int .i64 0], .int .i64 0]) (by simp [results, Tryz.results47, go_sem]; try rfl) rfl ⟨⟨0, ⟨#[]⟩, 0⟩, 0, rfl, HT.out, hB⟩
                have q3 : (v : Int) ≤ 999 := by omega
                obtain ⟨un, en⟩ := HBT.out n z1
                by_cases z4 : U[n] = 58
                case neg =>
                  have q4 : ((t[n].toNat : Int) == 58) = false := by rw [en]; exact u8_int_ne z4
                  have q5 : ((t[n].toNat : Int) != 58) = true := by rw [bne, q4]; rfl
                  have Z4 := Lib.hid z4
                  clear en z4
                  have HT : Hid (OptOk o zI 0) := Lib.hid (by rw [HNO.out (fun h => Z4.out (by have h4 := h.2.1.2.2.2; rw [← HDD.out, List.getElem?_eq_getElem un] at h4; injection h4))]; exact ⟨rfl, rfl⟩)
                  go_wp2_with fail
                  (try simp only [Exit.inBlock, Exit.then])
                  refine bodyPost_ret (v := .tuple #[.agg #[.int .i64 0, .string ⟨#[]⟩, .int .i64 0], .int .i64 0]) (by simp [results, Tryz.results47, go_sem]; try rfl) rfl ⟨⟨0, ⟨#[]⟩, 0⟩, 0, rfl, HT.out, hB⟩
                have q4 : ((t[n].toNat : Int) == 58) = true := by rw [en, z4]; rfl
                have HNT := Lib.hid (show NumT U by exact ⟨fun e => z0 (by rw [HDD.out, e]; rfl), fun e => Z2.out (by rw [List.head?_eq_getElem?, List.getElem?_eq_getElem u0] at e; injection e), by rw [EV.out]; omega, by rw [← HDD.out, List.getElem?_eq_getElem un, z4]⟩)
                have q5 : ((t[n].toNat : Int) != 58) = false := by rw [bne, q4]; rfl
                clear en z4
                have hY : (t.extract (n + 1) t.size).size ≤ maxLen := by unfold maxLen; simp; omega
                have YY := Lib.hid (show t.extract (n + 1) t.size = bsL (U.drop ((dgs U).length + 1)) by rw [HCTT.out, ← HDD.out, List.take_of_length_le (by rw [List.length_drop, ← HTZ.out]; exact Nat.le_refl _)])
                have hn1 := fun W => risname_any (t.extract (n + 1) t.size) W hY
                have hc1 := fun W => riscontent_any (t.extract (n + 1) t.size) W hY
                have HN1 := Lib.hid hn1; have HC1 := Lib.hid hc1
                clear hn1 hc1 hY
                have h1v : 1 ≤ v := by have := (numT_yes HNT.out).2.2.2.1; rw [EV.out] at this; exact this
                have NB := Lib.hid (show numB (v : Int) = true by unfold numB; exact decide_eq_true (by omega))
                have n1 : (0 : Int) ≤ (n : Int) + 1 := by omega
                have n2 : (n : Int) + 1 ≤ (t.size : Int) := by omega
                have hX : ∀ b, properB ⟨K0, t.extract (n + 1) t.size, (v : Int)⟩ = b → (b = true → o = some (⟨K0, t.extract (n + 1) t.size, (v : Int)⟩, k + 1)) ∧ (b = false → o = none) := fun b hb => by
                  have e1 := YY.out; have e2 := EV.out
                  constructor
                  · intro hb1
                    have := HYES.out HNT.out (by rw [← e1, e2, hb, hb1])
                    rw [← e1, e2] at this
                    rw [this, HM.out]
                  · intro hb1
                    exact HNO.out (fun h => by have h3 := h.2.2; rw [← e1, e2, hb, hb1] at h3; cases h3)
                have HX := Lib.hid hX
                clear hX
                rcases HKS.out with rfl | rfl | rfl
                · skip
                  obtain ⟨hyes, hno⟩ := HX.out _ (by show properB ⟨2, t.extract (n + 1) t.size, (v : Int)⟩ = (isCon (t.extract (n + 1) t.size) && numB (v : Int)); unfold properB; simp)
                  rw [NB.out, Bool.and_true] at hyes hno
                  have HYE := Lib.hid hyes; have HNOO := Lib.hid hno
                  have hV2 : zV ((w.alloc (.cells #[.int .i64 0, .string ByteArray.empty, .int .i64 0] 43)).alloc (.cells #[.int .i64 2, .string (t.extract (n + 1) t.size), .int .i64 (v : Int)] 43)) w.heap.size := hV.call (blw (Below.refl _ _) _)
                  have hX2 : ((w.alloc (.cells #[.int .i64 0, .string ByteArray.empty, .int .i64 0] 43)).alloc (.cells #[.int .i64 2, .string (t.extract (n + 1) t.size), .int .i64 (v : Int)] 43)).heap[w.heap.size + 1]? = some (.cells #[.int .i64 2, .string (t.extract (n + 1) t.size), .int .i64 (v : Int)] 43 (0, 0)) := by
                    have := heap_alloc_new (w.alloc (.cells #[.int .i64 0, .string ByteArray.empty, .int .i64 0] 43)) (.cells #[.int .i64 2, .string (t.extract (n + 1) t.size), .int .i64 (v : Int)] 43)
                    simpa using this
                  have hB2 := blw hB (.cells #[.int .i64 2, .string (t.extract (n + 1) t.size), .int .i64 (v : Int)] 43)
                  clear hyes hno HX HNT HYES HNO HCTT HPRE HVV HDD HTZ HBT EV YY
                  have HCL := HC1
                  clear HN1 HC1
                  generalize isCon (t.extract (n + 1) t.size) = bb at *
                  cases bb
                  case false =>
                    have HT : Hid (OptOk o zI 0) := Lib.hid (by rw [HNOO.out rfl]; exact ⟨rfl, rfl⟩)
                    go_wp2_with fail
                    refine (HCL.out _).mono ?_; rintro e w1 ⟨rfl, rfl⟩
                    generalize ((w.alloc (.cells #[.int .i64 0, .string ByteArray.empty, .int .i64 0] 43)).alloc (.cells #[.int .i64 2, .string (t.extract (n + 1) t.size), .int .i64 (v : Int)] 43)) = wr at *
                    obtain ⟨x0, x1, x2, _, _, _⟩ := cells_item hX2
                    obtain ⟨v0, v1, v2, v3, v4, v5⟩ := cells_item hV2
                    go_wp2_with fail
                    have hWz := heap_set3 (a' := .int .i64 0) (b' := .string ⟨#[]⟩) (c' := .int .i64 0) hV2
                    have hBz := ((hB2.setCell (p := ⟨w.heap.size, 0, none⟩) (Nat.le_refl _) (.int .i64 0)).setCell (p := ⟨w.heap.size, 1, none⟩) (Nat.le_refl _) (.string ⟨#[]⟩)).setCell (p := ⟨w.heap.size, 2, none⟩) (Nat.le_refl _) (.int .i64 0)
                    generalize (((wr.setCell ⟨w.heap.size, 0, none⟩ (.int .i64 0)).setCell ⟨w.heap.size, 1, none⟩ (.string ⟨#[]⟩)).setCell ⟨w.heap.size, 2, none⟩ (.int .i64 0)) = wz at *
                    obtain ⟨z0, z1, z2, _⟩ := cells_item hWz
                    (try simp only [Exit.inBlock, Exit.then])
                    refine bodyPost_ret (v := .tuple #[.agg #[.int .i64 0, .string ⟨#[]⟩, .int .i64 0], .int .i64 0]) (by simp [results, Tryz.results47, go_sem, z0, z1, z2]; try rfl) rfl ⟨⟨0, ⟨#[]⟩, 0⟩, _, rfl, HT.out, hBz⟩
                  case true =>
                    have HT : Hid (OptOk o ⟨2, t.extract (n + 1) t.size, (v : Int)⟩ (k + 1)) := Lib.hid (by rw [HYE.out rfl]; exact ⟨rfl, rfl⟩)
                    go_wp2_with fail
                    refine (HCL.out _).mono ?_; rintro e w1 ⟨rfl, rfl⟩
                    generalize ((w.alloc (.cells #[.int .i64 0, .string ByteArray.empty, .int .i64 0] 43)).alloc (.cells #[.int .i64 2, .string (t.extract (n + 1) t.size), .int .i64 (v : Int)] 43)) = wr at *
                    obtain ⟨x0, x1, x2, _, _, _⟩ := cells_item hX2
                    obtain ⟨v0, v1, v2, v3, v4, v5⟩ := cells_item hV2
                    go_wp2_with fail
                    have hWz := heap_set3 (a' := .int .i64 2) (b' := .string (t.extract (n + 1) t.size)) (c' := .int .i64 (v : Int)) hV2
                    have hBz := ((hB2.setCell (p := ⟨w.heap.size, 0, none⟩) (Nat.le_refl _) (.int .i64 2)).setCell (p := ⟨w.heap.size, 1, none⟩) (Nat.le_refl _) (.string (t.extract (n + 1) t.size))).setCell (p := ⟨w.heap.size, 2, none⟩) (Nat.le_refl _) (.int .i64 (v : Int))
                    generalize (((wr.setCell ⟨w.heap.size, 0, none⟩ (.int .i64 2)).setCell ⟨w.heap.size, 1, none⟩ (.string (t.extract (n + 1) t.size))).setCell ⟨w.heap.size, 2, none⟩ (.int .i64 (v : Int))) = wz at *
                    obtain ⟨z0, z1, z2, _⟩ := cells_item hWz
                    (try simp only [Exit.inBlock, Exit.then])
                    refine bodyPost_ret (v := .tuple #[.agg #[.int .i64 2, .string (t.extract (n + 1) t.size), .int .i64 (v : Int)], .int .i64 ((k + 1 : Nat) : Int)]) (by simp [results, Tryz.results47, go_sem, z0, z1, z2]; try rfl) rfl ⟨⟨2, t.extract (n + 1) t.size, (v : Int)⟩, _, rfl, HT.out, hBz⟩
                · skip
                  obtain ⟨hyes, hno⟩ := HX.out _ (by show properB ⟨3, t.extract (n + 1) t.size, (v : Int)⟩ = (isNm (t.extract (n + 1) t.size) && numB (v : Int)); unfold properB; simp)
                  rw [NB.out, Bool.and_true] at hyes hno
                  have HYE := Lib.hid hyes; have HNOO := Lib.hid hno
                  have hV2 : zV ((w.alloc (.cells #[.int .i64 0, .string ByteArray.empty, .int .i64 0] 43)).alloc (.cells #[.int .i64 3, .string (t.extract (n + 1) t.size), .int .i64 (v : Int)] 43)) w.heap.size := hV.call (blw (Below.refl _ _) _)
                  have hX2 : ((w.alloc (.cells #[.int .i64 0, .string ByteArray.empty, .int .i64 0] 43)).alloc (.cells #[.int .i64 3, .string (t.extract (n + 1) t.size), .int .i64 (v : Int)] 43)).heap[w.heap.size + 1]? = some (.cells #[.int .i64 3, .string (t.extract (n + 1) t.size), .int .i64 (v : Int)] 43 (0, 0)) := by
                    have := heap_alloc_new (w.alloc (.cells #[.int .i64 0, .string ByteArray.empty, .int .i64 0] 43)) (.cells #[.int .i64 3, .string (t.extract (n + 1) t.size), .int .i64 (v : Int)] 43)
                    simpa using this
                  have hB2 := blw hB (.cells #[.int .i64 3, .string (t.extract (n + 1) t.size), .int .i64 (v : Int)] 43)
                  clear hyes hno HX HNT HYES HNO HCTT HPRE HVV HDD HTZ HBT EV YY
                  have HCL := HN1
                  clear HN1 HC1
                  generalize isNm (t.extract (n + 1) t.size) = bb at *
                  cases bb
                  case false =>
                    have HT : Hid (OptOk o zI 0) := Lib.hid (by rw [HNOO.out rfl]; exact ⟨rfl, rfl⟩)
                    go_wp2_with fail
                    refine (HCL.out _).mono ?_; rintro e w1 ⟨rfl, rfl⟩
                    generalize ((w.alloc (.cells #[.int .i64 0, .string ByteArray.empty, .int .i64 0] 43)).alloc (.cells #[.int .i64 3, .string (t.extract (n + 1) t.size), .int .i64 (v : Int)] 43)) = wr at *
                    obtain ⟨x0, x1, x2, _, _, _⟩ := cells_item hX2
                    obtain ⟨v0, v1, v2, v3, v4, v5⟩ := cells_item hV2
                    go_wp2_with fail
                    have hWz := heap_set3 (a' := .int .i64 0) (b' := .string ⟨#[]⟩) (c' := .int .i64 0) hV2
                    have hBz := ((hB2.setCell (p := ⟨w.heap.size, 0, none⟩) (Nat.le_refl _) (.int .i64 0)).setCell (p := ⟨w.heap.size, 1, none⟩) (Nat.le_refl _) (.string ⟨#[]⟩)).setCell (p := ⟨w.heap.size, 2, none⟩) (Nat.le_refl _) (.int .i64 0)
                    generalize (((wr.setCell ⟨w.heap.size, 0, none⟩ (.int .i64 0)).setCell ⟨w.heap.size, 1, none⟩ (.string ⟨#[]⟩)).setCell ⟨w.heap.size, 2, none⟩ (.int .i64 0)) = wz at *
                    obtain ⟨z0, z1, z2, _⟩ := cells_item hWz
                    (try simp only [Exit.inBlock, Exit.then])
                    refine bodyPost_ret (v := .tuple #[.agg #[.int .i64 0, .string ⟨#[]⟩, .int .i64 0], .int .i64 0]) (by simp [results, Tryz.results47, go_sem, z0, z1, z2]; try rfl) rfl ⟨⟨0, ⟨#[]⟩, 0⟩, _, rfl, HT.out, hBz⟩
                  case true =>
                    have HT : Hid (OptOk o ⟨3, t.extract (n + 1) t.size, (v : Int)⟩ (k + 1)) := Lib.hid (by rw [HYE.out rfl]; exact ⟨rfl, rfl⟩)
                    go_wp2_with fail
                    refine (HCL.out _).mono ?_; rintro e w1 ⟨rfl, rfl⟩
                    generalize ((w.alloc (.cells #[.int .i64 0, .string ByteArray.empty, .int .i64 0] 43)).alloc (.cells #[.int .i64 3, .string (t.extract (n + 1) t.size), .int .i64 (v : Int)] 43)) = wr at *
                    obtain ⟨x0, x1, x2, _, _, _⟩ := cells_item hX2
                    obtain ⟨v0, v1, v2, v3, v4, v5⟩ := cells_item hV2
                    go_wp2_with fail
                    have hWz := heap_set3 (a' := .int .i64 3) (b' := .string (t.extract (n + 1) t.size)) (c' := .int .i64 (v : Int)) hV2
                    have hBz := ((hB2.setCell (p := ⟨w.heap.size, 0, none⟩) (Nat.le_refl _) (.int .i64 3)).setCell (p := ⟨w.heap.size, 1, none⟩) (Nat.le_refl _) (.string (t.extract (n + 1) t.size))).setCell (p := ⟨w.heap.size, 2, none⟩) (Nat.le_refl _) (.int .i64 (v : Int))
                    generalize (((wr.setCell ⟨w.heap.size, 0, none⟩ (.int .i64 3)).setCell ⟨w.heap.size, 1, none⟩ (.string (t.extract (n + 1) t.size))).setCell ⟨w.heap.size, 2, none⟩ (.int .i64 (v : Int))) = wz at *
                    obtain ⟨z0, z1, z2, _⟩ := cells_item hWz
                    (try simp only [Exit.inBlock, Exit.then])
                    refine bodyPost_ret (v := .tuple #[.agg #[.int .i64 3, .string (t.extract (n + 1) t.size), .int .i64 (v : Int)], .int .i64 ((k + 1 : Nat) : Int)]) (by simp [results, Tryz.results47, go_sem, z0, z1, z2]; try rfl) rfl ⟨⟨3, t.extract (n + 1) t.size, (v : Int)⟩, _, rfl, HT.out, hBz⟩
                · skip
                  obtain ⟨hyes, hno⟩ := HX.out _ (by show properB ⟨4, t.extract (n + 1) t.size, (v : Int)⟩ = (isCon (t.extract (n + 1) t.size) && numB (v : Int)); unfold properB; simp)
                  rw [NB.out, Bool.and_true] at hyes hno
                  have HYE := Lib.hid hyes; have HNOO := Lib.hid hno
                  have hV2 : zV ((w.alloc (.cells #[.int .i64 0, .string ByteArray.empty, .int .i64 0] 43)).alloc (.cells #[.int .i64 4, .string (t.extract (n + 1) t.size), .int .i64 (v : Int)] 43)) w.heap.size := hV.call (blw (Below.refl _ _) _)
                  have hX2 : ((w.alloc (.cells #[.int .i64 0, .string ByteArray.empty, .int .i64 0] 43)).alloc (.cells #[.int .i64 4, .string (t.extract (n + 1) t.size), .int .i64 (v : Int)] 43)).heap[w.heap.size + 1]? = some (.cells #[.int .i64 4, .string (t.extract (n + 1) t.size), .int .i64 (v : Int)] 43 (0, 0)) := by
                    have := heap_alloc_new (w.alloc (.cells #[.int .i64 0, .string ByteArray.empty, .int .i64 0] 43)) (.cells #[.int .i64 4, .string (t.extract (n + 1) t.size), .int .i64 (v : Int)] 43)
                    simpa using this
                  have hB2 := blw hB (.cells #[.int .i64 4, .string (t.extract (n + 1) t.size), .int .i64 (v : Int)] 43)
                  clear hyes hno HX HNT HYES HNO HCTT HPRE HVV HDD HTZ HBT EV YY
                  have HCL := HC1
                  clear HN1 HC1
                  generalize isCon (t.extract (n + 1) t.size) = bb at *
                  cases bb
                  case false =>
                    have HT : Hid (OptOk o zI 0) := Lib.hid (by rw [HNOO.out rfl]; exact ⟨rfl, rfl⟩)
                    go_wp2_with fail
                    refine (HCL.out _).mono ?_; rintro e w1 ⟨rfl, rfl⟩
                    generalize ((w.alloc (.cells #[.int .i64 0, .string ByteArray.empty, .int .i64 0] 43)).alloc (.cells #[.int .i64 4, .string (t.extract (n + 1) t.size), .int .i64 (v : Int)] 43)) = wr at *
                    obtain ⟨x0, x1, x2, _, _, _⟩ := cells_item hX2
                    obtain ⟨v0, v1, v2, v3, v4, v5⟩ := cells_item hV2
                    go_wp2_with fail
                    have hWz := heap_set3 (a' := .int .i64 0) (b' := .string ⟨#[]⟩) (c' := .int .i64 0) hV2
                    have hBz := ((hB2.setCell (p := ⟨w.heap.size, 0, none⟩) (Nat.le_refl _) (.int .i64 0)).setCell (p := ⟨w.heap.size, 1, none⟩) (Nat.le_refl _) (.string ⟨#[]⟩)).setCell (p := ⟨w.heap.size, 2, none⟩) (Nat.le_refl _) (.int .i64 0)
                    generalize (((wr.setCell ⟨w.heap.size, 0, none⟩ (.int .i64 0)).setCell ⟨w.heap.size, 1, none⟩ (.string ⟨#[]⟩)).setCell ⟨w.heap.size, 2, none⟩ (.int .i64 0)) = wz at *
                    obtain ⟨z0, z1, z2, _⟩ := cells_item hWz
                    (try simp only [Exit.inBlock, Exit.then])
                    refine bodyPost_ret (v := .tuple #[.agg #[.int .i64 0, .string ⟨#[]⟩, .int .i64 0], .int .i64 0]) (by simp [results, Tryz.results47, go_sem, z0, z1, z2]; try rfl) rfl ⟨⟨0, ⟨#[]⟩, 0⟩, _, rfl, HT.out, hBz⟩
                  case true =>
                    have HT : Hid (OptOk o ⟨4, t.extract (n + 1) t.size, (v : Int)⟩ (k + 1)) := Lib.hid (by rw [HYE.out rfl]; exact ⟨rfl, rfl⟩)
                    go_wp2_with fail
                    refine (HCL.out _).mono ?_; rintro e w1 ⟨rfl, rfl⟩
                    generalize ((w.alloc (.cells #[.int .i64 0, .string ByteArray.empty, .int .i64 0] 43)).alloc (.cells #[.int .i64 4, .string (t.extract (n + 1) t.size), .int .i64 (v : Int)] 43)) = wr at *
                    obtain ⟨x0, x1, x2, _, _, _⟩ := cells_item hX2
                    obtain ⟨v0, v1, v2, v3, v4, v5⟩ := cells_item hV2
                    go_wp2_with fail
                    have hWz := heap_set3 (a' := .int .i64 4) (b' := .string (t.extract (n + 1) t.size)) (c' := .int .i64 (v : Int)) hV2
                    have hBz := ((hB2.setCell (p := ⟨w.heap.size, 0, none⟩) (Nat.le_refl _) (.int .i64 4)).setCell (p := ⟨w.heap.size, 1, none⟩) (Nat.le_refl _) (.string (t.extract (n + 1) t.size))).setCell (p := ⟨w.heap.size, 2, none⟩) (Nat.le_refl _) (.int .i64 (v : Int))
                    generalize (((wr.setCell ⟨w.heap.size, 0, none⟩ (.int .i64 4)).setCell ⟨w.heap.size, 1, none⟩ (.string (t.extract (n + 1) t.size))).setCell ⟨w.heap.size, 2, none⟩ (.int .i64 (v : Int))) = wz at *
                    obtain ⟨z0, z1, z2, _⟩ := cells_item hWz
                    (try simp only [Exit.inBlock, Exit.then])
                    refine bodyPost_ret (v := .tuple #[.agg #[.int .i64 4, .string (t.extract (n + 1) t.size), .int .i64 (v : Int)], .int .i64 ((k + 1 : Nat) : Int)]) (by simp [results, Tryz.results47, go_sem, z0, z1, z2]; try rfl) rfl ⟨⟨4, t.extract (n + 1) t.size, (v : Int)⟩, _, rfl, HT.out, hBz⟩
end Go.Proofs.YtaogjccmeajpoaaGreatDoor
namespace Go.Proofs.YtaogjccmeajpoaaGreatDoor
open Go.ChangeShapes Go.WideShapes Go.ChangeAt Go.RowKit
set_option linter.unusedVariables false
set_option linter.unusedSimpArgs false
set_option maxRecDepth 100000

theorem rd_ok {l : List UInt8} {x : It} {n : Nat} (h : rdE l = some (x, n)) : x.ok ∧ x.t.size ≤ 1024 ∧ (x.k = 1 → x = ⟨1, x.t, 0⟩) := by
  obtain ⟨_, hw, h1, h2⟩ := rd_take h
  by_cases hk : x.k = 1
  · obtain ⟨e1, e2⟩ := h2 hk
    refine ⟨?_, by omega, fun _ => e1⟩
    have := valid_oks (f := [x]) (valE_of (by simp) (by unfold lenI; simp; omega) (by
      rw [e1]; show errL [] ([] ++ [⟨1, x.t, 0⟩]) = 0
      have e3 : norm ([] ++ [⟨1, x.t, 0⟩]) = [⟨1, x.t, 0⟩] := by
        rw [norm_snoc]; show normS [] _ = _; unfold normS; rw [if_pos rfl, if_neg (by intro e; have e : x.t.size = 0 := e; omega)]; rfl
      have := err_text [] x.t rfl
      rw [e3] at this; exact this))
    exact this 0 (by simp)
  · have hp := h1 hk
    refine ⟨?_, txt_small (n := 0) hp (by omega), fun h => absurd h hk⟩
    have := valid_oks (f := [x]) (valE_of (by simp) (by unfold lenI; simp; omega) (by
      show errL [] ([] ++ [x]) = 0
      rw [errL_snoc _ _ rfl, errAt_zero]
      exact ⟨hp, fun h => absurd h hk, fun _ => rfl⟩))
    exact this 0 (by simp)
theorem VarB.call {W w1 : World} {b : Nat} {x : It} (h : VarB W b x) (hb : Below W.heap.size W w1) : VarB w1 b x := (hb.block b h.v.lt).trans h
theorem ext_drop (s : ByteArray) (p : Nat) : (s.extract p s.size).data.toList = s.data.toList.drop p := by rw [extract_drop, bsL_list]
set_option maxHeartbeats 3200000 in
theorem rparse_of (hrd : ∀ (s : ByteArray) (W : World), 1 ≤ s.size → s.size ≤ 1000000000000 → Calls Tryz.prog 24 #[.string s] W (EndX (OptOk (rdE s.data.toList)) W))
    (s : ByteArray) (w : World) (hs : s.size ≤ 1000000000000) : Calls Tryz.prog 14 #[.string s] w (EndP (parseN s.data.toList) w) := by
  have hsl : s.data.toList.length = s.size := by simp
  obtain ⟨R, hR⟩ : ∃ R, parseN s.data.toList = R := ⟨_, rfl⟩
  have hR0 : go [] 0 0 (s.data.toList.drop 0) = R := hR
  have hno : ∀ (p : Nat) (z : Int) w', R = ([], p, z) → Below w.heap.size w w' → EndP R w (.returned (.tuple #[.slice none 0 0, .int .i64 p, .int .i64 z])) w' := fun p z w' h hb => ⟨none, 0, by rw [h]; rfl, by rw [h]; exact Nat.le_refl _, Nat.zero_le _, by rw [h]; exact Its.nil _ _, hb⟩
  have hyes : ∀ (pf : Option Addr) (cf : Nat) (f : List It) w', R = (f, 0, 0) → f.length ≤ cf → cf ≤ maxLen → Its w' pf f → Below w.heap.size w w' → EndP R w (.returned (.tuple #[.slice pf f.length cf, .int .i64 0, .int .i64 0])) w' := fun pf cf f w' h h1 h2 h3 hb => ⟨pf, cf, by rw [h]; rfl, by rw [h]; exact h1, h2, by rw [h]; exact h3, hb⟩
  have hread := fun p (hp : p < s.size) W => hrd (s.extract p s.size) W (by simp; omega) (by simp; omega)
  simp only [ext_drop] at hread
  rw [hR]
  have HRD := Lib.hid hread; have HNO := Lib.hid hno; have HYES := Lib.hid hyes; have HR0 := Lib.hid hR0
  clear hrd hread hno hyes hR hR0
  go_enter Tryz.func14, Tryz.ntmps14
  go_wp2_with fail
  go_loopw [5, 6, 7] (fun v i m wr => ∃ (f : List It) (n p : Nat) (pf : Option Addr) (cf : Nat), p ≤ s.size ∧ i = .int .i64 p ∧ m = .int .i64 n ∧ v = .slice pf f.length cf ∧ f.length ≤ cf ∧ cf ≤ maxLen ∧ Its wr pf f ∧ Hid (go f n p (s.data.toList.drop p) = R) ∧ errL [] f = 0 ∧ f.length ≤ 512 ∧ n = lenI f ∧ n ≤ 1024 ∧ txtI f ≤ 1024 * n ∧ Below w.heap.size w wr) (fun _ i _ _ => s.size - (intOf i).toNat)
  case atStart => exact ⟨[], 0, 0, none, 0, Nat.zero_le _, rfl, rfl, rfl, Nat.le_refl _, Nat.zero_le _, Its.nil _ _, HR0, rfl, by simp, rfl, by omega, by simp [txtI], Below.refl _ _⟩
  case round =>
    obtain ⟨f, n, p, pf, cf, hp, rfl, rfl, rfl, hfc, hcm, hI, HG, hf0, hf1, hnl, hn, htx, hB⟩ := hrel
    by_cases hlt : p < s.size
    · have hne : s.data.toList.drop p ≠ [] := fun e => by have := congrArg List.length e; simp at this; omega
      have hll : (s.data.toList.drop p).length = s.size - p := by simp
      have hrd := fun W => HRD.out p hlt W
      have i0 : (0 : Int) ≤ (p : Int) := by omega
      have i1 : (p : Int) ≤ (s.size : Int) := by omega
      have i2 : (p : Int) < (s.size : Int) := by omega
      cases ho : rdE (s.data.toList.drop p) with
      | none =>
        have hg := HG.out
        rw [go_none f n p _ hne ho] at hg
        rw [ho] at hrd
        have HE := fun w' hb => HNO.out p 2 w' hg.symm hb
        have HE := Lib.hid HE; have HR := Lib.hid hrd
        clear hg ho hrd hne hll
        go_wp2_with fail
        refine (HR.out _).mono ?_; rintro e w1 ⟨x, m, rfl, ⟨rfl, rfl⟩, hb⟩
        have hb2 := BelowOn hB hb
        go_wp2_with fail
        go_ret3
        exact HE.out _ (blw hb2 _)
      | some y =>
        obtain ⟨x, k⟩ := y
        obtain ⟨hx, hxt, hx1⟩ := rd_ok ho
        obtain ⟨k1, k2⟩ := rd_pos ho
        have hwd := (rd_take ho).2.1
        rw [ho] at hrd
        have hR := fun W => (hrd W)
        have hval : valE f = 0 := valE_of hf1 (by omega) hf0
        have hoks := valid_oks hval
        have hnf : norm (f ++ [x]) = normS f x := by rw [norm_snoc, norm_valid f hf0]
        have hci := fun W q (h1 : Its W pf f) (h2 : Its W q [x]) => rconcat_any pf q cf 1 f [x] W h1 h2 (by simp; omega) (by show txtI f + (x.t.size + 0) ≤ _; omega)
        rw [hnf] at hci
        have hck := fun W (h1 : Its W pf f) => check_any pf cf f x W h1 hoks hfc hcm hx
        have hnl2 := normS_len f x
        have hli : lenI (normS f x) = lenI f + wid x := len_step f x
        have htn := txt_norm f x
        have m0 : (n : Int) ≤ 1024 := by omega
        have hk0 : ((k : Int) == 0) = false := by rw [beq_eq_false_iff_ne]; omega
        have V := fun (W : World) => VarB.new W x
        by_cases hbad : x.k ≠ 1 ∧ errAt f x ≠ 0
        · obtain ⟨hk, he⟩ := hbad
          have hg := HG.out
          rw [go_bad f n p _ hne ho hk he] at hg
          have HE := Lib.hid (fun w' hb => HNO.out p (errAt f x) w' hg.symm hb)
          have qk : (x.k != 1) = true := by simpa using hk
          have qe : (errAt f x != 0) = true := by simpa using he
          generalize errAt f x = er at *
          have HRD2 := Lib.hid hrd; have HCK := Lib.hid hck
          clear hg ho hrd hR hne hll hci hck hnf hli htn hnl2 hval hoks hx1 hx hk he
          go_wp2_with fail
          refine (HRD2.out _).mono ?_; rintro e w1 ⟨x', m, rfl, ⟨rfl, rfl⟩, hb⟩
          have hb2 := BelowOn hB hb
          have hV := V w1
          obtain ⟨v0, v1, v2, v3⟩ := hV.v
          go_wp2_with fail
          refine (HCK.out _ ((hI.call hb).call (blw (Below.refl _ _) _))).mono ?_; rintro e w2 ⟨rfl, hb3⟩
          have hb4 := BelowOn (blw hb2 _) hb3
          go_wp2_with fail
          go_ret3
          exact HE.out _ hb4
        · have hok : x.k = 1 ∨ errAt f x = 0 := by
            by_cases hk : x.k = 1
            · exact .inl hk
            · exact .inr (Classical.not_not.1 fun he => hbad ⟨hk, he⟩)
          by_cases hk : x.k = 1
          case neg =>
            have qk : (x.k != 1) = true := by simpa using hk
            have hok2 := hok.resolve_left hk
            rw [hok2] at hck
            have hge := err_step f x hf0 hx1 (fun hk => ⟨(rd_take ho).2.2.1 hk, hok.resolve_left hk⟩)
            have hmo := fun a b => go_more f n p _ hne ho hok a b
            have hfu := fun a => go_full f n p _ hne ho hok a
            rw [List.drop_drop] at hmo
            have hpk : p + k ≤ s.size := by omega
            have hgn : n + 1 = lenI (normS f x) := by rw [hli]; omega
            have hgt : txtI (normS f x) ≤ 1024 * (n + 1) := by omega
            have HCK := Lib.hid hck; have HCI := Lib.hid hci; have HRD2 := Lib.hid hR
            generalize normS f x = g at *
            have kk : (k : Int) ≤ (s.size : Int) := by omega
            by_cases hfull : 512 < g.length ∨ 1024 < n + 1
            · have hg := HG.out
              rw [hfu hfull] at hg
              have HE := Lib.hid (fun w' hb => HNO.out p 3 w' hg.symm hb)
              clear hg ho hrd hR hne hll hci hck hnf hli htn hval hoks hx1 hx hok hmo hfu hge hgn hgt
              rcases hfull with hfull | hfull
              · have qf : (512 : Int) < (g.length : Int) := by omega
                go_wp2_with fail
                refine (HRD2.out _).mono ?_; rintro e w1 ⟨x', m, rfl, ⟨hxx, hmm⟩, hb⟩
                have hxx : x = x' := hxx.symm; subst hxx
                have hmm : k = m := hmm.symm; subst hmm
                have hb2 := BelowOn hB hb
                have hV := V w1
                obtain ⟨v0, v1, v2, v3⟩ := hV.v
                go_wp2_with fail
                refine (HCK.out _ ((hI.call hb).call (blw (Below.refl _ _) _))).mono ?_; rintro e w2 ⟨rfl, hb3⟩
                have hI2 := ((hI.call hb).call (blw (Below.refl _ _) (.cells #[.int .i64 x.k, .string x.t, .int .i64 x.id] 43))).call hb3
                have hb4 := BelowOn (blw hb2 _) hb3
                have hV2 := hV.call hb3
                obtain ⟨v0, v1, v2, v3⟩ := hV2.v
                go_wp2_with fail
                refine (HCI.out _ _ (hI2.call (blw (Below.refl _ _) _)) (Its.lit (l := [x]) (heap_alloc_new _ _) rfl)).mono ?_; rintro e w5 h5
                obtain ⟨pg, cg, rfl, hgc, hcm2, hIg, hb5⟩ := EndI.f h5
                have hb6 := BelowOn (blw hb4 _) hb5
                go_wp2_with fail
                all_goals go_ret3
                all_goals exact HE.out _ hb6
              · have qf : (1024 : Int) < (n : Int) + 1 := by omega
                go_wp2_with fail
                refine (HRD2.out _).mono ?_; rintro e w1 ⟨x', m, rfl, ⟨hxx, hmm⟩, hb⟩
                have hxx : x = x' := hxx.symm; subst hxx
                have hmm : k = m := hmm.symm; subst hmm
                have hb2 := BelowOn hB hb
                have hV := V w1
                obtain ⟨v0, v1, v2, v3⟩ := hV.v
                go_wp2_with fail
                refine (HCK.out _ ((hI.call hb).call (blw (Below.refl _ _) _))).mono ?_; rintro e w2 ⟨rfl, hb3⟩
                have hI2 := ((hI.call hb).call (blw (Below.refl _ _) (.cells #[.int .i64 x.k, .string x.t, .int .i64 x.id] 43))).call hb3
                have hb4 := BelowOn (blw hb2 _) hb3
                have hV2 := hV.call hb3
                obtain ⟨v0, v1, v2, v3⟩ := hV2.v
                go_wp2_with fail
                refine (HCI.out _ _ (hI2.call (blw (Below.refl _ _) _)) (Its.lit (l := [x]) (heap_alloc_new _ _) rfl)).mono ?_; rintro e w5 h5
                obtain ⟨pg, cg, rfl, hgc, hcm2, hIg, hb5⟩ := EndI.f h5
                have hb6 := BelowOn (blw hb4 _) hb5
                go_wp2_with fail
                all_goals go_ret3
                all_goals exact HE.out _ hb6
            · have hgl : g.length ≤ 512 := by omega
              have hn1 : n + 1 ≤ 1024 := by omega
              have q5 : (g.length : Int) ≤ 512 := by omega
              have q6 : (n : Int) + 1 ≤ 1024 := by omega
              have HM : Hid (go g (n + 1) (p + k) (s.data.toList.drop (p + k)) = R) := Lib.hid ((hmo hgl hn1).symm.trans HG.out)
              clear ho hrd hR hne hll hci hck hnf hli htn hval hoks hx1 hx hok hmo hfu hfull
              go_wp2_with fail
              refine (HRD2.out _).mono ?_; rintro e w1 ⟨x', m, rfl, ⟨hxx, hmm⟩, hb⟩
              have hxx : x = x' := hxx.symm; subst hxx
              have hmm : k = m := hmm.symm; subst hmm
              have hb2 := BelowOn hB hb
              have hV := V w1
              obtain ⟨v0, v1, v2, v3⟩ := hV.v
              go_wp2_with fail
              refine (HCK.out _ ((hI.call hb).call (blw (Below.refl _ _) _))).mono ?_; rintro e w2 ⟨rfl, hb3⟩
              have hI2 := ((hI.call hb).call (blw (Below.refl _ _) (.cells #[.int .i64 x.k, .string x.t, .int .i64 x.id] 43))).call hb3
              have hb4 := BelowOn (blw hb2 _) hb3
              have hV2 := hV.call hb3
              obtain ⟨v0, v1, v2, v3⟩ := hV2.v
              go_wp2_with fail
              refine (HCI.out _ _ (hI2.call (blw (Below.refl _ _) _)) (Its.lit (l := [x]) (heap_alloc_new _ _) rfl)).mono ?_; rintro e w5 h5
              obtain ⟨pg, cg, rfl, hgc, hcm2, hIg, hb5⟩ := EndI.f h5
              have hb6 := BelowOn (blw hb4 _) hb5
              go_wp2_with fail
              go_roundw
              case rel => exact ⟨g, n + 1, p + k, pg, cg, hpk, by go_num, by go_num, rfl, hgc, hcm2, hIg, HM, hge, hgl, hgn, hn1, hgt, hb6⟩
              case measure => simp [intOf]; omega
          obtain ⟨xk, t, xi⟩ := x
          have hk : xk = 1 := hk
          subst hk
          have qk : ((1 : Int) != 1) = false := by decide
          have hge := err_step f ⟨1, t, xi⟩ hf0 hx1 (fun hk => ⟨(rd_take ho).2.2.1 hk, hok.resolve_left hk⟩)
          have hmo := fun a b => go_more f n p _ hne ho hok a b
          have hfu := fun a => go_full f n p _ hne ho hok a
          rw [List.drop_drop] at hmo
          have hpk : p + k ≤ s.size := by omega
          have hgn : n + 1 = lenI (normS f ⟨1, t, xi⟩) := by rw [hli]; omega
          have hgt : txtI (normS f ⟨1, t, xi⟩) ≤ 1024 * (n + 1) := by omega
          dsimp only at hR hci V hxt
          have HCI := Lib.hid hci; have HRD2 := Lib.hid hR
          generalize normS f ⟨1, t, xi⟩ = g at *
          have kk : (k : Int) ≤ (s.size : Int) := by omega
          by_cases hfull : 512 < g.length ∨ 1024 < n + 1
          · have hg := HG.out
            rw [hfu hfull] at hg
            have HE := Lib.hid (fun w' hb => HNO.out p 3 w' hg.symm hb)
            clear hg ho hrd hR hne hll hci hck hnf hli htn hval hoks hx1 hx hok hmo hfu hge hgn hgt
            rcases hfull with hfull | hfull
            · have qf : (512 : Int) < (g.length : Int) := by omega
              go_wp2_with fail
              refine (HRD2.out _).mono ?_; rintro e w1 ⟨x', m, rfl, ⟨hxx, hmm⟩, hb⟩
              have hxx : (⟨1, t, xi⟩ : It) = x' := hxx.symm; subst hxx
              have hmm : k = m := hmm.symm; subst hmm
              have hb2 := BelowOn hB hb
              have hV := V w1
              obtain ⟨v0, v1, v2, v3⟩ := hV.v
              go_wp2_with fail
              have hI2 := (hI.call hb).call (blw (Below.refl _ _) (.cells #[.int .i64 1, .string t, .int .i64 xi] 43))
              have hb4 := blw hb2 (.cells #[.int .i64 1, .string t, .int .i64 xi] 43)
              refine (HCI.out _ _ (hI2.call (blw (Below.refl _ _) _)) (Its.lit (l := [⟨1, t, xi⟩]) (heap_new2 w1 _ _) rfl)).mono ?_; rintro e w5 h5
              obtain ⟨pg, cg, rfl, hgc, hcm2, hIg, hb5⟩ := EndI.f h5
              have hb6 := BelowOn (blw hb4 _) hb5
              go_wp2_with fail
              all_goals go_ret3
              all_goals exact HE.out _ hb6
            · have qf : (1024 : Int) < (n : Int) + 1 := by omega
              go_wp2_with fail
              refine (HRD2.out _).mono ?_; rintro e w1 ⟨x', m, rfl, ⟨hxx, hmm⟩, hb⟩
              have hxx : (⟨1, t, xi⟩ : It) = x' := hxx.symm; subst hxx
              have hmm : k = m := hmm.symm; subst hmm
              have hb2 := BelowOn hB hb
              have hV := V w1
              obtain ⟨v0, v1, v2, v3⟩ := hV.v
              go_wp2_with fail
              have hI2 := (hI.call hb).call (blw (Below.refl _ _) (.cells #[.int .i64 1, .string t, .int .i64 xi] 43))
              have hb4 := blw hb2 (.cells #[.int .i64 1, .string t, .int .i64 xi] 43)
              refine (HCI.out _ _ (hI2.call (blw (Below.refl _ _) _)) (Its.lit (l := [⟨1, t, xi⟩]) (heap_new2 w1 _ _) rfl)).mono ?_; rintro e w5 h5
              obtain ⟨pg, cg, rfl, hgc, hcm2, hIg, hb5⟩ := EndI.f h5
              have hb6 := BelowOn (blw hb4 _) hb5
              go_wp2_with fail
              all_goals go_ret3
              all_goals exact HE.out _ hb6
          · have hgl : g.length ≤ 512 := by omega
            have hn1 : n + 1 ≤ 1024 := by omega
            have q5 : (g.length : Int) ≤ 512 := by omega
            have q6 : (n : Int) + 1 ≤ 1024 := by omega
            have HM : Hid (go g (n + 1) (p + k) (s.data.toList.drop (p + k)) = R) := Lib.hid ((hmo hgl hn1).symm.trans HG.out)
            clear ho hrd hR hne hll hci hck hnf hli htn hval hoks hx1 hx hok hmo hfu hfull
            go_wp2_with fail
            refine (HRD2.out _).mono ?_; rintro e w1 ⟨x', m, rfl, ⟨hxx, hmm⟩, hb⟩
            have hxx : (⟨1, t, xi⟩ : It) = x' := hxx.symm; subst hxx
            have hmm : k = m := hmm.symm; subst hmm
            have hb2 := BelowOn hB hb
            have hV := V w1
            obtain ⟨v0, v1, v2, v3⟩ := hV.v
            go_wp2_with fail
            have hI2 := (hI.call hb).call (blw (Below.refl _ _) (.cells #[.int .i64 1, .string t, .int .i64 xi] 43))
            have hb4 := blw hb2 (.cells #[.int .i64 1, .string t, .int .i64 xi] 43)
            refine (HCI.out _ _ (hI2.call (blw (Below.refl _ _) _)) (Its.lit (l := [⟨1, t, xi⟩]) (heap_new2 w1 _ _) rfl)).mono ?_; rintro e w5 h5
            obtain ⟨pg, cg, rfl, hgc, hcm2, hIg, hb5⟩ := EndI.f h5
            have hb6 := BelowOn (blw hb4 _) hb5
            go_wp2_with fail
            go_roundw
            case rel => exact ⟨g, n + 1, p + k, pg, cg, hpk, by go_num, by go_num, rfl, hgc, hcm2, hIg, HM, hge, hgl, hgn, hn1, hgt, hb6⟩
            case measure => simp [intOf]; omega
    · obtain rfl : p = s.size := by omega
      have hd : s.data.toList.drop s.size = [] := List.drop_of_length_le (by simp)
      have hg := HG.out
      rw [hd, go_nil] at hg
      have HE := Lib.hid (fun w' hb h3 => HYES.out pf cf f w' hg.symm hfc hcm h3 hb)
      clear hg hd
      go_wp2_with fail
      go_ret3
      exact HE.out _ hB hI
end Go.Proofs.YtaogjccmeajpoaaGreatDoor
namespace Go.Proofs.YtaogjccmeajpoaaGreatDoor
open Go.ChangeShapes Go.WideShapes Go.ChangeAt Go.RowKit
set_option linter.unusedVariables false
set_option linter.unusedSimpArgs false
set_option maxRecDepth 100000

theorem rreadtag_any (s : ByteArray) (r : List UInt8) (w : World) (hl : s.data.toList = 60 :: r) (hs : s.size ≤ 1000000000000) :
    Calls Tryz.prog 47 #[.string s] w (EndX (OptOk (rdTag r)) w) := by
  cases h : hasU 62 r with
  | true => exact rreadtag_some s r w hl hs h
  | false => exact rreadtag_none s r w hl hs h
set_option maxHeartbeats 3200000 in
theorem rread_tag (s : ByteArray) (r : List UInt8) (w : World) (hl : s.data.toList = 60 :: r) (hs : s.size ≤ 1000000000000) :
    Calls Tryz.prog 24 #[.string s] w (EndX (OptOk (rdE s.data.toList)) w) := by
  have hsz : s.data.toList.length = s.size := by simp
  have hpos : 0 < s.size := by rw [← hsz, hl]; simp
  have ha : s[0] = 60 := by
    have : s.data.toList[0]'(by rw [hsz]; exact hpos) = 60 := by simp only [hl]; rfl
    rw [← this]; simp; rfl
  have q1 : ((s[0].toNat : Int) == 123) = false := by rw [ha]; rfl
  have q2 : ((s[0].toNat : Int) == 60) = true := by rw [ha]; rfl
  have ht := fun W => rreadtag_any s r W hl hs
  rw [hl, rdE_60]
  generalize rdTag r = o at *
  have HT := Lib.hid ht
  have hZ := zV.new w
  have hBa := blw (Below.refl w.heap.size w) (.cells #[.int .i64 0, .string ByteArray.empty, .int .i64 0] 43)
  clear ht hl ha hsz
  go_enter Tryz.func24, Tryz.ntmps24
  go_wp2_with fail
  refine (HT.out _).mono ?_; rintro e w1 ⟨x, n, rfl, hx, hb⟩
  have hV := hZ.call hb
  have hB := BelowOn hBa hb
  have HX := Lib.hid hx
  clear hb hx hZ hBa
  obtain ⟨v0, v1, v2, v3, v4, v5⟩ := cells_item hV
  go_wp2_with fail
  have hWz := heap_set3 (a' := .int .i64 x.k) (b' := .string x.t) (c' := .int .i64 x.id) hV
  have hBz := ((hB.setCell (p := ⟨w.heap.size, 0, none⟩) (Nat.le_refl _) (.int .i64 x.k)).setCell (p := ⟨w.heap.size, 1, none⟩) (Nat.le_refl _) (.string x.t)).setCell (p := ⟨w.heap.size, 2, none⟩) (Nat.le_refl _) (.int .i64 x.id)
  generalize (((w1.setCell ⟨w.heap.size, 0, none⟩ (.int .i64 x.k)).setCell ⟨w.heap.size, 1, none⟩ (.string x.t)).setCell ⟨w.heap.size, 2, none⟩ (.int .i64 x.id)) = wz at *
  obtain ⟨z0, z1, z2, _⟩ := cells_item hWz
  (try simp only [Exit.inBlock, Exit.then])
  refine bodyPost_ret (v := .tuple #[.agg #[.int .i64 x.k, .string x.t, .int .i64 x.id], .int .i64 (n : Int)]) (by simp [results, Tryz.results24, go_sem, z0, z1, z2]; try rfl) rfl ⟨x, n, rfl, HX.out, hBz⟩
theorem rread_any (s : ByteArray) (W : World) (h1 : 1 ≤ s.size) (hs : s.size ≤ 1000000000000) : Calls Tryz.prog 24 #[.string s] W (EndX (OptOk (rdE s.data.toList)) W) := by
  have hsz : s.data.toList.length = s.size := by simp
  cases hl : s.data.toList with
  | nil => rw [hl] at hsz; simp at hsz; omega
  | cons a r =>
    rw [← hl]
    by_cases h6 : a = 60
    · subst h6; exact rread_tag s r W hl hs
    · by_cases h7 : a = 123
      · subst h7; exact rread_slot s r W hl hs
      · exact rread_text s a r W hl h6 h7 hs
theorem rparse_any (s : ByteArray) (w : World) (hs : s.size ≤ 1000000000000) : Calls Tryz.prog 14 #[.string s] w (EndP (parseN s.data.toList) w) :=
  rparse_of rread_any s w hs
end Go.Proofs.YtaogjccmeajpoaaGreatDoor
