/- skipToBlock: the next block of a document. A call that leaves the world alone may be taken first in a region that draws its order. readUnit: the raw content of a block. Parts in memory; what Split needs of strconv.Itoa. The contract of Split. The walk of Split. The contract of known, the fixed example of the laws; what the laws make. -/
import Derived.Test.YtphkpokoeaagfaaGreatDoorKtE
import Derived.Test.YtphkpokoeaagfaaGreatDoorFrg
import Derived.Deep.RegionHeld3
import Derived.Lib.QuietBelow
import Derived.Test.YtphkpokoeaagfaaGreatDoorFst
import Derived.Handy
import Derived.WalkMore
import Derived.Test.YtphkpokoeaagfaaGreatDoorKtU
import Derived.Test.YtphkpokoeaagfaaGreatDoorNrq
namespace Go.Proofs.YtphkpokoeaagfaaGreatDoor
open Go.ChangeShapes Go.WideShapes Go.ChangeAt Go.RowKit
set_option linter.unusedVariables false
set_option linter.unusedSimpArgs false
set_option maxRecDepth 100000

/-- At the head: no byte is left, or a tag's sign stands there. -/
def hdM : Nat → Nat → List UInt8 → Nat × ByteArray × Bool
  | 0, q, _ => (q, .empty, true)
  | m + 1, q, r => if r = [] then (q, .empty, true) else
    match comM r with
    | some n => hdM m (q + n + (upto 60 (r.drop n)).length) ((r.drop n).drop (upto 60 (r.drop n)).length)
    | none => match rdT (r.drop 1) with
      | none => (q, .empty, false)
      | some (x, n) => if blk x = true then (if x.k = 2 then (q + n, nameB x.t, true) else (q, .empty, false)) else hdM m (q + n + (upto 60 (r.drop n)).length) ((r.drop n).drop (upto 60 (r.drop n)).length)
theorem comM_len {r : List UInt8} {n : Nat} (h : comM r = some n) : 7 ≤ n ∧ n ≤ r.length := by
  unfold comM btw at h
  split at h
  · rename_i u hu
    injection h with h
    split at hu
    · rename_i hc
      injection hu with hu
      have hu : (r.drop 4).take (Lib.index (r.drop 4) [45, 45, 62]).toNat = u := hu
      have hc2 : 0 ≤ Lib.index (r.drop 4) [45, 45, 62] := hc.2
      have h1 : ([60, 33, 45, 45] : List UInt8).length ≤ r.length := by
        have := hc.1
        unfold Lib.hasPrefix at this; rw [List.isPrefixOf_iff_prefix] at this; exact this.length_le
      have hr := Lib.index_room (r.drop 4) [45, 45, 62]
      have hu' : u.length = (Lib.index (r.drop 4) [45, 45, 62]).toNat := by
        rw [← hu, List.length_take]
        show min (Lib.index (r.drop 4) [45, 45, 62]).toNat (r.drop 4).length = _
        have := hr hc2
        simp at this ⊢
        omega
      have := hr hc2
      simp at this h1
      omega
    · cases hu
  · cases h
theorem rdT_len {r : List UInt8} {x : It} {n : Nat} (h : rdT r = some (x, n)) : 2 ≤ n ∧ n ≤ r.length + 1 ∧ okM x = true := by
  obtain ⟨u, v, rfl, _, h2, h3⟩ := rdT_some h
  injection h3 with h3 h4
  subst h3; subst h4
  refine ⟨by omega, by simp, h2⟩
theorem hdM_nil (m q : Nat) : hdM m q [] = (q, .empty, true) := by
  cases m with
  | zero => rfl
  | succ m => unfold hdM; rw [if_pos rfl]
theorem hdM_fuel : ∀ m m' q r, r.length ≤ m → r.length ≤ m' → hdM m q r = hdM m' q r := by
  intro m
  induction m with
  | zero => intro m' q r h0 _; rw [List.length_eq_zero_iff.1 (by omega : r.length = 0), hdM_nil, hdM_nil]
  | succ m ih =>
    intro m' q r h0 h1
    by_cases hr : r = []
    · subst hr; rw [hdM_nil, hdM_nil]
    · cases m' with
      | zero => exact absurd (List.length_eq_zero_iff.1 (by omega)) hr
      | succ m' =>
        unfold hdM
        rw [if_neg hr, if_neg hr]
        have hpos : 0 < r.length := List.length_pos_iff.2 hr
        cases hc : comM r with
        | some n =>
          have := comM_len hc
          dsimp only
          exact ih m' _ _ (by simp; omega) (by simp; omega)
        | none =>
          dsimp only
          cases ht : rdT (r.drop 1) with
          | none => rfl
          | some y =>
            obtain ⟨x, n⟩ := y
            have := rdT_len ht
            dsimp only
            split
            · rfl
            · exact ih m' _ _ (by simp; omega) (by simp; omega)
/-- Where reading stops, the name of the block, and whether all could be read. -/
def hdK (q : Nat) (r : List UInt8) : Nat × ByteArray × Bool := hdM r.length q r
def nxB (p : Nat) (s : List UInt8) : Nat × ByteArray × Bool := hdK (p + (upto 60 s).length) (s.drop (upto 60 s).length)
theorem hdK_nil (q : Nat) : hdK q [] = (q, .empty, true) := hdM_nil _ _
theorem hdK_step (q : Nat) (r : List UInt8) (hr : r ≠ []) : hdK q r = match comM r with
    | some n => nxB (q + n) (r.drop n)
    | none => match rdT (r.drop 1) with
      | none => (q, .empty, false)
      | some (x, n) => if blk x = true then (if x.k = 2 then (q + n, nameB x.t, true) else (q, .empty, false)) else nxB (q + n) (r.drop n) := by
  have hpos : 0 < r.length := List.length_pos_iff.2 hr
  unfold hdK nxB hdK
  rw [hdM_fuel r.length (r.length + 1) q r (Nat.le_refl _) (by omega)]
  show (if r = [] then _ else _) = _
  rw [if_neg hr]
  cases hc : comM r with
  | some n =>
    have := comM_len hc
    dsimp only
    exact hdM_fuel _ _ _ _ (by simp only [List.length_drop]; omega) (Nat.le_refl _)
  | none =>
    dsimp only
    cases ht : rdT (r.drop 1) with
    | none => rfl
    | some y =>
      obtain ⟨x, n⟩ := y
      have := rdT_len ht
      dsimp only
      split
      · rfl
      · exact hdM_fuel _ _ _ _ (by simp only [List.length_drop]; omega) (Nat.le_refl _)
/-- What skipToBlock answers. -/
def EndNb (v : Nat × ByteArray × Bool) (b : Nat) (s : ByteArray) (w : World) (e : Ending) (w' : World) : Prop := e = .returned (.tuple #[.string v.2.1, .bool v.2.2]) ∧ Scn w' b s v.1 ∧ OnB b w w'
structure NbI (s : ByteArray) (b : Nat) (v : Nat × ByteArray × Bool) (w : World) (q : Nat) (W : World) : Prop where
  scn : Scn W b s q
  onl : OnB b w W
  le : q ≤ s.size
  hd : (h : q < s.size) → s[q] = 60
  eqn : hdK q (s.data.toList.drop q) = v
theorem upto_head (c : UInt8) (s : ByteArray) (p : Nat) (h : p + (upto c (s.data.toList.drop p)).length < s.size) : s[p + (upto c (s.data.toList.drop p)).length] = c := by
  cases hh : hasU c (s.data.toList.drop p)
  · have := congrArg List.length (upto_none c _ hh).1
    rw [List.length_drop, ll_size] at this; omega
  · have hs := has_split c _ hh
    generalize hu : upto c (s.data.toList.drop p) = u at *
    have h1 : (s.data.toList.drop p)[u.length]? = some c := by
      rw [hs, List.getElem?_append_right (Nat.le_refl _), Nat.sub_self]; rfl
    rw [List.getElem?_drop] at h1
    obtain ⟨h3, h4⟩ := List.getElem?_eq_some_iff.1 h1
    have h5 : s[p + u.length] = s.data.toList[p + u.length] := by simp; rfl
    rw [h5]; exact h4
theorem NbI.next {s : ByteArray} {b : Nat} {v : Nat × ByteArray × Bool} {w W : World} {p : Nat} (hp : p ≤ s.size) (hS : Scn W b s (p + (upto 60 (s.data.toList.drop p)).length)) (hO : OnB b w W) (hv : nxB p (s.data.toList.drop p) = v) : NbI s b v w (p + (upto 60 (s.data.toList.drop p)).length) W where
  scn := hS
  onl := hO
  le := by have := upto_lenD 60 (s.data.toList.drop p); rw [List.length_drop, ll_size] at this; omega
  hd := fun h => upto_head 60 s p h
  eqn := by rw [← hv]; unfold nxB; rw [List.drop_drop]
set_option maxHeartbeats 6400000 in
theorem skiptoblock_any (b p : Nat) (s : ByteArray) (w : World) (h : Scn w b s p) (hMx : Mx w) (hb1 : b ≠ 1) (hs : s.size ≤ 1000000000) (hp : p ≤ s.size) :
    Calls Tryz.prog 45 #[.pointer (some ⟨b, 0, none⟩)] w (EndNb (nxB p (s.data.toList.drop p)) b s w) := by
  have hbw := h.lt
  obtain ⟨v, hv⟩ : ∃ v, nxB p (s.data.toList.drop p) = v := ⟨_, rfl⟩
  rw [hv]
  have HSK := Lib.hid (fun q W (hS : Scn W b s q) (hq : q ≤ s.size) => show Calls Tryz.prog 77 #[.pointer (some ⟨b, 0, none⟩), .int .u8 60] W _ from skipto_any b q s 60 W hS hs hq)
  have HMO := Lib.hid (fun q W (hS : Scn W b s q) (hq : q ≤ s.size) => more_any b q s W hS (by omega) (by omega))
  have HCO := Lib.hid (fun q W (hS : Scn W b s q) (hM : Mx W) (hq : q ≤ s.size) => comment_any b q s W hS hM hs hq)
  have HRT := Lib.hid (fun q W (hS : Scn W b s q) (hM : Mx W) (hq : q < s.size) (h60 : s[q] = 60) => readtag_any b q s W hS hM hb1 hs hq h60)
  have HHB := Lib.hid (fun k t id W (ht : ByteArray.size t ≤ maxLen) => hasblock_any k t id W ht)
  have HTN := Lib.hid (fun k t id W (ht : ByteArray.size t ≤ maxLen) => tagname_any k t id W ht)
  have HV := Lib.hid hv; have HM := Lib.hid hMx; have HB1 := Lib.hid hb1
  clear hv hMx hb1
  go_enter Tryz.func45, Tryz.ntmps45
  go_wp2_with fail
  refine (HSK.out p w h hp).mono ?_; rintro e w1 ⟨rfl, hS1, hO1⟩
  have HREL := Lib.hid (NbI.next (w := w) hp hS1 hO1 HV.out)
  clear hS1 hO1
  go_wp2_with fail
  go_loopw [] (fun wr => ∃ q, NbI s b v w q wr) (fun wr => s.size - (intOf ((wr.cell? ⟨b, 1, none⟩).getD (.int .i64 0))).toNat)
  case atStart => exact ⟨_, HREL.out⟩
  case round =>
    obtain ⟨q, hI⟩ := hrel
    have HI := Lib.hid hI
    have hm0 := hI.scn.cells.2.1
    have hle := hI.le
    have hMq := HM.out.only hI.onl (fun e => HB1.out e.symm)
    clear hI HREL
    by_cases hlt : q < s.size
    · have hm := HMO.out q wr HI.out.scn hle
      rw [decide_eq_true hlt] at hm
      have HMX := Lib.hid hm
      have h60 := HI.out.hd hlt
      clear hm
      have hrne : s.data.toList.drop q ≠ [] := fun e => by have := congrArg List.length e; rw [List.length_drop, ll_size] at this; simp at this; omega
      have hst := hdK_step q _ hrne
      rw [HI.out.eqn, List.drop_drop] at hst
      go_wp2_with fail
      refine HMX.out.mono ?_; rintro e w2 ⟨rfl, hb2⟩
      have hS2 := HI.out.scn.call hb2
      have hO2 : OnB b w w2 := HI.out.onl.trans (Only.of_below hb2)
      have hM2 := hMq.call hb2
      have hco := HCO.out q w2 hS2 hM2 hle
      go_wp2_with fail
      cases hc : comM (s.data.toList.drop q) with
      | some n =>
        rw [hc] at hco hst
        have hcl := comM_len hc
        rw [List.length_drop, ll_size] at hcl
        dsimp only at hst
        rw [List.drop_drop] at hst
        have HST := Lib.hid hst
        have HCO2 := Lib.hid (show Calls _ _ _ _ (EndCm (some n) b q s w2) from hco)
        clear hc hco hst
        refine HCO2.out.mono ?_; rintro e w3 ⟨rfl, hS3, hO3⟩
        have HO3 := Lib.hid (hO2.trans hO3)
        clear hO3
        go_wp2_with fail
        refine (HSK.out (q + n) w3 hS3 (by omega)).mono ?_; rintro e w4 ⟨rfl, hS4, hO4⟩
        have HN := Lib.hid (NbI.next (w := w) (show q + n ≤ s.size by omega) hS4 (HO3.out.trans hO4) HST.out.symm)
        clear hS4 hO4
        go_wp2_with fail
        go_roundw
        case rel => exact ⟨_, HN.out⟩
        case measure =>
          rw [hm0, HN.out.scn.cells.2.1]
          simp [intOf]; omega
      | none =>
        rw [hc] at hco hst
        dsimp only at hst
        have HST := Lib.hid hst
        have HCO2 := Lib.hid (show Calls _ _ _ _ (EndCm none b q s w2) from hco)
        clear hc hco hst
        refine HCO2.out.mono ?_; rintro e w3 ⟨rfl, hS3, hO3⟩
        have hP3 := hO2.trans hO3
        have hM3 := hM2.only hO3 (fun e => HB1.out e.symm)
        have x1 := hS3.cells.2.1
        have HRT2 := Lib.hid (HRT.out q w3 hS3 hM3 hlt h60)
        go_wp2_with fail
        refine HRT2.out.mono ?_; rintro e w4 ⟨x, ok, q2, rfl, hx, hS4, hO4⟩
        have hP4 := (hP3.trans hO4).alloc (.cells #[.int .i64 x.k, .string x.t, .int .i64 x.id] 62)
        have hS5 := hS4.call (blw (Below.refl _ _) (.cells #[.int .i64 x.k, .string x.t, .int .i64 x.id] 62))
        have hX5 := heap_alloc_new w4 (.cells #[.int .i64 x.k, .string x.t, .int .i64 x.id] 62)
        have HX := Lib.hid hx
        have hbn : b ≠ w4.heap.size := by have := hS4.lt; omega
        clear hx hS4 hO4 x1 hS3 hO3 hP3 hM3 HRT2 HCO2
        go_upto_region 7 with fail
        change Code.wp _ _ _ _ (w4.alloc (.cells #[.int .i64 x.k, .string x.t, .int .i64 x.id] 62))
        generalize w4.heap.size = BX at *
        generalize w4.alloc (.cells #[.int .i64 x.k, .string x.t, .int .i64 x.id] 62) = w5 at *
        cases ht : rdT (s.data.toList.drop (q + 1)) with
        | none =>
          have hst := HST.out
          have hx := HX.out
          rw [ht] at hst hx
          obtain ⟨rfl, rfl, hq2⟩ : x = zI ∧ ok = false ∧ q2 = q := hx
          subst hq2
          have HV2 := Lib.hid (show v = (q2, .empty, false) from hst)
          obtain ⟨_, y1, y2⟩ := hS5.cells
          have hOz := hP4.setCell ⟨b, 1, none⟩ (.int .i64 ((q2 : Nat) : Int)) rfl
          have hSz := hS5.set q2
          obtain ⟨v0, v1, v2, _, _, _⟩ := cells_item hX5
          clear hst HX ht
          go_wp2_with fail
          (try simp only [Exit.inBlock, Exit.then])
          go_ret2
          exact ⟨by rw [HV2.out]; rfl, by rw [HV2.out]; exact hSz, hOz⟩
        | some y =>
          obtain ⟨x', n⟩ := y
          have hst := HST.out
          have hx := HX.out
          rw [ht] at hst hx
          obtain ⟨rfl, rfl, hq2⟩ : x = x' ∧ ok = true ∧ q2 = q + n := hx
          subst hq2
          obtain ⟨hn2, hn3, hok⟩ := rdT_len ht
          rw [List.length_drop, ll_size] at hn3
          have hsz : x.t.size ≤ maxLen := by have := okM_small hok; unfold maxLen; omega
          dsimp only at hst
          rw [List.drop_drop] at hst
          obtain ⟨v0, v1, v2, _, _, _⟩ := cells_item hX5
          obtain ⟨_, y1, y2⟩ := hS5.cells
          clear HX ht HST
          have hhb2 := fun W => HHB.out x.k x.t x.id W hsz
          cases hbk : blk x with
          | false =>
            rw [hbk, if_neg (by decide)] at hst
            rw [show blkN (nameB x.t) = false from hbk] at hhb2
            have HHB3 := Lib.hid hhb2
            have HST := Lib.hid hst
            clear hst hhb2 hbk
            go_wp2_with fail
            refine (HHB3.out _).mono ?_; rintro e w6 ⟨rfl, hb6⟩
            have hX6 := (hb6.block BX (Array.getElem?_eq_some_iff.1 hX5).1).trans hX5
            have hS6 := hS5.call hb6
            have hP6 := hP4.trans (Only.of_below hb6)
            clear v0 v1 v2 y1 y2
            obtain ⟨v0, v1, v2, _, _, _⟩ := cells_item hX6
            go_wp2_with fail
            refine (HHB3.out _).mono ?_; rintro e w7 ⟨rfl, hb7⟩
            have hS7 := hS6.call hb7
            have HP7 := Lib.hid (hP6.trans (Only.of_below hb7))
            clear v0 v1 v2 hS6 hP6 hX6 hb7 hb6
            go_wp2_with fail
            refine (HSK.out (q + n) w7 hS7 (by omega)).mono ?_; rintro e w8 ⟨rfl, hS8, hO8⟩
            have HN := Lib.hid (NbI.next (w := w) (show q + n ≤ s.size by omega) hS8 (HP7.out.trans hO8) HST.out.symm)
            clear hS8 hO8
            go_wp2_with fail
            go_roundw
            case rel => exact ⟨_, HN.out⟩
            case measure =>
              rw [hm0, HN.out.scn.cells.2.1]
              simp [intOf]; omega
          | true =>
            rw [hbk, if_pos rfl] at hst
            rw [show blkN (nameB x.t) = true from hbk] at hhb2
            have HHB3 := Lib.hid hhb2
            have HTN3 := Lib.hid (fun W => HTN.out x.k x.t x.id W hsz)
            clear hhb2 hbk
            by_cases hk : x.k = 2
            · rw [if_pos hk] at hst
              have HV2 := Lib.hid hst
              have hk2 : (x.k == 2) = true := by rw [hk]; rfl
              clear hst hk
              go_wp2_with fail
              refine (HHB3.out _).mono ?_; rintro e w6 ⟨rfl, hb6⟩
              have hX6 := (hb6.block BX (Array.getElem?_eq_some_iff.1 hX5).1).trans hX5
              have hS6 := hS5.call hb6
              have hP6 := hP4.trans (Only.of_below hb6)
              clear v0 v1 v2 y1 y2
              obtain ⟨v0, v1, v2, _, _, _⟩ := cells_item hX6
              go_wp2_with fail
              refine (HHB3.out _).mono ?_; rintro e w7 ⟨rfl, hb7⟩
              have hX7 := (hb7.block BX (Array.getElem?_eq_some_iff.1 hX6).1).trans hX6
              have hS7 := hS6.call hb7
              have hP7 := hP6.trans (Only.of_below hb7)
              clear v0 v1 v2
              obtain ⟨v0, v1, v2, _, _, _⟩ := cells_item hX7
              go_wp2_with fail
              refine (HTN3.out _).mono ?_; rintro e w8 ⟨rfl, hb8⟩
              have hS8 := hS7.call hb8
              have hP8 := hP7.trans (Only.of_below hb8)
              go_wp2_with fail
              (try simp only [Exit.inBlock, Exit.then])
              go_ret2
              exact ⟨by rw [HV2.out]; rfl, by rw [HV2.out]; exact hS8, hP8⟩
            · rw [if_neg hk] at hst
              have HV2 := Lib.hid hst
              have hk2 : (x.k == 2) = false := by simpa using hk
              clear hst hk
              go_wp2_with fail
              refine (HHB3.out _).mono ?_; rintro e w6 ⟨rfl, hb6⟩
              have hX6 := (hb6.block BX (Array.getElem?_eq_some_iff.1 hX5).1).trans hX5
              have hS6 := hS5.call hb6
              have hP6 := hP4.trans (Only.of_below hb6)
              have hOz := hP6.setCell ⟨b, 1, none⟩ (.int .i64 ((q : Nat) : Int)) rfl
              have hSz := hS6.set q
              clear v0 v1 v2 y1 y2
              obtain ⟨v0, v1, v2, _, _, _⟩ := cells_item hX6
              obtain ⟨_, y1, y2⟩ := hS6.cells
              go_wp2_with fail
              (try simp only [Exit.inBlock, Exit.then])
              go_ret2
              exact ⟨by rw [HV2.out]; rfl, by rw [HV2.out]; exact hSz, hOz⟩
    · obtain rfl : q = s.size := by omega
      have hm := HMO.out s.size wr HI.out.scn (Nat.le_refl _)
      rw [decide_eq_false (by omega)] at hm
      have HMX := Lib.hid hm
      have heq := HI.out.eqn
      rw [List.drop_of_length_le (by rw [ll_size]; exact Nat.le_refl _), hdK_nil] at heq
      have HV2 := Lib.hid heq.symm
      clear hm heq
      go_wp2_with fail
      refine HMX.out.mono ?_; rintro e w2 ⟨rfl, hb2⟩
      have hS2 := HI.out.scn.call hb2
      have hO2 : OnB b w w2 := HI.out.onl.trans (Only.of_below hb2)
      go_wp2_with fail
      (try simp only [Exit.inBlock, Exit.then])
      go_ret2
      exact ⟨by rw [HV2.out]; rfl, by rw [HV2.out]; exact hS2, hO2⟩
end Go.Proofs.YtphkpokoeaagfaaGreatDoor
namespace Go.Proofs.YtphkpokoeaagfaaGreatDoor
set_option linter.unusedVariables false

section
variable {P : Program} {ops : Array Oper} {Q : Exit → Act → World → Prop} {md : Region.Mode} {S : World → Prop}
/-- In this state the operation calls a function that answers v and leaves every world that meets S as it was. -/
def QuietAt (P : Program) (ops : Array Oper) (S : World → Prop) (o : Oper) (v : Value) (a : Act) : Prop :=
  Region.wanted o (yielded ops a.tmps) = true ∧ ∀ w, S w → ∃ f args, (execOp a.eval o).run P w = .ok (.enter f args) w ∧ Calls P f args w (fun e w' => e = .returned v ∧ w' = w)
theorem eval_of_tmps {a b : Act} (h : a.tmps = b.tmps) : a.eval = b.eval := by
  funext x
  cases x <;> simp [Act.eval, h]
/-- Behind an operation the state has turned in its own temporary alone. -/
theorem wpOp_shape {j : Nat} {oj : Oper} (hj : ops[j]? = some oj) {K : Act → World → Prop} {a : Act} {w : World} (h : wpOp P ops Q j K a w) : wpOp P ops Q j (fun a' w' => (∃ u, a'.tmps = (a.put oj.dst u).tmps) ∧ K a' w') a w := by
  unfold wpOp at h ⊢
  simp only [hj] at h ⊢
  by_cases hw : Region.wanted oj (yielded ops a.tmps) = true
  · rw [if_pos hw] at h ⊢
    refine h.imp (fun h => ?_) id
    unfold Oper.wp at h ⊢
    generalize (execOp a.eval oj).run P w = r at h ⊢
    cases r with
    | halt x w' => cases x <;> simp only [Oper.upon] at h ⊢ <;> exact h
    | ok n w' =>
      cases n <;> simp only [Oper.upon] at h ⊢
      case value u => exact ⟨⟨u, rfl⟩, h⟩
      case skip => exact ⟨⟨undef, rfl⟩, h⟩
      case defer d => exact ⟨⟨undef, by cases hd : oj.dst <;> simp [Act.put]⟩, h⟩
      case enter f args =>
        refine Calls.mono h fun e w'' he => ?_
        cases e with
        | returned u => exact ⟨⟨u, rfl⟩, he⟩
        | panicked c => exact he
        | outgrown => exact he
      case row r args => exact Rows.mono h fun u w'' he => ⟨⟨u, rfl⟩, he⟩
  · rw [if_neg hw] at h ⊢
    exact ⟨⟨undef, rfl⟩, h⟩
theorem QuietAt.run {i : Nat} {o : Oper} {v : Value} {a : Act} (hi : ops[i]? = some o) (hy : QuietAt P ops S o v a) {K : Act → World → Prop} {w : World} (hS : S w) (h : K (a.put o.dst v) w) : wpOp P ops Q i K a w := by
  obtain ⟨hw, hv⟩ := hy
  obtain ⟨f, args, hr, hc⟩ := hv w hS
  unfold wpOp
  simp only [hi]
  rw [if_pos hw]
  refine .inl ?_
  unfold Oper.wp
  rw [hr]
  exact Calls.mono hc fun e w' ⟨he, hw'⟩ => by subst he; subst hw'; exact h
theorem wpAnyH_quiet0 {i : Nat} {oi : Oper} {v : Value} (hi : ops[i]? = some oi) (hsel : ∀ (j : Nat) (o : Oper) cs b, ops[j]? = some o → o.op ≠ .select cs b) (hQ : ∀ c a w, Q (.panic c) (a.put oi.dst v) w → Q (.panic c) a w) :
    ∀ (fuel : Nat) (listed : Array Bool) (a : Act) (w : World), (∀ j oj, ops[j]? = some oj → j ≠ i → listed.getD j true = false → (∀ e ∈ oj.after, Region.binds md e = true → e.on ≠ i) → oi.apart ops oj = true) →
      i ∈ Region.ready md ops listed → QuietAt P ops S oi v a → S w → wpAnyH P md ops Q S fuel (listed.setIfInBounds i true) (a.put oi.dst v) w → wpAnyH P md ops Q S (fuel + 1) listed a w := by
  intro fuel
  induction fuel with
  | zero =>
    intro listed a w _ hr hy hS H
    refine ⟨fun h => by rw [h] at hr; (cases hr), fun j hj => ?_⟩
    by_cases e : j = i
    · subst e; exact hy.run hi hS ⟨hS, H⟩
    · have hj' := ready_mono hj e
      rw [H.1] at hj'; cases hj'
  | succ fuel ih =>
    intro listed a w hfree hr hy hS H
    refine ⟨fun h => by rw [h] at hr; (cases hr), fun j hj => ?_⟩
    by_cases e : j = i
    · subst e; exact hy.run hi hS ⟨hS, H⟩
    obtain ⟨hun, oj, hoj, hall⟩ := mem_ready.1 hj
    have hno : ∀ e ∈ oj.after, Region.binds md e = true → e.on ≠ i := fun x hx hb he => by
      have h1 := hall x hx hb
      have h0 := (mem_ready.1 hr).1
      rw [he] at h1
      rcases Nat.lt_or_ge i listed.size with hlt | hge
      · simp [hlt] at h0 h1; rw [h0] at h1; cases h1
      · simp [Array.getElem?_eq_none hge] at h1
    have hap := hfree j oj hoj e hun hno
    obtain ⟨_, _, h3⟩ := Oper.apart_spec hap
    have h1 := wpOp_putIf (S := fun _ => False) hoj hap (fun cs b => hsel i oi cs b hi) (fun cs b => hsel j oj cs b hoj) hQ (.inl ⟨hy.1, fun _ h => h.elim⟩) (H.2 j (ready_mono hj e))
    refine wpOp_mono (fun a' w' h => ?_) (wpOp_shape hoj h1)
    obtain ⟨⟨u, hu⟩, _, hS', hW⟩ := h
    have hq : QuietAt P ops S oi v a' := by
      unfold QuietAt at hy ⊢
      rw [hu, wanted_put oi a oj.dst u h3, eval_of_tmps hu, execOp_put oi (fun cs b => hsel i oi cs b hi) a oj.dst u h3]
      exact hy
    refine ⟨hS', ih (listed.setIfInBounds j true) a' w' (fun k ok hk hki hku hkn => hfree k ok hk hki ?_ hkn) (ready_mono hr (Ne.symm e)) hq hS' ?_⟩
    · by_cases hjk : j = k
      · subst hjk; exact hun
      · rw [getD_set_ne true hjk] at hku; exact hku
    · rw [Array.setIfInBounds_comm _ _ e]; exact hW
/-- Take a quiet call first. -/
theorem wpAnyH_quiet {i : Nat} {oi : Oper} {v : Value} {fuel : Nat} {listed : Array Bool} {a : Act} {w : World} (hi : ops[i]? = some oi) (hs : Region.noSelect ops = true) (hf : Region.free md ops listed i = true) (hr : (Region.ready md ops listed).contains i = true)
    (hQ : ∀ c a w, Q (.panic c) (a.put oi.dst v) w → Q (.panic c) a w) (hy : QuietAt P ops S oi v a) (hS : S w) (h : wpAnyH P md ops Q S fuel (listed.setIfInBounds i true) (a.put oi.dst v) w) : wpAnyH P md ops Q S (fuel + 1) listed a w :=
  wpAnyH_quiet0 hi (Region.noSelect_spec hs) hQ fuel listed a w (Region.free_spec hi hf) (by simpa using hr) hy hS h
end
open Go.ChangeShapes Go.WideShapes Go.ChangeAt Go.RowKit
theorem wpAnyH_mono {P : Program} {md : Region.Mode} {ops : Array Oper} {Q : Exit → Act → World → Prop} {S S' : World → Prop} (hS : ∀ w, S' w → S w) : ∀ (fuel : Nat) (listed : Array Bool) (a : Act) (w : World), wpAnyH P md ops Q S' fuel listed a w → wpAnyH P md ops Q S fuel listed a w
  | 0, _, _, _, h => h
  | fuel + 1, _, _, _, h => ⟨h.1, fun i hi => wpOp_mono (fun a' w' h' => ⟨hS _ h'.1, wpAnyH_mono hS fuel _ a' w' h'.2⟩) (h.2 i hi)⟩
theorem carry_next {W W' : World} {a b : Nat} {o : Obj} (h : W.heap[a]? = some o) (hg : W.grownBy W' (some b)) (hne : a ≠ b) : W'.heap[a]? = some o := (hg.block a (Array.getElem?_eq_some_iff.1 h).1 (fun e => hne (Option.some.inj e))).trans h
theorem carry_alloc {W : World} {a : Nat} {o : Obj} (h : W.heap[a]? = some o) (o' : Obj) : (W.alloc o').heap[a]? = some o := (Lib.alloc_old W o' a (Array.getElem?_eq_some_iff.1 h).1).trans h
theorem heap_at {W : World} {n : Nat} (h : W.heap.size = n) (o : Obj) : (W.alloc o).heap[n]? = some o := by rw [← h]; exact heap_alloc_new W o
end Go.Proofs.YtphkpokoeaagfaaGreatDoor
namespace Go.Proofs.YtphkpokoeaagfaaGreatDoor
open Go.ChangeShapes Go.WideShapes Go.ChangeAt Go.RowKit Go.Sort
set_option linter.unusedVariables false
set_option linter.unusedSimpArgs false
set_option maxRecDepth 100000

def clB (nm : ByteArray) : ByteArray := ⟨#[60, 47]⟩ ++ nm ++ ⟨#[62]⟩
theorem clB_size (nm : ByteArray) : (clB nm).size = nm.size + 3 := by
  unfold clB
  rw [ByteArray.size_append, ByteArray.size_append, show (⟨#[60, 47]⟩ : ByteArray).size = 2 from rfl, show (⟨#[62]⟩ : ByteArray).size = 1 from rfl]; omega
/-- What readUnit answers: raw, at, e, and where the scanner stands then. -/
def ruC (p sz : Nat) (c : List UInt8 × List UInt8 × Bool) : ByteArray × Nat × Int × Nat :=
  if (dcM c.1).2.2.2 = 0 then (if c.2.2 = true then (bsL c.1, 0, 0, p + c.1.length) else (.empty, sz, 2, p)) else (.empty, p + (dcM c.1).2.2.1, (dcM c.1).2.2.2, p)
def ruM (nm : ByteArray) (p : Nat) (s : ByteArray) : ByteArray × Nat × Int × Nat := ruC p s.size (Lib.cut (s.data.toList.drop p) (clB nm).data.toList)
def EndRu (v : ByteArray × Nat × Int × Nat) (b : Nat) (s : ByteArray) (w : World) (e : Ending) (w' : World) : Prop := e = .returned (.tuple #[.string v.1, .int .i64 (v.2.1 : Nat), .int .i64 v.2.2.1]) ∧ Scn w' b s v.2.2.2 ∧ OnB b w w'
theorem cut_len (l c : List UInt8) : (Lib.cut l c).1.length ≤ l.length := by
  unfold Lib.cut
  split
  · simp; omega
  · exact Nat.le_refl _
theorem decM_at : ∀ (m : Nat) (E : List It) (S : List Nat) (op : List It) (n p : Nat) (s : List UInt8), (decM m E S op n p s).2.2.1 ≤ p + s.length := by
  intro m
  induction m with
  | zero => intro E S op n p s; unfold decM; split <;> simp
  | succ m ih =>
    intro E S op n p s
    unfold decM
    split
    · split <;> simp
    · cases he : elM s with
      | none => simp
      | some y =>
        obtain ⟨x, k⟩ := y
        have hk := elM_take he
        dsimp only
        cases hn : numM op n x with
        | none => simp
        | some z =>
          obtain ⟨y, op', n'⟩ := z
          dsimp only
          split
          · simp
          · have := ih (E ++ [y]) (S ++ [p]) op' n' (p + k) (s.drop k)
            rw [List.length_drop] at this
            omega
theorem dcM_at (s : List UInt8) : (dcM s).2.2.1 ≤ s.length := by
  have := decM_at s.length [] [] [] 0 0 s
  rw [Nat.zero_add] at this; exact this
set_option maxHeartbeats 6400000 in
theorem readunit_any (b p : Nat) (s nm : ByteArray) (w : World) (h : Scn w b s p) (hMx : Mx w) (hb1 : b ≠ 1) (hs : s.size ≤ 1000000000) (hp : p ≤ s.size) (hn : nm.size ≤ 100000) :
    Calls Tryz.prog 47 #[.pointer (some ⟨b, 0, none⟩), .string nm] w (EndRu (ruM nm p s) b s w) := by
  have hbw := h.lt
  obtain ⟨x0, x1, x2⟩ := h.cells
  have k0 := cell_regrown x0
  have k1 := cell_regrown x1
  have hcs := clB_size nm
  have cA : ∀ d os, Calls Tryz.prog 49 #[.string nm] (grow (redrawn w d) os) fun e w'' => e = .returned (.string (clB nm)) ∧ ∃ p : Regrown, w'' = grow (redrawn w p.d) p.os := fun d os => Calls.regrown_of ((closing_any nm _ (by omega)).mono (by rintro e w' ⟨rfl, rfl⟩; exact ⟨rfl, Below.refl _ _⟩))
  have hcl := cut_len (s.data.toList.drop p) (clB nm).data.toList
  rw [List.length_drop, ll_size] at hcl
  have hcut := fun W m (hm : W.cell? ⟨1, 0, none⟩ = some (.int .i64 m)) => Tryz.strings_Cut (s.extract p s.size) (clB nm) m W (by rw [ByteArray.size_extract]; omega) hm
  rw [ext_dropL] at hcut
  unfold ruM
  generalize Lib.cut (s.data.toList.drop p) (clB nm).data.toList = C at *
  obtain ⟨C1, C2, C3⟩ := C
  dsimp only at hcut hcl
  have cB : ∀ d os, Calls Tryz.prog 81 #[.string (s.extract p s.size), .string (clB nm)] (grow (redrawn w d) os) fun e w'' => e = .returned (.tuple #[.string (bsL C1), .string (bsL C2), .bool C3]) ∧ ∃ p : Regrown, w'' = grow (redrawn w p.d) p.os := fun d os => by
    obtain ⟨m, hm⟩ := hMx.call (below_regrown w d os)
    exact Calls.regrown_of ((hcut _ m hm).mono (by rintro e w' ⟨rfl, n, rfl⟩; exact ⟨rfl, below_qN _ _⟩))
  have hdec := fun W (hM : Mx W) => decode_any (bsL C1) W hM (by rw [bsL_size]; omega)
  rw [bsL_list] at hdec
  have hdat := dcM_at C1
  obtain ⟨v, hv⟩ : ∃ v, ruC p s.size (C1, C2, C3) = v := ⟨_, rfl⟩
  rw [hv]
  unfold ruC at hv
  dsimp only at hv
  generalize dcM C1 = R at *
  obtain ⟨R1, R2, R3, R4⟩ := R
  dsimp only at hdec hdat hv
  have hve : (R4 = 0 → C3 = true → v = (bsL C1, 0, 0, p + C1.length)) ∧ (R4 = 0 → C3 = false → v = (.empty, s.size, 2, p)) ∧ (R4 ≠ 0 → v = (.empty, p + R3, R4, p)) := by
    refine ⟨fun h1 h2 => ?_, fun h1 h2 => ?_, fun h1 => ?_⟩
    · rw [← hv, if_pos h1, if_pos h2]
    · rw [← hv, if_pos h1, if_neg (by rw [h2]; decide)]
    · rw [← hv, if_neg h1]
  clear hv
  have HVE := Lib.hid hve
  clear hve
  unfold EndD at hdec
  dsimp only at hdec
  have HD := Lib.hid hdec
  have hC1 : (bsL C1).size = C1.length := bsL_size C1
  have HL := Lib.hid hC1
  have hu1 : ((bsL C1).size : Int) ≤ 1000000000 := by omega
  have hq : (p : Int) + ((bsL C1).size : Int) = ((p + C1.length : Nat) : Int) := by omega
  have HQ := Lib.hid hq
  generalize hU : bsL C1 = U1 at *
  generalize bsL C2 = U2 at *
  have i0 : (0 : Int) ≤ (p : Int) := by omega
  have i1 : (p : Int) ≤ (s.size : Int) := by omega
  have i2 : (s.size : Int) ≤ 1000000000 := by omega
  have i3 : (R3 : Int) ≤ 1000000000 := by omega
  have mixed : Tryz.prog.follows .mixedOrders = true := by kernel_rfl
  clear hcut hdec hC1 hq
  go_enter Tryz.func47, Tryz.ntmps47
  go_wp2_with fail
  refine wp_region_quiet_below (by assumption) (by kernel_rfl) ?_
  iterate 8 (go_big_quiet_step (exact cA _ _))
  iterate 1 (go_big_quiet_step (exact cB _ _))
  repeat (go_big_quiet_step (fail))
  refine wpQuiet_nil ?_
  intro _ hw'
  obtain ⟨⟨dq, osq⟩, hw''⟩ := hw'
  subst hw''
  have hb2 := below_regrown w dq osq
  generalize grow (redrawn w dq) osq = W2 at *
  have hS2 := h.call hb2
  have hO2 : OnB b w W2 := Only.of_below hb2
  have hM2 := hMx.call hb2
  clear x0 x1 x2 k0 k1 cA cB
  have HD2 := Lib.hid (HD.out W2 hM2)
  go_wp2_with fail
  refine HD2.out.mono ?_; rintro e w3 ⟨pd, cd, rfl, _, _, _, hb3⟩
  have hS3 := hS2.call hb3
  have hO3 := hO2.trans (Only.of_below hb3)
  obtain ⟨x0, x1, x2⟩ := hS3.cells
  by_cases h4 : R4 = 0
  · subst h4
    cases C3
    · have HV := Lib.hid (HVE.out.2.1 rfl rfl)
      clear HVE HD HD2
      go_wp2_with fail
      go_quiet (fail)
      all_goals
        (go_wp2_with fail
         go_ret3
         exact ⟨by rw [HV.out]; rfl, by rw [HV.out]; exact hS3.call (below_qN _ _), hO3.trans (Only.of_below (below_qN _ _))⟩)
    · have HV := Lib.hid (HVE.out.1 rfl rfl)
      clear HVE HD HD2
      go_wp2_with fail
      go_ret3
      refine ⟨by rw [HV.out]; rfl, ?_, ?_⟩
      · rw [HV.out, HQ.out]; exact hS3.set (p + C1.length)
      · exact hO3.setCell ⟨b, 1, none⟩ _ rfl
  · have HV := Lib.hid (HVE.out.2.2 h4)
    have h40 : (R4 == 0) = false := by simpa using h4
    clear HVE HD HD2
    go_wp2_with fail
    go_ret3
    exact ⟨by rw [HV.out]; rfl, by rw [HV.out]; exact hS3, hO3⟩
end Go.Proofs.YtphkpokoeaagfaaGreatDoor
namespace Go.Proofs.YtphkpokoeaagfaaGreatDoor
open Go.Lib (decDigits)
open Go.ChangeShapes Go.WideShapes Go.ChangeAt Go.RowKit
set_option linter.unusedVariables false
set_option linter.unusedSimpArgs false
set_option maxRecDepth 100000

structure Pt where
  u : Bool
  key : ByteArray
  raw : ByteArray
def keyR (r : Nat) : ByteArray := bsL (decDigits r)
def penc (x : Pt) : List Value := [.bool x.u, .string x.key, .string x.raw]
theorem infoP : (Tryz.prog.info? 64).map (fun i => (i.zero, i.size, i.bytes)) = some (some (.agg #[.bool false, .string .empty, .string .empty]), 3, 40) := by kernel_rfl
theorem eP : El 55 64 3 40 (.agg #[.bool false, .string .empty, .string .empty]) penc :=
  ⟨Tryz.underlying55, info_parts infoP, rfl, by omega, fun _ => rfl, fun x u hu => by simp [penc] at hu; rcases hu with rfl | rfl | rfl <;> rfl⟩
def Pts (W : World) (p : Option Addr) (l : List Pt) : Prop :=
  0 < l.length → ∃ a, p = some a ∧ a.block < W.heap.size ∧ ∀ i (h : i < l.length), W.cell? (a.add (i * 3)) = some (.bool (l[i]'h).u) ∧ W.cell? (a.add (i * 3 + 1)) = some (.string (l[i]'h).key) ∧ W.cell? (a.add (i * 3 + 2)) = some (.string (l[i]'h).raw)
theorem Pts.call {W w1 : World} {p : Option Addr} {l : List Pt} (h : Pts W p l) (hb : Below W.heap.size W w1) : Pts w1 p l := fun h0 => by
  obtain ⟨a, hp, hlt, hc⟩ := h h0
  refine ⟨a, hp, Nat.lt_of_lt_of_le hlt hb.size, fun i hi => ?_⟩
  obtain ⟨c0, c1, c2⟩ := hc i hi
  exact ⟨by rw [hb.cell (p := a.add (i * 3)) (by rw [add_block]; exact hlt)]; exact c0, by rw [hb.cell (p := a.add (i * 3 + 1)) (by rw [add_block]; exact hlt)]; exact c1, by rw [hb.cell (p := a.add (i * 3 + 2)) (by rw [add_block]; exact hlt)]; exact c2⟩
theorem Pts.nil (W : World) (p : Option Addr) : Pts W p [] := fun h => by cases h
theorem Pts.row {W : World} {p : Option Addr} {l : List Pt} (h : Pts W p l) (i : Nat) (hi : i < l.length) : ∃ a, p = some a ∧ a.block < W.heap.size ∧
    W.cell? (a.add (i * 3)) = some (.bool (l[i]'hi).u) ∧ W.cell? ⟨(a.add (i * 3)).block, (a.add (i * 3)).off + 1, none⟩ = some (.string (l[i]'hi).key) ∧ W.cell? ⟨(a.add (i * 3)).block, (a.add (i * 3)).off + 2, none⟩ = some (.string (l[i]'hi).raw) := by
  obtain ⟨a, hp, hlt, hc⟩ := h (by omega)
  obtain ⟨c0, c1, c2⟩ := hc i hi
  exact ⟨a, hp, hlt, c0, by rw [add_next _ _ _ (by omega)]; exact c1, by rw [add_next _ _ _ (by omega)]; exact c2⟩
theorem pcells_at (l : List Pt) : ∀ i (h : i < l.length), (cellsOf penc l)[i * 3]? = some (.bool (l[i]'h).u) ∧ (cellsOf penc l)[i * 3 + 1]? = some (.string (l[i]'h).key) ∧ (cellsOf penc l)[i * 3 + 2]? = some (.string (l[i]'h).raw) := by
  induction l with
  | nil => intro i h; cases h
  | cons x t ih =>
    intro i h
    have e : cellsOf penc (x :: t) = .bool x.u :: .string x.key :: .string x.raw :: cellsOf penc t := rfl
    rw [e]
    cases i with
    | zero => exact ⟨rfl, rfl, rfl⟩
    | succ j =>
      have := ih j (by simp at h; omega)
      rw [show (j + 1) * 3 = j * 3 + 1 + 1 + 1 from by omega]
      exact this
theorem OwnL.pts {base : Nat} {L : List Pt} {v : Value} {wr : World} (h : OwnL 64 3 penc base L v wr) : ∃ p cap, v = .slice p L.length cap ∧ L.length ≤ cap ∧ cap ≤ maxLen ∧ Pts wr p L := by
  rcases h.2 with ⟨hv, h0⟩ | ⟨g, cap, cur, hv, hg, hh, hn, hm, hs, ht⟩
  · have : L = [] := List.length_eq_zero_iff.1 h0
    subst this
    exact ⟨none, 0, hv, Nat.le_refl _, Nat.zero_le _, Pts.nil _ _⟩
  · refine ⟨some ⟨g, 0, none⟩, cap, hv, hn, hm, fun _ => ⟨_, rfl, ?_, fun i hi => ?_⟩⟩
    · rcases Nat.lt_or_ge g wr.heap.size with hlt | hge
      · exact hlt
      · rw [Array.getElem?_eq_none hge] at hh; cases hh
    · have hc := World.ownsRow.cells h (g := g) (by rw [hv]; rfl)
      obtain ⟨c0, c1, c2⟩ := pcells_at L i hi
      exact ⟨hc _ _ c0, hc _ _ c1, hc _ _ c2⟩
/-- append of elements that lie in a block of their own. -/
theorem wpl_appm {α : Type} {t e size bytes : Nat} {z : Value} {enc : α → List Value} (E : El t e size bytes z enc) (w : World) {ops : Array Oper} {rest : List Oper} {o : Oper} {a : Act} {Q : Exit → Act → World → Prop} (hg : o.guard = none) (s x : Operand)
    (ho : o.op = .call { callee := .builtin .append, args := #[s, x], argTypes := #[t, t] }) (base : Nat) (L : List α) (v : Value) (hs : a.eval s = v) (h : OwnL e size enc base L v w) (hbase : base ≤ w.heap.size) (ys : List α) (m B : Nat) (cs : Array Value) (hm : ys.length = m) (hm0 : 0 < m)
    (hx : a.eval x = .slice (some ⟨B, 0, none⟩) m m) (hB : w.heap[B]? = some (.cells cs e (0, 0))) (hcs : cs.toList = cellsOf enc ys) (hlen : (L.length + m) * bytes ≤ 140737488355328) (hlen' : L.length + m ≤ maxLen)
    (hK : ∀ g cap w', OwnL e size enc base (L ++ ys) (.slice (some ⟨g, 0, none⟩) (L.length + m) cap) w' → w.grownBy w' v.ownBlock → wpList Tryz.prog ops Q rest (a.put o.dst (.slice (some ⟨g, 0, none⟩) (L.length + m) cap)) w') : wpList Tryz.prog ops Q (o :: rest) a w := by
  obtain ⟨i, hi, hz0, hz1, hz2⟩ := E.hi
  refine wpList_append_lies w hg s x t ho base e i z size bytes E.ht hi hz0 hz1 hz2 E.hzs E.hsz v L.length (cellsOf enc L) hs h ⟨B, 0, none⟩ m m (cellsOf enc ys) hx (by rw [cellsOf_len E, hm]) ?_ (fun u hu => ?_) hm0 hlen' hlen hbase _ rfl ?_
  · rw [← hcs]; exact World.news_of_block hB
  · unfold cellsOf at hu; rw [List.mem_flatMap] at hu; obtain ⟨y, _, hy⟩ := hu; exact E.one y u hy
  · intro g cap w' h2 h3 h4 h5
    refine hK _ _ _ ?_ h3
    unfold OwnL; rw [List.length_append, hm, show cellsOf enc (L ++ ys) = cellsOf enc L ++ cellsOf enc ys from by unfold cellsOf; rw [List.flatMap_append]]; exact h2
/-- What Split answers. -/
def EndS (R : List Pt × Nat × Int) (w : World) (e : Ending) (w' : World) : Prop := ∃ p c, e = .returned (.tuple #[.slice p R.1.length c, .int .i64 (R.2.1 : Nat), .int .i64 R.2.2]) ∧ R.1.length ≤ c ∧ c ≤ maxLen ∧ Pts w' p R.1 ∧ Below w.heap.size w w'
theorem step_appm {α : Type} {t e size bytes : Nat} {z : Value} {enc : α → List Value} (E : El t e size bytes z enc) (w : World) {ops : Array Oper} {o : Oper} {a : Act} {K : Act → World → Prop} {Q : Exit → Act → World → Prop} {EE : Prop} (hg : o.guard = none) (s x : Operand)
    (ho : o.op = .call { callee := .builtin .append, args := #[s, x], argTypes := #[t, t] }) (base : Nat) (L : List α) (v : Value) (hs : a.eval s = v) (h : OwnL e size enc base L v w) (hbase : base ≤ w.heap.size) (ys : List α) (m B : Nat) (cs : Array Value) (hm : ys.length = m) (hm0 : 0 < m)
    (hx : a.eval x = .slice (some ⟨B, 0, none⟩) m m) (hB : w.heap[B]? = some (.cells cs e (0, 0))) (hcs : cs.toList = cellsOf enc ys) (hlen : (L.length + m) * bytes ≤ 140737488355328) (hlen' : L.length + m ≤ maxLen)
    (hK : ∀ g cap w', OwnL e size enc base (L ++ ys) (.slice (some ⟨g, 0, none⟩) (L.length + m) cap) w' → w.grownBy w' v.ownBlock → (v.ownBlock = some g ∨ g = w.heap.size) → K (a.put o.dst (.slice (some ⟨g, 0, none⟩) (L.length + m) cap)) w') :
    if Region.wanted o (yielded ops a.tmps) = true then Oper.wp Tryz.prog o a w K Q else EE := by
  obtain ⟨i, hi, hz0, hz1, hz2⟩ := E.hi
  refine step_append_lies w hg s x t ho base e i z size bytes E.ht hi hz0 hz1 hz2 E.hzs E.hsz v L.length (cellsOf enc L) hs h ⟨B, 0, none⟩ m m (cellsOf enc ys) hx (by rw [cellsOf_len E, hm]) ?_ (fun u hu => ?_) hm0 hlen' hlen hbase _ rfl ?_
  · rw [← hcs]; exact World.news_of_block hB
  · unfold cellsOf at hu; rw [List.mem_flatMap] at hu; obtain ⟨y, _, hy⟩ := hu; exact E.one y u hy
  · intro g cap w' h2 h3 h4 h5
    refine hK _ _ _ ?_ h3 h4
    unfold OwnL; rw [List.length_append, hm, show cellsOf enc (L ++ ys) = cellsOf enc L ++ cellsOf enc ys from by unfold cellsOf; rw [List.flatMap_append]]; exact h2
/-- strconv.Itoa writes the numbers up to N, wherever only newer blocks have turned. -/
def ItoaOk (N : Nat) (w : World) : Prop := ∀ (r : Nat) (W : World), r ≤ N → Below w.heap.size w W → Calls Tryz.prog 46 #[.int .i64 (r : Int)] W fun e w' => e = .returned (.string (keyR r)) ∧ Below W.heap.size W w'
theorem ItoaOk.small {N : Nat} (h : N < 100) (w : World) : ItoaOk N w := fun r W hr _ => by
  refine (Tryz.strconv_Itoa_small r (by omega) W).mono ?_
  rintro e w' ⟨rfl, rfl⟩
  exact ⟨rfl, Below.refl _ _⟩
theorem below_grow9 (w : World) (k : Nat) (os : Array Obj) : Below w.heap.size w (Go.Sort.grow (w.drewN k) os) :=
  ⟨rfl, rfl, rfl, by simp [Go.Sort.grow], fun i hi => by simp [Go.Sort.grow, Array.getElem?_append, hi]⟩
theorem itoa_nat (r : Nat) : (⟨(Lib.itoa (r : Int)).toArray⟩ : ByteArray) = keyR r := by
  unfold Lib.itoa keyR bsL
  rw [if_neg (by omega), Int.toNat_natCast]
theorem ItoaOk.of {N : Nat} {w : World} (h : ∀ W, Below w.heap.size w W → Lib.TabIs Tryz.prog W "internal/strconv.uint64pow10" .u64 Lib.pow10Tab) (hN : N ≤ 1000000000000) : ItoaOk N w := fun r W hr hb => by
  refine (Tryz.strconv_Itoa (r : Int) (by omega) (by omega) W (h W hb)).mono ?_
  rintro e w' ⟨rfl, k, os, rfl⟩
  exact ⟨by rw [itoa_nat], below_grow9 W k os⟩
end Go.Proofs.YtphkpokoeaagfaaGreatDoor
namespace Go.Proofs.YtphkpokoeaagfaaGreatDoor
open Go.ChangeShapes Go.WideShapes Go.ChangeAt Go.RowKit
set_option linter.unusedVariables false
set_option linter.unusedSimpArgs false
set_option maxRecDepth 100000

theorem hdM_pos : ∀ (m q : Nat) (r : List UInt8), r.length ≤ m → q ≤ (hdM m q r).1 ∧ (hdM m q r).1 ≤ q + r.length ∧ ((hdM m q r).2.1 ≠ .empty → q + 2 ≤ (hdM m q r).1) := by
  intro m
  induction m with
  | zero => intro q r h; exact ⟨Nat.le_refl _, Nat.le_add_right _ _, fun h => absurd rfl h⟩
  | succ m ih =>
    intro q r h
    unfold hdM
    by_cases hr : r = []
    · rw [if_pos hr]; exact ⟨Nat.le_refl _, Nat.le_add_right _ _, fun h => absurd rfl h⟩
    · rw [if_neg hr]
      have hpos : 0 < r.length := List.length_pos_iff.2 hr
      cases hc : comM r with
      | some n =>
        have hcl := comM_len hc
        have hul := upto_lenD 60 (r.drop n)
        dsimp only
        rw [List.length_drop] at hul
        obtain ⟨h1, h2, h3⟩ := ih (q + n + (upto 60 (r.drop n)).length) ((r.drop n).drop (upto 60 (r.drop n)).length) (by simp only [List.length_drop]; omega)
        rw [List.length_drop, List.length_drop] at h2
        exact ⟨by omega, by omega, fun h => by have := h3 h; omega⟩
      | none =>
        dsimp only
        cases ht : rdT (r.drop 1) with
        | none => exact ⟨Nat.le_refl _, Nat.le_add_right _ _, fun h => absurd rfl h⟩
        | some y =>
          obtain ⟨x, n⟩ := y
          obtain ⟨hn1, hn2, _⟩ := rdT_len ht
          rw [List.length_drop] at hn2
          have hul := upto_lenD 60 (r.drop n)
          rw [List.length_drop] at hul
          dsimp only
          split
          · split
            · exact ⟨by show q ≤ q + n; omega, by show q + n ≤ _; omega, fun _ => by show q + 2 ≤ q + n; omega⟩
            · exact ⟨Nat.le_refl _, Nat.le_add_right _ _, fun h => absurd rfl h⟩
          · obtain ⟨h1, h2, h3⟩ := ih (q + n + (upto 60 (r.drop n)).length) ((r.drop n).drop (upto 60 (r.drop n)).length) (by simp only [List.length_drop]; omega)
            rw [List.length_drop, List.length_drop] at h2
            exact ⟨by omega, by omega, fun h => by have := h3 h; omega⟩
theorem nxB_pos (p : Nat) (s : List UInt8) : p ≤ (nxB p s).1 ∧ (nxB p s).1 ≤ p + s.length ∧ ((nxB p s).2.1 ≠ .empty → p + 2 ≤ (nxB p s).1) := by
  unfold nxB hdK
  have hul := upto_lenD 60 s
  obtain ⟨h1, h2, h3⟩ := hdM_pos _ (p + (upto 60 s).length) (s.drop (upto 60 s).length) (Nat.le_refl _)
  rw [List.length_drop] at h2
  exact ⟨by omega, by rw [List.length_drop]; omega, fun h => by have := h3 h; omega⟩
theorem hdM_name : ∀ (m q : Nat) (r : List UInt8), (hdM m q r).2.1.size ≤ 1024 := by
  intro m
  induction m with
  | zero => intro q r; exact Nat.zero_le _
  | succ m ih =>
    intro q r
    unfold hdM
    split
    · exact Nat.zero_le _
    · cases hc : comM r with
      | some n => exact ih _ _
      | none =>
        dsimp only
        cases ht : rdT (r.drop 1) with
        | none => exact Nat.zero_le _
        | some y =>
          obtain ⟨x, n⟩ := y
          obtain ⟨_, _, hok⟩ := rdT_len ht
          dsimp only
          split
          · rename_i hb
            split
            · show (nameB x.t).size ≤ 1024
              unfold blk blkN at hb
              rw [decide_eq_true_eq] at hb
              rcases hb with h | h | h | h | h <;> rw [h] <;> decide
            · exact Nat.zero_le _
          · exact ih _ _
theorem nxB_name (p : Nat) (s : List UInt8) : (nxB p s).2.1.size ≤ 1024 := hdM_name _ _ _
theorem ruC_pos (p sz : Nat) (c : List UInt8 × List UInt8 × Bool) : p ≤ (ruC p sz c).2.2.2 ∧ (ruC p sz c).2.2.2 ≤ p + c.1.length := by
  unfold ruC
  split
  · split
    · exact ⟨by show p ≤ p + _; omega, Nat.le_refl _⟩
    · exact ⟨Nat.le_refl _, by show p ≤ _; omega⟩
  · exact ⟨Nat.le_refl _, by show p ≤ _; omega⟩
theorem ruM_pos (nm : ByteArray) (p : Nat) (s : ByteArray) (hp : p ≤ s.size) : p ≤ (ruM nm p s).2.2.2 ∧ (ruM nm p s).2.2.2 ≤ s.size := by
  unfold ruM
  have h1 := ruC_pos p s.size (Lib.cut (s.data.toList.drop p) (clB nm).data.toList)
  have h2 := cut_len (s.data.toList.drop p) (clB nm).data.toList
  rw [List.length_drop, ll_size] at h2
  exact ⟨h1.1, by omega⟩
/-- Where the next block is looked for, behind a unit. -/
def behB (nm : ByteArray) (D : ByteArray) (q : Nat) : Nat := if hasP (D.data.toList.drop q) (clB nm).data.toList = true then q + (clB nm).size else q
theorem behB_pos (nm D : ByteArray) (q : Nat) (hq : q ≤ D.size) : q ≤ behB nm D q ∧ behB nm D q ≤ D.size := by
  unfold behB
  split
  · rename_i h
    unfold hasP Lib.hasPrefix at h
    rw [List.isPrefixOf_iff_prefix] at h
    have := h.length_le
    rw [List.length_drop, ll_size, ll_size] at this
    omega
  · exact ⟨Nat.le_refl _, hq⟩
/-- The parts of a document from p on. -/
def splM (D : ByteArray) : Nat → List Pt → Nat → Nat → Nat → List Pt × Nat × Int
  | 0, _, _, p, _ => ([], p, 2)
  | m + 1, ps, sk, p, key =>
    if (nxB p (D.data.toList.drop p)).2.2 = false then ([], (nxB p (D.data.toList.drop p)).1, 2)
    else if (nxB p (D.data.toList.drop p)).2.1 = .empty then (ps ++ [⟨false, .empty, D.extract sk (nxB p (D.data.toList.drop p)).1⟩], 0, 0)
    else if (ruM (nxB p (D.data.toList.drop p)).2.1 (nxB p (D.data.toList.drop p)).1 D).2.2.1 ≠ 0 then ([], (ruM (nxB p (D.data.toList.drop p)).2.1 (nxB p (D.data.toList.drop p)).1 D).2.1, (ruM (nxB p (D.data.toList.drop p)).2.1 (nxB p (D.data.toList.drop p)).1 D).2.2.1)
    else splM D m (ps ++ [⟨false, .empty, D.extract sk (nxB p (D.data.toList.drop p)).1⟩, ⟨true, keyR key, (ruM (nxB p (D.data.toList.drop p)).2.1 (nxB p (D.data.toList.drop p)).1 D).1⟩]) (ruM (nxB p (D.data.toList.drop p)).2.1 (nxB p (D.data.toList.drop p)).1 D).2.2.2 (behB (nxB p (D.data.toList.drop p)).2.1 D (ruM (nxB p (D.data.toList.drop p)).2.1 (nxB p (D.data.toList.drop p)).1 D).2.2.2) (key + 1)
theorem splM_pos {D : ByteArray} {p : Nat} (hp : p ≤ D.size) (hn : (nxB p (D.data.toList.drop p)).2.1 ≠ .empty) : p + 2 ≤ behB (nxB p (D.data.toList.drop p)).2.1 D (ruM (nxB p (D.data.toList.drop p)).2.1 (nxB p (D.data.toList.drop p)).1 D).2.2.2 ∧ behB (nxB p (D.data.toList.drop p)).2.1 D (ruM (nxB p (D.data.toList.drop p)).2.1 (nxB p (D.data.toList.drop p)).1 D).2.2.2 ≤ D.size := by
  obtain ⟨h1, h2, h3⟩ := nxB_pos p (D.data.toList.drop p)
  rw [List.length_drop, ll_size] at h2
  have h4 := h3 hn
  have h5 := ruM_pos (nxB p (D.data.toList.drop p)).2.1 (nxB p (D.data.toList.drop p)).1 D (by omega)
  have h6 := behB_pos (nxB p (D.data.toList.drop p)).2.1 D _ h5.2
  exact ⟨by omega, h6.2⟩
theorem splM_fuel (D : ByteArray) : ∀ m m' ps sk p key, p ≤ D.size → D.size - p < m → D.size - p < m' → splM D m ps sk p key = splM D m' ps sk p key := by
  intro m
  induction m with
  | zero => intro m' ps sk p key _ h; omega
  | succ m ih =>
    intro m' ps sk p key hp h h'
    cases m' with
    | zero => omega
    | succ m' =>
      unfold splM
      split
      · rfl
      · split
        · rfl
        · rename_i hn
          split
          · rfl
          · have := splM_pos hp hn
            exact ih _ _ _ _ _ this.2 (by omega) (by omega)
def splN (ps : List Pt) (sk p key : Nat) (D : ByteArray) : List Pt × Nat × Int := splM D (D.size + 1 - p) ps sk p key
def splB (D : ByteArray) : List Pt × Nat × Int := if 65536 < D.size then ([], 0, 3) else splN [] 0 0 1 D
section
variable {D : ByteArray} {ps : List Pt} {sk p key q : Nat} {nm : ByteArray} {ok : Bool}
theorem splN_bad (hp : p ≤ D.size) (hx : nxB p (D.data.toList.drop p) = (q, nm, false)) : splN ps sk p key D = ([], q, 2) := by
  unfold splN
  rw [show D.size + 1 - p = (D.size - p) + 1 by omega]
  unfold splM
  rw [hx]; rfl
theorem splN_end (hp : p ≤ D.size) (hx : nxB p (D.data.toList.drop p) = (q, .empty, true)) : splN ps sk p key D = (ps ++ [⟨false, .empty, D.extract sk q⟩], 0, 0) := by
  unfold splN
  rw [show D.size + 1 - p = (D.size - p) + 1 by omega]
  unfold splM
  rw [hx]
  dsimp only
  rw [if_neg (by decide), if_pos rfl]
theorem splN_err (hp : p ≤ D.size) (hx : nxB p (D.data.toList.drop p) = (q, nm, true)) (hn : nm ≠ .empty) (hr : (ruM nm q D).2.2.1 ≠ 0) : splN ps sk p key D = ([], (ruM nm q D).2.1, (ruM nm q D).2.2.1) := by
  unfold splN
  rw [show D.size + 1 - p = (D.size - p) + 1 by omega]
  unfold splM
  rw [hx]
  dsimp only
  rw [if_neg (by decide), if_neg hn, if_pos hr]
theorem splN_more (hp : p ≤ D.size) (hx : nxB p (D.data.toList.drop p) = (q, nm, true)) (hn : nm ≠ .empty) (hr : (ruM nm q D).2.2.1 = 0) : splN ps sk p key D = splN (ps ++ [⟨false, .empty, D.extract sk q⟩, ⟨true, keyR key, (ruM nm q D).1⟩]) (ruM nm q D).2.2.2 (behB nm D (ruM nm q D).2.2.2) (key + 1) D := by
  have h0 := splM_pos hp (by rw [hx]; exact hn)
  rw [hx] at h0
  dsimp only at h0
  unfold splN
  rw [show D.size + 1 - p = (D.size - p) + 1 by omega]
  conv => lhs; unfold splM
  rw [hx]
  dsimp only
  rw [if_neg (by decide), if_neg hn, if_neg (by rw [hr]; simp)]
  exact splM_fuel D _ _ _ _ _ _ h0.2 (by omega) (by omega)
end
end Go.Proofs.YtphkpokoeaagfaaGreatDoor
namespace Go.Proofs.YtphkpokoeaagfaaGreatDoor
open Go.ChangeShapes Go.WideShapes Go.ChangeAt Go.RowKit
set_option linter.unusedVariables false
set_option linter.unusedSimpArgs false
set_option maxRecDepth 100000

/-- What holds at the loop's head. -/
structure SpL (s : ByteArray) (R : List Pt × Nat × Int) (w : World) (p sk key : Nat) (ps : List Pt) (vp : Value) (W : World) : Prop where
  own : OwnL 64 3 penc (w.heap.size + 1) ps vp W
  scn : Scn W w.heap.size s p
  bel : Below w.heap.size w W
  eqn : splN ps sk p key s = R
  le : p ≤ s.size
  skl : sk ≤ p
  cnt : key ≤ p + 1
  few : ps.length ≤ 2 * p
theorem EndS.no {R : List Pt × Nat × Int} {w w' : World} {q : Nat} {z : Int} (h : R = ([], q, z)) (hb : Below w.heap.size w w') : EndS R w (.returned (.tuple #[.slice none 0 0, .int .i64 q, .int .i64 z])) w' :=
  ⟨none, 0, by rw [h]; rfl, by rw [h]; exact Nat.le_refl _, Nat.zero_le _, by rw [h]; exact Pts.nil _ _, hb⟩
theorem cells_part {W : World} {B : Nat} {u : Bool} {k r : ByteArray} (h : W.heap[B]? = some (.cells #[.bool u, .string k, .string r] 64 (0, 0))) : W.cell? ⟨B, 0, none⟩ = some (.bool u) ∧ W.cell? ⟨B, 1, none⟩ = some (.string k) ∧ W.cell? ⟨B, 2, none⟩ = some (.string r) ∧ W.frozen? ⟨B, 0, none⟩ = false ∧ W.frozen? ⟨B, 1, none⟩ = false ∧ W.frozen? ⟨B, 2, none⟩ = false :=
  ⟨by rw [Lib.cell_of_heap h]; rfl, by rw [Lib.cell_of_heap h]; rfl, by rw [Lib.cell_of_heap h]; rfl, Lib.frozen_of_heap h 0, Lib.frozen_of_heap h 1, Lib.frozen_of_heap h 2⟩
set_option maxHeartbeats 6400000 in
theorem split_any (s : ByteArray) (w : World) (hMx : Mx w) (hs : s.size ≤ 1000000000) (hIt : ItoaOk (s.size + 1) w) : Calls Tryz.prog 23 #[.string s] w (EndS (splB s) w) := by
  by_cases hbig : 65536 < s.size
  case pos =>
    have HX := Lib.hid (show splB s = ([], 0, 3) from if_pos hbig)
    have hbI : (65536 : Int) < (s.size : Int) := by omega
    go_enter Tryz.func23, Tryz.ntmps23
    go_wp2_with fail
    go_ret3
    exact EndS.no HX.out (Below.refl _ _)
  obtain ⟨R, hR⟩ : ∃ R, splB s = R := ⟨_, rfl⟩
  have hsp : splN [] 0 0 1 s = R := by rw [← hR]; exact (if_neg hbig).symm
  have hsz : s.size ≤ 65536 := by omega
  rw [hR]
  have HM := Lib.hid hMx
  have hlM := hMx.lt
  have HIT := Lib.hid hIt
  have HSB := Lib.hid (fun p W (h : Scn W w.heap.size s p) (hM : Mx W) (hp : p ≤ s.size) => skiptoblock_any w.heap.size p s W h hM (by omega) hs hp)
  have HRU := Lib.hid (fun p nm W (h : Scn W w.heap.size s p) (hM : Mx W) (hp : p ≤ s.size) (hn : ByteArray.size nm ≤ 100000) => readunit_any w.heap.size p s nm W h hM (by omega) hs hp hn)
  have HSK := Lib.hid (fun p x W (h : Scn W w.heap.size s p) (hp : p ≤ s.size) (hx : ByteArray.size x ≤ 100000) => skip_any w.heap.size p s x W h hs hp hx)
  have HCL := Lib.hid (fun (t : ByteArray) W (ht : t.size ≤ 1000000000) => show Calls Tryz.prog 49 #[.string t] W (fun e w' => e = .returned (.string (clB t)) ∧ W = w') from closing_any t W ht)
  have hS0 := heap_alloc_new w (.cells #[.string s, .int .i64 ((0 : Nat) : Int)] 88)
  have hB0 := blw (Below.refl w.heap.size w) (.cells #[.string s, .int .i64 ((0 : Nat) : Int)] 88)
  have hbig' : ¬ (65536 : Int) < (s.size : Int) := by omega
  have hrel : SpL s R w 0 0 1 [] (.slice none 0 0) (w.alloc (.cells #[.string s, .int .i64 ((0 : Nat) : Int)] 88)) :=
    ⟨OwnL.nil _ _, hS0, hB0, hsp, Nat.zero_le _, Nat.le_refl _, Nat.le_refl _, Nat.le_refl _⟩
  have HREL := Lib.hid hrel
  clear hR hs hsp hMx hIt hS0 hB0 hrel hlM
  go_enter Tryz.func23, Tryz.ntmps23
  go_upto_region 4 with fail
  change Code.wp _ _ _ _ (w.alloc (.cells #[.string s, .int .i64 ((0 : Nat) : Int)] 88))
  generalize w.alloc (.cells #[.string s, .int .i64 ((0 : Nat) : Int)] 88) = w1 at *
  go_wp2_with fail
  go_loopw [2, 3, 4, 6, 7] (fun vp va ve vk vr wr => ∃ (p sk key : Nat) (ps : List Pt), vk = .int .i64 sk ∧ vr = .int .i64 key ∧ Hid (SpL s R w p sk key ps vp wr)) (fun _ _ _ _ _ wr => s.size - (intOf ((wr.cell? ⟨w.heap.size, 1, none⟩).getD (.int .i64 0))).toNat)
  case atStart => exact ⟨0, 0, 1, [], rfl, rfl, HREL⟩
  case round =>
    obtain ⟨p, sk, key, ps, rfl, rfl, HR⟩ := hrel
    obtain ⟨pv, cv, rfl, _, _, _⟩ := HR.out.own.pts
    have HM0 := Lib.hid HR.out.scn.cells.2.1
    have hle := HR.out.le
    have hMr := HM.out.same (HR.out.bel.block _ HM.out.lt)
    have HC := Lib.hid (HSB.out p wr HR.out.scn hMr hle)
    obtain ⟨v, hv⟩ : ∃ v, nxB p (s.data.toList.drop p) = v := ⟨_, rfl⟩
    have hps := nxB_pos p (s.data.toList.drop p)
    have hnm := nxB_name p (s.data.toList.drop p)
    rw [List.length_drop, ll_size] at hps
    rw [hv] at HC hps hnm
    have HV := Lib.hid hv
    clear hv HREL
    obtain ⟨q, nm, ok⟩ := v
    obtain ⟨hq1, hq2, hq3⟩ := hps
    dsimp only at hq1 hq2 hq3 hnm
    have HQ3 := Lib.hid hq3
    clear hq3
    go_wp2_with fail
    refine HC.out.mono ?_; rintro e w2 ⟨rfl, hS2, hO2⟩
    have hS2 : Scn w2 w.heap.size s q := hS2
    have hB2 := HR.out.bel.trans (hO2.below w.heap.size HR.out.bel.size (fun i hi => by have hi : i = w.heap.size := hi; omega))
    have hown2 := HR.out.own.keep hO2.size (fun j hj hjl => hO2.block j hjl (fun e => by have e : j = w.heap.size := e; omega))
    obtain ⟨_, y1, y2⟩ := hS2.cells
    have HO2 := Lib.hid hown2
    have HB2 := Lib.hid hB2
    have HS2 := Lib.hid hS2
    clear hown2 hB2 hS2 hO2 HC hMr
    have hqs : q ≤ s.size := by omega
    cases ok with
    | false =>
      have HX := Lib.hid (show R = ([], q, 2) from HR.out.eqn.symm.trans (splN_bad hle HV.out))
      go_wp2_with fail
      go_quiet (fail)
      all_goals
        (go_wp2_with fail
         (try simp only [Exit.inBlock, Exit.then])
         go_ret3
         exact EndS.no HX.out (HB2.out.trans ((below_qN _ _).mono (HB2.out.size))))
    | true =>
    have k0 : (0 : Int) ≤ (sk : Int) := by omega
    have hskl := HR.out.skl
    have k1 : (sk : Int) ≤ (q : Int) := by omega
    have k2 : (q : Int) ≤ (s.size : Int) := by omega
    have hcnt := HR.out.cnt
    have hfew := HR.out.few
    obtain ⟨X, hX⟩ : ∃ X, s.extract sk q = X := ⟨_, rfl⟩
    have HX0 := Lib.hid hX
    by_cases hn : nm = ⟨#[]⟩
    · subst hn
      have HX := Lib.hid (show R = (ps ++ [⟨false, .empty, X⟩], 0, 0) from by rw [← HX0.out]; exact HR.out.eqn.symm.trans (splN_end hle HV.out))
      have HOW := Lib.hid ((HO2.out.call (blw (Below.refl _ _) (.cells #[.bool false, .string ⟨#[]⟩, .string X] 64))).call (blw (Below.refl _ _) (.cells #[.bool false, .string ⟨#[]⟩, .string X] 64)))
      have hsz5 : w.heap.size + 1 ≤ ((w2.alloc (.cells #[.bool false, .string ⟨#[]⟩, .string X] 64)).alloc (.cells #[.bool false, .string ⟨#[]⟩, .string X] 64)).heap.size := by have := HS2.out.lt; simp; omega
      have HB5 := Lib.hid (blw (blw HB2.out (.cells #[.bool false, .string ⟨#[]⟩, .string X] 64)) (.cells #[.bool false, .string ⟨#[]⟩, .string X] 64))
      clear HQ3
      go_upto_region 11 with fail
      clear hX
      change Code.wp _ _ _ _ (w2.alloc (.cells #[.bool false, .string ⟨#[]⟩, .string X] 64))
      have hP := heap_alloc_new w2 (.cells #[.bool false, .string ⟨#[]⟩, .string X] 64)
      obtain ⟨p0, p1, p2, _, _, _⟩ := cells_part hP
      have HSZ := Lib.hid (show (w2.alloc (.cells #[.bool false, .string ⟨#[]⟩, .string X] 64)).heap.size = w2.heap.size + 1 by simp)
      generalize w2.alloc (.cells #[.bool false, .string ⟨#[]⟩, .string X] 64) = w3 at *
      go_wp2_with (at_builtin; refine wpl_appm eP _ rfl _ _ rfl (w.heap.size + 1) ps _ rfl HOW.out hsz5 [⟨false, .empty, X⟩] 1 w3.heap.size _ rfl (by omega) rfl (heap_alloc_new w3 _) rfl (by omega) (by unfold maxLen; omega) ?_; intro g cap w6 hown hgr)
      (try simp only [Exit.inBlock, Exit.then])
      go_ret3
      have hb6 := HB5.out.grown hgr HB5.out.size (fun j hj => by have := (HOW.out.lt _ hj).1; omega)
      obtain ⟨p6, c6, e6, h6a, h6b, h6p⟩ := hown.pts
      injection e6 with e7 e8 e9
      subst e7; subst e9
      exact ⟨some ⟨g, 0, none⟩, cap, by rw [HX.out, List.length_append]; rfl, by rw [HX.out]; exact h6a, h6b, by rw [HX.out]; exact h6p, hb6⟩
    · have hn' : nm ≠ .empty := hn
      have hne : (nm.toList == []) = false := lst_ne [] hn
      obtain ⟨rv, hrv⟩ : ∃ rv, ruM nm q s = rv := ⟨_, rfl⟩
      have hrp := ruM_pos nm q s hqs
      have hbp := behB_pos nm s (ruM nm q s).2.2.2 hrp.2
      have hru := fun W (h1 : Scn W w.heap.size s q) (h2 : Mx W) => HRU.out q nm W h1 h2 hqs (by omega)
      have herr := fun h => splN_err (ps := ps) (sk := sk) (key := key) hle HV.out hn' h
      have hmor := fun h => splN_more (ps := ps) (sk := sk) (key := key) hle HV.out hn' h
      rw [HX0.out] at hmor
      rw [hrv] at hrp hbp hru herr hmor
      clear hrv
      obtain ⟨RU1, RU2, RU3, RU4⟩ := rv
      dsimp only at hrp hbp herr hmor
      unfold EndRu at hru
      dsimp only at hru
      rw [HR.out.eqn] at herr hmor
      have HER := Lib.hid herr; have HMR := Lib.hid hmor; have HRU2 := Lib.hid hru; have HP2 := Lib.hid (HQ3.out hn')
      clear herr hmor hru HQ3 hX hn hn'
      have hX : s.extract sk q = X := HX0.out
      go_upto_region 13 with fail
      clear hX
      change Code.wp _ _ _ _ (w2.alloc (.cells #[.bool false, .string ⟨#[]⟩, .string X] 64))
      have hP3 := heap_alloc_new w2 (.cells #[.bool false, .string ⟨#[]⟩, .string X] 64)
      have hS3 := HS2.out.call (blw (Below.refl _ _) (.cells #[.bool false, .string ⟨#[]⟩, .string X] 64))
      have hb3 := blw HB2.out (.cells #[.bool false, .string ⟨#[]⟩, .string X] 64)
      have hO3 : OnB w.heap.size w2 (w2.alloc (.cells #[.bool false, .string ⟨#[]⟩, .string X] 64)) := Only.of_below (blw (Below.refl _ _) (.cells #[.bool false, .string ⟨#[]⟩, .string X] 64))
      have hlt2 := HS2.out.lt
      generalize hBP : w2.heap.size = BP at *
      generalize w2.alloc (.cells #[.bool false, .string ⟨#[]⟩, .string X] 64) = w3 at *
      go_wp2_with fail
      refine (HIT.out key w3 (by omega) hb3).mono ?_; rintro e w4 ⟨rfl, hb4⟩
      have hP4 := (hb4.block _ (Array.getElem?_eq_some_iff.1 hP3).1).trans hP3
      have hP5 := (Lib.alloc_old w4 (.cells #[.bool true, .string (keyR key), .string ⟨#[]⟩] 64) _ (Array.getElem?_eq_some_iff.1 hP4).1).trans hP4
      have hU5 := heap_alloc_new w4 (.cells #[.bool true, .string (keyR key), .string ⟨#[]⟩] 64)
      have hS5 := (hS3.call hb4).call (blw (Below.refl _ _) (.cells #[.bool true, .string (keyR key), .string ⟨#[]⟩] 64))
      have hb5 := blw (BelowOn hb3 hb4) (.cells #[.bool true, .string (keyR key), .string ⟨#[]⟩] 64)
      have hO5 := (hO3.trans (Only.of_below hb4)).alloc (.cells #[.bool true, .string (keyR key), .string ⟨#[]⟩] 64)
      have hPU : BP < w4.heap.size := (Array.getElem?_eq_some_iff.1 hP4).1
      have hM5 := HM.out.same (hb5.block _ HM.out.lt)
      clear hP3 hS3 hb3 hO3 hb4 hP4
      go_upto_region 14 with fail
      change Code.wp _ _ _ _ (w4.alloc (.cells #[.bool true, .string (keyR key), .string ⟨#[]⟩] 64))
      generalize w4.heap.size = BU at *
      generalize w4.alloc (.cells #[.bool true, .string (keyR key), .string ⟨#[]⟩] 64) = w5 at *
      go_wp2_with fail
      refine (HRU2.out w5 hS5 hM5).mono ?_; rintro e w6 ⟨rfl, hS6, hO6⟩
      have hP6 := (hO6.block _ (Array.getElem?_eq_some_iff.1 hP5).1 (fun e => by have e : BP = w.heap.size := e; omega)).trans hP5
      have hU6 := (hO6.block _ (Array.getElem?_eq_some_iff.1 hU5).1 (fun e => by have e : BU = w.heap.size := e; omega)).trans hU5
      have hb6 := hb5.trans (hO6.below w.heap.size hb5.size (fun i hi => by have hi : i = w.heap.size := hi; omega))
      have hQ6 := hO5.trans hO6
      have hU7 := setCell_heap w6 BU 2 _ _ (.string RU1) hU6
      have hU7 : (w6.setCell ⟨BU, 2, none⟩ (.string RU1)).heap[BU]? = some (.cells #[.bool true, .string (keyR key), .string RU1] 64 (0, 0)) := hU7
      have hP7 := (Below.heap_setCell w6 ⟨BU, 2, none⟩ (.string RU1) BP (fun e => by have e : BP = BU := e; omega)).trans hP6
      have hS7 := hS6.same (Below.heap_setCell w6 ⟨BU, 2, none⟩ (.string RU1) w.heap.size (fun e => by have e : w.heap.size = BU := e; omega))
      have hQ7 := hQ6.setNew (p := ⟨BU, 2, none⟩) (by show w2.heap.size ≤ BU; omega) (.string RU1)
      have hb7 := ((Only.of_below (S := fun i => False) hb6).setNew (p := ⟨BU, 2, none⟩) (by show w.heap.size ≤ BU; omega) (.string RU1)).below w.heap.size (Nat.le_refl _) (fun i hi => hi.elim)
      obtain ⟨u0, u1, u2', uf0, uf1, uf2⟩ := cells_part hU6
      go_upto_region 15 with fail
      change Code.wp _ _ _ _ (w6.setCell ⟨BU, 2, none⟩ (.string RU1))
      clear u0 u1 u2' uf0 uf1 uf2 hP6 hU6 hb6 hQ6 hS6 hO6 hP5 hU5 hb5 hO5 hS5 hM5
      generalize w6.setCell ⟨BU, 2, none⟩ (.string RU1) = w7 at *
      by_cases h3 : RU3 = 0
      · subst h3
        have HX := Lib.hid (HMR.out rfl)
        have hown7 := HO2.out.keep hQ7.size (fun j hj hjl => hQ7.block j hjl (fun e => by have e : j = w.heap.size := e; omega))
        obtain ⟨p0, p1, p2, _, _, _⟩ := cells_part hP7
        obtain ⟨u0, u1, u2', _, _, _⟩ := cells_part hU7
        have HOW := Lib.hid (hown7.call (blw (Below.refl _ _) (.cells #[.bool false, .string ⟨#[]⟩, .string X, .bool true, .string (keyR key), .string RU1] 64)))
        have hsz8 : w.heap.size + 1 ≤ (w7.alloc (.cells #[.bool false, .string ⟨#[]⟩, .string X, .bool true, .string (keyR key), .string RU1] 64)).heap.size := by have := hS7.lt; simp; omega
        have HB8 := Lib.hid (blw hb7 (.cells #[.bool false, .string ⟨#[]⟩, .string X, .bool true, .string (keyR key), .string RU1] 64))
        have HS8 := Lib.hid (hS7.call (blw (Below.refl _ _) (.cells #[.bool false, .string ⟨#[]⟩, .string X, .bool true, .string (keyR key), .string RU1] 64)))
        clear HER HMR hown7 hb7 hS7 hQ7
        go_upto_region 18 with (at_builtin; refine wpl_appm eP _ rfl _ _ rfl (w.heap.size + 1) ps _ rfl HOW.out hsz8 [⟨false, .empty, X⟩, ⟨true, keyR key, RU1⟩] 2 w7.heap.size _ rfl (by omega) rfl (heap_alloc_new w7 _) rfl (by omega) (by unfold maxLen; omega) ?_; intro g cap w8 hown8 hgr8)
        have hb8 := HB8.out.grown hgr8 HB8.out.size (fun j hj => by have := (HOW.out.lt _ hj).1; omega)
        have hS8 := HS8.out.same (hgr8.block _ HS8.out.lt (fun e => by have := (HOW.out.lt _ e.symm).1; omega))
        clear p0 p1 p2 u0 u1 u2' hgr8 HOW HB8 HS8 hsz8 hP7 hU7
        obtain ⟨_, y1, y2⟩ := hS8.cells
        go_wp2_with fail
        refine (HCL.out nm w8 (by omega)).mono ?_; rintro e w9 ⟨rfl, rfl⟩
        have hcs := clB_size nm
        go_wp2_with fail
        refine (HSK.out RU4 (clB nm) w8 hS8 hrp.2 (by omega)).mono ?_; rintro e w10 ⟨rfl, hS10, hO10⟩
        have hrel : SpL s R w (behB nm s RU4) RU4 (key + 1) (ps ++ [⟨false, .empty, X⟩, ⟨true, keyR key, RU1⟩]) (.slice (some ⟨g, 0, none⟩) (ps.length + 2) cap) w10 :=
          ⟨hown8.keep hO10.size (fun j hj hjl => hO10.block j hjl (fun e => by have e : j = w.heap.size := e; omega)), hS10, hb8.trans (hO10.below w.heap.size hb8.size (fun i hi => by have hi : i = w.heap.size := hi; omega)), HX.out.symm, hbp.2, hbp.1, (by have := HP2.out; have := hbp.1; have := hrp.1; omega), (by have := HP2.out; have := hbp.1; have := hrp.1; rw [List.length_append]; simp; omega)⟩
        have HREL := Lib.hid hrel
        clear hrel hown8 hb8 hS8 hS10 hO10 y1 y2 HX
        go_wp2_with fail
        go_roundw
        case rel => exact ⟨behB nm s RU4, RU4, key + 1, _, rfl, by go_num, HREL⟩
        case measure =>
          rw [HM0.out, HREL.out.scn.cells.2.1]
          have := HP2.out; have := hbp.1; have := hrp.1
          simp [intOf]; omega
      · have HX := Lib.hid (show R = ([], RU2, RU3) from HER.out h3)
        have h30 : (RU3 == 0) = false := by simpa using h3
        clear HER HMR
        go_wp2_with fail
        (try simp only [Exit.inBlock, Exit.then])
        go_ret3
        exact EndS.no HX.out hb7
end Go.Proofs.YtphkpokoeaagfaaGreatDoor
namespace Go.Proofs.YtphkpokoeaagfaaGreatDoor
open Go.ChangeShapes Go.WideShapes Go.ChangeAt Go.RowKit
set_option linter.unusedVariables false
set_option linter.unusedSimpArgs false
set_option maxRecDepth 100000

def xA : ByteArray := ⟨#[97, 38, 108, 116, 59, 60, 98, 62, 99, 60, 47, 98, 62, 123, 110, 125]⟩
def xB : ByteArray := ⟨#[60, 98, 62, 120, 60, 47, 105, 62]⟩
def xC : ByteArray := ⟨#[60, 112, 62, 97, 60, 47, 112, 62]⟩
theorem decA : dcM xA.data.toList = ([⟨1, ⟨#[97, 60]⟩, 0⟩, ⟨2, ⟨#[98]⟩, 1⟩, ⟨1, ⟨#[99]⟩, 0⟩, ⟨3, ⟨#[98]⟩, 1⟩, ⟨5, ⟨#[110]⟩, 0⟩], [0, 1, 5, 8, 9, 13, 16], 0, 0) := by kernel_rfl
theorem decB : dcM xB.data.toList = ([], [], 4, 7) := by kernel_rfl
theorem key1 : keyR 1 = ⟨#[49]⟩ := by unfold keyR; rw [Lib.decDigits_one (by omega)]; rfl
theorem splC : splB xC = ([⟨false, .empty, ⟨#[60, 112, 62]⟩⟩, ⟨true, keyR 1, ⟨#[97]⟩⟩, ⟨false, .empty, ⟨#[60, 47, 112, 62]⟩⟩], 0, 0) := by kernel_rfl
set_option maxHeartbeats 1600000 in
theorem known_any (w : World) (hM : Mx w) : Calls Tryz.prog 7 #[] w fun e w' => e = .returned (.bool true) ∧ Below w.heap.size w w' := by
  have hA := fun W (h : Mx W) => decode_any xA W h (by decide)
  have hB := fun W (h : Mx W) => decode_any xB W h (by decide)
  have hC := fun W (h : Mx W) => split_any xC W h (by decide) (ItoaOk.small (by decide) W)
  rw [decA] at hA
  rw [decB] at hB
  rw [splC] at hC
  unfold EndD at hA hB
  unfold EndS at hC
  dsimp only at hA hB hC
  have HA := Lib.hid hA; have HB := Lib.hid hB; have HC := Lib.hid hC
  clear hA hB hC
  go_enter Tryz.func7, Tryz.ntmps7
  go_wp2_with fail
  refine (HA.out _ hM).mono ?_; rintro e w1 ⟨pA, cA, rfl, a1, a2, iA, hb1⟩
  have hM1 := hM.call hb1
  go_wp2_with fail
  refine (HB.out _ hM1).mono ?_; rintro e w2 ⟨pB, cB, rfl, b1, b2, iB, hb2⟩
  have hM2 := hM1.call (hb2)
  go_wp2_with fail
  refine (HC.out _ hM2).mono ?_; rintro e w3 ⟨pC, cC, rfl, c1, c2, iC, hb3⟩
  have iA3 := (iA.call hb2).call hb3
  obtain ⟨a, rfl, hlt, k0, k1, k2⟩ := iA3.row 0 (by decide)
  have k1' : w3.cell? ⟨a.block, a.off + 1, none⟩ = some (.string ⟨#[97, 60]⟩) := by
    have := k1
    rw [add_next _ _ _ (by omega)] at this
    unfold Addr.add at this; simpa using this
  clear k0 k1 k2
  obtain ⟨b, rfl, hltb, m0, m1, m2⟩ := iC.row 1 (show 1 < 3 by omega)
  have g2 : w3.cell? ⟨b.block, b.off + 3 + 2, none⟩ = some (.string ⟨#[97]⟩) := by
    have := m2
    unfold Addr.add at this; simpa using this
  clear m0 m1 m2
  have hbl := BelowOn (BelowOn hb1 hb2) hb3
  go_wp2_with fail
  go_ret
  exact ⟨rfl, hbl⟩
theorem made_text {f : List It} (h : MadeOk f) (s : ByteArray) : MadeOk (norm (f ++ [⟨1, s, 0⟩])) := by
  obtain ⟨n, hn⟩ := h.run
  obtain ⟨m, hm⟩ := h.nums
  refine ⟨⟨n, ?_⟩, ⟨m, ?_⟩, noBlk_add h.nb (fun e => by cases e)⟩
  · rw [exp_norm, expI_append, List.map_append]
    have hx : expI [(⟨1, s, 0⟩ : It)] = s.data.toList.map bT := by
      unfold expI
      rw [List.flatMap_cons, List.flatMap_nil, List.append_nil, expX_text rfl]
    rw [hx]
    exact numL_two hn (numL_texts [] n s.data.toList)
  · rw [nums_add, hm]
    exact num_old m ⟨1, s, 0⟩ (.inl rfl)
theorem mk_made (L : List Int) : MadeOk (mk L true true) := frag_m L 0 8
/-- A made fragment with a text behind it. -/
def mkT (L : List Int) (s : ByteArray) : List It := norm (mk L true true ++ [⟨1, s, 0⟩])
theorem mkT_made (L : List Int) (s : ByteArray) : MadeOk (mkT L s) := made_text (mk_made L) s
theorem mkT_err (L : List Int) (s : ByteArray) : errL [] (mkT L s) = 0 := err_text _ _ (mk_ok L true true).e
theorem mkT_valid (L : List Int) (s : ByteArray) (hs : s.size ≤ 200) : valE (mkT L s) = 0 := by
  have h1 := (mk_ok L true true).len
  have h2 := (mk_ok L true true).lenI
  have h3 := norm_len (mk L true true ++ [⟨1, s, 0⟩])
  have h4 := len_norm (mk L true true ++ [⟨1, s, 0⟩])
  rw [List.length_append] at h3
  rw [lenI_snoc] at h4
  have hw : wid ⟨1, s, 0⟩ = s.size := if_pos rfl
  rw [hw] at h4
  simp only [List.length_cons, List.length_nil] at h3
  exact valE_of (by unfold mkT; omega) (by unfold mkT; omega) (mkT_err L s)
theorem mk_valid (L : List Int) : valE (mk L true true) = 0 := by
  have h1 := (mk_ok L true true).len
  have h2 := (mk_ok L true true).lenI
  exact valE_of (by omega) (by omega) (mk_ok L true true).e
theorem any_tags {f : List It} (h : noBlk f) : anyB (tagsL f) = false := by
  refine anyB_no (fun k hk => ?_)
  have hx := mem_tags.1 (List.getElem_mem hk)
  exact h _ hx.1 hx.2
theorem enc_bytes {f : List It} (h : valE f = 0) : (encM f).length ≤ 6000 * 512 := by
  have h1 := enc_len h f.length (Nat.le_refl _)
  rw [List.take_length] at h1
  have := (valE_zero h).1
  omega
theorem dec_made {f : List It} (h : valE f = 0) (hm : MadeOk f) : dcM (encM f) = (f, offs 0 (wsE f), 0, 0) := by
  obtain ⟨h1, h2, h3⟩ := valE_zero h
  exact dec_encM h3 hm h1 h2
set_option maxHeartbeats 1600000 in
theorem rmade_any (p : Option Addr) (cap : Nat) (L : List Int) (w : World) (hL : Ones w (Value.int .i64) p L) (hw : ∀ i (h : i < L.length), (Lit.int .i64 (L[i]'h)).wf = true) (hc : L.length ≤ cap) (hm : cap ≤ maxLen) :
    Calls Tryz.prog 26 #[.slice p L.length cap] w (EndF (mk L true true) w) := by
  have hN := NumsAt.made hL hw hc hm
  have hf := fragment_any w.heap.size p cap L 0 true true 8 8 rfl _ hN (fun h0 a ha => by have := ones_any hL h0 a ha; simp; omega) (by omega) (by omega)
  have HF := Lib.hid hf; clear hf hN
  have hend : ∀ v w2, Below w.heap.size w w2 → OwnL 62 3 ienc w.heap.size (mk L true true) v w2 → EndF (mk L true true) w (.returned v) w2 := fun v w2 h1 h2 => EndI.f ⟨v, rfl, h1, h2⟩
  have HEND := Lib.hid hend; clear hend
  unfold maxLen at hm
  go_enter Tryz.func26, Tryz.ntmps26
  go_wp2_with fail
  refine (HF.out).mono ?_
  rintro e w2 ⟨v, rfl, hg, hN2, hown⟩
  have hb : Below w.heap.size w w2 := (blw (Below.refl w.heap.size w) _).trans (grown_below hg (Nat.le_refl _) (by simp))
  have hown2 : OwnL 62 3 ienc w.heap.size (mk L true true) v w2 := ownsRow_base hown (by simp)
  clear hN2 hown hg
  go_wp2_with fail
  go_ret
  exact HEND.out _ _ hb hown2
end Go.Proofs.YtphkpokoeaagfaaGreatDoor
