/- The reference's Slice. -/
import Derived.Test.YtphkpokoeaagfaaDoorSli
import Derived.Test.YtphkpokoeaagfaaDoorNrm
import Derived.Test.YtphkpokoeaagfaaDoorVal
import Derived.Test.YtphkpokoeaagfaaDoorRnr
namespace Go.Proofs.YtphkpokoeaagfaaDoor
open Go.ChangeShapes Go.WideShapes Go.ChangeAt Go.RowKit
set_option linter.unusedVariables false
set_option maxRecDepth 100000

theorem rslice_no (p : Option Addr) (cap : Nat) (l : List It) (a b : Int) (w : World) (hR : Its w p l) (hc : l.length ≤ cap) (hm : cap ≤ maxLen) (hl : lenI l < 4611686018427387904) (hno : sliceOk l a b = false) :
    Calls Tryd.prog 84 #[.slice p l.length cap, .int .i64 a, .int .i64 b] w (EndSl [] false w) := by
  have hlen := fun w hR => rlength_any p cap l w hR hc hm hl
  have HL := Lib.hid hlen
  by_cases h1 : a < 0
  · have q1 : decide (a < 0) = true := by simpa using h1
    clear hno hlen
    go_enter Tryd.func84, Tryd.ntmps84
    go_wp2_with fail
    go_ret2
    exact ⟨_, rfl, Acc.start _⟩
  have q1 : decide (a < 0) = false := by simpa using h1
  by_cases h2 : b < a
  · have q2 : decide (b < a) = true := by simpa using h2
    clear hno hlen
    go_enter Tryd.func84, Tryd.ntmps84
    go_wp2_with fail
    go_ret2
    exact ⟨_, rfl, Acc.start _⟩
  have q2 : decide (b < a) = false := by simpa using h2
  have h3 : (lenI l : Int) < b := by
    unfold sliceOk at hno
    simp at hno
    exact hno (by omega) (by omega)
  have q3 : decide ((lenI l : Int) < b) = true := by simpa using h3
  clear hno hlen
  go_enter Tryd.func84, Tryd.ntmps84
  go_wp2_with fail
  refine (HL.out _ hR).mono ?_; rintro e w1 ⟨rfl, rfl⟩
  go_wp2_with fail
  go_ret2
  exact ⟨_, rfl, Below.refl _ _, OwnL.nil _ _⟩
set_option maxHeartbeats 3200000 in
theorem rslice_yes (p : Option Addr) (cap : Nat) (l : List It) (a b : Nat) (w : World) (hR : Its w p l) (hO : Oks l) (hc : l.length ≤ cap) (hm : cap ≤ maxLen) (hl : lenI l < 4611686018427387904) (hn : l.length ≤ 4000000000000) (h1 : a ≤ b) (h2 : b ≤ lenI l) :
    Calls Tryd.prog 84 #[.slice p l.length cap, .int .i64 a, .int .i64 b] w (EndSl (slI l 0 a b) true w) := by
  have hlen := fun w hR => rlength_any p cap l w hR hc hm hl
  have HL := Lib.hid hlen
  have q1 : decide ((a : Int) < 0) = false := by simp
  have q2 : decide (b < a) = false := by simpa using h1
  have q3 : decide (lenI l < b) = false := by simpa using h2
  unfold maxLen at hm
  have mixed : Tryd.prog.follows .mixedOrders = true := by kernel_rfl
  clear hlen
  go_enter Tryd.func84, Tryd.ntmps84
  go_wp2_with fail
  refine (HL.out _ hR).mono ?_; rintro e w1 ⟨rfl, rfl⟩
  go_wp2_with fail
  clear q1 q2 q3
  go_loopw [8, 9, 29] (fun v st i wr => ∃ k : Nat, k ≤ l.length ∧ i = .int .i64 k ∧ st = .int .i64 (lenI (l.take k)) ∧ AccI w (slI (l.take k) 0 a b) v wr) (fun _ _ i _ => l.length - (intOf i).toNat)
  case atStart => exact ⟨0, Nat.zero_le _, rfl, rfl, Acc.start _⟩
  case round =>
    obtain ⟨k, hk, rfl, rfl, hA⟩ := hrel
    by_cases hlt : k < l.length
    · obtain ⟨ad, rfl, had, c0, c1, c2⟩ := (hR.call hA.below).row k hlt
      have hk1 := lenI_next l k hlt
      have h3 := lenI_take l (k + 1)
      have hs1 := slI_next l k hlt a b
      have hlen := slI_len (l.take k) 0 a b
      have hok := hO k hlt
      generalize l[k] = x at *
      generalize hm1 : lenI (l.take (k + 1)) = m1 at *
      generalize lenI (l.take k) = m0 at *
      have HM := Lib.hid hm1; clear hm1
      have hL : (slI (l.take k) 0 a b).length ≤ 4000000000000 := by simp at hlen; omega
      generalize slI (l.take k) 0 a b = out at *
      clear hlen
      have hA1 := hA.alloc (.cells #[.int .i64 x.k, .string x.t, .int .i64 x.id] 40)
      by_cases hk' : x.k = 1
      · have q : (x.k != 1) = false := by simp [hk']
        have hw : wid x = x.t.size := if_pos hk'
        rw [hw] at hk1
        have ht := hok.t
        by_cases hin : max a m0 < min b (m0 + x.t.size)
        · have hs2 : oneI x m0 a b = [⟨1, x.t.extract (max a m0 - m0) (min b (m0 + x.t.size) - m0), x.id⟩] := by unfold oneI cutI; rw [hw, if_pos hin, if_pos hk', hk']
          rw [hs2] at hs1
          have HS := Lib.hid hs1
          clear hs1 hs2 hok hk' hw
          obtain ⟨v0, v1, v2, vl⟩ := Var3.new wr x.k x.t x.id
          have w0 : IntKind.i64.wrap ((m0 : Int) + x.t.size) = (m0 : Int) + x.t.size := IntWalk.i64_in _ ⟨by omega, by omega⟩
          have w1 : IntKind.i64.wrap (max (a : Int) m0 - m0) = ((max a m0 - m0 : Nat) : Int) := by rw [IntWalk.i64_in _ ⟨by omega, by omega⟩]; omega
          have w2 : IntKind.i64.wrap (min (b : Int) (IntKind.i64.wrap ((m0 : Int) + x.t.size)) - m0) = ((min b (m0 + x.t.size) - m0 : Nat) : Int) := by rw [w0, IntWalk.i64_in _ ⟨by omega, by omega⟩]; omega
          have z1 : max a m0 - m0 < min b (m0 + x.t.size) - m0 := by omega
          have z2 : min b (m0 + x.t.size) - m0 ≤ x.t.size := by omega
          generalize max a m0 - m0 = u at *
          generalize min b (m0 + x.t.size) - m0 = v at *
          have W1 := Lib.hid w1; have W2 := Lib.hid w2
          clear w0 w1 w2 hin
          go_wp2_with fail
          go_quiet (fail)
          rw [W1.out, W2.out]
          have hA6 : AccI w out u8 ((wr.alloc (.cells #[.int .i64 x.k, .string x.t, .int .i64 x.id] 40)).drewN (nq + 1)) := ⟨⟨hA1.below.os, hA1.below.tape, hA1.below.output, hA1.below.size, hA1.below.block⟩, hA1.own⟩
          have q5 : decide (u < v) = true := decide_eq_true z1
          have x0 : (0 : Int) ≤ (u : Int) := by omega
          have x1 : (u : Int) ≤ (v : Int) := by omega
          have x2 : (v : Int) ≤ (x.t.size : Int) := by omega
          clear W1 W2
          go_wp2_with fail
          have hB6 := heap_alloc_new ((wr.alloc (.cells #[.int .i64 x.k, .string x.t, .int .i64 x.id] 40)).drewN (nq + 1)) (.cells #[.int .i64 1, .string (x.t.extract u v), .int .i64 x.id] 40)
          have hsz6 : w.heap.size ≤ (((wr.alloc (.cells #[.int .i64 x.k, .string x.t, .int .i64 x.id] 40)).drewN (nq + 1)).alloc (.cells #[.int .i64 1, .string (x.t.extract u v), .int .i64 x.id] 40)).heap.size := Nat.le_trans hA6.below.size (blw (Below.refl _ _) _).size
          rw [show ((wr.alloc (.cells #[.int .i64 x.k, .string x.t, .int .i64 x.id] 40)).drewN (nq + 1)).heap.size = wr.heap.size + 1 by simp] at hB6
          have hV := Var3.new wr x.k x.t x.id
          have hV6 : Var3 (((wr.alloc (.cells #[.int .i64 x.k, .string x.t, .int .i64 x.id] 40)).drewN (nq + 1)).alloc (.cells #[.int .i64 1, .string (x.t.extract u v), .int .i64 x.id] 40)) wr.heap.size x.k x.t x.id := Var3.alloc (W := (wr.alloc (.cells #[.int .i64 x.k, .string x.t, .int .i64 x.id] 40)).drewN (nq + 1)) ⟨hV.c0, hV.c1, hV.c2, hV.lt⟩ _
          have HV6 := Lib.hid hV6
          have HLT := Lib.hid hA.own.lt
          clear hV hV6
          go_region_law (refine step_app eI _ (by rfl) _ _ (by rfl) w.heap.size out u8 (by rfl) (World.ownsRow.alloc hA6.own (.cells #[.int .i64 1, .string (x.t.extract u v), .int .i64 x.id] 40)) hsz6 ⟨1, x.t.extract u v, x.id⟩ (wr.heap.size + 1) #[.int .i64 1, .string (x.t.extract u v), .int .i64 x.id] (by rfl) hB6 (by rfl) (by omega) (by unfold maxLen; omega) ?_; intro g2 cp w5 hown5 hgr5 hloc5)
          all_goals have hA7 : AccI w (out ++ [⟨1, x.t.extract u v, x.id⟩]) _ w5 := (hA6.alloc _).more hgr5 hown5
          all_goals obtain ⟨y0, y1, y2, yl⟩ := HV6.out.same (hgr5.block wr.heap.size HV6.out.lt (fun e => Nat.lt_irrefl _ (HLT.out _ e.symm).2)) hgr5.size
          all_goals go_wp2_with fail
          all_goals go_roundw
          all_goals first | exact ⟨k + 1, hlt, by go_num, by rw [HM.out, hk1]; go_num, by rw [HS.out]; exact hA7⟩ | (simp [intOf]; omega)
        · have hs2 : oneI x m0 a b = [] := by unfold oneI; rw [hw, if_neg hin]
          rw [hs2, List.append_nil] at hs1
          have HS := Lib.hid hs1
          clear hs1 hs2 hok hk' hw
          obtain ⟨v0, v1, v2, vl⟩ := Var3.new wr x.k x.t x.id
          have w0 : IntKind.i64.wrap ((m0 : Int) + x.t.size) = (m0 : Int) + x.t.size := IntWalk.i64_in _ ⟨by omega, by omega⟩
          obtain ⟨u, v, w1, w2, q5⟩ : ∃ u v : Int, IntKind.i64.wrap (max (a : Int) m0 - m0) = u ∧ IntKind.i64.wrap (min (b : Int) (IntKind.i64.wrap ((m0 : Int) + x.t.size)) - m0) = v ∧ decide (u < v) = false :=
            ⟨max (a : Int) m0 - m0, min (b : Int) ((m0 : Int) + x.t.size) - m0, by rw [IntWalk.i64_in _ ⟨by omega, by omega⟩], by rw [w0, IntWalk.i64_in _ ⟨by omega, by omega⟩], decide_eq_false (by omega)⟩
          have W1 := Lib.hid w1; have W2 := Lib.hid w2
          clear w0 w1 w2 hin
          go_wp2_with fail
          go_quiet (fail)
          rw [W1.out, W2.out]
          have hA6 : AccI w out u8 ((wr.alloc (.cells #[.int .i64 x.k, .string x.t, .int .i64 x.id] 40)).drewN nq) := ⟨⟨hA1.below.os, hA1.below.tape, hA1.below.output, hA1.below.size, hA1.below.block⟩, hA1.own⟩
          clear W1 W2
          go_wp2_with fail
          go_roundw
          case rel => exact ⟨k + 1, hlt, by go_num, by rw [HM.out, hk1]; go_num, by rw [HS.out]; exact hA6⟩
          case measure => simp [intOf]; omega
      · have q : (x.k != 1) = true := by simpa using hk'
        have hw : wid x = 1 := if_neg hk'
        rw [hw] at hk1
        by_cases hin : a ≤ m0 ∧ m0 < b
        · have hs2 : oneI x m0 a b = [x] := by unfold oneI cutI; rw [hw, if_pos (by omega), if_neg hk']
          rw [hs2] at hs1
          have HS := Lib.hid hs1
          obtain ⟨i1, i2⟩ := hin
          have q1 : decide (a ≤ m0) = true := decide_eq_true i1
          have q2 : decide (m0 < b) = true := decide_eq_true i2
          clear hs1 hs2 hok hk' hw
          go_wp2_with (at_builtin; refine wpl_append eI _ rfl _ _ rfl w out _ rfl (hA1.alloc _) x (wr.heap.size + 1) #[.int .i64 x.k, .string x.t, .int .i64 x.id] rfl (heap_new2 _ _ _) rfl (by omega) (by unfold maxLen; omega) ?_; intro v' w4 hA4 hb4)
          go_wp2_with fail
          go_roundw
          case rel => exact ⟨k + 1, hlt, by go_num, by rw [HM.out, hk1]; go_num, by rw [HS.out]; exact hA4⟩
          case measure => simp [intOf]; omega
        · have hs2 : oneI x m0 a b = [] := by unfold oneI; rw [hw, if_neg (by omega)]
          rw [hs2, List.append_nil] at hs1
          have HS := Lib.hid hs1
          clear hs1 hs2 hok hk' hw
          by_cases i1 : a ≤ m0
          · have i2 : ¬ m0 < b := fun c => hin ⟨i1, c⟩
            have q1 : decide (a ≤ m0) = true := decide_eq_true i1
            have q2 : decide (m0 < b) = false := decide_eq_false i2
            clear hin
            go_wp2_with fail
            go_roundw
            case rel => exact ⟨k + 1, hlt, by go_num, by rw [HM.out, hk1]; go_num, by rw [HS.out]; exact hA1⟩
            case measure => simp [intOf]; omega
          · have q1 : decide (a ≤ m0) = false := decide_eq_false i1
            clear hin
            go_wp2_with fail
            go_roundw
            case rel => exact ⟨k + 1, hlt, by go_num, by rw [HM.out, hk1]; go_num, by rw [HS.out]; exact hA1⟩
            case measure => simp [intOf]; omega
    · obtain rfl : k = l.length := by omega
      rw [List.take_length] at hA
      go_wp2_with fail
      go_ret2
      exact ⟨_, rfl, hA⟩
theorem rslice_any (p : Option Addr) (cap : Nat) (l : List It) (a b : Int) (w : World) (hR : Its w p l) (hO : Oks l) (hc : l.length ≤ cap) (hm : cap ≤ maxLen) (hl : lenI l < 4611686018427387904) (hn : l.length ≤ 4000000000) :
    Calls Tryd.prog 84 #[.slice p l.length cap, .int .i64 a, .int .i64 b] w (EndSl (sliceI l a b) (sliceOk l a b) w) := by
  cases h : sliceOk l a b
  · rw [show sliceI l a b = [] from by unfold sliceI; rw [h]; rfl]
    exact rslice_no p cap l a b w hR hc hm hl h
  · rw [show sliceI l a b = slI l 0 a.toNat b.toNat from by unfold sliceI; rw [h]; rfl]
    unfold sliceOk at h
    simp at h
    obtain ⟨a', rfl⟩ := Int.eq_ofNat_of_zero_le h.1
    obtain ⟨b', rfl⟩ := Int.eq_ofNat_of_zero_le (show 0 ≤ b by omega)
    exact rslice_yes p cap l a' b' w hR hO hc hm hl (by omega) (by omega) (by omega)
end Go.Proofs.YtphkpokoeaagfaaDoor
