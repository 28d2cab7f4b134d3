/- Index: the walk of IndexOrder. The law IndexOrder holds for every input. -/
import Derived.Test.YthfgpagmepdblaaIyA
import Derived.Test.YthfgpagmepdblaaRows
import Derived.WalkKit
import Derived.ProofKit
import Derived.OpenShut
import Derived.ChangeOld
import Derived.Below
import Derived.Carry
import Derived.SizedLaws
import Derived.Test.YthfgpagmepdblaaTka
namespace Go.Proofs.Ythfgpagmepdblaa
open Go.ChangeShapes Go.WideShapes Go.ChangeAt Go.RowKit Go.Maps
set_option linter.unusedVariables false
set_option linter.unusedSimpArgs false
set_option maxRecDepth 100000

/-- Lists under the numbers n - 1, n - 2, and so on. -/
def stR (f : Nat → List It) (n c : Nat) : List Sto := (List.range c).map fun (j : Nat) => ⟨((n - 1 - j : Nat) : Int), f (n - 1 - j)⟩
theorem stR_len (f : Nat → List It) (n c : Nat) : (stR f n c).length = c := by unfold stR; simp
theorem stR_add (f : Nat → List It) (n c i : Nat) (hc : c < n) (hi : i = n - 1 - c) (hn : n ≤ 1000) : addB (stR f n c) (i : Int) = true ∧ addS (stR f n c) (i : Int) (f i) = stR f n (c + 1) := by
  have h0 : lkS (stR f n c) (i : Int) = none := by
    rw [lkS_none]
    intro s hs e
    unfold stR at hs
    rw [List.mem_map] at hs
    obtain ⟨j, hj, rfl⟩ := hs
    rw [List.mem_range] at hj
    simp at e; omega
  have h1 : addB (stR f n c) (i : Int) = true := by unfold addB; rw [h0, stR_len]; simp; omega
  refine ⟨h1, ?_⟩
  unfold addS; rw [if_pos h1]
  unfold stR
  rw [List.range_succ, List.map_append, hi]; rfl
theorem stR_perm (f : Nat → List It) (n : Nat) : (stR f n n).Perm (stB f n) := by
  have : stR f n n = (stB f n).reverse := by
    apply List.ext_getElem
    · simp [stR, stB]
    · intro i h1 h2
      have hi : i < n := by rw [stR_len] at h1; exact h1
      rw [List.getElem_reverse]
      simp [stR, stB]
  rw [this]; exact List.reverse_perm _
theorem one_put (l : List It) : addB [] 100 = true ∧ addS [] 100 l = [⟨100, l⟩] ∧ decide (lkS [⟨100, l⟩] 100 ≠ none) = true ∧ dlS [⟨100, l⟩] 100 = [] := ⟨by decide, rfl, by simp [lkS], by simp [dlS]⟩
set_option maxHeartbeats 12800000 in
theorem order15_law (p0 : Option Addr) (c0 : Nat) (l : List Int) (p1 : Option Addr) (c1 : Nat) (m : List Int) (pc : Int) (w : World) (r0 : Ones w (Value.int .i64) p0 l) (o0 : ∀ i (h : i < l.length), (Lit.int .i64 (l[i]'h)).wf = true) (n0 : l.length ≤ c0) (m0 : c0 ≤ maxLen) (r1 : Ones w (Value.int .i64) p1 m) (o1 : ∀ i (h : i < m.length), (Lit.int .i64 (m[i]'h)).wf = true) (n1 : m.length ≤ c1) (m1 : c1 ≤ maxLen) (w2h : (Lit.int .i64 pc).wf = true) :
    Calls Try.prog 5 #[.slice p0 l.length c0, .slice p1 m.length c1, .int .i64 pc] w fun e w' => e = .returned (.bool true) ∧ Below w.heap.size w w' := by
  have leave : ∀ W, Below w.heap.size w W → Calls Try.prog 7 #[] W fun e w' => e = .returned (.bool true) ∧ Below w.heap.size w w' := fun W h => (iknown_any W).mono fun e w' ⟨a, b⟩ => ⟨a, h.trans (b.mono h.size)⟩
  have HLV := Lib.hid leave
  clear leave
  by_cases hl1 : 150 < l.length
  · have q1 : (150 : Int) < (l.length : Int) := by omega
    go_enter Try.func5, Try.ntmps5
    go_wp2_with fail
    refine (HLV.out _ (Below.refl _ _)).mono ?_; rintro e w1 ⟨rfl, hb⟩
    have HB := Lib.hid hb; clear hb
    go_wp2_with fail
    go_ret
    exact ⟨rfl, HB.out⟩
  by_cases hl2 : 60 < m.length
  · have q1 : ¬ (150 : Int) < (l.length : Int) := by omega
    have q2 : (60 : Int) < (m.length : Int) := by omega
    go_enter Try.func5, Try.ntmps5
    go_wp2_with fail
    refine (HLV.out _ (Below.refl _ _)).mono ?_; rintro e w1 ⟨rfl, hb⟩
    have HB := Lib.hid hb; clear hb
    go_wp2_with fail
    go_ret
    exact ⟨rfl, HB.out⟩
  have q1 : ¬ (150 : Int) < (l.length : Int) := by omega
  have q2 : ¬ (60 : Int) < (m.length : Int) := by omega
  have HBS := Lib.hid (base_any p0 c0 l w r0 o0 n0 m0)
  have HM := Lib.hid (And.intro r1 (And.intro o1 (And.intro n1 m1)))
  clear r0 o0 n0 m0 r1 o1 n1 m1
  go_enter Try.func5, Try.ntmps5
  go_wp2_with fail
  refine HBS.out.mono ?_; rintro e w1 ⟨q, cq, LL, rfl, hL8, hLc, hcm, hBB, hb1⟩
  have HB1 := Lib.hid hb1; have HBB := Lib.hid hBB
  clear hBB hb1 HBS q1 q2
  go_wp2_with fail
  refine (new_any w1).mono ?_; rintro e w2 ⟨rfl, hX, hb2⟩
  generalize hXE : w1.heap.size + 2 = X at *
  generalize hBE : w1.heap.size = B at *
  have HX1 := Lib.hid hX; have HB2 := Lib.hid hb2
  clear hX hb2
  go_wp2_with fail
  refine (new_any w2).mono ?_; rintro e w3 ⟨rfl, hY, hb3⟩
  generalize hYE : w2.heap.size + 2 = Y at *
  have hsB : B ≤ w2.heap.size := by have := HB2.out.size; omega
  have hbb : Below B w1 w3 := HB2.out.trans (hb3.mono hsB)
  have hwB : w.heap.size ≤ B := by rw [← hBE]; exact HB1.out.size
  have hB2 := HB1.out.trans (hbb.mono hwB)
  have hBB2 := HBB.out.keep hbb
  have hX0 : Ix w3 X (fun k => B ≤ k ∧ k < w2.heap.size) (1000 * 0) (stB (lf LL) 0) := HX1.out.call hb3
  have hY0 : Ix w3 Y (fun k => w2.heap.size ≤ k ∧ k < w3.heap.size) (1000 * 0) [] := hY
  have hD0 : ∀ j, (B ≤ j ∧ j < w2.heap.size) → B ≤ j := fun j h => h.1
  have hD1 : ∀ j, (w2.heap.size ≤ j ∧ j < w3.heap.size) → B ≤ j ∧ ¬ (B ≤ j ∧ j < w2.heap.size) := fun j h => ⟨by omega, fun c => by omega⟩
  clear hY hb3 HB1 HBB hXE hBE HX1 HB2 hbb hYE hsB
  go_wp2_with fail
  go_loopw [30] (fun v wr => ∃ (k : Nat) (R T : Nat → Prop), k ≤ LL.length ∧ v = .int .i64 k ∧ Ix wr X R (1000 * k) (stB (lf LL) k) ∧ Ix wr Y T (1000 * k) [] ∧ Aside (∀ j, R j → B ≤ j) ∧ Aside (∀ j, T j → B ≤ j ∧ ¬ R j) ∧ BB wr B q LL ∧ Below w.heap.size w wr) (fun v _ => LL.length - (intOf v).toNat)
  case atStart => exact ⟨0, _, _, Nat.zero_le _, rfl, hX0, hY0, hD0, hD1, hBB2, hB2⟩
  case round =>
    clear hX0 hY0 hD0 hD1 hBB2 hB2
    obtain ⟨k, R, T, hk, rfl, hX, hY, hR, hT, hBB, hB⟩ := hrel
    by_cases hlt : k < LL.length
    · obtain ⟨ad, rfl, had, hcell⟩ := one_row hBB.ones k hlt
      obtain ⟨hI, hxc, hxm, hxb⟩ := hBB.its _ (List.getElem_mem hlt)
      have hok := (hBB.ok _ (List.getElem_mem hlt)).lok (by omega)
      have hA := add_any hX (i := (k : Int)) (wf_i64 (by omega) (by omega)) hI hxc hxm hok (by omega)
      have hadd := stB_add (lf LL) k (by omega)
      rw [lf_at LL k hlt] at hadd
      rw [hadd.1, hadd.2] at hA
      have ik : (k : Int) < (LL.length : Int) := by omega
      have hcell2 : wr.cell? (ad.add k) = some (.slice (LL[k]).p (LL[k]).l.length (LL[k]).c) := hcell
      generalize LL[k] = x at *
      have HA := Lib.hid hA; have HR := Lib.hid hR.out; have HT := Lib.hid hT.out; have HBB := Lib.hid hBB; have HB := Lib.hid hB; have HY := Lib.hid hY; have HI := Lib.hid hI; have HOK := Lib.hid hok; have HXB := Lib.hid hxb; have HXC := Lib.hid (And.intro hxc hxm)
      have hle : w.heap.size ≤ wr.heap.size := hB.size
      have hleB : B ≤ wr.heap.size := hBB.bs
      have HYL := Lib.hid hY.lt
      clear hA hX hR hT hBB hB hI hxc hxm hok hadd hcell hY hxb
      go_wp2_with fail
      refine HA.out.mono ?_; rintro e w3 ⟨rfl, R3, hX3, hR3, hK3⟩
      have hY3 := HY.out.apart hK3 (fun j hj => (HT.out j hj).2)
      have hI3 := HI.out.kept hK3 (fun h0 a ha c => by have := HXB.out h0 a ha; have := HR.out _ c; omega)
      have hT3 : ∀ j, T j → B ≤ j ∧ ¬ R3 j := fun j hj => ⟨(HT.out j hj).1, fun c => (hR3 j c).elim (HT.out j hj).2 (fun c => by have := HYL.out j hj; omega)⟩
      have hR3' : ∀ j, R3 j → B ≤ j := fun j hj => (hR3 j hj).elim (HR.out j) (fun c => by omega)
      have hB3 := HB.out.trans (hK3.toBelow hle (fun j hj => by have := HR.out j hj; omega))
      have hBB3 := HBB.out.keep (hK3.toBelow hleB HR.out)
      have hs3 : wr.heap.size ≤ w3.heap.size := hK3.size
      have hA2 := add_any hY3 (i := 100) (by decide) hI3 HXC.out.1 HXC.out.2 HOK.out (by omega)
      rw [(one_put x.l).1, (one_put x.l).2.1] at hA2
      have HA2 := Lib.hid hA2; have HX3 := Lib.hid hX3; have HR3 := Lib.hid hR3'; have HT3 := Lib.hid hT3; have HB3 := Lib.hid hB3; have HBB3 := Lib.hid hBB3
      have HXL := Lib.hid hX3.lt
      clear hX3 hR3 hK3 hY3 hI3 hT3 hR3' hB3 hBB3 hA2 hcell2 HA HY HI HR HT HB HBB
      go_wp2_with fail
      refine HA2.out.mono ?_; rintro e w4 ⟨rfl, T4, hY4, hT4, hK4⟩
      have hX4 := HX3.out.apart hK4 (fun j hj c => (HT3.out j c).2 hj)
      have hT4' : ∀ j, T4 j → B ≤ j ∧ ¬ R3 j := fun j hj => (hT4 j hj).elim (HT3.out j) (fun c => ⟨by omega, fun c2 => by have := HXL.out j c2; omega⟩)
      have hB4 := HB3.out.trans (hK4.toBelow (by omega) (fun j hj => by have := (HT3.out j hj).1; omega))
      have hBB4 := HBB3.out.keep (hK4.toBelow (by omega) (fun j hj => (HT3.out j hj).1))
      have hs4 : w3.heap.size ≤ w4.heap.size := hK4.size
      have hRm := remove_any hY4 (i := 100) (by decide) (by omega)
      rw [(one_put x.l).2.2.1, (one_put x.l).2.2.2] at hRm
      have HRM := Lib.hid hRm; have HX4 := Lib.hid hX4; have HT4 := Lib.hid hT4'; have HB4 := Lib.hid hB4; have HBB4 := Lib.hid hBB4
      clear hY4 hT4 hK4 hX4 hT4' hB4 hBB4 hRm HA2 HX3 HT3 HB3 HBB3
      go_wp2_with fail
      refine HRM.out.mono ?_; rintro e w5 ⟨rfl, T5, hY5, hT5, hK5⟩
      have hX5 := HX4.out.apart hK5 (fun j hj c => (HT4.out j c).2 hj)
      have hT5' : ∀ j, T5 j → B ≤ j ∧ ¬ R3 j := fun j hj => (hT5 j hj).elim (HT4.out j) (fun c => ⟨by omega, fun c2 => by have := HXL.out j c2; omega⟩)
      have hB5 := HB4.out.trans (hK5.toBelow (by omega) (fun j hj => by have := (HT4.out j hj).1; omega))
      have hBB5 := HBB4.out.keep (hK5.toBelow (by omega) (fun j hj => (HT4.out j hj).1))
      have HF := Lib.hid (And.intro hX5 (And.intro hY5 (And.intro hT5' (And.intro hBB5 hB5))))
      clear hX5 hY5 hT5 hK5 hT5' hB5 hBB5 HRM HX4 HT4 HB4 HBB4
      go_wp2_with fail
      go_roundw
      case rel =>
        obtain ⟨f1, f2, f3, f4, f5⟩ := HF.out
        exact ⟨k + 1, R3, T5, hlt, by go_num, f1.mono (by omega), f2.mono (by omega), HR3.out, f3, f4, f5⟩
      case measure => simp [intOf]; omega
    · obtain rfl : k = LL.length := by omega
      have hwf : w.heap.size ≤ wr.heap.size := hB.size
      have hz0 : (LL.length : Int) - 1 = (LL.length : Int) - 1 := rfl
      have hzz : ∃ z : Int, z = (LL.length : Int) - 1 := ⟨_, rfl⟩
      obtain ⟨z0, hz0⟩ := hzz
      have hwz : IntKind.i64.wrap ((LL.length : Int) - 1) = z0 := by rw [hz0]; exact IntWalk.i64_in _ ⟨by omega, by omega⟩
      have hY0 : Ix wr Y T (1000 * (LL.length + 0)) (stR (lf LL) LL.length 0) := hY
      have HX := Lib.hid hX; have HR := Lib.hid hR.out; have HXL := Lib.hid hX.lt
      have hT0 := hT.out
      have HZ0 := Lib.hid hz0
      clear hX hR hT hY hz0
      go_wp2_with fail
      go_loopw [12] (fun v wr => ∃ (z : Int) (k : Nat) (T : Nat → Prop), v = .int .i64 z ∧ Aside (z = (k : Int) - 1) ∧ Aside (k ≤ LL.length) ∧ Ix wr X R (1000 * LL.length) (stB (lf LL) LL.length) ∧ Ix wr Y T (1000 * (LL.length + (LL.length - k))) (stR (lf LL) LL.length (LL.length - k)) ∧ Aside (∀ j, T j → B ≤ j ∧ ¬ R j) ∧ BB wr B q LL ∧ Below w.heap.size w wr) (fun v _ => (intOf v + 1).toNat)
      case atStart => exact ⟨z0, LL.length, T, by first | rfl | rw [hwz], HZ0.out, Nat.le_refl _, HX.out, by rw [Nat.sub_self]; exact hY0, hT0, hBB, hB⟩
      case round =>
        clear hY0 hT0 hBB hB HX HZ0 hwz
        obtain ⟨z, k, T, rfl, hz, hk, hX, hY, hT, hBB, hB⟩ := hrel
        by_cases hz1 : 0 ≤ z
        · have hk1 : k - 1 < LL.length := by have := hz.out; have := hk.out; omega
          have hzk : z = ((k - 1 : Nat) : Int) := by have := hz.out; omega
          obtain ⟨j, hj⟩ : ∃ j, j = k - 1 := ⟨_, rfl⟩
          rw [← hj] at hk1 hzk
          have hkk : k = j + 1 := by have := hz.out; omega
          subst hzk
          obtain ⟨ad, rfl, had, hcell⟩ := one_row hBB.ones j hk1
          obtain ⟨hI, hxc, hxm, hxb⟩ := hBB.its _ (List.getElem_mem hk1)
          have hok := (hBB.ok _ (List.getElem_mem hk1)).lok (by omega)
          have hA := add_any hY (i := (j : Int)) (wf_i64 (by omega) (by omega)) hI hxc hxm hok (by omega)
          have hadd := stR_add (lf LL) LL.length (LL.length - k) j (by omega) (by omega) (by omega)
          rw [lf_at LL j hk1] at hadd
          rw [hadd.1, hadd.2] at hA
          have ik : (j : Int) < (LL.length : Int) := by omega
          have ik2 : (j : Int) < (cq : Int) := by omega
          have hcell2 : wr.cell? (ad.add j) = some (.slice (LL[j]).p (LL[j]).l.length (LL[j]).c) := hcell
          have hwz2 : IntKind.i64.wrap ((j : Int) - 1) = (j : Int) - 1 := IntWalk.i64_in _ ⟨by omega, by omega⟩
          generalize LL[j] = x at *
          have HA := Lib.hid hA; have HT := Lib.hid hT.out; have HBB := Lib.hid hBB; have HB := Lib.hid hB; have HX := Lib.hid hX
          have hle : w.heap.size ≤ wr.heap.size := hB.size
          have hleB : B ≤ wr.heap.size := hBB.bs
          have HXL2 := Lib.hid hX.lt
          have HKK := Lib.hid (And.intro hkk hk.out)
          clear hA hX hT hBB hB hI hxc hxm hok hadd hcell hY hxb hz hk hj hkk
          go_wp2_with fail
          refine HA.out.mono ?_; rintro e w4 ⟨rfl, T4, hY4, hT4, hK4⟩
          have hX4 := HX.out.apart hK4 (fun j hj c => (HT.out j c).2 hj)
          have hT4' : ∀ j, T4 j → B ≤ j ∧ ¬ R j := fun j hj => (hT4 j hj).elim (HT.out j) (fun c => ⟨by omega, fun c2 => by have := HXL2.out j c2; omega⟩)
          have hB4 := HB.out.trans (hK4.toBelow hle (fun j hj => by have := (HT.out j hj).1; omega))
          have hBB4 := HBB.out.keep (hK4.toBelow hleB (fun j hj => (HT.out j hj).1))
          have HF := Lib.hid (And.intro hX4 (And.intro hY4 (And.intro hT4' (And.intro hBB4 hB4))))
          clear hX4 hY4 hT4 hK4 hT4' hB4 hBB4 HA hcell2
          go_wp2_with fail
          go_roundw
          case rel =>
            obtain ⟨f1, f2, f3, f4, f5⟩ := HF.out
            obtain ⟨hkk, hk⟩ := HKK.out
            exact ⟨(j : Int) - 1, j, T4, by first | rfl | go_num, rfl, (show j ≤ LL.length by omega), f1, by rw [show LL.length - j = LL.length - k + 1 by omega]; exact f2.mono (by omega), f3, f4, f5⟩
          case measure => simp [intOf] <;> omega
        · have hk0 : k = 0 := by have := hz.out; omega
          subst hk0
          rw [Nat.sub_zero] at hY
          obtain ⟨rm, om, nm, mm⟩ := HM.out
          have hMd := smade_any p1 c1 m 14 wr (ones_keep rm hB.size (fun h0 a ha => hB.block _ (ones_any rm h0 a ha))) om nm mm (by omega)
          have hql := mkD_len m 14
          have hqk := mkD_kind m 14
          have hqt := mkD_txt m 14
          generalize mkD m 14 = Q at *
          have hlq : LOk Q := ⟨by omega, fun y hy => ⟨wf_kind (hqk y hy), hqt y hy⟩⟩
          have HMD := Lib.hid hMd; have HLQ := Lib.hid hlq; have HX := Lib.hid hX; have HY := Lib.hid hY; have HB := Lib.hid hB
          have hle : w.heap.size ≤ wr.heap.size := hB.size
          clear hMd hqk hqt hlq rm om nm mm HM hX hY hB hBB hT hz hk
          go_wp2_with fail
          refine HMD.out.mono ?_; rintro e w3 hE
          obtain ⟨pq, cq2, rfl, hq1, hq2, hq3, hb3, _⟩ := EndT.g hE
          have HX3 := Lib.hid (HX.out.call hb3); have HY3 := Lib.hid (HY.out.call hb3); have HB3 := Lib.hid (HB.out.trans (hb3.mono hle)); have HQ3 := Lib.hid hq3
          have hs3 : w.heap.size ≤ w3.heap.size := HB3.out.size
          have hPp := place_any pc 103 w3 (by omega) (by omega) w2h
          generalize pc % 103 = P0 at *
          have HPP := Lib.hid hPp
          clear hE hb3 hq3 HX HY HB HMD hPp
          go_wp2_with fail
          refine HPP.out.mono ?_; rintro e w4 ⟨rfl, rfl⟩
          have hLx := len_any HX3.out; have hLy := len_any HY3.out
          rw [stB_len] at hLx; rw [stR_len] at hLy
          have HLX := Lib.hid hLx; have HLY := Lib.hid hLy
          clear hLx hLy
          go_wp2_with fail
          refine HLX.out.mono ?_; rintro e w5 ⟨rfl, rfl⟩
          go_wp2_with fail
          refine HLY.out.mono ?_; rintro e w5 ⟨rfl, rfl⟩
          have hC1 := cand_any HX3.out HQ3.out hq1 hq2 HLQ.out P0 (by omega) (by rw [stB_len]; omega)
          have hC2 := fun W (hY : Ix W Y T (1000 * (LL.length + LL.length)) (stR (lf LL) LL.length LL.length)) (hQ : Its W pq Q) => cand_any hY hQ hq1 hq2 HLQ.out P0 (by omega) (by rw [stR_len]; omega)
          rw [cand_order (isCand Q P0) (stR_perm (lf LL) LL.length)] at hC2
          generalize cand (isCand Q P0) (stB (lf LL) LL.length) = C at *
          have HC1 := Lib.hid hC1; have HC2 := Lib.hid hC2
          clear hC1 hC2 HLX HLY HPP HX3
          go_wp2_with fail
          refine HC1.out.mono ?_; rintro e w5 hE
          obtain ⟨p5, c5, rfl, hc5, hm5, hO5, hb5⟩ := EndN.f hE
          have HC3 := Lib.hid (HC2.out w5 (HY3.out.call hb5) (HQ3.out.call hb5))
          have HB5 := Lib.hid (HB3.out.trans (hb5.mono hs3)); have HO5 := Lib.hid hO5
          have hs5 : w.heap.size ≤ w5.heap.size := HB5.out.size
          clear hE hb5 hO5 HC1 HC2 HY3 HQ3 HB3
          go_wp2_with fail
          refine HC3.out.mono ?_; rintro e w6 hE
          obtain ⟨p6, c6, rfl, hc6, hm6, hO6, hb6⟩ := EndN.f hE
          have hS := sameints_any p5 p6 c5 c6 C C w6 (HO5.out.call hb6) hO6 hc5 hc6 hm5 hm6
          rw [decide_eq_true rfl] at hS
          have HS := Lib.hid hS; have HB6 := Lib.hid (HB5.out.trans (hb6.mono hs5))
          have hs6 : w.heap.size ≤ w6.heap.size := HB6.out.size
          clear hE hb6 hO6 hS HC3 HB5 HO5
          go_wp2_with fail
          refine HS.out.mono ?_; rintro e w7 ⟨rfl, hb7⟩
          have HB7 := Lib.hid (HB6.out.trans (hb7.mono hs6)); clear hb7
          go_wp2_with fail
          refine (HLV.out _ HB7.out).mono ?_; rintro e w10 ⟨rfl, hb10⟩
          have HB10 := Lib.hid hb10; clear hb10
          go_wp2_with fail
          go_ret
          exact ⟨rfl, HB10.out⟩
end Go.Proofs.Ythfgpagmepdblaa
namespace Go.Proofs.Ythfgpagmepdblaa.indexOrder
open Go.ChangeShapes Go.WideShapes Go.ChangeAt Go.RowKit
open Go.ChangeMaps (open_string shut_string)
set_option linter.unusedVariables false
set_option maxRecDepth 100000

theorem own : ownKnob Try.prog.godebug = none := by kernel_rfl
theorem laidOut : laidOutB Try.prog = true := by kernel_rfl


set_option maxHeartbeats 1600000 in
theorem walk (p0 : Option Addr) (c0 : Nat) (a0 : List Int) (p1 : Option Addr) (c1 : Nat) (a1 : List Int) (a2 : Int) (w : World) (r0 : Ones w (Value.int .i64) p0 a0) (o0 : ∀ i (h : i < a0.length), (Lit.int .i64 (a0[i]'h)).wf = true) (n0 : a0.length ≤ c0) (m0 : c0 ≤ maxLen) (r1 : Ones w (Value.int .i64) p1 a1) (o1 : ∀ i (h : i < a1.length), (Lit.int .i64 (a1[i]'h)).wf = true) (n1 : a1.length ≤ c1) (m1 : c1 ≤ maxLen) (w2 : (Lit.int .i64 a2).wf = true) :
    Calls Try.prog 5 #[.slice p0 a0.length c0, .slice p1 a1.length c1, .int .i64 a2] w fun e w' => e = .returned (.bool true) ∧ Below w.heap.size w w' := by
  exact order15_law p0 c0 a0 p1 c1 a1 a2 w r0 o0 n0 m0 r1 o1 n1 m1 w2

theorem lifted (os : Os) (started : os.Started) (H : Type) (enc : TypeId × Value → H) :
    ReturnsInHanded {} Try.checked os 5 .any (Rows.indexOrderSpec.pre6 enc Try.prog Try.f5 Rows.indexOrderRow.domain false) (Rows.indexOrderSpec.post enc Try.prog Try.f5 false true false false) := by
  refine returnsInHanded_of_change_sized (C := Try.checked) own started (by kernel_rfl) Try.func5
    (ChangeSpec.witness6 (enc := enc) (C := Try.checked) false ⟨#[], #[.slice none 0 0, .slice none 0 0, .int .i64 0], []⟩ 8 (by kernel_rfl) (by kernel_rfl) (by kernel_rfl) (by kernel_rfl)) ?_
  intro W base args ds gs before hval0 hW hcnd hsz0 _
  have hval : ∀ (j : Nat) t v, Try.f5.params[j]? = some t → args[j]? = some v → Value.okWide Try.prog W .any base t v := hval0
  have hW' := hW
  have hlt : ∀ x ∈ before, x.block < W.heap.size := fun x hx => hW'.lt x hx
  obtain ⟨p, q, hA0, hV, rfl, hfz, hnd⟩ := hW
  have hA : DataW.TrodAll enc Try.prog W 0 (fun _ => true) true Try.f5.params.toList args.toList ds p := hA0
  rw [Try.params5] at hA hval hsz0
  obtain ⟨v0, vs0, d0, ds0, p0, q0, hargs, rfl, rfl, h0, r0⟩ := trodAll_cons hA
  obtain ⟨v1, vs1, d1, ds1, p1, q1, rfl, rfl, rfl, h1, r1⟩ := trodAll_cons r0
  obtain ⟨v2, vs2, d2, ds2, p2, q2, rfl, rfl, rfl, h2, r2⟩ := trodAll_cons r1
  obtain ⟨rfl, rfl, rfl⟩ := trodAll_nil r2
  obtain rfl : args = #[v0, v1, v2] := by cases args; simp_all
  obtain ⟨rfl, rfl⟩ := trodVars_none hV
  have hsz := hsz0; clear hsz0
  obtain ⟨pp0, c0, a0, rfl, n0, m0, y0, o0⟩ := opened_ints (okBase (hval 0 22 v0 rfl rfl)) h0
  obtain ⟨pp1, c1, a1, rfl, n1, m1, y1, o1⟩ := opened_ints (okBase (hval 1 22 v1 rfl rfl)) h1
  obtain ⟨a2, rfl, -, -, w2⟩ := open_int Try.underlying3 (hval 2 3 v2 rfl rfl) h2
  clear hA0 hval0
  refine (walk pp0 c0 a0 pp1 c1 a1 a2 W y0 o0 n0 m0 y1 o1 n1 m1 w2).mono fun e W' ⟨he, bel⟩ => ?_
  subst he
  exact ⟨_, rfl, _, _, _, [], _, [], hW', trodAll_mk1 (shut_bool Try.underlying4 _), (trodAll_cons_mk (Below.trod laidOut (by kernel_rfl) (of_decide_eq_true (by kernel_rfl)) h0 bel (fun x hx => hlt x (by simp [hx]))) (trodAll_cons_mk (Below.trod laidOut (by kernel_rfl) (of_decide_eq_true (by kernel_rfl)) h1 bel (fun x hx => hlt x (by simp [hx]))) (trodAll_cons_mk (Below.trod laidOut (by kernel_rfl) (of_decide_eq_true (by kernel_rfl)) h2 bel (fun x hx => hlt x (by simp [hx]))) trodAll_mk0))), rfl, bel.frame _, fun h => by cases h⟩

theorem over : Rows.indexOrderRow.holds Try.pinned (OpenSpec.ofChange Rows.indexOrderSpec) :=
  OpenClaim.holds_of_wide 5 Try.f5 rfl rfl rfl rfl rfl rfl rfl ⟨rfl, rfl, rfl, rfl, rfl⟩ rfl rfl rfl rfl rfl (by kernel_rfl) Try.func5 (by kernel_rfl)
    (of_decide_eq_true (by kernel_rfl)) (by unfold Func.isWrapper; first | (rw [if_pos (by decide +kernel)]; kernel_rfl) | (rw [if_neg (by decide +kernel)]; exact ⟨rfl, rfl⟩))
    (fun os started H enc _ => lifted os started H enc)

theorem proved : Rows.IndexOrderSaid := over
#print axioms proved
end Go.Proofs.Ythfgpagmepdblaa.indexOrder
