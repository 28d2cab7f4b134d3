/- Index: the walk of IndexShrinks. The law IndexShrinks holds for every input. -/
import Derived.Test.YthfgpagmepdblaaIyA
import Derived.Test.YthfgpagmepdblaaRows
import Derived.WalkKit
import Derived.ProofKit
import Derived.OpenShut
import Derived.ChangeOld
import Derived.Below
import Derived.Carry
import Derived.SizedLaws
import Derived.Test.YthfgpagmepdblaaTka
namespace Go.Proofs.Ythfgpagmepdblaa
open Go.ChangeShapes Go.WideShapes Go.ChangeAt Go.RowKit Go.Maps
set_option linter.unusedVariables false
set_option linter.unusedSimpArgs false
set_option maxRecDepth 100000

set_option maxHeartbeats 12800000 in
theorem shrinks_law (p0 : Option Addr) (c0 : Nat) (l : List Int) (p1 : Option Addr) (c1 : Nat) (m : List Int) (pc mo : Int) (w : World) (r0 : Ones w (Value.int .i64) p0 l) (o0 : ∀ i (h : i < l.length), (Lit.int .i64 (l[i]'h)).wf = true) (n0 : l.length ≤ c0) (m0 : c0 ≤ maxLen) (r1 : Ones w (Value.int .i64) p1 m) (o1 : ∀ i (h : i < m.length), (Lit.int .i64 (m[i]'h)).wf = true) (n1 : m.length ≤ c1) (m1 : c1 ≤ maxLen) (w2h : (Lit.int .i64 pc).wf = true) (w3h : (Lit.int .i64 mo).wf = true) :
    Calls Try.prog 4 #[.slice p0 l.length c0, .slice p1 m.length c1, .int .i64 pc, .int .i64 mo] w fun e w' => e = .returned (.bool true) ∧ Below w.heap.size w w' := by
  have leave : ∀ W, Below w.heap.size w W → Calls Try.prog 7 #[] W fun e w' => e = .returned (.bool true) ∧ Below w.heap.size w w' := fun W h => (iknown_any W).mono fun e w' ⟨a, b⟩ => ⟨a, h.trans (b.mono h.size)⟩
  have HLV := Lib.hid leave
  clear leave
  by_cases hl1 : 150 < l.length
  · have q1 : (150 : Int) < (l.length : Int) := by omega
    go_enter Try.func4, Try.ntmps4
    go_wp2_with fail
    refine (HLV.out _ (Below.refl _ _)).mono ?_; rintro e w1 ⟨rfl, hb⟩
    have HB := Lib.hid hb; clear hb
    go_wp2_with fail
    go_ret
    exact ⟨rfl, HB.out⟩
  by_cases hl2 : 60 < m.length
  · have q1 : ¬ (150 : Int) < (l.length : Int) := by omega
    have q2 : (60 : Int) < (m.length : Int) := by omega
    go_enter Try.func4, Try.ntmps4
    go_wp2_with fail
    refine (HLV.out _ (Below.refl _ _)).mono ?_; rintro e w1 ⟨rfl, hb⟩
    have HB := Lib.hid hb; clear hb
    go_wp2_with fail
    go_ret
    exact ⟨rfl, HB.out⟩
  have q1 : ¬ (150 : Int) < (l.length : Int) := by omega
  have q2 : ¬ (60 : Int) < (m.length : Int) := by omega
  have HBS := Lib.hid (base_any p0 c0 l w r0 o0 n0 m0)
  have HM := Lib.hid (And.intro r1 (And.intro o1 (And.intro n1 m1)))
  clear r0 o0 n0 m0 r1 o1 n1 m1
  go_enter Try.func4, Try.ntmps4
  go_wp2_with fail
  refine HBS.out.mono ?_; rintro e w1 ⟨q, cq, LL, rfl, hL8, hLc, hcm, hBB, hb1⟩
  have HB1 := Lib.hid hb1; have HBB := Lib.hid hBB; have HL14 := Lib.hid (show ∀ x ∈ LL, x.l.length ≤ 14 from fun x hx => (hBB.ok x hx).len)
  clear hBB hb1 HBS q1 q2
  go_wp2_with fail
  refine (new_any w1).mono ?_; rintro e w2 ⟨rfl, hX, hb2⟩
  generalize hXE : w1.heap.size + 2 = X at *
  generalize hBE : w1.heap.size = B at *
  have hB2 := HB1.out.trans (hb2.mono (by rw [← hBE]; exact HB1.out.size))
  have hBB2 := HBB.out.keep hb2
  have hwB : w.heap.size ≤ B := by rw [← hBE]; exact HB1.out.size
  have hX0 : Ix w2 X (fun k => B ≤ k ∧ k < w2.heap.size) (1000 * 0) (stB (lf LL) 0) := hX
  have hR0 : ∀ j, (B ≤ j ∧ j < w2.heap.size) → B ≤ j := fun j h => h.1
  clear hX hb2 HB1 HBB hXE hBE
  go_wp2_with fail
  go_loopw [32] (fun v wr => ∃ (k : Nat) (R : Nat → Prop), k ≤ LL.length ∧ v = .int .i64 k ∧ Ix wr X R (1000 * k) (stB (lf LL) k) ∧ Aside (∀ j, R j → B ≤ j) ∧ BB wr B q LL ∧ Below w.heap.size w wr) (fun v _ => LL.length - (intOf v).toNat)
  case atStart => exact ⟨0, _, Nat.zero_le _, rfl, hX0, hR0, hBB2, hB2⟩
  case round =>
    clear hX0 hR0 hBB2 hB2
    obtain ⟨k, R, hk, rfl, hX, hR, hBB, hB⟩ := hrel
    by_cases hlt : k < LL.length
    · obtain ⟨ad, rfl, had, hcell⟩ := one_row hBB.ones k hlt
      obtain ⟨hI, hxc, hxm, _⟩ := hBB.its _ (List.getElem_mem hlt)
      have hok := (hBB.ok _ (List.getElem_mem hlt)).lok (by omega)
      have hA := add_any hX (i := (k : Int)) (wf_i64 (by omega) (by omega)) hI hxc hxm hok (by omega)
      have hadd := stB_add (lf LL) k (by omega)
      rw [lf_at LL k hlt] at hadd
      rw [hadd.1, hadd.2] at hA
      have ik : (k : Int) < (LL.length : Int) := by omega
      have hcell2 : wr.cell? (ad.add k) = some (.slice (LL[k]).p (LL[k]).l.length (LL[k]).c) := hcell
      generalize LL[k] = x at *
      have HA := Lib.hid hA; have HR := Lib.hid hR.out; have HBB := Lib.hid hBB; have HB := Lib.hid hB
      have hle : w.heap.size ≤ wr.heap.size := hB.size
      have hleB : B ≤ wr.heap.size := hBB.bs
      clear hA hX hR hBB hB hI hxc hxm hok hadd hcell
      go_wp2_with fail
      refine HA.out.mono ?_; rintro e w3 ⟨rfl, R3, hX3, hR3, hK3⟩
      have HX := Lib.hid (And.intro hX3 (And.intro hR3 hK3))
      clear hX3 hR3 hK3 hcell2
      go_wp2_with fail
      go_roundw
      case rel =>
        obtain ⟨hX3, hR3, hK3⟩ := HX.out
        exact ⟨k + 1, R3, hlt, by go_num, hX3.mono (by omega), (fun j hj => (hR3 j hj).elim (HR.out j) (fun c => by omega)), HBB.out.keep (hK3.toBelow hleB HR.out), HB.out.trans (hK3.toBelow hle (fun j hj => by have := HR.out j hj; omega))⟩
      case measure => simp [intOf]; omega
    · obtain rfl : k = LL.length := by omega
      have hwf : w.heap.size ≤ wr.heap.size := hB.size
      have HX := Lib.hid hX; have HBB := Lib.hid hBB; have HB := Lib.hid hB
      clear hX hBB hB hR
      obtain ⟨rm, om, nm, mm⟩ := HM.out
      have hMd := smade_any p1 c1 m 14 wr (ones_keep rm HB.out.size (fun h0 a ha => HB.out.block _ (ones_any rm h0 a ha))) om nm mm (by omega)
      have hql := mkD_len m 14
      have hqk := mkD_kind m 14
      have hqt := mkD_txt m 14
      generalize mkD m 14 = Q at *
      have hlq : LOk Q := ⟨by omega, fun y hy => ⟨wf_kind (hqk y hy), hqt y hy⟩⟩
      have HMD := Lib.hid hMd; have HLQ := Lib.hid hlq
      clear hMd hqk hqt hlq rm om nm mm HM
      go_wp2_with fail
      refine HMD.out.mono ?_; rintro e w3 hE
      obtain ⟨pq, cq2, rfl, hq1, hq2, hq3, hb3, _⟩ := EndT.g hE
      have HX3 := Lib.hid (HX.out.call hb3); have HBB3 := Lib.hid (HBB.out.call hb3); have HB3 := Lib.hid (HB.out.trans (hb3.mono hwf)); have HQ3 := Lib.hid hq3
      have hs3 : w.heap.size ≤ w3.heap.size := HB3.out.size
      have hPp := place_any pc 102 w3 (by omega) (by omega) w2h
      have hp1 : 0 ≤ pc % 102 := Int.emod_nonneg _ (by omega)
      have hp2 : pc % 102 < 102 := Int.emod_lt_of_pos _ (by omega)
      generalize pc % 102 = P0 at *
      have HPP := Lib.hid hPp
      clear hE hb3 hq3 HX HBB HB HMD hPp
      go_wp2_with fail
      refine HPP.out.mono ?_; rintro e w4 ⟨rfl, rfl⟩
      have HC := Lib.hid (fun W (hX : Ix W X R (1000 * LL.length) (stB (lf LL) LL.length)) (hQ : Its W pq Q) pp => cand_any hX hQ hq1 hq2 HLQ.out pp (by omega) (by rw [stB_len]; omega))
      have HC1 := Lib.hid (HC.out w3 HX3.out HQ3.out P0)
      go_wp2_with fail
      refine HC1.out.mono ?_; rintro e w5 hE
      obtain ⟨p5, c5, rfl, hc5, hm5, hO5, hb5⟩ := EndN.f hE
      have HX5 := Lib.hid (HX3.out.call hb5); have HB5 := Lib.hid (HB3.out.trans (hb5.mono hs3)); have HQ5 := Lib.hid (HQ3.out.call hb5); have HO5 := Lib.hid hO5
      have hs5 : w.heap.size ≤ w5.heap.size := HB5.out.size
      have hPm := place_any mo 50 w5 (by omega) (by omega) w3h
      have hn1 : 0 ≤ mo % 50 := Int.emod_nonneg _ (by omega)
      have hn2 : mo % 50 < 50 := Int.emod_lt_of_pos _ (by omega)
      generalize mo % 50 = P1 at *
      have HPM := Lib.hid hPm
      clear hE hb5 hO5 HPP HC1 HX3 HB3 HQ3 hPm HBB3
      go_wp2_with fail
      refine HPM.out.mono ?_; rintro e w6 ⟨rfl, rfl⟩
      have hwP : IntKind.i64.wrap (P0 + P1) = P0 + P1 := IntWalk.i64_in _ ⟨by omega, by omega⟩
      have HC2 := Lib.hid (HC.out w5 HX5.out HQ5.out (P0 + P1))
      have HFL := Lib.hid (fun i hi => cand_falls Q P0 (P0 + P1) (by omega) (stB (lf LL) LL.length) i hi)
      have HCL := Lib.hid (cand_len (isCand Q (P0 + P1)) (stB (lf LL) LL.length))
      generalize cand (isCand Q P0) (stB (lf LL) LL.length) = CA at *
      generalize cand (isCand Q (P0 + P1)) (stB (lf LL) LL.length) = CB at *
      go_wp2_with fail
      refine HC2.out.mono ?_; rintro e w7 hE
      obtain ⟨p7, c7, rfl, hc7, hm7, hO7, hb7⟩ := EndN.f hE
      have hX7 := HX5.out.call hb7; have hB7 := HB5.out.trans (hb7.mono hs5); have hQ7 := HQ5.out.call hb7; have hA7 := HO5.out.call hb7
      have hcb : CB.length ≤ 8 := by have := HCL.out; rw [stB_len] at this; omega
      clear hE hb7 HX5 HB5 HQ5 HO5 HC2 HPM HCL
      go_wp2_with fail
      go_loopw [60] (fun v wr => ∃ k : Nat, k ≤ CB.length ∧ v = .int .i64 k ∧ Ix wr X R (1000 * LL.length) (stB (lf LL) LL.length) ∧ Its wr pq Q ∧ Ones wr (Value.int .i64) p5 CA ∧ Ones wr (Value.int .i64) p7 CB ∧ Below w.heap.size w wr) (fun v _ => CB.length - (intOf v).toNat)
      case atStart => exact ⟨0, Nat.zero_le _, rfl, hX7, hQ7, hA7, hO7, hB7⟩
      case round =>
        clear hX7 hQ7 hA7 hO7 hB7
        obtain ⟨k, hk, rfl, hX, hQ, hA, hO, hB⟩ := hrel
        by_cases hlt : k < CB.length
        · obtain ⟨ab, rfl, hab, hcell⟩ := one_row hO k hlt
          have hin := HFL.out _ (List.getElem_mem hlt)
          have ik : (k : Int) < (CB.length : Int) := by omega
          have kc : (k : Int) < (c7 : Int) := by omega
          generalize CB[k] = y at *
          have hH := has_any p5 c5 CA y wr hA hc5 hm5
          rw [decide_eq_true hin] at hH
          have HH := Lib.hid hH
          have HF := Lib.hid (And.intro hX (And.intro hQ (And.intro hA (And.intro hO hB))))
          clear hH hin hX hQ hA hO hB
          go_wp2_with fail
          refine HH.out.mono ?_; rintro e w8 ⟨rfl, rfl⟩
          go_wp2_with fail
          go_roundw
          case rel =>
            obtain ⟨f1, f2, f3, f4, f5⟩ := HF.out
            exact ⟨k + 1, hlt, by go_num, f1, f2, f3, f4, f5⟩
          case measure => simp [intOf]; omega
        · obtain rfl : k = CB.length := by omega
          have hC0 := HC.out wr hX hQ 0
          have hz := cand_zero Q 0 (by omega) (stB (lf LL) LL.length) (fun s hs => by
            obtain ⟨j, hj, rfl⟩ := stB_mem _ _ s hs
            refine bou_small _ _ (by omega) ?_
            show (lf LL j).length ≤ 40
            rw [lf_at LL j hj]
            have h14 := HL14.out _ (List.getElem_mem hj)
            omega)
          rw [stB_len] at hz
          generalize cand (isCand Q 0) (stB (lf LL) LL.length) = C0 at *
          have HC0 := Lib.hid hC0; have HX := Lib.hid hX; have HQ := Lib.hid hQ; have HB := Lib.hid hB
          have hsw : w.heap.size ≤ wr.heap.size := hB.size
          clear hC0 hX hQ hA hO hB
          go_wp2_with fail
          refine HC0.out.mono ?_; rintro e w8 hE
          obtain ⟨p8, c8, rfl, _, _, _, hb8⟩ := EndN.f hE
          have HC1 := Lib.hid (HC.out w8 (HX.out.call hb8) (HQ.out.call hb8) 101)
          have HB8 := Lib.hid (HB.out.trans (hb8.mono hsw))
          have hov := cand_over Q 101 (by omega) (stB (lf LL) LL.length)
          rw [hov] at HC1
          have hs8 : w.heap.size ≤ w8.heap.size := HB8.out.size
          clear hE hb8 HX HQ hov HC0
          go_wp2_with fail
          refine HC1.out.mono ?_; rintro e w9 hE
          obtain ⟨p9, c9, rfl, _, _, _, hb9⟩ := EndN.f hE
          have HB9 := Lib.hid (HB8.out.trans (hb9.mono hs8))
          clear hE hb9
          go_wp2_with fail
          refine (HLV.out _ HB9.out).mono ?_; rintro e w10 ⟨rfl, hb10⟩
          have HB10 := Lib.hid hb10; clear hb10
          go_wp2_with fail
          go_ret
          exact ⟨rfl, HB10.out⟩
end Go.Proofs.Ythfgpagmepdblaa
namespace Go.Proofs.Ythfgpagmepdblaa.indexShrinks
open Go.ChangeShapes Go.WideShapes Go.ChangeAt Go.RowKit
open Go.ChangeMaps (open_string shut_string)
set_option linter.unusedVariables false
set_option maxRecDepth 100000

theorem own : ownKnob Try.prog.godebug = none := by kernel_rfl
theorem laidOut : laidOutB Try.prog = true := by kernel_rfl


set_option maxHeartbeats 1600000 in
theorem walk (p0 : Option Addr) (c0 : Nat) (a0 : List Int) (p1 : Option Addr) (c1 : Nat) (a1 : List Int) (a2 : Int) (a3 : Int) (w : World) (r0 : Ones w (Value.int .i64) p0 a0) (o0 : ∀ i (h : i < a0.length), (Lit.int .i64 (a0[i]'h)).wf = true) (n0 : a0.length ≤ c0) (m0 : c0 ≤ maxLen) (r1 : Ones w (Value.int .i64) p1 a1) (o1 : ∀ i (h : i < a1.length), (Lit.int .i64 (a1[i]'h)).wf = true) (n1 : a1.length ≤ c1) (m1 : c1 ≤ maxLen) (w2 : (Lit.int .i64 a2).wf = true) (w3 : (Lit.int .i64 a3).wf = true) :
    Calls Try.prog 4 #[.slice p0 a0.length c0, .slice p1 a1.length c1, .int .i64 a2, .int .i64 a3] w fun e w' => e = .returned (.bool true) ∧ Below w.heap.size w w' := by
  exact shrinks_law p0 c0 a0 p1 c1 a1 a2 a3 w r0 o0 n0 m0 r1 o1 n1 m1 w2 w3

theorem lifted (os : Os) (started : os.Started) (H : Type) (enc : TypeId × Value → H) :
    ReturnsInHanded {} Try.checked os 4 .any (Rows.indexShrinksSpec.pre6 enc Try.prog Try.f4 Rows.indexShrinksRow.domain false) (Rows.indexShrinksSpec.post enc Try.prog Try.f4 false true false false) := by
  refine returnsInHanded_of_change_sized (C := Try.checked) own started (by kernel_rfl) Try.func4
    (ChangeSpec.witness6 (enc := enc) (C := Try.checked) false ⟨#[], #[.slice none 0 0, .slice none 0 0, .int .i64 0, .int .i64 0], []⟩ 8 (by kernel_rfl) (by kernel_rfl) (by kernel_rfl) (by kernel_rfl)) ?_
  intro W base args ds gs before hval0 hW hcnd hsz0 _
  have hval : ∀ (j : Nat) t v, Try.f4.params[j]? = some t → args[j]? = some v → Value.okWide Try.prog W .any base t v := hval0
  have hW' := hW
  have hlt : ∀ x ∈ before, x.block < W.heap.size := fun x hx => hW'.lt x hx
  obtain ⟨p, q, hA0, hV, rfl, hfz, hnd⟩ := hW
  have hA : DataW.TrodAll enc Try.prog W 0 (fun _ => true) true Try.f4.params.toList args.toList ds p := hA0
  rw [Try.params4] at hA hval hsz0
  obtain ⟨v0, vs0, d0, ds0, p0, q0, hargs, rfl, rfl, h0, r0⟩ := trodAll_cons hA
  obtain ⟨v1, vs1, d1, ds1, p1, q1, rfl, rfl, rfl, h1, r1⟩ := trodAll_cons r0
  obtain ⟨v2, vs2, d2, ds2, p2, q2, rfl, rfl, rfl, h2, r2⟩ := trodAll_cons r1
  obtain ⟨v3, vs3, d3, ds3, p3, q3, rfl, rfl, rfl, h3, r3⟩ := trodAll_cons r2
  obtain ⟨rfl, rfl, rfl⟩ := trodAll_nil r3
  obtain rfl : args = #[v0, v1, v2, v3] := by cases args; simp_all
  obtain ⟨rfl, rfl⟩ := trodVars_none hV
  have hsz := hsz0; clear hsz0
  obtain ⟨pp0, c0, a0, rfl, n0, m0, y0, o0⟩ := opened_ints (okBase (hval 0 22 v0 rfl rfl)) h0
  obtain ⟨pp1, c1, a1, rfl, n1, m1, y1, o1⟩ := opened_ints (okBase (hval 1 22 v1 rfl rfl)) h1
  obtain ⟨a2, rfl, -, -, w2⟩ := open_int Try.underlying3 (hval 2 3 v2 rfl rfl) h2
  obtain ⟨a3, rfl, -, -, w3⟩ := open_int Try.underlying3 (hval 3 3 v3 rfl rfl) h3
  clear hA0 hval0
  refine (walk pp0 c0 a0 pp1 c1 a1 a2 a3 W y0 o0 n0 m0 y1 o1 n1 m1 w2 w3).mono fun e W' ⟨he, bel⟩ => ?_
  subst he
  exact ⟨_, rfl, _, _, _, [], _, [], hW', trodAll_mk1 (shut_bool Try.underlying4 _), (trodAll_cons_mk (Below.trod laidOut (by kernel_rfl) (of_decide_eq_true (by kernel_rfl)) h0 bel (fun x hx => hlt x (by simp [hx]))) (trodAll_cons_mk (Below.trod laidOut (by kernel_rfl) (of_decide_eq_true (by kernel_rfl)) h1 bel (fun x hx => hlt x (by simp [hx]))) (trodAll_cons_mk (Below.trod laidOut (by kernel_rfl) (of_decide_eq_true (by kernel_rfl)) h2 bel (fun x hx => hlt x (by simp [hx]))) (trodAll_cons_mk (Below.trod laidOut (by kernel_rfl) (of_decide_eq_true (by kernel_rfl)) h3 bel (fun x hx => hlt x (by simp [hx]))) trodAll_mk0)))), rfl, bel.frame _, fun h => by cases h⟩

theorem over : Rows.indexShrinksRow.holds Try.pinned (OpenSpec.ofChange Rows.indexShrinksSpec) :=
  OpenClaim.holds_of_wide 4 Try.f4 rfl rfl rfl rfl rfl rfl rfl ⟨rfl, rfl, rfl, rfl, rfl⟩ rfl rfl rfl rfl rfl (by kernel_rfl) Try.func4 (by kernel_rfl)
    (of_decide_eq_true (by kernel_rfl)) (by unfold Func.isWrapper; first | (rw [if_pos (by decide +kernel)]; kernel_rfl) | (rw [if_neg (by decide +kernel)]; exact ⟨rfl, rfl⟩))
    (fun os started H enc _ => lifted os started H enc)

theorem proved : Rows.IndexShrinksSaid := over
#print axioms proved
end Go.Proofs.Ythfgpagmepdblaa.indexShrinks
