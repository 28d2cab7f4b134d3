/- Index: the walk of IndexPlays. The law IndexPlays holds for every input. -/
import Derived.Test.YthfgpagmepdblaaGreatIzA
import Derived.Test.YthfgpagmepdblaaGreatIzB
import Derived.Test.YthfgpagmepdblaaGreatScA
import Derived.Test.YthfgpagmepdblaaGreatRows
import Derived.WalkKit
import Derived.ProofKit
import Derived.OpenShut
import Derived.ChangeOld
import Derived.Below
import Derived.Carry
import Derived.SizedLaws
import Derived.Test.YthfgpagmepdblaaGreatTka
namespace Go.Proofs.YthfgpagmepdblaaGreat
open Go.ChangeShapes Go.WideShapes Go.ChangeAt Go.RowKit Go.Maps
set_option linter.unusedVariables false
set_option linter.unusedSimpArgs false
set_option maxRecDepth 100000

theorem rwo_of_ones {W : World} {p : Option Addr} {LL : List LV} (h : Ones W lvS p LL) : RwO lenc W p LL := fun h0 => by
  obtain ⟨a, e1, h1, h2⟩ := h h0
  refine ⟨a, e1, h1, fun j u hj => ?_⟩
  rw [cellsL] at hj
  have hj1 : j < LL.length := by have := (List.getElem?_eq_some_iff.1 hj).1; rwa [List.length_map] at this
  rw [List.getElem?_map, List.getElem?_eq_getElem hj1] at hj
  rw [h2 j hj1]; exact hj
theorem ones_of_rwo {W : World} {p : Option Addr} {LL : List LV} (h : RwO lenc W p LL) : Ones W lvS p LL := fun h0 => by
  obtain ⟨a, e1, h1, h2⟩ := h h0
  refine ⟨a, e1, h1, fun i hi => h2 i _ ?_⟩
  rw [cellsL, List.getElem?_map, List.getElem?_eq_getElem hi]; rfl
theorem lok_small {q : List It} (hO : Oks q) (hs : smlB q = true) : LOk q := by
  unfold smlB at hs
  rw [Bool.and_eq_true, decide_eq_true_eq, decide_eq_true_eq] at hs
  refine ⟨by omega, fun x hx => ?_⟩
  have h1 := txt_mem _ x hx
  obtain ⟨i, hi, rfl⟩ := List.getElem_of_mem hx
  exact ⟨(hO i hi).k, by omega⟩
/-- The lists that are asked for. -/
structure AskL (W : World) (A : List LV) : Prop where
  its : ∀ x ∈ A, Its W x.p x.l ∧ x.l.length ≤ x.c ∧ x.c ≤ maxLen ∧ LOk x.l
theorem AskL.call {W W' : World} {A : List LV} (h : AskL W A) (hb : Below W.heap.size W W') : AskL W' A := ⟨fun x hx => ⟨(h.its x hx).1.call hb, (h.its x hx).2⟩⟩
set_option maxHeartbeats 25600000 in
theorem plays_law (p0 : Option Addr) (c0 : Nat) (l : List Int) (p1 : Option Addr) (c1 : Nat) (m : List Int) (p2 : Option Addr) (c2 : Nat) (q : List It) (pc : Int) (w : World) (r0 : Ones w (Value.int .i64) p0 l) (o0 : ∀ i (h : i < l.length), (Lit.int .i64 (l[i]'h)).wf = true) (n0 : l.length ≤ c0) (m0 : c0 ≤ maxLen) (r1 : Ones w (Value.int .i64) p1 m) (o1 : ∀ i (h : i < m.length), (Lit.int .i64 (m[i]'h)).wf = true) (n1 : m.length ≤ c1) (m1 : c1 ≤ maxLen) (r2 : Its w p2 q) (o2 : Oks q) (n2 : q.length ≤ c2) (m2 : c2 ≤ maxLen) (w3h : (Lit.int .i64 pc).wf = true) :
    Calls Tryz.prog 3 #[.slice p0 l.length c0, .slice p1 m.length c1, .slice p2 q.length c2, .int .i64 pc] w fun e w' => e = .returned (.bool true) ∧ Below w.heap.size w w' := by
  have leave : ∀ W, Below w.heap.size w W → Calls Tryz.prog 5 #[] W fun e w' => e = .returned (.bool true) ∧ Below w.heap.size w w' := fun W h => (iknown_any W).mono fun e w' ⟨a, b⟩ => ⟨a, h.trans (b.mono h.size)⟩
  have HLV := Lib.hid leave
  clear leave
  by_cases hl1 : 150 < l.length
  · have q1 : (150 : Int) < (l.length : Int) := by omega
    go_enter Tryz.func3, Tryz.ntmps3
    go_wp2_with fail
    refine (HLV.out _ (Below.refl _ _)).mono ?_; rintro e w1 ⟨rfl, hb⟩
    have HB := Lib.hid hb; clear hb
    go_wp2_with fail
    go_ret
    exact ⟨rfl, HB.out⟩
  by_cases hl2 : 120 < m.length
  · have q1 : ¬ (150 : Int) < (l.length : Int) := by omega
    have q2 : (120 : Int) < (m.length : Int) := by omega
    go_enter Tryz.func3, Tryz.ntmps3
    go_wp2_with fail
    refine (HLV.out _ (Below.refl _ _)).mono ?_; rintro e w1 ⟨rfl, hb⟩
    have HB := Lib.hid hb; clear hb
    go_wp2_with fail
    go_ret
    exact ⟨rfl, HB.out⟩
  have q1 : ¬ (150 : Int) < (l.length : Int) := by omega
  have q2 : ¬ (120 : Int) < (m.length : Int) := by omega
  have hSm := small15_any p2 c2 q w r2 o2 n2 m2
  cases hsm : smlB q with
  | false =>
    rw [hsm] at hSm
    have HSM := Lib.hid hSm
    clear hSm hsm
    go_enter Tryz.func3, Tryz.ntmps3
    go_wp2_with fail
    refine HSM.out.mono ?_; rintro e w1 ⟨rfl, rfl⟩
    go_wp2_with fail
    refine (HLV.out _ (Below.refl _ _)).mono ?_; rintro e w1 ⟨rfl, hb⟩
    have HB := Lib.hid hb; clear hb
    go_wp2_with fail
    go_ret
    exact ⟨rfl, HB.out⟩
  | true =>
    rw [hsm] at hSm
    have HSM := Lib.hid hSm
    have HLQ := Lib.hid (lok_small o2 hsm)
    have HM := Lib.hid (And.intro r1 (And.intro o1 (And.intro n1 m1)))
    have HL := Lib.hid (And.intro r0 (And.intro o0 (And.intro n0 m0)))
    have HQ := Lib.hid (And.intro r2 (And.intro n2 m2))
    clear hSm hsm r0 o0 n0 m0 r1 o1 n1 m1 r2 o2 n2 m2
    go_enter Tryz.func3, Tryz.ntmps3
    go_wp2_with fail
    refine HSM.out.mono ?_; rintro e w0 ⟨rfl, rfl⟩
    go_wp2_with fail
    refine (new_any w).mono ?_; rintro e w1 ⟨rfl, hX, hb1⟩
    generalize hXE : w.heap.size + 2 = X at *
    have HX1 := Lib.hid hX; have HB1 := Lib.hid hb1
    have hs1 : w.heap.size ≤ w1.heap.size := hb1.size
    obtain ⟨r0, o0, n0, m0⟩ := HL.out
    have HBS := Lib.hid (base_lo_any p0 c0 l w1 (r0.call hb1) o0 n0 m0)
    clear hX hb1 HSM r0 o0 n0 m0 HL q1 q2
    go_wp2_with fail
    refine HBS.out.mono ?_; rintro e w2 ⟨qa, ca, LL, rfl, hL8, hLc, hcm, hBB, hb2, hBL⟩
    have hs2 : w1.heap.size ≤ w2.heap.size := hb2.size
    obtain ⟨r1, o1, n1, m1⟩ := HM.out
    have hb12 : Below w.heap.size w w2 := BelowOn HB1.out hb2
    have hNu : NumsAt (w2.alloc (.cells #[.slice p1 m.length c1, .int .i64 0] 33)) w2.heap.size p1 c1 m 0 := NumsAt.made (r1.call hb12) o1 n1 m1
    have hb3 : Below w2.heap.size w2 (w2.alloc (.cells #[.slice p1 m.length c1, .int .i64 0] 33)) := blw (Below.refl _ _) _
    have hX3 : Ix (w2.alloc (.cells #[.slice p1 m.length c1, .int .i64 0] 33)) X (fun k => w.heap.size ≤ k ∧ k < w1.heap.size) (1000 * 0) (([] : List SV).map SV.sto) := (HX1.out.call hb2).call hb3
    have hP3 : PlS w w2.heap.size w1.heap.size w2.heap.size p1 c1 m qa LL (fun k => w.heap.size ≤ k ∧ k < w1.heap.size) none [] 0 (w2.alloc (.cells #[.slice p1 m.length c1, .int .i64 0] 33)) :=
      ⟨BelowOn hb12 hb3, hNu, hBB.call hb3, hBL, Nat.le_refl _, hs1, hs2, RwO.nil _ _, fun h0 => absurd h0 (by simp), fun s hs => (by cases hs), fun j hj => ⟨hj.1, .inl hj.2, by have := hj.2; omega⟩, fun h0 => ones_any r1 h0⟩
    have hPl := place_any pc 104 (w2.alloc (.cells #[.slice p1 m.length c1, .int .i64 0] 33)) (by omega) (by omega) w3h
    generalize hP0 : pc % 104 = P0 at *
    have HPL := Lib.hid hPl; have HX3 := Lib.hid hX3; have HP3 := Lib.hid hP3
    have hbE : w2.heap.size = w2.heap.size := rfl
    clear hNu hb3 hX3 hP3 hPl HBS HX1 hBB hBL hb2 hb12 r1 o1 n1 m1 HM HB1 hbE
    go_wp2_with fail
    generalize (w2.alloc (.cells #[.slice p1 m.length c1, .int .i64 0] 33)) = w3 at *
    refine HPL.out.mono ?_; rintro e w4 ⟨rfl, rfl⟩
    generalize hloE : w1.heap.size = lo at *
    generalize hbE : w2.heap.size = b at *
    have hdv : ((m.length : Nat) : Int).tdiv 3 = ((m.length / 3 : Nat) : Int) := by rw [Int.tdiv_eq_ediv_of_nonneg (by omega)]; rfl
    have hD : m.length / 3 ≤ 40 := by omega
    generalize m.length / 3 = D at *
    have hX3 := HX3.out; have hP3 := HP3.out
    clear HPL HX3 HP3
    go_wp2_with fail
    go_loopw [11, 14] (fun v i wr => ∃ (k mm : Nat) (ps : Option Addr) (cs : Nat) (SS : List SV) (R : Nat → Prop), k ≤ D ∧ i = .int .i64 k ∧ v = .slice ps SS.length cs ∧ Ix wr X R (1000 * k) (SS.map SV.sto) ∧ PlS w b lo b p1 c1 m qa LL R ps SS mm wr ∧ Aside (mm ≤ 3 * k ∧ SS.length ≤ k ∧ SS.length ≤ cs ∧ cs ≤ maxLen)) (fun _ i _ => D - (intOf i).toNat)
    case atStart => exact ⟨0, 0, none, 0, [], _, Nat.zero_le _, rfl, rfl, hX3, hP3, by omega, Nat.le_refl _, Nat.le_refl _, Nat.zero_le _⟩
    case round =>
      clear hX3 hP3
      obtain ⟨k, mm, ps, cs, SS, R, hk, rfl, rfl, hX, hP, hZ⟩ := hrel
      obtain ⟨z1, z2, z3, z4⟩ := hZ.out
      by_cases hlt : k < D
      · have hSt := lstep_any hX hP hLc hcm z3 z4 (by omega) hL8 (by omega) (by omega)
        have HST := Lib.hid hSt
        have ik : (k : Int) < (D : Int) := by omega
        clear hSt hX hP hZ
        go_wp2_with fail
        refine HST.out.mono ?_; rintro e w5 ⟨ps', cs', SS', R', m', rfl, hX', hm', hP', g1, g2, g3⟩
        have hLn := len_any hX'
        rw [List.length_map] at hLn
        have HLN := Lib.hid hLn
        have HF := Lib.hid (And.intro hX' (And.intro hP' (And.intro hm' (And.intro g1 (And.intro g2 g3)))))
        clear hX' hP' hm' g1 g2 g3 hLn HST
        go_wp2_with fail
        refine HLN.out.mono ?_; rintro e w6 ⟨rfl, rfl⟩
        go_wp2_with fail
        go_roundw
        case rel =>
          obtain ⟨f1, f2, f3, f4, f5, f6⟩ := HF.out
          exact ⟨k + 1, m', ps', cs', SS', R', hlt, by go_num, rfl, f1.mono (by omega), f2, by omega, by omega, f5, f6⟩
        case measure => simp [intOf]; omega
      · obtain rfl : D = k := by omega
        obtain ⟨r2, n2, m2⟩ := HQ.out
        have hQr := r2.call hP.below
        have hba : Below wr.heap.size wr (wr.alloc (.cells #[.slice p2 q.length c2] 23)) := blw (Below.refl _ _) _
        have hlit := own_litG2 eL (L := [(⟨p2, c2, q⟩ : LV)]) (base := wr.heap.size) (heap_alloc_new wr (.cells #[.slice p2 q.length c2] 23)) (Nat.le_refl _) rfl (by unfold maxLen; simp)
        have hPa := hP.call hba
        obtain ⟨v2, w6, hrun, hown, hg⟩ := append_el eL _ 28 wr.heap.size [(⟨p2, c2, q⟩ : LV)] LL _ qa ca hlit (rwo_of_ones hPa.bb.ones) hba.size (by simp; omega) (by omega)
        have hb6 : Below wr.heap.size wr w6 := hba.grown hg hba.size (fun k hk => (hlit.lt k hk).1)
        obtain ⟨pv, cv, rfl, hv1, hv2, hv3, _⟩ := own_rwo eL hown
        have hAsk : AskL w6 ([(⟨p2, c2, q⟩ : LV)] ++ LL) := ⟨fun x hx => (List.mem_append.1 hx).elim (fun h => by rw [List.mem_singleton] at h; subst h; exact ⟨hQr.call hb6, n2, m2, HLQ.out⟩) (fun h => by
          obtain ⟨a1, a2, a3, _⟩ := (hP.call hb6).bb.its x h
          exact ⟨a1, a2, a3, ((hP.bb.ok x h).lok (by omega))⟩)⟩
        have hX6 := hX.call hb6; have hP6 := hP.call hb6; have hO6 := ones_of_rwo hv3
        have hQ6 := hQr.call hb6
        have hAL : ([(⟨p2, c2, q⟩ : LV)] ++ LL).length ≤ 9 := by simp; omega
        have hrun' : (Builtin.append_ #[28, 28] 28 #[.slice (some ⟨wr.heap.size, 0, none⟩) 1 1, .slice qa LL.length ca]).run Tryz.prog (wr.alloc (.cells #[.slice p2 q.length c2] 23)) = .ok (.slice pv ([(⟨p2, c2, q⟩ : LV)] ++ LL).length cv) w6 := hrun
        generalize [(⟨p2, c2, q⟩ : LV)] ++ LL = A at *
        have HX := Lib.hid hX6; have HP := Lib.hid hP6; have HO := Lib.hid hO6; have HA := Lib.hid hAsk; have HQ6 := Lib.hid hQ6
        unfold maxLen at hv2
        have HN2 := Lib.hid (And.intro n2 m2)
        have HZ := Lib.hid hZ.out
        clear hX hP hZ hQr r2 hlit hPa hrun hown hg hb6 hv3 hAsk hX6 hP6 hO6 hQ6 hba n2 m2 HQ
        go_wp2_with (at_builtin; refine Lib.wpList_append_run _ rfl _ _ 28 28 rfl _ _ rfl rfl _ w6 hrun' ?_)
        go_loopw [71] (fun i wr => ∃ k : Nat, k ≤ A.length ∧ i = .int .i64 k ∧ Ix wr X R (1000 * D) (SS.map SV.sto) ∧ PlS w b lo b p1 c1 m qa LL R ps SS mm wr ∧ Ones wr lvS pv A ∧ AskL wr A ∧ Its wr p2 q) (fun i _ => A.length - (intOf i).toNat)
        case atStart => exact ⟨0, Nat.zero_le _, rfl, HX.out, HP.out, HO.out, HA.out, HQ6.out⟩
        case round =>
          clear HX HP HO HA HQ6 hrun'
          obtain ⟨k, hk, rfl, hX, hP, hO, hA, hQ6⟩ := hrel
          by_cases hlt2 : k < A.length
          · obtain ⟨ax, rfl, hax, hcell⟩ := one_row hO k hlt2
            obtain ⟨i1, i2, i3, i4⟩ := hA.its _ (List.getElem_mem hlt2)
            have hcell2 : wr.cell? (ax.add k) = some (.slice (A[k]).p (A[k]).l.length (A[k]).c) := hcell
            have ik : (k : Int) < (A.length : Int) := by omega
            generalize A[k] = x at *
            have hC := cand_any hX i1 i2 i3 i4 P0 (by omega) (by rw [List.length_map]; omega)
            have HRC := Lib.hid (fun W (hP : PlS w b lo b p1 c1 m qa LL R ps SS mm W) (hI : Its W x.p x.l) => rcand_any ps x.p cs x.c SS x.l W hP.row hP.svs z3 z4 hI i2 i3 i4 P0 (by omega))
            generalize cand (isCand x.l P0) (SS.map SV.sto) = C at *
            have HC := Lib.hid hC; have HX := Lib.hid hX; have HP := Lib.hid hP; have HO := Lib.hid hO; have HA := Lib.hid hA; have HQ6 := Lib.hid hQ6; have HI := Lib.hid i1
            clear hC hX hP hO hA hQ6 i1 i2 i3 i4 hcell
            go_wp2_with fail
            refine HC.out.mono ?_; rintro e w7 hE
            obtain ⟨p7, c7, rfl, hc7, hm7, hO7, hb7⟩ := EndN.f hE
            have HR7 := Lib.hid (HRC.out w7 (HP.out.call hb7) (HI.out.call hb7))
            have HO7 := Lib.hid hO7; have HB7 := Lib.hid hb7
            clear hE hO7 hb7 HC HRC hcell2
            go_wp2_with fail
            refine HR7.out.mono ?_; rintro e w8 hE
            obtain ⟨p8, c8, rfl, hc8, hm8, hO8, hb8⟩ := EndN.f hE
            have hS := sameints_any p7 p8 c7 c8 C C w8 (HO7.out.call hb8) hO8 hc7 hc8 hm7 hm8
            rw [decide_eq_true rfl] at hS
            have HS := Lib.hid hS; have HB8 := Lib.hid (BelowOn HB7.out hb8)
            clear hE hO8 hb8 hS HR7 HO7
            go_wp2_with fail
            refine HS.out.mono ?_; rintro e w9 ⟨rfl, hb9⟩
            have HB9 := Lib.hid (BelowOn HB8.out hb9); clear hb9
            go_wp2_with fail
            go_roundw
            case rel => exact ⟨k + 1, hlt2, by go_num, HX.out.call HB9.out, HP.out.call HB9.out, HO.out.call HB9.out, HA.out.call HB9.out, HQ6.out.call HB9.out⟩
            case measure => simp [intOf]; omega
          · obtain rfl : k = A.length := by omega
            obtain ⟨n2, m2⟩ := HN2.out
            have hC := cand_any hX hQ6 n2 m2 HLQ.out pc (by omega) (by rw [List.length_map]; omega)
            have HRC := Lib.hid (fun W (hP : PlS w b lo b p1 c1 m qa LL R ps SS mm W) (hI : Its W p2 q) => rcand_any ps p2 cs c2 SS q W hP.row hP.svs z3 z4 hI n2 m2 HLQ.out pc (by omega))
            generalize cand (isCand q pc) (SS.map SV.sto) = C at *
            have HC := Lib.hid hC; have HP := Lib.hid hP; have HQ6 := Lib.hid hQ6
            clear hC hX hP hO hA hQ6 n2 m2
            go_wp2_with fail
            refine HC.out.mono ?_; rintro e w7 hE
            obtain ⟨p7, c7, rfl, hc7, hm7, hO7, hb7⟩ := EndN.f hE
            have HR7 := Lib.hid (HRC.out w7 (HP.out.call hb7) (HQ6.out.call hb7))
            have HO7 := Lib.hid hO7; have HB7 := Lib.hid (BelowOn HP.out.below hb7)
            clear hE hO7 hb7 HC HRC
            go_wp2_with fail
            refine HR7.out.mono ?_; rintro e w8 hE
            obtain ⟨p8, c8, rfl, hc8, hm8, hO8, hb8⟩ := EndN.f hE
            have hS := sameints_any p7 p8 c7 c8 C C w8 (HO7.out.call hb8) hO8 hc7 hc8 hm7 hm8
            rw [decide_eq_true rfl] at hS
            have HS := Lib.hid hS; have HB8 := Lib.hid (BelowOn HB7.out hb8)
            clear hE hO8 hb8 hS HR7 HO7
            go_wp2_with fail
            refine HS.out.mono ?_; rintro e w9 ⟨rfl, hb9⟩
            have HB9 := Lib.hid (BelowOn HB8.out hb9); clear hb9
            go_wp2_with fail
            refine (HLV.out _ HB9.out).mono ?_; rintro e w10 ⟨rfl, hb10⟩
            have HB10 := Lib.hid hb10; clear hb10
            go_wp2_with fail
            go_ret
            exact ⟨rfl, HB10.out⟩
end Go.Proofs.YthfgpagmepdblaaGreat
namespace Go.Proofs.YthfgpagmepdblaaGreat.indexPlays
open Go.ChangeShapes Go.WideShapes Go.ChangeAt Go.RowKit
open Go.ChangeMaps (open_string shut_string)
set_option linter.unusedVariables false
set_option maxRecDepth 100000

theorem own : ownKnob Tryz.prog.godebug = none := by kernel_rfl
theorem laidOut : laidOutB Tryz.prog = true := by kernel_rfl


set_option maxHeartbeats 1600000 in
theorem walk (p0 : Option Addr) (c0 : Nat) (a0 : List Int) (p1 : Option Addr) (c1 : Nat) (a1 : List Int) (p2 : Option Addr) (c2 : Nat) (a2 : List It) (a3 : Int) (w : World) (r0 : Ones w (Value.int .i64) p0 a0) (o0 : ∀ i (h : i < a0.length), (Lit.int .i64 (a0[i]'h)).wf = true) (n0 : a0.length ≤ c0) (m0 : c0 ≤ maxLen) (r1 : Ones w (Value.int .i64) p1 a1) (o1 : ∀ i (h : i < a1.length), (Lit.int .i64 (a1[i]'h)).wf = true) (n1 : a1.length ≤ c1) (m1 : c1 ≤ maxLen) (r2 : Its w p2 a2) (o2 : Oks a2) (n2 : a2.length ≤ c2) (m2 : c2 ≤ maxLen) (w3 : (Lit.int .i64 a3).wf = true) :
    Calls Tryz.prog 3 #[.slice p0 a0.length c0, .slice p1 a1.length c1, .slice p2 a2.length c2, .int .i64 a3] w fun e w' => e = .returned (.bool true) ∧ Below w.heap.size w w' := by
  exact plays_law p0 c0 a0 p1 c1 a1 p2 c2 a2 a3 w r0 o0 n0 m0 r1 o1 n1 m1 r2 o2 n2 m2 w3

theorem lifted (os : Os) (started : os.Started) (H : Type) (enc : TypeId × Value → H) :
    ReturnsInHanded {} Tryz.checked os 3 .any (Rows.indexPlaysSpec.pre6 enc Tryz.prog Tryz.f3 Rows.indexPlaysRow.domain false) (Rows.indexPlaysSpec.post enc Tryz.prog Tryz.f3 false true false false) := by
  refine returnsInHanded_of_change_sized (C := Tryz.checked) own started (by kernel_rfl) Tryz.func3
    (ChangeSpec.witness6 (enc := enc) (C := Tryz.checked) false ⟨#[], #[.slice none 0 0, .slice none 0 0, .slice none 0 0, .int .i64 0], []⟩ 8 (by kernel_rfl) (by kernel_rfl) (by kernel_rfl) (by kernel_rfl)) ?_
  intro W base args ds gs before hval0 hW hcnd hsz0 _
  have hval : ∀ (j : Nat) t v, Tryz.f3.params[j]? = some t → args[j]? = some v → Value.okWide Tryz.prog W .any base t v := hval0
  have hW' := hW
  have hlt : ∀ x ∈ before, x.block < W.heap.size := fun x hx => hW'.lt x hx
  obtain ⟨p, q, hA0, hV, rfl, hfz, hnd⟩ := hW
  have hA : DataW.TrodAll enc Tryz.prog W 0 (fun _ => true) true Tryz.f3.params.toList args.toList ds p := hA0
  rw [Tryz.params3] at hA hval hsz0
  obtain ⟨v0, vs0, d0, ds0, p0, q0, hargs, rfl, rfl, h0, r0⟩ := trodAll_cons hA
  obtain ⟨v1, vs1, d1, ds1, p1, q1, rfl, rfl, rfl, h1, r1⟩ := trodAll_cons r0
  obtain ⟨v2, vs2, d2, ds2, p2, q2, rfl, rfl, rfl, h2, r2⟩ := trodAll_cons r1
  obtain ⟨v3, vs3, d3, ds3, p3, q3, rfl, rfl, rfl, h3, r3⟩ := trodAll_cons r2
  obtain ⟨rfl, rfl, rfl⟩ := trodAll_nil r3
  obtain rfl : args = #[v0, v1, v2, v3] := by cases args; simp_all
  obtain ⟨rfl, rfl⟩ := trodVars_none hV
  have hsz := hsz0; clear hsz0
  obtain ⟨pp0, c0, a0, rfl, n0, m0, y0, o0⟩ := opened_ints (okBase (hval 0 22 v0 rfl rfl)) h0
  obtain ⟨pp1, c1, a1, rfl, n1, m1, y1, o1⟩ := opened_ints (okBase (hval 1 22 v1 rfl rfl)) h1
  obtain ⟨pp2, c2, a2, rfl, n2, m2, y2, o2⟩ := opened_tf (okBase (hval 2 23 v2 rfl rfl)) h2 (fun n hn => by simpa using List.all_eq_true.1 hsz n (DataW.weights_mem_each (j := 2) rfl rfl n hn))
  obtain ⟨a3, rfl, -, -, w3⟩ := open_int Tryz.underlying3 (hval 3 3 v3 rfl rfl) h3
  clear hA0 hval0
  refine (walk pp0 c0 a0 pp1 c1 a1 pp2 c2 a2 a3 W y0 o0 n0 m0 y1 o1 n1 m1 y2 o2 n2 m2 w3).mono fun e W' ⟨he, bel⟩ => ?_
  subst he
  exact ⟨_, rfl, _, _, _, [], _, [], hW', trodAll_mk1 (shut_bool Tryz.underlying4 _), (trodAll_cons_mk (Below.trod laidOut (by kernel_rfl) (of_decide_eq_true (by kernel_rfl)) h0 bel (fun x hx => hlt x (by simp [hx]))) (trodAll_cons_mk (Below.trod laidOut (by kernel_rfl) (of_decide_eq_true (by kernel_rfl)) h1 bel (fun x hx => hlt x (by simp [hx]))) (trodAll_cons_mk (Below.trod laidOut (by kernel_rfl) (of_decide_eq_true (by kernel_rfl)) h2 bel (fun x hx => hlt x (by simp [hx]))) (trodAll_cons_mk (Below.trod laidOut (by kernel_rfl) (of_decide_eq_true (by kernel_rfl)) h3 bel (fun x hx => hlt x (by simp [hx]))) trodAll_mk0)))), rfl, bel.frame _, fun h => by cases h⟩

theorem over : Rows.indexPlaysRow.holds Tryz.pinned (OpenSpec.ofChange Rows.indexPlaysSpec) :=
  OpenClaim.holds_of_wide 3 Tryz.f3 rfl rfl rfl rfl rfl rfl rfl ⟨rfl, rfl, rfl, rfl, rfl⟩ rfl rfl rfl rfl rfl (by kernel_rfl) Tryz.func3 (by kernel_rfl)
    (of_decide_eq_true (by kernel_rfl)) (by unfold Func.isWrapper; first | (rw [if_pos (by decide +kernel)]; kernel_rfl) | (rw [if_neg (by decide +kernel)]; exact ⟨rfl, rfl⟩))
    (fun os started H enc _ => lifted os started H enc)

theorem proved : Rows.IndexPlaysSaid := over
#print axioms proved
end Go.Proofs.YthfgpagmepdblaaGreat.indexPlays
