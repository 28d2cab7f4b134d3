/- Shingle: the walk of ShingleSymmetric. The law ShingleSymmetric holds for every input. -/
import Derived.Test.YtncdjfgoigaflaaSgE
import Derived.Test.YtncdjfgoigaflaaRows
import Derived.WalkKit
import Derived.ProofKit
import Derived.OpenShut
import Derived.ChangeOld
import Derived.Below
import Derived.Carry
import Derived.SizedLaws
import Derived.Test.YtncdjfgoigaflaaTka
namespace Go.Proofs.Ytncdjfgoigaflaa
open Go.ChangeShapes Go.WideShapes Go.ChangeAt Go.RowKit
set_option linter.unusedVariables false
set_option linter.unusedSimpArgs false
set_option maxRecDepth 100000

theorem lowU_two (c : UInt8) : lowU (lowU c) = lowU c := by
  apply UInt8.toNat_inj.1
  rw [lowU_toNat, lowU_toNat]
  split
  · rw [if_neg (by omega)]
  · rfl
theorem low_two (s : ByteArray) : low (low s) = low s := by
  unfold low
  simp only [Array.map_map]
  congr 2
  funext c
  exact lowU_two c
theorem keyT_two (k : Int) (t : ByteArray) : keyT k (keyT k t) = keyT k t := by
  unfold keyT
  by_cases h : k = 6
  · rw [if_pos h, if_pos h, low_two]
  · rw [if_neg h, if_neg h]
def nmT (x : It) : It := ⟨x.k, keyT x.k x.t, 0⟩
theorem clT_nm (x : It) : clT (nmT x) = clT x := by unfold clT nmT; simp [keyT_two]
theorem clsL_nm (l : List It) : clsL (l.map nmT) = clsL l := by unfold clsL; rw [List.map_map]; exact List.map_congr_left fun x _ => clT_nm x
theorem nmT_word (x : It) (h : x.k = 6) : nmT x = ⟨x.k, keyT 6 x.t, 0⟩ := by unfold nmT; rw [h]
theorem nmT_not (x : It) (h : ¬ x.k = 6) : nmT x = ⟨x.k, x.t, 0⟩ := by unfold nmT keyT; rw [if_neg h]
set_option maxHeartbeats 12800000 in
theorem symmetric_law (p0 : Option Addr) (c0 : Nat) (l : List Int) (p1 : Option Addr) (c1 : Nat) (m : List Int) (w : World)
    (r0 : Ones w (Value.int .i64) p0 l) (o0 : ∀ i (h : i < l.length), (Lit.int .i64 (l[i]'h)).wf = true) (n0 : l.length ≤ c0) (m0 : c0 ≤ maxLen)
    (r1 : Ones w (Value.int .i64) p1 m) (o1 : ∀ i (h : i < m.length), (Lit.int .i64 (m[i]'h)).wf = true) (n1 : m.length ≤ c1) (m1 : c1 ≤ maxLen) :
    Calls Try.prog 8 #[.slice p0 l.length c0, .slice p1 m.length c1] w fun e w' => e = .returned (.bool true) ∧ Below w.heap.size w w' := by
  have M0 := Lib.hid (smade_any p0 c0 l 16 w r0 o0 n0 m0 (by omega))
  have NR := Lib.hid (fun W p c (h : Br W p c (mkD l 16)) (g3 : Ones W (Value.int .i64) p1 m) => near_any p p1 c c1 (mkD l 16) m W h.its h.le h.cm g3 o1 n1 m1 (by have := mkD_len l 16; omega) (mkD_txt9 l 16))
  have R1 := Lib.hid r1
  have lA := mkD_len l 16; have tA := mkD_txt9 l 16; have kA := mkD_kind l 16
  have lN := nearL_len m (mkD l 16)
  unfold maxLen at m0 m1
  clear r0 r1 o0 o1
  have leave : ∀ W, Below w.heap.size w W → Calls Try.prog 11 #[] W fun e w' => e = .returned (.bool true) ∧ Below w.heap.size w w' := fun W h => (hknown_any W).mono (fun e w' hh => ⟨hh.1, BelowOn h hh.2⟩)
  have LV := Lib.hid leave
  clear leave
  by_cases z0 : 60 < l.length
  · go_enter Try.func8, Try.ntmps8
    go_wp2_with fail
    refine (LV.out _ (Below.refl _ _)).mono ?_; rintro e w1 ⟨rfl, hb⟩
    go_wp2_with fail
    go_ret
    exact ⟨rfl, hb⟩
  by_cases z1 : 60 < m.length
  · go_enter Try.func8, Try.ntmps8
    go_wp2_with fail
    refine (LV.out _ (Below.refl _ _)).mono ?_; rintro e w1 ⟨rfl, hb⟩
    go_wp2_with fail
    go_ret
    exact ⟨rfl, hb⟩
  go_enter Try.func8, Try.ntmps8
  go_wp2_with fail
  refine M0.out.mono ?_; rintro e w1 hE
  obtain ⟨pa, ca, rfl, hA, hb1⟩ := br_made (by omega) hE
  clear hE M0
  go_wp2_with fail
  refine (NR.out _ _ _ hA (R1.out.call hb1)).mono ?_; rintro e w2 hE
  obtain ⟨pb, cb, rfl, hB, hb2⟩ := br_near (by omega) tA kA hE
  have HB0 := Lib.hid (BelowOn hb1 hb2)
  have HA := Lib.hid (hA.call hb2); have HB := Lib.hid hB
  clear hE hb1 hb2 NR R1 hA hB tA kA
  generalize nearL m (mkD l 16) = B at *
  generalize mkD l 16 = A at *
  have lB : B.length ≤ 32 := by omega
  have HK := Lib.hid (fun x id W h => rkey_any 6 x id W h)
  go_wp2_with fail
  go_loopw [7, 26] (fun v i wr => ∃ k : Nat, k ≤ B.length ∧ i = .int .i64 k ∧ AccT w2 ((B.take k).map nmT) v wr) (fun _ i _ => B.length - (intOf i).toNat)
  case atStart => exact ⟨0, Nat.zero_le _, rfl, Acc.start w2⟩
  case round =>
    obtain ⟨k, hk, rfl, hC⟩ := hrel
    by_cases hlt : k < B.length
    · obtain ⟨ad, rfl, had, x0, x1, x2⟩ := (HB.out.its.call hC.below).row k hlt
      have hnx : (B.take (k + 1)).map nmT = (B.take k).map nmT ++ [nmT B[k]] := by rw [List.take_succ_eq_append_getElem hlt, List.map_append]; rfl
      have hsz := (HB.out.ok _ (List.getElem_mem hlt)).2
      have hlen : ((B.take k).map nmT).length ≤ 32 := by simp; omega
      have ik : (k : Int) < (B.length : Int) := by omega
      have hn1 := nmT_word (B[k]'hlt)
      have hn2 := nmT_not (B[k]'hlt)
      generalize B[k] = x at *
      generalize (B.take k).map nmT = out at *
      have HNX := Lib.hid hnx
      clear hnx
      have hv := Var3.newT wr x.k x.t 0
      have hn := heap_alloc_new wr (.cells #[.int .i64 x.k, .string x.t, .int .i64 0] 44)
      have hbv : Below wr.heap.size wr (wr.alloc (.cells #[.int .i64 x.k, .string x.t, .int .i64 0] 44)) := blw (Below.refl _ _) _
      have hC1 := hC.call hbv
      have hown : ∀ kk, _ → _ := fun kk e => (World.ownsRow.lt hC.own kk e)
      have hge := hC.below.size
      by_cases h6 : x.k = 6
      · have q6 : (x.k == 6) = true := by simp [h6]
        have hN := hn1 h6
        have hk6 := HK.out x.t 0 (wr.alloc (.cells #[.int .i64 x.k, .string x.t, .int .i64 0] 44)) hsz
        rw [← h6] at hk6 hN
        have HKK := Lib.hid hk6; have HN := Lib.hid hN
        clear hk6 hN hn1 hn2 h6
        generalize keyT x.k x.t = K at *
        obtain ⟨v0, v1, v2, vl⟩ := hv
        go_wp2_with fail
        refine HKK.out.mono ?_; rintro e w5 ⟨rfl, hb5⟩
        have hC5 := hC1.call hb5
        have hn5 := keep_heap hn hb5
        have y0 := (hb5.cell (p := ⟨wr.heap.size, 0, none⟩) vl).trans v0
        have y1 := (hb5.cell (p := ⟨wr.heap.size, 1, none⟩) vl).trans v1
        have y2 := (hb5.cell (p := ⟨wr.heap.size, 2, none⟩) vl).trans v2
        have f1 : w5.frozen? ⟨wr.heap.size, 1, none⟩ = false := Lib.frozen_of_heap hn5 _
        have hgc := grow_cell w5 wr.heap.size 1 (.string K)
        have hCb := below_of_grow hC5.below hgc hC5.below.size hge
        have hCo : OwnT w2.heap.size out _ (w5.setCell ⟨wr.heap.size, 1, none⟩ (.string K)) := OwnL.keepAt hC5.own (fun kk e => Below.heap_setCell w5 ⟨wr.heap.size, 1, none⟩ _ kk (fun e2 => by have := (hown kk e).2; simp at e2; omega))
        have hs5 := setCell_at w5 wr.heap.size 1 _ _ (.string K) hn5
        have HC6 := Lib.hid (And.intro hCb (And.intro hCo hs5))
        clear v0 v1 v2 vl hn hn5 hC hC1 hC5 hb5 hbv hgc hCb hCo hs5 HKK x0 x1 x2 had
        go_upto_region 12 with (fail)
        obtain ⟨hCb, hCo, hs5⟩ := HC6.out
        generalize (w5.setCell ⟨wr.heap.size, 1, none⟩ (.string K)) = w6 at *
        have z0' : w6.cell? ⟨wr.heap.size, 0, none⟩ = some (.int .i64 x.k) := by rw [Lib.cell_of_heap hs5]; rfl
        have z1' : w6.cell? ⟨wr.heap.size, 1, none⟩ = some (.string K) := by rw [Lib.cell_of_heap hs5]; rfl
        have z2' : w6.cell? ⟨wr.heap.size, 2, none⟩ = some (.int .i64 0) := by rw [Lib.cell_of_heap hs5]; rfl
        have hC6 : AccT w2 out _ w6 := ⟨hCb, hCo⟩
        clear hs5 y0 y1 y2 f1
        go_wp2_with (at_builtin; refine wpl_append eT _ rfl _ _ rfl w2 out _ rfl (hC6.alloc _) (⟨x.k, K, 0⟩ : It) _ _ rfl (heap_alloc_new _ _) rfl (by omega) (by unfold maxLen; omega) ?_; intro v' w7 hA7 hb7)
        go_wp2_with fail
        go_roundw
        case rel => exact ⟨k + 1, hlt, by go_num, by rw [HNX.out, HN.out]; exact hA7⟩
        case measure => simp [intOf]; omega
      · have q6 : (x.k == 6) = false := by simp [h6]
        have HN := Lib.hid (hn2 h6)
        clear hn1 hn2 h6
        go_wp2_with (at_builtin; refine wpl_append eT _ rfl _ _ rfl w2 out _ rfl (hC1.alloc _) (⟨x.k, x.t, 0⟩ : It) _ _ rfl (heap_new2 _ _ _) rfl (by omega) (by unfold maxLen; omega) ?_; intro v' w7 hA7 hb7)
        go_wp2_with fail
        go_roundw
        case rel => exact ⟨k + 1, hlt, by go_num, by rw [HNX.out, HN.out]; exact hA7⟩
        case measure => simp [intOf]; omega
    · obtain rfl : k = B.length := by omega
      rw [List.take_length] at hC
      obtain ⟨pc, cc, rfl, i1, j1, hI⟩ := OwnT.its hC.own
      have hCc : Br wr pc cc (B.map nmT) := ⟨hI, i1, j1, by simp; omega, fun y hy => by
        rw [List.mem_map] at hy
        obtain ⟨x, hx, rfl⟩ := hy
        have := HB.out.ok x hx
        exact ⟨this.1, by show (keyT x.k x.t).size ≤ 1000; rw [keyT_sz]; exact this.2⟩⟩
      have hA := HA.out.call hC.below
      have hB := HB.out.call hC.below
      have HW := Lib.hid (BelowOn HB0.out hC.below)
      have e1 : bouN B A = bouN A B := bou_comm B A
      have e2 : bouN A A = 0 := bou_self A (by omega)
      have e3 : bouN A (B.map nmT) = bouN A B := bou_cls A B _ (clsL_nm B)
      have hlc : (B.map nmT).length = B.length := by simp
      obtain ⟨x, X⟩ : ∃ x : Nat, x = bouN A B := ⟨_, rfl⟩
      rw [← X] at e1 e3
      have HE := Lib.hid (And.intro X.symm (And.intro e1 (And.intro e2 e3)))
      clear X e1 e2 e3 hC hI HA HB HB0
      generalize B.map nmT = C at *
      clear hlc
      have HQ := Lib.hid (And.intro hA (And.intro hB hCc))
      clear hA hB hCc
      obtain ⟨hA, hB, hC⟩ := HQ.out
      have hh := hA.bound hB
      rw [HE.out.1] at hh
      have HH := Lib.hid hh
      clear hA hB hC hh
      go_wp2_with fail
      refine HH.out.mono ?_; rintro e w7 ⟨rfl, hb⟩
      replace HQ := Lib.hid (And.intro (HQ.out.1.call hb) (And.intro (HQ.out.2.1.call hb) (HQ.out.2.2.call hb)))
      replace HW := Lib.hid (BelowOn HW.out hb)
      clear hb HH
      obtain ⟨hA, hB, hC⟩ := HQ.out
      have hh := hB.bound hA
      rw [HE.out.2.1] at hh
      have HH := Lib.hid hh
      clear hA hB hC hh
      go_wp2_with fail
      refine HH.out.mono ?_; rintro e w8 ⟨rfl, hb⟩
      replace HQ := Lib.hid (And.intro (HQ.out.1.call hb) (And.intro (HQ.out.2.1.call hb) (HQ.out.2.2.call hb)))
      replace HW := Lib.hid (BelowOn HW.out hb)
      clear hb HH
      obtain ⟨hA, hB, hC⟩ := HQ.out
      have hh := hA.bound hA
      rw [HE.out.2.2.1] at hh
      have HH := Lib.hid hh
      clear hA hB hC hh
      go_wp2_with fail
      refine HH.out.mono ?_; rintro e w9 ⟨rfl, hb⟩
      replace HQ := Lib.hid (And.intro (HQ.out.1.call hb) (And.intro (HQ.out.2.1.call hb) (HQ.out.2.2.call hb)))
      replace HW := Lib.hid (BelowOn HW.out hb)
      clear hb HH
      obtain ⟨hA, hB, hC⟩ := HQ.out
      have hh := hA.bound hC
      rw [HE.out.2.2.2] at hh
      have HH := Lib.hid hh
      clear hA hB hC hh
      go_wp2_with fail
      refine HH.out.mono ?_; rintro e w10 ⟨rfl, hb⟩
      replace HQ := Lib.hid (And.intro (HQ.out.1.call hb) (And.intro (HQ.out.2.1.call hb) (HQ.out.2.2.call hb)))
      replace HW := Lib.hid (BelowOn HW.out hb)
      clear hb HH
      obtain ⟨hA, hB, hC⟩ := HQ.out
      have hh := hA.bound hB
      rw [HE.out.1] at hh
      have HH := Lib.hid hh
      clear hA hB hC hh
      go_wp2_with fail
      refine HH.out.mono ?_; rintro e w11 ⟨rfl, hb⟩
      replace HW := Lib.hid (BelowOn HW.out hb)
      clear hb HH
      go_wp2_with fail
      refine (LV.out _ HW.out).mono ?_; rintro e w12 ⟨rfl, hb⟩
      go_wp2_with fail
      go_ret
      exact ⟨rfl, hb⟩
end Go.Proofs.Ytncdjfgoigaflaa
namespace Go.Proofs.Ytncdjfgoigaflaa.shingleSymmetric
open Go.ChangeShapes Go.WideShapes Go.ChangeAt Go.RowKit
open Go.ChangeMaps (open_string shut_string)
set_option linter.unusedVariables false
set_option maxRecDepth 100000

theorem own : ownKnob Try.prog.godebug = none := by kernel_rfl
theorem laidOut : laidOutB Try.prog = true := by kernel_rfl


set_option maxHeartbeats 1600000 in
theorem walk (p0 : Option Addr) (c0 : Nat) (a0 : List Int) (p1 : Option Addr) (c1 : Nat) (a1 : List Int) (w : World) (r0 : Ones w (Value.int .i64) p0 a0) (o0 : ∀ i (h : i < a0.length), (Lit.int .i64 (a0[i]'h)).wf = true) (n0 : a0.length ≤ c0) (m0 : c0 ≤ maxLen) (r1 : Ones w (Value.int .i64) p1 a1) (o1 : ∀ i (h : i < a1.length), (Lit.int .i64 (a1[i]'h)).wf = true) (n1 : a1.length ≤ c1) (m1 : c1 ≤ maxLen) :
    Calls Try.prog 8 #[.slice p0 a0.length c0, .slice p1 a1.length c1] w fun e w' => e = .returned (.bool true) ∧ Below w.heap.size w w' := by
  exact symmetric_law p0 c0 a0 p1 c1 a1 w r0 o0 n0 m0 r1 o1 n1 m1

theorem lifted (os : Os) (started : os.Started) (H : Type) (enc : TypeId × Value → H) :
    ReturnsInHanded {} Try.checked os 8 .any (Rows.shingleSymmetricSpec.pre6 enc Try.prog Try.f8 Rows.shingleSymmetricRow.domain false) (Rows.shingleSymmetricSpec.post enc Try.prog Try.f8 false true false false) := by
  refine returnsInHanded_of_change_sized (C := Try.checked) own started (by kernel_rfl) Try.func8
    (ChangeSpec.witness6 (enc := enc) (C := Try.checked) false ⟨#[], #[.slice none 0 0, .slice none 0 0], []⟩ 8 (by kernel_rfl) (by kernel_rfl) (by kernel_rfl) (by kernel_rfl)) ?_
  intro W base args ds gs before hval0 hW hcnd hsz0 _
  have hval : ∀ (j : Nat) t v, Try.f8.params[j]? = some t → args[j]? = some v → Value.okWide Try.prog W .any base t v := hval0
  have hW' := hW
  have hlt : ∀ x ∈ before, x.block < W.heap.size := fun x hx => hW'.lt x hx
  obtain ⟨p, q, hA0, hV, rfl, hfz, hnd⟩ := hW
  have hA : DataW.TrodAll enc Try.prog W 0 (fun _ => true) true Try.f8.params.toList args.toList ds p := hA0
  rw [Try.params8] at hA hval hsz0
  obtain ⟨v0, vs0, d0, ds0, p0, q0, hargs, rfl, rfl, h0, r0⟩ := trodAll_cons hA
  obtain ⟨v1, vs1, d1, ds1, p1, q1, rfl, rfl, rfl, h1, r1⟩ := trodAll_cons r0
  obtain ⟨rfl, rfl, rfl⟩ := trodAll_nil r1
  obtain rfl : args = #[v0, v1] := by cases args; simp_all
  obtain ⟨rfl, rfl⟩ := trodVars_none hV
  have hsz := hsz0; clear hsz0
  obtain ⟨pp0, c0, a0, rfl, n0, m0, y0, o0⟩ := opened_ints (okBase (hval 0 24 v0 rfl rfl)) h0
  obtain ⟨pp1, c1, a1, rfl, n1, m1, y1, o1⟩ := opened_ints (okBase (hval 1 24 v1 rfl rfl)) h1
  clear hA0 hval0
  refine (walk pp0 c0 a0 pp1 c1 a1 W y0 o0 n0 m0 y1 o1 n1 m1).mono fun e W' ⟨he, bel⟩ => ?_
  subst he
  exact ⟨_, rfl, _, _, _, [], _, [], hW', trodAll_mk1 (shut_bool Try.underlying4 _), (trodAll_cons_mk (Below.trod laidOut (by kernel_rfl) (of_decide_eq_true (by kernel_rfl)) h0 bel (fun x hx => hlt x (by simp [hx]))) (trodAll_cons_mk (Below.trod laidOut (by kernel_rfl) (of_decide_eq_true (by kernel_rfl)) h1 bel (fun x hx => hlt x (by simp [hx]))) trodAll_mk0)), rfl, bel.frame _, fun h => by cases h⟩

theorem over : Rows.shingleSymmetricRow.holds Try.pinned (OpenSpec.ofChange Rows.shingleSymmetricSpec) :=
  OpenClaim.holds_of_wide 8 Try.f8 rfl rfl rfl rfl rfl rfl rfl ⟨rfl, rfl, rfl, rfl, rfl⟩ rfl rfl rfl rfl rfl (by kernel_rfl) Try.func8 (by kernel_rfl)
    (of_decide_eq_true (by kernel_rfl)) (by unfold Func.isWrapper; first | (rw [if_pos (by decide +kernel)]; kernel_rfl) | (rw [if_neg (by decide +kernel)]; exact ⟨rfl, rfl⟩))
    (fun os started H enc _ => lifted os started H enc)

theorem proved : Rows.ShingleSymmetricSaid := over
#print axioms proved
end Go.Proofs.Ytncdjfgoigaflaa.shingleSymmetric
