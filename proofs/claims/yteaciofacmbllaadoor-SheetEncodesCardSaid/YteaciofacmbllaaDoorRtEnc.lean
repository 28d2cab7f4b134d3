/- The walk of SheetEncodes. The law SheetEncodes holds for every input. -/
import Derived.Test.YteaciofacmbllaaDoorRtU
import Derived.Test.YteaciofacmbllaaDoorRtE
import Derived.Test.YteaciofacmbllaaDoorRows
import Derived.WalkKit
import Derived.ProofKit
import Derived.OpenShut
import Derived.ChangeOld
import Derived.Below
import Derived.Carry
import Derived.SizedLaws
import Derived.Test.YteaciofacmbllaaDoorCards
import Derived.Test.YteaciofacmbllaaDoorTie
import Derived.Stop.Joined
import Derived.SevenTiedAt
import Derived.Lay
import Derived.MakeChecks
import Derived.Test.YteaciofacmbllaaDoorArf
namespace Go.Proofs.YteaciofacmbllaaDoor
open Go.ChangeShapes Go.WideShapes Go.ChangeAt Go.RowKit
set_option linter.unusedVariables false
set_option linter.unusedSimpArgs false
set_option maxRecDepth 100000

/-- Is a list short? -/
def fewR (l : List It) : Bool := decide (l.length ≤ 30) && decide (txtI l ≤ 500)
theorem fewr_any (p : Option Addr) (cap : Nat) (l : List It) (w : World) (hR : Its w p l) (hO : Oks l) (hc : l.length ≤ cap) (hm : cap ≤ maxLen) :
    Calls Tryd.prog 22 #[.slice p l.length cap] w fun e w' => e = .returned (.bool (fewR l)) ∧ w = w' := by
  unfold maxLen at hm
  have hsum : l.length ≤ 30 → ∀ k, k ≤ l.length → txtI (l.take k) ≤ k * 140737488355328 := fun h30 k => by
    intro hk
    induction k with
    | zero => simp [txtI]
    | succ j ih =>
      rw [txtI_next l j (by omega)]
      have := ih (by omega)
      have h1 := (hO j (by omega)).t
      omega
  have HS := Lib.hid hsum; clear hsum
  go_enter Tryd.func22, Tryd.ntmps22
  go_wp2_with fail
  go_loop [3, 7] (fun v i => ∃ k : Nat, ∃ z : Int, k ≤ l.length ∧ i = .int .i64 k ∧ v = .int .i64 z ∧ Hid (l.length ≤ 30 → z = txtI (l.take k))) (fun _ i => l.length - (intOf i).toNat)
  case atStart => exact ⟨0, 0, Nat.zero_le _, rfl, rfl, Lib.hid (fun _ => rfl)⟩
  case round =>
    obtain ⟨k, z, hk, rfl, rfl, HZ⟩ := hrel
    by_cases hlt : k < l.length
    · obtain ⟨a, rfl, ha, c0, c1, c2⟩ := hR.row k hlt
      have hn := txtI_next l k hlt
      have HN := Lib.hid hn; clear hn
      go_wp2_with fail
      go_round
      case rel =>
        refine ⟨k + 1, _, hlt, by go_num, rfl, Lib.hid (fun h30 => ?_)⟩
        have b := HS.out h30 (k + 1) hlt
        rw [HN.out] at b ⊢
        rw [HZ.out h30]
        unfold wrap64
        omega
      case measure => simp [intOf]; omega
    · obtain rfl : k = l.length := by omega
      rw [List.take_length] at HZ
      by_cases h30 : l.length ≤ 30
      · have hz := HZ.out h30
        go_wp2_with fail
        go_ret
        exact ⟨ret_bool (by unfold fewR; rw [Bool.eq_iff_iff]; simp [h30]; omega), rfl⟩
      · go_wp2_with fail
        go_ret
        exact ⟨ret_bool (by unfold fewR; simp [h30]), rfl⟩

set_option maxHeartbeats 3200000 in
theorem encodes_any (p0 : Option Addr) (c0 : Nat) (a0 : List It) (p1 : Option Addr) (c1 : Nat) (a1 : List Int) (w : World) (r0 : Its w p0 a0) (o0 : Oks a0) (n0 : a0.length ≤ c0) (m0 : c0 ≤ maxLen) (r1 : Ones w (Value.int .i64) p1 a1) (o1 : ∀ i (h : i < a1.length), (Lit.int .i64 (a1[i]'h)).wf = true) (n1 : a1.length ≤ c1) (m1 : c1 ≤ maxLen) :
    Calls Tryd.prog 5 #[.slice p0 a0.length c0, .slice p1 a1.length c1] w fun e w' => e = .returned (.bool true) ∧ Below w.heap.size w w' := by
  have HK := Lib.hid known_any
  have hf := fun W i => fewr_any p0 c0 a0 W i o0 n0 m0
  have HFW := Lib.hid hf
  clear hf
  by_cases hB : fewR a0 = true ∧ a1.length ≤ 100
  case neg =>
    cases hfw : fewR a0
    · rw [hfw] at HFW
      clear hB hfw r1 o1
      go_enter Tryd.func5, Tryd.ntmps5
      go_wp2_with fail
      refine (HFW.out _ r0).mono ?_; rintro e w1 ⟨rfl, rfl⟩
      go_wp2_with fail
      refine (HK.out _).mono ?_; rintro e w2 ⟨rfl, hb⟩
      go_wp2_with fail
      go_ret
      exact ⟨rfl, hb⟩
    · have z1 : 100 < a1.length := by
        by_cases h : a1.length ≤ 100
        · exact absurd ⟨hfw, h⟩ hB
        · omega
      rw [hfw] at HFW
      clear hB hfw r1 o1
      go_enter Tryd.func5, Tryd.ntmps5
      go_wp2_with fail
      refine (HFW.out _ r0).mono ?_; rintro e w1 ⟨rfl, rfl⟩
      go_wp2_with fail
      refine (HK.out _).mono ?_; rintro e w2 ⟨rfl, hb⟩
      go_wp2_with fail
      go_ret
      exact ⟨rfl, hb⟩
  obtain ⟨hfw, l1⟩ := hB
  rw [hfw] at HFW
  clear hfw
  have q1 : decide (100 < a1.length) = false := decide_eq_false (by omega)
  have v1 := (mk_ok a1 true false).valid (by decide)
  have g2 := (mk_ok a1 true false).txt
  have x1 := oks_valid (valE_zero v1).2.2 (show txtI (mk a1 true false) ≤ 140737488355328 by omega)
  have hN := NumsAt.made r1 o1 n1 m1
  have hf := fragment_any w.heap.size p1 c1 a1 0 true false 8 8 rfl _ hN (fun h0 a ha => by have := ones_any r1 h0 a ha; simp; omega) (by omega) (by omega)
  have HF := Lib.hid hf; clear hf hN
  rw [show (fragG a1 true false 0 8).1 = mk a1 true false from rfl] at HF
  have hend : ∀ v w2, Below w.heap.size w w2 → OwnL 58 3 ienc w.heap.size (mk a1 true false) v w2 → EndF (mk a1 true false) w (.returned v) w2 := fun v w2 h1 h2 => EndI.f ⟨v, rfl, h1, h2⟩
  have HEND := Lib.hid hend; clear hend



  have e0 := fun W (i : Its W p0 a0) => rencode_any p0 c0 a0 W i o0 n0 m0
  have e1 := fun W (i : Its W p0 a0) => refencode_any p0 c0 a0 W i o0 n0 m0
  generalize mk a1 true false = F at *
  have e2 := fun p c W (i : Its W p F) (a : F.length ≤ c) (b : c ≤ maxLen) => rencode_any p c F W i x1 a b
  have e3 := fun p c W (i : Its W p F) (a : F.length ≤ c) (b : c ≤ maxLen) => refencode_any p c F W i x1 a b
  generalize (encE F).1 = SF at *
  generalize (encE F).2 = EF at *
  generalize (encE a0).1 = SA at *
  generalize (encE a0).2 = EA at *
  have E0 := Lib.hid e0; have E1 := Lib.hid e1; have E2 := Lib.hid e2; have E3 := Lib.hid e3
  clear e0 e1 e2 e3 v1 g2 x1 o1
  unfold maxLen at m1
  go_enter Tryd.func5, Tryd.ntmps5
  go_wp2_with fail
  refine (HFW.out _ r0).mono ?_; rintro e w1 ⟨rfl, rfl⟩
  go_wp2_with fail
  refine (HF.out).mono ?_
  rintro e w2 ⟨v, rfl, hg, hN2, hown⟩
  have hb : Below w.heap.size w w2 := (blw (Below.refl w.heap.size w) _).trans (grown_below hg (Nat.le_refl _) (by simp))
  have hown2 := ownsRow_base hown (show w.heap.size ≤ _ by simp)
  have h := HEND.out _ _ hb hown2
  obtain ⟨p4, c4, hv, a4, b4, i4, _⟩ := h
  injection hv with hv
  subst hv
  clear hN2 hown hown2 hg
  have bl := hb
  have r0 := r0.call hb
  clear hb
  go_wp2_with fail
  refine (E0.out _ r0).mono ?_; rintro e w3 ⟨rfl, hb⟩
  have r0 := r0.call hb; have i4 := i4.call hb; have bl := BelowOn bl hb; clear hb
  go_wp2_with fail
  refine (E1.out _ r0).mono ?_; rintro e w4 ⟨rfl, hb⟩
  have i4 := i4.call hb; have bl := BelowOn bl hb; clear hb r0
  go_wp2_with fail
  refine (E2.out _ _ _ i4 a4 b4).mono ?_; rintro e w5 ⟨rfl, hb⟩
  have i4 := i4.call hb; have bl := BelowOn bl hb; clear hb
  go_wp2_with fail
  refine (E3.out _ _ _ i4 a4 b4).mono ?_; rintro e w6 ⟨rfl, hb⟩
  have bl := BelowOn bl hb; clear hb i4
  go_wp2_with fail
  refine (HK.out _).mono ?_; rintro e w7 ⟨rfl, hb⟩
  have bl := BelowOn bl hb; clear hb
  go_wp2_with fail
  go_ret
  exact ⟨rfl, bl⟩
end Go.Proofs.YteaciofacmbllaaDoor
namespace Go.Proofs.YteaciofacmbllaaDoor.sheetEncodes
open Go.ChangeShapes Go.WideShapes Go.ChangeAt Go.RowKit
open Go.ChangeMaps (open_string shut_string)
set_option linter.unusedVariables false
set_option maxRecDepth 100000

theorem own : ownKnob Tryd.prog.godebug = none := by kernel_rfl
theorem laidOut : laidOutB Tryd.prog = true := by kernel_rfl


set_option maxHeartbeats 1600000 in
theorem walk (p0 : Option Addr) (c0 : Nat) (a0 : List It) (p1 : Option Addr) (c1 : Nat) (a1 : List Int) (w : World) (r0 : Its w p0 a0) (o0 : Oks a0) (n0 : a0.length ≤ c0) (m0 : c0 ≤ maxLen) (r1 : Ones w (Value.int .i64) p1 a1) (o1 : ∀ i (h : i < a1.length), (Lit.int .i64 (a1[i]'h)).wf = true) (n1 : a1.length ≤ c1) (m1 : c1 ≤ maxLen) :
    Calls Tryd.prog 5 #[.slice p0 a0.length c0, .slice p1 a1.length c1] w fun e w' => e = .returned (.bool true) ∧ Below w.heap.size w w' := by
  exact encodes_any p0 c0 a0 p1 c1 a1 w r0 o0 n0 m0 r1 o1 n1 m1

theorem lifted (os : Os) (started : os.Started) (H : Type) (enc : TypeId × Value → H) :
    ReturnsInHanded {} Tryd.checked os 5 .any (fun w args => (Rows.sheetEncodesSpec.pre enc Tryd.prog Tryd.f5 Rows.sheetEncodesRow.domain false w args ∧ laidMetH Tryd.prog Rows.sheetEncodesRow.laid w) ∧ sizedMet enc Tryd.prog Tryd.f5 (OpenSpec.ofChange Rows.sheetEncodesSpec) false w args)
      (Rows.sheetEncodesSpec.post enc Tryd.prog Tryd.f5 false true false false) := by
  refine returnsInHanded_of_change_and (C := Tryd.checked) (X := fun w _ => laidMetH Tryd.prog Rows.sheetEncodesRow.laid w) (fun _ _ _ hh h => h.of_heap hh) own started (by kernel_rfl) Tryd.func5
    (ChangeSpec.witness_shaped (enc := enc) (C := Tryd.checked) (os := os) (X := fun w _ => laidMetH Tryd.prog Rows.sheetEncodesRow.laid w) false (World.laidAll Tryd.prog os Rows.sheetEncodesRow.laid) #[.slice none 0 0, .slice none 0 0] 8 (World.laidAll_os _ _ _) (World.shaped_of_ZipB (by kernel_rfl) (by kernel_rfl)) (by kernel_rfl) (by kernel_rfl) (by kernel_rfl) (by rw [MakeChecks.laidMetH_plain _ _ _ (by kernel_rfl)]; exact laidMet_laidAll _ (by kernel_rfl) (by kernel_rfl))) ?_
  intro W base args ds gs before hval0 hW hcnd hsz0 hL _
  have hval : ∀ (j : Nat) t v, Tryd.f5.params[j]? = some t → args[j]? = some v → Value.okWide Tryd.prog W .any base t v := hval0
  have hW' := hW
  have hlt : ∀ x ∈ before, x.block < W.heap.size := fun x hx => hW'.lt x hx
  obtain ⟨p, q, hA0, hV, rfl, hfz, hnd⟩ := hW
  have hA : DataW.TrodAll enc Tryd.prog W 0 (fun _ => true) true Tryd.f5.params.toList args.toList ds p := hA0
  rw [Tryd.params5] at hA hval hsz0
  obtain ⟨v0, vs0, d0, ds0, p0, q0, hargs, rfl, rfl, h0, r0⟩ := trodAll_cons hA
  obtain ⟨v1, vs1, d1, ds1, p1, q1, rfl, rfl, rfl, h1, r1⟩ := trodAll_cons r0
  obtain ⟨rfl, rfl, rfl⟩ := trodAll_nil r1
  obtain rfl : args = #[v0, v1] := by cases args; simp_all
  obtain ⟨rfl, rfl⟩ := trodVars_none hV
  have hsz := hsz0; clear hsz0
  obtain ⟨pp0, c0, a0, rfl, n0, m0, y0, o0⟩ := opened_f (okBase (hval 0 29 v0 rfl rfl)) h0 (fun n hn => by simpa using List.all_eq_true.1 hsz n (DataW.weights_mem_each (j := 0) rfl rfl n hn))
  obtain ⟨pp1, c1, a1, rfl, n1, m1, y1, o1⟩ := opened_ints (okBase (hval 1 32 v1 rfl rfl)) h1
  clear hA0 hval0
  refine (walk pp0 c0 a0 pp1 c1 a1 W y0 o0 n0 m0 y1 o1 n1 m1).mono fun e W' ⟨he, bel⟩ => ?_
  subst he
  exact ⟨_, rfl, _, _, _, [], _, [], hW', trodAll_mk1 (shut_bool Tryd.underlying4 _), (trodAll_cons_mk (Below.trod laidOut (by kernel_rfl) (of_decide_eq_true (by kernel_rfl)) h0 bel (fun x hx => hlt x (by simp [hx]))) (trodAll_cons_mk (Below.trod laidOut (by kernel_rfl) (of_decide_eq_true (by kernel_rfl)) h1 bel (fun x hx => hlt x (by simp [hx]))) trodAll_mk0)), rfl, bel.frame _, fun h => by cases h⟩

theorem over : Rows.SheetEncodesSaid :=
  OpenClaim.holds_of_wide 5 Tryd.f5 rfl rfl rfl rfl rfl rfl rfl ⟨rfl, rfl, rfl, rfl, rfl⟩ rfl rfl rfl rfl rfl (by kernel_rfl) Tryd.func5 (by kernel_rfl)
    (of_decide_eq_true (by kernel_rfl)) (by unfold Func.isWrapper; first | (rw [if_pos (by decide +kernel)]; kernel_rfl) | (rw [if_neg (by decide +kernel)]; exact ⟨rfl, rfl⟩))
    (fun os started H enc _ => lifted os started H enc)

theorem proved : Rows.SheetEncodesCardSaid :=
  Claim7.holds_tied_plain_at .later [] [.data, .data, .data] true (true, "a5b6abed314576cd32e3bf15c06510b1206821911040e32ccdbaea1ea5d6fcc3") false
    over (fun _ h => by cases h) (by kernel_rfl) (fun _ h => by cases h) sheetEncodes_row_tie rfl ⟨rfl, rfl⟩ (by kernel_rfl) rfl
    (fun f fn hf hfn => by
      obtain rfl : f = 5 := Option.some.inj ((show Tryd.prog.funcNamed "bitext/bitextlaw9.SheetEncodes" = some 5 by kernel_rfl).symm.trans hf) |>.symm
      obtain rfl : fn = Tryd.f5 := (Option.some.inj (Tryd.func5.symm.trans hfn)).symm
      exact ⟨by kernel_rfl, fun j t ht => by
        rw [Tryd.params5] at ht
        have hm : t ∈ [29, 32] := by simpa using Array.mem_of_getElem? ht
        have hall : ([29, 32].all fun u => !Tryd.prog.wantsStandIn u) = true := by kernel_rfl
        exact (show Tryd.prog.wantsStandIn t = false by simpa using List.all_eq_true.1 hall t hm)⟩)
    (by kernel_rfl)
#print axioms proved
end Go.Proofs.YteaciofacmbllaaDoor.sheetEncodes
