/- The law NotationFormats holds for every input. -/
import Derived.Test.YtaogjccmeajpoaaGreatDoorRows
import Derived.WalkKit
import Derived.ProofKit
import Derived.OpenShut
import Derived.ChangeOld
import Derived.Below
import Derived.Carry
import Derived.SizedLaws
import Derived.Test.YtaogjccmeajpoaaGreatDoorCards
import Derived.Test.YtaogjccmeajpoaaGreatDoorTie
import Derived.Stop.Joined
import Derived.SevenTiedAt
import Derived.Test.YtaogjccmeajpoaaGreatDoorArf
import Derived.Test.YtaogjccmeajpoaaGreatDoorNlf
import Derived.Test.YtaogjccmeajpoaaGreatDoorNtD
namespace Go.Proofs.YtaogjccmeajpoaaGreatDoor.notationFormats
open Go.ChangeShapes Go.WideShapes Go.ChangeAt Go.RowKit
open Go.ChangeMaps (open_string shut_string)
set_option linter.unusedVariables false
set_option maxRecDepth 100000

theorem own : ownKnob Tryz.prog.godebug = none := by kernel_rfl
theorem laidOut : laidOutB Tryz.prog = true := by kernel_rfl


set_option maxHeartbeats 1600000 in
theorem walk (p0 : Option Addr) (c0 : Nat) (a0 : List It) (p1 : Option Addr) (c1 : Nat) (a1 : List Int) (w : World) (r0 : Its w p0 a0) (o0 : Oks a0) (n0 : a0.length ≤ c0) (m0 : c0 ≤ maxLen) (r1 : Ones w (Value.int .i64) p1 a1) (o1 : ∀ i (h : i < a1.length), (Lit.int .i64 (a1[i]'h)).wf = true) (n1 : a1.length ≤ c1) (m1 : c1 ≤ maxLen) (hE : Env w.heap.size w) :
    Calls Tryz.prog 3 #[.slice p0 a0.length c0, .slice p1 a1.length c1] w fun e w' => e = .returned (.bool true) ∧ Below w.heap.size w w' := by
  have HK := Lib.hid known_any
  have HE := Lib.hid hE
  have hf := few4_any p0 c0 a0 w r0 o0 n0 m0
  cases hB : few4 a0
  case false =>
    rw [hB] at hf
    have FW := Lib.hid hf
    clear hE r0 r1 o0 o1 hf hB
    go_enter Tryz.func3, Tryz.ntmps3
    go_wp2_with fail
    refine (FW.out).mono ?_; rintro e w0 ⟨rfl, rfl⟩
    go_wp2_with fail
    refine (HK.out _ HE.out).mono ?_; rintro e w1 ⟨rfl, hb⟩
    go_wp2_with fail
    go_ret
    exact ⟨rfl, hb⟩
  rw [hB] at hf
  have FW := Lib.hid hf
  clear hf hB
  by_cases l1 : a1.length ≤ 100
  case neg =>
    have z1 : 100 < a1.length := by omega
    clear hE r0 r1 o0 o1 l1
    go_enter Tryz.func3, Tryz.ntmps3
    go_wp2_with fail
    refine (FW.out).mono ?_; rintro e w0 ⟨rfl, rfl⟩
    go_wp2_with fail
    refine (HK.out _ HE.out).mono ?_; rintro e w1 ⟨rfl, hb⟩
    go_wp2_with fail
    go_ret
    exact ⟨rfl, hb⟩
  have q1 : decide (100 < a1.length) = false := decide_eq_false (by omega)
  have M1 := Lib.hid (fun W h => nmade_any p1 c1 a1 W h o1 n1 m1)
  have v1 := mk_valid a1
  unfold EndF at M1
  generalize mk a1 true false = G at *
  have x1 := valid_oks v1
  have f0 := fun W i t => format_any p0 c0 a0 W i o0 n0 m0 t
  have g0 := fun W i => rformat_any p0 c0 a0 W i o0 n0 m0
  have f1 := fun p c W (i : Its W p G) (a : G.length ≤ c) (b : c ≤ maxLen) t => format_any p c G W i x1 a b t
  have g1 := fun p c W (i : Its W p G) (a : G.length ≤ c) (b : c ≤ maxLen) => rformat_any p c G W i x1 a b
  generalize fmtS a0 = S at *
  generalize fmtS G = T at *
  generalize valE a0 = y at *
  generalize valE G = z at *
  have F0 := Lib.hid f0; have F1 := Lib.hid f1; have G0 := Lib.hid g0; have G1 := Lib.hid g1
  clear f0 f1 g0 g1 x1 v1 hE o0 o1
  go_enter Tryz.func3, Tryz.ntmps3
  go_wp2_with fail
  refine (FW.out).mono ?_; rintro e w0 ⟨rfl, rfl⟩
  go_wp2_with fail
  refine (F0.out _ r0 HE.out.tab).mono ?_; rintro e w1 ⟨rfl, hb⟩
  have hE := HE.out.next hb; have r0 := r0.call hb; have r1 := r1.call hb; have bl := hb; clear HE hb FW
  go_wp2_with fail
  refine (G0.out _ r0).mono ?_; rintro e w2 ⟨rfl, hb⟩
  have hE := hE.next hb; have r1 := r1.call hb; have bl := BelowOn bl hb; clear hb r0
  go_wp2_with fail
  refine (M1.out _ r1).mono ?_; rintro e w3 ⟨p2, c2, rfl, a2, b2, i2, hb⟩
  have hE := hE.next hb; have r1 := r1.call hb; have bl := BelowOn bl hb; clear hb
  go_wp2_with fail
  refine (F1.out _ _ _ i2 a2 b2 hE.tab).mono ?_; rintro e w4 ⟨rfl, hb⟩
  have hE := hE.next hb; have r1 := r1.call hb; have bl := BelowOn bl hb; clear hb i2
  go_wp2_with fail
  refine (M1.out _ r1).mono ?_; rintro e w5 ⟨p3, c3, rfl, a3, b3, i3, hb⟩
  have hE := hE.next hb; have bl := BelowOn bl hb; clear hb r1
  go_wp2_with fail
  refine (G1.out _ _ _ i3 a3 b3).mono ?_; rintro e w6 ⟨rfl, hb⟩
  have hE := hE.next hb; have bl := BelowOn bl hb; clear hb i3
  go_wp2_with fail
  refine (HK.out _ hE).mono ?_; rintro e w7 ⟨rfl, hb⟩
  have bl := BelowOn bl hb; clear hb
  go_wp2_with fail
  go_ret
  exact ⟨rfl, bl⟩

theorem lifted (os : Os) (started : os.Started) (H : Type) (enc : TypeId × Value → H) :
    ReturnsInHanded {} Tryz.checked os 3 .any (fun w args => (Rows.notationFormatsSpec.pre enc Tryz.prog Tryz.f3 Rows.notationFormatsRow.domain false w args ∧ laidMetH Tryz.prog Rows.notationFormatsRow.laid w) ∧ sizedMet enc Tryz.prog Tryz.f3 (OpenSpec.ofChange Rows.notationFormatsSpec) false w args)
      (Rows.notationFormatsSpec.post enc Tryz.prog Tryz.f3 false true false false) := by
  refine returnsInHanded_of_change_and (C := Tryz.checked) (X := fun w _ => laidMetH Tryz.prog Rows.notationFormatsRow.laid w) (fun _ _ _ hh h => h.of_heap hh) own started (by kernel_rfl) Tryz.func3
    (ChangeSpec.witness_shaped (enc := enc) (C := Tryz.checked) (os := os) (X := fun w _ => laidMetH Tryz.prog Rows.notationFormatsRow.laid w) false (World.doorLaid Tryz.prog 62 os) #[.slice none 0 0, .slice none 0 0] 8 rfl (World.shaped_of_RefB (by kernel_rfl) (by kernel_rfl)) (by kernel_rfl) (by kernel_rfl) (by kernel_rfl) (door_met os _)) ?_
  intro W base args ds gs before hval0 hW hcnd hsz0 hL _
  have hval : ∀ (j : Nat) t v, Tryz.f3.params[j]? = some t → args[j]? = some v → Value.okWide Tryz.prog W .any base t v := hval0
  have hW' := hW
  have hlt : ∀ x ∈ before, x.block < W.heap.size := fun x hx => hW'.lt x hx
  obtain ⟨p, q, hA0, hV, rfl, hfz, hnd⟩ := hW
  have hA : DataW.TrodAll enc Tryz.prog W 0 (fun _ => true) true Tryz.f3.params.toList args.toList ds p := hA0
  rw [Tryz.params3] at hA hval hsz0
  obtain ⟨v0, vs0, d0, ds0, p0, q0, hargs, rfl, rfl, h0, r0⟩ := trodAll_cons hA
  obtain ⟨v1, vs1, d1, ds1, p1, q1, rfl, rfl, rfl, h1, r1⟩ := trodAll_cons r0
  obtain ⟨rfl, rfl, rfl⟩ := trodAll_nil r1
  obtain rfl : args = #[v0, v1] := by cases args; simp_all
  obtain ⟨rfl, rfl⟩ := trodVars_none hV
  have hsz := hsz0; clear hsz0
  obtain ⟨pp0, c0, a0, rfl, n0, m0, y0, o0⟩ := opened_f (okBase (hval 0 22 v0 rfl rfl)) h0 (fun n hn => by simpa using List.all_eq_true.1 hsz n (DataW.weights_mem_each (j := 0) rfl rfl n hn))
  obtain ⟨pp1, c1, a1, rfl, n1, m1, y1, o1⟩ := opened_ints (okBase (hval 1 23 v1 rfl rfl)) h1
  clear hA0 hval0
  refine (walk pp0 c0 a0 pp1 c1 a1 W y0 o0 n0 m0 y1 o1 n1 m1 (env_of_laid hL)).mono fun e W' ⟨he, bel⟩ => ?_
  subst he
  exact ⟨_, rfl, _, _, _, [], _, [], hW', trodAll_mk1 (shut_bool Tryz.underlying4 _), (trodAll_cons_mk (Below.trod laidOut (by kernel_rfl) (of_decide_eq_true (by kernel_rfl)) h0 bel (fun x hx => hlt x (by simp [hx]))) (trodAll_cons_mk (Below.trod laidOut (by kernel_rfl) (of_decide_eq_true (by kernel_rfl)) h1 bel (fun x hx => hlt x (by simp [hx]))) trodAll_mk0)), rfl, bel.frame _, fun h => by cases h⟩

theorem over : Rows.NotationFormatsSaid :=
  OpenClaim.holds_of_wide 3 Tryz.f3 rfl rfl rfl rfl rfl rfl rfl ⟨rfl, rfl, rfl, rfl, rfl⟩ rfl rfl rfl rfl rfl (by kernel_rfl) Tryz.func3 (by kernel_rfl)
    (of_decide_eq_true (by kernel_rfl)) (by unfold Func.isWrapper; first | (rw [if_pos (by decide +kernel)]; kernel_rfl) | (rw [if_neg (by decide +kernel)]; exact ⟨rfl, rfl⟩))
    (fun os started H enc _ => lifted os started H enc)

theorem proved : Rows.NotationFormatsCardSaid :=
  Claim7.holds_tied_plain_at .later [] [.data, .data, .data, .sentinel, .sentinel] true (true, "c11113cc17a9705b7d6af39bd223410ac21e3a93d69fce468237c1da3ccbbfa7") true
    over (fun _ h => by cases h) (by kernel_rfl) (fun _ h => by cases h) notationFormats_row_tie rfl ⟨rfl, rfl⟩ (by kernel_rfl) rfl
    (fun f fn hf hfn => by
      obtain rfl : f = 3 := Option.some.inj ((show Tryz.prog.funcNamed "bitext/bitextlaw4.NotationFormats" = some 3 by kernel_rfl).symm.trans hf) |>.symm
      obtain rfl : fn = Tryz.f3 := (Option.some.inj (Tryz.func3.symm.trans hfn)).symm
      exact ⟨by kernel_rfl, fun j t ht => by
        rw [Tryz.params3] at ht
        have hm : t ∈ [22, 23] := by simpa using Array.mem_of_getElem? ht
        have hall : ([22, 23].all fun u => !Tryz.prog.wantsStandIn u) = true := by kernel_rfl
        exact (show Tryz.prog.wantsStandIn t = false by simpa using List.all_eq_true.1 hall t hm)⟩)
    (by kernel_rfl)
#print axioms proved
end Go.Proofs.YtaogjccmeajpoaaGreatDoor.notationFormats
