/- The law NotationInjective holds for every input. -/
import Derived.Test.YtaogjccmeajpoaaDoorRows
import Derived.WalkKit
import Derived.ProofKit
import Derived.OpenShut
import Derived.ChangeOld
import Derived.Below
import Derived.Carry
import Derived.SizedLaws
import Derived.Test.YtaogjccmeajpoaaDoorCards
import Derived.Test.YtaogjccmeajpoaaDoorTie
import Derived.Stop.Joined
import Derived.SevenTiedAt
import Derived.Test.YtaogjccmeajpoaaDoorArg
import Derived.Test.YtaogjccmeajpoaaDoorNtD
import Derived.Test.YtaogjccmeajpoaaDoorNtB
import Derived.Test.YtaogjccmeajpoaaDoorNtA
namespace Go.Proofs.YtaogjccmeajpoaaDoor.notationInjective
open Go.ChangeShapes Go.WideShapes Go.ChangeAt Go.RowKit
open Go.ChangeMaps (open_string shut_string)
set_option linter.unusedVariables false
set_option maxRecDepth 100000

theorem own : ownKnob Tryd.prog.godebug = none := by kernel_rfl
theorem laidOut : laidOutB Tryd.prog = true := by kernel_rfl

theorem same_fmt (f g : List It) (hf : valE f = 0) (hg : valE g = 0) : (fmtS f = fmtS g) ↔ f = g := by
  constructor
  · intro h
    rw [fmtS_ok hf, fmtS_ok hg] at h
    exact fmt_inj f g hf hg (bsL_inj h)
  · rintro rfl; rfl

set_option maxHeartbeats 1600000 in
theorem walk (p0 : Option Addr) (c0 : Nat) (a0 : List Int) (p1 : Option Addr) (c1 : Nat) (a1 : List Int) (w : World) (r0 : Ones w (Value.int .i64) p0 a0) (o0 : ∀ i (h : i < a0.length), (Lit.int .i64 (a0[i]'h)).wf = true) (n0 : a0.length ≤ c0) (m0 : c0 ≤ maxLen) (r1 : Ones w (Value.int .i64) p1 a1) (o1 : ∀ i (h : i < a1.length), (Lit.int .i64 (a1[i]'h)).wf = true) (n1 : a1.length ≤ c1) (m1 : c1 ≤ maxLen) (hE : Env w.heap.size w) :
    Calls Tryd.prog 4 #[.slice p0 a0.length c0, .slice p1 a1.length c1] w fun e w' => e = .returned (.bool true) ∧ Below w.heap.size w w' := by
  have HK := Lib.hid known_any
  have HE := Lib.hid hE
  by_cases l0 : a0.length ≤ 60
  case neg =>
    have z0 : 60 < a0.length := by omega
    clear hE r0 r1 o0 o1 l0
    go_enter Tryd.func4, Tryd.ntmps4
    go_wp2_with fail
    refine (HK.out _ HE.out).mono ?_; rintro e w1 ⟨rfl, hb⟩
    go_wp2_with fail
    go_ret
    exact ⟨rfl, hb⟩
  by_cases l1 : a1.length ≤ 60
  case neg =>
    have z1 : 60 < a1.length := by omega
    have q0 : decide (60 < a0.length) = false := decide_eq_false (by omega)
    clear hE r0 r1 o0 o1 l1
    go_enter Tryd.func4, Tryd.ntmps4
    go_wp2_with fail
    refine (HK.out _ HE.out).mono ?_; rintro e w1 ⟨rfl, hb⟩
    go_wp2_with fail
    go_ret
    exact ⟨rfl, hb⟩
  have q0 : decide (60 < a0.length) = false := decide_eq_false (by omega)
  have q1 : decide (60 < a1.length) = false := decide_eq_false (by omega)
  have M0 := Lib.hid (fun W h => nmade_any p0 c0 a0 W h o0 n0 m0)
  have M1 := Lib.hid (fun W h => nmade_any p1 c1 a1 W h o1 n1 m1)
  have v0 := mk_valid a0; have v1 := mk_valid a1
  unfold EndF at M0 M1
  generalize mk a0 true false = F at *
  generalize mk a1 true false = G at *
  have x0 := valid_oks v0; have x1 := valid_oks v1
  have f0 := fun p c W (i : Its W p F) (a : F.length ≤ c) (b : c ≤ maxLen) t => format_any p c F W i x0 a b t
  have f1 := fun p c W (i : Its W p G) (a : G.length ≤ c) (b : c ≤ maxLen) t => format_any p c G W i x1 a b t
  rw [v0] at f0; rw [v1] at f1
  have eq := same_fmt F G v0 v1
  have ss := fun p q c d W (i : Its W p F) (j : Its W q G) (a : F.length ≤ c) (b : G.length ≤ d) (x : c ≤ maxLen) (y : d ≤ maxLen) => rsame_any p q c d F G W i j a b x y
  have eq2 : decide (fmtS F = fmtS G) = decide (F = G) := decide_eq_decide.2 eq
  generalize decide (F = G) = E at *
  generalize fmtS F = S at *
  generalize fmtS G = T at *
  have F0 := Lib.hid f0; have F1 := Lib.hid f1; have SS := Lib.hid ss
  clear f0 f1 ss x0 x1 v0 v1 eq hE o0 o1
  cases E
  case' false => have hne : ¬ S.toList = T.toList := fun h => of_decide_eq_false eq2 (by rw [Go.ByteArray.toList_eq S, Go.ByteArray.toList_eq T] at h; exact ByteArray.ext (Array.toList_inj.1 h)); clear eq2
  case' true => have he : S = T := of_decide_eq_true eq2; subst he; clear eq2
  all_goals
    go_enter Tryd.func4, Tryd.ntmps4
    go_wp2_with fail
    refine (M0.out _ r0).mono ?_; rintro e w1 ⟨p2, c2, rfl, a2, b2, i2, hb⟩
    have hE := HE.out.next hb; have r1 := r1.call hb; have bl := hb; clear HE r0 hb
    go_wp2_with fail
    refine (M1.out _ r1).mono ?_; rintro e w2 ⟨p3, c3, rfl, a3, b3, i3, hb⟩
    have hE := hE.next hb; have i2 := i2.call hb; have bl := BelowOn bl hb; clear r1 hb
    go_wp2_with fail
    refine (F0.out _ _ _ i2 a2 b2 hE.tab).mono ?_; rintro e w3 ⟨rfl, hb⟩
    have hE := hE.next hb; have i2 := i2.call hb; have i3 := i3.call hb; have bl := BelowOn bl hb; clear hb
    go_wp2_with fail
    refine (F1.out _ _ _ i3 a3 b3 hE.tab).mono ?_; rintro e w4 ⟨rfl, hb⟩
    have hE := hE.next hb; have i2 := i2.call hb; have i3 := i3.call hb; have bl := BelowOn bl hb; clear hb
    go_wp2_with fail
    refine (SS.out _ _ _ _ _ i2 i3 a2 a3 b2 b3).mono ?_; rintro e w5 ⟨rfl, hb⟩
    have hE := hE.next hb; have bl := BelowOn bl hb; clear hb i2 i3
    go_wp2_with fail
    refine (HK.out _ hE).mono ?_; rintro e w6 ⟨rfl, hb⟩
    have bl := BelowOn bl hb; clear hb
    go_wp2_with fail
    go_ret
    first | exact ⟨rfl, bl⟩ | (have hx : (S.toList == T.toList) = false := by simpa using hne
                               exact ⟨by show Ending.returned (.bool (!(S.toList == T.toList))) = _; rw [hx]; rfl, bl⟩)

theorem lifted (os : Os) (started : os.Started) (H : Type) (enc : TypeId × Value → H) :
    ReturnsInHanded {} Tryd.checked os 4 .any (fun w args => (Rows.notationInjectiveSpec.pre enc Tryd.prog Tryd.f4 Rows.notationInjectiveRow.domain false w args ∧ laidMetH Tryd.prog Rows.notationInjectiveRow.laid w) ∧ sizedMet enc Tryd.prog Tryd.f4 (OpenSpec.ofChange Rows.notationInjectiveSpec) false w args)
      (Rows.notationInjectiveSpec.post enc Tryd.prog Tryd.f4 false true false false) := by
  refine returnsInHanded_of_change_and (C := Tryd.checked) (X := fun w _ => laidMetH Tryd.prog Rows.notationInjectiveRow.laid w) (fun _ _ _ hh h => h.of_heap hh) own started (by kernel_rfl) Tryd.func4
    (ChangeSpec.witness_shaped (enc := enc) (C := Tryd.checked) (os := os) (X := fun w _ => laidMetH Tryd.prog Rows.notationInjectiveRow.laid w) false (World.doorLaid Tryd.prog 62 os) #[.slice none 0 0, .slice none 0 0] 8 rfl (World.shaped_of_RefB (by kernel_rfl) (by kernel_rfl)) (by kernel_rfl) (by kernel_rfl) (by kernel_rfl) (door_met os _)) ?_
  intro W base args ds gs before hval0 hW hcnd hsz0 hL _
  have hval : ∀ (j : Nat) t v, Tryd.f4.params[j]? = some t → args[j]? = some v → Value.okWide Tryd.prog W .any base t v := hval0
  have hW' := hW
  have hlt : ∀ x ∈ before, x.block < W.heap.size := fun x hx => hW'.lt x hx
  obtain ⟨p, q, hA0, hV, rfl, hfz, hnd⟩ := hW
  have hA : DataW.TrodAll enc Tryd.prog W 0 (fun _ => true) true Tryd.f4.params.toList args.toList ds p := hA0
  rw [Tryd.params4] at hA hval hsz0
  obtain ⟨v0, vs0, d0, ds0, p0, q0, hargs, rfl, rfl, h0, r0⟩ := trodAll_cons hA
  obtain ⟨v1, vs1, d1, ds1, p1, q1, rfl, rfl, rfl, h1, r1⟩ := trodAll_cons r0
  obtain ⟨rfl, rfl, rfl⟩ := trodAll_nil r1
  obtain rfl : args = #[v0, v1] := by cases args; simp_all
  obtain ⟨rfl, rfl⟩ := trodVars_none hV
  have hsz := hsz0; clear hsz0
  obtain ⟨pp0, c0, a0, rfl, n0, m0, y0, o0⟩ := opened_ints (okBase (hval 0 22 v0 rfl rfl)) h0
  obtain ⟨pp1, c1, a1, rfl, n1, m1, y1, o1⟩ := opened_ints (okBase (hval 1 22 v1 rfl rfl)) h1
  clear hA0 hval0
  refine (walk pp0 c0 a0 pp1 c1 a1 W y0 o0 n0 m0 y1 o1 n1 m1 (env_of_laid hL)).mono fun e W' ⟨he, bel⟩ => ?_
  subst he
  exact ⟨_, rfl, _, _, _, [], _, [], hW', trodAll_mk1 (shut_bool Tryd.underlying4 _), (trodAll_cons_mk (Below.trod laidOut (by kernel_rfl) (of_decide_eq_true (by kernel_rfl)) h0 bel (fun x hx => hlt x (by simp [hx]))) (trodAll_cons_mk (Below.trod laidOut (by kernel_rfl) (of_decide_eq_true (by kernel_rfl)) h1 bel (fun x hx => hlt x (by simp [hx]))) trodAll_mk0)), rfl, bel.frame _, fun h => by cases h⟩

theorem over : Rows.NotationInjectiveSaid :=
  OpenClaim.holds_of_wide 4 Tryd.f4 rfl rfl rfl rfl rfl rfl rfl ⟨rfl, rfl, rfl, rfl, rfl⟩ rfl rfl rfl rfl rfl (by kernel_rfl) Tryd.func4 (by kernel_rfl)
    (of_decide_eq_true (by kernel_rfl)) (by unfold Func.isWrapper; first | (rw [if_pos (by decide +kernel)]; kernel_rfl) | (rw [if_neg (by decide +kernel)]; exact ⟨rfl, rfl⟩))
    (fun os started H enc _ => lifted os started H enc)

theorem proved : Rows.NotationInjectiveCardSaid :=
  Claim7.holds_tied_plain_at .later [] [.data, .data, .data, .sentinel, .sentinel] true (true, "529efb2a7584da621922325beb1b198cc1ba06798890591b00a81a613af15fc8") true
    over (fun _ h => by cases h) (by kernel_rfl) (fun _ h => by cases h) notationInjective_row_tie rfl ⟨rfl, rfl⟩ (by kernel_rfl) rfl
    (fun f fn hf hfn => by
      obtain rfl : f = 4 := Option.some.inj ((show Tryd.prog.funcNamed "bitext/bitextlaw4.NotationInjective" = some 4 by kernel_rfl).symm.trans hf) |>.symm
      obtain rfl : fn = Tryd.f4 := (Option.some.inj (Tryd.func4.symm.trans hfn)).symm
      exact ⟨by kernel_rfl, fun j t ht => by
        rw [Tryd.params4] at ht
        have hm : t ∈ [22, 22] := by simpa using Array.mem_of_getElem? ht
        have hall : ([22, 22].all fun u => !Tryd.prog.wantsStandIn u) = true := by kernel_rfl
        exact (show Tryd.prog.wantsStandIn t = false by simpa using List.all_eq_true.1 hall t hm)⟩)
    (by kernel_rfl)
#print axioms proved
end Go.Proofs.YtaogjccmeajpoaaDoor.notationInjective
