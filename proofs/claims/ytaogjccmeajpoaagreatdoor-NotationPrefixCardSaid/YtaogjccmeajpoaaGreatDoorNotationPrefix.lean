/- The law NotationPrefix holds for every input. -/
import Derived.Test.YtaogjccmeajpoaaGreatDoorRows
import Derived.WalkKit
import Derived.ProofKit
import Derived.OpenShut
import Derived.ChangeOld
import Derived.Below
import Derived.Carry
import Derived.SizedLaws
import Derived.Test.YtaogjccmeajpoaaGreatDoorCards
import Derived.Test.YtaogjccmeajpoaaGreatDoorTie
import Derived.Stop.Joined
import Derived.SevenTiedAt
import Derived.Test.YtaogjccmeajpoaaGreatDoorArf
import Derived.Test.YtaogjccmeajpoaaGreatDoorNrg
import Derived.Test.YtaogjccmeajpoaaGreatDoorNtD
namespace Go.Proofs.YtaogjccmeajpoaaGreatDoor.notationPrefix
open Go.ChangeShapes Go.WideShapes Go.ChangeAt Go.RowKit
open Go.ChangeMaps (open_string shut_string)
set_option linter.unusedVariables false
set_option maxRecDepth 100000

theorem own : ownKnob Tryz.prog.godebug = none := by kernel_rfl
theorem laidOut : laidOutB Tryz.prog = true := by kernel_rfl

theorem cut_take (s : ByteArray) (n : Nat) : (s.extract 0 n).data.toList = s.data.toList.take n := by simp [ByteArray.extract, ByteArray.copySlice]
theorem add_toList (s t : ByteArray) : (s ++ t).data.toList = s.data.toList ++ t.data.toList := by simp [ByteArray.data_append]

set_option maxHeartbeats 1600000 in
theorem walk (a0 : ByteArray) (p1 : Option Addr) (c1 : Nat) (a1 : List Int) (w : World) (w0 : a0.size ≤ 140737488355328) (r1 : Ones w (Value.int .i64) p1 a1) (o1 : ∀ i (h : i < a1.length), (Lit.int .i64 (a1[i]'h)).wf = true) (n1 : a1.length ≤ c1) (m1 : c1 ≤ maxLen) (hE : Env w.heap.size w) :
    Calls Tryz.prog 6 #[.string a0, .slice p1 a1.length c1] w fun e w' => e = .returned (.bool true) ∧ Below w.heap.size w w' := by
  have HK := Lib.hid known_any
  have HE := Lib.hid hE
  by_cases l0 : a0.size ≤ 200
  case neg =>
    have z0 : 200 < a0.size := by omega
    clear hE r1 o1 l0
    go_enter Tryz.func6, Tryz.ntmps6
    go_wp2_with fail
    refine (HK.out _ HE.out).mono ?_; rintro e w1 ⟨rfl, hb⟩
    go_wp2_with fail
    go_ret
    exact ⟨rfl, hb⟩
  by_cases l1 : a1.length ≤ 60
  case neg =>
    have z1 : 60 < a1.length := by omega
    have q0 : decide (200 < a0.size) = false := decide_eq_false (by omega)
    clear hE r1 o1 l1
    go_enter Tryz.func6, Tryz.ntmps6
    go_wp2_with fail
    refine (HK.out _ HE.out).mono ?_; rintro e w1 ⟨rfl, hb⟩
    go_wp2_with fail
    go_ret
    exact ⟨rfl, hb⟩
  have q0 : decide (200 < a0.size) = false := decide_eq_false (by omega)
  have q1 : decide (60 < a1.length) = false := decide_eq_false (by omega)
  have M1 := Lib.hid (fun W h => nmade_any p1 c1 a1 W h o1 n1 m1)
  have v1 := mk_valid a1
  unfold EndF at M1
  generalize mk a1 true false = G at *
  have x1 := valid_oks v1
  have hsz := fmt_size v1
  have g1 := fun p c W (i : Its W p G) (a : G.length ≤ c) (b : c ≤ maxLen) => rformat_any p c G W i x1 a b
  have hT : (fmtS G).size ≤ 2560000 := by rw [fmtS_ok v1, bsL_size]; exact hsz
  generalize fmtS G = T at *
  generalize valE G = z at *
  have hsU : (T ++ a0).size = T.size + a0.size := ByteArray.size_append
  have hp1 := fun W (hE : Env W.heap.size W) => parse_any (T ++ a0) W (by omega) hE
  have hpr := parse_prefix (T ++ a0).data.toList
  have hlen : (T ++ a0).data.toList.length = T.size + a0.size := by rw [← hsU]; simp
  rw [hlen] at hpr
  obtain ⟨R, hR⟩ : ∃ R, parseN (T ++ a0).data.toList = R := ⟨_, rfl⟩
  rw [hR] at hp1 hpr
  obtain ⟨L, at1, er⟩ := R
  unfold EndP at hp1
  dsimp only at hp1 hpr
  by_cases hz : er = 0
  · subst hz
    have G1 := Lib.hid g1; have P1 := Lib.hid hp1
    clear g1 hp1 hpr hR x1 v1 hE o1 hsz
    go_enter Tryz.func6, Tryz.ntmps6
    go_wp2_with fail
    refine (M1.out _ r1).mono ?_; rintro e w3 ⟨p2, c2, rfl, a2, b2, i2, hb⟩
    have hE := HE.out.next hb; have bl := hb; clear hb r1 HE
    go_wp2_with fail
    refine (G1.out _ _ _ i2 a2 b2).mono ?_; rintro e w4 ⟨rfl, hb⟩
    have hE := hE.next hb; have bl := BelowOn bl hb; clear hb i2
    go_wp2_with fail
    refine (P1.out _ hE).mono ?_; rintro e w5 ⟨p3, c3, rfl, a3, b3, i3, hb⟩
    have hE := hE.next hb; have bl := BelowOn bl hb; clear hb i3
    go_wp2_with fail
    refine (HK.out _ hE).mono ?_; rintro e w7 ⟨rfl, hb⟩
    have bl := BelowOn bl hb; clear hb
    go_wp2_with fail
    go_ret
    exact ⟨rfl, bl⟩
  · obtain ⟨h1, h2⟩ := hpr hz
    have hp2 := fun W (hE : Env W.heap.size W) => parse_any ((T ++ a0).extract 0 at1) W (by simp; omega) hE
    rw [cut_take] at hp2
    obtain ⟨R2, hR2⟩ : ∃ R2, parseN ((T ++ a0).data.toList.take at1) = R2 := ⟨_, rfl⟩
    rw [hR2] at hp2 h2
    obtain ⟨L2, at2, er2⟩ := R2
    unfold EndP at hp2
    dsimp only at hp2 h2
    subst h2
    have qe : (er == 0) = false := by simpa using hz
    have b0 : (0 : Int) ≤ (at1 : Int) := by omega
    have b1 : (at1 : Int) < (T.size : Int) + (a0.size : Int) := by omega
    have b2' : (at1 : Int) ≤ (T.size : Int) + (a0.size : Int) := by omega
    have G1 := Lib.hid g1; have P1 := Lib.hid hp1; have P2 := Lib.hid hp2
    clear g1 hp1 hp2 hpr hR hR2 x1 v1 hE o1 hsz
    go_enter Tryz.func6, Tryz.ntmps6
    go_wp2_with fail
    refine (M1.out _ r1).mono ?_; rintro e w3 ⟨p2, c2, rfl, a2, b2, i2, hb⟩
    have hE := HE.out.next hb; have bl := hb; clear hb r1 HE
    go_wp2_with fail
    refine (G1.out _ _ _ i2 a2 b2).mono ?_; rintro e w4 ⟨rfl, hb⟩
    have hE := hE.next hb; have bl := BelowOn bl hb; clear hb i2
    go_wp2_with fail
    refine (P1.out _ hE).mono ?_; rintro e w5 ⟨p3, c3, rfl, a3, b3, i3, hb⟩
    have hE := hE.next hb; have bl := BelowOn bl hb; clear hb i3
    go_wp2_with fail
    refine (P2.out _ hE).mono ?_; rintro e w6 ⟨p4, c4, rfl, a4, b4, i4, hb⟩
    have hE := hE.next hb; have bl := BelowOn bl hb; clear hb i4
    go_wp2_with fail
    refine (HK.out _ hE).mono ?_; rintro e w7 ⟨rfl, hb⟩
    have bl := BelowOn bl hb; clear hb
    go_wp2_with fail
    go_ret
    exact ⟨rfl, bl⟩

theorem lifted (os : Os) (started : os.Started) (H : Type) (enc : TypeId × Value → H) :
    ReturnsInHanded {} Tryz.checked os 6 .any (fun w args => (Rows.notationPrefixSpec.pre enc Tryz.prog Tryz.f6 Rows.notationPrefixRow.domain false w args ∧ laidMetH Tryz.prog Rows.notationPrefixRow.laid w) ∧ sizedMet enc Tryz.prog Tryz.f6 (OpenSpec.ofChange Rows.notationPrefixSpec) false w args)
      (Rows.notationPrefixSpec.post enc Tryz.prog Tryz.f6 false true false false) := by
  refine returnsInHanded_of_change_and (C := Tryz.checked) (X := fun w _ => laidMetH Tryz.prog Rows.notationPrefixRow.laid w) (fun _ _ _ hh h => h.of_heap hh) own started (by kernel_rfl) Tryz.func6
    (ChangeSpec.witness_shaped (enc := enc) (C := Tryz.checked) (os := os) (X := fun w _ => laidMetH Tryz.prog Rows.notationPrefixRow.laid w) false (World.doorLaid Tryz.prog 62 os) #[.string ByteArray.empty, .slice none 0 0] 8 rfl (World.shaped_of_RefB (by kernel_rfl) (by kernel_rfl)) (by kernel_rfl) (by kernel_rfl) (by kernel_rfl) (door_met os _)) ?_
  intro W base args ds gs before hval0 hW hcnd hsz0 hL _
  have hval : ∀ (j : Nat) t v, Tryz.f6.params[j]? = some t → args[j]? = some v → Value.okWide Tryz.prog W .any base t v := hval0
  have hW' := hW
  have hlt : ∀ x ∈ before, x.block < W.heap.size := fun x hx => hW'.lt x hx
  obtain ⟨p, q, hA0, hV, rfl, hfz, hnd⟩ := hW
  have hA : DataW.TrodAll enc Tryz.prog W 0 (fun _ => true) true Tryz.f6.params.toList args.toList ds p := hA0
  rw [Tryz.params6] at hA hval hsz0
  obtain ⟨v0, vs0, d0, ds0, p0, q0, hargs, rfl, rfl, h0, r0⟩ := trodAll_cons hA
  obtain ⟨v1, vs1, d1, ds1, p1, q1, rfl, rfl, rfl, h1, r1⟩ := trodAll_cons r0
  obtain ⟨rfl, rfl, rfl⟩ := trodAll_nil r1
  obtain rfl : args = #[v0, v1] := by cases args; simp_all
  obtain ⟨rfl, rfl⟩ := trodVars_none hV
  have hsz := hsz0; clear hsz0
  have z0 : ∀ n ∈ DataW.weights Tryz.prog 9 d0, n ≤ reachBytes := (fun n hn => by simpa using List.all_eq_true.1 hsz n (DataW.weights_mem_each (j := 0) rfl rfl n hn))
  obtain ⟨a0, rfl, e0, -, -⟩ := open_string Tryz.underlying9 (hval 0 9 v0 rfl rfl) h0
  have w0 : a0.size ≤ 140737488355328 := str_le e0 z0
  obtain ⟨pp1, c1, a1, rfl, n1, m1, y1, o1⟩ := opened_ints (okBase (hval 1 23 v1 rfl rfl)) h1
  clear hA0 hval0
  refine (walk a0 pp1 c1 a1 W w0 y1 o1 n1 m1 (env_of_laid hL)).mono fun e W' ⟨he, bel⟩ => ?_
  subst he
  exact ⟨_, rfl, _, _, _, [], _, [], hW', trodAll_mk1 (shut_bool Tryz.underlying4 _), (trodAll_cons_mk (Below.trod laidOut (by kernel_rfl) (of_decide_eq_true (by kernel_rfl)) h0 bel (fun x hx => hlt x (by simp [hx]))) (trodAll_cons_mk (Below.trod laidOut (by kernel_rfl) (of_decide_eq_true (by kernel_rfl)) h1 bel (fun x hx => hlt x (by simp [hx]))) trodAll_mk0)), rfl, bel.frame _, fun h => by cases h⟩

theorem over : Rows.NotationPrefixSaid :=
  OpenClaim.holds_of_wide 6 Tryz.f6 rfl rfl rfl rfl rfl rfl rfl ⟨rfl, rfl, rfl, rfl, rfl⟩ rfl rfl rfl rfl rfl (by kernel_rfl) Tryz.func6 (by kernel_rfl)
    (of_decide_eq_true (by kernel_rfl)) (by unfold Func.isWrapper; first | (rw [if_pos (by decide +kernel)]; kernel_rfl) | (rw [if_neg (by decide +kernel)]; exact ⟨rfl, rfl⟩))
    (fun os started H enc _ => lifted os started H enc)

theorem proved : Rows.NotationPrefixCardSaid :=
  Claim7.holds_tied_plain_at .later [] [.data, .data, .data, .sentinel, .sentinel] true (true, "c11113cc17a9705b7d6af39bd223410ac21e3a93d69fce468237c1da3ccbbfa7") true
    over (fun _ h => by cases h) (by kernel_rfl) (fun _ h => by cases h) notationPrefix_row_tie rfl ⟨rfl, rfl⟩ (by kernel_rfl) rfl
    (fun f fn hf hfn => by
      obtain rfl : f = 6 := Option.some.inj ((show Tryz.prog.funcNamed "bitext/bitextlaw4.NotationPrefix" = some 6 by kernel_rfl).symm.trans hf) |>.symm
      obtain rfl : fn = Tryz.f6 := (Option.some.inj (Tryz.func6.symm.trans hfn)).symm
      exact ⟨by kernel_rfl, fun j t ht => by
        rw [Tryz.params6] at ht
        have hm : t ∈ [9, 23] := by simpa using Array.mem_of_getElem? ht
        have hall : ([9, 23].all fun u => !Tryz.prog.wantsStandIn u) = true := by kernel_rfl
        exact (show Tryz.prog.wantsStandIn t = false by simpa using List.all_eq_true.1 hall t hm)⟩)
    (by kernel_rfl)
#print axioms proved
end Go.Proofs.YtaogjccmeajpoaaGreatDoor.notationPrefix
