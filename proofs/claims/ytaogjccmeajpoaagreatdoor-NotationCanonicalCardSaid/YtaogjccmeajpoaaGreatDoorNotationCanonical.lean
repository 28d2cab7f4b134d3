/- The law NotationCanonical holds for every input. -/
import Derived.Test.YtaogjccmeajpoaaGreatDoorRows
import Derived.WalkKit
import Derived.ProofKit
import Derived.OpenShut
import Derived.ChangeOld
import Derived.Below
import Derived.Carry
import Derived.SizedLaws
import Derived.Test.YtaogjccmeajpoaaGreatDoorCards
import Derived.Test.YtaogjccmeajpoaaGreatDoorTie
import Derived.Stop.Joined
import Derived.SevenTiedAt
import Derived.Test.YtaogjccmeajpoaaGreatDoorArf
import Derived.Test.YtaogjccmeajpoaaGreatDoorNrg
import Derived.Test.YtaogjccmeajpoaaGreatDoorNtD
import Derived.Test.YtaogjccmeajpoaaGreatDoorNxt
import Derived.Test.YtaogjccmeajpoaaGreatDoorRvl
namespace Go.Proofs.YtaogjccmeajpoaaGreatDoor.notationCanonical
open Go.ChangeShapes Go.WideShapes Go.ChangeAt Go.RowKit
open Go.ChangeMaps (open_string shut_string)
set_option linter.unusedVariables false
set_option maxRecDepth 100000

theorem own : ownKnob Tryz.prog.godebug = none := by kernel_rfl
theorem laidOut : laidOutB Tryz.prog = true := by kernel_rfl

/-- A text that can be parsed is the notation of what was parsed. -/
theorem canon (u : ByteArray) {L : List It} {at1 : Nat} {er : Int} (hR : parseN u.data.toList = (L, at1, er)) (hz : er = 0) :
    Hid (∀ p c W, Its W p L → L.length ≤ c → c ≤ maxLen → TabB W.heap.size W → Calls Tryz.prog 9 #[.slice p L.length c] W fun e w' => e = .returned (.tuple #[.string u, .int .i64 0]) ∧ Below W.heap.size W w') ∧
    Hid (∀ p c W, Its W p L → L.length ≤ c → c ≤ maxLen → Calls Tryz.prog 16 #[.slice p L.length c] W fun e w' => e = .returned (.int .i64 0) ∧ Below W.heap.size W w') := by
  have g := parse_good u.data.toList
  rw [hR] at g
  obtain ⟨h1, h2, _⟩ := g.ok hz
  have h1 : fmtN L = u.data.toList := h1
  have h2 : valE L = 0 := h2
  have e : fmtS L = u := by rw [fmtS_ok h2, h1, bsL_of]
  refine ⟨Lib.hid fun p c W i a b t => ?_, Lib.hid fun p c W i a b => ?_⟩
  · have := format_any p c L W i (valid_oks h2) a b t
    rw [e, h2] at this
    exact this
  · have := rvalidate_any p c L W i (valid_oks h2) a b
    rw [h2] at this
    exact this
theorem idx0 (W : World) (a b : ByteArray) : Sem.run Tryz.prog (Instr.index 38 (.agg #[.string a, .string b]) (.int .i64 0)) W = .ok (.string a) W := by kernel_rfl
theorem idx1 (W : World) (a b : ByteArray) : Sem.run Tryz.prog (Instr.index 38 (.agg #[.string a, .string b]) (.int .i64 1)) W = .ok (.string b) W := by kernel_rfl

set_option maxHeartbeats 1600000 in
theorem walk (a0 : ByteArray) (p1 : Option Addr) (c1 : Nat) (a1 : List Int) (a2 : Int) (w : World) (w0 : a0.size ≤ 140737488355328) (r1 : Ones w (Value.int .i64) p1 a1) (o1 : ∀ i (h : i < a1.length), (Lit.int .i64 (a1[i]'h)).wf = true) (n1 : a1.length ≤ c1) (m1 : c1 ≤ maxLen) (w2 : (Lit.int .i64 a2).wf = true) (hE : Env w.heap.size w) :
    Calls Tryz.prog 5 #[.string a0, .slice p1 a1.length c1, .int .i64 a2] w fun e w' => e = .returned (.bool true) ∧ Below w.heap.size w w' := by
  have HK := Lib.hid known_any
  have HE := Lib.hid hE
  by_cases l0 : a0.size ≤ 300
  case neg =>
    have z0 : 300 < a0.size := by omega
    clear hE r1 o1 l0
    go_enter Tryz.func5, Tryz.ntmps5
    go_wp2_with fail
    refine (HK.out _ HE.out).mono ?_; rintro e w1 ⟨rfl, hb⟩
    go_wp2_with fail
    go_ret
    exact ⟨rfl, hb⟩
  by_cases l1 : a1.length ≤ 60
  case neg =>
    have z1 : 60 < a1.length := by omega
    have q0 : decide (300 < a0.size) = false := decide_eq_false (by omega)
    clear hE r1 o1 l1
    go_enter Tryz.func5, Tryz.ntmps5
    go_wp2_with fail
    refine (HK.out _ HE.out).mono ?_; rintro e w1 ⟨rfl, hb⟩
    go_wp2_with fail
    go_ret
    exact ⟨rfl, hb⟩
  have q0 : decide (300 < a0.size) = false := decide_eq_false (by omega)
  have q1 : decide (60 < a1.length) = false := decide_eq_false (by omega)
  have M1 := Lib.hid (fun W h => nmade_any p1 c1 a1 W h o1 n1 m1)
  have v1 := mk_valid a1
  unfold EndF at M1
  generalize mk a1 true false = G at *
  have x1 := valid_oks v1
  have hsz := fmt_size v1
  have g1 := fun p c W (i : Its W p G) (a : G.length ≤ c) (b : c ≤ maxLen) => rformat_any p c G W i x1 a b
  have hT : (fmtS G).size ≤ 2560000 := by rw [fmtS_ok v1, bsL_size]; exact hsz
  generalize fmtS G = T at *
  generalize valE G = z at *
  have pl := fun W => place_any a2 ((T.size : Int) + 1) W (by omega) (by omega) w2
  have e0 := Int.emod_nonneg a2 (show (T.size : Int) + 1 ≠ 0 by omega)
  have e1 := Int.emod_lt_of_pos a2 (show (0 : Int) < (T.size : Int) + 1 by omega)
  generalize a2 % ((T.size : Int) + 1) = I at *
  obtain ⟨i, rfl⟩ := Int.eq_ofNat_of_zero_le e0
  have i0 : i ≤ T.size := by omega
  have i1 : (i : Int) ≤ (T.size : Int) := by omega
  have G1 := Lib.hid g1; have PL := Lib.hid pl
  clear g1 pl x1 v1 hE o1 hsz w2
  obtain ⟨V, hV⟩ : ∃ V, V = T.extract 0 i := ⟨_, rfl⟩
  have hVs : V.size ≤ 2560000 := by rw [hV]; simp; omega
  have hsA : a0.size ≤ 1000000000000 := by omega
  obtain ⟨LA, atA, erA, hRA⟩ : ∃ L at1 er, parseN a0.data.toList = (L, at1, er) := ⟨_, _, _, rfl⟩
  have hpA := fun W (hE : Env W.heap.size W) => parse_any a0 W hsA hE
  rw [hRA] at hpA
  unfold EndP at hpA; dsimp only at hpA
  have KA := Lib.hid (canon a0 hRA)
  have PA := Lib.hid hpA; clear hpA hRA hsA
  have hsB : V.size ≤ 1000000000000 := by omega
  obtain ⟨LB, atB, erB, hRB⟩ : ∃ L at1 er, parseN V.data.toList = (L, at1, er) := ⟨_, _, _, rfl⟩
  have hpB := fun W (hE : Env W.heap.size W) => parse_any V W hsB hE
  rw [hRB] at hpB
  unfold EndP at hpB; dsimp only at hpB
  have KB := Lib.hid (canon V hRB)
  have PB := Lib.hid hpB; clear hpB hRB hsB
  have ix0 := fun W => idx0 W a0 V
  have ix1 := fun W => idx1 W a0 V
  have HV := Lib.hid hV
  clear hV
  go_enter Tryz.func5, Tryz.ntmps5
  go_wp2_with fail
  refine (M1.out _ r1).mono ?_; rintro e w3 ⟨p2, c2, rfl, a3, b2, i2, hb⟩
  have bl := hb; clear hb r1
  go_wp2_with fail
  refine (G1.out _ _ _ i2 a3 b2).mono ?_; rintro e w4 ⟨rfl, hb⟩
  have bl := BelowOn bl hb; clear hb i2
  go_wp2_with fail
  refine (PL.out _).mono ?_; rintro e w5 ⟨rfl, rfl⟩
  go_wp2_with fail
  rw [← HV.out]
  go_loopw [40] (fun i wr => ∃ k : Nat, k ≤ 2 ∧ i = .int .i64 k ∧ Below w.heap.size w wr) (fun i _ => 2 - (intOf i).toNat)
  case atStart => exact ⟨0, by omega, rfl, bl⟩
  case round =>
    obtain ⟨k, hk, rfl, hB⟩ := hrel
    have hk3 : k = 0 ∨ k = 1 ∨ k = 2 := by omega
    rcases hk3 with rfl | rfl | rfl
    · have hE := HE.out.next hB
      by_cases hz : erA = 0
      · obtain ⟨FU, VU⟩ := KA.out hz
        subst hz
        go_wp2_with fail
        refine (PA.out _ hE).mono ?_; rintro e w5 ⟨p3, c3, rfl, a3, b3, i3, hb⟩
        have hE := hE.next hb; have bl := BelowOn hB hb; clear hb
        go_wp2_with fail
        refine (FU.out _ _ _ i3 a3 b3 hE.tab).mono ?_; rintro e w6 ⟨rfl, hb⟩
        have i3 := i3.call hb; have bl := BelowOn bl hb; clear hb
        go_wp2_with fail
        refine (VU.out _ _ _ i3 a3 b3).mono ?_; rintro e w7 ⟨rfl, hb⟩
        have bl := BelowOn bl hb; clear hb
        go_wp2_with fail
        go_roundw
        case rel => exact ⟨1, by omega, by go_num, bl⟩
        case measure => simp [intOf]
      · have qn : (erA != 0) = true := by simpa using hz
        have qe : (erA == 0) = false := by simpa using hz
        go_wp2_with fail
        refine (PA.out _ hE).mono ?_; rintro e w5 ⟨p3, c3, rfl, a3, b3, i3, hb⟩
        have bl := BelowOn hB hb; clear hb
        go_wp2_with fail
        go_roundw
        case rel => exact ⟨1, by omega, by go_num, bl⟩
        case measure => simp [intOf]
    · have hE := HE.out.next hB
      by_cases hz : erB = 0
      · obtain ⟨FU, VU⟩ := KB.out hz
        subst hz
        go_wp2_with fail
        refine (PB.out _ hE).mono ?_; rintro e w5 ⟨p3, c3, rfl, a3, b3, i3, hb⟩
        have hE := hE.next hb; have bl := BelowOn hB hb; clear hb
        go_wp2_with fail
        refine (FU.out _ _ _ i3 a3 b3 hE.tab).mono ?_; rintro e w6 ⟨rfl, hb⟩
        have i3 := i3.call hb; have bl := BelowOn bl hb; clear hb
        go_wp2_with fail
        refine (VU.out _ _ _ i3 a3 b3).mono ?_; rintro e w7 ⟨rfl, hb⟩
        have bl := BelowOn bl hb; clear hb
        go_wp2_with fail
        go_roundw
        case rel => exact ⟨2, by omega, by go_num, bl⟩
        case measure => simp [intOf]
      · have qn : (erB != 0) = true := by simpa using hz
        have qe : (erB == 0) = false := by simpa using hz
        go_wp2_with fail
        refine (PB.out _ hE).mono ?_; rintro e w5 ⟨p3, c3, rfl, a3, b3, i3, hb⟩
        have bl := BelowOn hB hb; clear hb
        go_wp2_with fail
        go_roundw
        case rel => exact ⟨2, by omega, by go_num, bl⟩
        case measure => simp [intOf]
    · have hE := HE.out.next hB
      go_wp2_with fail
      refine (HK.out _ hE).mono ?_; rintro e w7 ⟨rfl, hb⟩
      have bl := BelowOn hB hb; clear hb
      go_wp2_with fail
      go_ret
      exact ⟨rfl, bl⟩

theorem lifted (os : Os) (started : os.Started) (H : Type) (enc : TypeId × Value → H) :
    ReturnsInHanded {} Tryz.checked os 5 .any (fun w args => (Rows.notationCanonicalSpec.pre enc Tryz.prog Tryz.f5 Rows.notationCanonicalRow.domain false w args ∧ laidMetH Tryz.prog Rows.notationCanonicalRow.laid w) ∧ sizedMet enc Tryz.prog Tryz.f5 (OpenSpec.ofChange Rows.notationCanonicalSpec) false w args)
      (Rows.notationCanonicalSpec.post enc Tryz.prog Tryz.f5 false true false false) := by
  refine returnsInHanded_of_change_and (C := Tryz.checked) (X := fun w _ => laidMetH Tryz.prog Rows.notationCanonicalRow.laid w) (fun _ _ _ hh h => h.of_heap hh) own started (by kernel_rfl) Tryz.func5
    (ChangeSpec.witness_shaped (enc := enc) (C := Tryz.checked) (os := os) (X := fun w _ => laidMetH Tryz.prog Rows.notationCanonicalRow.laid w) false (World.doorLaid Tryz.prog 62 os) #[.string ByteArray.empty, .slice none 0 0, .int .i64 0] 8 rfl (World.shaped_of_RefB (by kernel_rfl) (by kernel_rfl)) (by kernel_rfl) (by kernel_rfl) (by kernel_rfl) (door_met os _)) ?_
  intro W base args ds gs before hval0 hW hcnd hsz0 hL _
  have hval : ∀ (j : Nat) t v, Tryz.f5.params[j]? = some t → args[j]? = some v → Value.okWide Tryz.prog W .any base t v := hval0
  have hW' := hW
  have hlt : ∀ x ∈ before, x.block < W.heap.size := fun x hx => hW'.lt x hx
  obtain ⟨p, q, hA0, hV, rfl, hfz, hnd⟩ := hW
  have hA : DataW.TrodAll enc Tryz.prog W 0 (fun _ => true) true Tryz.f5.params.toList args.toList ds p := hA0
  rw [Tryz.params5] at hA hval hsz0
  obtain ⟨v0, vs0, d0, ds0, p0, q0, hargs, rfl, rfl, h0, r0⟩ := trodAll_cons hA
  obtain ⟨v1, vs1, d1, ds1, p1, q1, rfl, rfl, rfl, h1, r1⟩ := trodAll_cons r0
  obtain ⟨v2, vs2, d2, ds2, p2, q2, rfl, rfl, rfl, h2, r2⟩ := trodAll_cons r1
  obtain ⟨rfl, rfl, rfl⟩ := trodAll_nil r2
  obtain rfl : args = #[v0, v1, v2] := by cases args; simp_all
  obtain ⟨rfl, rfl⟩ := trodVars_none hV
  have hsz := hsz0; clear hsz0
  have z0 : ∀ n ∈ DataW.weights Tryz.prog 9 d0, n ≤ reachBytes := (fun n hn => by simpa using List.all_eq_true.1 hsz n (DataW.weights_mem_each (j := 0) rfl rfl n hn))
  obtain ⟨a0, rfl, e0, -, -⟩ := open_string Tryz.underlying9 (hval 0 9 v0 rfl rfl) h0
  have w0 : a0.size ≤ 140737488355328 := str_le e0 z0
  obtain ⟨pp1, c1, a1, rfl, n1, m1, y1, o1⟩ := opened_ints (okBase (hval 1 23 v1 rfl rfl)) h1
  obtain ⟨a2, rfl, -, -, w2⟩ := open_int Tryz.underlying3 (hval 2 3 v2 rfl rfl) h2
  clear hA0 hval0
  refine (walk a0 pp1 c1 a1 a2 W w0 y1 o1 n1 m1 w2 (env_of_laid hL)).mono fun e W' ⟨he, bel⟩ => ?_
  subst he
  exact ⟨_, rfl, _, _, _, [], _, [], hW', trodAll_mk1 (shut_bool Tryz.underlying4 _), (trodAll_cons_mk (Below.trod laidOut (by kernel_rfl) (of_decide_eq_true (by kernel_rfl)) h0 bel (fun x hx => hlt x (by simp [hx]))) (trodAll_cons_mk (Below.trod laidOut (by kernel_rfl) (of_decide_eq_true (by kernel_rfl)) h1 bel (fun x hx => hlt x (by simp [hx]))) (trodAll_cons_mk (Below.trod laidOut (by kernel_rfl) (of_decide_eq_true (by kernel_rfl)) h2 bel (fun x hx => hlt x (by simp [hx]))) trodAll_mk0))), rfl, bel.frame _, fun h => by cases h⟩

theorem over : Rows.NotationCanonicalSaid :=
  OpenClaim.holds_of_wide 5 Tryz.f5 rfl rfl rfl rfl rfl rfl rfl ⟨rfl, rfl, rfl, rfl, rfl⟩ rfl rfl rfl rfl rfl (by kernel_rfl) Tryz.func5 (by kernel_rfl)
    (of_decide_eq_true (by kernel_rfl)) (by unfold Func.isWrapper; first | (rw [if_pos (by decide +kernel)]; kernel_rfl) | (rw [if_neg (by decide +kernel)]; exact ⟨rfl, rfl⟩))
    (fun os started H enc _ => lifted os started H enc)

theorem proved : Rows.NotationCanonicalCardSaid :=
  Claim7.holds_tied_plain_at .later [] [.data, .data, .data, .sentinel, .sentinel] true (true, "c11113cc17a9705b7d6af39bd223410ac21e3a93d69fce468237c1da3ccbbfa7") true
    over (fun _ h => by cases h) (by kernel_rfl) (fun _ h => by cases h) notationCanonical_row_tie rfl ⟨rfl, rfl⟩ (by kernel_rfl) rfl
    (fun f fn hf hfn => by
      obtain rfl : f = 5 := Option.some.inj ((show Tryz.prog.funcNamed "bitext/bitextlaw4.NotationCanonical" = some 5 by kernel_rfl).symm.trans hf) |>.symm
      obtain rfl : fn = Tryz.f5 := (Option.some.inj (Tryz.func5.symm.trans hfn)).symm
      exact ⟨by kernel_rfl, fun j t ht => by
        rw [Tryz.params5] at ht
        have hm : t ∈ [9, 23, 3] := by simpa using Array.mem_of_getElem? ht
        have hall : ([9, 23, 3].all fun u => !Tryz.prog.wantsStandIn u) = true := by kernel_rfl
        exact (show Tryz.prog.wantsStandIn t = false by simpa using List.all_eq_true.1 hall t hm)⟩)
    (by kernel_rfl)
#print axioms proved
end Go.Proofs.YtaogjccmeajpoaaGreatDoor.notationCanonical
