/- The walk of MarkupRoundTrips. The law MarkupRoundTrips holds for every input. -/
import Derived.Test.YtphkpokoeaagfaaDoorKtF
import Derived.Test.YtphkpokoeaagfaaDoorSam
import Derived.Test.YtphkpokoeaagfaaDoorRows
import Derived.WalkKit
import Derived.ProofKit
import Derived.OpenShut
import Derived.ChangeOld
import Derived.Below
import Derived.Carry
import Derived.SizedLaws
import Derived.Test.YtphkpokoeaagfaaDoorCards
import Derived.Test.YtphkpokoeaagfaaDoorTie
import Derived.Stop.Joined
import Derived.SevenTiedAt
import Derived.Lay
import Derived.MakeChecks
import Derived.Test.YtphkpokoeaagfaaDoorArf
import Derived.Test.YtphkpokoeaagfaaDoorKtL
namespace Go.Proofs.YtphkpokoeaagfaaDoor
open Go.ChangeShapes Go.WideShapes Go.ChangeAt Go.RowKit
set_option linter.unusedVariables false
set_option linter.unusedSimpArgs false
set_option maxRecDepth 100000

set_option maxHeartbeats 3200000 in
theorem roundtrips_any (p0 : Option Addr) (c0 : Nat) (a0 : List Int) (a1 : ByteArray) (w : World) (r0 : Ones w (Value.int .i64) p0 a0) (o0 : ∀ i (h : i < a0.length), (Lit.int .i64 (a0[i]'h)).wf = true) (n0 : a0.length ≤ c0) (m0 : c0 ≤ maxLen) (w1 : a1.size ≤ 140737488355328) (hM : Mx w) :
    Calls Tryd.prog 4 #[.slice p0 a0.length c0, .string a1] w fun e w' => e = .returned (.bool true) ∧ Below w.heap.size w w' := by
  have HM := Lib.hid hM
  have HK := Lib.hid (fun W (h : Below w.heap.size w W) => known_any W (hM.call h))
  clear hM
  by_cases l0 : a0.length ≤ 100
  case neg =>
    have z0 : 100 < a0.length := by omega
    clear r0 o0 l0
    go_enter Tryd.func4, Tryd.ntmps4
    go_wp2_with fail
    refine (HK.out _ (Below.refl _ _)).mono ?_; rintro e w1 ⟨rfl, hb⟩
    go_wp2_with fail
    go_ret
    exact ⟨rfl, hb⟩
  by_cases l1 : a1.size ≤ 200
  case neg =>
    have z1 : 200 < a1.size := by omega
    have q0 : decide (100 < a0.length) = false := decide_eq_false (by omega)
    clear r0 o0 l1
    go_enter Tryd.func4, Tryd.ntmps4
    go_wp2_with fail
    refine (HK.out _ (Below.refl _ _)).mono ?_; rintro e w1 ⟨rfl, hb⟩
    go_wp2_with fail
    go_ret
    exact ⟨rfl, hb⟩
  have q0 : decide (100 < a0.length) = false := decide_eq_false (by omega)
  have q1 : decide (200 < a1.size) = false := decide_eq_false (by omega)
  have M0 := Lib.hid (fun W h => rmade_any p0 c0 a0 W h o0 n0 m0)
  unfold EndF at M0
  have v0 := mkT_valid a0 a1 l1
  have t0 := mkT_made a0 a1
  have g := mk_ok a0 true true
  have g1 := g.len; have g2 := g.txt
  have htx : txtI (mkT a0 a1) ≤ 140737488355328 := by
    have h2 := txt_normed (mk a0 true true ++ [⟨1, a1, 0⟩])
    rw [txtI_snoc] at h2
    have h3 : txtI (mkT a0 a1) ≤ txtI (mk a0 true true) + a1.size := h2
    omega
  have cc := fun p q c d W i j => rconcat_any p q c d (mk a0 true true) [⟨1, a1, 0⟩] W i j (by simp; omega) (by show txtI (mk a0 true true) + (a1.size + 0) ≤ _; omega)
  have CC := Lib.hid cc; clear cc g
  rw [show norm (mk a0 true true ++ [⟨1, a1, 0⟩]) = mkT a0 a1 from rfl] at CC
  generalize mkT a0 a1 = F at *
  generalize mk a0 true true = G at *
  have x0 := oks_valid (valE_zero v0).2.2 htx
  have f0 := fun p c W (i : Its W p F) (a : F.length ≤ c) (b : c ≤ maxLen) => encode_any p c F W i x0 a b
  rw [encE_ok v0 (any_tags t0.nb)] at f0
  have hsz : (bsL (encM F)).size ≤ 1000000000 := by rw [bsL_size]; have := enc_bytes v0; omega
  have d0 := fun W (h : Mx W) => decode_any (bsL (encM F)) W h hsz
  rw [bsL_list, dec_made v0 t0] at d0
  unfold EndD at d0; dsimp only at d0 f0
  have hlen := (valE_zero v0).1
  have rn := fun p c W (i : Its W p F) (a : F.length ≤ c) (b : c ≤ maxLen) => rrenumber_any p c F W i a b (by omega) htx
  rw [renum_made t0.nums (norm_valid F (valE_zero v0).2.2)] at rn
  unfold EndF2 at rn
  have ss := fun p q c d W (i : Its W p F) (j : Its W q F) (a : F.length ≤ c) (b : F.length ≤ d) (x : c ≤ maxLen) (y : d ≤ maxLen) => rsame_any p q c d F F W i j a b x y
  rw [decide_eq_true (rfl : F = F)] at ss
  generalize bsL (encM F) = S at *
  have F0 := Lib.hid f0; have SS := Lib.hid ss; have DD := Lib.hid d0; have RN := Lib.hid rn
  clear f0 ss d0 rn x0 v0 t0 hsz htx hlen o0 g1 g2
  go_enter Tryd.func4, Tryd.ntmps4
  go_wp2_with fail
  refine (M0.out _ r0).mono ?_; rintro e w1 ⟨p2, c2, rfl, a2, b2, i2, hb⟩
  have bl := hb; clear r0 hb
  go_wp2_with fail
  refine (CC.out _ _ _ _ _ (i2.call (blw (Below.refl _ _) _)) (its_one (x := ⟨1, a1, 0⟩) (heap_alloc_new _ _))).mono ?_; rintro e w2 h
  obtain ⟨p4, c4, rfl, a4, b4, i4, hb⟩ := EndI.f h
  have hb := BelowOn (blw (Below.refl _ _) _) hb
  have bl := BelowOn bl hb; clear hb i2 a2 b2 h
  have i2 := i4; have a2 := a4; have b2 := b4
  clear i4 a4 b4
  go_wp2_with fail
  refine (F0.out _ _ _ i2 a2 b2).mono ?_; rintro e w3 ⟨rfl, hb⟩
  have i2 := i2.call hb; have bl := BelowOn bl hb; clear hb
  go_wp2_with fail
  refine (DD.out _ (HM.out.call bl)).mono ?_; rintro e w4 ⟨p3, c3, rfl, a3, b3, i3, hb⟩
  have i2 := i2.call hb; have bl := BelowOn bl hb; clear hb
  go_wp2_with fail
  refine (RN.out _ _ _ i2 a2 b2).mono ?_; rintro e w5 ⟨p5, c5, rfl, a5, b5, i5, hb⟩
  have i3 := i3.call hb; have bl := BelowOn bl hb; clear hb
  go_wp2_with fail
  refine (SS.out _ _ _ _ _ i3 i5 a3 a5 b3 b5).mono ?_; rintro e w6 ⟨rfl, hb⟩
  have bl := BelowOn bl hb; clear hb i2 i3 i5
  go_wp2_with fail
  refine (HK.out _ bl).mono ?_; rintro e w7 ⟨rfl, hb⟩
  have bl := BelowOn bl hb; clear hb
  go_wp2_with fail
  go_ret
  exact ⟨rfl, bl⟩
end Go.Proofs.YtphkpokoeaagfaaDoor
namespace Go.Proofs.YtphkpokoeaagfaaDoor.markupRoundTrips
open Go.ChangeShapes Go.WideShapes Go.ChangeAt Go.RowKit
open Go.ChangeMaps (open_string shut_string)
set_option linter.unusedVariables false
set_option maxRecDepth 100000

theorem own : ownKnob Tryd.prog.godebug = none := by kernel_rfl
theorem laidOut : laidOutB Tryd.prog = true := by kernel_rfl


set_option maxHeartbeats 1600000 in
theorem walk (p0 : Option Addr) (c0 : Nat) (a0 : List Int) (a1 : ByteArray) (w : World) (r0 : Ones w (Value.int .i64) p0 a0) (o0 : ∀ i (h : i < a0.length), (Lit.int .i64 (a0[i]'h)).wf = true) (n0 : a0.length ≤ c0) (m0 : c0 ≤ maxLen) (w1 : a1.size ≤ 140737488355328) (hE : ItoaOk 1000000000 w) (hMx : Mx w) :
    Calls Tryd.prog 4 #[.slice p0 a0.length c0, .string a1] w fun e w' => e = .returned (.bool true) ∧ Below w.heap.size w w' := by
  exact roundtrips_any p0 c0 a0 a1 w r0 o0 n0 m0 w1 hMx

theorem lifted (os : Os) (started : os.Started) (H : Type) (enc : TypeId × Value → H) :
    ReturnsInHanded {} Tryd.checked os 4 .any (fun w args => (Rows.markupRoundTripsSpec.pre enc Tryd.prog Tryd.f4 Rows.markupRoundTripsRow.domain false w args ∧ laidMetH Tryd.prog Rows.markupRoundTripsRow.laid w) ∧ sizedMet enc Tryd.prog Tryd.f4 (OpenSpec.ofChange Rows.markupRoundTripsSpec) false w args)
      (Rows.markupRoundTripsSpec.post enc Tryd.prog Tryd.f4 false true false false) := by
  refine returnsInHanded_of_calls (C := Tryd.checked) own started (by kernel_rfl)
    (ChangeSpec.witness_shaped (enc := enc) (C := Tryd.checked) (os := os) (X := fun w _ => laidMetH Tryd.prog Rows.markupRoundTripsRow.laid w) false (World.laidAll Tryd.prog os Rows.markupRoundTripsRow.laid) #[.slice none 0 0, .string ByteArray.empty] 8 (World.laidAll_os _ _ _) (World.shaped_of_ZipB (by kernel_rfl) (by kernel_rfl)) (by kernel_rfl) (by kernel_rfl) (by kernel_rfl) (by rw [MakeChecks.laidMetH_plain _ _ _ (by kernel_rfl)]; exact laidMet_laidAll _ (by kernel_rfl) (by kernel_rfl))) ?_
  intro w0 tape inp _ hsh _ hok hpre _
  obtain ⟨_, _, _, fn1, hfn1, _, _, _, _, hval0⟩ := hok
  obtain rfl : Tryd.f4 = fn1 := Option.some.inj (Tryd.func4.symm.trans hfn1)
  obtain ⟨⟨⟨ds, gs, before, hW0, hcnd⟩, hL0⟩, hz0⟩ := hpre
  have hW := DataW.Whole.of_heap (w' := w0.forCall tape inp) (by rfl) hW0
  have hsz0 := hz0.weights hW0
  have hL : laidMetH Tryd.prog Rows.markupRoundTripsRow.laid (w0.forCall tape inp) := hL0.of_heap (by rfl)
  suffices hK : Calls Tryd.prog 4 inp.args (w0.forCall tape inp) fun e W' => ∃ v, e = .returned v ∧ Rows.markupRoundTripsSpec.post enc Tryd.prog Tryd.f4 false true false false (w0.forCall tape inp) inp.args v W' from
    hK.mono fun e W' ⟨v, he, hp⟩ => by subst he; exact ChangeSpec.post_blind hp
  clear hW0 hz0 hL0
  generalize w0.forCall tape inp = W at *
  generalize inp.args = args at *
  generalize w0.heap.size = base at *
  have hval : ∀ (j : Nat) t v, Tryd.f4.params[j]? = some t → args[j]? = some v → Value.okWide Tryd.prog W .any base t v := hval0
  have hW' := hW
  have hlt : ∀ x ∈ before, x.block < W.heap.size := fun x hx => hW'.lt x hx
  obtain ⟨p, q, hA0, hV, rfl, hfz, hnd⟩ := hW
  have hA : DataW.TrodAll enc Tryd.prog W 0 (fun _ => true) true Tryd.f4.params.toList args.toList ds p := hA0
  rw [Tryd.params4] at hA hval hsz0
  obtain ⟨v0, vs0, d0, ds0, p0, q0, hargs, rfl, rfl, h0, r0⟩ := trodAll_cons hA
  obtain ⟨v1, vs1, d1, ds1, p1, q1, rfl, rfl, rfl, h1, r1⟩ := trodAll_cons r0
  obtain ⟨rfl, rfl, rfl⟩ := trodAll_nil r1
  obtain rfl : args = #[v0, v1] := by cases args; simp_all
  obtain ⟨rfl, rfl⟩ := trodVars_none hV
  have hsz := hsz0; clear hsz0
  obtain ⟨pp0, c0, a0, rfl, n0, m0, y0, o0⟩ := opened_ints (okBase (hval 0 32 v0 rfl rfl)) h0
  have z1 : ∀ n ∈ DataW.weights Tryd.prog 9 d1, n ≤ reachBytes := (fun n hn => by simpa using List.all_eq_true.1 hsz n (DataW.weights_mem_each (j := 1) rfl rfl n hn))
  obtain ⟨a1, rfl, e1, -, -⟩ := open_string Tryd.underlying9 (hval 1 9 v1 rfl rfl) h1
  have w1 : a1.size ≤ 140737488355328 := str_le e1 z1
  clear hA0 hval0
  refine (walk pp0 c0 a0 a1 W y0 o0 n0 m0 w1 (itoa_of_laid hL) (mx_of_shaped hsh)).mono fun e W' ⟨he, bel⟩ => ?_
  subst he
  exact ⟨_, rfl, _, _, _, [], _, [], hW', trodAll_mk1 (shut_bool Tryd.underlying4 _), (trodAll_cons_mk (Below.trod laidOut (by kernel_rfl) (of_decide_eq_true (by kernel_rfl)) h0 bel (fun x hx => hlt x (by simp [hx]))) (trodAll_cons_mk (Below.trod laidOut (by kernel_rfl) (of_decide_eq_true (by kernel_rfl)) h1 bel (fun x hx => hlt x (by simp [hx]))) trodAll_mk0)), rfl, bel.frame _, fun h => by cases h⟩

theorem over : Rows.MarkupRoundTripsSaid :=
  OpenClaim.holds_of_wide 4 Tryd.f4 rfl rfl rfl rfl rfl rfl rfl ⟨rfl, rfl, rfl, rfl, rfl⟩ rfl rfl rfl rfl rfl (by kernel_rfl) Tryd.func4 (by kernel_rfl)
    (of_decide_eq_true (by kernel_rfl)) (by unfold Func.isWrapper; first | (rw [if_pos (by decide +kernel)]; kernel_rfl) | (rw [if_neg (by decide +kernel)]; exact ⟨rfl, rfl⟩))
    (fun os started H enc _ => lifted os started H enc)

theorem proved : Rows.MarkupRoundTripsCardSaid :=
  Claim7.holds_tied_plain_at .later [] [.data, .data, .data] true (true, "57ef196fd23df9bba85e5a26644ca28b94ab80892a4814cbd88e02ce20a34e9b") false
    over (fun _ h => by cases h) (by kernel_rfl) (fun _ h => by cases h) markupRoundTrips_row_tie rfl ⟨rfl, rfl⟩ (by kernel_rfl) rfl
    (fun f fn hf hfn => by
      obtain rfl : f = 4 := Option.some.inj ((show Tryd.prog.funcNamed "bitext/bitextlaw7.MarkupRoundTrips" = some 4 by kernel_rfl).symm.trans hf) |>.symm
      obtain rfl : fn = Tryd.f4 := (Option.some.inj (Tryd.func4.symm.trans hfn)).symm
      exact ⟨by kernel_rfl, fun j t ht => by
        rw [Tryd.params4] at ht
        have hm : t ∈ [32, 9] := by simpa using Array.mem_of_getElem? ht
        have hall : ([32, 9].all fun u => !Tryd.prog.wantsStandIn u) = true := by kernel_rfl
        exact (show Tryd.prog.wantsStandIn t = false by simpa using List.all_eq_true.1 hall t hm)⟩)
    (by kernel_rfl)
#print axioms proved
end Go.Proofs.YtphkpokoeaagfaaDoor.markupRoundTrips
