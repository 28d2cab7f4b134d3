/- The walk of SheetReads. The law SheetReads holds for every input. -/
import Derived.Test.YteaciofacmbllaaDoorRtU
import Derived.Test.YteaciofacmbllaaDoorSam
import Derived.Test.YteaciofacmbllaaDoorRows
import Derived.WalkKit
import Derived.ProofKit
import Derived.OpenShut
import Derived.ChangeOld
import Derived.Below
import Derived.Carry
import Derived.SizedLaws
import Derived.Test.YteaciofacmbllaaDoorCards
import Derived.Test.YteaciofacmbllaaDoorTie
import Derived.Stop.Joined
import Derived.SevenTiedAt
import Derived.Lay
import Derived.MakeChecks
import Derived.Test.YteaciofacmbllaaDoorArf
namespace Go.Proofs.YteaciofacmbllaaDoor
open Go.ChangeShapes Go.WideShapes Go.ChangeAt Go.RowKit
set_option linter.unusedVariables false
set_option linter.unusedSimpArgs false
set_option maxRecDepth 100000

set_option maxHeartbeats 3200000 in
theorem reads_any (p0 : Option Addr) (c0 : Nat) (a0 : List Int) (p1 : Option Addr) (c1 : Nat) (a1 : List Int) (w : World) (r0 : Ones w (Value.int .i64) p0 a0) (o0 : ∀ i (h : i < a0.length), (Lit.int .i64 (a0[i]'h)).wf = true) (n0 : a0.length ≤ c0) (m0 : c0 ≤ maxLen)
    (r1 : Ones w (Value.int .i64) p1 a1) (o1 : ∀ i (h : i < a1.length), (Lit.int .i64 (a1[i]'h)).wf = true) (n1 : a1.length ≤ c1) (m1 : c1 ≤ maxLen) :
    Calls Tryd.prog 7 #[.slice p0 a0.length c0, .slice p1 a1.length c1] w fun e w' => e = .returned (.bool true) ∧ Below w.heap.size w w' := by
  have HK := Lib.hid known_any
  by_cases l0 : a0.length ≤ 100
  case neg =>
    have z0 : 100 < a0.length := by omega
    clear r0 o0 l0 r1 o1
    go_enter Tryd.func7, Tryd.ntmps7
    go_wp2_with fail
    refine (HK.out _).mono ?_; rintro e w1 ⟨rfl, hb⟩
    go_wp2_with fail
    go_ret
    exact ⟨rfl, hb⟩
  by_cases l1 : a1.length ≤ 200
  case neg =>
    have z1 : 200 < a1.length := by omega
    have q0 : decide (100 < a0.length) = false := decide_eq_false (by omega)
    clear r0 o0 l1 r1 o1
    go_enter Tryd.func7, Tryd.ntmps7
    go_wp2_with fail
    refine (HK.out _).mono ?_; rintro e w1 ⟨rfl, hb⟩
    go_wp2_with fail
    go_ret
    exact ⟨rfl, hb⟩
  have q0 : decide (100 < a0.length) = false := decide_eq_false (by omega)
  have q1 : decide (200 < a1.length) = false := decide_eq_false (by omega)
  have RW := Lib.hid (raws_any p0 c0 a0 p1 c1 a1 w r0 o0 n0 m0 r1 o1 n1 m1)
  have hv := (mk_ok a0 false true).valid (by decide)
  have ht := mk_flat a0
  have hle := (valE_zero hv).2.1
  unfold EndRaw at RW
  generalize mk a0 false true = F at *
  have hdd : ∀ raw : List UInt8, RawsR (expI F) raw → raw.length ≤ 3010 * lenI F → ∀ W, Calls Tryd.prog 14 #[.string (bsL raw)] W fun e w' => ∃ p c, e = .returned (.tuple #[.slice p F.length c, .int .i64 0, .int .i64 0]) ∧ F.length ≤ c ∧ c ≤ maxLen ∧ Its w' p F ∧ Below W.heap.size W w' := fun raw hr hl W => by
    obtain ⟨ws, _, _, _, hd⟩ := raws_words hv ht hr
    have := decode_any (bsL raw) W (by rw [bsL_size]; omega)
    rw [bsL_list, hd] at this
    exact this
  have ls := fun p q c d W (i : Its W p F) (j : Its W q F) (hc : F.length ≤ c) (hd : F.length ≤ d) (hcm : c ≤ maxLen) (hdm : d ≤ maxLen) => rsame_any p q c d F F W i j hc hd hcm hdm
  rw [decide_eq_true (rfl : F = F)] at ls
  have LS := Lib.hid ls; have DD := Lib.hid hdd
  clear ls hdd hv ht hle r0 o0 r1 o1
  go_enter Tryd.func7, Tryd.ntmps7
  go_wp2_with fail
  refine RW.out.mono ?_; rintro e w5 ⟨raw, p, c, rfl, hraw, hrl, ha, hc, hi, hb⟩
  have bl := hb; clear hb
  have D1 := Lib.hid (DD.out raw hraw hrl)
  clear hraw hrl
  generalize bsL raw = T at *
  go_wp2_with fail
  refine (D1.out _).mono ?_; rintro e w6 ⟨p3, c3, rfl, a3, b3, i3, hb⟩
  have hi := hi.call hb; have bl := BelowOn bl hb; clear hb
  go_wp2_with fail
  refine (LS.out _ _ _ _ _ i3 hi a3 ha b3 hc).mono ?_; rintro e w7 ⟨rfl, hb⟩
  have bl := BelowOn bl hb; clear hb i3 hi
  go_wp2_with fail
  refine (HK.out _).mono ?_; rintro e w8 ⟨rfl, hb⟩
  have bl := BelowOn bl hb; clear hb
  go_wp2_with fail
  go_ret
  exact ⟨rfl, bl⟩
end Go.Proofs.YteaciofacmbllaaDoor
namespace Go.Proofs.YteaciofacmbllaaDoor.sheetReads
open Go.ChangeShapes Go.WideShapes Go.ChangeAt Go.RowKit
open Go.ChangeMaps (open_string shut_string)
set_option linter.unusedVariables false
set_option maxRecDepth 100000

theorem own : ownKnob Tryd.prog.godebug = none := by kernel_rfl
theorem laidOut : laidOutB Tryd.prog = true := by kernel_rfl


set_option maxHeartbeats 1600000 in
theorem walk (p0 : Option Addr) (c0 : Nat) (a0 : List Int) (p1 : Option Addr) (c1 : Nat) (a1 : List Int) (w : World) (r0 : Ones w (Value.int .i64) p0 a0) (o0 : ∀ i (h : i < a0.length), (Lit.int .i64 (a0[i]'h)).wf = true) (n0 : a0.length ≤ c0) (m0 : c0 ≤ maxLen) (r1 : Ones w (Value.int .i64) p1 a1) (o1 : ∀ i (h : i < a1.length), (Lit.int .i64 (a1[i]'h)).wf = true) (n1 : a1.length ≤ c1) (m1 : c1 ≤ maxLen) :
    Calls Tryd.prog 7 #[.slice p0 a0.length c0, .slice p1 a1.length c1] w fun e w' => e = .returned (.bool true) ∧ Below w.heap.size w w' := by
  exact reads_any p0 c0 a0 p1 c1 a1 w r0 o0 n0 m0 r1 o1 n1 m1

theorem lifted (os : Os) (started : os.Started) (H : Type) (enc : TypeId × Value → H) :
    ReturnsInHanded {} Tryd.checked os 7 .any (fun w args => (Rows.sheetReadsSpec.pre enc Tryd.prog Tryd.f7 Rows.sheetReadsRow.domain false w args ∧ laidMetH Tryd.prog Rows.sheetReadsRow.laid w) ∧ sizedMet enc Tryd.prog Tryd.f7 (OpenSpec.ofChange Rows.sheetReadsSpec) false w args)
      (Rows.sheetReadsSpec.post enc Tryd.prog Tryd.f7 false true false false) := by
  refine returnsInHanded_of_change_and (C := Tryd.checked) (X := fun w _ => laidMetH Tryd.prog Rows.sheetReadsRow.laid w) (fun _ _ _ hh h => h.of_heap hh) own started (by kernel_rfl) Tryd.func7
    (ChangeSpec.witness_shaped (enc := enc) (C := Tryd.checked) (os := os) (X := fun w _ => laidMetH Tryd.prog Rows.sheetReadsRow.laid w) false (World.laidAll Tryd.prog os Rows.sheetReadsRow.laid) #[.slice none 0 0, .slice none 0 0] 8 (World.laidAll_os _ _ _) (World.shaped_of_ZipB (by kernel_rfl) (by kernel_rfl)) (by kernel_rfl) (by kernel_rfl) (by kernel_rfl) (by rw [MakeChecks.laidMetH_plain _ _ _ (by kernel_rfl)]; exact laidMet_laidAll _ (by kernel_rfl) (by kernel_rfl))) ?_
  intro W base args ds gs before hval0 hW hcnd hsz0 hL _
  have hval : ∀ (j : Nat) t v, Tryd.f7.params[j]? = some t → args[j]? = some v → Value.okWide Tryd.prog W .any base t v := hval0
  have hW' := hW
  have hlt : ∀ x ∈ before, x.block < W.heap.size := fun x hx => hW'.lt x hx
  obtain ⟨p, q, hA0, hV, rfl, hfz, hnd⟩ := hW
  have hA : DataW.TrodAll enc Tryd.prog W 0 (fun _ => true) true Tryd.f7.params.toList args.toList ds p := hA0
  rw [Tryd.params7] at hA hval hsz0
  obtain ⟨v0, vs0, d0, ds0, p0, q0, hargs, rfl, rfl, h0, r0⟩ := trodAll_cons hA
  obtain ⟨v1, vs1, d1, ds1, p1, q1, rfl, rfl, rfl, h1, r1⟩ := trodAll_cons r0
  obtain ⟨rfl, rfl, rfl⟩ := trodAll_nil r1
  obtain rfl : args = #[v0, v1] := by cases args; simp_all
  obtain ⟨rfl, rfl⟩ := trodVars_none hV
  have hsz := hsz0; clear hsz0
  obtain ⟨pp0, c0, a0, rfl, n0, m0, y0, o0⟩ := opened_ints (okBase (hval 0 32 v0 rfl rfl)) h0
  obtain ⟨pp1, c1, a1, rfl, n1, m1, y1, o1⟩ := opened_ints (okBase (hval 1 32 v1 rfl rfl)) h1
  clear hA0 hval0
  refine (walk pp0 c0 a0 pp1 c1 a1 W y0 o0 n0 m0 y1 o1 n1 m1).mono fun e W' ⟨he, bel⟩ => ?_
  subst he
  exact ⟨_, rfl, _, _, _, [], _, [], hW', trodAll_mk1 (shut_bool Tryd.underlying4 _), (trodAll_cons_mk (Below.trod laidOut (by kernel_rfl) (of_decide_eq_true (by kernel_rfl)) h0 bel (fun x hx => hlt x (by simp [hx]))) (trodAll_cons_mk (Below.trod laidOut (by kernel_rfl) (of_decide_eq_true (by kernel_rfl)) h1 bel (fun x hx => hlt x (by simp [hx]))) trodAll_mk0)), rfl, bel.frame _, fun h => by cases h⟩

theorem over : Rows.SheetReadsSaid :=
  OpenClaim.holds_of_wide 7 Tryd.f7 rfl rfl rfl rfl rfl rfl rfl ⟨rfl, rfl, rfl, rfl, rfl⟩ rfl rfl rfl rfl rfl (by kernel_rfl) Tryd.func7 (by kernel_rfl)
    (of_decide_eq_true (by kernel_rfl)) (by unfold Func.isWrapper; first | (rw [if_pos (by decide +kernel)]; kernel_rfl) | (rw [if_neg (by decide +kernel)]; exact ⟨rfl, rfl⟩))
    (fun os started H enc _ => lifted os started H enc)

theorem proved : Rows.SheetReadsCardSaid :=
  Claim7.holds_tied_plain_at .later [] [.data, .data, .data] true (true, "a5b6abed314576cd32e3bf15c06510b1206821911040e32ccdbaea1ea5d6fcc3") false
    over (fun _ h => by cases h) (by kernel_rfl) (fun _ h => by cases h) sheetReads_row_tie rfl ⟨rfl, rfl⟩ (by kernel_rfl) rfl
    (fun f fn hf hfn => by
      obtain rfl : f = 7 := Option.some.inj ((show Tryd.prog.funcNamed "bitext/bitextlaw9.SheetReads" = some 7 by kernel_rfl).symm.trans hf) |>.symm
      obtain rfl : fn = Tryd.f7 := (Option.some.inj (Tryd.func7.symm.trans hfn)).symm
      exact ⟨by kernel_rfl, fun j t ht => by
        rw [Tryd.params7] at ht
        have hm : t ∈ [32, 32] := by simpa using Array.mem_of_getElem? ht
        have hall : ([32, 32].all fun u => !Tryd.prog.wantsStandIn u) = true := by kernel_rfl
        exact (show Tryd.prog.wantsStandIn t = false by simpa using List.all_eq_true.1 hall t hm)⟩)
    (by kernel_rfl)
#print axioms proved
end Go.Proofs.YteaciofacmbllaaDoor.sheetReads
