/- The law NotationRoundTrips holds for every input. -/
import Derived.Test.YtaogjccmeajpoaaDoorRows
import Derived.WalkKit
import Derived.ProofKit
import Derived.OpenShut
import Derived.ChangeOld
import Derived.Below
import Derived.Carry
import Derived.SizedLaws
import Derived.Test.YtaogjccmeajpoaaDoorCards
import Derived.Test.YtaogjccmeajpoaaDoorTie
import Derived.Stop.Joined
import Derived.SevenTiedAt
import Derived.Test.YtaogjccmeajpoaaDoorArg
import Derived.Test.YtaogjccmeajpoaaDoorNtD
import Derived.Test.YtaogjccmeajpoaaDoorNtB
import Derived.Test.YtaogjccmeajpoaaDoorNtA
import Derived.Test.YtaogjccmeajpoaaDoorCcW
namespace Go.Proofs.YtaogjccmeajpoaaDoor.notationRoundTrips
open Go.ChangeShapes Go.WideShapes Go.ChangeAt Go.RowKit
open Go.ChangeMaps (open_string shut_string)
set_option linter.unusedVariables false
set_option maxRecDepth 100000

theorem own : ownKnob Tryd.prog.godebug = none := by kernel_rfl
theorem laidOut : laidOutB Tryd.prog = true := by kernel_rfl

/-- A valid fragment with a text behind it, normalized, is valid. -/
theorem more_valid (l : List Int) (t : ByteArray) (ht : t.size ≤ 200) : valE (norm (mk l true false ++ [⟨1, t, 0⟩])) = 0 := by
  have h := mk_ok l true false
  have h1 := norm_len (mk l true false ++ [⟨1, t, 0⟩])
  have h2 := txt_normed (mk l true false ++ [⟨1, t, 0⟩])
  have h3 := lenI_txt (norm (mk l true false ++ [⟨1, t, 0⟩]))
  have h4 := h.len; have h5 := h.txt
  rw [txtI_append] at h2
  have h6 : txtI [(⟨1, t, 0⟩ : It)] = t.size := by simp [txtI]
  rw [List.length_append, List.length_singleton] at h1
  exact valE_of (by omega) (by omega) (err_text _ t h.e)

set_option maxHeartbeats 1600000 in
theorem walk (p0 : Option Addr) (c0 : Nat) (a0 : List Int) (a1 : ByteArray) (w : World) (r0 : Ones w (Value.int .i64) p0 a0) (o0 : ∀ i (h : i < a0.length), (Lit.int .i64 (a0[i]'h)).wf = true) (n0 : a0.length ≤ c0) (m0 : c0 ≤ maxLen) (w1 : a1.size ≤ 140737488355328) (hE : Env w.heap.size w) :
    Calls Tryd.prog 3 #[.slice p0 a0.length c0, .string a1] w fun e w' => e = .returned (.bool true) ∧ Below w.heap.size w w' := by
  have HK := Lib.hid known_any
  have HE := Lib.hid hE
  by_cases l0 : a0.length ≤ 100
  case neg =>
    have z0 : 100 < a0.length := by omega
    clear hE r0 o0 l0
    go_enter Tryd.func3, Tryd.ntmps3
    go_wp2_with fail
    refine (HK.out _ HE.out).mono ?_; rintro e w1 ⟨rfl, hb⟩
    go_wp2_with fail
    go_ret
    exact ⟨rfl, hb⟩
  by_cases l1 : a1.size ≤ 200
  case neg =>
    have z1 : 200 < a1.size := by omega
    have q0 : decide (100 < a0.length) = false := decide_eq_false (by omega)
    clear hE r0 o0 l1
    go_enter Tryd.func3, Tryd.ntmps3
    go_wp2_with fail
    refine (HK.out _ HE.out).mono ?_; rintro e w1 ⟨rfl, hb⟩
    go_wp2_with fail
    go_ret
    exact ⟨rfl, hb⟩
  have q0 : decide (100 < a0.length) = false := decide_eq_false (by omega)
  have q1 : decide (200 < a1.size) = false := decide_eq_false (by omega)
  have M0 := Lib.hid (fun W h => nmade_any p0 c0 a0 W h o0 n0 m0)
  unfold EndF at M0
  by_cases he : a1 = ⟨#[]⟩
  · subst he
    have v0 := mk_valid a0
    generalize mk a0 true false = F at *
    have x0 := valid_oks v0
    have f0 := fun p c W (i : Its W p F) (a : F.length ≤ c) (b : c ≤ maxLen) t => format_any p c F W i x0 a b t
    rw [v0] at f0
    have hsz := fmt_size v0
    have hline := fmt_line F v0
    have hpp := parse_fmt F v0
    have hS := fmtS_ok v0
    have p0' := fun W (hE : Env W.heap.size W) => parse_any (fmtS F) W (by rw [hS, bsL_size]; omega) hE
    have hlin : ∀ k (h : k < (fmtS F).size), (((fmtS F)[k].toNat : Int) == 10) = false := by
      rw [hS]
      intro k h
      have := hline _ (show (bsL (fmtN F))[k] ∈ fmtN F by
        have e : (bsL (fmtN F)).data.toList = fmtN F := bsL_list _
        have : (bsL (fmtN F))[k] = (bsL (fmtN F)).data.toList[k]'(by rw [e]; rw [bsL_size] at h; exact h) := by simp; rfl
        rw [this]
        simp only [e]
        exact List.getElem_mem _)
      rw [beq_eq_false_iff_ne]
      intro e
      exact this (UInt8.toNat_inj.1 (by show _ = 10; omega))
    have hparse : parseN (fmtS F).data.toList = (F, 0, 0) := by rw [hS, bsL_list]; exact hpp
    rw [hparse] at p0'
    have hsz2 : (fmtS F).size ≤ 2560000 := by rw [hS, bsL_size]; exact hsz
    unfold EndP at p0'; dsimp only at p0'
    have ss := fun p q c d W (i : Its W p F) (j : Its W q F) (a : F.length ≤ c) (b : F.length ≤ d) (x : c ≤ maxLen) (y : d ≤ maxLen) => rsame_any p q c d F F W i j a b x y
    rw [decide_eq_true (rfl : F = F)] at ss
    generalize fmtS F = S at *
    have F0 := Lib.hid f0; have SS := Lib.hid ss; have PP := Lib.hid p0'; have HL := Lib.hid hlin
    clear f0 ss x0 v0 hsz hline hpp hS p0' hlin hparse hE o0
    go_enter Tryd.func3, Tryd.ntmps3
    go_wp2_with fail
    refine (M0.out _ r0).mono ?_; rintro e w1 ⟨p2, c2, rfl, a2, b2, i2, hb⟩
    have hE := HE.out.next hb; have bl := hb; clear HE r0 hb
    go_wp2_with fail
    refine (F0.out _ _ _ i2 a2 b2 hE.tab).mono ?_; rintro e w3 ⟨rfl, hb⟩
    have hE := hE.next hb; have i2 := i2.call hb; have bl := BelowOn bl hb; clear hb
    go_wp2_with fail
    refine (PP.out _ hE).mono ?_; rintro e w4 ⟨p3, c3, rfl, a3, b3, i3, hb⟩
    have hE := hE.next hb; have i2 := i2.call hb; have bl := BelowOn bl hb; clear hb
    go_wp2_with fail
    go_loop [11] (fun i => ∃ k : Nat, k ≤ S.size ∧ i = .int .i64 k) (fun i => S.size - (intOf i).toNat)
    case atStart => exact ⟨0, Nat.zero_le _, rfl⟩
    case round =>
      obtain ⟨k, hk, rfl⟩ := hrel
      by_cases hlt : k < S.size
      · have q := HL.out k hlt
        go_wp2_with fail
        go_round
        case rel => exact ⟨k + 1, hlt, by go_num⟩
        case measure => simp [intOf]; omega
      · obtain rfl : k = S.size := by omega
        go_wp2_with fail
        refine (SS.out _ _ _ _ _ i2 i3 a2 a3 b2 b3).mono ?_; rintro e w5 ⟨rfl, hb⟩
        have hE := hE.next hb; have bl := BelowOn bl hb; clear hb i2 i3
        go_wp2_with fail
        refine (HK.out _ hE).mono ?_; rintro e w6 ⟨rfl, hb⟩
        have bl := BelowOn bl hb; clear hb
        go_wp2_with fail
        go_ret
        exact ⟨rfl, bl⟩
  · have hne : a1.toList.isEmpty = false := List.isEmpty_eq_false_iff.2 fun h => he (by rw [Go.ByteArray.toList_eq a1] at h; exact ByteArray.ext (Array.toList_inj.1 h))
    have v0 := more_valid a0 a1 l1
    have g := mk_ok a0 true false
    have g1 := g.len; have g2 := g.txt
    have cc := fun p q c d W i j => rconcat_any p q c d (mk a0 true false) [⟨1, a1, 0⟩] W i j (by simp; omega) (by show txtI (mk a0 true false) + (a1.size + 0) ≤ _; omega)
    have CC := Lib.hid cc; clear cc g he
    generalize norm (mk a0 true false ++ [⟨1, a1, 0⟩]) = F at *
    generalize mk a0 true false = G at *
    have x0 := valid_oks v0
    have f0 := fun p c W (i : Its W p F) (a : F.length ≤ c) (b : c ≤ maxLen) t => format_any p c F W i x0 a b t
    rw [v0] at f0
    have hsz := fmt_size v0
    have hline := fmt_line F v0
    have hpp := parse_fmt F v0
    have hS := fmtS_ok v0
    have p0' := fun W (hE : Env W.heap.size W) => parse_any (fmtS F) W (by rw [hS, bsL_size]; omega) hE
    have hlin : ∀ k (h : k < (fmtS F).size), (((fmtS F)[k].toNat : Int) == 10) = false := by
      rw [hS]
      intro k h
      have := hline _ (show (bsL (fmtN F))[k] ∈ fmtN F by
        have e : (bsL (fmtN F)).data.toList = fmtN F := bsL_list _
        have : (bsL (fmtN F))[k] = (bsL (fmtN F)).data.toList[k]'(by rw [e]; rw [bsL_size] at h; exact h) := by simp; rfl
        rw [this]
        simp only [e]
        exact List.getElem_mem _)
      rw [beq_eq_false_iff_ne]
      intro e
      exact this (UInt8.toNat_inj.1 (by show _ = 10; omega))
    have hparse : parseN (fmtS F).data.toList = (F, 0, 0) := by rw [hS, bsL_list]; exact hpp
    rw [hparse] at p0'
    have hsz2 : (fmtS F).size ≤ 2560000 := by rw [hS, bsL_size]; exact hsz
    unfold EndP at p0'; dsimp only at p0'
    have ss := fun p q c d W (i : Its W p F) (j : Its W q F) (a : F.length ≤ c) (b : F.length ≤ d) (x : c ≤ maxLen) (y : d ≤ maxLen) => rsame_any p q c d F F W i j a b x y
    rw [decide_eq_true (rfl : F = F)] at ss
    generalize fmtS F = S at *
    have F0 := Lib.hid f0; have SS := Lib.hid ss; have PP := Lib.hid p0'; have HL := Lib.hid hlin
    clear f0 ss x0 v0 hsz hline hpp hS p0' hlin hparse hE o0
    clear g1 g2
    go_enter Tryd.func3, Tryd.ntmps3
    go_wp2_with fail
    refine (M0.out _ r0).mono ?_; rintro e w1 ⟨p2, c2, rfl, a2, b2, i2, hb⟩
    have hE := HE.out.next hb; have bl := hb; clear HE r0 hb
    go_wp2_with fail
    refine (CC.out _ _ _ _ _ (i2.call (blw (Below.refl _ _) _)) (Its.lit (l := [⟨1, a1, 0⟩]) (heap_alloc_new _ _) rfl)).mono ?_; rintro e w2 h
    obtain ⟨p4, c4, rfl, a4, b4, i4, hb⟩ := EndI.f h
    have hb := BelowOn (blw (Below.refl _ _) _) hb
    have hE := hE.next hb; have bl := BelowOn bl hb; clear hb i2 a2 b2 h
    have i2 := i4; have a2 := a4; have b2 := b4
    clear i4 a4 b4
    go_wp2_with fail
    refine (F0.out _ _ _ i2 a2 b2 hE.tab).mono ?_; rintro e w3 ⟨rfl, hb⟩
    have hE := hE.next hb; have i2 := i2.call hb; have bl := BelowOn bl hb; clear hb
    go_wp2_with fail
    refine (PP.out _ hE).mono ?_; rintro e w4 ⟨p3, c3, rfl, a3, b3, i3, hb⟩
    have hE := hE.next hb; have i2 := i2.call hb; have bl := BelowOn bl hb; clear hb
    go_wp2_with fail
    go_loop [11] (fun i => ∃ k : Nat, k ≤ S.size ∧ i = .int .i64 k) (fun i => S.size - (intOf i).toNat)
    case atStart => exact ⟨0, Nat.zero_le _, rfl⟩
    case round =>
      obtain ⟨k, hk, rfl⟩ := hrel
      by_cases hlt : k < S.size
      · have q := HL.out k hlt
        go_wp2_with fail
        go_round
        case rel => exact ⟨k + 1, hlt, by go_num⟩
        case measure => simp [intOf]; omega
      · obtain rfl : k = S.size := by omega
        go_wp2_with fail
        refine (SS.out _ _ _ _ _ i2 i3 a2 a3 b2 b3).mono ?_; rintro e w5 ⟨rfl, hb⟩
        have hE := hE.next hb; have bl := BelowOn bl hb; clear hb i2 i3
        go_wp2_with fail
        refine (HK.out _ hE).mono ?_; rintro e w6 ⟨rfl, hb⟩
        have bl := BelowOn bl hb; clear hb
        go_wp2_with fail
        go_ret
        exact ⟨rfl, bl⟩

theorem lifted (os : Os) (started : os.Started) (H : Type) (enc : TypeId × Value → H) :
    ReturnsInHanded {} Tryd.checked os 3 .any (fun w args => (Rows.notationRoundTripsSpec.pre enc Tryd.prog Tryd.f3 Rows.notationRoundTripsRow.domain false w args ∧ laidMetH Tryd.prog Rows.notationRoundTripsRow.laid w) ∧ sizedMet enc Tryd.prog Tryd.f3 (OpenSpec.ofChange Rows.notationRoundTripsSpec) false w args)
      (Rows.notationRoundTripsSpec.post enc Tryd.prog Tryd.f3 false true false false) := by
  refine returnsInHanded_of_change_and (C := Tryd.checked) (X := fun w _ => laidMetH Tryd.prog Rows.notationRoundTripsRow.laid w) (fun _ _ _ hh h => h.of_heap hh) own started (by kernel_rfl) Tryd.func3
    (ChangeSpec.witness_shaped (enc := enc) (C := Tryd.checked) (os := os) (X := fun w _ => laidMetH Tryd.prog Rows.notationRoundTripsRow.laid w) false (World.doorLaid Tryd.prog 62 os) #[.slice none 0 0, .string ByteArray.empty] 8 rfl (World.shaped_of_RefB (by kernel_rfl) (by kernel_rfl)) (by kernel_rfl) (by kernel_rfl) (by kernel_rfl) (door_met os _)) ?_
  intro W base args ds gs before hval0 hW hcnd hsz0 hL _
  have hval : ∀ (j : Nat) t v, Tryd.f3.params[j]? = some t → args[j]? = some v → Value.okWide Tryd.prog W .any base t v := hval0
  have hW' := hW
  have hlt : ∀ x ∈ before, x.block < W.heap.size := fun x hx => hW'.lt x hx
  obtain ⟨p, q, hA0, hV, rfl, hfz, hnd⟩ := hW
  have hA : DataW.TrodAll enc Tryd.prog W 0 (fun _ => true) true Tryd.f3.params.toList args.toList ds p := hA0
  rw [Tryd.params3] at hA hval hsz0
  obtain ⟨v0, vs0, d0, ds0, p0, q0, hargs, rfl, rfl, h0, r0⟩ := trodAll_cons hA
  obtain ⟨v1, vs1, d1, ds1, p1, q1, rfl, rfl, rfl, h1, r1⟩ := trodAll_cons r0
  obtain ⟨rfl, rfl, rfl⟩ := trodAll_nil r1
  obtain rfl : args = #[v0, v1] := by cases args; simp_all
  obtain ⟨rfl, rfl⟩ := trodVars_none hV
  have hsz := hsz0; clear hsz0
  obtain ⟨pp0, c0, a0, rfl, n0, m0, y0, o0⟩ := opened_ints (okBase (hval 0 22 v0 rfl rfl)) h0
  have z1 : ∀ n ∈ DataW.weights Tryd.prog 9 d1, n ≤ reachBytes := (fun n hn => by simpa using List.all_eq_true.1 hsz n (DataW.weights_mem_each (j := 1) rfl rfl n hn))
  obtain ⟨a1, rfl, e1, -, -⟩ := open_string Tryd.underlying9 (hval 1 9 v1 rfl rfl) h1
  have w1 : a1.size ≤ 140737488355328 := str_le e1 z1
  clear hA0 hval0
  refine (walk pp0 c0 a0 a1 W y0 o0 n0 m0 w1 (env_of_laid hL)).mono fun e W' ⟨he, bel⟩ => ?_
  subst he
  exact ⟨_, rfl, _, _, _, [], _, [], hW', trodAll_mk1 (shut_bool Tryd.underlying4 _), (trodAll_cons_mk (Below.trod laidOut (by kernel_rfl) (of_decide_eq_true (by kernel_rfl)) h0 bel (fun x hx => hlt x (by simp [hx]))) (trodAll_cons_mk (Below.trod laidOut (by kernel_rfl) (of_decide_eq_true (by kernel_rfl)) h1 bel (fun x hx => hlt x (by simp [hx]))) trodAll_mk0)), rfl, bel.frame _, fun h => by cases h⟩

theorem over : Rows.NotationRoundTripsSaid :=
  OpenClaim.holds_of_wide 3 Tryd.f3 rfl rfl rfl rfl rfl rfl rfl ⟨rfl, rfl, rfl, rfl, rfl⟩ rfl rfl rfl rfl rfl (by kernel_rfl) Tryd.func3 (by kernel_rfl)
    (of_decide_eq_true (by kernel_rfl)) (by unfold Func.isWrapper; first | (rw [if_pos (by decide +kernel)]; kernel_rfl) | (rw [if_neg (by decide +kernel)]; exact ⟨rfl, rfl⟩))
    (fun os started H enc _ => lifted os started H enc)

theorem proved : Rows.NotationRoundTripsCardSaid :=
  Claim7.holds_tied_plain_at .later [] [.data, .data, .data, .sentinel, .sentinel] true (true, "529efb2a7584da621922325beb1b198cc1ba06798890591b00a81a613af15fc8") true
    over (fun _ h => by cases h) (by kernel_rfl) (fun _ h => by cases h) notationRoundTrips_row_tie rfl ⟨rfl, rfl⟩ (by kernel_rfl) rfl
    (fun f fn hf hfn => by
      obtain rfl : f = 3 := Option.some.inj ((show Tryd.prog.funcNamed "bitext/bitextlaw4.NotationRoundTrips" = some 3 by kernel_rfl).symm.trans hf) |>.symm
      obtain rfl : fn = Tryd.f3 := (Option.some.inj (Tryd.func3.symm.trans hfn)).symm
      exact ⟨by kernel_rfl, fun j t ht => by
        rw [Tryd.params3] at ht
        have hm : t ∈ [22, 9] := by simpa using Array.mem_of_getElem? ht
        have hall : ([22, 9].all fun u => !Tryd.prog.wantsStandIn u) = true := by kernel_rfl
        exact (show Tryd.prog.wantsStandIn t = false by simpa using List.all_eq_true.1 hall t hm)⟩)
    (by kernel_rfl)
#print axioms proved
end Go.Proofs.YtaogjccmeajpoaaDoor.notationRoundTrips
