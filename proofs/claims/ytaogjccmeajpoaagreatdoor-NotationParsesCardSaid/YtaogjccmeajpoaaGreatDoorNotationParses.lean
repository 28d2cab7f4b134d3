/- The law NotationParses holds for every input. -/
import Derived.Test.YtaogjccmeajpoaaGreatDoorRows
import Derived.WalkKit
import Derived.ProofKit
import Derived.OpenShut
import Derived.ChangeOld
import Derived.Below
import Derived.Carry
import Derived.SizedLaws
import Derived.Test.YtaogjccmeajpoaaGreatDoorCards
import Derived.Test.YtaogjccmeajpoaaGreatDoorTie
import Derived.Stop.Joined
import Derived.SevenTiedAt
import Derived.Test.YtaogjccmeajpoaaGreatDoorArf
import Derived.Test.YtaogjccmeajpoaaGreatDoorNtD
import Derived.Test.YtaogjccmeajpoaaGreatDoorNxt
import Derived.Test.YtaogjccmeajpoaaGreatDoorRvl
import Derived.Test.YtaogjccmeajpoaaGreatDoorNrg
import Derived.Test.YtaogjccmeajpoaaGreatDoorNtE
import Derived.Test.YtaogjccmeajpoaaGreatDoorSam
namespace Go.Proofs.YtaogjccmeajpoaaGreatDoor.notationParses
open Go.ChangeShapes Go.WideShapes Go.ChangeAt Go.RowKit
open Go.ChangeMaps (open_string shut_string)
set_option linter.unusedVariables false
set_option maxRecDepth 100000

theorem own : ownKnob Tryz.prog.godebug = none := by kernel_rfl
theorem laidOut : laidOutB Tryz.prog = true := by kernel_rfl

theorem conv_new (W : World) (T : ByteArray) : (convert 9 31 (.string T)).run Tryz.prog W = .ok (.slice (some ⟨W.heap.size, 0, none⟩) T.size (grownCap W T.size 0 5)) (Lib.bytesWorld W 5 T) :=
  Lib.run_convert_string_bytes W 9 31 5 T Tryz.underlying9 Tryz.underlying31 Tryz.underlying5
theorem bytes_new (W : World) (T : ByteArray) : Lib.Bytes (Lib.bytesWorld W 5 T) W.heap.size 0 T := fun i h => by
  rw [Nat.zero_add, Lib.bytesWorld_cell W 5 T i h]
  have e : T.data.toList[i]? = some T[i] := by
    rw [List.getElem?_eq_getElem (by simpa using h)]; simp; rfl
  simp [List.getD, e]
/-- A text with one byte changed. -/
def chg (T : ByteArray) (i : Nat) (u : UInt8) : ByteArray := bsL (T.data.toList.set i u)
theorem chg_size (T : ByteArray) (i : Nat) (u : UInt8) : (chg T i u).size = T.size := by unfold chg; rw [bsL_size]; simp
theorem bytes_set {W : World} {B : Nat} {T : ByteArray} (h : Lib.Bytes W B 0 T) (i : Nat) (hi : i < T.size) (u : UInt8) : Lib.Bytes (W.setCell ⟨B, i, none⟩ (.int .u8 (u.toNat : Int))) B 0 (chg T i u) := fun j hj => by
  have hz := chg_size T i u
  have hj' : j < T.size := by omega
  have e : (chg T i u)[j] = if i = j then u else T[j] := by
    have : (chg T i u).data.toList[j]'(by simpa using hj) = if i = j then u else T[j] := by
      unfold chg
      simp only [bsL_list]
      rw [List.getElem_set]
      split
      · rfl
      · simp; rfl
    rw [← this]; simp; rfl
  have ho := h j hj'
  have hm := h i hi
  rw [Nat.zero_add] at ho hm ⊢
  rw [e]
  by_cases hij : i = j
  · subst hij
    rw [if_pos rfl, World.cell?_setCell_same _ _ _ hm]
  · rw [if_neg hij, World.cell?_setCell_other _ _ _ _ (fun h => hij (by have := congrArg Addr.off h; simp at this; omega)), ho]
theorem bytes_frozen (W : World) (T : ByteArray) (i : Nat) (hi : i < T.size) : (Lib.bytesWorld W 5 T).frozen? ⟨W.heap.size, i, none⟩ = false := by
  have := Lib.bytesWorld_at_new W 5 T
  unfold World.frozen?
  simp only [this]
  simp [Lib.bytesCells]
  omega
theorem both (u : ByteArray) (h : u.size ≤ 1000000000000) : ∃ (L : List It) (q : Nat) (er : Int), Hid (∀ W, Env W.heap.size W → Calls Tryz.prog 13 #[.string u] W (EndP (L, q, er) W)) ∧ Hid (∀ W, Calls Tryz.prog 14 #[.string u] W (EndP (L, q, er) W)) :=
  ⟨(parseN u.data.toList).1, (parseN u.data.toList).2.1, (parseN u.data.toList).2.2, Lib.hid fun W hE => parse_any u W h hE, Lib.hid fun W => rparse_any u W h⟩
theorem conv_back {W : World} {B : Nat} {V : ByteArray} (h : Lib.Bytes W B 0 V) (n c : Nat) (hn : V.size = n) : (convert 31 9 (.slice (some ⟨B, 0, none⟩) n c)).run Tryz.prog W = .ok (.string V) W := by
  subst hn
  exact Lib.run_convert_whole (P := Tryz.prog) W 31 5 9 Tryz.underlying31 Tryz.underlying5 Tryz.underlying9 B 0 V h c
theorem idx0 (W : World) (a b c : ByteArray) : Sem.run Tryz.prog (Instr.index 33 (.agg #[.string a, .string b, .string c]) (.int .i64 0)) W = .ok (.string a) W := by kernel_rfl
theorem idx1 (W : World) (a b c : ByteArray) : Sem.run Tryz.prog (Instr.index 33 (.agg #[.string a, .string b, .string c]) (.int .i64 1)) W = .ok (.string b) W := by kernel_rfl
theorem idx2 (W : World) (a b c : ByteArray) : Sem.run Tryz.prog (Instr.index 33 (.agg #[.string a, .string b, .string c]) (.int .i64 2)) W = .ok (.string c) W := by kernel_rfl

set_option maxHeartbeats 1600000 in
theorem walk (a0 : ByteArray) (p1 : Option Addr) (c1 : Nat) (a1 : List Int) (a2 : Int) (a3 : Int) (w : World) (w0 : a0.size ≤ 140737488355328) (r1 : Ones w (Value.int .i64) p1 a1) (o1 : ∀ i (h : i < a1.length), (Lit.int .i64 (a1[i]'h)).wf = true) (n1 : a1.length ≤ c1) (m1 : c1 ≤ maxLen) (w2 : (Lit.int .i64 a2).wf = true) (w3 : (Lit.int .u8 a3).wf = true) (hE : Env w.heap.size w) :
    Calls Tryz.prog 4 #[.string a0, .slice p1 a1.length c1, .int .i64 a2, .int .u8 a3] w fun e w' => e = .returned (.bool true) ∧ Below w.heap.size w w' := by
  have HK := Lib.hid known_any
  have HE := Lib.hid hE
  by_cases l0 : a0.size ≤ 300
  case neg =>
    have z0 : 300 < a0.size := by omega
    clear hE r1 o1 l0
    go_enter Tryz.func4, Tryz.ntmps4
    go_wp2_with fail
    refine (HK.out _ HE.out).mono ?_; rintro e w1 ⟨rfl, hb⟩
    go_wp2_with fail
    go_ret
    exact ⟨rfl, hb⟩
  by_cases l1 : a1.length ≤ 60
  case neg =>
    have z1 : 60 < a1.length := by omega
    have q0 : decide (300 < a0.size) = false := decide_eq_false (by omega)
    clear hE r1 o1 l1
    go_enter Tryz.func4, Tryz.ntmps4
    go_wp2_with fail
    refine (HK.out _ HE.out).mono ?_; rintro e w1 ⟨rfl, hb⟩
    go_wp2_with fail
    go_ret
    exact ⟨rfl, hb⟩
  have q0 : decide (300 < a0.size) = false := decide_eq_false (by omega)
  have q1 : decide (60 < a1.length) = false := decide_eq_false (by omega)
  have M1 := Lib.hid (fun W h => nmade_any p1 c1 a1 W h o1 n1 m1)
  have v1 := mk_valid a1
  unfold EndF at M1
  generalize mk a1 true false = G at *
  have x1 := valid_oks v1
  have hsz := fmt_size v1
  have g1 := fun p c W (i : Its W p G) (a : G.length ≤ c) (b : c ≤ maxLen) => rformat_any p c G W i x1 a b
  have hT : (fmtS G).size ≤ 2560000 := by rw [fmtS_ok v1, bsL_size]; exact hsz
  generalize fmtS G = T at *
  generalize valE G = z at *
  obtain ⟨u, rfl⟩ : ∃ u : UInt8, a3 = (u.toNat : Int) := by
    have hb : 0 ≤ a3 ∧ a3 ≤ 255 := by simpa [Lit.wf, IntKind.min, IntKind.max, IntKind.signed, IntKind.bits] using w3
    exact ⟨UInt8.ofNat a3.toNat, by rw [UInt8.toNat_ofNat']; omega⟩
  clear w3
  have pl := fun (h : 1 ≤ T.size) W => place_any a2 (T.size : Int) W (by omega) (by omega) w2
  have hI : 1 ≤ T.size → ∃ i : Nat, a2 % (T.size : Int) = i ∧ i < T.size := fun h => by
    have e0 := Int.emod_nonneg a2 (show (T.size : Int) ≠ 0 by omega)
    have e1 := Int.emod_lt_of_pos a2 (show (0 : Int) < (T.size : Int) by omega)
    obtain ⟨i, hi⟩ := Int.eq_ofNat_of_zero_le e0
    exact ⟨i, hi, by omega⟩
  have G1 := Lib.hid g1; have PL := Lib.hid pl; have HI := Lib.hid hI
  clear g1 pl hI x1 v1 hE o1 hsz w2
  obtain ⟨LA, qA, eA, PA, RA⟩ := both a0 (by omega)
  obtain ⟨LB, qB, eB, PB, RB⟩ := both T (by omega)
  unfold EndP at PA RA PB RB
  dsimp only at PA RA PB RB
  have hcn := fun W => conv_new W T
  have HCN := Lib.hid hcn
  clear hcn
  go_enter Tryz.func4, Tryz.ntmps4
  go_wp2_with fail
  refine (M1.out _ r1).mono ?_; rintro e w3 ⟨p2, c2, rfl, a3, b2, i2, hb⟩
  have bl := hb; clear hb r1
  go_wp2_with fail
  refine (G1.out _ _ _ i2 a3 b2).mono ?_; rintro e w4 ⟨rfl, hb⟩
  have bl := BelowOn bl hb; clear hb i2
  have bl0 := bl
  have hcv := HCN.out w4
  have hbn := bytes_new w4 T
  have hfz := fun i hi => bytes_frozen w4 T i hi
  have bl := BelowOn bl (Lib.bytesWorld_below w4 5 T)
  have hlb : w.heap.size ≤ w4.heap.size := bl0.size
  go_upto_region 5 with (fail)
  clear hcv
  generalize Lib.bytesWorld w4 5 T = wb at *
  generalize w4.heap.size = B at *
  generalize grownCap w4 T.size 0 5 = cap at *
  have HBN := Lib.hid hbn; have HFZ := Lib.hid hfz
  clear hbn hfz bl0
  go_upto_if 39 with (fail)
  go_cut [46] (fun _ w' => Below w.heap.size w w' ∧ ∃ V : ByteArray, V.size = T.size ∧ Lib.Bytes w' B 0 V)
  case first =>
    by_cases h0 : 0 < T.size
    · obtain ⟨i, hi, hi2⟩ := HI.out (by omega)
      have pl := fun W => PL.out (by omega) W
      rw [hi] at pl
      have P2 := Lib.hid pl; clear pl hi
      have hfz := HFZ.out i hi2
      have hc := HBN.out i hi2
      rw [Nat.zero_add] at hc
      have j0 : (0 : Int) ≤ (i : Int) := by omega
      have j1 : (i : Int) < (T.size : Int) := by omega
      go_wp2_with fail
      refine (P2.out _).mono ?_; rintro e w5 ⟨rfl, rfl⟩
      go_wp2_with fail
      go_meet
      exact ⟨bl.setCell (p := ⟨B, i, none⟩) hlb _, chg T i u, chg_size T i u, bytes_set HBN.out i hi2 u⟩
    · have i1 : decide (0 < T.size) = false := decide_eq_false (by omega)
      go_wp2_with fail
      go_meet
      exact ⟨bl, T, rfl, HBN.out⟩
  case rest =>
    obtain ⟨bl, V, hVz, hVb⟩ := hcut
    have hcv := conv_back hVb T.size cap hVz
    obtain ⟨LC, qC, eC, PC, RC⟩ := both V (by omega)
    unfold EndP at PC RC
    dsimp only at PC RC
    have ix0 := fun W => idx0 W a0 T V
    have ix1 := fun W => idx1 W a0 T V
    have ix2 := fun W => idx2 W a0 T V
    clear hVb hVz
    go_wp2_with fail
    go_loopw [52] (fun i wr => ∃ k : Nat, k ≤ 3 ∧ i = .int .i64 k ∧ Below w.heap.size w wr) (fun i _ => 3 - (intOf i).toNat)
    case atStart => exact ⟨0, by omega, rfl, bl⟩
    case round =>
      obtain ⟨k, hk, rfl, hB⟩ := hrel
      have hk4 : k = 0 ∨ k = 1 ∨ k = 2 ∨ k = 3 := by omega
      rcases hk4 with rfl | rfl | rfl | rfl
      · have hE := HE.out.next hB
        have ls := fun p q c d W (i : Its W p LA) (j : Its W q LA) (hc : LA.length ≤ c) (hd : LA.length ≤ d) (hcm : c ≤ maxLen) (hdm : d ≤ maxLen) => rsame_any p q c d LA LA W i j hc hd hcm hdm
        have LS := Lib.hid ls; clear ls
        go_wp2_with fail
        refine (PA.out _ hE).mono ?_; rintro e w5 ⟨p3, c3, rfl, a4, b4, i4, hb⟩
        have bl := BelowOn hB hb; clear hb
        go_wp2_with fail
        refine (RA.out _).mono ?_; rintro e w6 ⟨p5, c5, rfl, a5, b5, i5, hb⟩
        have i4 := i4.call hb; have bl := BelowOn bl hb; clear hb
        go_wp2_with fail
        refine (LS.out _ _ _ _ _ i4 i5 a4 a5 b4 b5).mono ?_; rintro e w7 ⟨rfl, hb⟩
        have bl := BelowOn bl hb; clear hb
        have s1 : decide (LA = LA) = true := decide_eq_true rfl
        have s2 : ((qA : Int) != (qA : Int)) = false := by simp
        have s3 : (eA != eA) = false := by simp
        go_wp2_with fail
        go_roundw
        case rel => exact ⟨1, by omega, by go_num, bl⟩
        case measure => simp [intOf]
      · have hE := HE.out.next hB
        have ls := fun p q c d W (i : Its W p LB) (j : Its W q LB) (hc : LB.length ≤ c) (hd : LB.length ≤ d) (hcm : c ≤ maxLen) (hdm : d ≤ maxLen) => rsame_any p q c d LB LB W i j hc hd hcm hdm
        have LS := Lib.hid ls; clear ls
        go_wp2_with fail
        refine (PB.out _ hE).mono ?_; rintro e w5 ⟨p3, c3, rfl, a4, b4, i4, hb⟩
        have bl := BelowOn hB hb; clear hb
        go_wp2_with fail
        refine (RB.out _).mono ?_; rintro e w6 ⟨p5, c5, rfl, a5, b5, i5, hb⟩
        have i4 := i4.call hb; have bl := BelowOn bl hb; clear hb
        go_wp2_with fail
        refine (LS.out _ _ _ _ _ i4 i5 a4 a5 b4 b5).mono ?_; rintro e w7 ⟨rfl, hb⟩
        have bl := BelowOn bl hb; clear hb
        have s1 : decide (LB = LB) = true := decide_eq_true rfl
        have s2 : ((qB : Int) != (qB : Int)) = false := by simp
        have s3 : (eB != eB) = false := by simp
        go_wp2_with fail
        go_roundw
        case rel => exact ⟨2, by omega, by go_num, bl⟩
        case measure => simp [intOf]
      · have hE := HE.out.next hB
        have ls := fun p q c d W (i : Its W p LC) (j : Its W q LC) (hc : LC.length ≤ c) (hd : LC.length ≤ d) (hcm : c ≤ maxLen) (hdm : d ≤ maxLen) => rsame_any p q c d LC LC W i j hc hd hcm hdm
        have LS := Lib.hid ls; clear ls
        go_wp2_with fail
        refine (PC.out _ hE).mono ?_; rintro e w5 ⟨p3, c3, rfl, a4, b4, i4, hb⟩
        have bl := BelowOn hB hb; clear hb
        go_wp2_with fail
        refine (RC.out _).mono ?_; rintro e w6 ⟨p5, c5, rfl, a5, b5, i5, hb⟩
        have i4 := i4.call hb; have bl := BelowOn bl hb; clear hb
        go_wp2_with fail
        refine (LS.out _ _ _ _ _ i4 i5 a4 a5 b4 b5).mono ?_; rintro e w7 ⟨rfl, hb⟩
        have bl := BelowOn bl hb; clear hb
        have s1 : decide (LC = LC) = true := decide_eq_true rfl
        have s2 : ((qC : Int) != (qC : Int)) = false := by simp
        have s3 : (eC != eC) = false := by simp
        go_wp2_with fail
        go_roundw
        case rel => exact ⟨3, by omega, by go_num, bl⟩
        case measure => simp [intOf]
      · have hE := HE.out.next hB
        go_wp2_with fail
        refine (HK.out _ hE).mono ?_; rintro e w7 ⟨rfl, hb⟩
        have bl := BelowOn hB hb; clear hb
        go_wp2_with fail
        go_ret
        exact ⟨rfl, bl⟩

theorem lifted (os : Os) (started : os.Started) (H : Type) (enc : TypeId × Value → H) :
    ReturnsInHanded {} Tryz.checked os 4 .any (fun w args => (Rows.notationParsesSpec.pre enc Tryz.prog Tryz.f4 Rows.notationParsesRow.domain false w args ∧ laidMetH Tryz.prog Rows.notationParsesRow.laid w) ∧ sizedMet enc Tryz.prog Tryz.f4 (OpenSpec.ofChange Rows.notationParsesSpec) false w args)
      (Rows.notationParsesSpec.post enc Tryz.prog Tryz.f4 false true false false) := by
  refine returnsInHanded_of_change_and (C := Tryz.checked) (X := fun w _ => laidMetH Tryz.prog Rows.notationParsesRow.laid w) (fun _ _ _ hh h => h.of_heap hh) own started (by kernel_rfl) Tryz.func4
    (ChangeSpec.witness_shaped (enc := enc) (C := Tryz.checked) (os := os) (X := fun w _ => laidMetH Tryz.prog Rows.notationParsesRow.laid w) false (World.doorLaid Tryz.prog 62 os) #[.string ByteArray.empty, .slice none 0 0, .int .i64 0, .int .u8 0] 8 rfl (World.shaped_of_RefB (by kernel_rfl) (by kernel_rfl)) (by kernel_rfl) (by kernel_rfl) (by kernel_rfl) (door_met os _)) ?_
  intro W base args ds gs before hval0 hW hcnd hsz0 hL _
  have hval : ∀ (j : Nat) t v, Tryz.f4.params[j]? = some t → args[j]? = some v → Value.okWide Tryz.prog W .any base t v := hval0
  have hW' := hW
  have hlt : ∀ x ∈ before, x.block < W.heap.size := fun x hx => hW'.lt x hx
  obtain ⟨p, q, hA0, hV, rfl, hfz, hnd⟩ := hW
  have hA : DataW.TrodAll enc Tryz.prog W 0 (fun _ => true) true Tryz.f4.params.toList args.toList ds p := hA0
  rw [Tryz.params4] at hA hval hsz0
  obtain ⟨v0, vs0, d0, ds0, p0, q0, hargs, rfl, rfl, h0, r0⟩ := trodAll_cons hA
  obtain ⟨v1, vs1, d1, ds1, p1, q1, rfl, rfl, rfl, h1, r1⟩ := trodAll_cons r0
  obtain ⟨v2, vs2, d2, ds2, p2, q2, rfl, rfl, rfl, h2, r2⟩ := trodAll_cons r1
  obtain ⟨v3, vs3, d3, ds3, p3, q3, rfl, rfl, rfl, h3, r3⟩ := trodAll_cons r2
  obtain ⟨rfl, rfl, rfl⟩ := trodAll_nil r3
  obtain rfl : args = #[v0, v1, v2, v3] := by cases args; simp_all
  obtain ⟨rfl, rfl⟩ := trodVars_none hV
  have hsz := hsz0; clear hsz0
  have z0 : ∀ n ∈ DataW.weights Tryz.prog 9 d0, n ≤ reachBytes := (fun n hn => by simpa using List.all_eq_true.1 hsz n (DataW.weights_mem_each (j := 0) rfl rfl n hn))
  obtain ⟨a0, rfl, e0, -, -⟩ := open_string Tryz.underlying9 (hval 0 9 v0 rfl rfl) h0
  have w0 : a0.size ≤ 140737488355328 := str_le e0 z0
  obtain ⟨pp1, c1, a1, rfl, n1, m1, y1, o1⟩ := opened_ints (okBase (hval 1 23 v1 rfl rfl)) h1
  obtain ⟨a2, rfl, -, -, w2⟩ := open_int Tryz.underlying3 (hval 2 3 v2 rfl rfl) h2
  obtain ⟨a3, rfl, -, -, w3⟩ := open_int Tryz.underlying5 (hval 3 5 v3 rfl rfl) h3
  clear hA0 hval0
  refine (walk a0 pp1 c1 a1 a2 a3 W w0 y1 o1 n1 m1 w2 w3 (env_of_laid hL)).mono fun e W' ⟨he, bel⟩ => ?_
  subst he
  exact ⟨_, rfl, _, _, _, [], _, [], hW', trodAll_mk1 (shut_bool Tryz.underlying4 _), (trodAll_cons_mk (Below.trod laidOut (by kernel_rfl) (of_decide_eq_true (by kernel_rfl)) h0 bel (fun x hx => hlt x (by simp [hx]))) (trodAll_cons_mk (Below.trod laidOut (by kernel_rfl) (of_decide_eq_true (by kernel_rfl)) h1 bel (fun x hx => hlt x (by simp [hx]))) (trodAll_cons_mk (Below.trod laidOut (by kernel_rfl) (of_decide_eq_true (by kernel_rfl)) h2 bel (fun x hx => hlt x (by simp [hx]))) (trodAll_cons_mk (Below.trod laidOut (by kernel_rfl) (of_decide_eq_true (by kernel_rfl)) h3 bel (fun x hx => hlt x (by simp [hx]))) trodAll_mk0)))), rfl, bel.frame _, fun h => by cases h⟩

theorem over : Rows.NotationParsesSaid :=
  OpenClaim.holds_of_wide 4 Tryz.f4 rfl rfl rfl rfl rfl rfl rfl ⟨rfl, rfl, rfl, rfl, rfl⟩ rfl rfl rfl rfl rfl (by kernel_rfl) Tryz.func4 (by kernel_rfl)
    (of_decide_eq_true (by kernel_rfl)) (by unfold Func.isWrapper; first | (rw [if_pos (by decide +kernel)]; kernel_rfl) | (rw [if_neg (by decide +kernel)]; exact ⟨rfl, rfl⟩))
    (fun os started H enc _ => lifted os started H enc)

theorem proved : Rows.NotationParsesCardSaid :=
  Claim7.holds_tied_plain_at .later [] [.data, .data, .data, .sentinel, .sentinel] true (true, "c11113cc17a9705b7d6af39bd223410ac21e3a93d69fce468237c1da3ccbbfa7") true
    over (fun _ h => by cases h) (by kernel_rfl) (fun _ h => by cases h) notationParses_row_tie rfl ⟨rfl, rfl⟩ (by kernel_rfl) rfl
    (fun f fn hf hfn => by
      obtain rfl : f = 4 := Option.some.inj ((show Tryz.prog.funcNamed "bitext/bitextlaw4.NotationParses" = some 4 by kernel_rfl).symm.trans hf) |>.symm
      obtain rfl : fn = Tryz.f4 := (Option.some.inj (Tryz.func4.symm.trans hfn)).symm
      exact ⟨by kernel_rfl, fun j t ht => by
        rw [Tryz.params4] at ht
        have hm : t ∈ [9, 23, 3, 5] := by simpa using Array.mem_of_getElem? ht
        have hall : ([9, 23, 3, 5].all fun u => !Tryz.prog.wantsStandIn u) = true := by kernel_rfl
        exact (show Tryz.prog.wantsStandIn t = false by simpa using List.all_eq_true.1 hall t hm)⟩)
    (by kernel_rfl)
#print axioms proved
end Go.Proofs.YtaogjccmeajpoaaGreatDoor.notationParses
