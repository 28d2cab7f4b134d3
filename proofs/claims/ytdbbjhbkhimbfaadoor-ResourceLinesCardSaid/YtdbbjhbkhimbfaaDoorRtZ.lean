/- The walk of ResourceLines. The law ResourceLines holds for every input. -/
import Derived.Test.YtdbbjhbkhimbfaaDoorRtO
import Derived.Test.YtdbbjhbkhimbfaaDoorSam
import Derived.Test.YtdbbjhbkhimbfaaDoorRows
import Derived.WalkKit
import Derived.ProofKit
import Derived.OpenShut
import Derived.ChangeOld
import Derived.Below
import Derived.Carry
import Derived.SizedLaws
import Derived.Test.YtdbbjhbkhimbfaaDoorCards
import Derived.Test.YtdbbjhbkhimbfaaDoorTie
import Derived.Stop.Joined
import Derived.SevenTiedAt
import Derived.Lay
import Derived.MakeChecks
import Derived.Test.YtdbbjhbkhimbfaaDoorArf
import Derived.Test.YtdbbjhbkhimbfaaDoorRtD
namespace Go.Proofs.YtdbbjhbkhimbfaaDoor
open Go.ChangeShapes Go.WideShapes Go.ChangeAt Go.RowKit
set_option linter.unusedVariables false
set_option linter.unusedSimpArgs false
set_option maxRecDepth 100000

theorem gap_next (i : Nat) : bsL (gapL i) ++ ⟨#[32]⟩ = bsL (gapL (i + 1)) := by
  show bsL (gapL i) ++ bsL [32] = _
  rw [bsL_append]; unfold gapL; rw [List.replicate_succ']; rfl
theorem lines_eq (a g b : List UInt8) : ((((⟨#[107, 61]⟩ : ByteArray) ++ bsL a) ++ bsL g) ++ bsL b) ++ ⟨#[10, 122, 61]⟩ = bsL (linesD (a ++ (g ++ b))) := by
  show (((bsL [107, 61] ++ bsL a) ++ bsL g) ++ bsL b) ++ bsL [10, 122, 61] = _
  rw [bsL_append, bsL_append, bsL_append, bsL_append]; unfold linesD; simp
theorem value_eq (a g b : List UInt8) : (bsL a ++ bsL g) ++ bsL b = bsL (a ++ (g ++ b)) := by rw [bsL_append, bsL_append, List.append_assoc]
theorem esc_eq (t : List UInt8) : (⟨#[92, 115]⟩ : ByteArray) ++ (bsL (32 :: t)).extract 1 (bsL (32 :: t)).size = bsL (esc1 (32 :: t)) := by
  rw [extract_drop, bsL_list]
  show bsL [92, 115] ++ bsL t = _
  rw [bsL_append]; rfl
theorem lines_facts (l m : List Int) (k : Nat) (hk : k ≤ 3) : ∃ V o, encR (mk l false true) ++ (gapL k ++ esc1 (encR (mk m false true))) = V ∧ dec elR V = (norm (mk l false true ++ mk m false true), o, 0, 0) ∧ V.length ≤ 1000 ∧
    (∃ x y u z, splR (bsL (linesD V)) = ([x, ⟨true, ⟨#[107]⟩, bsL V⟩, y, ⟨true, ⟨#[122]⟩, u⟩, z], 0, 0)) := by
  have f1 := mk_ok l false true
  have f2 := mk_ok m false true
  have t1 := mk_flat l
  have t2 := mk_flat m
  have e1 := encR_short (mk l false true)
  have e2 := encR_short (mk m false true)
  have a1 := f1.len; have a2 := f2.len; have b1 := f1.txt; have b2 := f2.txt; have c1 := f1.lenI; have c2 := f2.lenI
  have hl := norm_len (mk l false true ++ mk m false true)
  rw [List.length_append] at hl
  obtain ⟨⟨o, h1⟩, h2⟩ := dec_lines f1.e t1 f2.e t2 k (by omega) (by omega)
  have h3 := esc1_len (encR (mk m false true))
  have h4 := gapL_len k
  refine ⟨_, o, rfl, h1, by rw [List.length_append, List.length_append]; omega, ?_⟩
  exact spl_lines h2 (by rw [h1]) (by rw [List.length_append, List.length_append]; omega)
set_option maxHeartbeats 6400000 in
theorem lines_any (p0 : Option Addr) (c0 : Nat) (a0 : List Int) (p1 : Option Addr) (c1 : Nat) (a1 : List Int) (a2 : Int) (w : World) (r0 : Ones w (Value.int .i64) p0 a0) (o0 : ∀ i (h : i < a0.length), (Lit.int .i64 (a0[i]'h)).wf = true) (n0 : a0.length ≤ c0) (m0 : c0 ≤ maxLen)
    (r1 : Ones w (Value.int .i64) p1 a1) (o1 : ∀ i (h : i < a1.length), (Lit.int .i64 (a1[i]'h)).wf = true) (n1 : a1.length ≤ c1) (m1 : c1 ≤ maxLen) (w2 : (Lit.int .i64 a2).wf = true) :
    Calls Tryd.prog 10 #[.slice p0 a0.length c0, .slice p1 a1.length c1, .int .i64 a2] w fun e w' => e = .returned (.bool true) ∧ Below w.heap.size w w' := by
  have HK := Lib.hid known_any
  by_cases l0 : a0.length ≤ 60
  case neg =>
    have z0 : 60 < a0.length := by omega
    clear r0 o0 l0 r1 o1 w2
    go_enter Tryd.func10, Tryd.ntmps10
    go_wp2_with fail
    refine (HK.out _).mono ?_; rintro e w1 ⟨rfl, hb⟩
    go_wp2_with fail
    go_ret
    exact ⟨rfl, hb⟩
  by_cases l1 : a1.length ≤ 60
  case neg =>
    have z1 : 60 < a1.length := by omega
    have q0 : decide (60 < a0.length) = false := decide_eq_false (by omega)
    clear r0 o0 l1 r1 o1 w2
    go_enter Tryd.func10, Tryd.ntmps10
    go_wp2_with fail
    refine (HK.out _).mono ?_; rintro e w1 ⟨rfl, hb⟩
    go_wp2_with fail
    go_ret
    exact ⟨rfl, hb⟩
  have q0 : decide (60 < a0.length) = false := decide_eq_false (by omega)
  have q1 : decide (60 < a1.length) = false := decide_eq_false (by omega)
  have M0 := Lib.hid (fun W h => rmade_any p0 c0 a0 W h o0 n0 m0)
  have M1 := Lib.hid (fun W h => rmade_any p1 c1 a1 W h o1 n1 m1)
  unfold EndF at M0 M1
  have hpl := fun W => place_any a2 4 W (by omega) (by omega) w2
  obtain ⟨K, hK, hK3⟩ : ∃ K : Nat, a2 % 4 = (K : Int) ∧ K ≤ 3 := by
    have u0 := Int.emod_nonneg a2 (show (4 : Int) ≠ 0 by decide)
    have u1 := Int.emod_lt_of_pos a2 (show (0 : Int) < 4 by decide)
    exact ⟨(a2 % 4).toNat, by omega, by omega⟩
  rw [hK] at hpl
  have HPL := Lib.hid hpl
  clear hpl hK w2 o0 o1
  obtain ⟨V, o, hV, hdec, hVl, x, y, u, z, hspl⟩ := lines_facts a0 a1 K hK3
  have f1 := mk_ok a0 false true
  have f2 := mk_ok a1 false true
  have t1 := mk_flat a0
  have t2 := mk_flat a1
  have e1 := encR_short (mk a0 false true)
  have e2 := encR_short (mk a1 false true)
  have e3 := esc1_len (encR (mk a1 false true))
  have b1 := f1.len; have b2 := f2.len; have b3 := f1.txt; have b4 := f2.txt
  have v1 := f1.valid (by decide)
  have v2 := f2.valid (by decide)
  clear f1 f2
  generalize mk a0 false true = F at *
  generalize mk a1 false true = G at *
  have x1 := oks_valid (valE_zero v1).2.2 (by omega)
  have x2 := oks_valid (valE_zero v2).2.2 (by omega)
  have ea := fun p c W (i : Its W p F) (a : F.length ≤ c) (b : c ≤ maxLen) => rencode_any p c F W i x1 a b
  have eb := fun p c W (i : Its W p G) (a : G.length ≤ c) (b : c ≤ maxLen) => rencode_any p c G W i x2 a b
  rw [encE_ok v1 (by rw [show tagsL F = [] from t1]; rfl)] at ea
  rw [encE_ok v2 (by rw [show tagsL G = [] from t2]; rfl)] at eb
  have cc := fun p q c d W i j => rconcat_any p q c d F G W i j (by omega) (by omega)
  have dd := fun W => decode_any (bsL V) W (by rw [bsL_size]; omega)
  rw [bsL_list, hdec] at dd
  have sp := fun W => split_any (bsL (linesD V)) W (by rw [bsL_size]; unfold linesD; simp; omega)
  rw [hspl] at sp
  unfold EndD at dd
  unfold EndS at sp
  dsimp only at ea eb dd sp
  have ss := fun p q c d W (i : Its W p (norm (F ++ G))) (j : Its W q (norm (F ++ G))) (a : (norm (F ++ G)).length ≤ c) (b : (norm (F ++ G)).length ≤ d) (x : c ≤ maxLen) (y : d ≤ maxLen) => rsame_any p q c d (norm (F ++ G)) (norm (F ++ G)) W i j a b x y
  rw [decide_eq_true (rfl : norm (F ++ G) = norm (F ++ G))] at ss
  have hle := lines_eq (encR F) (gapL K) (esc1 (encR G))
  have hve := value_eq (encR F) (gapL K) (esc1 (encR G))
  rw [hV] at hle hve
  have hsa : (bsL (encR F)).size ≤ 500 := by rw [bsL_size]; omega
  have hsb : (bsL (encR G)).size ≤ 500 := by rw [bsL_size]; omega
  have hse : (bsL (esc1 (encR G))).size ≤ 501 := by rw [bsL_size]; omega
  have hsg : ∀ i, i ≤ 3 → (bsL (gapL i)).size ≤ 5 := fun i hi => by rw [bsL_size, gapL_len]; omega
  have hgk := hsg K hK3
  have EA := Lib.hid ea; have EB := Lib.hid eb; have CC := Lib.hid cc; have DD := Lib.hid dd; have SP := Lib.hid sp; have SS := Lib.hid ss
  have HLE := Lib.hid hle; have HVE := Lib.hid hve; have HSG := Lib.hid hsg
  clear ea eb cc dd sp ss hle hve hsg x1 x2 v1 v2 t1 t2 hspl hdec hV hVl e1 e2 e3 b1 b2 b3 b4
  generalize norm (F ++ G) = X at *
  generalize bsL (linesD V) = SD at *
  generalize bsL V = SV at *
  have s2 : (⟨#[107, 61]⟩ : ByteArray).size = 2 := rfl
  have z1 : ¬ (9223372036854775807 < 2 + (bsL (encR F)).size) := by omega
  have z2 : ¬ (9223372036854775807 < ((⟨#[107, 61]⟩ : ByteArray) ++ bsL (encR F)).size + (bsL (gapL K)).size) := by rw [ByteArray.size_append, s2]; omega
  have z3 : ¬ (9223372036854775807 < ((⟨#[107, 61]⟩ : ByteArray) ++ bsL (encR F) ++ bsL (gapL K)).size + (bsL (esc1 (encR G))).size) := by rw [ByteArray.size_append, ByteArray.size_append, s2]; omega
  have z4 : ¬ (9223372036854775807 < ((⟨#[107, 61]⟩ : ByteArray) ++ bsL (encR F) ++ bsL (gapL K) ++ bsL (esc1 (encR G))).size + 3) := by rw [ByteArray.size_append, ByteArray.size_append, ByteArray.size_append, s2]; omega
  have x1 : ¬ (9223372036854775807 < 2 + (bsL (encR F)).size + (bsL (gapL K)).size) := by omega
  have x3 : ¬ (9223372036854775807 < 2 + (bsL (encR F)).size + (bsL (gapL K)).size + (bsL (esc1 (encR G))).size) := by omega
  have x4 : ¬ (9223372036854775807 < 2 + (bsL (encR F)).size + (bsL (gapL K)).size + (bsL (esc1 (encR G))).size + 3) := by omega
  have x5 : ¬ (9223372036854775807 < 2 + (bsL (encR F)).size + (bsL (gapL K)).size + 3) := by omega
  have x6 : ¬ (9223372036854775807 < (bsL (encR F)).size + (bsL (gapL K)).size + (bsL (esc1 (encR G))).size) := by omega
  have y1 : ¬ (9223372036854775807 < (bsL (encR F)).size + (bsL (gapL K)).size) := by omega
  have y2 : ¬ (9223372036854775807 < (bsL (encR F) ++ bsL (gapL K)).size + (bsL (esc1 (encR G))).size) := by rw [ByteArray.size_append]; omega
  clear s2 hse hgk
  generalize bsL (encR F) = SA at *
  cases hG : encR G with
  | nil =>
    rw [hG] at EB HLE HVE hsb
    rw [show bsL (esc1 []) = ⟨#[]⟩ from rfl] at HLE HVE
    rw [show bsL [] = ⟨#[]⟩ from rfl] at EB
    clear z3 z4 y2 x3 x4 x6 hsb
    go_enter Tryd.func10, Tryd.ntmps10
    go_wp2_with fail
    refine (M0.out _ r0).mono ?_; rintro e w1 ⟨p2, c2, rfl, u1, u2, i2, hb⟩
    have r0 := r0.call hb; have r1 := r1.call hb; have bl := hb; clear hb
    go_wp2_with fail
    refine (EA.out _ _ _ i2 u1 u2).mono ?_; rintro e w2 ⟨rfl, hb⟩
    have r0 := r0.call hb; have r1 := r1.call hb; have bl := BelowOn bl hb; clear hb i2 u1 u2
    go_wp2_with fail
    refine (M1.out _ r1).mono ?_; rintro e w3 ⟨p3, c3, rfl, u3, u4, i3, hb⟩
    have r0 := r0.call hb; have r1 := r1.call hb; have bl := BelowOn bl hb; clear hb
    go_wp2_with fail
    refine (EB.out _ _ _ i3 u3 u4).mono ?_; rintro e w4 ⟨rfl, hb⟩
    have r0 := r0.call hb; have r1 := r1.call hb; have bl := BelowOn bl hb; clear hb i3 u3 u4
    go_wp2_with fail
    refine (HPL.out _).mono ?_; rintro e w5 ⟨rfl, rfl⟩
    go_wp2_with fail
    go_loop [11, 12] (fun v i => ∃ j q : Nat, j + q = K ∧ i = .int .i64 (q : Int) ∧ v = .string (bsL (gapL j))) (fun _ i => (intOf i).toNat)
    case atStart => exact ⟨0, K, Nat.zero_add _, rfl, rfl⟩
    case round =>
      obtain ⟨j, q, hj, rfl, rfl⟩ := hrel
      by_cases hlt : 0 < q
      · have hgn := gap_next j
        have hz := HSG.out j (by omega)
        have hzz : ¬ (9223372036854775807 < (bsL (gapL j)).size + 1) := by omega
        have HGN := Lib.hid hgn
        clear hgn hz
        generalize bsL (gapL j) = g at *
        have hq3 : q ≤ 3 := by omega
        have HJ := Lib.hid hj
        clear hj
        go_wp2_with fail
        go_round
        case rel =>
          have hj := HJ.out
          exact ⟨j + 1, q - 1, by omega, by first | go_num | (congr 1; omega), by rw [← HGN.out]⟩
        case measure => simp [intOf]; omega
      · obtain rfl : q = 0 := by omega
        obtain rfl : j = K := by omega
        clear hlt hj
        generalize bsL (gapL j) = SG at *
        go_wp2_with fail
        rw [HLE.out]
        refine (SP.out _).mono ?_; rintro e w6 ⟨pS, cS, rfl, _, _, iS, hb⟩
        have r0 := r0.call hb; have r1 := r1.call hb; have bl := BelowOn bl hb; clear hb
        go_wp2_with fail
        rw [HVE.out]
        refine (DD.out _).mono ?_; rintro e w7 ⟨pD, cD, rfl, d1, d2, iD, hb⟩
        have r0 := r0.call hb; have r1 := r1.call hb; have iS := iS.call hb; have bl := BelowOn bl hb; clear hb
        obtain ⟨a, rfl, hlt, k0, k1, k2⟩ := iS.row 1 (show 1 < 5 by omega)
        obtain ⟨a', ha', hlt', k0', k1', k2'⟩ := iS.row 3 (show 3 < 5 by omega)
        injection ha' with ha'
        subst ha'
        have g1 : w7.cell? ⟨a.block, a.off + 3 + 2, none⟩ = some (.string (SA ++ SG ++ (⟨#[]⟩ : ByteArray))) := by
          rw [HVE.out]
          have := k2
          unfold Addr.add at this; simpa using this
        have g2 : w7.cell? ⟨a.block, a.off + 9 + 1, none⟩ = some (.string ⟨#[122]⟩) := by
          have := k1'
          unfold Addr.add at this; simpa using this
        clear k0 k1 k2 k0' k1' k2' iS hlt'
        go_wp2_with fail
        refine (M0.out _ r0).mono ?_; rintro e w8 ⟨p2, c2, rfl, u1, u2, i2, hb⟩
        have r1 := r1.call hb; have iD := iD.call hb; have bl := BelowOn bl hb; clear hb
        go_wp2_with fail
        refine (M1.out _ r1).mono ?_; rintro e w9 ⟨p3, c3, rfl, u3, u4, i3, hb⟩
        have i2 := i2.call hb; have iD := iD.call hb; have bl := BelowOn bl hb; clear hb
        go_wp2_with fail
        refine (CC.out _ _ _ _ _ i2 i3).mono ?_; rintro e w10 h
        obtain ⟨p4, c4, rfl, u5, u6, i4, hb⟩ := EndI.f h
        have iD := iD.call hb; have bl := BelowOn bl hb; clear hb h
        go_wp2_with fail
        refine (SS.out _ _ _ _ _ iD i4 d1 u5 d2 u6).mono ?_; rintro e w11 ⟨rfl, hb⟩
        have bl := BelowOn bl hb; clear hb
        go_wp2_with fail
        refine (HK.out _).mono ?_; rintro e w12 ⟨rfl, hb⟩
        have bl := BelowOn bl hb; clear hb
        go_wp2_with fail
        go_ret
        exact ⟨rfl, bl⟩
  | cons c t =>
    rw [hG] at EB HLE HVE z3 z4 y2 x3 x4 x6 hsb
    have hpos : 0 < (bsL (c :: t)).size := by rw [bsL_size]; simp
    have hne : (bsL (c :: t)).toList.isEmpty = false := by rw [Go.ByteArray.toList_eq]; rfl
    have h0 : (bsL (c :: t))[0]'hpos = c := rfl
    by_cases h32 : c = 32
    · subst h32
      have hes := esc_eq t
      have q32 : ((((bsL (32 :: t))[0]'hpos).toNat : Int) == 32) = true := by rw [h0]; rfl
      have HES := Lib.hid hes
      clear hes h0
      have hz5 : ¬ (9223372036854775807 < 2 + ((bsL (32 :: t)).extract 1 (bsL (32 :: t)).size).size) := by simp; omega
      have h1s : (1 : Int) ≤ ((bsL (32 :: t)).size : Int) := by omega
      generalize hSE : bsL (esc1 (32 :: t)) = SB at *
      clear hSE
      generalize bsL (32 :: t) = S2 at *
      go_enter Tryd.func10, Tryd.ntmps10
      go_wp2_with fail
      refine (M0.out _ r0).mono ?_; rintro e w1 ⟨p2, c2, rfl, u1, u2, i2, hb⟩
      have r0 := r0.call hb; have r1 := r1.call hb; have bl := hb; clear hb
      go_wp2_with fail
      refine (EA.out _ _ _ i2 u1 u2).mono ?_; rintro e w2 ⟨rfl, hb⟩
      have r0 := r0.call hb; have r1 := r1.call hb; have bl := BelowOn bl hb; clear hb i2 u1 u2
      go_wp2_with fail
      refine (M1.out _ r1).mono ?_; rintro e w3 ⟨p3, c3, rfl, u3, u4, i3, hb⟩
      have r0 := r0.call hb; have r1 := r1.call hb; have bl := BelowOn bl hb; clear hb
      go_wp2_with fail
      refine (EB.out _ _ _ i3 u3 u4).mono ?_; rintro e w4 ⟨rfl, hb⟩
      have r0 := r0.call hb; have r1 := r1.call hb; have bl := BelowOn bl hb; clear hb i3 u3 u4
      go_wp2_with fail
      refine (HPL.out _).mono ?_; rintro e w5 ⟨rfl, rfl⟩
      go_wp2_with fail
      go_loop [11, 12] (fun v i => ∃ j q : Nat, j + q = K ∧ i = .int .i64 (q : Int) ∧ v = .string (bsL (gapL j))) (fun _ i => (intOf i).toNat)
      case atStart => exact ⟨0, K, Nat.zero_add _, rfl, rfl⟩
      case round =>
        obtain ⟨j, q, hj, rfl, rfl⟩ := hrel
        by_cases hlt : 0 < q
        · have hgn := gap_next j
          have hz := HSG.out j (by omega)
          have hzz : ¬ (9223372036854775807 < (bsL (gapL j)).size + 1) := by omega
          have HGN := Lib.hid hgn
          clear hgn hz
          generalize bsL (gapL j) = g at *
          have hq3 : q ≤ 3 := by omega
          have HJ := Lib.hid hj
          clear hj
          go_wp2_with fail
          go_round
          case rel =>
            have hj := HJ.out
            exact ⟨j + 1, q - 1, by omega, by first | go_num | (congr 1; omega), by rw [← HGN.out]⟩
          case measure => simp [intOf]; omega
        · obtain rfl : q = 0 := by omega
          obtain rfl : j = K := by omega
          clear hlt hj
          generalize bsL (gapL j) = SG at *
          go_upto_region 12 with fail
          rw [HES.out]
          go_wp2_with fail
          rw [HLE.out]
          refine (SP.out _).mono ?_; rintro e w6 ⟨pS, cS, rfl, _, _, iS, hb⟩
          have r0 := r0.call hb; have r1 := r1.call hb; have bl := BelowOn bl hb; clear hb
          go_wp2_with fail
          rw [HVE.out]
          refine (DD.out _).mono ?_; rintro e w7 ⟨pD, cD, rfl, d1, d2, iD, hb⟩
          have r0 := r0.call hb; have r1 := r1.call hb; have iS := iS.call hb; have bl := BelowOn bl hb; clear hb
          obtain ⟨a, rfl, hlt, k0, k1, k2⟩ := iS.row 1 (show 1 < 5 by omega)
          obtain ⟨a', ha', hlt', k0', k1', k2'⟩ := iS.row 3 (show 3 < 5 by omega)
          injection ha' with ha'
          subst ha'
          have g1 : w7.cell? ⟨a.block, a.off + 3 + 2, none⟩ = some (.string (SA ++ SG ++ SB)) := by
            rw [HVE.out]
            have := k2
            unfold Addr.add at this; simpa using this
          have g2 : w7.cell? ⟨a.block, a.off + 9 + 1, none⟩ = some (.string ⟨#[122]⟩) := by
            have := k1'
            unfold Addr.add at this; simpa using this
          clear k0 k1 k2 k0' k1' k2' iS hlt'
          go_wp2_with fail
          refine (M0.out _ r0).mono ?_; rintro e w8 ⟨p2, c2, rfl, u1, u2, i2, hb⟩
          have r1 := r1.call hb; have iD := iD.call hb; have bl := BelowOn bl hb; clear hb
          go_wp2_with fail
          refine (M1.out _ r1).mono ?_; rintro e w9 ⟨p3, c3, rfl, u3, u4, i3, hb⟩
          have i2 := i2.call hb; have iD := iD.call hb; have bl := BelowOn bl hb; clear hb
          go_wp2_with fail
          refine (CC.out _ _ _ _ _ i2 i3).mono ?_; rintro e w10 h
          obtain ⟨p4, c4, rfl, u5, u6, i4, hb⟩ := EndI.f h
          have iD := iD.call hb; have bl := BelowOn bl hb; clear hb h
          go_wp2_with fail
          refine (SS.out _ _ _ _ _ iD i4 d1 u5 d2 u6).mono ?_; rintro e w11 ⟨rfl, hb⟩
          have bl := BelowOn bl hb; clear hb
          go_wp2_with fail
          refine (HK.out _).mono ?_; rintro e w12 ⟨rfl, hb⟩
          have bl := BelowOn bl hb; clear hb
          go_wp2_with fail
          go_ret
          exact ⟨rfl, bl⟩
    · have hes : bsL (esc1 (c :: t)) = bsL (c :: t) := by
        show bsL (if c = 32 then _ else _) = _
        rw [if_neg h32]
      have q32 : ((((bsL (c :: t))[0]'hpos).toNat : Int) == 32) = false := by
        rw [h0, beq_eq_false_iff_ne]; intro e; apply h32; apply UInt8.toNat_inj.1; show _ = 32; omega
      rw [hes] at HLE HVE z3 z4 y2 x3 x4 x6
      clear hes h0 h32
      generalize bsL (c :: t) = SB at *
      go_enter Tryd.func10, Tryd.ntmps10
      go_wp2_with fail
      refine (M0.out _ r0).mono ?_; rintro e w1 ⟨p2, c2, rfl, u1, u2, i2, hb⟩
      have r0 := r0.call hb; have r1 := r1.call hb; have bl := hb; clear hb
      go_wp2_with fail
      refine (EA.out _ _ _ i2 u1 u2).mono ?_; rintro e w2 ⟨rfl, hb⟩
      have r0 := r0.call hb; have r1 := r1.call hb; have bl := BelowOn bl hb; clear hb i2 u1 u2
      go_wp2_with fail
      refine (M1.out _ r1).mono ?_; rintro e w3 ⟨p3, c3, rfl, u3, u4, i3, hb⟩
      have r0 := r0.call hb; have r1 := r1.call hb; have bl := BelowOn bl hb; clear hb
      go_wp2_with fail
      refine (EB.out _ _ _ i3 u3 u4).mono ?_; rintro e w4 ⟨rfl, hb⟩
      have r0 := r0.call hb; have r1 := r1.call hb; have bl := BelowOn bl hb; clear hb i3 u3 u4
      go_wp2_with fail
      refine (HPL.out _).mono ?_; rintro e w5 ⟨rfl, rfl⟩
      go_wp2_with fail
      go_loop [11, 12] (fun v i => ∃ j q : Nat, j + q = K ∧ i = .int .i64 (q : Int) ∧ v = .string (bsL (gapL j))) (fun _ i => (intOf i).toNat)
      case atStart => exact ⟨0, K, Nat.zero_add _, rfl, rfl⟩
      case round =>
        obtain ⟨j, q, hj, rfl, rfl⟩ := hrel
        by_cases hlt : 0 < q
        · have hgn := gap_next j
          have hz := HSG.out j (by omega)
          have hzz : ¬ (9223372036854775807 < (bsL (gapL j)).size + 1) := by omega
          have HGN := Lib.hid hgn
          clear hgn hz
          generalize bsL (gapL j) = g at *
          have hq3 : q ≤ 3 := by omega
          have HJ := Lib.hid hj
          clear hj
          go_wp2_with fail
          go_round
          case rel =>
            have hj := HJ.out
            exact ⟨j + 1, q - 1, by omega, by first | go_num | (congr 1; omega), by rw [← HGN.out]⟩
          case measure => simp [intOf]; omega
        · obtain rfl : q = 0 := by omega
          obtain rfl : j = K := by omega
          clear hlt hj
          generalize bsL (gapL j) = SG at *
          go_wp2_with fail
          rw [HLE.out]
          refine (SP.out _).mono ?_; rintro e w6 ⟨pS, cS, rfl, _, _, iS, hb⟩
          have r0 := r0.call hb; have r1 := r1.call hb; have bl := BelowOn bl hb; clear hb
          go_wp2_with fail
          rw [HVE.out]
          refine (DD.out _).mono ?_; rintro e w7 ⟨pD, cD, rfl, d1, d2, iD, hb⟩
          have r0 := r0.call hb; have r1 := r1.call hb; have iS := iS.call hb; have bl := BelowOn bl hb; clear hb
          obtain ⟨a, rfl, hlt, k0, k1, k2⟩ := iS.row 1 (show 1 < 5 by omega)
          obtain ⟨a', ha', hlt', k0', k1', k2'⟩ := iS.row 3 (show 3 < 5 by omega)
          injection ha' with ha'
          subst ha'
          have g1 : w7.cell? ⟨a.block, a.off + 3 + 2, none⟩ = some (.string (SA ++ SG ++ SB)) := by
            rw [HVE.out]
            have := k2
            unfold Addr.add at this; simpa using this
          have g2 : w7.cell? ⟨a.block, a.off + 9 + 1, none⟩ = some (.string ⟨#[122]⟩) := by
            have := k1'
            unfold Addr.add at this; simpa using this
          clear k0 k1 k2 k0' k1' k2' iS hlt'
          go_wp2_with fail
          refine (M0.out _ r0).mono ?_; rintro e w8 ⟨p2, c2, rfl, u1, u2, i2, hb⟩
          have r1 := r1.call hb; have iD := iD.call hb; have bl := BelowOn bl hb; clear hb
          go_wp2_with fail
          refine (M1.out _ r1).mono ?_; rintro e w9 ⟨p3, c3, rfl, u3, u4, i3, hb⟩
          have i2 := i2.call hb; have iD := iD.call hb; have bl := BelowOn bl hb; clear hb
          go_wp2_with fail
          refine (CC.out _ _ _ _ _ i2 i3).mono ?_; rintro e w10 h
          obtain ⟨p4, c4, rfl, u5, u6, i4, hb⟩ := EndI.f h
          have iD := iD.call hb; have bl := BelowOn bl hb; clear hb h
          go_wp2_with fail
          refine (SS.out _ _ _ _ _ iD i4 d1 u5 d2 u6).mono ?_; rintro e w11 ⟨rfl, hb⟩
          have bl := BelowOn bl hb; clear hb
          go_wp2_with fail
          refine (HK.out _).mono ?_; rintro e w12 ⟨rfl, hb⟩
          have bl := BelowOn bl hb; clear hb
          go_wp2_with fail
          go_ret
          exact ⟨rfl, bl⟩
end Go.Proofs.YtdbbjhbkhimbfaaDoor
namespace Go.Proofs.YtdbbjhbkhimbfaaDoor.resourceLines
open Go.ChangeShapes Go.WideShapes Go.ChangeAt Go.RowKit
open Go.ChangeMaps (open_string shut_string)
set_option linter.unusedVariables false
set_option maxRecDepth 100000

theorem own : ownKnob Tryd.prog.godebug = none := by kernel_rfl
theorem laidOut : laidOutB Tryd.prog = true := by kernel_rfl


set_option maxHeartbeats 1600000 in
theorem walk (p0 : Option Addr) (c0 : Nat) (a0 : List Int) (p1 : Option Addr) (c1 : Nat) (a1 : List Int) (a2 : Int) (w : World) (r0 : Ones w (Value.int .i64) p0 a0) (o0 : ∀ i (h : i < a0.length), (Lit.int .i64 (a0[i]'h)).wf = true) (n0 : a0.length ≤ c0) (m0 : c0 ≤ maxLen) (r1 : Ones w (Value.int .i64) p1 a1) (o1 : ∀ i (h : i < a1.length), (Lit.int .i64 (a1[i]'h)).wf = true) (n1 : a1.length ≤ c1) (m1 : c1 ≤ maxLen) (w2 : (Lit.int .i64 a2).wf = true) :
    Calls Tryd.prog 10 #[.slice p0 a0.length c0, .slice p1 a1.length c1, .int .i64 a2] w fun e w' => e = .returned (.bool true) ∧ Below w.heap.size w w' := by
  exact lines_any p0 c0 a0 p1 c1 a1 a2 w r0 o0 n0 m0 r1 o1 n1 m1 w2

theorem lifted (os : Os) (started : os.Started) (H : Type) (enc : TypeId × Value → H) :
    ReturnsInHanded {} Tryd.checked os 10 .any (fun w args => (Rows.resourceLinesSpec.pre enc Tryd.prog Tryd.f10 Rows.resourceLinesRow.domain false w args ∧ laidMetH Tryd.prog Rows.resourceLinesRow.laid w) ∧ sizedMet enc Tryd.prog Tryd.f10 (OpenSpec.ofChange Rows.resourceLinesSpec) false w args)
      (Rows.resourceLinesSpec.post enc Tryd.prog Tryd.f10 false true false false) := by
  refine returnsInHanded_of_change_and (C := Tryd.checked) (X := fun w _ => laidMetH Tryd.prog Rows.resourceLinesRow.laid w) (fun _ _ _ hh h => h.of_heap hh) own started (by kernel_rfl) Tryd.func10
    (ChangeSpec.witness_shaped (enc := enc) (C := Tryd.checked) (os := os) (X := fun w _ => laidMetH Tryd.prog Rows.resourceLinesRow.laid w) false (World.laidAll Tryd.prog os Rows.resourceLinesRow.laid) #[.slice none 0 0, .slice none 0 0, .int .i64 0] 8 (World.laidAll_os _ _ _) (World.shaped_of_ZipB (by kernel_rfl) (by kernel_rfl)) (by kernel_rfl) (by kernel_rfl) (by kernel_rfl) (by rw [MakeChecks.laidMetH_plain _ _ _ (by kernel_rfl)]; exact laidMet_laidAll _ (by kernel_rfl) (by kernel_rfl))) ?_
  intro W base args ds gs before hval0 hW hcnd hsz0 hL _
  have hval : ∀ (j : Nat) t v, Tryd.f10.params[j]? = some t → args[j]? = some v → Value.okWide Tryd.prog W .any base t v := hval0
  have hW' := hW
  have hlt : ∀ x ∈ before, x.block < W.heap.size := fun x hx => hW'.lt x hx
  obtain ⟨p, q, hA0, hV, rfl, hfz, hnd⟩ := hW
  have hA : DataW.TrodAll enc Tryd.prog W 0 (fun _ => true) true Tryd.f10.params.toList args.toList ds p := hA0
  rw [Tryd.params10] at hA hval hsz0
  obtain ⟨v0, vs0, d0, ds0, p0, q0, hargs, rfl, rfl, h0, r0⟩ := trodAll_cons hA
  obtain ⟨v1, vs1, d1, ds1, p1, q1, rfl, rfl, rfl, h1, r1⟩ := trodAll_cons r0
  obtain ⟨v2, vs2, d2, ds2, p2, q2, rfl, rfl, rfl, h2, r2⟩ := trodAll_cons r1
  obtain ⟨rfl, rfl, rfl⟩ := trodAll_nil r2
  obtain rfl : args = #[v0, v1, v2] := by cases args; simp_all
  obtain ⟨rfl, rfl⟩ := trodVars_none hV
  have hsz := hsz0; clear hsz0
  obtain ⟨pp0, c0, a0, rfl, n0, m0, y0, o0⟩ := opened_ints (okBase (hval 0 32 v0 rfl rfl)) h0
  obtain ⟨pp1, c1, a1, rfl, n1, m1, y1, o1⟩ := opened_ints (okBase (hval 1 32 v1 rfl rfl)) h1
  obtain ⟨a2, rfl, -, -, w2⟩ := open_int Tryd.underlying3 (hval 2 3 v2 rfl rfl) h2
  clear hA0 hval0
  refine (walk pp0 c0 a0 pp1 c1 a1 a2 W y0 o0 n0 m0 y1 o1 n1 m1 w2).mono fun e W' ⟨he, bel⟩ => ?_
  subst he
  exact ⟨_, rfl, _, _, _, [], _, [], hW', trodAll_mk1 (shut_bool Tryd.underlying4 _), (trodAll_cons_mk (Below.trod laidOut (by kernel_rfl) (of_decide_eq_true (by kernel_rfl)) h0 bel (fun x hx => hlt x (by simp [hx]))) (trodAll_cons_mk (Below.trod laidOut (by kernel_rfl) (of_decide_eq_true (by kernel_rfl)) h1 bel (fun x hx => hlt x (by simp [hx]))) (trodAll_cons_mk (Below.trod laidOut (by kernel_rfl) (of_decide_eq_true (by kernel_rfl)) h2 bel (fun x hx => hlt x (by simp [hx]))) trodAll_mk0))), rfl, bel.frame _, fun h => by cases h⟩

theorem over : Rows.ResourceLinesSaid :=
  OpenClaim.holds_of_wide 10 Tryd.f10 rfl rfl rfl rfl rfl rfl rfl ⟨rfl, rfl, rfl, rfl, rfl⟩ rfl rfl rfl rfl rfl (by kernel_rfl) Tryd.func10 (by kernel_rfl)
    (of_decide_eq_true (by kernel_rfl)) (by unfold Func.isWrapper; first | (rw [if_pos (by decide +kernel)]; kernel_rfl) | (rw [if_neg (by decide +kernel)]; exact ⟨rfl, rfl⟩))
    (fun os started H enc _ => lifted os started H enc)

theorem proved : Rows.ResourceLinesCardSaid :=
  Claim7.holds_tied_plain_at .later [] [.data, .pinned] true (true, "f09b7db72891a1549fa958fdcd354aacb82e65568e79bfd72673b4b2292d2c87") false
    over (fun _ h => by cases h) (by kernel_rfl) (fun _ h => by cases h) resourceLines_row_tie rfl ⟨rfl, rfl⟩ (by kernel_rfl) rfl
    (fun f fn hf hfn => by
      obtain rfl : f = 10 := Option.some.inj ((show Tryd.prog.funcNamed "bitext/bitextlaw8.ResourceLines" = some 10 by kernel_rfl).symm.trans hf) |>.symm
      obtain rfl : fn = Tryd.f10 := (Option.some.inj (Tryd.func10.symm.trans hfn)).symm
      exact ⟨by kernel_rfl, fun j t ht => by
        rw [Tryd.params10] at ht
        have hm : t ∈ [32, 32, 3] := by simpa using Array.mem_of_getElem? ht
        have hall : ([32, 32, 3].all fun u => !Tryd.prog.wantsStandIn u) = true := by kernel_rfl
        exact (show Tryd.prog.wantsStandIn t = false by simpa using List.all_eq_true.1 hall t hm)⟩)
    (by kernel_rfl)
#print axioms proved
end Go.Proofs.YtdbbjhbkhimbfaaDoor.resourceLines
