/- What is read behind a written fragment. The walk of MarkupNests. The law MarkupNests holds for every input. -/
import Derived.Test.YtphkpokoeaagfaaDoorKtF
import Derived.Test.YtphkpokoeaagfaaDoorNxt
import Derived.Test.YtphkpokoeaagfaaDoorRows
import Derived.WalkKit
import Derived.ProofKit
import Derived.OpenShut
import Derived.ChangeOld
import Derived.Below
import Derived.Carry
import Derived.SizedLaws
import Derived.Test.YtphkpokoeaagfaaDoorCards
import Derived.Test.YtphkpokoeaagfaaDoorTie
import Derived.Stop.Joined
import Derived.SevenTiedAt
import Derived.Lay
import Derived.MakeChecks
import Derived.Test.YtphkpokoeaagfaaDoorArf
import Derived.Test.YtphkpokoeaagfaaDoorKtL
namespace Go.Proofs.YtphkpokoeaagfaaDoor
open Go.ChangeShapes Go.WideShapes Go.ChangeAt Go.RowKit
set_option linter.unusedVariables false
set_option linter.unusedSimpArgs false
set_option maxRecDepth 100000

/-- A written fragment with bytes behind it. -/
theorem dec_behind {f : List It} (h : valE f = 0) (hm : MadeOk f) (t : List UInt8) : ∃ E S n, decN [] [] [] 0 0 (encM f ++ t) = decN E S [] n (encM f).length t ∧ (norm E).length = f.length ∧ S.length = lenI f := by
  obtain ⟨h1, h2, h3⟩ := valE_zero h
  obtain ⟨n, hr⟩ := hm.run
  have hd := dec_wordsM (wsE f) t [] [] [] 0 0 (expI f) [] n (wsE_all h3 hm.nb) (by rw [wsE_it]; exact hr) (by rw [List.nil_append, norm_exp, norm_valid f h3]; exact h1) (by rw [wsE_len]; simpa using h2)
  rw [wsE_flat, List.nil_append, List.nil_append, Nat.zero_add] at hd
  refine ⟨expI f, sts 0 (wsE f), n, hd, by rw [norm_exp, norm_valid f h3], ?_⟩
  have := congrArg List.length (sts_offs (wsE f) 0)
  rw [List.length_append] at this
  have h4 : (offs 0 (wsE f)).length = (wsE f).length + 1 := by
    have : ∀ (ws : Ws) p, (offs p ws).length = ws.length + 1 := by
      intro ws
      induction ws with
      | nil => intro p; rfl
      | cons w ws ih => intro p; show (offs (p + w.1.length) ws).length + 1 = _; rw [ih]; rfl
    exact this _ _
  rw [h4] at this
  simp only [List.length_cons, List.length_nil] at this
  rw [← wsE_len]; omega
theorem norm_more (E : List It) (y : It) : (norm (E ++ [y])).length ≤ (norm E).length + 1 := by rw [norm_snoc]; exact normS_len _ _
theorem numM_no (op : List It) (z : It) (n : Nat) (tx : ByteArray) (h : nameB z.t ≠ tx) : numM (op ++ [z]) n ⟨3, tx, 0⟩ = none := by
  unfold numM
  rw [if_neg (show ¬ (3 : Int) = 2 by decide), if_neg (show ¬ (3 : Int) = 4 by decide), if_pos rfl, List.getLast?_concat]
  dsimp only
  rw [if_neg h]
def tlN : Nat → List UInt8
  | 0 => [60, 47, 98, 62]
  | 1 => [60, 98, 62, 60, 47, 105, 62]
  | 2 => [60, 98, 62]
  | 3 => [60, 105, 62, 60, 98, 62, 60, 47, 105, 62, 60, 47, 98, 62]
  | _ => [60, 98, 47, 62, 60, 47, 98, 62]
def atN : Nat → Nat
  | 0 => 0
  | 1 => 3
  | 2 => 3
  | 3 => 6
  | _ => 4
theorem dec_tail (j : Nat) (E : List It) (S : List Nat) (n p : Nat) (h1 : (norm E).length ≤ 100) (h2 : S.length ≤ 900) : decN E S [] n p (tlN j) = ([], [], p + atN j, 7) := by
  have e0 : elM [60, 47, 98, 62] = some (⟨3, ⟨#[98]⟩, 0⟩, 4) := by kernel_rfl
  have step : ∀ (x : It) (k : Nat) (s : List UInt8) (y : It) (op' : List It) (n' : Nat), elM s = some (x, k) → numM [] n x = some (y, op', n') → decN E S [] n p s = decN (E ++ [y]) (S ++ [p]) op' n' (p + k) (s.drop k) := fun x k s y op' n' he hn =>
    decN_more E S [] n p s he hn (by have := norm_more E y; omega) (by omega)
  match j with
  | 0 => exact decN_tag E S [] n p _ e0 rfl
  | 1 =>
    rw [show tlN 1 = [60, 98, 62, 60, 47, 105, 62] from rfl, step ⟨2, ⟨#[98]⟩, 0⟩ 3 _ _ _ _ (by kernel_rfl) rfl]
    exact decN_tag _ _ _ _ _ _ (x := ⟨3, ⟨#[105]⟩, 0⟩) (k := 4) (by kernel_rfl) (numM_no [] _ _ _ (show nameB ⟨#[98]⟩ ≠ ⟨#[105]⟩ by decide +kernel))
  | 2 =>
    rw [show tlN 2 = [60, 98, 62] from rfl, step ⟨2, ⟨#[98]⟩, 0⟩ 3 _ _ _ _ (by kernel_rfl) rfl]
    show decN _ _ _ _ _ [] = _
    rw [decN_nil, if_neg (by simp)]
    rfl
  | 3 =>
    rw [show tlN 3 = [60, 105, 62, 60, 98, 62, 60, 47, 105, 62, 60, 47, 98, 62] from rfl, step ⟨2, ⟨#[105]⟩, 0⟩ 3 _ _ _ _ (by kernel_rfl) rfl]
    rw [decN_more _ _ _ _ _ _ (x := ⟨2, ⟨#[98]⟩, 0⟩) (k := 3) (by kernel_rfl) rfl (by
      refine Nat.le_trans (norm_more _ _) ?_
      refine Nat.le_trans (Nat.add_le_add_right (norm_more _ _) 1) ?_
      omega) (by rw [List.length_append]; simp; omega)]
    exact decN_tag _ _ _ _ _ _ (x := ⟨3, ⟨#[105]⟩, 0⟩) (k := 4) (by kernel_rfl) (numM_no _ _ _ _ (show nameB ⟨#[98]⟩ ≠ ⟨#[105]⟩ by decide +kernel))
  | j + 4 =>
    rw [show tlN (j + 4) = [60, 98, 47, 62, 60, 47, 98, 62] from rfl, step ⟨4, ⟨#[98]⟩, 0⟩ 4 _ _ _ _ (by kernel_rfl) rfl]
    exact decN_tag _ _ _ _ _ _ (x := ⟨3, ⟨#[98]⟩, 0⟩) (k := 4) e0 rfl
theorem dec_nest (j : Nat) (L : List Int) : dcM (encM (mk L true true) ++ tlN j) = ([], [], (encM (mk L true true)).length + atN j, 7) := by
  obtain ⟨E, S, n, h1, h2, h3⟩ := dec_behind (mk_valid L) (mk_made L) (tlN j)
  have hk := mk_ok L true true
  have := hk.len; have := hk.lenI
  show decN [] [] [] 0 0 _ = _
  rw [h1]
  exact dec_tail j E S n _ (by omega) (by omega)
end Go.Proofs.YtphkpokoeaagfaaDoor
namespace Go.Proofs.YtphkpokoeaagfaaDoor
open Go.ChangeShapes Go.WideShapes Go.ChangeAt Go.RowKit
set_option linter.unusedVariables false
set_option linter.unusedSimpArgs false
set_option maxRecDepth 100000

theorem mk_txt (L : List Int) : txtI (mk L true true) ≤ 140737488355328 := by have := (mk_ok L true true).txt; omega
set_option maxHeartbeats 3200000 in
theorem nests_0 (p0 : Option Addr) (c0 : Nat) (a0 : List Int) (a1 : Int) (w : World) (r0 : Ones w (Value.int .i64) p0 a0) (o0 : ∀ i (h : i < a0.length), (Lit.int .i64 (a0[i]'h)).wf = true) (n0 : a0.length ≤ c0) (m0 : c0 ≤ maxLen) (w1 : (Lit.int .i64 a1).wf = true) (hM : Mx w) (l0 : a0.length ≤ 60) (hj : a1 % 5 = 0) :
    Calls Tryd.prog 7 #[.slice p0 a0.length c0, .int .i64 a1] w fun e w' => e = .returned (.bool true) ∧ Below w.heap.size w w' := by
  have HM := Lib.hid hM
  have HK := Lib.hid (fun W (h : Below w.heap.size w W) => known_any W (hM.call h))
  clear hM
  have q0 : decide (60 < a0.length) = false := decide_eq_false (by omega)
  have hpl := fun W => place_any a1 5 W (by omega) (by omega) w1
  rw [hj] at hpl
  have PL := Lib.hid hpl
  clear hpl hj w1
  have M0 := Lib.hid (fun W h => rmade_any p0 c0 a0 W h o0 n0 m0)
  unfold EndF at M0
  have v0 := mk_valid a0
  have x0 := oks_valid (valE_zero v0).2.2 (mk_txt a0)
  have f0 := fun p c W (i : Its W p (mk a0 true true)) (a : (mk a0 true true).length ≤ c) (b : c ≤ maxLen) => encode_any p c (mk a0 true true) W i x0 a b
  rw [encE_ok v0 (any_tags (mk_made a0).nb)] at f0
  have hsz : (bsL (encM (mk a0 true true))).size ≤ 4000000 := by rw [bsL_size]; have := enc_bytes v0; omega
  have hd : dcM (bsL (encM (mk a0 true true)) ++ ⟨#[60, 47, 98, 62]⟩ : ByteArray).data.toList = ([], [], (bsL (encM (mk a0 true true))).size + 0, 7) := by
    rw [ByteArray.data_append, Array.toList_append, bsL_list, bsL_size]
    exact dec_nest 0 a0
  dsimp only at f0
  generalize bsL (encM (mk a0 true true)) = S at *
  generalize mk a0 true true = G at *
  have hsz2 : (S ++ ⟨#[60, 47, 98, 62]⟩ : ByteArray).size = S.size + 4 := by rw [ByteArray.size_append]; rfl
  have d0 := fun W (h : Mx W) => decode_any (S ++ ⟨#[60, 47, 98, 62]⟩) W h (by rw [hsz2]; omega)
  rw [hd] at d0
  unfold EndD at d0; dsimp only at d0
  have F0 := Lib.hid f0; have DD := Lib.hid d0
  have hs9 : (S.size : Int) ≤ 4000000 := by omega
  have z1 : ¬ (9223372036854775807 < S.size + 4) := by omega
  clear f0 d0 x0 v0 hsz o0 hd hsz2
  go_enter Tryd.func7, Tryd.ntmps7
  go_wp2_with fail
  refine (M0.out _ r0).mono ?_; rintro e w1 ⟨p2, c2, rfl, a2, b2, i2, hb⟩
  have bl := hb; clear r0 hb
  go_wp2_with fail
  refine (F0.out _ _ _ i2 a2 b2).mono ?_; rintro e w3 ⟨rfl, hb⟩
  have bl := BelowOn bl hb; clear hb i2
  go_upto_region 4 with fail
  go_wp2_with fail
  refine (PL.out _).mono ?_; rintro e w4 ⟨rfl, rfl⟩
  have bl := blw bl (.cells #[.string ⟨#[60, 47, 98, 62]⟩, .string ⟨#[60, 98, 62, 60, 47, 105, 62]⟩, .string ⟨#[60, 98, 62]⟩, .string ⟨#[60, 105, 62, 60, 98, 62, 60, 47, 105, 62, 60, 47, 98, 62]⟩, .string ⟨#[60, 98, 47, 62, 60, 47, 98, 62]⟩] 9)
  go_wp2_with fail
  refine (DD.out _ (HM.out.call bl)).mono ?_; rintro e w5 ⟨p3, c3, rfl, a3, b3, i3, hb⟩
  have bl := BelowOn bl hb; clear hb i3
  go_wp2_with fail
  refine (PL.out _).mono ?_; rintro e w6 ⟨rfl, rfl⟩
  have bl := blw bl (.cells #[.int .i64 0, .int .i64 3, .int .i64 3, .int .i64 6, .int .i64 4] 3)
  go_wp2_with fail
  refine (HK.out _ bl).mono ?_; rintro e w7 ⟨rfl, hb⟩
  have bl := BelowOn bl hb; clear hb
  go_wp2_with fail
  go_ret
  exact ⟨rfl, bl⟩
set_option maxHeartbeats 3200000 in
theorem nests_1 (p0 : Option Addr) (c0 : Nat) (a0 : List Int) (a1 : Int) (w : World) (r0 : Ones w (Value.int .i64) p0 a0) (o0 : ∀ i (h : i < a0.length), (Lit.int .i64 (a0[i]'h)).wf = true) (n0 : a0.length ≤ c0) (m0 : c0 ≤ maxLen) (w1 : (Lit.int .i64 a1).wf = true) (hM : Mx w) (l0 : a0.length ≤ 60) (hj : a1 % 5 = 1) :
    Calls Tryd.prog 7 #[.slice p0 a0.length c0, .int .i64 a1] w fun e w' => e = .returned (.bool true) ∧ Below w.heap.size w w' := by
  have HM := Lib.hid hM
  have HK := Lib.hid (fun W (h : Below w.heap.size w W) => known_any W (hM.call h))
  clear hM
  have q0 : decide (60 < a0.length) = false := decide_eq_false (by omega)
  have hpl := fun W => place_any a1 5 W (by omega) (by omega) w1
  rw [hj] at hpl
  have PL := Lib.hid hpl
  clear hpl hj w1
  have M0 := Lib.hid (fun W h => rmade_any p0 c0 a0 W h o0 n0 m0)
  unfold EndF at M0
  have v0 := mk_valid a0
  have x0 := oks_valid (valE_zero v0).2.2 (mk_txt a0)
  have f0 := fun p c W (i : Its W p (mk a0 true true)) (a : (mk a0 true true).length ≤ c) (b : c ≤ maxLen) => encode_any p c (mk a0 true true) W i x0 a b
  rw [encE_ok v0 (any_tags (mk_made a0).nb)] at f0
  have hsz : (bsL (encM (mk a0 true true))).size ≤ 4000000 := by rw [bsL_size]; have := enc_bytes v0; omega
  have hd : dcM (bsL (encM (mk a0 true true)) ++ ⟨#[60, 98, 62, 60, 47, 105, 62]⟩ : ByteArray).data.toList = ([], [], (bsL (encM (mk a0 true true))).size + 3, 7) := by
    rw [ByteArray.data_append, Array.toList_append, bsL_list, bsL_size]
    exact dec_nest 1 a0
  dsimp only at f0
  generalize bsL (encM (mk a0 true true)) = S at *
  generalize mk a0 true true = G at *
  have hsz2 : (S ++ ⟨#[60, 98, 62, 60, 47, 105, 62]⟩ : ByteArray).size = S.size + 7 := by rw [ByteArray.size_append]; rfl
  have d0 := fun W (h : Mx W) => decode_any (S ++ ⟨#[60, 98, 62, 60, 47, 105, 62]⟩) W h (by rw [hsz2]; omega)
  rw [hd] at d0
  unfold EndD at d0; dsimp only at d0
  have F0 := Lib.hid f0; have DD := Lib.hid d0
  have hs9 : (S.size : Int) ≤ 4000000 := by omega
  have z1 : ¬ (9223372036854775807 < S.size + 7) := by omega
  clear f0 d0 x0 v0 hsz o0 hd hsz2
  go_enter Tryd.func7, Tryd.ntmps7
  go_wp2_with fail
  refine (M0.out _ r0).mono ?_; rintro e w1 ⟨p2, c2, rfl, a2, b2, i2, hb⟩
  have bl := hb; clear r0 hb
  go_wp2_with fail
  refine (F0.out _ _ _ i2 a2 b2).mono ?_; rintro e w3 ⟨rfl, hb⟩
  have bl := BelowOn bl hb; clear hb i2
  go_upto_region 4 with fail
  go_wp2_with fail
  refine (PL.out _).mono ?_; rintro e w4 ⟨rfl, rfl⟩
  have bl := blw bl (.cells #[.string ⟨#[60, 47, 98, 62]⟩, .string ⟨#[60, 98, 62, 60, 47, 105, 62]⟩, .string ⟨#[60, 98, 62]⟩, .string ⟨#[60, 105, 62, 60, 98, 62, 60, 47, 105, 62, 60, 47, 98, 62]⟩, .string ⟨#[60, 98, 47, 62, 60, 47, 98, 62]⟩] 9)
  go_wp2_with fail
  refine (DD.out _ (HM.out.call bl)).mono ?_; rintro e w5 ⟨p3, c3, rfl, a3, b3, i3, hb⟩
  have bl := BelowOn bl hb; clear hb i3
  go_wp2_with fail
  refine (PL.out _).mono ?_; rintro e w6 ⟨rfl, rfl⟩
  have bl := blw bl (.cells #[.int .i64 0, .int .i64 3, .int .i64 3, .int .i64 6, .int .i64 4] 3)
  go_wp2_with fail
  refine (HK.out _ bl).mono ?_; rintro e w7 ⟨rfl, hb⟩
  have bl := BelowOn bl hb; clear hb
  go_wp2_with fail
  go_ret
  exact ⟨rfl, bl⟩
set_option maxHeartbeats 3200000 in
theorem nests_2 (p0 : Option Addr) (c0 : Nat) (a0 : List Int) (a1 : Int) (w : World) (r0 : Ones w (Value.int .i64) p0 a0) (o0 : ∀ i (h : i < a0.length), (Lit.int .i64 (a0[i]'h)).wf = true) (n0 : a0.length ≤ c0) (m0 : c0 ≤ maxLen) (w1 : (Lit.int .i64 a1).wf = true) (hM : Mx w) (l0 : a0.length ≤ 60) (hj : a1 % 5 = 2) :
    Calls Tryd.prog 7 #[.slice p0 a0.length c0, .int .i64 a1] w fun e w' => e = .returned (.bool true) ∧ Below w.heap.size w w' := by
  have HM := Lib.hid hM
  have HK := Lib.hid (fun W (h : Below w.heap.size w W) => known_any W (hM.call h))
  clear hM
  have q0 : decide (60 < a0.length) = false := decide_eq_false (by omega)
  have hpl := fun W => place_any a1 5 W (by omega) (by omega) w1
  rw [hj] at hpl
  have PL := Lib.hid hpl
  clear hpl hj w1
  have M0 := Lib.hid (fun W h => rmade_any p0 c0 a0 W h o0 n0 m0)
  unfold EndF at M0
  have v0 := mk_valid a0
  have x0 := oks_valid (valE_zero v0).2.2 (mk_txt a0)
  have f0 := fun p c W (i : Its W p (mk a0 true true)) (a : (mk a0 true true).length ≤ c) (b : c ≤ maxLen) => encode_any p c (mk a0 true true) W i x0 a b
  rw [encE_ok v0 (any_tags (mk_made a0).nb)] at f0
  have hsz : (bsL (encM (mk a0 true true))).size ≤ 4000000 := by rw [bsL_size]; have := enc_bytes v0; omega
  have hd : dcM (bsL (encM (mk a0 true true)) ++ ⟨#[60, 98, 62]⟩ : ByteArray).data.toList = ([], [], (bsL (encM (mk a0 true true))).size + 3, 7) := by
    rw [ByteArray.data_append, Array.toList_append, bsL_list, bsL_size]
    exact dec_nest 2 a0
  dsimp only at f0
  generalize bsL (encM (mk a0 true true)) = S at *
  generalize mk a0 true true = G at *
  have hsz2 : (S ++ ⟨#[60, 98, 62]⟩ : ByteArray).size = S.size + 3 := by rw [ByteArray.size_append]; rfl
  have d0 := fun W (h : Mx W) => decode_any (S ++ ⟨#[60, 98, 62]⟩) W h (by rw [hsz2]; omega)
  rw [hd] at d0
  unfold EndD at d0; dsimp only at d0
  have F0 := Lib.hid f0; have DD := Lib.hid d0
  have hs9 : (S.size : Int) ≤ 4000000 := by omega
  have z1 : ¬ (9223372036854775807 < S.size + 3) := by omega
  clear f0 d0 x0 v0 hsz o0 hd hsz2
  go_enter Tryd.func7, Tryd.ntmps7
  go_wp2_with fail
  refine (M0.out _ r0).mono ?_; rintro e w1 ⟨p2, c2, rfl, a2, b2, i2, hb⟩
  have bl := hb; clear r0 hb
  go_wp2_with fail
  refine (F0.out _ _ _ i2 a2 b2).mono ?_; rintro e w3 ⟨rfl, hb⟩
  have bl := BelowOn bl hb; clear hb i2
  go_upto_region 4 with fail
  go_wp2_with fail
  refine (PL.out _).mono ?_; rintro e w4 ⟨rfl, rfl⟩
  have bl := blw bl (.cells #[.string ⟨#[60, 47, 98, 62]⟩, .string ⟨#[60, 98, 62, 60, 47, 105, 62]⟩, .string ⟨#[60, 98, 62]⟩, .string ⟨#[60, 105, 62, 60, 98, 62, 60, 47, 105, 62, 60, 47, 98, 62]⟩, .string ⟨#[60, 98, 47, 62, 60, 47, 98, 62]⟩] 9)
  go_wp2_with fail
  refine (DD.out _ (HM.out.call bl)).mono ?_; rintro e w5 ⟨p3, c3, rfl, a3, b3, i3, hb⟩
  have bl := BelowOn bl hb; clear hb i3
  go_wp2_with fail
  refine (PL.out _).mono ?_; rintro e w6 ⟨rfl, rfl⟩
  have bl := blw bl (.cells #[.int .i64 0, .int .i64 3, .int .i64 3, .int .i64 6, .int .i64 4] 3)
  go_wp2_with fail
  refine (HK.out _ bl).mono ?_; rintro e w7 ⟨rfl, hb⟩
  have bl := BelowOn bl hb; clear hb
  go_wp2_with fail
  go_ret
  exact ⟨rfl, bl⟩
set_option maxHeartbeats 3200000 in
theorem nests_3 (p0 : Option Addr) (c0 : Nat) (a0 : List Int) (a1 : Int) (w : World) (r0 : Ones w (Value.int .i64) p0 a0) (o0 : ∀ i (h : i < a0.length), (Lit.int .i64 (a0[i]'h)).wf = true) (n0 : a0.length ≤ c0) (m0 : c0 ≤ maxLen) (w1 : (Lit.int .i64 a1).wf = true) (hM : Mx w) (l0 : a0.length ≤ 60) (hj : a1 % 5 = 3) :
    Calls Tryd.prog 7 #[.slice p0 a0.length c0, .int .i64 a1] w fun e w' => e = .returned (.bool true) ∧ Below w.heap.size w w' := by
  have HM := Lib.hid hM
  have HK := Lib.hid (fun W (h : Below w.heap.size w W) => known_any W (hM.call h))
  clear hM
  have q0 : decide (60 < a0.length) = false := decide_eq_false (by omega)
  have hpl := fun W => place_any a1 5 W (by omega) (by omega) w1
  rw [hj] at hpl
  have PL := Lib.hid hpl
  clear hpl hj w1
  have M0 := Lib.hid (fun W h => rmade_any p0 c0 a0 W h o0 n0 m0)
  unfold EndF at M0
  have v0 := mk_valid a0
  have x0 := oks_valid (valE_zero v0).2.2 (mk_txt a0)
  have f0 := fun p c W (i : Its W p (mk a0 true true)) (a : (mk a0 true true).length ≤ c) (b : c ≤ maxLen) => encode_any p c (mk a0 true true) W i x0 a b
  rw [encE_ok v0 (any_tags (mk_made a0).nb)] at f0
  have hsz : (bsL (encM (mk a0 true true))).size ≤ 4000000 := by rw [bsL_size]; have := enc_bytes v0; omega
  have hd : dcM (bsL (encM (mk a0 true true)) ++ ⟨#[60, 105, 62, 60, 98, 62, 60, 47, 105, 62, 60, 47, 98, 62]⟩ : ByteArray).data.toList = ([], [], (bsL (encM (mk a0 true true))).size + 6, 7) := by
    rw [ByteArray.data_append, Array.toList_append, bsL_list, bsL_size]
    exact dec_nest 3 a0
  dsimp only at f0
  generalize bsL (encM (mk a0 true true)) = S at *
  generalize mk a0 true true = G at *
  have hsz2 : (S ++ ⟨#[60, 105, 62, 60, 98, 62, 60, 47, 105, 62, 60, 47, 98, 62]⟩ : ByteArray).size = S.size + 14 := by rw [ByteArray.size_append]; rfl
  have d0 := fun W (h : Mx W) => decode_any (S ++ ⟨#[60, 105, 62, 60, 98, 62, 60, 47, 105, 62, 60, 47, 98, 62]⟩) W h (by rw [hsz2]; omega)
  rw [hd] at d0
  unfold EndD at d0; dsimp only at d0
  have F0 := Lib.hid f0; have DD := Lib.hid d0
  have hs9 : (S.size : Int) ≤ 4000000 := by omega
  have z1 : ¬ (9223372036854775807 < S.size + 14) := by omega
  clear f0 d0 x0 v0 hsz o0 hd hsz2
  go_enter Tryd.func7, Tryd.ntmps7
  go_wp2_with fail
  refine (M0.out _ r0).mono ?_; rintro e w1 ⟨p2, c2, rfl, a2, b2, i2, hb⟩
  have bl := hb; clear r0 hb
  go_wp2_with fail
  refine (F0.out _ _ _ i2 a2 b2).mono ?_; rintro e w3 ⟨rfl, hb⟩
  have bl := BelowOn bl hb; clear hb i2
  go_upto_region 4 with fail
  go_wp2_with fail
  refine (PL.out _).mono ?_; rintro e w4 ⟨rfl, rfl⟩
  have bl := blw bl (.cells #[.string ⟨#[60, 47, 98, 62]⟩, .string ⟨#[60, 98, 62, 60, 47, 105, 62]⟩, .string ⟨#[60, 98, 62]⟩, .string ⟨#[60, 105, 62, 60, 98, 62, 60, 47, 105, 62, 60, 47, 98, 62]⟩, .string ⟨#[60, 98, 47, 62, 60, 47, 98, 62]⟩] 9)
  go_wp2_with fail
  refine (DD.out _ (HM.out.call bl)).mono ?_; rintro e w5 ⟨p3, c3, rfl, a3, b3, i3, hb⟩
  have bl := BelowOn bl hb; clear hb i3
  go_wp2_with fail
  refine (PL.out _).mono ?_; rintro e w6 ⟨rfl, rfl⟩
  have bl := blw bl (.cells #[.int .i64 0, .int .i64 3, .int .i64 3, .int .i64 6, .int .i64 4] 3)
  go_wp2_with fail
  refine (HK.out _ bl).mono ?_; rintro e w7 ⟨rfl, hb⟩
  have bl := BelowOn bl hb; clear hb
  go_wp2_with fail
  go_ret
  exact ⟨rfl, bl⟩
set_option maxHeartbeats 3200000 in
theorem nests_4 (p0 : Option Addr) (c0 : Nat) (a0 : List Int) (a1 : Int) (w : World) (r0 : Ones w (Value.int .i64) p0 a0) (o0 : ∀ i (h : i < a0.length), (Lit.int .i64 (a0[i]'h)).wf = true) (n0 : a0.length ≤ c0) (m0 : c0 ≤ maxLen) (w1 : (Lit.int .i64 a1).wf = true) (hM : Mx w) (l0 : a0.length ≤ 60) (hj : a1 % 5 = 4) :
    Calls Tryd.prog 7 #[.slice p0 a0.length c0, .int .i64 a1] w fun e w' => e = .returned (.bool true) ∧ Below w.heap.size w w' := by
  have HM := Lib.hid hM
  have HK := Lib.hid (fun W (h : Below w.heap.size w W) => known_any W (hM.call h))
  clear hM
  have q0 : decide (60 < a0.length) = false := decide_eq_false (by omega)
  have hpl := fun W => place_any a1 5 W (by omega) (by omega) w1
  rw [hj] at hpl
  have PL := Lib.hid hpl
  clear hpl hj w1
  have M0 := Lib.hid (fun W h => rmade_any p0 c0 a0 W h o0 n0 m0)
  unfold EndF at M0
  have v0 := mk_valid a0
  have x0 := oks_valid (valE_zero v0).2.2 (mk_txt a0)
  have f0 := fun p c W (i : Its W p (mk a0 true true)) (a : (mk a0 true true).length ≤ c) (b : c ≤ maxLen) => encode_any p c (mk a0 true true) W i x0 a b
  rw [encE_ok v0 (any_tags (mk_made a0).nb)] at f0
  have hsz : (bsL (encM (mk a0 true true))).size ≤ 4000000 := by rw [bsL_size]; have := enc_bytes v0; omega
  have hd : dcM (bsL (encM (mk a0 true true)) ++ ⟨#[60, 98, 47, 62, 60, 47, 98, 62]⟩ : ByteArray).data.toList = ([], [], (bsL (encM (mk a0 true true))).size + 4, 7) := by
    rw [ByteArray.data_append, Array.toList_append, bsL_list, bsL_size]
    exact dec_nest 4 a0
  dsimp only at f0
  generalize bsL (encM (mk a0 true true)) = S at *
  generalize mk a0 true true = G at *
  have hsz2 : (S ++ ⟨#[60, 98, 47, 62, 60, 47, 98, 62]⟩ : ByteArray).size = S.size + 8 := by rw [ByteArray.size_append]; rfl
  have d0 := fun W (h : Mx W) => decode_any (S ++ ⟨#[60, 98, 47, 62, 60, 47, 98, 62]⟩) W h (by rw [hsz2]; omega)
  rw [hd] at d0
  unfold EndD at d0; dsimp only at d0
  have F0 := Lib.hid f0; have DD := Lib.hid d0
  have hs9 : (S.size : Int) ≤ 4000000 := by omega
  have z1 : ¬ (9223372036854775807 < S.size + 8) := by omega
  clear f0 d0 x0 v0 hsz o0 hd hsz2
  go_enter Tryd.func7, Tryd.ntmps7
  go_wp2_with fail
  refine (M0.out _ r0).mono ?_; rintro e w1 ⟨p2, c2, rfl, a2, b2, i2, hb⟩
  have bl := hb; clear r0 hb
  go_wp2_with fail
  refine (F0.out _ _ _ i2 a2 b2).mono ?_; rintro e w3 ⟨rfl, hb⟩
  have bl := BelowOn bl hb; clear hb i2
  go_upto_region 4 with fail
  go_wp2_with fail
  refine (PL.out _).mono ?_; rintro e w4 ⟨rfl, rfl⟩
  have bl := blw bl (.cells #[.string ⟨#[60, 47, 98, 62]⟩, .string ⟨#[60, 98, 62, 60, 47, 105, 62]⟩, .string ⟨#[60, 98, 62]⟩, .string ⟨#[60, 105, 62, 60, 98, 62, 60, 47, 105, 62, 60, 47, 98, 62]⟩, .string ⟨#[60, 98, 47, 62, 60, 47, 98, 62]⟩] 9)
  go_wp2_with fail
  refine (DD.out _ (HM.out.call bl)).mono ?_; rintro e w5 ⟨p3, c3, rfl, a3, b3, i3, hb⟩
  have bl := BelowOn bl hb; clear hb i3
  go_wp2_with fail
  refine (PL.out _).mono ?_; rintro e w6 ⟨rfl, rfl⟩
  have bl := blw bl (.cells #[.int .i64 0, .int .i64 3, .int .i64 3, .int .i64 6, .int .i64 4] 3)
  go_wp2_with fail
  refine (HK.out _ bl).mono ?_; rintro e w7 ⟨rfl, hb⟩
  have bl := BelowOn bl hb; clear hb
  go_wp2_with fail
  go_ret
  exact ⟨rfl, bl⟩
theorem nests_any (p0 : Option Addr) (c0 : Nat) (a0 : List Int) (a1 : Int) (w : World) (r0 : Ones w (Value.int .i64) p0 a0) (o0 : ∀ i (h : i < a0.length), (Lit.int .i64 (a0[i]'h)).wf = true) (n0 : a0.length ≤ c0) (m0 : c0 ≤ maxLen) (w1 : (Lit.int .i64 a1).wf = true) (hM : Mx w) :
    Calls Tryd.prog 7 #[.slice p0 a0.length c0, .int .i64 a1] w fun e w' => e = .returned (.bool true) ∧ Below w.heap.size w w' := by
  by_cases l0 : a0.length ≤ 60
  case neg =>
    have HK := Lib.hid (fun W (h : Below w.heap.size w W) => known_any W (hM.call h))
    clear hM
    have z0 : 60 < a0.length := by omega
    clear r0 o0 l0
    go_enter Tryd.func7, Tryd.ntmps7
    go_wp2_with fail
    refine (HK.out _ (Below.refl _ _)).mono ?_; rintro e w1 ⟨rfl, hb⟩
    go_wp2_with fail
    go_ret
    exact ⟨rfl, hb⟩
  have u0 := Int.emod_nonneg a1 (show (5 : Int) ≠ 0 by decide)
  have u1 := Int.emod_lt_of_pos a1 (show (0 : Int) < 5 by decide)
  have : a1 % 5 = 0 ∨ a1 % 5 = 1 ∨ a1 % 5 = 2 ∨ a1 % 5 = 3 ∨ a1 % 5 = 4 := by omega
  rcases this with h | h | h | h | h
  · exact nests_0 p0 c0 a0 a1 w r0 o0 n0 m0 w1 hM l0 h
  · exact nests_1 p0 c0 a0 a1 w r0 o0 n0 m0 w1 hM l0 h
  · exact nests_2 p0 c0 a0 a1 w r0 o0 n0 m0 w1 hM l0 h
  · exact nests_3 p0 c0 a0 a1 w r0 o0 n0 m0 w1 hM l0 h
  · exact nests_4 p0 c0 a0 a1 w r0 o0 n0 m0 w1 hM l0 h
end Go.Proofs.YtphkpokoeaagfaaDoor
namespace Go.Proofs.YtphkpokoeaagfaaDoor.markupNests
open Go.ChangeShapes Go.WideShapes Go.ChangeAt Go.RowKit
open Go.ChangeMaps (open_string shut_string)
set_option linter.unusedVariables false
set_option maxRecDepth 100000

theorem own : ownKnob Tryd.prog.godebug = none := by kernel_rfl
theorem laidOut : laidOutB Tryd.prog = true := by kernel_rfl


set_option maxHeartbeats 1600000 in
theorem walk (p0 : Option Addr) (c0 : Nat) (a0 : List Int) (a1 : Int) (w : World) (r0 : Ones w (Value.int .i64) p0 a0) (o0 : ∀ i (h : i < a0.length), (Lit.int .i64 (a0[i]'h)).wf = true) (n0 : a0.length ≤ c0) (m0 : c0 ≤ maxLen) (w1 : (Lit.int .i64 a1).wf = true) (hE : ItoaOk 1000000000 w) (hMx : Mx w) :
    Calls Tryd.prog 7 #[.slice p0 a0.length c0, .int .i64 a1] w fun e w' => e = .returned (.bool true) ∧ Below w.heap.size w w' := by
  exact nests_any p0 c0 a0 a1 w r0 o0 n0 m0 w1 hMx

theorem lifted (os : Os) (started : os.Started) (H : Type) (enc : TypeId × Value → H) :
    ReturnsInHanded {} Tryd.checked os 7 .any (fun w args => (Rows.markupNestsSpec.pre enc Tryd.prog Tryd.f7 Rows.markupNestsRow.domain false w args ∧ laidMetH Tryd.prog Rows.markupNestsRow.laid w) ∧ sizedMet enc Tryd.prog Tryd.f7 (OpenSpec.ofChange Rows.markupNestsSpec) false w args)
      (Rows.markupNestsSpec.post enc Tryd.prog Tryd.f7 false true false false) := by
  refine returnsInHanded_of_calls (C := Tryd.checked) own started (by kernel_rfl)
    (ChangeSpec.witness_shaped (enc := enc) (C := Tryd.checked) (os := os) (X := fun w _ => laidMetH Tryd.prog Rows.markupNestsRow.laid w) false (World.laidAll Tryd.prog os Rows.markupNestsRow.laid) #[.slice none 0 0, .int .i64 0] 8 (World.laidAll_os _ _ _) (World.shaped_of_ZipB (by kernel_rfl) (by kernel_rfl)) (by kernel_rfl) (by kernel_rfl) (by kernel_rfl) (by rw [MakeChecks.laidMetH_plain _ _ _ (by kernel_rfl)]; exact laidMet_laidAll _ (by kernel_rfl) (by kernel_rfl))) ?_
  intro w0 tape inp _ hsh _ hok hpre _
  obtain ⟨_, _, _, fn1, hfn1, _, _, _, _, hval0⟩ := hok
  obtain rfl : Tryd.f7 = fn1 := Option.some.inj (Tryd.func7.symm.trans hfn1)
  obtain ⟨⟨⟨ds, gs, before, hW0, hcnd⟩, hL0⟩, hz0⟩ := hpre
  have hW := DataW.Whole.of_heap (w' := w0.forCall tape inp) (by rfl) hW0
  have hsz0 := hz0.weights hW0
  have hL : laidMetH Tryd.prog Rows.markupNestsRow.laid (w0.forCall tape inp) := hL0.of_heap (by rfl)
  suffices hK : Calls Tryd.prog 7 inp.args (w0.forCall tape inp) fun e W' => ∃ v, e = .returned v ∧ Rows.markupNestsSpec.post enc Tryd.prog Tryd.f7 false true false false (w0.forCall tape inp) inp.args v W' from
    hK.mono fun e W' ⟨v, he, hp⟩ => by subst he; exact ChangeSpec.post_blind hp
  clear hW0 hz0 hL0
  generalize w0.forCall tape inp = W at *
  generalize inp.args = args at *
  generalize w0.heap.size = base at *
  have hval : ∀ (j : Nat) t v, Tryd.f7.params[j]? = some t → args[j]? = some v → Value.okWide Tryd.prog W .any base t v := hval0
  have hW' := hW
  have hlt : ∀ x ∈ before, x.block < W.heap.size := fun x hx => hW'.lt x hx
  obtain ⟨p, q, hA0, hV, rfl, hfz, hnd⟩ := hW
  have hA : DataW.TrodAll enc Tryd.prog W 0 (fun _ => true) true Tryd.f7.params.toList args.toList ds p := hA0
  rw [Tryd.params7] at hA hval hsz0
  obtain ⟨v0, vs0, d0, ds0, p0, q0, hargs, rfl, rfl, h0, r0⟩ := trodAll_cons hA
  obtain ⟨v1, vs1, d1, ds1, p1, q1, rfl, rfl, rfl, h1, r1⟩ := trodAll_cons r0
  obtain ⟨rfl, rfl, rfl⟩ := trodAll_nil r1
  obtain rfl : args = #[v0, v1] := by cases args; simp_all
  obtain ⟨rfl, rfl⟩ := trodVars_none hV
  have hsz := hsz0; clear hsz0
  obtain ⟨pp0, c0, a0, rfl, n0, m0, y0, o0⟩ := opened_ints (okBase (hval 0 32 v0 rfl rfl)) h0
  obtain ⟨a1, rfl, -, -, w1⟩ := open_int Tryd.underlying3 (hval 1 3 v1 rfl rfl) h1
  clear hA0 hval0
  refine (walk pp0 c0 a0 a1 W y0 o0 n0 m0 w1 (itoa_of_laid hL) (mx_of_shaped hsh)).mono fun e W' ⟨he, bel⟩ => ?_
  subst he
  exact ⟨_, rfl, _, _, _, [], _, [], hW', trodAll_mk1 (shut_bool Tryd.underlying4 _), (trodAll_cons_mk (Below.trod laidOut (by kernel_rfl) (of_decide_eq_true (by kernel_rfl)) h0 bel (fun x hx => hlt x (by simp [hx]))) (trodAll_cons_mk (Below.trod laidOut (by kernel_rfl) (of_decide_eq_true (by kernel_rfl)) h1 bel (fun x hx => hlt x (by simp [hx]))) trodAll_mk0)), rfl, bel.frame _, fun h => by cases h⟩

theorem over : Rows.MarkupNestsSaid :=
  OpenClaim.holds_of_wide 7 Tryd.f7 rfl rfl rfl rfl rfl rfl rfl ⟨rfl, rfl, rfl, rfl, rfl⟩ rfl rfl rfl rfl rfl (by kernel_rfl) Tryd.func7 (by kernel_rfl)
    (of_decide_eq_true (by kernel_rfl)) (by unfold Func.isWrapper; first | (rw [if_pos (by decide +kernel)]; kernel_rfl) | (rw [if_neg (by decide +kernel)]; exact ⟨rfl, rfl⟩))
    (fun os started H enc _ => lifted os started H enc)

theorem proved : Rows.MarkupNestsCardSaid :=
  Claim7.holds_tied_plain_at .later [] [.data, .data, .data] true (true, "57ef196fd23df9bba85e5a26644ca28b94ab80892a4814cbd88e02ce20a34e9b") false
    over (fun _ h => by cases h) (by kernel_rfl) (fun _ h => by cases h) markupNests_row_tie rfl ⟨rfl, rfl⟩ (by kernel_rfl) rfl
    (fun f fn hf hfn => by
      obtain rfl : f = 7 := Option.some.inj ((show Tryd.prog.funcNamed "bitext/bitextlaw7.MarkupNests" = some 7 by kernel_rfl).symm.trans hf) |>.symm
      obtain rfl : fn = Tryd.f7 := (Option.some.inj (Tryd.func7.symm.trans hfn)).symm
      exact ⟨by kernel_rfl, fun j t ht => by
        rw [Tryd.params7] at ht
        have hm : t ∈ [32, 3] := by simpa using Array.mem_of_getElem? ht
        have hall : ([32, 3].all fun u => !Tryd.prog.wantsStandIn u) = true := by kernel_rfl
        exact (show Tryd.prog.wantsStandIn t = false by simpa using List.all_eq_true.1 hall t hm)⟩)
    (by kernel_rfl)
#print axioms proved
end Go.Proofs.YtphkpokoeaagfaaDoor.markupNests
