/- The walk of PatternRanges. -/
import Derived.Test.YtdnofpllmhnacaaRgM
namespace Go.Proofs.Ytdnofpllmhnacaa
open Go.ChangeShapes Go.WideShapes Go.ChangeAt Go.RowKit Go.Sort
set_option linter.unusedVariables false
set_option linter.unusedSimpArgs false
set_option maxRecDepth 100000

theorem conv_three (w : World) (a b : Nat) (ha : a < 256) (hb : b < 256) :
    (convert 39 9 (.slice (some ⟨w.heap.size, 0, none⟩) 3 3)).run Try.prog (w.alloc (.cells #[.int .u8 (a : Int), .int .u8 45, .int .u8 (b : Int)] 5)) = .ok (.string (mkB [a, 45, b])) (w.alloc (.cells #[.int .u8 (a : Int), .int .u8 45, .int .u8 (b : Int)] 5)) := by
  have h := Lib.run_convert_whole (P := Try.prog) (w.alloc (.cells #[.int .u8 (a : Int), .int .u8 45, .int .u8 (b : Int)] 5)) 39 5 9 Try.underlying39 Try.underlying5 Try.underlying9 w.heap.size 0 (mkB [a, 45, b]) (fun i hi => by
    rw [mkB_size] at hi
    rw [cell_of_row _ _ _ _ _ _ (heap_alloc_new w _), Nat.zero_add]
    have hi3 : i = 0 ∨ i = 1 ∨ i = 2 := by simp at hi; omega
    rcases hi3 with rfl | rfl | rfl
    · show some (Value.int .u8 (a : Int)) = some (Value.int .u8 ((Nat.toUInt8 a).toNat : Int))
      congr 2; simp; omega
    · rfl
    · show some (Value.int .u8 (b : Int)) = some (Value.int .u8 ((Nat.toUInt8 b).toNat : Int))
      congr 2; simp; omega) 3
  rwa [mkB_size] at h
theorem rg_cat (a b : Nat) : (⟨#[91]⟩ ++ mkB [a, 45, b]) ++ ⟨#[93]⟩ = rgS a b := by
  unfold rgS
  rw [show (⟨#[91]⟩ : ByteArray) = mkB [91] from rfl, show (⟨#[93]⟩ : ByteArray) = mkB [93] from rfl, mkB_append, mkB_append]; rfl
theorem ng_cat (a b : Nat) (ha : a < 256) (hb : b < 256) : ⟨#[91, 94]⟩ ++ (rgS a b).extract 1 (rgS a b).size = ngS a b := by
  unfold ngS
  have h1 : (rgS a b).extract 1 (rgS a b).size = mkB [a, 45, b, 93] := by
    apply byt_inj
    unfold rgS
    rw [byt_from, byt_mkB _ (by simp; omega), byt_mkB _ (by simp; omega)]; rfl
  rw [h1, show (⟨#[91, 94]⟩ : ByteArray) = mkB [91, 94] from rfl, mkB_append]; rfl

def RgT (w : World) (S : BSet) (R : List At × Nat × Int) : Prop := R = ([⟨S, 1, false⟩], 0, 0)
set_option maxHeartbeats 6400000 in
theorem ranges_any (a0 a1 a2 : Int) (a3 : Bool) (w : World) (w0 : (Lit.int .i64 a0).wf = true) (w1 : (Lit.int .i64 a1).wf = true) (w2 : (Lit.int .u8 a2).wf = true) :
    Calls Try.prog 5 #[.int .i64 a0, .int .i64 a1, .int .u8 a2, .bool a3] w fun e w' => e = .returned (.bool true) ∧ Below w.heap.size w w' := by
  have KN := Lib.hid known_any
  obtain ⟨c, rfl, hc⟩ : ∃ c : Nat, a2 = (c : Int) ∧ c < 256 := by
    have hb : 0 ≤ a2 ∧ a2 ≤ 255 := by simpa [Lit.wf, IntKind.min, IntKind.max, IntKind.signed, IntKind.bits] using w2
    exact ⟨a2.toNat, by omega, by omega⟩
  clear w2
  have hp0 := fun W => place_any a0 26 W (by omega) (by omega) w0
  have hp1 := fun W => place_any a1 26 W (by omega) (by omega) w1
  obtain ⟨x, hx, hx6⟩ : ∃ k : Nat, a0 % 26 = (k : Int) ∧ k < 26 := by
    have := Int.emod_nonneg a0 (show (26 : Int) ≠ 0 by omega); have := Int.emod_lt_of_pos a0 (show (0 : Int) < 26 by omega)
    exact ⟨(a0 % 26).toNat, by omega, by omega⟩
  obtain ⟨y, hy, hy6⟩ : ∃ k : Nat, a1 % 26 = (k : Int) ∧ k < 26 := by
    have := Int.emod_nonneg a1 (show (26 : Int) ≠ 0 by omega); have := Int.emod_lt_of_pos a1 (show (0 : Int) < 26 by omega)
    exact ⟨(a1 % 26).toNat, by omega, by omega⟩
  rw [hx] at hp0; rw [hy] at hp1
  obtain ⟨b1, hb1⟩ : ∃ b1 : Nat, b1 = 97 + x := ⟨_, rfl⟩
  obtain ⟨b2, hb2⟩ : ∃ b2 : Nat, b2 = 97 + y := ⟨_, rfl⟩
  have e1 : (97 : Int) + (x : Int) = (b1 : Int) := by omega
  have e2 : (97 : Int) + (y : Int) = (b2 : Int) := by omega
  have v1 := wrap8 b1 (by omega)
  have v2 := wrap8 b2 (by omega)
  have hcv := fun W => conv_three W b1 b2 (by omega) (by omega)
  have c1 := rg_cat b1 b2
  have c2 := ng_cat b1 b2 (by omega) (by omega)
  have s1 : (rgS b1 b2).size = 5 := mkB_size _
  have s2 : (ngS b1 b2).size = 6 := mkB_size _
  have s3 : (mkB [b1, 45, b2]).size ≤ 3 := by rw [mkB_size]; simp
  have r1 := rg_parse (b1 := b1) (b2 := b2) (by omega) (by omega) (by omega) (by omega)
  have r2 := ng_parse (b1 := b1) (b2 := b2) (by omega) (by omega) (by omega) (by omega)
  have k1 := fun W => parse_any (rgS b1 b2) W (by omega)
  have k2 := fun W => parse_any (ngS b1 b2) W (by omega)
  have hin := range_in b1 b2 c
  generalize rgS b1 b2 = t1 at *
  generalize ngS b1 b2 = t2 at *
  generalize mkB [b1, 45, b2] = t0 at *
  have hlt : decide (b2 < b1) = decide (y < x) := by by_cases h : y < x <;> simp [h] <;> omega
  have HALL := Lib.hid (And.intro r1 (And.intro r2 (And.intro hin hlt)))
  have HP0 := Lib.hid hp0; have HP1 := Lib.hid hp1; have K1 := Lib.hid k1; have K2 := Lib.hid k2
  have HC1 := Lib.hid c1; have HC2 := Lib.hid c2; have HS1 := Lib.hid s1; have HS2 := Lib.hid s2
  have t1s : t1.size ≤ 10 := by omega
  have t2s : t2.size ≤ 10 := by omega
  clear hp0 hp1 k1 k2 r1 r2 hin hlt hx hy hb1 hb2 c1 c2 s1 s2
  have z1 : b1 ≤ 122 := by omega
  have z2 : b2 ≤ 122 := by omega
  go_enter Try.func5, Try.ntmps5
  go_wp2_with fail
  refine (HP0.out _).mono ?_; rintro e w' ⟨rfl, rfl⟩
  go_wp2_with fail
  refine (HP1.out _).mono ?_; rintro e w' ⟨rfl, rfl⟩
  have hcw := hcv w
  clear hcv
  have HCV := Lib.hid hcw
  go_upto_region 3 with fail
  rw [HC1.out]
  have B0 := Lib.hid (blw (Below.refl w.heap.size w) (.cells #[.int .u8 (b1 : Int), .int .u8 45, .int .u8 (b2 : Int)] 5))
  generalize w.alloc (.cells #[.int .u8 (b1 : Int), .int .u8 45, .int .u8 (b2 : Int)] 5) = wz at *
  clear hcw HCV s3
  obtain ⟨d, hu, hd⟩ := und37
  have HUD := Lib.hid (And.intro hu hd); clear hu hd
  have x1 : (1 : Int) ≤ (t1.size : Int) := by rw [HS1.out]; decide
  obtain ⟨r1, r2, hin, hlt⟩ := HALL.out
  clear HALL
  cases a3
  · have k := K1.out
    rw [r1] at k
    clear r1 r2
    by_cases hxy : y < x
    · have q0 : decide (y < x) = true := decide_eq_true hxy
      rw [if_pos (of_decide_eq_true (hlt.trans q0))] at k
      have HK := Lib.hid k; clear k hlt hin
      go_wp2_with fail
      refine (HK.out _).mono ?_; rintro e w3 ⟨v, rfl, o3, b3⟩
      obtain ⟨p, cp, rfl, hpc, _, _, _⟩ := o3.ats
      have B3 := Lib.hid (BelowOn B0.out b3); clear b3 o3
      have hs : (t1.size : Int) = 5 := by rw [HS1.out]; rfl
      go_wp2_with fail
      refine (KN.out _).mono ?_; rintro e w9 ⟨rfl, b9⟩
      have B9 := Lib.hid (BelowOn B3.out b9); clear b9
      go_wp2_with fail
      go_ret
      exact ⟨rfl, B9.out⟩
    · have q0 : decide (y < x) = false := decide_eq_false hxy
      rw [if_neg (of_decide_eq_false (hlt.trans q0))] at k
      have dd := fun W => contains_any ⟨orS emptyS (rangeS emptyS b1 b2), 1, false⟩ c hc W
      dsimp only at dd
      rw [hin] at dd
      generalize orS emptyS (rangeS emptyS b1 b2) = S at *
      have HK := Lib.hid k; clear k hlt hin
      by_cases g1 : b1 ≤ c
      · have u1 : decide (b1 ≤ c) = true := decide_eq_true g1
        by_cases g2 : c ≤ b2
        · have u2 : decide (c ≤ b2) = true := decide_eq_true g2
          have dd2 := dd
          rw [u1, u2] at dd2
          rw [show ((true && true)) = true from rfl] at dd2
          have DD := Lib.hid dd2; clear dd dd2
          go_wp2_with fail
          refine (HK.out _).mono ?_; rintro e w3 ⟨v, rfl, o3, b3⟩
          obtain ⟨bb, cp, rfl, hr, hl, _, hcp⟩ := o3.one
          have H3 := Lib.hid (And.intro hr (BelowOn B0.out b3)); clear b3 o3 hr hl
          go_wp2_with (refine wpList_load_wanted (by rfl) 37 _ (by rfl) bb 0 (by rfl) (At.cs ⟨S, 1, false⟩) d H3.out.1 HUD.out.1 HUD.out.2 (hin_of _) ?_)
          refine (DD.out _).mono ?_; rintro e w4 ⟨rfl, b4⟩
          have B4 := Lib.hid (BelowOn H3.out.2 b4); clear b4
          go_wp2_with fail
          refine (KN.out _).mono ?_; rintro e w9 ⟨rfl, b9⟩
          have B9 := Lib.hid (BelowOn B4.out b9); clear b9
          go_wp2_with fail
          go_ret
          exact ⟨rfl, B9.out⟩
        · have u2 : decide (c ≤ b2) = false := decide_eq_false g2
          have dd2 := dd
          rw [u1, u2] at dd2
          rw [show ((true && false)) = false from rfl] at dd2
          have DD := Lib.hid dd2; clear dd dd2
          go_wp2_with fail
          refine (HK.out _).mono ?_; rintro e w3 ⟨v, rfl, o3, b3⟩
          obtain ⟨bb, cp, rfl, hr, hl, _, hcp⟩ := o3.one
          have H3 := Lib.hid (And.intro hr (BelowOn B0.out b3)); clear b3 o3 hr hl
          go_wp2_with (refine wpList_load_wanted (by rfl) 37 _ (by rfl) bb 0 (by rfl) (At.cs ⟨S, 1, false⟩) d H3.out.1 HUD.out.1 HUD.out.2 (hin_of _) ?_)
          refine (DD.out _).mono ?_; rintro e w4 ⟨rfl, b4⟩
          have B4 := Lib.hid (BelowOn H3.out.2 b4); clear b4
          go_wp2_with fail
          refine (KN.out _).mono ?_; rintro e w9 ⟨rfl, b9⟩
          have B9 := Lib.hid (BelowOn B4.out b9); clear b9
          go_wp2_with fail
          go_ret
          exact ⟨rfl, B9.out⟩
      · have u1 : decide (b1 ≤ c) = false := decide_eq_false g1
        by_cases g2 : c ≤ b2
        · have u2 : decide (c ≤ b2) = true := decide_eq_true g2
          have dd2 := dd
          rw [u1, u2] at dd2
          rw [show ((false && true)) = false from rfl] at dd2
          have DD := Lib.hid dd2; clear dd dd2
          go_wp2_with fail
          refine (HK.out _).mono ?_; rintro e w3 ⟨v, rfl, o3, b3⟩
          obtain ⟨bb, cp, rfl, hr, hl, _, hcp⟩ := o3.one
          have H3 := Lib.hid (And.intro hr (BelowOn B0.out b3)); clear b3 o3 hr hl
          go_wp2_with (refine wpList_load_wanted (by rfl) 37 _ (by rfl) bb 0 (by rfl) (At.cs ⟨S, 1, false⟩) d H3.out.1 HUD.out.1 HUD.out.2 (hin_of _) ?_)
          refine (DD.out _).mono ?_; rintro e w4 ⟨rfl, b4⟩
          have B4 := Lib.hid (BelowOn H3.out.2 b4); clear b4
          go_wp2_with fail
          refine (KN.out _).mono ?_; rintro e w9 ⟨rfl, b9⟩
          have B9 := Lib.hid (BelowOn B4.out b9); clear b9
          go_wp2_with fail
          go_ret
          exact ⟨rfl, B9.out⟩
        · have u2 : decide (c ≤ b2) = false := decide_eq_false g2
          have dd2 := dd
          rw [u1, u2] at dd2
          rw [show ((false && false)) = false from rfl] at dd2
          have DD := Lib.hid dd2; clear dd dd2
          go_wp2_with fail
          refine (HK.out _).mono ?_; rintro e w3 ⟨v, rfl, o3, b3⟩
          obtain ⟨bb, cp, rfl, hr, hl, _, hcp⟩ := o3.one
          have H3 := Lib.hid (And.intro hr (BelowOn B0.out b3)); clear b3 o3 hr hl
          go_wp2_with (refine wpList_load_wanted (by rfl) 37 _ (by rfl) bb 0 (by rfl) (At.cs ⟨S, 1, false⟩) d H3.out.1 HUD.out.1 HUD.out.2 (hin_of _) ?_)
          refine (DD.out _).mono ?_; rintro e w4 ⟨rfl, b4⟩
          have B4 := Lib.hid (BelowOn H3.out.2 b4); clear b4
          go_wp2_with fail
          refine (KN.out _).mono ?_; rintro e w9 ⟨rfl, b9⟩
          have B9 := Lib.hid (BelowOn B4.out b9); clear b9
          go_wp2_with fail
          go_ret
          exact ⟨rfl, B9.out⟩
  · have k := K2.out
    rw [r2] at k
    clear r1 r2
    by_cases hxy : y < x
    · have q0 : decide (y < x) = true := decide_eq_true hxy
      rw [if_pos (of_decide_eq_true (hlt.trans q0))] at k
      have HK := Lib.hid k; clear k hlt hin
      go_upto_region 5 with fail
      rw [HC2.out]
      go_wp2_with fail
      refine (HK.out _).mono ?_; rintro e w3 ⟨v, rfl, o3, b3⟩
      obtain ⟨p, cp, rfl, hpc, _, _, _⟩ := o3.ats
      have B3 := Lib.hid (BelowOn B0.out b3); clear b3 o3
      have hs : (t2.size : Int) = 6 := by rw [HS2.out]; rfl
      go_wp2_with fail
      refine (KN.out _).mono ?_; rintro e w9 ⟨rfl, b9⟩
      have B9 := Lib.hid (BelowOn B3.out b9); clear b9
      go_wp2_with fail
      go_ret
      exact ⟨rfl, B9.out⟩
    · have q0 : decide (y < x) = false := decide_eq_false hxy
      rw [if_neg (of_decide_eq_false (hlt.trans q0))] at k
      have dd := fun W => contains_any ⟨notS (orS emptyS (rangeS emptyS b1 b2)), 1, false⟩ c hc W
      dsimp only at dd
      rw [show notS (orS emptyS (rangeS emptyS b1 b2)) c = !(orS emptyS (rangeS emptyS b1 b2) c) from rfl, hin] at dd
      generalize notS (orS emptyS (rangeS emptyS b1 b2)) = S at *
      have HK := Lib.hid k; clear k hlt hin
      by_cases g1 : b1 ≤ c
      · have u1 : decide (b1 ≤ c) = true := decide_eq_true g1
        by_cases g2 : c ≤ b2
        · have u2 : decide (c ≤ b2) = true := decide_eq_true g2
          have dd2 := dd
          rw [u1, u2] at dd2
          rw [show (!(true && true)) = false from rfl] at dd2
          have DD := Lib.hid dd2; clear dd dd2
          go_upto_region 5 with fail
          rw [HC2.out]
          go_wp2_with fail
          refine (HK.out _).mono ?_; rintro e w3 ⟨v, rfl, o3, b3⟩
          obtain ⟨bb, cp, rfl, hr, hl, _, hcp⟩ := o3.one
          have H3 := Lib.hid (And.intro hr (BelowOn B0.out b3)); clear b3 o3 hr hl
          go_wp2_with (refine wpList_load_wanted (by rfl) 37 _ (by rfl) bb 0 (by rfl) (At.cs ⟨S, 1, false⟩) d H3.out.1 HUD.out.1 HUD.out.2 (hin_of _) ?_)
          refine (DD.out _).mono ?_; rintro e w4 ⟨rfl, b4⟩
          have B4 := Lib.hid (BelowOn H3.out.2 b4); clear b4
          go_wp2_with fail
          refine (KN.out _).mono ?_; rintro e w9 ⟨rfl, b9⟩
          have B9 := Lib.hid (BelowOn B4.out b9); clear b9
          go_wp2_with fail
          go_ret
          exact ⟨rfl, B9.out⟩
        · have u2 : decide (c ≤ b2) = false := decide_eq_false g2
          have dd2 := dd
          rw [u1, u2] at dd2
          rw [show (!(true && false)) = true from rfl] at dd2
          have DD := Lib.hid dd2; clear dd dd2
          go_upto_region 5 with fail
          rw [HC2.out]
          go_wp2_with fail
          refine (HK.out _).mono ?_; rintro e w3 ⟨v, rfl, o3, b3⟩
          obtain ⟨bb, cp, rfl, hr, hl, _, hcp⟩ := o3.one
          have H3 := Lib.hid (And.intro hr (BelowOn B0.out b3)); clear b3 o3 hr hl
          go_wp2_with (refine wpList_load_wanted (by rfl) 37 _ (by rfl) bb 0 (by rfl) (At.cs ⟨S, 1, false⟩) d H3.out.1 HUD.out.1 HUD.out.2 (hin_of _) ?_)
          refine (DD.out _).mono ?_; rintro e w4 ⟨rfl, b4⟩
          have B4 := Lib.hid (BelowOn H3.out.2 b4); clear b4
          go_wp2_with fail
          refine (KN.out _).mono ?_; rintro e w9 ⟨rfl, b9⟩
          have B9 := Lib.hid (BelowOn B4.out b9); clear b9
          go_wp2_with fail
          go_ret
          exact ⟨rfl, B9.out⟩
      · have u1 : decide (b1 ≤ c) = false := decide_eq_false g1
        by_cases g2 : c ≤ b2
        · have u2 : decide (c ≤ b2) = true := decide_eq_true g2
          have dd2 := dd
          rw [u1, u2] at dd2
          rw [show (!(false && true)) = true from rfl] at dd2
          have DD := Lib.hid dd2; clear dd dd2
          go_upto_region 5 with fail
          rw [HC2.out]
          go_wp2_with fail
          refine (HK.out _).mono ?_; rintro e w3 ⟨v, rfl, o3, b3⟩
          obtain ⟨bb, cp, rfl, hr, hl, _, hcp⟩ := o3.one
          have H3 := Lib.hid (And.intro hr (BelowOn B0.out b3)); clear b3 o3 hr hl
          go_wp2_with (refine wpList_load_wanted (by rfl) 37 _ (by rfl) bb 0 (by rfl) (At.cs ⟨S, 1, false⟩) d H3.out.1 HUD.out.1 HUD.out.2 (hin_of _) ?_)
          refine (DD.out _).mono ?_; rintro e w4 ⟨rfl, b4⟩
          have B4 := Lib.hid (BelowOn H3.out.2 b4); clear b4
          go_wp2_with fail
          refine (KN.out _).mono ?_; rintro e w9 ⟨rfl, b9⟩
          have B9 := Lib.hid (BelowOn B4.out b9); clear b9
          go_wp2_with fail
          go_ret
          exact ⟨rfl, B9.out⟩
        · have u2 : decide (c ≤ b2) = false := decide_eq_false g2
          have dd2 := dd
          rw [u1, u2] at dd2
          rw [show (!(false && false)) = true from rfl] at dd2
          have DD := Lib.hid dd2; clear dd dd2
          go_upto_region 5 with fail
          rw [HC2.out]
          go_wp2_with fail
          refine (HK.out _).mono ?_; rintro e w3 ⟨v, rfl, o3, b3⟩
          obtain ⟨bb, cp, rfl, hr, hl, _, hcp⟩ := o3.one
          have H3 := Lib.hid (And.intro hr (BelowOn B0.out b3)); clear b3 o3 hr hl
          go_wp2_with (refine wpList_load_wanted (by rfl) 37 _ (by rfl) bb 0 (by rfl) (At.cs ⟨S, 1, false⟩) d H3.out.1 HUD.out.1 HUD.out.2 (hin_of _) ?_)
          refine (DD.out _).mono ?_; rintro e w4 ⟨rfl, b4⟩
          have B4 := Lib.hid (BelowOn H3.out.2 b4); clear b4
          go_wp2_with fail
          refine (KN.out _).mono ?_; rintro e w9 ⟨rfl, b9⟩
          have B9 := Lib.hid (BelowOn B4.out b9); clear b9
          go_wp2_with fail
          go_ret
          exact ⟨rfl, B9.out⟩
end Go.Proofs.Ytdnofpllmhnacaa
