/- The walk of PatternMatches. -/
import Derived.Test.YtdnofpllmhnacaaRm4
import Derived.Test.YtdnofpllmhnacaaVdt
import Derived.Test.YtdnofpllmhnacaaOat
import Derived.Test.YtdnofpllmhnacaaPaW
namespace Go.Proofs.Ytdnofpllmhnacaa
open Go.ChangeShapes Go.WideShapes Go.ChangeAt Go.RowKit Go.Sort
set_option linter.unusedVariables false
set_option linter.unusedSimpArgs false
set_option maxRecDepth 100000

theorem gs_wf (L : List Int) (i : Nat) : wfA (gsF L i).1 := by
  induction i with
  | zero => intro i hi; exact absurd hi (Nat.not_lt_zero _)
  | succ i ih =>
    intro j hj
    have hj' : j < ((gsF L i).1 ++ [atF L (gsF L i).2]).length := hj
    show (Lit.int .i64 (((gsF L i).1 ++ [atF L (gsF L i).2])[j]'hj').mn).wf = true
    by_cases e : j < (gsF L i).1.length
    · rw [List.getElem_append_left e]; exact ih j e
    · rw [List.getElem_append_right (by omega)]
      simp only [List.getElem_singleton]
      have := nx_lt L (gsF L i).2 2 (by omega)
      show (Lit.int .i64 (nx L (gsF L i).2 2 : Int)).wf = true
      generalize nx L (gsF L i).2 2 = n at *
      have : n = 0 ∨ n = 1 := by omega
      rcases this with rfl | rfl <;> decide
theorem mk_wf (L : List Int) : wfA (mkF L) := gs_wf L _
theorem wf_rev {P : List At} (h : wfA P) : wfA P.reverse := fun i hi => by
  rw [List.getElem_reverse]; exact h _ _
theorem jdx0 (p q : Option Addr) (n c m d : Nat) (w : World) : (Instr.index 44 (.agg #[.slice p n c, .slice q m d]) (.int .i64 0)).run Try.prog w = .ok (.slice p n c) w := by
  first
    | kernel_rfl
    | (have hs : (sizeOf 26).run Try.prog w = .ok 1 w := Try.sizeOf26 w
       simp [Instr.index, run_underlying Try.underlying44, asIntOf, hs, part, Result.andThen, go_sem])
theorem jdx1 (p q : Option Addr) (n c m d : Nat) (w : World) : (Instr.index 44 (.agg #[.slice p n c, .slice q m d]) (.int .i64 1)).run Try.prog w = .ok (.slice q m d) w := by
  first
    | kernel_rfl
    | (have hs : (sizeOf 26).run Try.prog w = .ok 1 w := Try.sizeOf26 w
       simp [Instr.index, run_underlying Try.underlying44, asIntOf, hs, part, Result.andThen, go_sem])

set_option maxHeartbeats 16000000 in
theorem matches_any (p0 : Option Addr) (c0 : Nat) (a0 : List At) (p1 : Option Addr) (c1 : Nat) (a1 : List Int) (p2 : Option Addr) (c2 : Nat) (a2 : List Int) (s : ByteArray) (w : World)
    (r0 : Ats w p0 a0) (o0 : wfA a0) (n0 : a0.length ≤ c0) (m0 : c0 ≤ maxLen)
    (r1 : Ones w (Value.int .i64) p1 a1) (o1 : wfs a1) (n1 : a1.length ≤ c1) (m1 : c1 ≤ maxLen)
    (r2 : Ones w (Value.int .i64) p2 a2) (o2 : wfs a2) (n2 : a2.length ≤ c2) (m2 : c2 ≤ maxLen) (hs0 : s.size ≤ 140737488355328) :
    Calls Try.prog 7 #[.slice p0 a0.length c0, .slice p1 a1.length c1, .slice p2 a2.length c2, .string s] w fun e w' => e = .returned (.bool true) ∧ Below w.heap.size w w' := by
  have KN := Lib.hid known_any
  by_cases h8 : a0.length ≤ 8
  · have q0 : decide (8 < a0.length) = false := decide_eq_false (by omega)
    by_cases h40 : s.size ≤ 40
    · have q1 : decide (40 < s.size) = false := decide_eq_false (by omega)
      by_cases h60 : a1.length ≤ 60
      · have q2 : decide (60 < a1.length) = false := decide_eq_false (by omega)
        have k1 := fun W h => made_any p1 c1 a1 W h o1 n1 m1
        have k2 := fun W h => text_any p2 c2 a2 W h o2 n2 m2
        have l1 := mk_len a1; have l2 := tx_size a2; have f1 := mk_wf a1
        generalize mkF a1 = P1 at *
        generalize mkB (tx a2) = u at *
        have M0 := Lib.hid m0
        unfold maxLen at m0 m1 m2
        have K1 := Lib.hid k1; have K2 := Lib.hid k2
        have HR := Lib.hid (And.intro r0 (And.intro r1 r2)); have HW := Lib.hid (And.intro o0 f1); clear k1 k2 r0 r1 r2 o0 o1 o2 f1
        go_enter Try.func7, Try.ntmps7
        go_wp2_with fail
        refine (K1.out _ HR.out.2.1).mono ?_; rintro e w1 ⟨v1, rfl, ow1, b1⟩
        obtain ⟨pv, cv, rfl, hv1, hv2, hv3, _⟩ := ow1.ats
        have hidx : ∀ k : Nat, k < 2 → ∃ (p : Option Addr) (c : Nat) (P : List At), (∀ W, (Instr.index 44 (.agg #[.slice p0 a0.length c0, .slice pv P1.length cv]) (.int .i64 (k : Int))).run Try.prog W = .ok (.slice p P.length c) W) ∧ Ats w1 p P ∧ P.length ≤ c ∧ c ≤ maxLen ∧ P.length ≤ 8 ∧ wfA P := fun k hk => by
          have : k = 0 ∨ k = 1 := by omega
          rcases this with rfl | rfl
          · exact ⟨p0, c0, a0, fun W => jdx0 _ _ _ _ _ _ W, HR.out.1.call b1, n0, M0.out, h8, HW.out.1⟩
          · exact ⟨pv, cv, P1, fun W => jdx1 _ _ _ _ _ _ W, hv3, hv1, hv2, by omega, HW.out.2⟩
        have HI := Lib.hid hidx; have B1 := Lib.hid b1
        have hR2 := HR.out.2.2.call b1
        have HR2 := Lib.hid hR2
        unfold maxLen at hv2
        clear hidx b1 hR2 ow1 hv3 HR HW
        go_wp2_with fail
        go_loopw [31] (fun i wr => ∃ k : Nat, k ≤ 2 ∧ i = .int .i64 k ∧ Below w1.heap.size w1 wr) (fun i _ => 2 - (intOf i).toNat)
        case atStart => exact ⟨0, by omega, rfl, Below.refl _ _⟩
        case round =>
          obtain ⟨k, hk, rfl, hB⟩ := hrel
          have HB := Lib.hid hB; clear hB
          by_cases hlt : k < 2
          · have z0 : decide ((k : Int) < 2) = true := decide_eq_true (by omega)
            obtain ⟨p, c, P, hix, hats, hc, hm, hlen, hwf⟩ := HI.out k hlt
            have hx := hix wr
            have kc : ∀ (x : ByteArray), x.size ≤ 40 → ∃ (bm bp bs : Bool) (lg : Int), ∀ W, Below w1.heap.size w1 W →
                (Calls Try.prog 19 #[.slice p P.length c, .string x] W fun e w' => e = .returned (.bool bm) ∧ Below W.heap.size W w') ∧
                (Calls Try.prog 22 #[.slice p P.length c, .string x] W fun e w' => e = .returned (.bool bm) ∧ Below W.heap.size W w') ∧
                (Calls Try.prog 23 #[.slice p P.length c, .string x] W fun e w' => e = .returned (.bool bp) ∧ Below W.heap.size W w') ∧
                (Calls Try.prog 24 #[.slice p P.length c, .string x] W fun e w' => e = .returned (.bool bp) ∧ Below W.heap.size W w') ∧
                (Calls Try.prog 25 #[.slice p P.length c, .string x] W fun e w' => e = .returned (.bool bs) ∧ Below W.heap.size W w') ∧
                (Calls Try.prog 26 #[.slice p P.length c, .string x] W fun e w' => e = .returned (.bool bs) ∧ Below W.heap.size W w') ∧
                (Calls Try.prog 27 #[.slice p P.length c, .string x] W fun e w' => e = .returned (.int .i64 lg) ∧ Below W.heap.size W w') ∧
                (Calls Try.prog 28 #[.slice p P.length c, .string x] W fun e w' => e = .returned (.int .i64 lg) ∧ Below W.heap.size W w') := fun x hx =>
              ⟨matchF P (byt x), prefF P (byt x), sufF P (byt x), longF P (byt x), fun W hW =>
                ⟨match_any p c P x W (hats.call hW) hc hm (by omega) (by omega), rmatch_any p c P x W (hats.call hW) hc hm (by omega) (by omega),
                 prefix_any p c P x W (hats.call hW) hc hm (by omega) (by omega), rprefix_any p c P x W (hats.call hW) hc hm (by omega) (by omega),
                 suffix_any p c P x W (hats.call hW) hc hm (by omega) (by omega), rsuffix_any p c P x W (hats.call hW) hc hm (by omega) (by omega),
                 longest_any p c P x W (hats.call hW) hc hm (by omega) (by omega), rlongest_any p c P x W (hats.call hW) hc hm (by omega) (by omega)⟩⟩
            obtain ⟨er, R, hwfR, kv⟩ : ∃ (er : Int) (R : List At), wfA R ∧ ∀ W, Below w1.heap.size w1 W →
                (Calls Try.prog 29 #[.slice p P.length c] W fun e w' => e = .returned (.int .i64 er) ∧ Below W.heap.size W w') ∧
                (Calls Try.prog 30 #[.slice p P.length c] W fun e w' => e = .returned (.int .i64 er) ∧ Below W.heap.size W w') ∧
                (Calls Try.prog 31 #[.slice p P.length c] W (MkEnd R W)) ∧ (Calls Try.prog 32 #[.slice p P.length c] W (MkEnd R W)) :=
              ⟨valF P, P.reverse, wf_rev hwf, fun W hW => ⟨validate_any p c P W (hats.call hW) hc hm, rvalidate_any p c P W (hats.call hW) hc hm, rev_any p c P W (hats.call hW) hc hm (by omega), rrev_any p c P W (hats.call hW) hc hm (by omega)⟩⟩
            have KC := Lib.hid kc; have KV := Lib.hid kv; have HWF := Lib.hid hwfR
            have ve : (er != er) = false := by simp
            unfold maxLen at hm
            clear kc kv hwf hats hix hwfR
            go_wp2_with fail
            refine (K2.out _ (HR2.out.call HB.out)).mono ?_; rintro e w2 ⟨rfl, b2⟩
            have B2 := Lib.hid (BelowOn HB.out b2); clear b2 HB hx
            go_wp2_with fail
            go_loopw [38] (fun i wr' => ∃ j : Nat, j ≤ 2 ∧ i = .int .i64 j ∧ Below w1.heap.size w1 wr') (fun i _ => 2 - (intOf i).toNat)
            case atStart => exact ⟨0, by omega, rfl, B2.out⟩
            case round =>
              clear B2
              obtain ⟨j, hj, rfl, hB⟩ := hrel
              have HB := Lib.hid hB; clear hB
              by_cases hjl : j < 2
              · have z1 : decide ((j : Int) < 2) = true := decide_eq_true (by omega)
                obtain ⟨x, hix, hxs⟩ : ∃ x : ByteArray, (∀ W, (Instr.index 25 (.agg #[.string s, .string u]) (.int .i64 (j : Int))).run Try.prog W = .ok (.string x) W) ∧ x.size ≤ 40 := by
                  have : j = 0 ∨ j = 1 := by omega
                  rcases this with rfl | rfl
                  · exact ⟨s, fun W => idx0 s u W, h40⟩
                  · exact ⟨u, fun W => idx1 s u W, by omega⟩
                have hx := hix wr
                obtain ⟨bm, bp, bs, lg, kk⟩ := KC.out x hxs
                have KK := Lib.hid kk; clear kk hix
                have y0 : (bm != bm) = false := by simp
                have y1 : (bp != bp) = false := by simp
                have y2 : (bs != bs) = false := by simp
                have y3 : (lg != lg) = false := by simp
                go_wp2_with fail
                refine (KK.out _ HB.out).1.mono ?_; rintro e w4 ⟨rfl, b4⟩
                have B4 := Lib.hid (BelowOn HB.out b4); clear b4
                go_wp2_with fail
                refine (KK.out _ B4.out).2.1.mono ?_; rintro e w5 ⟨rfl, b5⟩
                have B5 := Lib.hid (BelowOn B4.out b5); clear b5
                go_wp2_with fail
                refine (KK.out _ B5.out).2.2.1.mono ?_; rintro e w6 ⟨rfl, b6⟩
                have B6 := Lib.hid (BelowOn B5.out b6); clear b6
                go_wp2_with fail
                refine (KK.out _ B6.out).2.2.2.1.mono ?_; rintro e w7 ⟨rfl, b7⟩
                have B7 := Lib.hid (BelowOn B6.out b7); clear b7
                go_wp2_with fail
                refine (KK.out _ B7.out).2.2.2.2.1.mono ?_; rintro e w8 ⟨rfl, b8⟩
                have B8 := Lib.hid (BelowOn B7.out b8); clear b8
                go_wp2_with fail
                refine (KK.out _ B8.out).2.2.2.2.2.1.mono ?_; rintro e w9 ⟨rfl, b9⟩
                have B9 := Lib.hid (BelowOn B8.out b9); clear b9
                go_wp2_with fail
                refine (KK.out _ B9.out).2.2.2.2.2.2.1.mono ?_; rintro e w10 ⟨rfl, b10⟩
                have B10 := Lib.hid (BelowOn B9.out b10); clear b10
                go_wp2_with fail
                refine (KK.out _ B10.out).2.2.2.2.2.2.2.mono ?_; rintro e w11 ⟨rfl, b11⟩
                have B11 := Lib.hid (BelowOn B10.out b11); clear b11
                go_wp2_with fail
                go_roundw
                case rel => exact ⟨j + 1, hjl, by go_num, B11.out⟩
                case measure => simp [intOf]; omega
              · obtain rfl : j = 2 := by omega
                have z1 : decide (((2 : Nat) : Int) < 2) = false := decide_eq_false (by omega)
                go_wp2_with fail
                refine (KV.out _ HB.out).1.mono ?_; rintro e w4 ⟨rfl, b4⟩
                have B4 := Lib.hid (BelowOn HB.out b4); clear b4
                go_wp2_with fail
                refine (KV.out _ B4.out).2.1.mono ?_; rintro e w5 ⟨rfl, b5⟩
                have B5 := Lib.hid (BelowOn B4.out b5); clear b5
                go_wp2_with fail
                refine (KV.out _ B5.out).2.2.1.mono ?_; rintro e w6 ⟨v6, rfl, ow6, b6⟩
                have B6 := Lib.hid (BelowOn B5.out b6); clear b6
                have O6 := Lib.hid ow6; clear ow6
                go_wp2_with fail
                refine (KV.out _ B6.out).2.2.2.mono ?_; rintro e w7 ⟨v7, rfl, ow7, b7⟩
                have ow6 := O6.out.call b7
                have B7 := Lib.hid (BelowOn B6.out b7)
                obtain ⟨pa, ca, rfl, hpa, hcma, hatsa, _⟩ := ow6.ats
                obtain ⟨pb, cb, rfl, hpb, hcmb, hatsb, _⟩ := ow7.ats
                have HA := Lib.hid (And.intro hatsa hatsb); clear ow6 ow7 b7 hatsa hatsb O6
                go_wp2_with fail
                refine (same_any pa pb ca cb R _ HA.out.1 HA.out.2 hpa hpb hcma hcmb HWF.out).mono ?_; rintro e w8 ⟨rfl, b8⟩
                have B8 := Lib.hid (BelowOn B7.out b8); clear b8
                go_wp2_with fail
                go_roundw
                case rel => exact ⟨k + 1, hlt, by go_num, B8.out⟩
                case measure => simp [intOf]; omega
          · obtain rfl : k = 2 := by omega
            have z0 : decide (((2 : Nat) : Int) < 2) = false := decide_eq_false (by omega)
            go_wp2_with fail
            refine (KN.out _).mono ?_; rintro e w8 ⟨rfl, b8⟩
            have B8 := Lib.hid (BelowOn (BelowOn B1.out HB.out) b8); clear b8
            go_wp2_with fail
            go_ret
            exact ⟨rfl, B8.out⟩
      · have q2 : decide (60 < a1.length) = true := decide_eq_true (by omega)
        go_enter Try.func7, Try.ntmps7
        go_wp2_with fail
        refine (KN.out _).mono ?_; rintro e w8 ⟨rfl, b8⟩
        go_wp2_with fail
        go_ret
        exact ⟨rfl, b8⟩
    · have q1 : decide (40 < s.size) = true := decide_eq_true (by omega)
      go_enter Try.func7, Try.ntmps7
      go_wp2_with fail
      refine (KN.out _).mono ?_; rintro e w8 ⟨rfl, b8⟩
      go_wp2_with fail
      go_ret
      exact ⟨rfl, b8⟩
  · have q0 : decide (8 < a0.length) = true := decide_eq_true (by omega)
    go_enter Try.func7, Try.ntmps7
    go_wp2_with fail
    refine (KN.out _).mono ?_; rintro e w8 ⟨rfl, b8⟩
    go_wp2_with fail
    go_ret
    exact ⟨rfl, b8⟩
end Go.Proofs.Ytdnofpllmhnacaa
