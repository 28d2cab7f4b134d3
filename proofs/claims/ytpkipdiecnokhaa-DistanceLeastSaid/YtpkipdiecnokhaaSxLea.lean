/- Contract of Price. What the law of Align and Price carries: paths, the numbers, the lists, the script. Scripts among the arguments; an owned script as a row of its own. What the reference's Price adds up; what it has in hand. Contract of the reference's Price. Trying all scripts: the least price; appending to a script that is kept. Contracts of the reference's least and Least. The walk of DistanceLeast. The law DistanceLeast holds for every input. -/
import Derived.Test.YtpkipdiecnokhaaDtL
import Derived.Test.YtpkipdiecnokhaaDtK
import Derived.Test.YtpkipdiecnokhaaArf
import Derived.Deep.DeepAppendRoom
import Derived.ArgAppend
import Derived.Test.YtpkipdiecnokhaaRows
import Derived.WalkKit
import Derived.ProofKit
import Derived.OpenShut
import Derived.ChangeOld
import Derived.Below
import Derived.Carry
import Derived.SizedLaws
import Derived.Test.YtpkipdiecnokhaaTka
namespace Go.Proofs.Ytpkipdiecnokhaa
open Go.ChangeShapes Go.WideShapes Go.ChangeAt Go.RowKit Go.Sort
set_option linter.unusedVariables false
set_option linter.unusedSimpArgs false
set_option maxRecDepth 100000

set_option maxHeartbeats 6400000 in
theorem price_any (p q r : Option Addr) (c d f : Nat) (a b : List It) (S : List Ed) (w : World) (hA : Its w p a) (hB : Its w q b) (hS : Eds w r S) (hc : a.length ≤ c) (hd : b.length ≤ d) (hf : S.length ≤ f) (hcm : c ≤ maxLen) (hdm : d ≤ maxLen) (hfm : f ≤ maxLen) (ha : a.length ≤ 100000) (hb : b.length ≤ 100000) (hs : S.length ≤ 1000000) (ta : txtsB a) (tb : txtsB b) :
    Calls Try.prog 29 #[.slice p a.length c, .slice q b.length d, .slice r S.length f] w fun e w' => e = .returned (.tuple #[.int .i64 (prO a b S : Nat), .bool (prB a b S)]) ∧ Below w.heap.size w w' := by
  have h1 := fun W hA hB => surplus_any p q c d a b W hA hB hc hd hcm hdm ha hb ta tb
  have hsl := sur_le a b
  have hsl2 : 2 * sur a b ≤ 80000000000 := by
    have : (a.length + b.length) * (a.length + b.length) ≤ 200000 * 200000 := Nat.mul_le_mul (by omega) (by omega)
    omega
  have hcost := fun x y W hx hy => dcost_any x y W hx hy
  have hstp := fun k t id W => step_any k t id W
  have HNONE := Lib.hid (fun h => prc_none (a := a) (b := b) (S := S) h)
  have HSHORT := Lib.hid (fun i j u h hs => prc_short (a := a) (b := b) (S := S) (i := i) (j := j) (u := u) h hs)
  have HSOME := Lib.hid (fun i j u h hs => prc_some (a := a) (b := b) (S := S) (i := i) (j := j) (u := u) h hs)
  unfold maxLen at hcm hdm hfm
  generalize 2 * sur a b = U at *
  have H1 := Lib.hid h1; have HC := Lib.hid hcost; have HT := Lib.hid hstp
  clear h1 hsl hcost hstp
  have HTA := Lib.hid ta; have HTB := Lib.hid tb
  clear ta tb
  go_enter Try.func29, Try.ntmps29
  go_wp2_with fail
  refine (H1.out _ hA hB).mono ?_; rintro e w1 ⟨rfl, hb1⟩
  clear H1
  go_wp2_with fail
  go_loopw [8, 9, 10, 22] (fun u i j n wr => ∃ k i' j' u' : Nat, k ≤ S.length ∧ n = .int .i64 k ∧ u = .int .i64 ((U : Int) + (u' : Int)) ∧ i = .int .i64 i' ∧ j = .int .i64 j' ∧ i' ≤ a.length ∧ j' ≤ b.length ∧ u' ≤ 4 * k ∧ prRun a b S 0 0 0 = prRun a b (S.drop k) i' j' u' ∧ Below w.heap.size w wr) (fun _ _ _ n _ => S.length - (intOf n).toNat)
  case atStart => exact ⟨0, 0, 0, 0, Nat.zero_le _, rfl, by simp, rfl, rfl, Nat.zero_le _, Nat.zero_le _, Nat.zero_le _, rfl, hb1⟩
  case round =>
    obtain ⟨k, i, j, u, hk, rfl, rfl, rfl, rfl, hi, hj, hu, hR, hB1⟩ := hrel
    by_cases hlt : k < S.length
    · obtain ⟨br, or, rfl, hbr, hps⟩ := (hS.call hB1) (by omega)
      have c0 : wr.cell? ⟨br, or + k * 2, none⟩ = some (.int .i64 (S[k]).a) := (hps k hlt) 0 _ rfl
      have c1 := (hps k hlt) 1 _ rfl
      have hdr := prRun_drop a b S k i j u hlt
      rw [hdr] at hR
      have HR := Lib.hid hR
      have hAr := Lib.hid (hA.call hB1)
      have hBr := Lib.hid (hB.call hB1)
      have HB1 := Lib.hid hB1
      generalize S[k] = E at *
      clear hdr hR hps hB1
      have hv0 := heap_alloc_new wr (.cells #[.int .i64 E.a, .int .i64 E.b] 45)
      have hbv : Below wr.heap.size wr (wr.alloc (.cells #[.int .i64 E.a, .int .i64 E.b] 45)) := blw (Below.refl _ _) _
      have ik : (k : Int) < (S.length : Int) := by omega
      go_wp2_with fail
      have hw1 := BelowOn HB1.out hbv
      have hA1 := hAr.out.call hbv
      have hB1 := hBr.out.call hbv
      generalize (wr.alloc (.cells #[.int .i64 E.a, .int .i64 E.b] 45)) = v1 at *
      have d0 : v1.cell? ⟨wr.heap.size, 0, none⟩ = some (.int .i64 E.a) := by rw [Lib.cell_of_heap hv0]; rfl
      have d1 : v1.cell? ⟨wr.heap.size, 1, none⟩ = some (.int .i64 E.b) := by rw [Lib.cell_of_heap hv0]; rfl
      generalize wr.heap.size = g at *
      clear c0 c1 hv0 hbv hAr hBr HB1 hbr
      have HX := Lib.hid (And.intro hw1 (And.intro hA1 hB1))
      clear hw1 hA1 hB1
      by_cases A1 : (i : Int) < (a.length : Int)
      · by_cases A2 : E.a = (i : Int)
        · skip
          by_cases B1 : (j : Int) < (b.length : Int)
          · by_cases B2 : E.b = (j : Int)
            · have A1n : i < a.length := by omega
              rw [A2] at d0
              have B1n : j < b.length := by omega
              rw [B2] at d1
              have r0 := cell_regrown d0; have r1 := cell_regrown d1
              refine wp_region_quiet_below (by kernel_rfl) (by kernel_rfl) ?_
              repeat (go_big_quiet_step (fail))
              refine wpQuiet_nil ?_
              intro _ hw'
              obtain ⟨⟨dq, osq⟩, hw''⟩ := hw'
              subst hw''
              have hb2 := below_regrown v1 dq osq
              have k0 := r0 dq osq; have k1 := r1 dq osq
              generalize grow (redrawn v1 dq) osq = v2 at *
              clear r0 r1 d0 d1
              have hw2 := BelowOn HX.out.1 hb2
              have hA2 := HX.out.2.1.call hb2
              have hB2 := HX.out.2.2.call hb2
              clear hb2 HX
              have hst := pr_pair (a := a) (b := b) (u := u) A1n A2 B1n B2
              obtain ⟨ad, rfl, had, x0, x1, x2⟩ := hA2.row i A1n
              obtain ⟨bd, rfl, hbd, y0, y1, y2⟩ := hB2.row j B1n
              have hcc := fun W => HC.out a[i] b[j] W (HTA.out _ (List.getElem_mem A1n)) (HTB.out _ (List.getElem_mem B1n))
              have hR := HR.out
              rw [hst] at hR
              have s4 := cst_le4 a[i] b[j]
              have hcO : okP a[i] b[j] = true → cO a[i] b[j] = cst a[i] b[j] := fun h => by unfold cO; rw [if_pos h]
              generalize a[i] = X at *
              generalize b[j] = Y at *
              have HCC := Lib.hid hcc
              have HW0 := Lib.hid hw2
              clear hcc hst HR hw2 hA2 hB2 k0 k1
              cases hok : okP X Y with
              | false =>
                rw [if_neg (by rw [hok]; simp)] at hR
                simp only at hR
                obtain ⟨ee1, ee2⟩ := HNONE.out hR
                have HE := Lib.hid (And.intro ee1 ee2)
                clear ee1 ee2 hcO
                rw [hok] at HCC; clear hR
                go_wp2_with fail
                have q0 := cell_regrown x0; have q1 := cell_regrown x1; have q2 := cell_regrown x2; have q3 := cell_regrown y0; have q4 := cell_regrown y1; have q5 := cell_regrown y2
                have e1 := fun d os => Calls.regrown_of (HCC.out (grow (redrawn v2 d) os))
                refine wp_region_quiet_below (by kernel_rfl) (by kernel_rfl) ?_
                repeat (go_big_quiet_step (exact e1 _ _))
                refine wpQuiet_nil ?_
                intro _ hw'
                obtain ⟨⟨dq, osq⟩, hw''⟩ := hw'
                subst hw''
                have hb3 := below_regrown v2 dq osq
                generalize grow (redrawn v2 dq) osq = v3 at *
                clear q0 q1 q2 q3 q4 q5 e1 x0 x1 x2 y0 y1 y2
                have HW := Lib.hid (BelowOn HW0.out hb3)
                clear hb3 HCC HW0
                go_wp2_with fail
                go_ret2
                exact ⟨by rw [HE.out.1, HE.out.2]; rfl, HW.out⟩
              | true =>
                rw [if_pos hok] at hR
                simp only at hR
                have hcO2 := hcO hok
                rw [hcO2] at HCC
                have HR2 := Lib.hid hR
                generalize cst X Y = T at *
                clear hR hcO hcO2
                rw [hok] at HCC
                go_wp2_with fail
                have q0 := cell_regrown x0; have q1 := cell_regrown x1; have q2 := cell_regrown x2; have q3 := cell_regrown y0; have q4 := cell_regrown y1; have q5 := cell_regrown y2
                have e1 := fun d os => Calls.regrown_of (HCC.out (grow (redrawn v2 d) os))
                refine wp_region_quiet_below (by kernel_rfl) (by kernel_rfl) ?_
                repeat (go_big_quiet_step (exact e1 _ _))
                refine wpQuiet_nil ?_
                intro _ hw'
                obtain ⟨⟨dq, osq⟩, hw''⟩ := hw'
                subst hw''
                have hb3 := below_regrown v2 dq osq
                generalize grow (redrawn v2 dq) osq = v3 at *
                clear q0 q1 q2 q3 q4 q5 e1 x0 x1 x2 y0 y1 y2
                have HW := Lib.hid (BelowOn HW0.out hb3)
                clear hb3 HCC HW0
                go_wp2_with fail
                go_roundw
                case rel => exact ⟨k + 1, i + 1, j + 1, u + T, hlt, by go_num, by simp [Int.add_assoc], by go_num, by go_num, by omega, by omega, by omega, HR2.out, HW.out⟩
                case measure => simp [intOf]; omega
            · have A1n : i < a.length := by omega
              rw [A2] at d0
              have r0 := cell_regrown d0; have r1 := cell_regrown d1
              refine wp_region_quiet_below (by kernel_rfl) (by kernel_rfl) ?_
              repeat (go_big_quiet_step (fail))
              refine wpQuiet_nil ?_
              intro _ hw'
              obtain ⟨⟨dq, osq⟩, hw''⟩ := hw'
              subst hw''
              have hb2 := below_regrown v1 dq osq
              have k0 := r0 dq osq; have k1 := r1 dq osq
              generalize grow (redrawn v1 dq) osq = v2 at *
              clear r0 r1 d0 d1
              have hw2 := BelowOn HX.out.1 hb2
              have hA2 := HX.out.2.1.call hb2
              have hB2 := HX.out.2.2.call hb2
              clear hb2 HX
              have hst := pr_del (a := a) (b := b) (u := u) A1n A2 (fun h => B2 h.2)
              by_cases hC : E.b = -1
              · rw [hC] at k1
                have hR := HR.out
                rw [hst, if_pos hC] at hR
                simp only at hR
                obtain ⟨ad, rfl, had, x0, x1, x2⟩ := hA2.row i A1n
                have hs := HT.out (a[i]).k (a[i]).t (a[i]).id v2
                have s4 := stp_le4 a[i]
                have hee : stp ⟨(a[i]).k, (a[i]).t, (a[i]).id⟩ = stp a[i] := rfl
                rw [hee] at hs
                have HS1 := Lib.hid hs
                have HR2 := Lib.hid hR
                have HW0 := Lib.hid hw2
                generalize stp a[i] = T at *
                clear hs hR HR hst hee hw2 hA2 hB2
                go_wp2_with fail
                refine HS1.out.mono ?_; rintro e v3 ⟨rfl, hb3⟩
                have HW := Lib.hid (BelowOn HW0.out hb3)
                clear hb3 HS1 HW0 x0 x1 x2 had k0 k1
                go_wp2_with fail
                go_roundw
                case rel => exact ⟨k + 1, i + 1, j, u + T, hlt, by go_num, by simp [Int.add_assoc], by go_num, by go_num, by omega, by omega, by omega, HR2.out, HW.out⟩
                case measure => simp [intOf]; omega
              · have hst2 : prStep a b E i j u = none := by rw [hst, if_neg hC]
                have hR := HR.out
                rw [hst2] at hR
                simp only at hR
                obtain ⟨e1, e2⟩ := HNONE.out hR
                have HE := Lib.hid (And.intro e1 e2)
                have HW := Lib.hid hw2
                clear e1 e2 hR HR hw2 hA2 hB2
                go_wp2_with fail
                go_ret2
                exact ⟨by rw [HE.out.1, HE.out.2]; rfl, HW.out⟩
          · have A1n : i < a.length := by omega
            rw [A2] at d0
            have r0 := cell_regrown d0; have r1 := cell_regrown d1
            refine wp_region_quiet_below (by kernel_rfl) (by kernel_rfl) ?_
            repeat (go_big_quiet_step (fail))
            refine wpQuiet_nil ?_
            intro _ hw'
            obtain ⟨⟨dq, osq⟩, hw''⟩ := hw'
            subst hw''
            have hb2 := below_regrown v1 dq osq
            have k0 := r0 dq osq; have k1 := r1 dq osq
            generalize grow (redrawn v1 dq) osq = v2 at *
            clear r0 r1 d0 d1
            have hw2 := BelowOn HX.out.1 hb2
            have hA2 := HX.out.2.1.call hb2
            have hB2 := HX.out.2.2.call hb2
            clear hb2 HX
            have hst := pr_del (a := a) (b := b) (u := u) A1n A2 (fun h => B1 (Int.ofNat_lt.2 h.1))
            by_cases hC : E.b = -1
            · rw [hC] at k1
              have hR := HR.out
              rw [hst, if_pos hC] at hR
              simp only at hR
              obtain ⟨ad, rfl, had, x0, x1, x2⟩ := hA2.row i A1n
              have hs := HT.out (a[i]).k (a[i]).t (a[i]).id v2
              have s4 := stp_le4 a[i]
              have hee : stp ⟨(a[i]).k, (a[i]).t, (a[i]).id⟩ = stp a[i] := rfl
              rw [hee] at hs
              have HS1 := Lib.hid hs
              have HR2 := Lib.hid hR
              have HW0 := Lib.hid hw2
              generalize stp a[i] = T at *
              clear hs hR HR hst hee hw2 hA2 hB2
              go_wp2_with fail
              refine HS1.out.mono ?_; rintro e v3 ⟨rfl, hb3⟩
              have HW := Lib.hid (BelowOn HW0.out hb3)
              clear hb3 HS1 HW0 x0 x1 x2 had k0 k1
              go_wp2_with fail
              go_roundw
              case rel => exact ⟨k + 1, i + 1, j, u + T, hlt, by go_num, by simp [Int.add_assoc], by go_num, by go_num, by omega, by omega, by omega, HR2.out, HW.out⟩
              case measure => simp [intOf]; omega
            · have hst2 : prStep a b E i j u = none := by rw [hst, if_neg hC]
              have hR := HR.out
              rw [hst2] at hR
              simp only at hR
              obtain ⟨e1, e2⟩ := HNONE.out hR
              have HE := Lib.hid (And.intro e1 e2)
              have HW := Lib.hid hw2
              clear e1 e2 hR HR hw2 hA2 hB2
              go_wp2_with fail
              go_ret2
              exact ⟨by rw [HE.out.1, HE.out.2]; rfl, HW.out⟩
        · skip
          by_cases B1 : (j : Int) < (b.length : Int)
          · by_cases B2 : E.b = (j : Int)
            · have B1n : j < b.length := by omega
              rw [B2] at d1
              have r0 := cell_regrown d0; have r1 := cell_regrown d1
              refine wp_region_quiet_below (by kernel_rfl) (by kernel_rfl) ?_
              repeat (go_big_quiet_step (fail))
              refine wpQuiet_nil ?_
              intro _ hw'
              obtain ⟨⟨dq, osq⟩, hw''⟩ := hw'
              subst hw''
              have hb2 := below_regrown v1 dq osq
              have k0 := r0 dq osq; have k1 := r1 dq osq
              generalize grow (redrawn v1 dq) osq = v2 at *
              clear r0 r1 d0 d1
              have hw2 := BelowOn HX.out.1 hb2
              have hA2 := HX.out.2.1.call hb2
              have hB2 := HX.out.2.2.call hb2
              clear hb2 HX
              have hst := pr_ins (a := a) (b := b) (u := u) (fun h => A2 h.2) B1n B2
              by_cases hC : E.a = -1
              · rw [hC] at k0
                have hR := HR.out
                rw [hst, if_pos hC] at hR
                simp only at hR
                obtain ⟨ad, rfl, had, x0, x1, x2⟩ := hB2.row j B1n
                have hs := HT.out (b[j]).k (b[j]).t (b[j]).id v2
                have s4 := stp_le4 b[j]
                have hee : stp ⟨(b[j]).k, (b[j]).t, (b[j]).id⟩ = stp b[j] := rfl
                rw [hee] at hs
                have HS1 := Lib.hid hs
                have HR2 := Lib.hid hR
                have HW0 := Lib.hid hw2
                generalize stp b[j] = T at *
                clear hs hR HR hst hee hw2 hA2 hB2
                go_wp2_with fail
                refine HS1.out.mono ?_; rintro e v3 ⟨rfl, hb3⟩
                have HW := Lib.hid (BelowOn HW0.out hb3)
                clear hb3 HS1 HW0 x0 x1 x2 had k0 k1
                go_wp2_with fail
                go_roundw
                case rel => exact ⟨k + 1, i, j + 1, u + T, hlt, by go_num, by simp [Int.add_assoc], by go_num, by go_num, by omega, by omega, by omega, HR2.out, HW.out⟩
                case measure => simp [intOf]; omega
              · have hst2 : prStep a b E i j u = none := by rw [hst, if_neg hC]
                have hR := HR.out
                rw [hst2] at hR
                simp only at hR
                obtain ⟨e1, e2⟩ := HNONE.out hR
                have HE := Lib.hid (And.intro e1 e2)
                have HW := Lib.hid hw2
                clear e1 e2 hR HR hw2 hA2 hB2
                go_wp2_with fail
                go_ret2
                exact ⟨by rw [HE.out.1, HE.out.2]; rfl, HW.out⟩
            · have r0 := cell_regrown d0; have r1 := cell_regrown d1
              refine wp_region_quiet_below (by kernel_rfl) (by kernel_rfl) ?_
              repeat (go_big_quiet_step (fail))
              refine wpQuiet_nil ?_
              intro _ hw'
              obtain ⟨⟨dq, osq⟩, hw''⟩ := hw'
              subst hw''
              have hb2 := below_regrown v1 dq osq
              have k0 := r0 dq osq; have k1 := r1 dq osq
              generalize grow (redrawn v1 dq) osq = v2 at *
              clear r0 r1 d0 d1
              have hw2 := BelowOn HX.out.1 hb2
              have hA2 := HX.out.2.1.call hb2
              have hB2 := HX.out.2.2.call hb2
              clear hb2 HX
              have hst2 := pr_no (a := a) (b := b) (e := E) (i := i) (j := j) (u := u) (fun h => A2 h.2) (fun h => B2 h.2)
              have hR := HR.out
              rw [hst2] at hR
              simp only at hR
              obtain ⟨e1, e2⟩ := HNONE.out hR
              have HE := Lib.hid (And.intro e1 e2)
              have HW := Lib.hid hw2
              clear e1 e2 hR HR hw2 hA2 hB2
              go_wp2_with fail
              go_ret2
              exact ⟨by rw [HE.out.1, HE.out.2]; rfl, HW.out⟩
          · have r0 := cell_regrown d0; have r1 := cell_regrown d1
            refine wp_region_quiet_below (by kernel_rfl) (by kernel_rfl) ?_
            repeat (go_big_quiet_step (fail))
            refine wpQuiet_nil ?_
            intro _ hw'
            obtain ⟨⟨dq, osq⟩, hw''⟩ := hw'
            subst hw''
            have hb2 := below_regrown v1 dq osq
            have k0 := r0 dq osq; have k1 := r1 dq osq
            generalize grow (redrawn v1 dq) osq = v2 at *
            clear r0 r1 d0 d1
            have hw2 := BelowOn HX.out.1 hb2
            have hA2 := HX.out.2.1.call hb2
            have hB2 := HX.out.2.2.call hb2
            clear hb2 HX
            have hst2 := pr_no (a := a) (b := b) (e := E) (i := i) (j := j) (u := u) (fun h => A2 h.2) (fun h => B1 (Int.ofNat_lt.2 h.1))
            have hR := HR.out
            rw [hst2] at hR
            simp only at hR
            obtain ⟨e1, e2⟩ := HNONE.out hR
            have HE := Lib.hid (And.intro e1 e2)
            have HW := Lib.hid hw2
            clear e1 e2 hR HR hw2 hA2 hB2
            go_wp2_with fail
            go_ret2
            exact ⟨by rw [HE.out.1, HE.out.2]; rfl, HW.out⟩
      · skip
        by_cases B1 : (j : Int) < (b.length : Int)
        · by_cases B2 : E.b = (j : Int)
          · have B1n : j < b.length := by omega
            rw [B2] at d1
            have r0 := cell_regrown d0; have r1 := cell_regrown d1
            refine wp_region_quiet_below (by kernel_rfl) (by kernel_rfl) ?_
            repeat (go_big_quiet_step (fail))
            refine wpQuiet_nil ?_
            intro _ hw'
            obtain ⟨⟨dq, osq⟩, hw''⟩ := hw'
            subst hw''
            have hb2 := below_regrown v1 dq osq
            have k0 := r0 dq osq; have k1 := r1 dq osq
            generalize grow (redrawn v1 dq) osq = v2 at *
            clear r0 r1 d0 d1
            have hw2 := BelowOn HX.out.1 hb2
            have hA2 := HX.out.2.1.call hb2
            have hB2 := HX.out.2.2.call hb2
            clear hb2 HX
            have hst := pr_ins (a := a) (b := b) (u := u) (fun h => A1 (Int.ofNat_lt.2 h.1)) B1n B2
            by_cases hC : E.a = -1
            · rw [hC] at k0
              have hR := HR.out
              rw [hst, if_pos hC] at hR
              simp only at hR
              obtain ⟨ad, rfl, had, x0, x1, x2⟩ := hB2.row j B1n
              have hs := HT.out (b[j]).k (b[j]).t (b[j]).id v2
              have s4 := stp_le4 b[j]
              have hee : stp ⟨(b[j]).k, (b[j]).t, (b[j]).id⟩ = stp b[j] := rfl
              rw [hee] at hs
              have HS1 := Lib.hid hs
              have HR2 := Lib.hid hR
              have HW0 := Lib.hid hw2
              generalize stp b[j] = T at *
              clear hs hR HR hst hee hw2 hA2 hB2
              go_wp2_with fail
              refine HS1.out.mono ?_; rintro e v3 ⟨rfl, hb3⟩
              have HW := Lib.hid (BelowOn HW0.out hb3)
              clear hb3 HS1 HW0 x0 x1 x2 had k0 k1
              go_wp2_with fail
              go_roundw
              case rel => exact ⟨k + 1, i, j + 1, u + T, hlt, by go_num, by simp [Int.add_assoc], by go_num, by go_num, by omega, by omega, by omega, HR2.out, HW.out⟩
              case measure => simp [intOf]; omega
            · have hst2 : prStep a b E i j u = none := by rw [hst, if_neg hC]
              have hR := HR.out
              rw [hst2] at hR
              simp only at hR
              obtain ⟨e1, e2⟩ := HNONE.out hR
              have HE := Lib.hid (And.intro e1 e2)
              have HW := Lib.hid hw2
              clear e1 e2 hR HR hw2 hA2 hB2
              go_wp2_with fail
              go_ret2
              exact ⟨by rw [HE.out.1, HE.out.2]; rfl, HW.out⟩
          · have r0 := cell_regrown d0; have r1 := cell_regrown d1
            refine wp_region_quiet_below (by kernel_rfl) (by kernel_rfl) ?_
            repeat (go_big_quiet_step (fail))
            refine wpQuiet_nil ?_
            intro _ hw'
            obtain ⟨⟨dq, osq⟩, hw''⟩ := hw'
            subst hw''
            have hb2 := below_regrown v1 dq osq
            have k0 := r0 dq osq; have k1 := r1 dq osq
            generalize grow (redrawn v1 dq) osq = v2 at *
            clear r0 r1 d0 d1
            have hw2 := BelowOn HX.out.1 hb2
            have hA2 := HX.out.2.1.call hb2
            have hB2 := HX.out.2.2.call hb2
            clear hb2 HX
            have hst2 := pr_no (a := a) (b := b) (e := E) (i := i) (j := j) (u := u) (fun h => A1 (Int.ofNat_lt.2 h.1)) (fun h => B2 h.2)
            have hR := HR.out
            rw [hst2] at hR
            simp only at hR
            obtain ⟨e1, e2⟩ := HNONE.out hR
            have HE := Lib.hid (And.intro e1 e2)
            have HW := Lib.hid hw2
            clear e1 e2 hR HR hw2 hA2 hB2
            go_wp2_with fail
            go_ret2
            exact ⟨by rw [HE.out.1, HE.out.2]; rfl, HW.out⟩
        · have r0 := cell_regrown d0; have r1 := cell_regrown d1
          refine wp_region_quiet_below (by kernel_rfl) (by kernel_rfl) ?_
          repeat (go_big_quiet_step (fail))
          refine wpQuiet_nil ?_
          intro _ hw'
          obtain ⟨⟨dq, osq⟩, hw''⟩ := hw'
          subst hw''
          have hb2 := below_regrown v1 dq osq
          have k0 := r0 dq osq; have k1 := r1 dq osq
          generalize grow (redrawn v1 dq) osq = v2 at *
          clear r0 r1 d0 d1
          have hw2 := BelowOn HX.out.1 hb2
          have hA2 := HX.out.2.1.call hb2
          have hB2 := HX.out.2.2.call hb2
          clear hb2 HX
          have hst2 := pr_no (a := a) (b := b) (e := E) (i := i) (j := j) (u := u) (fun h => A1 (Int.ofNat_lt.2 h.1)) (fun h => B1 (Int.ofNat_lt.2 h.1))
          have hR := HR.out
          rw [hst2] at hR
          simp only at hR
          obtain ⟨e1, e2⟩ := HNONE.out hR
          have HE := Lib.hid (And.intro e1 e2)
          have HW := Lib.hid hw2
          clear e1 e2 hR HR hw2 hA2 hB2
          go_wp2_with fail
          go_ret2
          exact ⟨by rw [HE.out.1, HE.out.2]; rfl, HW.out⟩
    · obtain rfl : k = S.length := by omega
      rw [List.drop_length, prRun] at hR
      have HB1 := Lib.hid hB1
      clear hB1
      by_cases F1 : (i : Int) < (a.length : Int)
      · obtain ⟨e1, e2⟩ := HSHORT.out _ _ _ hR (.inl (by omega))
        have HE := Lib.hid (And.intro e1 e2)
        clear e1 e2 hR
        go_wp2_with fail
        go_ret2
        exact ⟨by rw [HE.out.1, HE.out.2]; rfl, HB1.out⟩
      · by_cases F2 : (j : Int) < (b.length : Int)
        · obtain ⟨e1, e2⟩ := HSHORT.out _ _ _ hR (.inr (by omega))
          have HE := Lib.hid (And.intro e1 e2)
          clear e1 e2 hR
          go_wp2_with fail
          go_ret2
          exact ⟨by rw [HE.out.1, HE.out.2]; rfl, HB1.out⟩
        · obtain ⟨e1, e2⟩ := HSOME.out _ _ _ hR (by omega)
          have HE := Lib.hid (And.intro e1 e2)
          clear e1 e2 hR
          go_wp2_with fail
          go_ret2
          exact ⟨by rw [HE.out.1, HE.out.2]; simp, HB1.out⟩
end Go.Proofs.Ytpkipdiecnokhaa
namespace Go.Proofs.Ytpkipdiecnokhaa
open Go.ChangeShapes Go.WideShapes Go.ChangeAt Go.RowKit Go.Sort
set_option linter.unusedVariables false
set_option linter.unusedSimpArgs false
set_option maxRecDepth 100000

theorem Pth.app {p1 : List Mv} {a1 b1 : List It} {n1 : Nat} (h : Pth p1 a1 b1 n1) {p2 : List Mv} {a2 b2 : List It} {n2 : Nat} (k : Pth p2 a2 b2 n2) : Pth (p1 ++ p2) (a1 ++ a2) (b1 ++ b2) (n1 + n2) := by
  induction h with
  | nil => rw [Nat.zero_add]; exact k
  | X x _ ih => rw [Nat.add_assoc]; exact .X x ih
  | I y _ ih => rw [Nat.add_assoc]; exact .I y ih
  | P ho _ ih => rw [Nat.add_assoc]; exact .P ho ih
/-- A path up to the i-th and the j-th token, and its script. -/
structure PS (A B : List It) (i j : Nat) (S : List Ed) : Prop where
  path : ∃ P n, Pth P (A.take i) (B.take j) n ∧ S = edM P 0 0
  li : i ≤ A.length
  lj : j ≤ B.length
  sl : S.length ≤ i + j
theorem PS.zero (A B : List It) : PS A B 0 0 [] := ⟨⟨[], 0, .nil, rfl⟩, Nat.zero_le _, Nat.zero_le _, Nat.zero_le _⟩
theorem PS.pair {A B : List It} {i j : Nat} {S : List Ed} (h : PS A B i j S) (hi : i < A.length) (hj : j < B.length) (ho : okP A[i] B[j] = true) : PS A B (i + 1) (j + 1) (S ++ [⟨i, j⟩]) := by
  obtain ⟨P, n, hp, rfl⟩ := h.path
  refine ⟨⟨P ++ [.P], n + (cst A[i] B[j] + 0), ?_, ?_⟩, hi, hj, by have := h.sl; rw [List.length_append]; simp; omega⟩
  · rw [List.take_succ_eq_append_getElem hi, List.take_succ_eq_append_getElem hj]; exact hp.app (.P ho .nil)
  · rw [edM_app hp]; simp [edM, Nat.min_eq_left h.li, Nat.min_eq_left h.lj]
theorem PS.del {A B : List It} {i j : Nat} {S : List Ed} (h : PS A B i j S) (hi : i < A.length) : PS A B (i + 1) j (S ++ [⟨i, -1⟩]) := by
  obtain ⟨P, n, hp, rfl⟩ := h.path
  refine ⟨⟨P ++ [.X], n + (stp A[i] + 0), ?_, ?_⟩, hi, h.lj, by have := h.sl; rw [List.length_append]; simp; omega⟩
  · rw [List.take_succ_eq_append_getElem hi]; have := hp.app (Pth.X A[i] .nil); rwa [List.append_nil] at this
  · rw [edM_app hp]; simp [edM, Nat.min_eq_left h.li]
theorem PS.ins {A B : List It} {i j : Nat} {S : List Ed} (h : PS A B i j S) (hj : j < B.length) : PS A B i (j + 1) (S ++ [⟨-1, j⟩]) := by
  obtain ⟨P, n, hp, rfl⟩ := h.path
  refine ⟨⟨P ++ [.I], n + (stp B[j] + 0), ?_, ?_⟩, h.li, hj, by have := h.sl; rw [List.length_append]; simp; omega⟩
  · rw [List.take_succ_eq_append_getElem hj]; have := hp.app (Pth.I B[j] .nil); rwa [List.append_nil] at this
  · rw [edM_app hp]; simp [edM, Nat.min_eq_left h.lj]
theorem PS.price {A B : List It} {S : List Ed} (h : PS A B A.length B.length S) : prB A B S = true ∧ dis A B ≤ prO A B S := by
  obtain ⟨P, n, hp, rfl⟩ := h.path
  rw [List.take_length, List.take_length] at hp
  obtain ⟨h1, h2⟩ := prc_path hp
  refine ⟨h2, ?_⟩
  rw [h1]
  have := dst_al hp.al
  unfold dis; omega
theorem align_price (A B : List It) : prO A B (scr 0 0 A B) = dis A B ∧ prB A B (scr 0 0 A B) = true := by
  obtain ⟨h1, h2⟩ := prc_path (can_pth A B)
  refine ⟨?_, h2⟩
  unfold scr
  rw [h1]
  unfold dis; omega
theorem own_eds {base : Nat} {S : List Ed} {v : Value} {W : World} (h : OwnE base S v W) : ∃ p c, v = .slice p S.length c ∧ S.length ≤ c ∧ c ≤ maxLen ∧ Eds W p S := by
  rcases h.2 with ⟨hv, h0⟩ | ⟨g, cap, cur, hv, hg, hh, hn, hm, hs, ht⟩
  · have : S = [] := List.length_eq_zero_iff.1 h0
    subst this
    exact ⟨none, 0, hv, Nat.le_refl _, Nat.zero_le _, Rw.nil _ _⟩
  · refine ⟨some ⟨g, 0, none⟩, cap, hv, hn, hm, fun _ => ⟨g, 0, rfl, ?_, fun i hi => ?_⟩⟩
    · rcases Nat.lt_or_ge g W.heap.size with hlt | hge
      · exact hlt
      · rw [Array.getElem?_eq_none hge] at hh; cases hh
    · have hc := World.ownsRow.cells h (g := g) (by rw [hv]; rfl)
      intro j u hu
      rw [Nat.zero_add]
      have ad : (⟨g, 0, none⟩ : Addr).add (i * 2 + j) = ⟨g, i * 2 + j, none⟩ := by unfold Addr.add; split <;> simp_all
      rw [← ad]
      refine hc _ _ ?_
      have key : ∀ (L : List Ed) (i : Nat) (hi : i < L.length), (eenc (L[i]'hi))[j]? = some u → (cellsOf eenc L)[i * 2 + j]? = some u := by
        intro L
        induction L with
        | nil => intro i hi; cases hi
        | cons x L ih =>
          intro i hi hv
          unfold cellsOf at ih ⊢
          rw [List.flatMap_cons]
          have hj : j < 2 := (List.getElem?_eq_some_iff.1 hu).1
          have e2 : ∀ x : Ed, (eenc x).length = 2 := fun _ => rfl
          cases i with
          | zero => rw [List.getElem?_append_left (by rw [e2]; omega), Nat.zero_mul, Nat.zero_add]; exact hv
          | succ i => rw [List.getElem?_append_right (by rw [e2]; omega), e2, show (i + 1) * 2 + j - 2 = i * 2 + j by omega]; exact ih i (by simpa using hi) hv
      exact key S i hi hu
/-- All that the law's loop carries. -/
structure AF (w : World) (base bN : Nat) (pa pb : Option Addr) (ca cb : Nat) (A B : List It) (pn : Option Addr) (cn : Nat) (L : List Int) (S : List Ed) (v : Value) (m : Nat) (W : World) : Prop where
  nm : NumsAt W bN pn cn L m
  da : Dr W pa ca A
  db : Dr W pb cb B
  la : 0 < A.length → ∀ x, pa = some x → x.block < bN
  lb : 0 < B.length → ∀ x, pb = some x → x.block < bN
  ln : 0 < L.length → ∀ x, pn = some x → x.block < bN
  hb : bN < base
  sz : base ≤ W.heap.size
  bw : Below w.heap.size w W
  own : OwnE base S v W
  w0 : w.heap.size ≤ bN
variable {w : World} {base bN : Nat} {pa pb : Option Addr} {ca cb : Nat} {A B : List It} {pn : Option Addr} {cn : Nat} {L : List Int} {S : List Ed} {v : Value} {m : Nat} {W W' : World}
theorem AF.call (h : AF w base bN pa pb ca cb A B pn cn L S v m W) (hb : Below W.heap.size W W') : AF w base bN pa pb ca cb A B pn cn L S v m W' :=
  ⟨h.nm.call hb, h.da.call hb, h.db.call hb, h.la, h.lb, h.ln, h.hb, Nat.le_trans h.sz hb.size, BelowOn h.bw hb, OwnL.call h.own hb, h.w0⟩
theorem AF.next (h : AF w base bN pa pb ca cb A B pn cn L S v m W) (hg : W.grownBy W' (some bN)) (hn : NumsAt W' bN pn cn L (m + 1)) : AF w base bN pa pb ca cb A B pn cn L S v (m + 1) W' :=
  ⟨hn, ⟨fun h0 => (Its.other h.da.its hg (fun a ha => by have := h.la h0 a ha; omega)) h0, h.da.le, h.da.cm, h.da.len, h.da.txt⟩, ⟨fun h0 => (Its.other h.db.its hg (fun a ha => by have := h.lb h0 a ha; omega)) h0, h.db.le, h.db.cm, h.db.len, h.db.txt⟩,
    h.la, h.lb, h.ln, h.hb, Nat.le_trans h.sz hg.size, below_of_grow h.bw hg h.bw.size h.w0,
    ownsRow_same h.own (fun i hi => hg.block i (World.ownsRow.lt h.own i hi).2 (fun e => by injection e with e; have := (World.ownsRow.lt h.own i hi).1; have := h.hb; omega)), h.w0⟩
theorem AF.push (h : AF w base bN pa pb ca cb A B pn cn L S v m W) {S' : List Ed} {v' : Value} (hb : Below base W W') (ho : OwnE base S' v' W') : AF w base bN pa pb ca cb A B pn cn L S' v' m W' :=
  ⟨⟨(hb.block bN h.hb).trans h.nm.hh, ones_keep h.nm.ones hb.size (fun h0 a ha => hb.block _ (Nat.lt_trans (h.ln h0 a ha) h.hb)), h.nm.ap, h.nm.wf, h.nm.le, h.nm.cm⟩,
    ⟨fun h0 => (Its.under h.da.its hb (fun a ha => Nat.lt_trans (h.la h0 a ha) h.hb)) h0, h.da.le, h.da.cm, h.da.len, h.da.txt⟩, ⟨fun h0 => (Its.under h.db.its hb (fun a ha => Nat.lt_trans (h.lb h0 a ha) h.hb)) h0, h.db.le, h.db.cm, h.db.len, h.db.txt⟩,
    h.la, h.lb, h.ln, h.hb, Nat.le_trans h.sz hb.size, h.bw.trans (hb.mono (Nat.le_of_lt (Nat.lt_of_le_of_lt h.w0 h.hb))), ho, h.w0⟩
end Go.Proofs.Ytpkipdiecnokhaa
namespace Go.Proofs.Ytpkipdiecnokhaa
open Go.ChangeShapes Go.WideShapes Go.ChangeAt Go.RowKit
set_option linter.unusedVariables false
set_option maxRecDepth 100000
theorem undEd : ∃ f0 f1 : Field, Try.prog.underlying 45 = some (.struct #[f0, f1]) ∧ f0.type = 3 ∧ f1.type = 3 ∧ f0.offset = 0 ∧ f1.offset = 1 := ⟨_, _, Try.underlying45, rfl, rfl, rfl, rfl⟩
theorem cellsEd : Try.prog.cellsOf 45 = 2 := by kernel_rfl
section
variable {H : Type} {enc : TypeId × Value → H} {W : World} {base : Nat} {sp : Nat → Bool} {held : Bool}
theorem read_ed {fuel : Nat} {cs : List Value} {x : DataW H × List MemPlace} (h : DataW.trod enc Try.prog W base sp held fuel 45 cs = some x) :
    ∃ y : Ed, cs = [.int .i64 y.a, .int .i64 y.b] := by
  obtain ⟨f0, f1, hu, t0, t1, o0, o1⟩ := undEd
  obtain ⟨xs, n, _, hx, hl, hxl, hf⟩ := DataW.trod_struct hu h
  rw [cellsEd] at hl
  match xs, hxl, cs, hl with
  | [y0, y1], _, [v0, v1], _ =>
    have g0 := hf 0 f0 rfl
    have g1 := hf 1 f1 rfl
    rw [t0, o0, cells3] at g0
    rw [t1, o1, cells3] at g1
    simp at g0 g1
    obtain ⟨a, e0, d0, w0⟩ := DataW.trod_int Try.underlying3 g0
    obtain ⟨b, e1, d1, w1⟩ := DataW.trod_int Try.underlying3 g1
    simp only [List.cons.injEq, and_true] at e0 e1
    exact ⟨⟨a, b⟩, by rw [e0, e1]⟩
theorem opened_eds {v : Value} {d : DataW H} {p : List MemPlace} {b0 : Nat} (hv : Value.okWide Try.prog W .any b0 43 v) (h : DataW.Trod enc Try.prog W base (fun _ => true) held 43 v d p) :
    ∃ (p : Option Addr) (cap : Nat) (l : List Ed), v = .slice p l.length cap ∧ l.length ≤ cap ∧ cap ≤ maxLen ∧ Eds W p l := by
  obtain ⟨a0, len, cap, rfl⟩ := okWide_slice Try.underlying43 hv
  obtain ⟨fuel, hf⟩ := h
  rcases Go.Deep.open_slice Try.underlying43 hf with ⟨hcs, _⟩ | ⟨a, len', cap', m, n, D, Pl, hcs, _, hl, hm, hmm, hd, hx⟩
  · simp [Value.cells] at hcs
    obtain ⟨rfl, rfl, rfl⟩ := hcs
    exact ⟨none, 0, [], rfl, Nat.le_refl _, Nat.zero_le _, Rw.nil _ _⟩
  · simp [Value.cells] at hcs
    obtain ⟨rfl, rfl, rfl⟩ := hcs
    have hlm : len ≤ m := by rw [hmm]; simp; exact hl
    have each : ∀ i, ∃ y : Ed, i < len → W.cell? (a.add (i * 2)) = some (.int .i64 y.a) ∧ W.cell? (a.add (i * 2 + 1)) = some (.int .i64 y.b) := fun i => by
      by_cases hi : i < len
      · obtain ⟨cs', h1, h2⟩ := hx i (by omega)
        obtain ⟨y, rfl⟩ := read_ed h2
        rw [cellsEd] at h1
        obtain ⟨_, _, hcell⟩ := World.cells?_some h1
        have e0 := hcell 0 (by omega)
        have e1 := hcell 1 (by omega)
        rw [Go.Deep.add_add] at e0 e1
        exact ⟨y, fun _ => ⟨by simpa using e0, by simpa using e1⟩⟩
      · exact ⟨⟨0, 0⟩, fun h => absurd h hi⟩
    obtain ⟨f, hf⟩ := Classical.axiomOfChoice each
    refine ⟨some a, cap, (List.range len).map f, by simp, by simpa using hl, hm, fun h0 => ?_⟩
    have h00 : 0 < len := by simpa using h0
    have hb := World.block_lt_of_cell? W _ (hf 0 h00).1
    have hsp : a.spot = none := by
      have := (hf 0 h00).1
      rw [Nat.zero_mul] at this
      have h2 := World.cell?_spot this
      simpa [Addr.add] using h2
    have hae : a = ⟨a.block, a.off, none⟩ := by rw [← hsp]
    have had : ∀ n, a.add n = ⟨a.block, a.off + n, none⟩ := fun n => by
      rw [hae]; unfold Addr.add; split
      · rename_i e; rw [e]; rfl
      · rfl
    refine ⟨a.block, a.off, by rw [← hae], by simpa [add_block] using hb, fun i hi => ?_⟩
    have hi' : i < len := by simpa using hi
    obtain ⟨c0, c1⟩ := hf i hi'
    rw [had] at c0 c1
    intro j u hu
    simp only [List.getElem_map, List.getElem_range] at hu
    match j, hu with
    | 0, hu => simp [eenc] at hu; subst hu; exact c0
    | 1, hu => simp [eenc] at hu; subst hu; rw [Nat.add_assoc]; exact c1
    | j + 2, hu => simp [eenc] at hu
end
/-- An owned script that is not empty fills a row of its own. -/
theorem own_rowg {base : Nat} {S : List Ed} {v : Value} {W : World} (h : OwnE base S v W) (h0 : 0 < S.length) : ∃ g c, v = .slice (some ⟨g, 0, none⟩) S.length c ∧ base ≤ g ∧ S.length ≤ c ∧ c ≤ maxLen ∧ RowG eenc 45 2 g S W := by
  obtain ⟨p, c', he, h1, h2, hE⟩ := own_eds h
  rcases h.2 with ⟨hv, hz⟩ | ⟨g, cap, cur, hv, hg, hh, hn, hm, hs, ht⟩
  · omega
  · rw [hv] at he
    injection he with e1 e2 e3
    obtain ⟨b, o, e, hlt, hc⟩ := hE h0
    rw [← e1] at e
    injection e with e
    injection e with e4 e5
    subst e4; subst e5
    exact ⟨g, cap, hv, hg, hn, hm, ⟨⟨cur, hh⟩, fun i hi => by have := hc i hi; rwa [Nat.zero_add] at this, fun _ => rfl⟩⟩
theorem set_fst {S : List Ed} (j : Nat) (x : Int) (hj : j < S.length) : eenc ⟨x, (S[j]'hj).b⟩ = (eenc (S[j]'hj)).set 0 (.int .i64 x) := rfl
end Go.Proofs.Ytpkipdiecnokhaa
namespace Go.Proofs.Ytpkipdiecnokhaa
open Go.ChangeShapes Go.WideShapes Go.ChangeAt Go.RowKit Go.Sort
set_option linter.unusedVariables false
set_option linter.unusedSimpArgs false
set_option maxRecDepth 100000

theorem sumT_one (K : List Tg) (x : Tg) (hK : K.Nodup) (hx : x ∈ K) : sumT K (fun y => if x = y then 1 else 0) = 1 := by
  rw [sumT_erase K x hx, if_pos rfl, sumT_zero]
  intro y hy
  rw [if_neg]
  intro e; subst e; exact (hK.mem_erase_iff.1 hy).1 rfl
theorem sumT_count (T : List Tg) : ∀ (K : List Tg), K.Nodup → (∀ y ∈ T, y ∈ K) → sumT K (fun y => T.count y) = T.length := by
  induction T with
  | nil => intro K _ _; exact sumT_zero _ _ fun y _ => rfl
  | cons x T ih =>
    intro K hK h
    have h1 := ih K hK (fun y hy => h y (List.mem_cons_of_mem _ hy))
    have h2 := sumT_one K x hK (h x (List.mem_cons_self ..))
    rw [List.length_cons, ← h1, ← h2, ← sumT_add]
    refine sumT_congr _ _ _ fun y _ => ?_
    rw [List.count_cons]
    by_cases e : x = y
    · subst e; simp
    · rw [if_neg e, if_neg (by simpa using e)]
theorem sumT_cnt (l : List It) (K : List Tg) (hK : K.Nodup) (h : ∀ y ∈ tkeys l, y ∈ K) : sumT K (cntN l) = (tkeys l).length := sumT_count (tkeys l) K hK h
/-- The weight of what is no tag. -/
def nwL : List It → Nat
  | [] => 0
  | x :: l => (if isT x.k = true then 0 else wtT x.k) + nwL l
theorem nwL_app (l m : List It) : nwL (l ++ m) = nwL l + nwL m := by
  induction l with
  | nil => simp [nwL]
  | cons x l ih => rw [List.cons_append, nwL, nwL, ih]; omega
theorem nwL_next (l : List It) (k : Nat) (h : k < l.length) : nwL (l.take (k + 1)) = nwL (l.take k) + (if isT (l[k]'h).k = true then 0 else wtT (l[k]'h).k) := by
  rw [List.take_succ_eq_append_getElem h, nwL_app]; simp [nwL]
theorem nwL_le (l : List It) : nwL l ≤ 4 * l.length := by
  induction l with
  | nil => exact Nat.zero_le _
  | cons x l ih => rw [nwL, List.length_cons]; have := wtT_le x.k; split <;> omega
theorem stL_parts (l : List It) : stL l = nwL l + (tkeys l).length := by
  induction l with
  | nil => rfl
  | cons x l ih =>
    rw [stL, nwL, ih, show x :: l = [x] ++ l from rfl, tkeys_append, List.length_append]
    cases q : isT x.k with
    | true => rw [tkeys_one x q]; unfold stp; rw [q]; simp; omega
    | false => rw [tkeys_none x q]; unfold stp; rw [q]; simp; omega
theorem stL_app (l m : List It) : stL (l ++ m) = stL l + stL m := by
  induction l with
  | nil => simp [stL]
  | cons x l ih => rw [List.cons_append, stL, stL, ih]; omega
def hT (D I : List It) (y : Tg) : Nat := cntN D y + cntN I y + 2 * dif D I y
theorem hT_le (D I : List It) (y : Tg) : hT D I y ≤ 3 * (D.length + I.length) := by
  have h1 := cntN_le D y; have h2 := cntN_le I y
  unfold hT dif; omega
def q1 (D I : List It) (s : Nat) : Nat := nwL (D.take s) + sumT (uL (D.take s)) (hT D I)
def q2 (D I : List It) (s : Nat) : Nat := nwL (I.take s) + sumT (vL D (I.take s)) (hT D I)
theorem q1_le (D I : List It) (s : Nat) (hD : D.length ≤ 100) (hI : I.length ≤ 100) : q1 D I s ≤ 100000 := by
  unfold q1
  have h1 := nwL_le (D.take s)
  have h2 := sumT_bd (uL (D.take s)) (hT D I) 600 (fun y => by have := hT_le D I y; omega)
  have h3 := uL_len (D.take s)
  have h4 : (D.take s).length ≤ 100 := by simp; omega
  have h5 : (uL (D.take s)).length * 600 ≤ 100 * 600 := Nat.mul_le_mul_right _ (by omega)
  omega
theorem q2_le (D I : List It) (s : Nat) (hD : D.length ≤ 100) (hI : I.length ≤ 100) : q2 D I s ≤ 100000 := by
  unfold q2
  have h1 := nwL_le (I.take s)
  have h2 := sumT_bd (vL D (I.take s)) (hT D I) 600 (fun y => by have := hT_le D I y; omega)
  have h3 : (vL D (I.take s)).length ≤ (I.take s).length := Nat.le_trans (List.length_filter_le _ _) (uL_len _)
  have h4 : (I.take s).length ≤ 100 := by simp; omega
  have h5 : (vL D (I.take s)).length * 600 ≤ 100 * 600 := Nat.mul_le_mul_right _ (by omega)
  omega
theorem q1_tag0 (D I : List It) (s : Nat) (h : s < D.length) (ht : isT (D[s]'h).k = true) (hz : tmsR (D.take s) (D[s]'h) = 0) : q1 D I (s + 1) = q1 D I s + (2 * min (tmsR D (D[s]'h)) (tmsR I (D[s]'h)) + 3 * (max (tmsR D (D[s]'h)) (tmsR I (D[s]'h)) - min (tmsR D (D[s]'h)) (tmsR I (D[s]'h)))) := by
  unfold q1
  rw [nwL_next D s h, uL_next D s h, if_pos ht]
  have e : tkey D[s] ∉ uL (D.take s) := by rw [uL_mem]; exact (tms_zero _ _ ht).1 hz
  unfold uK; rw [if_pos ⟨ht, e⟩, sumT_app, sumT_cons, sumT_nil, tmsR_cnt _ _ ht, tmsR_cnt _ _ ht]
  unfold hT dif; omega
theorem q1_tag1 (D I : List It) (s : Nat) (h : s < D.length) (ht : isT (D[s]'h).k = true) (hz : ¬ tmsR (D.take s) (D[s]'h) = 0) : q1 D I (s + 1) = q1 D I s := by
  unfold q1
  rw [nwL_next D s h, uL_next D s h, if_pos ht]
  have e : ¬ tkey D[s] ∉ uL (D.take s) := fun c => hz ((tms_zero _ _ ht).2 (by rw [← uL_mem]; exact c))
  unfold uK; rw [if_neg (fun c => e c.2)]; omega
theorem q1_non (D I : List It) (s : Nat) (h : s < D.length) (ht : isT (D[s]'h).k = false) : q1 D I (s + 1) = q1 D I s + wtT (D[s]'h).k := by
  unfold q1
  rw [nwL_next D s h, uL_next D s h, if_neg (by rw [ht]; simp)]
  unfold uK; rw [if_neg (fun c => by rw [ht] at c; cases c.1)]; omega
theorem q2_tag0 (D I : List It) (s : Nat) (h : s < I.length) (ht : isT (I[s]'h).k = true) (hz : tmsR (I.take s) (I[s]'h) = 0) (hd : tmsR D (I[s]'h) = 0) : q2 D I (s + 1) = q2 D I s + 3 * tmsR I (I[s]'h) := by
  unfold q2 vL
  rw [nwL_next I s h, uL_next I s h, if_pos ht]
  have e : tkey I[s] ∉ uL (I.take s) := by rw [uL_mem]; exact (tms_zero _ _ ht).1 hz
  have e2 := (tms_zero D _ ht).1 hd
  unfold uK; rw [if_pos ⟨ht, e⟩, List.filter_append, sumT_app, List.filter_cons, if_pos (by simpa using e2), List.filter_nil, sumT_cons, sumT_nil]
  rw [tmsR_cnt _ _ ht] at hd
  rw [tmsR_cnt _ _ ht]
  unfold hT dif; omega
theorem q2_tag1 (D I : List It) (s : Nat) (h : s < I.length) (ht : isT (I[s]'h).k = true) (hz : ¬ (tmsR (I.take s) (I[s]'h) = 0 ∧ tmsR D (I[s]'h) = 0)) : q2 D I (s + 1) = q2 D I s := by
  unfold q2 vL
  rw [nwL_next I s h, uL_next I s h, if_pos ht]
  unfold uK
  by_cases e : tkey I[s] ∉ uL (I.take s)
  · have hz1 : tmsR (I.take s) I[s] = 0 := (tms_zero _ _ ht).2 (by rw [← uL_mem]; exact e)
    have hd : ¬ tkey I[s] ∉ tkeys D := fun c => hz ⟨hz1, (tms_zero D _ ht).2 c⟩
    rw [if_pos ⟨ht, e⟩, List.filter_append, sumT_app, List.filter_cons, if_neg (by simpa using hd), List.filter_nil, sumT_nil]; omega
  · rw [if_neg (fun c => e c.2)]; omega
theorem q2_non (D I : List It) (s : Nat) (h : s < I.length) (ht : isT (I[s]'h).k = false) : q2 D I (s + 1) = q2 D I s + wtT (I[s]'h).k := by
  unfold q2 vL
  rw [nwL_next I s h, uL_next I s h, if_neg (by rw [ht]; simp)]
  unfold uK; rw [if_neg (fun c => by rw [ht] at c; cases c.1)]; omega
theorem sumT_hT (D I : List It) (K : List Tg) : sumT K (hT D I) = sumT K (cntN D) + sumT K (cntN I) + 2 * sumT K (dif D I) := by
  induction K with
  | nil => rfl
  | cons x K ih => rw [sumT_cons, sumT_cons, sumT_cons, sumT_cons, ih]; unfold hT; omega
theorem q_total (D I : List It) : q1 D I D.length + q2 D I I.length = stL D + stL I + 2 * sur D I := by
  unfold q1 q2
  rw [List.take_length, List.take_length, stL_parts, stL_parts]
  have hn : (uL D ++ vL D I).Nodup := by
    rw [List.nodup_append]
    refine ⟨uL_nodup D, (uL_nodup I).filter _, fun x hx y hy e => ?_⟩
    subst e
    have h1 := (List.mem_filter.1 hy).2
    have h2 : x ∉ tkeys D := by simpa using h1
    exact h2 ((uL_mem D x).1 hx)
  have hD : ∀ y ∈ tkeys D, y ∈ uL D ++ vL D I := fun y hy => List.mem_append.2 (.inl ((uL_mem D y).2 hy))
  have hI : ∀ y ∈ tkeys I, y ∈ uL D ++ vL D I := fun y hy => by
    by_cases h : y ∈ tkeys D
    · exact hD y h
    · exact List.mem_append.2 (.inr (List.mem_filter.2 ⟨(uL_mem I y).2 hy, by simpa using h⟩))
  have e1 := sumT_cnt D _ hn hD
  have e2 := sumT_cnt I _ hn hI
  have e3 := sur_any (uL D ++ vL D I) D I hn (fun y hy => by
    have := dif_in D I y hy
    unfold surK at this
    rw [mem_uniq, List.mem_append] at this
    exact this.elim (hD y) (hI y))
  have e4 := sumT_hT D I (uL D ++ vL D I)
  rw [sumT_app] at e4
  omega
theorem cnt_pair {x y : It} (h : okP x y = true) (z : Tg) : cntN [x] z = cntN [y] z := by
  rcases (okP_iff x y).1 h with g | g
  · unfold cntN
    cases q : isT x.k with
    | true => rw [tkeys_one x q, tkeys_one y (by rw [← g.1]; exact q), (tkey_sm x y).2 ((sm_iff x y).2 g)]
    | false => rw [tkeys_none x q, tkeys_none y (by rw [← g.1]; exact q)]
  · have q : isT x.k = false := by rw [isT_eq]; simp; omega
    unfold cntN; rw [tkeys_none x q, tkeys_none y (by rw [← g.1]; exact q)]
/-- The tags that were treated are those that were paired, and those of the two lists. -/
def Bal (a b D I : List It) (i k : Nat) : Prop := ∀ y, cntN (a.take i) y + cntN I y = cntN (b.take k) y + cntN D y
theorem Bal.zero (a b : List It) : Bal a b [] [] 0 0 := fun y => rfl
theorem Bal.ins {a b D I : List It} {i k : Nat} (h : Bal a b D I i k) (hk : k < b.length) : Bal a b D (I ++ [b[k]'hk]) i (k + 1) := fun y => by
  have := h y
  rw [List.take_succ_eq_append_getElem hk, cntN_append, cntN_append]; omega
theorem Bal.del {a b D I : List It} {i k : Nat} (h : Bal a b D I i k) (hi : i < a.length) : Bal a b (D ++ [a[i]'hi]) I (i + 1) k := fun y => by
  have := h y
  rw [List.take_succ_eq_append_getElem hi, cntN_append, cntN_append]; omega
theorem Bal.pair {a b D I : List It} {i k : Nat} (h : Bal a b D I i k) (hi : i < a.length) (hk : k < b.length) (ho : okP (a[i]'hi) (b[k]'hk) = true) : Bal a b D I (i + 1) (k + 1) := fun y => by
  have := h y
  rw [List.take_succ_eq_append_getElem hi, List.take_succ_eq_append_getElem hk, cntN_append, cntN_append, cnt_pair ho y]; omega
theorem Bal.sur {a b D I : List It} (h : Bal a b D I a.length b.length) : sur a b = sur D I := sur_dif _ _ _ _ fun y => by
  have := h y
  rw [List.take_length, List.take_length] at this
  unfold dif; omega
theorem prStep_none {a b : List It} {e : Ed} {i j u : Nat} (h1 : ¬ (j < b.length ∧ e.b = (j : Int) ∧ e.a = -1)) (h2 : ¬ (i < a.length ∧ e.a = (i : Int) ∧ e.b = -1)) (h3 : ¬ (i < a.length ∧ e.a = (i : Int) ∧ j < b.length ∧ e.b = (j : Int))) : prStep a b e i j u = none := by
  unfold prStep
  split
  · rename_i hA
    split
    · rename_i hB; exact absurd ⟨hA.1, hA.2, hB.1, hB.2⟩ h3
    · rw [if_neg (fun c => h2 ⟨hA.1, hA.2, c⟩)]
  · split
    · rename_i hB; rw [if_neg (fun c => h1 ⟨hB.1, hB.2, c⟩)]
    · rfl
/-- Two lists of tokens that the call owns. -/
structure PrR (w : World) (D I : List It) (vd vi : Value) (W : World) : Prop where
  below : Below w.heap.size w W
  d : OwnT w.heap.size D vd W
  i : OwnT w.heap.size I vi W
  ne : ∀ k, vd.ownBlock = some k → vi.ownBlock ≠ some k
section
variable {w W W' : World} {D I : List It} {vd vi : Value}
theorem PrR.call (h : PrR w D I vd vi W) (hb : Below W.heap.size W W') : PrR w D I vd vi W' := ⟨BelowOn h.below hb, h.d.call hb, h.i.call hb, h.ne⟩
theorem PrR.pushI (h : PrR w D I vd vi W) {I' : List It} {g n c : Nat} (hown : OwnT w.heap.size I' (.slice (some ⟨g, 0, none⟩) n c) W') (hgr : W.grownBy W' vi.ownBlock) (hloc : vi.ownBlock = some g ∨ g = W.heap.size) : PrR w D I' vd (.slice (some ⟨g, 0, none⟩) n c) W' := by
  refine ⟨h.below.grown hgr h.below.size (fun j hj => (h.i.lt j hj).1), h.d.keepAt (fun k e => hgr.block k (h.d.lt k e).2 (fun e2 => h.ne k e e2.symm)), hown, fun k hk e => ?_⟩
  have e' : g = k := by simpa [Value.ownBlock] using e
  subst e'
  rcases hloc with h1 | h1
  · exact h.ne _ hk h1
  · have := (h.d.lt _ hk).2; omega
theorem PrR.pushD (h : PrR w D I vd vi W) {D' : List It} {g n c : Nat} (hown : OwnT w.heap.size D' (.slice (some ⟨g, 0, none⟩) n c) W') (hgr : W.grownBy W' vd.ownBlock) (hloc : vd.ownBlock = some g ∨ g = W.heap.size) : PrR w D' I (.slice (some ⟨g, 0, none⟩) n c) vi W' := by
  have hs : PrR w I D vi vd W := ⟨h.below, h.i, h.d, fun k h1 h2 => h.ne k h2 h1⟩
  have hp := hs.pushI hown hgr hloc
  exact ⟨hp.below, hp.i, hp.d, fun k h1 h2 => hp.ne k h2 h1⟩
end
end Go.Proofs.Ytpkipdiecnokhaa
namespace Go.Proofs.Ytpkipdiecnokhaa
open Go.ChangeShapes Go.WideShapes Go.ChangeAt Go.RowKit Go.Sort
set_option linter.unusedVariables false
set_option linter.unusedSimpArgs false
set_option maxRecDepth 100000

set_option maxHeartbeats 25600000 in
theorem rprice_any (p q r : Option Addr) (c d f : Nat) (a b : List It) (S : List Ed) (w : World) (hA : Its w p a) (hB : Its w q b) (hS : Eds w r S) (hc : a.length ≤ c) (hd : b.length ≤ d) (hf : S.length ≤ f) (hcm : c ≤ maxLen) (hdm : d ≤ maxLen) (hfm : f ≤ maxLen) (ha : a.length ≤ 100) (hb : b.length ≤ 100) (hs : S.length ≤ 1000) (ta : txtsB a) (tb : txtsB b) :
    Calls Try.prog 30 #[.slice p a.length c, .slice q b.length d, .slice r S.length f] w fun e w' => e = .returned (.tuple #[.int .i64 (prO a b S : Nat), .bool (prB a b S)]) ∧ Below w.heap.size w w' := by
  have HNONE := Lib.hid (fun h => prc_none (a := a) (b := b) (S := S) h)
  have HSHORT := Lib.hid (fun i j u h hs => prc_short (a := a) (b := b) (S := S) (i := i) (j := j) (u := u) h hs)
  have HSOME := Lib.hid (fun i j u h hs => prc_some (a := a) (b := b) (S := S) (i := i) (j := j) (u := u) h hs)
  have HCO := Lib.hid (fun x y W hx hy => rcost_any x y W hx hy)
  have HTG := Lib.hid (fun k t id W => drtag_any k t id W)
  have HWT := Lib.hid (fun k t id W => rweight_any k t id W)
  have HTA := Lib.hid ta; have HTB := Lib.hid tb
  unfold maxLen at hcm hdm hfm
  clear ta tb
  go_enter Try.func30, Try.ntmps30
  go_wp2_with fail
  go_loopw [8, 9, 10, 11, 12, 25] (fun vi vk vp vd ve n wr => ∃ (s i k u : Nat) (D I : List It), s ≤ S.length ∧ i ≤ a.length ∧ k ≤ b.length ∧ n = .int .i64 s ∧ vi = .int .i64 i ∧ vk = .int .i64 k ∧ vp = .int .i64 u ∧ u ≤ 4 * s ∧ D.length ≤ i ∧ I.length ≤ k ∧ PrR w D I vd ve wr ∧ Bal a b D I i k ∧ prRun a b S 0 0 0 = prRun a b (S.drop s) i k (u + stL D + stL I)) (fun _ _ _ _ _ n _ => S.length - (intOf n).toNat)
  case atStart => exact ⟨0, 0, 0, 0, [], [], Nat.zero_le _, Nat.zero_le _, Nat.zero_le _, rfl, rfl, rfl, rfl, Nat.zero_le _, Nat.zero_le _, Nat.zero_le _, ⟨Below.refl _ _, OwnL.nil _ _, OwnL.nil _ _, fun k h => by cases h⟩, Bal.zero a b, rfl⟩
  case round =>
    obtain ⟨s, i, k, u, D, I, hs1, hi, hk, rfl, rfl, rfl, rfl, hu, hDl, hIl, hP, hbal, hR⟩ := hrel
    by_cases hlt : s < S.length
    · obtain ⟨br, or, rfl, hbr, hps⟩ := (hS.call hP.below) (by omega)
      have z0 : wr.cell? ⟨br, or + s * 2, none⟩ = some (.int .i64 (S[s]).a) := (hps s hlt) 0 _ rfl
      have z1 : wr.cell? ⟨br, or + s * 2 + 1, none⟩ = some (.int .i64 (S[s]).b) := (hps s hlt) 1 _ rfl
      rw [prRun_drop a b S s i k _ hlt] at hR
      have hAr := hA.call hP.below; have hBr := hB.call hP.below
      generalize S[s] = E at *
      have hv0 := heap_alloc_new wr (.cells #[.int .i64 E.a, .int .i64 E.b] 45)
      have hbv : Below wr.heap.size wr (wr.alloc (.cells #[.int .i64 E.a, .int .i64 E.b] 45)) := blw (Below.refl _ _) _
      have ik : (s : Int) < (S.length : Int) := by omega
      have HP := Lib.hid (hP.call hbv)
      have hA1 := Lib.hid (hAr.call hbv); have hB1 := Lib.hid (hBr.call hbv)
      have HR := Lib.hid hR; have HBL := Lib.hid hbal
      clear hP hAr hBr hR hbal hps hbr
      go_upto_region 7 with (fail)
      generalize (wr.alloc (.cells #[.int .i64 E.a, .int .i64 E.b] 45)) = v1 at *
      have d0 : v1.cell? ⟨wr.heap.size, 0, none⟩ = some (.int .i64 E.a) := by rw [Lib.cell_of_heap hv0]; rfl
      have d1 : v1.cell? ⟨wr.heap.size, 1, none⟩ = some (.int .i64 E.b) := by rw [Lib.cell_of_heap hv0]; rfl
      generalize wr.heap.size = g at *
      clear z0 z1 hv0 hbv
      by_cases ea : E.a = -1
      · rw [ea] at d0
        have na : ¬ (-1 : Int) = (i : Int) := by omega
        by_cases eb : E.b = (k : Int)
        · rw [eb] at d1
          have nb : ¬ (k : Int) = -1 := by omega
          rcases Nat.lt_or_ge k b.length with hkB | hkB
          · have kB : (k : Int) < (b.length : Int) := by omega
            have hst : prStep a b E i k (u + stL D + stL I) = some (i, k + 1, u + stL D + stL I + stp b[k]) := by rw [pr_ins (fun h => by have := h.2; rw [ea] at this; omega) hkB eb, if_pos ea]
            have hbl := HBL.out.ins hkB
            have hR := HR.out
            rw [hst] at hR
            simp only at hR
            obtain ⟨ad, rfl, had, x0, x1, x2⟩ := hB1.out.row k hkB
            have hst2 : stL (I ++ [b[k]]) = stL I + stp b[k] := by rw [stL_app]; simp [stL]
            generalize b[k] = X at *
            have HRR := Lib.hid (show prRun a b S 0 0 0 = prRun a b (S.drop (s + 1)) i (k + 1) (u + stL D + stL (I ++ [X])) by rw [hR, hst2]; congr 1; omega)
            have HBB := Lib.hid hbl
            have hnew := heap_alloc_new v1 (.cells #[.int .i64 X.k, .string X.t, .int .i64 X.id] 57)
            have hbn : Below v1.heap.size v1 (v1.alloc (.cells #[.int .i64 X.k, .string X.t, .int .i64 X.id] 57)) := blw (Below.refl _ _) _
            have hP2 := HP.out.call hbn
            clear hst hR hst2 hbl HR HBL HP had hbn
            go_wp2_with (at_builtin; refine wpl_app eT _ rfl _ _ rfl w.heap.size I _ rfl hP2.i hP2.below.size X _ _ rfl hnew rfl (by omega) (by unfold maxLen; omega) ?_; intro g2 cap2 w4 hown hgr hloc)
            have hP3 := hP2.pushI hown hgr hloc
            clear hown hgr hloc
            have HP3 := Lib.hid hP3
            clear hP3 hP2 hnew x0 x1 x2 d0 d1
            go_roundw
            case rel => exact ⟨s + 1, i, k + 1, u, D, _, hlt, hi, hkB, by go_num, rfl, by go_num, rfl, by omega, hDl, by simp; omega, HP3.out, HBB.out, HRR.out⟩
            case measure => simp [intOf] <;> omega
          · obtain rfl : k = b.length := by omega
            have hst := prStep_none (a := a) (b := b) (e := E) (i := i) (j := b.length) (u := u + stL D + stL I) (fun h => by omega) (fun h => by rw [ea] at h; omega) (fun h => by omega)
            have hR := HR.out
            rw [hst] at hR
            have hn := HNONE.out hR
            have HN := Lib.hid hn
            have HW := Lib.hid HP.out.below
            clear hst hR hn HP HR HBL
            go_wp2_with fail
            go_ret2
            exact ⟨by rw [HN.out.1, HN.out.2]; rfl, HW.out⟩
        by_cases eb2 : E.b = -1
        · rw [eb2] at d1
          have nb : ¬ (-1 : Int) = (k : Int) := by omega
          have hst := prStep_none (a := a) (b := b) (e := E) (i := i) (j := k) (u := u + stL D + stL I) (fun h => eb h.2.1) (fun h => by rw [ea] at h; omega) (fun h => eb h.2.2.2)
          have hR := HR.out
          rw [hst] at hR
          have hn := HNONE.out hR
          have HN := Lib.hid hn
          have HW := Lib.hid HP.out.below
          clear hst hR hn HP HR HBL
          go_wp2_with fail
          go_ret2
          exact ⟨by rw [HN.out.1, HN.out.2]; rfl, HW.out⟩
        have hst := prStep_none (a := a) (b := b) (e := E) (i := i) (j := k) (u := u + stL D + stL I) (fun h => eb h.2.1) (fun h => eb2 h.2.2) (fun h => eb h.2.2.2)
        have hR := HR.out
        rw [hst] at hR
        have hn := HNONE.out hR
        have HN := Lib.hid hn
        have HW := Lib.hid HP.out.below
        clear hst hR hn HP HR HBL
        go_wp2_with fail
        go_ret2
        exact ⟨by rw [HN.out.1, HN.out.2]; rfl, HW.out⟩
      by_cases ea2 : E.a = (i : Int)
      · rw [ea2] at d0
        have na : ¬ (i : Int) = -1 := by omega
        by_cases eb : E.b = -1
        · rw [eb] at d1
          have nb : ¬ (-1 : Int) = (k : Int) := by omega
          rcases Nat.lt_or_ge i a.length with hiA | hiA
          · have iA : (i : Int) < (a.length : Int) := by omega
            have hst : prStep a b E i k (u + stL D + stL I) = some (i + 1, k, u + stL D + stL I + stp a[i]) := by rw [pr_del hiA ea2 (fun h => by have := h.2; rw [eb] at this; omega), if_pos eb]
            have hbl := HBL.out.del hiA
            have hR := HR.out
            rw [hst] at hR
            simp only at hR
            obtain ⟨ad, rfl, had, x0, x1, x2⟩ := hA1.out.row i hiA
            have hst2 : stL (D ++ [a[i]]) = stL D + stp a[i] := by rw [stL_app]; simp [stL]
            generalize a[i] = X at *
            have HRR := Lib.hid (show prRun a b S 0 0 0 = prRun a b (S.drop (s + 1)) (i + 1) k (u + stL (D ++ [X]) + stL I) by rw [hR, hst2]; congr 1; omega)
            have HBB := Lib.hid hbl
            have hnew := heap_alloc_new v1 (.cells #[.int .i64 X.k, .string X.t, .int .i64 X.id] 57)
            have hbn : Below v1.heap.size v1 (v1.alloc (.cells #[.int .i64 X.k, .string X.t, .int .i64 X.id] 57)) := blw (Below.refl _ _) _
            have hP2 := HP.out.call hbn
            clear hst hR hst2 hbl HR HBL HP had hbn
            go_wp2_with (at_builtin; refine wpl_app eT _ rfl _ _ rfl w.heap.size D _ rfl hP2.d hP2.below.size X _ _ rfl hnew rfl (by omega) (by unfold maxLen; omega) ?_; intro g2 cap2 w4 hown hgr hloc)
            have hP3 := hP2.pushD hown hgr hloc
            clear hown hgr hloc
            have HP3 := Lib.hid hP3
            clear hP3 hP2 hnew x0 x1 x2 d0 d1
            go_roundw
            case rel => exact ⟨s + 1, i + 1, k, u, _, I, hlt, hiA, hk, by go_num, by go_num, rfl, rfl, by omega, by simp; omega, hIl, HP3.out, HBB.out, HRR.out⟩
            case measure => simp [intOf] <;> omega
          · obtain rfl : i = a.length := by omega
            have hst := prStep_none (a := a) (b := b) (e := E) (i := a.length) (j := k) (u := u + stL D + stL I) (fun h => ea h.2.2) (fun h => by omega) (fun h => by omega)
            have hR := HR.out
            rw [hst] at hR
            have hn := HNONE.out hR
            have HN := Lib.hid hn
            have HW := Lib.hid HP.out.below
            clear hst hR hn HP HR HBL
            go_wp2_with fail
            go_ret2
            exact ⟨by rw [HN.out.1, HN.out.2]; rfl, HW.out⟩
        by_cases eb2 : E.b = (k : Int)
        · rw [eb2] at d1
          have nb : ¬ (k : Int) = -1 := by omega
          rcases Nat.lt_or_ge i a.length with hiA | hiA
          · have iA : (i : Int) < (a.length : Int) := by omega
            rcases Nat.lt_or_ge k b.length with hkB | hkB
            · have kB : (k : Int) < (b.length : Int) := by omega
              have hst := pr_pair (a := a) (b := b) (e := E) (u := u + stL D + stL I) hiA ea2 hkB eb2
              have hbl := HBL.out.pair hiA hkB
              have hR := HR.out
              rw [hst] at hR
              have hco := fun W => HCO.out a[i] b[k] W (HTA.out _ (List.getElem_mem hiA)) (HTB.out _ (List.getElem_mem hkB))
              have hcO : okP a[i] b[k] = true → cO a[i] b[k] = cst a[i] b[k] := fun h => by unfold cO; rw [if_pos h]
              have c4 := cO_le a[i] b[k]
              obtain ⟨ad, rfl, had, x0, x1, x2⟩ := hA1.out.row i hiA
              obtain ⟨bd, rfl, hbd, y0, y1, y2⟩ := hB1.out.row k hkB
              generalize a[i] = X at *
              generalize b[k] = Y at *
              have HR2 := Lib.hid hR; have HBB := Lib.hid hbl; have HcO := Lib.hid hcO
              clear hst hR hbl HR HBL had hbd hcO
              generalize hC : cO X Y = C at *
              have HC := Lib.hid hC
              clear hC
              have hwu : IntKind.i64.wrap ((u : Int) + (C : Int)) = (u : Int) + (C : Int) := IntWalk.i64_in _ ⟨by omega, by omega⟩
              cases ho : okP X Y with
              | false =>
                rw [ho] at hco
                go_wp2_with fail
                have qx0 := cell_regrown x0; have qx1 := cell_regrown x1; have qx2 := cell_regrown x2; have qy0 := cell_regrown y0; have qy1 := cell_regrown y1; have qy2 := cell_regrown y2
                have e1 := fun d os => Calls.regrown_of (hco (grow (redrawn v1 d) os))
                refine wp_region_quiet_below (by kernel_rfl) (by kernel_rfl) ?_
                repeat (go_big_quiet_step (exact e1 _ _))
                refine wpQuiet_nil ?_
                intro _ hw'
                obtain ⟨⟨dq, osq⟩, hw''⟩ := hw'
                subst hw''
                have hb2 := below_regrown v1 dq osq
                generalize grow (redrawn v1 dq) osq = v2 at *
                have HP2 := Lib.hid (HP.out.call hb2)
                clear hb2 e1 qx0 qx1 qx2 qy0 qy1 qy2 x0 x1 x2 y0 y1 y2 d0 d1 HP
                have hR := HR2.out
                rw [if_neg (by rw [ho]; simp)] at hR
                have HN := Lib.hid (HNONE.out hR)
                clear hR ho
                go_wp2_with fail
                go_ret2
                exact ⟨by rw [HN.out.1, HN.out.2]; rfl, HP2.out.below⟩
              | true =>
                rw [ho] at hco
                go_wp2_with fail
                have qx0 := cell_regrown x0; have qx1 := cell_regrown x1; have qx2 := cell_regrown x2; have qy0 := cell_regrown y0; have qy1 := cell_regrown y1; have qy2 := cell_regrown y2
                have e1 := fun d os => Calls.regrown_of (hco (grow (redrawn v1 d) os))
                refine wp_region_quiet_below (by kernel_rfl) (by kernel_rfl) ?_
                repeat (go_big_quiet_step (exact e1 _ _))
                refine wpQuiet_nil ?_
                intro _ hw'
                obtain ⟨⟨dq, osq⟩, hw''⟩ := hw'
                subst hw''
                have hb2 := below_regrown v1 dq osq
                generalize grow (redrawn v1 dq) osq = v2 at *
                have HP2 := Lib.hid (HP.out.call hb2)
                clear hb2 e1 qx0 qx1 qx2 qy0 qy1 qy2 x0 x1 x2 y0 y1 y2 d0 d1 HP
                have hR := HR2.out
                rw [if_pos ho] at hR
                simp only at hR
                have hcc := HcO.out ho
                have HRR := Lib.hid (show prRun a b S 0 0 0 = prRun a b (S.drop (s + 1)) (i + 1) (k + 1) (u + C + stL D + stL I) by rw [hR, ← hcc]; congr 1; omega)
                have HB2 := Lib.hid (HBB.out ho)
                clear hR hcc ho
                go_wp2_with fail
                go_roundw
                case rel => exact ⟨s + 1, i + 1, k + 1, u + C, D, I, hlt, hiA, hkB, by go_num, by go_num, by go_num, by go_num, by omega, by omega, by omega, HP2.out, HB2.out, HRR.out⟩
                case measure => simp [intOf] <;> omega
            · obtain rfl : k = b.length := by omega
              have hst := prStep_none (a := a) (b := b) (e := E) (i := i) (j := b.length) (u := u + stL D + stL I) (fun h => ea h.2.2) (fun h => eb h.2.2) (fun h => by omega)
              have hR := HR.out
              rw [hst] at hR
              have hn := HNONE.out hR
              have HN := Lib.hid hn
              have HW := Lib.hid HP.out.below
              clear hst hR hn HP HR HBL
              go_wp2_with fail
              go_ret2
              exact ⟨by rw [HN.out.1, HN.out.2]; rfl, HW.out⟩
          · obtain rfl : i = a.length := by omega
            have hst := prStep_none (a := a) (b := b) (e := E) (i := a.length) (j := k) (u := u + stL D + stL I) (fun h => ea h.2.2) (fun h => eb h.2.2) (fun h => by omega)
            have hR := HR.out
            rw [hst] at hR
            have hn := HNONE.out hR
            have HN := Lib.hid hn
            have HW := Lib.hid HP.out.below
            clear hst hR hn HP HR HBL
            go_wp2_with fail
            go_ret2
            exact ⟨by rw [HN.out.1, HN.out.2]; rfl, HW.out⟩
        have hst := prStep_none (a := a) (b := b) (e := E) (i := i) (j := k) (u := u + stL D + stL I) (fun h => ea h.2.2) (fun h => eb h.2.2) (fun h => eb2 h.2.2.2)
        have hR := HR.out
        rw [hst] at hR
        have hn := HNONE.out hR
        have HN := Lib.hid hn
        have HW := Lib.hid HP.out.below
        clear hst hR hn HP HR HBL
        go_wp2_with fail
        go_ret2
        exact ⟨by rw [HN.out.1, HN.out.2]; rfl, HW.out⟩
      by_cases eb : E.b = (k : Int)
      · rw [eb] at d1
        have nb : ¬ (k : Int) = -1 := by omega
        have hst := prStep_none (a := a) (b := b) (e := E) (i := i) (j := k) (u := u + stL D + stL I) (fun h => ea h.2.2) (fun h => ea2 h.2.1) (fun h => ea2 h.2.1)
        have hR := HR.out
        rw [hst] at hR
        have hn := HNONE.out hR
        have HN := Lib.hid hn
        have HW := Lib.hid HP.out.below
        clear hst hR hn HP HR HBL
        go_wp2_with fail
        go_ret2
        exact ⟨by rw [HN.out.1, HN.out.2]; rfl, HW.out⟩
      by_cases eb2 : E.b = -1
      · rw [eb2] at d1
        have nb : ¬ (-1 : Int) = (k : Int) := by omega
        have hst := prStep_none (a := a) (b := b) (e := E) (i := i) (j := k) (u := u + stL D + stL I) (fun h => ea h.2.2) (fun h => ea2 h.2.1) (fun h => ea2 h.2.1)
        have hR := HR.out
        rw [hst] at hR
        have hn := HNONE.out hR
        have HN := Lib.hid hn
        have HW := Lib.hid HP.out.below
        clear hst hR hn HP HR HBL
        go_wp2_with fail
        go_ret2
        exact ⟨by rw [HN.out.1, HN.out.2]; rfl, HW.out⟩
      have hst := prStep_none (a := a) (b := b) (e := E) (i := i) (j := k) (u := u + stL D + stL I) (fun h => ea h.2.2) (fun h => ea2 h.2.1) (fun h => ea2 h.2.1)
      have hR := HR.out
      rw [hst] at hR
      have hn := HNONE.out hR
      have HN := Lib.hid hn
      have HW := Lib.hid HP.out.below
      clear hst hR hn HP HR HBL
      go_wp2_with fail
      go_ret2
      exact ⟨by rw [HN.out.1, HN.out.2]; rfl, HW.out⟩
    · obtain rfl : s = S.length := by omega
      rw [List.drop_length] at hR
      simp only [prRun] at hR
      by_cases hia : i < a.length
      · have ni : ((i : Int) == (a.length : Int)) = false := beq_eq_false_iff_ne.2 (by omega)
        have HN := Lib.hid (HSHORT.out _ _ _ hR (.inl hia))
        have HW := Lib.hid hP.below
        clear hR hP hbal
        go_wp2_with fail
        go_ret2
        exact ⟨by rw [HN.out.1, HN.out.2]; rfl, HW.out⟩
      obtain rfl : i = a.length := by omega
      by_cases hkb : k < b.length
      · have nk : ((k : Int) == (b.length : Int)) = false := beq_eq_false_iff_ne.2 (by omega)
        have HN := Lib.hid (HSHORT.out _ _ _ hR (.inr hkb))
        have HW := Lib.hid hP.below
        clear hR hP hbal
        go_wp2_with fail
        go_ret2
        exact ⟨by rw [HN.out.1, HN.out.2]; rfl, HW.out⟩
      obtain rfl : k = b.length := by omega
      have hsm := HSOME.out _ _ _ hR (by omega)
      have hqt := q_total D I
      rw [hbal.sur] at hsm
      obtain ⟨pd, cd, rfl, hd1, hd2, hDI⟩ := OwnT.its hP.d
      obtain ⟨pi, ci, rfl, hi1, hi2, hII⟩ := OwnT.its hP.i
      have HW0 := Lib.hid hP.below
      have HF := Lib.hid (And.intro (show prO a b S = u + q1 D I D.length + q2 D I I.length by rw [hsm.1]; omega) hsm.2)
      clear hR hP hbal hsm hqt HNONE HSHORT HSOME HCO HTA HTB hA hB hS hia hkb
      have hDl2 : D.length ≤ 100 := by omega
      have hIl2 : I.length ≤ 100 := by omega
      have hu2 : u ≤ 4000 := by omega
      have hd2' := hd2; have hi2' := hi2
      unfold maxLen at hd2' hi2'
      have TD := Lib.hid (fun t W (h : Its W pd D) => times_any pd cd D t W h hd1 hd2)
      have TI := Lib.hid (fun t W (h : Its W pi I) => times_any pi ci I t W h hi1 hi2)
      have TDk := Lib.hid (fun t s hs W (h : Its W pd D) => times_take pd cd D t s hs W h hd1 hd2)
      have TIk := Lib.hid (fun t s hs W (h : Its W pi I) => times_take pi ci I t s hs W h hi1 hi2)
      have HQ1 := Lib.hid (fun s => q1_le D I s hDl2 hIl2); have HQ2 := Lib.hid (fun s => q2_le D I s hDl2 hIl2)
      have HQ1a := Lib.hid (fun s h ht hz => q1_tag0 D I s h ht hz); have HQ1b := Lib.hid (fun s h ht hz => q1_tag1 D I s h ht hz); have HQ1c := Lib.hid (fun s h ht => q1_non D I s h ht)
      have HQ2a := Lib.hid (fun s h ht hz hy => q2_tag0 D I s h ht hz hy); have HQ2b := Lib.hid (fun s h ht hz => q2_tag1 D I s h ht hz); have HQ2c := Lib.hid (fun s h ht => q2_non D I s h ht)
      have hz1 : q1 D I 0 = 0 := rfl
      have hz2 : q2 D I 0 = 0 := rfl
      have HZ1 := Lib.hid hz1; have HZ2 := Lib.hid hz2
      clear hz1 hz2
      go_wp2_with fail
      go_loopw [10, 136] (fun v i w2 => ∃ s : Nat, s ≤ D.length ∧ i = .int .i64 s ∧ v = .int .i64 ((u : Int) + (q1 D I s : Nat)) ∧ Below wr.heap.size wr w2) (fun _ i _ => D.length - (intOf i).toNat)
      case atStart => exact ⟨0, Nat.zero_le _, rfl, by rw [HZ1.out]; simp, Below.refl _ _⟩
      case round =>
        obtain ⟨s, hsl, rfl, rfl, hB2⟩ := hrel
        have hql := HQ1.out s
        by_cases hlt : s < D.length
        · obtain ⟨ad, rfl, had, x0, x1, x2⟩ := (hDI.call hB2).row s hlt
          have hv0 := heap_alloc_new wr (.cells #[.int .i64 D[s].k, .string D[s].t, .int .i64 D[s].id] 57)
          have hbv : Below wr.heap.size wr (wr.alloc (.cells #[.int .i64 D[s].k, .string D[s].t, .int .i64 D[s].id] 57)) := blw (Below.refl _ _) _
          have ik : (s : Int) < (D.length : Int) := by omega
          have tl1 : tmsR (D.take s) D[s] ≤ 100 := Nat.le_trans (tmsR_le _ _) (by simp; omega)
          have tl2 : tmsR D D[s] ≤ 100 := Nat.le_trans (tmsR_le _ _) hDl2
          have tl3 : tmsR I D[s] ≤ 100 := Nat.le_trans (tmsR_le _ _) hIl2
          have w4 := wtT_le D[s].k
          have ctk := TDk.out D[s] s hsl
          have ca := TD.out D[s]
          have cb := TI.out D[s]
          have cg := HTG.out D[s].k D[s].t D[s].id
          have cw := HWT.out D[s].k D[s].t D[s].id
          have n0 := Lib.hid (HQ1a.out s hlt); have n1 := Lib.hid (HQ1b.out s hlt); have n2 := Lib.hid (HQ1c.out s hlt)
          have HC := Lib.hid (And.intro ctk (And.intro ca (And.intro cb (And.intro cg cw))))
          clear ctk ca cb cg cw
          generalize tmsR (D.take s) D[s] = T0 at *
          generalize tmsR D D[s] = TX at *
          generalize tmsR I D[s] = TZ at *
          generalize D[s] = X at *
          generalize q1 D I s = Q at *
          have HB := Lib.hid (BelowOn hB2 hbv)
          have hDr := Lib.hid ((hDI.call hB2).call hbv); have hIr := Lib.hid ((hII.call hB2).call hbv)
          clear hB2 hbv
          go_wp2_with fail
          generalize (wr.alloc (.cells #[.int .i64 X.k, .string X.t, .int .i64 X.id] 57)) = v1 at *
          have d0 : v1.cell? ⟨wr.heap.size, 0, none⟩ = some (.int .i64 X.k) := by rw [Lib.cell_of_heap hv0]; rfl
          have d1 : v1.cell? ⟨wr.heap.size, 1, none⟩ = some (.string X.t) := by rw [Lib.cell_of_heap hv0]; rfl
          have d2 : v1.cell? ⟨wr.heap.size, 2, none⟩ = some (.int .i64 X.id) := by rw [Lib.cell_of_heap hv0]; rfl
          have hgl : wr.heap.size < v1.heap.size := heap_lt hv0
          generalize wr.heap.size = g at *
          clear x0 x1 x2 hv0 had
          obtain ⟨ctk, ca, cb, cg, cw⟩ := HC.out
          refine (cg v1).mono ?_; rintro e v2 ⟨rfl, hb⟩
          have y0 := (hb.cell (p := ⟨g, 0, none⟩) hgl).trans d0; have y1 := (hb.cell (p := ⟨g, 1, none⟩) hgl).trans d1; have y2 := (hb.cell (p := ⟨g, 2, none⟩) hgl).trans d2
          replace HB := Lib.hid (BelowOn HB.out hb); replace hDr := Lib.hid (hDr.out.call hb); replace hIr := Lib.hid (hIr.out.call hb)
          clear hb d0 d1 d2 hgl HC
          cases q : isT X.k with
          | false =>
            have hn := Lib.hid (n2.out q)
            clear ctk ca cb cg n0 n1 n2
            go_wp2_with fail
            refine (cw _).mono ?_; rintro e v3 ⟨rfl, hb⟩
            replace HB := Lib.hid (BelowOn HB.out hb)
            clear hb cw y0 y1 y2
            generalize wtT X.k = wt at *
            go_wp2_with fail
            go_roundw
            case rel => exact ⟨s + 1, hlt, by go_num, by rw [hn.out] <;> go_num, HB.out⟩
            case measure => simp [intOf] <;> omega
          | true =>
            clear cw cg n2
            have kc : (s : Int) ≤ (cd : Int) := by omega
            have k0 : (0 : Int) ≤ (s : Int) := by omega
            by_cases z : T0 = 0
            · have zq : ((T0 : Int) == 0) = true := by simp; omega
              have hn := Lib.hid (n0.out q z)
              clear n0 n1
              go_wp2_with fail
              have e1 := fun d os => Calls.regrown_of (ctk (grow (redrawn v2 d) os) (hDr.out.call (below_regrown v2 d os)))
              have qy0 := cell_regrown y0; have qy1 := cell_regrown y1; have qy2 := cell_regrown y2
              refine wp_region_quiet_below (by kernel_rfl) (by kernel_rfl) ?_
              repeat (go_big_quiet_step (exact e1 _ _))
              refine wpQuiet_nil ?_
              intro _ hw'
              obtain ⟨⟨dq, osq⟩, hw''⟩ := hw'
              subst hw''
              have hb2 := below_regrown v2 dq osq
              replace y0 := qy0 dq osq; replace y1 := qy1 dq osq; replace y2 := qy2 dq osq
              generalize grow (redrawn v2 dq) osq = v3 at *
              replace HB := Lib.hid (BelowOn HB.out hb2); replace hDr := Lib.hid (hDr.out.call hb2); replace hIr := Lib.hid (hIr.out.call hb2)
              clear hb2 qy0 qy1 qy2
              clear e1 ctk
              go_wp2_with fail
              have e1 := fun d os => Calls.regrown_of (ca (grow (redrawn v3 d) os) (hDr.out.call (below_regrown v3 d os)))
              have e2 := fun d os => Calls.regrown_of (cb (grow (redrawn v3 d) os) (hIr.out.call (below_regrown v3 d os)))
              have qy0 := cell_regrown y0; have qy1 := cell_regrown y1; have qy2 := cell_regrown y2
              refine wp_region_quiet_below (by kernel_rfl) (by kernel_rfl) ?_
              iterate 3 (go_big_quiet_step (exact e1 _ _))
              repeat (go_big_quiet_step (exact e2 _ _))
              refine wpQuiet_nil ?_
              intro _ hw'
              obtain ⟨⟨dq, osq⟩, hw''⟩ := hw'
              subst hw''
              have hb2 := below_regrown v3 dq osq
              generalize grow (redrawn v3 dq) osq = v4 at *
              replace HB := Lib.hid (BelowOn HB.out hb2); replace hDr := Lib.hid (hDr.out.call hb2); replace hIr := Lib.hid (hIr.out.call hb2)
              clear hb2 qy0 qy1 qy2 y0 y1 y2
              clear e1 e2 ca cb
              have em : min (TX : Int) (TZ : Int) = ((min TX TZ : Nat) : Int) := by omega
              have ex : max (TX : Int) (TZ : Int) = ((max TX TZ : Nat) : Int) := by omega
              have hmn : min TX TZ ≤ max TX TZ := by omega
              have hmx : max TX TZ ≤ 100 := by omega
              generalize min TX TZ = mn at *
              generalize max TX TZ = mx at *
              have HE := Lib.hid (show ((Q + (2 * mn + 3 * (mx - mn)) : Nat) : Int) = (Q : Int) + (2 * (mn : Int) + 3 * ((mx : Int) - (mn : Int))) by omega)
              go_wp2_with fail
              go_roundw
              case rel => exact ⟨s + 1, hlt, by go_num, by rw [hn.out, HE.out] <;> go_num, HB.out⟩
              case measure => simp [intOf] <;> omega
            · have zq : ((T0 : Int) == 0) = false := by simp; omega
              have hn := Lib.hid (n1.out q z)
              clear n0 n1
              go_wp2_with fail
              have e1 := fun d os => Calls.regrown_of (ctk (grow (redrawn v2 d) os) (hDr.out.call (below_regrown v2 d os)))
              have qy0 := cell_regrown y0; have qy1 := cell_regrown y1; have qy2 := cell_regrown y2
              refine wp_region_quiet_below (by kernel_rfl) (by kernel_rfl) ?_
              repeat (go_big_quiet_step (exact e1 _ _))
              refine wpQuiet_nil ?_
              intro _ hw'
              obtain ⟨⟨dq, osq⟩, hw''⟩ := hw'
              subst hw''
              have hb2 := below_regrown v2 dq osq
              generalize grow (redrawn v2 dq) osq = v3 at *
              replace HB := Lib.hid (BelowOn HB.out hb2); replace hDr := Lib.hid (hDr.out.call hb2); replace hIr := Lib.hid (hIr.out.call hb2)
              clear hb2 qy0 qy1 qy2 y0 y1 y2
              clear e1 ctk ca cb
              go_wp2_with fail
              go_roundw
              case rel => exact ⟨s + 1, hlt, by go_num, by rw [hn.out] <;> go_num, HB.out⟩
              case measure => simp [intOf] <;> omega
        · obtain rfl : s = D.length := by omega
          have HW1 := Lib.hid (BelowOn HW0.out hB2)
          have hII2 := hII.call hB2; have hDI2 := hDI.call hB2
          clear hB2 hII hDI TDk HQ1 HQ1a HQ1b HQ1c HZ1
          have HU := Lib.hid (show ((u + q1 D I D.length : Nat) : Int) = (u : Int) + (q1 D I D.length : Nat) by omega)
          generalize q1 D I D.length = Q1 at *
          have hII := hII2; have hDI := hDI2
          clear hII2 hDI2
          go_wp2_with fail
          go_loopw [10, 178] (fun v i w2 => ∃ s : Nat, s ≤ I.length ∧ i = .int .i64 s ∧ v = .int .i64 ((u : Int) + (Q1 : Int) + (q2 D I s : Nat)) ∧ Below wr.heap.size wr w2) (fun _ i _ => I.length - (intOf i).toNat)
          case atStart => exact ⟨0, Nat.zero_le _, rfl, by rw [HZ2.out]; simp, Below.refl _ _⟩
          case round =>
            have hq1 : u + Q1 ≤ 1000000 := by omega
            obtain ⟨s, hsl, rfl, rfl, hB2⟩ := hrel
            have hql := HQ2.out s
            by_cases hlt : s < I.length
            · obtain ⟨ad, rfl, had, x0, x1, x2⟩ := (hII.call hB2).row s hlt
              have hv0 := heap_alloc_new wr (.cells #[.int .i64 I[s].k, .string I[s].t, .int .i64 I[s].id] 57)
              have hbv : Below wr.heap.size wr (wr.alloc (.cells #[.int .i64 I[s].k, .string I[s].t, .int .i64 I[s].id] 57)) := blw (Below.refl _ _) _
              have ik : (s : Int) < (I.length : Int) := by omega
              have tl1 : tmsR (I.take s) I[s] ≤ 100 := Nat.le_trans (tmsR_le _ _) (by simp; omega)
              have tl2 : tmsR D I[s] ≤ 100 := Nat.le_trans (tmsR_le _ _) hDl2
              have tl3 : tmsR I I[s] ≤ 100 := Nat.le_trans (tmsR_le _ _) hIl2
              have w4 := wtT_le I[s].k
              have ctk := TIk.out I[s] s hsl
              have ca := TD.out I[s]
              have cb := TI.out I[s]
              have cg := HTG.out I[s].k I[s].t I[s].id
              have cw := HWT.out I[s].k I[s].t I[s].id
              have n0 := Lib.hid (HQ2a.out s hlt); have n1 := Lib.hid (HQ2b.out s hlt); have n2 := Lib.hid (HQ2c.out s hlt)
              have HC := Lib.hid (And.intro ctk (And.intro ca (And.intro cb (And.intro cg cw))))
              clear ctk ca cb cg cw
              generalize tmsR (I.take s) I[s] = T0 at *
              generalize tmsR D I[s] = TX at *
              generalize tmsR I I[s] = TZ at *
              generalize I[s] = X at *
              generalize q2 D I s = Q at *
              have HB := Lib.hid (BelowOn hB2 hbv)
              have hDr := Lib.hid ((hDI.call hB2).call hbv); have hIr := Lib.hid ((hII.call hB2).call hbv)
              clear hB2 hbv
              go_wp2_with fail
              generalize (wr.alloc (.cells #[.int .i64 X.k, .string X.t, .int .i64 X.id] 57)) = v1 at *
              have d0 : v1.cell? ⟨wr.heap.size, 0, none⟩ = some (.int .i64 X.k) := by rw [Lib.cell_of_heap hv0]; rfl
              have d1 : v1.cell? ⟨wr.heap.size, 1, none⟩ = some (.string X.t) := by rw [Lib.cell_of_heap hv0]; rfl
              have d2 : v1.cell? ⟨wr.heap.size, 2, none⟩ = some (.int .i64 X.id) := by rw [Lib.cell_of_heap hv0]; rfl
              have hgl : wr.heap.size < v1.heap.size := heap_lt hv0
              generalize wr.heap.size = g at *
              clear x0 x1 x2 hv0 had
              obtain ⟨ctk, ca, cb, cg, cw⟩ := HC.out
              refine (cg v1).mono ?_; rintro e v2 ⟨rfl, hb⟩
              have y0 := (hb.cell (p := ⟨g, 0, none⟩) hgl).trans d0; have y1 := (hb.cell (p := ⟨g, 1, none⟩) hgl).trans d1; have y2 := (hb.cell (p := ⟨g, 2, none⟩) hgl).trans d2
              replace HB := Lib.hid (BelowOn HB.out hb); replace hDr := Lib.hid (hDr.out.call hb); replace hIr := Lib.hid (hIr.out.call hb)
              clear hb d0 d1 d2 hgl HC
              cases q : isT X.k with
              | false =>
                have hn := Lib.hid (n2.out q)
                clear ctk ca cb cg n0 n1 n2
                go_wp2_with fail
                refine (cw _).mono ?_; rintro e v3 ⟨rfl, hb⟩
                replace HB := Lib.hid (BelowOn HB.out hb)
                clear hb cw y0 y1 y2
                generalize wtT X.k = wt at *
                go_wp2_with fail
                go_roundw
                case rel => exact ⟨s + 1, hlt, by go_num, by rw [hn.out] <;> go_num, HB.out⟩
                case measure => simp [intOf] <;> omega
              | true =>
                clear cw cg n2
                have kc : (s : Int) ≤ (ci : Int) := by omega
                have k0 : (0 : Int) ≤ (s : Int) := by omega
                by_cases z : T0 = 0
                · have zq : ((T0 : Int) == 0) = true := by simp; omega
                  by_cases y : TX = 0
                  · have yq : ((TX : Int) == 0) = true := by simp; omega
                    have hn := Lib.hid (n0.out q z y)
                    clear n0 n1
                    go_wp2_with fail
                    have e1 := fun d os => Calls.regrown_of (ctk (grow (redrawn v2 d) os) (hIr.out.call (below_regrown v2 d os)))
                    have e2 := fun d os => Calls.regrown_of (ca (grow (redrawn v2 d) os) (hDr.out.call (below_regrown v2 d os)))
                    have qy0 := cell_regrown y0; have qy1 := cell_regrown y1; have qy2 := cell_regrown y2
                    refine wp_region_quiet_below (by kernel_rfl) (by kernel_rfl) ?_
                    iterate 5 (go_big_quiet_step (exact e1 _ _))
                    repeat (go_big_quiet_step (exact e2 _ _))
                    refine wpQuiet_nil ?_
                    intro _ hw'
                    obtain ⟨⟨dq, osq⟩, hw''⟩ := hw'
                    subst hw''
                    have hb2 := below_regrown v2 dq osq
                    replace y0 := qy0 dq osq; replace y1 := qy1 dq osq; replace y2 := qy2 dq osq
                    generalize grow (redrawn v2 dq) osq = v3 at *
                    replace HB := Lib.hid (BelowOn HB.out hb2); replace hDr := Lib.hid (hDr.out.call hb2); replace hIr := Lib.hid (hIr.out.call hb2)
                    clear hb2 qy0 qy1 qy2
                    clear e1 e2 ctk ca
                    have hcb := cb v3 hIr.out
                    clear cb
                    go_wp2_with fail
                    refine hcb.mono ?_; rintro e v4 ⟨rfl, hb⟩
                    replace HB := Lib.hid (BelowOn HB.out hb)
                    clear hb hcb y0 y1 y2
                    go_wp2_with fail
                    go_roundw
                    case rel => exact ⟨s + 1, hlt, by go_num, by rw [hn.out] <;> go_num, HB.out⟩
                    case measure => simp [intOf] <;> omega
                  · have yq : ((TX : Int) == 0) = false := by simp; omega
                    have hn := Lib.hid (n1.out q (fun h => y h.2))
                    clear n0 n1
                    go_wp2_with fail
                    have e1 := fun d os => Calls.regrown_of (ctk (grow (redrawn v2 d) os) (hIr.out.call (below_regrown v2 d os)))
                    have e2 := fun d os => Calls.regrown_of (ca (grow (redrawn v2 d) os) (hDr.out.call (below_regrown v2 d os)))
                    have qy0 := cell_regrown y0; have qy1 := cell_regrown y1; have qy2 := cell_regrown y2
                    refine wp_region_quiet_below (by kernel_rfl) (by kernel_rfl) ?_
                    iterate 5 (go_big_quiet_step (exact e1 _ _))
                    repeat (go_big_quiet_step (exact e2 _ _))
                    refine wpQuiet_nil ?_
                    intro _ hw'
                    obtain ⟨⟨dq, osq⟩, hw''⟩ := hw'
                    subst hw''
                    have hb2 := below_regrown v2 dq osq
                    generalize grow (redrawn v2 dq) osq = v3 at *
                    replace HB := Lib.hid (BelowOn HB.out hb2); replace hDr := Lib.hid (hDr.out.call hb2); replace hIr := Lib.hid (hIr.out.call hb2)
                    clear hb2 qy0 qy1 qy2 y0 y1 y2
                    clear e1 e2 ctk ca cb
                    go_wp2_with fail
                    go_roundw
                    case rel => exact ⟨s + 1, hlt, by go_num, by rw [hn.out] <;> go_num, HB.out⟩
                    case measure => simp [intOf] <;> omega
                · have zq : ((T0 : Int) == 0) = false := by simp; omega
                  have hn := Lib.hid (n1.out q (fun h => z h.1))
                  clear n0 n1
                  go_wp2_with fail
                  have e1 := fun d os => Calls.regrown_of (ctk (grow (redrawn v2 d) os) (hIr.out.call (below_regrown v2 d os)))
                  have qy0 := cell_regrown y0; have qy1 := cell_regrown y1; have qy2 := cell_regrown y2
                  refine wp_region_quiet_below (by kernel_rfl) (by kernel_rfl) ?_
                  repeat (go_big_quiet_step (exact e1 _ _))
                  refine wpQuiet_nil ?_
                  intro _ hw'
                  obtain ⟨⟨dq, osq⟩, hw''⟩ := hw'
                  subst hw''
                  have hb2 := below_regrown v2 dq osq
                  generalize grow (redrawn v2 dq) osq = v3 at *
                  replace HB := Lib.hid (BelowOn HB.out hb2); replace hDr := Lib.hid (hDr.out.call hb2); replace hIr := Lib.hid (hIr.out.call hb2)
                  clear hb2 qy0 qy1 qy2 y0 y1 y2
                  clear e1 ctk ca cb
                  go_wp2_with fail
                  go_roundw
                  case rel => exact ⟨s + 1, hlt, by go_num, by rw [hn.out] <;> go_num, HB.out⟩
                  case measure => simp [intOf] <;> omega
            · obtain rfl : s = I.length := by omega
              have HW2 := Lib.hid (BelowOn HW1.out hB2)
              generalize q2 D I I.length = Q2 at *
              clear hB2
              have hfin : ((u + Q1 + Q2 : Nat) : Int) = (u : Int) + (Q1 : Int) + (Q2 : Int) := by omega
              have HFI := Lib.hid hfin
              clear hfin
              go_wp2_with fail
              go_ret2
              exact ⟨by rw [HF.out.1, HF.out.2, HFI.out]; rfl, HW2.out⟩
end Go.Proofs.Ytpkipdiecnokhaa
namespace Go.Proofs.Ytpkipdiecnokhaa
open Go.ChangeShapes Go.WideShapes Go.ChangeAt Go.RowKit Go.Sort
set_option linter.unusedVariables false
set_option linter.unusedSimpArgs false
set_option maxRecDepth 100000

/-- The lesser one of what was found so far, if anything was, and X. -/
def mn (b X : Int) : Int := if b < 0 ∨ X < b then X else b
theorem mn_two (b x y : Int) (hx : 0 ≤ x) (hy : 0 ≤ y) : mn (mn b x) y = mn b (min x y) := by
  unfold mn; repeat' split
  all_goals omega
theorem prRun_app (a b : List It) (S T : List Ed) : ∀ i j u, prRun a b (S ++ T) i j u = match prRun a b S i j u with | some (i', j', u') => prRun a b T i' j' u' | none => none := by
  induction S with
  | nil => intro i j u; rfl
  | cons e S ih =>
    intro i j u
    rw [List.cons_append, prRun, prRun]
    cases prStep a b e i j u with
    | none => rfl
    | some x => obtain ⟨i', j', u'⟩ := x; exact ih i' j' u'
theorem prRun_one (a b : List It) (S : List Ed) (e : Ed) : prRun a b (S ++ [e]) 0 0 0 = match prRun a b S 0 0 0 with | some (i', j', u') => prStep a b e i' j' u' | none => none := by
  rw [prRun_app]
  cases prRun a b S 0 0 0 with
  | none => rfl
  | some x =>
    obtain ⟨i', j', u'⟩ := x
    simp only [prRun]
    cases prStep a b e i' j' u' with
    | none => rfl
    | some y => rfl
/-- What is found by all scripts that go on behind the edits of L, which lead to i and k. -/
def lsV (a b : List It) (L : List Ed) (i k : Nat) (best : Int) : Int := match prRun a b L 0 0 0 with
  | some (_, _, u) => mn best (((2 * sur a b + u + dT a b i k : Nat)) : Int)
  | none => best
def Leads (a b : List It) (L : List Ed) (i k : Nat) : Prop := ∀ x, prRun a b L 0 0 0 = some x → x.1 = i ∧ x.2.1 = k
theorem lead_pair {a b : List It} {L : List Ed} {i k : Nat} (h : Leads a b L i k) (hi : i < a.length) (hk : k < b.length) : Leads a b (L ++ [⟨i, k⟩]) (i + 1) (k + 1) := fun x hx => by
  rw [prRun_one] at hx
  cases hp : prRun a b L 0 0 0 with
  | none => rw [hp] at hx; cases hx
  | some y =>
    obtain ⟨e1, e2⟩ := h y hp
    obtain ⟨i', k', u⟩ := y
    simp only at e1 e2; subst e1; subst e2
    rw [hp] at hx
    simp only at hx
    rw [pr_pair hi rfl hk rfl] at hx
    split at hx
    · injection hx with hx; subst hx; exact ⟨rfl, rfl⟩
    · cases hx
theorem lead_del {a b : List It} {L : List Ed} {i k : Nat} (h : Leads a b L i k) (hi : i < a.length) : Leads a b (L ++ [⟨i, -1⟩]) (i + 1) k := fun x hx => by
  rw [prRun_one] at hx
  cases hp : prRun a b L 0 0 0 with
  | none => rw [hp] at hx; cases hx
  | some y =>
    obtain ⟨e1, e2⟩ := h y hp
    obtain ⟨i', k', u⟩ := y
    simp only at e1 e2; subst e1; subst e2
    rw [hp] at hx
    simp only at hx
    rw [pr_del hi rfl (fun c => by have := c.2; simp at this), if_pos rfl] at hx
    injection hx with hx; subst hx; exact ⟨rfl, rfl⟩
theorem lead_ins {a b : List It} {L : List Ed} {i k : Nat} (h : Leads a b L i k) (hk : k < b.length) : Leads a b (L ++ [⟨-1, k⟩]) i (k + 1) := fun x hx => by
  rw [prRun_one] at hx
  cases hp : prRun a b L 0 0 0 with
  | none => rw [hp] at hx; cases hx
  | some y =>
    obtain ⟨e1, e2⟩ := h y hp
    obtain ⟨i', k', u⟩ := y
    simp only at e1 e2; subst e1; subst e2
    rw [hp] at hx
    simp only at hx
    rw [pr_ins (fun c => by have := c.2; simp at this) hk rfl, if_pos rfl] at hx
    injection hx with hx; subst hx; exact ⟨rfl, rfl⟩
theorem ls_both {a b : List It} {L : List Ed} {i k : Nat} (h : Leads a b L i k) (hi : i < a.length) (hk : k < b.length) (best : Int) :
    lsV a b (L ++ [⟨-1, k⟩]) i (k + 1) (lsV a b (L ++ [⟨i, -1⟩]) (i + 1) k (lsV a b (L ++ [⟨i, k⟩]) (i + 1) (k + 1) best)) = lsV a b L i k best := by
  unfold lsV
  rw [prRun_one, prRun_one, prRun_one]
  cases hp : prRun a b L 0 0 0 with
  | none => rfl
  | some y =>
    obtain ⟨e1, e2⟩ := h y hp
    obtain ⟨i', k', u⟩ := y
    simp only at e1 e2; subst e1; subst e2
    simp only
    rw [pr_pair (e := ⟨(i' : Int), (k' : Int)⟩) hi rfl hk rfl, pr_del (e := ⟨(i' : Int), -1⟩) hi rfl (fun c => by have := c.2; simp at this), if_pos rfl, pr_ins (e := ⟨-1, (k' : Int)⟩) (fun c => by have := c.2; simp at this) hk rfl, if_pos rfl]
    cases ho : okP a[i'] b[k'] with
    | true =>
      rw [if_pos rfl]
      simp only
      rw [mn_two _ _ _ (by omega) (by omega), mn_two _ _ _ (by omega) (by omega), dT_ok a b i' k' hi hk ho]
      congr 1; omega
    | false =>
      rw [if_neg (by simp)]
      simp only
      rw [mn_two _ _ _ (by omega) (by omega), dT_no a b i' k' hi hk ho]
      congr 1; omega
theorem ls_del {a b : List It} {L : List Ed} {i : Nat} (h : Leads a b L i b.length) (hi : i < a.length) (best : Int) : lsV a b (L ++ [⟨i, -1⟩]) (i + 1) b.length best = lsV a b L i b.length best := by
  unfold lsV
  rw [prRun_one]
  cases hp : prRun a b L 0 0 0 with
  | none => rfl
  | some y =>
    obtain ⟨e1, e2⟩ := h y hp
    obtain ⟨i', k', u⟩ := y
    simp only at e1 e2; subst e1; subst e2
    simp only
    rw [pr_del hi rfl (fun c => by have := c.2; simp at this), if_pos rfl]
    simp only
    rw [dT_del a b i' hi]; congr 1; omega
theorem ls_ins {a b : List It} {L : List Ed} {k : Nat} (h : Leads a b L a.length k) (hk : k < b.length) (best : Int) : lsV a b (L ++ [⟨-1, k⟩]) a.length (k + 1) best = lsV a b L a.length k best := by
  unfold lsV
  rw [prRun_one]
  cases hp : prRun a b L 0 0 0 with
  | none => rfl
  | some y =>
    obtain ⟨e1, e2⟩ := h y hp
    obtain ⟨i', k', u⟩ := y
    simp only at e1 e2; subst e1; subst e2
    simp only
    rw [pr_ins (fun c => by have := c.2; simp at this) hk rfl, if_pos rfl]
    simp only
    rw [dT_ins a b k' hk]; congr 1; omega
theorem ls_end {a b : List It} {L : List Ed} (h : Leads a b L a.length b.length) (best : Int) : lsV a b L a.length b.length best = if prB a b L = true ∧ (best < 0 ∨ ((prO a b L : Nat) : Int) < best) then ((prO a b L : Nat) : Int) else best := by
  unfold lsV
  cases hp : prRun a b L 0 0 0 with
  | none => rw [(prc_none hp).2]; simp
  | some y =>
    obtain ⟨e1, e2⟩ := h y hp
    obtain ⟨i', k', u⟩ := y
    simp only at e1 e2; subst e1; subst e2
    obtain ⟨h1, h2⟩ := prc_some hp (by omega)
    rw [h1, h2]
    simp only
    unfold mn; rw [dT_end]; simp
theorem ls_all (a b : List It) : lsV a b [] 0 0 (-1) = ((dis a b : Nat) : Int) := by
  unfold lsV; simp only [prRun]
  unfold mn; rw [if_pos (.inl (by decide))]
  have : dT a b 0 0 = dst a b := rfl
  rw [this]; unfold dis; omega
theorem lead_nil (a b : List It) : Leads a b [] 0 0 := fun x hx => by simp only [prRun] at hx; injection hx with hx; subst hx; exact ⟨rfl, rfl⟩
theorem eds_pre {W : World} {p : Option Addr} {L : List Ed} {M : List Ed} (h : Eds W p (L ++ M)) : Eds W p L := fun h0 => by
  obtain ⟨b, o, e, hl, hc⟩ := h (by rw [List.length_append]; omega)
  exact ⟨b, o, e, hl, fun i hi => by have := hc i (by rw [List.length_append]; omega); rwa [List.getElem_append_left hi] at this⟩
theorem eds_cells {W : World} {ad : Addr} {L : List Ed} (h : Eds W (some ad) L) : ∀ j u, (cellsOf eenc L)[j]? = some u → W.cell? (ad.add j) = some u := fun j u hu => by
  have key : ∀ (L : List Ed) (j : Nat), (cellsOf eenc L)[j]? = some u → ∃ i, ∃ hi : i < L.length, (eenc (L[i]'hi))[j - i * 2]? = some u ∧ i * 2 ≤ j := by
    intro L
    induction L with
    | nil => intro j h; simp [cellsOf] at h
    | cons x L ih =>
      intro j h
      unfold cellsOf at ih h
      rw [List.flatMap_cons] at h
      have e2 : (eenc x).length = 2 := rfl
      by_cases hj : j < 2
      · rw [List.getElem?_append_left (by rw [e2]; exact hj)] at h
        exact ⟨0, by simp, by simpa using h, by omega⟩
      · rw [List.getElem?_append_right (by rw [e2]; omega), e2] at h
        obtain ⟨i, hi, h1, h2⟩ := ih (j - 2) h
        exact ⟨i + 1, by simpa using hi, by simpa [show j - (i + 1) * 2 = j - 2 - i * 2 by omega] using h1, by omega⟩
  obtain ⟨i, hi, h1, h2⟩ := key L j hu
  obtain ⟨b, o, e, hl, hc⟩ := h (by omega)
  injection e with e
  subst e
  have ad : (⟨b, o, none⟩ : Addr).add j = ⟨b, o + i * 2 + (j - i * 2), none⟩ := by unfold Addr.add; split <;> simp_all <;> omega
  rw [ad]; exact hc i hi _ _ h1
theorem eenc_one (L : List Ed) : ∀ u ∈ cellsOf eenc L, u.oneCell' = true := fun u hu => by
  unfold cellsOf at hu
  obtain ⟨x, _, hx⟩ := List.mem_flatMap.1 hu
  simp [eenc] at hx; rcases hx with rfl | rfl <;> rfl
/-- A copy of a script. -/
theorem append_eds (w : World) (ty : TypeId) (M : List Ed) (p : Option Addr) (c : Nat) (hM : Eds w p M) (hl : M.length ≤ 1000) :
    ∃ v' w', (Builtin.append_ #[43, 43] ty #[.slice none 0 0, .slice p M.length c]).run Try.prog w = .ok v' w' ∧ OwnE w.heap.size M v' w' ∧ Below w.heap.size w w' := by
  obtain ⟨i, hi, hz0, hz1, hz2⟩ := eE.hi
  by_cases h0 : M.length = 0
  · have hM0 : M = [] := List.length_eq_zero_iff.1 h0
    subst hM0
    refine ⟨.slice none 0 0, w, ?_, OwnL.nil _ _, Below.refl _ _⟩
    refine run_append_nothing w 43 43 ty 45 i eE.ht hi none 0 0 (Nat.le_refl _) _ ?_
    cases p with
    | none => exact Src.ofNil w eE.ht c
    | some a => exact Src.ofSlice w eE.ht a 0 c [] (by simp) (fun j u hj => by simp at hj) (fun u hu => by cases hu)
  · obtain ⟨b, o, rfl, hlt, _⟩ := hM (by omega)
    obtain ⟨g, cap, w', hr, h2, h3, h4, h5⟩ := run_append_lies (P := Try.prog) w 43 ty w.heap.size 45 i _ 2 16 eE.ht hi hz0 hz1 hz2 eE.hzs eE.hsz (.slice none 0 0) 0 (cellsOf eenc []) (OwnL.nil (enc := eenc) w _) ⟨b, o, none⟩ M.length c (cellsOf eenc M) (cellsOf_len eE M) (eds_cells hM) (eenc_one M) (by omega) (by unfold maxLen; omega) (by omega) (Nat.le_refl _) _ rfl
    rw [Nat.zero_add] at hr h2
    exact ⟨_, w', hr, h2, (Below.refl _ _).grown h3 (Nat.le_refl _) (fun j hj => by cases hj)⟩
/-- One edit behind a script that is kept. -/
theorem append_kept (base : Nat) (w : World) (ty : TypeId) (L : List Ed) (p : Option Addr) (cap : Nat) (hE : Eds w p L) (hroom : L.length < cap → OwnE base L (.slice p L.length cap) w) (hnil : p = none → L.length = 0) (y : Ed) (B : Nat) (cs : Array Value) (hB : w.heap[B]? = some (.cells cs 45 (0, 0))) (hcs : cs.toList = eenc y) (hl : L.length ≤ 1000) (hbase : base ≤ w.heap.size) :
    ∃ p' c' w', (Builtin.append_ #[43, 43] ty #[.slice p L.length cap, .slice (some ⟨B, 0, none⟩) 1 1]).run Try.prog w = .ok (.slice p' (L.length + 1) c') w' ∧ Eds w' p' (L ++ [y]) ∧ L.length + 1 ≤ c' ∧ c' ≤ maxLen ∧ Eds w' p L ∧ Below base w w' := by
  obtain ⟨i, hi, hz0, hz1, hz2⟩ := eE.hi
  have hn : ∀ j u, (eenc y)[j]? = some u → w.cell? ((⟨B, 0, none⟩ : Addr).add j) = some u := by rw [← hcs]; exact World.news_of_block hB
  have hone : ∀ u ∈ eenc y, u.oneCell' = true := fun u hu => by simp [eenc] at hu; rcases hu with rfl | rfl <;> rfl
  have hcat : cellsOf eenc (L ++ [y]) = cellsOf eenc L ++ eenc y := by unfold cellsOf; rw [List.flatMap_append]; simp
  by_cases hr : L.length < cap
  · have hown := hroom hr
    rcases id hown.2 with ⟨hv, _⟩ | ⟨g, cap', cur, hv, hbg, hh, hnc, hcm, hcs2, ht⟩
    · injection hv with _ _ h3; omega
    · injection hv with e1 e2 e3
      subst e1; subst e3
      obtain ⟨w', hrun, h2, h3⟩ := run_append_own_spare (P := Try.prog) w base 43 ty 45 i 2 eE.ht hi hz1 g L.length cap (cellsOf eenc L) hown ⟨B, 0, none⟩ 1 1 (eenc y) rfl hn hone (by omega)
      have hown2 : OwnE base (L ++ [y]) (.slice (some ⟨g, 0, none⟩) (L.length + 1) cap) w' := by
        unfold OwnE OwnL; rw [List.length_append, hcat]; exact h2
      obtain ⟨p2, c2, he, h4, h5, h6⟩ := own_eds hown2
      injection he with e1 e2 e3
      subst e1; subst e3
      rw [List.length_append] at h4
      exact ⟨_, _, w', hrun, h6, h4, h5, eds_pre h6, (Below.refl _ _).grown h3 hbase (fun j hj => by injection hj with hj; omega)⟩
  · have fin : ∀ v' w', (Builtin.append_ #[43, 43] ty #[.slice p L.length cap, .slice (some ⟨B, 0, none⟩) 1 1]).run Try.prog w = .ok v' w' → w'.ownsRow w.heap.size 45 2 v' (L.length + 1) (cellsOf eenc L ++ eenc y) → w.grownBy w' none → ∃ p' c' w', (Builtin.append_ #[43, 43] ty #[.slice p L.length cap, .slice (some ⟨B, 0, none⟩) 1 1]).run Try.prog w = .ok (.slice p' (L.length + 1) c') w' ∧ Eds w' p' (L ++ [y]) ∧ L.length + 1 ≤ c' ∧ c' ≤ maxLen ∧ Eds w' p L ∧ Below base w w' := fun v' w' hrun h2 h3 => by
      have hb : Below w.heap.size w w' := (Below.refl _ _).grown h3 (Nat.le_refl _) (fun j hj => by cases hj)
      have hown2 : OwnE w.heap.size (L ++ [y]) v' w' := by unfold OwnE OwnL; rw [List.length_append, hcat]; exact h2
      obtain ⟨p2, c2, rfl, h4, h5, h6⟩ := own_eds hown2
      rw [List.length_append] at h4 hrun
      exact ⟨p2, c2, w', hrun, h6, h4, h5, hE.call hb, hb.mono hbase⟩
    cases p with
    | none =>
      have h0 := hnil rfl
      have hL0 : L = [] := List.length_eq_zero_iff.1 h0
      subst hL0
      have hc0 : cap = 0 := by simpa using hr
      subst hc0
      obtain ⟨v', w', hrun, r1, r2, _⟩ := run_append_own (P := Try.prog) w w.heap.size 43 ty 45 i _ 2 16 eE.ht hi hz0 hz1 hz2 eE.hzs eE.hsz (.slice none 0 0) 0 [] (World.ownsRow_nil w _ _ 2) ⟨B, 0, none⟩ 1 1 (eenc y) rfl hn hone (by unfold maxLen; omega) (by omega) (Nat.le_refl _)
      exact fin v' w' hrun r1 r2
    | some ad =>
      obtain ⟨v', w', hrun, r1, r2⟩ := run_append_arg_grows (P := Try.prog) w 43 ty 45 i _ 2 16 eE.ht hi hz0 hz1 hz2 eE.hzs eE.hsz ad L.length cap (cellsOf eenc L) (cellsOf_len eE L) (eds_cells hE) ⟨B, 0, none⟩ 1 1 (eenc y) rfl hn (by omega) (by unfold maxLen; omega) (by omega)
      exact fin v' w' hrun r1 r2
end Go.Proofs.Ytpkipdiecnokhaa
namespace Go.Proofs.Ytpkipdiecnokhaa
open Go.ChangeShapes Go.WideShapes Go.ChangeAt Go.RowKit Go.Sort
set_option linter.unusedVariables false
set_option linter.unusedSimpArgs false
set_option maxRecDepth 100000

theorem leads_run {a b : List It} {L : List Ed} {i k : Nat} (h : Leads a b L i k) : Leads a b L i k := h
set_option maxHeartbeats 25600000 in
theorem least_any (p q : Option Addr) (c d : Nat) (a b : List It) (hc : a.length ≤ c) (hd : b.length ≤ d) (hcm : c ≤ maxLen) (hdm : d ≤ maxLen) (ha : a.length ≤ 100) (hb : b.length ≤ 100) (ta : txtsB a) (tb : txtsB b) (N : Nat) :
    ∀ (i k : Nat) (L : List Ed) (ps : Option Addr) (cs : Nat) (best : Int) (w : World), (a.length - i) + (b.length - k) = N → i ≤ a.length → k ≤ b.length → Its w p a → Its w q b → Eds w ps L → L.length ≤ cs → cs ≤ maxLen → L.length + N ≤ 300 → Leads a b L i k →
    Calls Try.prog 56 #[.slice p a.length c, .slice q b.length d, .int .i64 i, .int .i64 k, .slice ps L.length cs, .int .i64 best] w fun e w' => e = .returned (.int .i64 (lsV a b L i k best)) ∧ Below w.heap.size w w' := by
  induction N using Nat.strongRecOn with
  | ind N IH =>
  intro i k L ps cs best w hN hi hk hA hB hS hsl hsm hLN hlead
  have HIH := Lib.hid IH
  have HLD := Lib.hid hlead
  clear IH hlead
  have hcm0 := hcm; have hdm0 := hdm; have hsm0 := hsm
  unfold maxLen at hcm hdm hsm
  by_cases hfin : i = a.length ∧ k = b.length
  · obtain ⟨rfl, rfl⟩ := hfin
    have hpr := rprice_any p q ps c d cs a b L w hA hB hS hc hd hsl hcm0 hdm0 hsm0 ha hb (by omega) ta tb
    have HE := Lib.hid (ls_end HLD.out best)
    clear HIH HLD hN
    generalize prO a b L = O at *
    generalize prB a b L = V at *
    go_enter Try.func56, Try.ntmps56
    go_wp2_with fail
    refine hpr.mono ?_; rintro e w1 ⟨rfl, hb1⟩
    have HW := Lib.hid hb1
    clear hb1 hpr
    cases V with
    | false =>
      go_wp2_with fail
      go_ret
      exact ⟨by rw [HE.out]; simp, HW.out⟩
    | true =>
      by_cases h1 : best < 0
      · go_wp2_with fail
        go_ret
        exact ⟨by rw [HE.out, if_pos ⟨trivial, .inl h1⟩]; rfl, HW.out⟩
      by_cases h2 : (O : Int) < best
      · go_wp2_with fail
        go_ret
        exact ⟨by rw [HE.out, if_pos ⟨trivial, .inr h2⟩]; rfl, HW.out⟩
      · go_wp2_with fail
        go_ret
        exact ⟨by rw [HE.out, if_neg (fun h => h.2.elim (fun c => by omega) (fun c => by omega))]; rfl, HW.out⟩
  obtain ⟨v1, w1, hrun1, hO1, hb1⟩ := append_eds w 43 L ps cs hS (by omega)
  obtain ⟨ph, ch, rfl, hch1, hch2, hEh⟩ := own_eds hO1
  have hnil : ph = none → L.length = 0 := fun e => by
    rcases hO1.2 with ⟨hv, h0⟩ | ⟨g, cap, cur, hv, _⟩
    · exact h0
    · rw [e] at hv; injection hv with hv; cases hv
  have hroom1 := fun W (hb : Below w1.heap.size w1 W) (h : L.length < ch) => (OwnL.call hO1 hb)
  have HRM := Lib.hid hroom1
  have HH := Lib.hid (And.intro hEh hb1)
  have hch3 := hch2
  unfold maxLen at hch3
  have l0 : (0 : Int) ≤ (L.length : Int) := by omega
  have l1 : (L.length : Int) ≤ (ch : Int) := by omega
  clear hO1 hEh hb1 hroom1 hch2
  rcases Nat.lt_or_ge i a.length with hiA | hiA
  · have iA : (i : Int) < (a.length : Int) := by omega
    rcases Nat.lt_or_ge k b.length with hkB | hkB
    · have kB : (k : Int) < (b.length : Int) := by omega
      have HB := Lib.hid (ls_both HLD.out hiA hkB best)
      have hni : ((i : Int) == (a.length : Int)) = false := beq_eq_false_iff_ne.2 (by omega)
      go_enter Try.func56, Try.ntmps56
      go_upto_region 7 with (at_builtin; refine Lib.wpList_append_run w rfl _ _ 43 43 rfl _ _ rfl rfl _ w1 hrun1 ?_)
      clear hrun1
      have hnew := heap_alloc_new w1 (.cells #[.int .i64 (i : Int), .int .i64 (k : Int)] 45)
      have hbn : Below w1.heap.size w1 (w1.alloc (.cells #[.int .i64 (i : Int), .int .i64 (k : Int)] 45)) := blw (Below.refl _ _) _
      have hH2 := HH.out.1.call hbn
      have hB2 := BelowOn HH.out.2 hbn
      obtain ⟨pn, cn, v2, hrun, hEn, hcn1, hcn2, hHk, hbk⟩ := append_kept w.heap.size _ 43 L ph ch hH2 (fun h => HRM.out _ hbn h) hnil (⟨i, k⟩ : Ed) _ _ hnew rfl (by omega) hB2.size
      have hB3 : Below w.heap.size w v2 := hB2.trans hbk
      have hln : (L ++ [(⟨i, k⟩ : Ed)]).length = L.length + 1 := by simp
      have hcall := HIH.out ((a.length - (i + 1)) + (b.length - (k + 1))) (by omega) (i + 1) (k + 1) (L ++ [(⟨i, k⟩ : Ed)]) pn cn best v2 rfl (by omega) (by omega) (hA.call hB3) (hB.call hB3) hEn (by rw [hln]; exact hcn1) hcn2 (by rw [hln]; omega) (lead_pair HLD.out hiA hkB)
      rw [hln] at hcall
      replace HH := Lib.hid (And.intro hHk hB3)
      clear hnew hbn hH2 hB2 hEn hcn1 hcn2 hHk hbk hB3 hln
      generalize hls : lsV a b (L ++ [(⟨i, k⟩ : Ed)]) (i + 1) (k + 1) best = X1 at *
      have HX1 := Lib.hid hls
      clear hls
      go_wp2_with (at_builtin; refine Lib.wpList_append_run _ rfl _ _ 43 43 rfl _ _ rfl rfl _ v2 hrun ?_)
      refine hcall.mono ?_; rintro e v3 ⟨rfl, hbc⟩
      replace HH := Lib.hid (And.intro (HH.out.1.call hbc) (BelowOn HH.out.2 hbc))
      clear hbc hcall hrun
      have hnew := heap_alloc_new v3 (.cells #[.int .i64 (i : Int), .int .i64 (-1)] 45)
      have hbn : Below v3.heap.size v3 (v3.alloc (.cells #[.int .i64 (i : Int), .int .i64 (-1)] 45)) := blw (Below.refl _ _) _
      have hH2 := HH.out.1.call hbn
      have hB2 := BelowOn HH.out.2 hbn
      obtain ⟨pn, cn, v4, hrun, hEn, hcn1, hcn2, hHk, hbk⟩ := append_kept w.heap.size _ 43 L ph L.length hH2 (fun h => absurd h (Nat.lt_irrefl _)) hnil (⟨i, -1⟩ : Ed) _ _ hnew rfl (by omega) hB2.size
      have hB3 : Below w.heap.size w v4 := hB2.trans hbk
      have hln : (L ++ [(⟨i, -1⟩ : Ed)]).length = L.length + 1 := by simp
      have hcall := HIH.out ((a.length - (i + 1)) + (b.length - k)) (by omega) (i + 1) k (L ++ [(⟨i, -1⟩ : Ed)]) pn cn X1 v4 rfl (by omega) (by omega) (hA.call hB3) (hB.call hB3) hEn (by rw [hln]; exact hcn1) hcn2 (by rw [hln]; omega) (lead_del HLD.out hiA)
      rw [hln] at hcall
      replace HH := Lib.hid (And.intro hHk hB3)
      clear hnew hbn hH2 hB2 hEn hcn1 hcn2 hHk hbk hB3 hln
      generalize hls : lsV a b (L ++ [(⟨i, -1⟩ : Ed)]) (i + 1) k X1 = X2 at *
      have HX2 := Lib.hid hls
      clear hls
      go_wp2_with (at_builtin; refine Lib.wpList_append_run _ rfl _ _ 43 43 rfl _ _ rfl rfl _ v4 hrun ?_)
      refine hcall.mono ?_; rintro e v5 ⟨rfl, hbc⟩
      replace HH := Lib.hid (And.intro (HH.out.1.call hbc) (BelowOn HH.out.2 hbc))
      clear hbc hcall hrun
      have hnew := heap_alloc_new v5 (.cells #[.int .i64 (-1), .int .i64 (k : Int)] 45)
      have hbn : Below v5.heap.size v5 (v5.alloc (.cells #[.int .i64 (-1), .int .i64 (k : Int)] 45)) := blw (Below.refl _ _) _
      have hH2 := HH.out.1.call hbn
      have hB2 := BelowOn HH.out.2 hbn
      obtain ⟨pn, cn, v6, hrun, hEn, hcn1, hcn2, hHk, hbk⟩ := append_kept w.heap.size _ 43 L ph L.length hH2 (fun h => absurd h (Nat.lt_irrefl _)) hnil (⟨-1, k⟩ : Ed) _ _ hnew rfl (by omega) hB2.size
      have hB3 : Below w.heap.size w v6 := hB2.trans hbk
      have hln : (L ++ [(⟨-1, k⟩ : Ed)]).length = L.length + 1 := by simp
      have hcall := HIH.out ((a.length - i) + (b.length - (k + 1))) (by omega) i (k + 1) (L ++ [(⟨-1, k⟩ : Ed)]) pn cn X2 v6 rfl (by omega) (by omega) (hA.call hB3) (hB.call hB3) hEn (by rw [hln]; exact hcn1) hcn2 (by rw [hln]; omega) (lead_ins HLD.out hkB)
      rw [hln] at hcall
      replace HH := Lib.hid (And.intro hHk hB3)
      clear hnew hbn hH2 hB2 hEn hcn1 hcn2 hHk hbk hB3 hln
      generalize hls : lsV a b (L ++ [(⟨-1, k⟩ : Ed)]) i (k + 1) X2 = X3 at *
      have HX3 := Lib.hid hls
      clear hls
      go_wp2_with (at_builtin; refine Lib.wpList_append_run _ rfl _ _ 43 43 rfl _ _ rfl rfl _ v6 hrun ?_)
      refine hcall.mono ?_; rintro e v7 ⟨rfl, hbc⟩
      replace HH := Lib.hid (And.intro (HH.out.1.call hbc) (BelowOn HH.out.2 hbc))
      clear hbc hcall hrun
      have HF := HB
      go_wp2_with fail
      go_ret
      exact ⟨by rw [← HF.out]; rfl, HH.out.2⟩
    · obtain rfl : k = b.length := by omega
      have HB := Lib.hid (ls_del HLD.out hiA best)
      have hni : ((i : Int) == (a.length : Int)) = false := beq_eq_false_iff_ne.2 (by omega)
      have kB : ¬ ((b.length : Int) < (b.length : Int)) := by omega
      go_enter Try.func56, Try.ntmps56
      go_upto_region 7 with (at_builtin; refine Lib.wpList_append_run w rfl _ _ 43 43 rfl _ _ rfl rfl _ w1 hrun1 ?_)
      clear hrun1
      have hnew := heap_alloc_new w1 (.cells #[.int .i64 (i : Int), .int .i64 (-1)] 45)
      have hbn : Below w1.heap.size w1 (w1.alloc (.cells #[.int .i64 (i : Int), .int .i64 (-1)] 45)) := blw (Below.refl _ _) _
      have hH2 := HH.out.1.call hbn
      have hB2 := BelowOn HH.out.2 hbn
      obtain ⟨pn, cn, v4, hrun, hEn, hcn1, hcn2, hHk, hbk⟩ := append_kept w.heap.size _ 43 L ph L.length hH2 (fun h => absurd h (Nat.lt_irrefl _)) hnil (⟨i, -1⟩ : Ed) _ _ hnew rfl (by omega) hB2.size
      have hB3 : Below w.heap.size w v4 := hB2.trans hbk
      have hln : (L ++ [(⟨i, -1⟩ : Ed)]).length = L.length + 1 := by simp
      have hcall := HIH.out ((a.length - (i + 1)) + (b.length - b.length)) (by omega) (i + 1) b.length (L ++ [(⟨i, -1⟩ : Ed)]) pn cn best v4 rfl (by omega) (by omega) (hA.call hB3) (hB.call hB3) hEn (by rw [hln]; exact hcn1) hcn2 (by rw [hln]; omega) (lead_del HLD.out hiA)
      rw [hln] at hcall
      replace HH := Lib.hid (And.intro hHk hB3)
      clear hnew hbn hH2 hB2 hEn hcn1 hcn2 hHk hbk hB3 hln
      generalize hls : lsV a b (L ++ [(⟨i, -1⟩ : Ed)]) (i + 1) b.length best = X2 at *
      have HX2 := Lib.hid hls
      clear hls
      go_wp2_with (at_builtin; refine Lib.wpList_append_run _ rfl _ _ 43 43 rfl _ _ rfl rfl _ v4 hrun ?_)
      refine hcall.mono ?_; rintro e v5 ⟨rfl, hbc⟩
      replace HH := Lib.hid (And.intro (HH.out.1.call hbc) (BelowOn HH.out.2 hbc))
      clear hbc hcall hrun
      have HF := HB
      go_wp2_with fail
      go_ret
      exact ⟨by rw [← HF.out]; rfl, HH.out.2⟩
  · obtain rfl : i = a.length := by omega
    have hkB : k < b.length := by
      rcases Nat.lt_or_ge k b.length with h | h
      · exact h
      · exact absurd ⟨rfl, by omega⟩ hfin
    have kB : (k : Int) < (b.length : Int) := by omega
    have HB := Lib.hid (ls_ins HLD.out hkB best)
    have hnk : ((k : Int) == (b.length : Int)) = false := beq_eq_false_iff_ne.2 (by omega)
    have iA : ¬ ((a.length : Int) < (a.length : Int)) := by omega
    go_enter Try.func56, Try.ntmps56
    go_upto_region 7 with (at_builtin; refine Lib.wpList_append_run w rfl _ _ 43 43 rfl _ _ rfl rfl _ w1 hrun1 ?_)
    clear hrun1
    have hnew := heap_alloc_new w1 (.cells #[.int .i64 (-1), .int .i64 (k : Int)] 45)
    have hbn : Below w1.heap.size w1 (w1.alloc (.cells #[.int .i64 (-1), .int .i64 (k : Int)] 45)) := blw (Below.refl _ _) _
    have hH2 := HH.out.1.call hbn
    have hB2 := BelowOn HH.out.2 hbn
    obtain ⟨pn, cn, v6, hrun, hEn, hcn1, hcn2, hHk, hbk⟩ := append_kept w.heap.size _ 43 L ph L.length hH2 (fun h => absurd h (Nat.lt_irrefl _)) hnil (⟨-1, k⟩ : Ed) _ _ hnew rfl (by omega) hB2.size
    have hB3 : Below w.heap.size w v6 := hB2.trans hbk
    have hln : (L ++ [(⟨-1, k⟩ : Ed)]).length = L.length + 1 := by simp
    have hcall := HIH.out ((a.length - a.length) + (b.length - (k + 1))) (by omega) a.length (k + 1) (L ++ [(⟨-1, k⟩ : Ed)]) pn cn best v6 rfl (by omega) (by omega) (hA.call hB3) (hB.call hB3) hEn (by rw [hln]; exact hcn1) hcn2 (by rw [hln]; omega) (lead_ins HLD.out hkB)
    rw [hln] at hcall
    replace HH := Lib.hid (And.intro hHk hB3)
    clear hnew hbn hH2 hB2 hEn hcn1 hcn2 hHk hbk hB3 hln
    generalize hls : lsV a b (L ++ [(⟨-1, k⟩ : Ed)]) a.length (k + 1) best = X3 at *
    have HX3 := Lib.hid hls
    clear hls
    go_wp2_with (at_builtin; refine Lib.wpList_append_run _ rfl _ _ 43 43 rfl _ _ rfl rfl _ v6 hrun ?_)
    refine hcall.mono ?_; rintro e v7 ⟨rfl, hbc⟩
    replace HH := Lib.hid (And.intro (HH.out.1.call hbc) (BelowOn HH.out.2 hbc))
    clear hbc hcall hrun
    have HF := HB
    go_wp2_with fail
    go_ret
    exact ⟨by rw [← HF.out]; rfl, HH.out.2⟩
theorem Least_any (p q : Option Addr) (c d : Nat) (a b : List It) (w : World) (hA : Its w p a) (hB : Its w q b) (hc : a.length ≤ c) (hd : b.length ≤ d) (hcm : c ≤ maxLen) (hdm : d ≤ maxLen) (ha : a.length ≤ 100) (hb : b.length ≤ 100) (ta : txtsB a) (tb : txtsB b) :
    Calls Try.prog 36 #[.slice p a.length c, .slice q b.length d] w fun e w' => e = .returned (.int .i64 (dis a b : Nat)) ∧ Below w.heap.size w w' := by
  have h := least_any p q c d a b hc hd hcm hdm ha hb ta tb _ 0 0 [] none 0 (-1) w rfl (Nat.zero_le _) (Nat.zero_le _) hA hB (Rw.nil _ _) (Nat.zero_le _) (Nat.zero_le _) (by simp; omega) (lead_nil a b)
  rw [ls_all] at h
  have H := Lib.hid (show Calls Try.prog 56 #[.slice p a.length c, .slice q b.length d, .int .i64 0, .int .i64 0, .slice none 0 0, .int .i64 (-1)] w fun e w' => e = .returned (.int .i64 (dis a b : Nat)) ∧ Below w.heap.size w w' from h)
  clear h
  go_enter Try.func36, Try.ntmps36
  go_wp2_with fail
  refine H.out.mono ?_; rintro e w1 ⟨rfl, hb1⟩
  go_wp2_with fail
  go_ret
  exact ⟨rfl, hb1⟩
end Go.Proofs.Ytpkipdiecnokhaa
namespace Go.Proofs.Ytpkipdiecnokhaa
open Go.ChangeShapes Go.WideShapes Go.ChangeAt Go.RowKit Go.Sort
set_option linter.unusedVariables false
set_option linter.unusedSimpArgs false
set_option maxRecDepth 100000

theorem Dr.least {W : World} {p q : Option Addr} {c d : Nat} {A B : List It} (h : Dr W p c A) (k : Dr W q d B) : Calls Try.prog 36 #[.slice p A.length c, .slice q B.length d] W fun e w' => e = .returned (.int .i64 (dis A B : Nat)) ∧ Below W.heap.size W w' :=
  Least_any p q c d A B W h.its k.its h.le k.le h.cm k.cm (Nat.le_trans h.len (by omega)) (Nat.le_trans k.len (by omega)) h.txt k.txt
/-- A part of a list that a law has drawn. -/
theorem Dr.part {W : World} {p : Option Addr} {c : Nat} {A : List It} (h : Dr W p c A) (i n : Nat) (hn : i + n ≤ A.length) : Dr W (if c = i then p else Option.map (fun x => x.add (i * 3)) p) (c - i) ((A.drop i).take n) := by
  have hle := h.le
  refine ⟨its_takeD (its_row W p A h.its i (by omega) _ (fun a ha hlt => by rw [if_neg (by omega), ha]; rfl)) n, by simp; omega, Nat.le_trans (Nat.sub_le _ _) h.cm, Nat.le_trans (by simp; omega) h.len, fun x hx => h.txt x (List.mem_of_mem_drop (List.mem_of_mem_take hx))⟩
set_option maxHeartbeats 12800000 in
theorem least_law (p0 : Option Addr) (c0 : Nat) (l : List Int) (p1 : Option Addr) (c1 : Nat) (m : List Int) (fr to0 : Int) (w : World)
    (r0 : Ones w (Value.int .i64) p0 l) (o0 : ∀ i (h : i < l.length), (Lit.int .i64 (l[i]'h)).wf = true) (n0 : l.length ≤ c0) (m0 : c0 ≤ maxLen)
    (r1 : Ones w (Value.int .i64) p1 m) (o1 : ∀ i (h : i < m.length), (Lit.int .i64 (m[i]'h)).wf = true) (n1 : m.length ≤ c1) (m1 : c1 ≤ maxLen) (wf : (Lit.int .i64 fr).wf = true) (wt : (Lit.int .i64 to0).wf = true) :
    Calls Try.prog 12 #[.slice p0 l.length c0, .slice p1 m.length c1, .int .i64 fr, .int .i64 to0] w fun e w' => e = .returned (.bool true) ∧ Below w.heap.size w w' := by
  have M0 := Lib.hid (dmade_any p0 c0 l 12 w r0 o0 n0 m0 (by omega))
  have M1 := Lib.hid (fun W h => dmade_any p1 c1 m 12 W h o1 n1 m1 (by omega))
  have R1 := Lib.hid r1
  have lA := mkD_len l 12; have lB := mkD_len m 12
  unfold maxLen at m0 m1
  clear r0 r1 o0 o1
  have leave : ∀ W, Below w.heap.size w W → Calls Try.prog 26 #[] W fun e w' => e = .returned (.bool true) ∧ Below w.heap.size w w' := fun W h => (known_any W).mono (fun e w' hh => ⟨hh.1, BelowOn h hh.2⟩)
  have LV := Lib.hid leave
  clear leave
  by_cases z0 : 60 < l.length
  · go_enter Try.func12, Try.ntmps12
    go_wp2_with fail
    refine (LV.out _ (Below.refl _ _)).mono ?_; rintro e w1 ⟨rfl, hb⟩
    go_wp2_with fail
    go_ret
    exact ⟨rfl, hb⟩
  by_cases z1 : 60 < m.length
  · go_enter Try.func12, Try.ntmps12
    go_wp2_with fail
    refine (LV.out _ (Below.refl _ _)).mono ?_; rintro e w1 ⟨rfl, hb⟩
    go_wp2_with fail
    go_ret
    exact ⟨rfl, hb⟩
  go_enter Try.func12, Try.ntmps12
  go_wp2_with fail
  refine M0.out.mono ?_; rintro e w1 hE
  obtain ⟨pa, ca, rfl, hA, hb1⟩ := dr_made (by omega) hE
  clear hE M0
  go_wp2_with fail
  refine (M1.out _ (R1.out.call hb1)).mono ?_; rintro e w2 hE
  obtain ⟨pb, cb, rfl, hB, hb2⟩ := dr_made (by omega) hE
  replace hA := hA.call hb2
  have hW := BelowOn hb1 hb2
  clear hE hb1 hb2 M1 R1
  generalize mkD l 12 = A at *
  generalize mkD m 12 = B at *
  have hAc := hA.cm; have hBc := hB.cm; have hAl := hA.le; have hBl := hB.le
  unfold maxLen at hAc hBc
  have wa : IntKind.i64.wrap ((A.length : Int) + 1) = (A.length : Int) + 1 := IntWalk.i64_in _ ⟨by omega, by omega⟩
  have wb : IntKind.i64.wrap ((B.length : Int) + 1) = (B.length : Int) + 1 := IntWalk.i64_in _ ⟨by omega, by omega⟩
  have P1 := fun W => place_any fr ((A.length : Int) + 1) W (by omega) (by omega) wf
  have P2 := fun W => place_any to0 ((B.length : Int) + 1) W (by omega) (by omega) wt
  have b1 := Int.emod_nonneg fr (show (A.length : Int) + 1 ≠ 0 by omega)
  have b2 := Int.emod_lt_of_pos fr (show (0 : Int) < (A.length : Int) + 1 by omega)
  have b3 := Int.emod_nonneg to0 (show (B.length : Int) + 1 ≠ 0 by omega)
  have b4 := Int.emod_lt_of_pos to0 (show (0 : Int) < (B.length : Int) + 1 by omega)
  obtain ⟨i, hi⟩ : ∃ i : Nat, fr % ((A.length : Int) + 1) = (i : Int) := ⟨(fr % ((A.length : Int) + 1)).toNat, by omega⟩
  obtain ⟨k, hk⟩ : ∃ k : Nat, to0 % ((B.length : Int) + 1) = (k : Int) := ⟨(to0 % ((B.length : Int) + 1)).toNat, by omega⟩
  rw [hi] at P1 b1 b2; rw [hk] at P2 b3 b4
  have hiA : i ≤ A.length := by omega
  have hkB : k ≤ B.length := by omega
  have hn1 : i + (min A.length (i + 4) - i) ≤ A.length := by omega
  have hn2 : k + (min B.length (k + 4) - k) ≤ B.length := by omega
  have HDA := Lib.hid (hA.part i _ hn1); have HDB := Lib.hid (hB.part k _ hn2)
  have HlA := Lib.hid (show ((A.drop i).take (min A.length (i + 4) - i)).length = min A.length (i + 4) - i by simp; omega)
  have HlB := Lib.hid (show ((B.drop k).take (min B.length (k + 4) - k)).length = min B.length (k + 4) - k by simp; omega)
  have HW := Lib.hid hW
  have wi : IntKind.i64.wrap ((i : Int) + 4) = (i : Int) + 4 := IntWalk.i64_in _ ⟨by omega, by omega⟩
  have wk : IntKind.i64.wrap ((k : Int) + 4) = (k : Int) + 4 := IntWalk.i64_in _ ⟨by omega, by omega⟩
  have em1 : min (A.length : Int) ((i : Int) + 4) = ((min A.length (i + 4) : Nat) : Int) := by omega
  have em2 : min (B.length : Int) ((k : Int) + 4) = ((min B.length (k + 4) : Nat) : Int) := by omega
  have u1 : i ≤ min A.length (i + 4) := by omega
  have u2 : k ≤ min B.length (k + 4) := by omega
  have u3 : min A.length (i + 4) ≤ ca := by omega
  have u4 : min B.length (k + 4) ≤ cb := by omega
  clear hA hB hW hi hk hn1 hn2
  generalize (A.drop i).take (min A.length (i + 4) - i) = A2 at *
  generalize (B.drop k).take (min B.length (k + 4) - k) = B2 at *
  generalize min A.length (i + 4) = hiN at *
  generalize min B.length (k + 4) = hkN at *
  have v1 : (i : Int) ≤ (hiN : Int) := by omega
  have v2 : (k : Int) ≤ (hkN : Int) := by omega
  have v3 : (hiN : Int) ≤ (ca : Int) := by omega
  have v4 : (hkN : Int) ≤ (cb : Int) := by omega
  have x1 : (0 : Int) ≤ (i : Int) := by omega
  have x2 : (0 : Int) ≤ (k : Int) := by omega
  go_wp2_with fail
  refine (P1 _).mono ?_; rintro e w3 ⟨rfl, rfl⟩
  go_wp2_with fail
  refine (P2 _).mono ?_; rintro e w3 ⟨rfl, rfl⟩
  clear P1 P2 wa wb
  go_wp2_with fail
  refine wp_region_quiet_below (by kernel_rfl) (by kernel_rfl) ?_
  repeat (go_big_quiet_step (fail))
  refine wpQuiet_nil ?_
  intro _ hw'
  obtain ⟨⟨dq, osq⟩, hw''⟩ := hw'
  subst hw''
  have hb2 := below_regrown w2 dq osq
  generalize grow (redrawn w2 dq) osq = w3 at *
  have hDA := HDA.out.call hb2; have hDB := HDB.out.call hb2; have hW := BelowOn HW.out hb2
  clear hb2 HDA HDB HW em1 em2 wi wk
  generalize (if ca = i then pa else Option.map (fun x => x.add (i * 3)) pa) = qa at *
  generalize (if cb = k then pb else Option.map (fun x => x.add (k * 3)) pb) = qb at *
  have lA2 := HlA.out; have lB2 := HlB.out
  rw [← lA2, ← lB2]
  clear lA2 lB2 HlA HlB
  generalize ca - i = cA2 at *
  generalize cb - k = cB2 at *
  have h1 := hDA.dist hDB
  have HQ := Lib.hid (And.intro hDA (And.intro hDB hW))
  clear hDA hDB hW
  go_wp2_with fail
  refine h1.mono ?_; rintro e w4 ⟨rfl, hb⟩
  replace HQ := Lib.hid (And.intro (HQ.out.1.call hb) (And.intro (HQ.out.2.1.call hb) (BelowOn HQ.out.2.2 hb)))
  clear hb h1
  have h1 := HQ.out.1.least HQ.out.2.1
  generalize dis A2 B2 = D at *
  go_wp2_with fail
  refine h1.mono ?_; rintro e w5 ⟨rfl, hb⟩
  have HW := Lib.hid (BelowOn HQ.out.2.2 hb)
  clear hb h1 HQ
  go_wp2_with fail
  refine (LV.out _ HW.out).mono ?_; rintro e w6 ⟨rfl, hb⟩
  go_wp2_with fail
  go_ret
  exact ⟨rfl, hb⟩
end Go.Proofs.Ytpkipdiecnokhaa
namespace Go.Proofs.Ytpkipdiecnokhaa.distanceLeast
open Go.ChangeShapes Go.WideShapes Go.ChangeAt Go.RowKit
open Go.ChangeMaps (open_string shut_string)
set_option linter.unusedVariables false
set_option maxRecDepth 100000

theorem own : ownKnob Try.prog.godebug = none := by kernel_rfl
theorem laidOut : laidOutB Try.prog = true := by kernel_rfl


set_option maxHeartbeats 1600000 in
theorem walk (p0 : Option Addr) (c0 : Nat) (a0 : List Int) (p1 : Option Addr) (c1 : Nat) (a1 : List Int) (a2 : Int) (a3 : Int) (w : World) (r0 : Ones w (Value.int .i64) p0 a0) (o0 : ∀ i (h : i < a0.length), (Lit.int .i64 (a0[i]'h)).wf = true) (n0 : a0.length ≤ c0) (m0 : c0 ≤ maxLen) (r1 : Ones w (Value.int .i64) p1 a1) (o1 : ∀ i (h : i < a1.length), (Lit.int .i64 (a1[i]'h)).wf = true) (n1 : a1.length ≤ c1) (m1 : c1 ≤ maxLen) (w2 : (Lit.int .i64 a2).wf = true) (w3 : (Lit.int .i64 a3).wf = true) :
    Calls Try.prog 12 #[.slice p0 a0.length c0, .slice p1 a1.length c1, .int .i64 a2, .int .i64 a3] w fun e w' => e = .returned (.bool true) ∧ Below w.heap.size w w' := by
  exact least_law p0 c0 a0 p1 c1 a1 a2 a3 w r0 o0 n0 m0 r1 o1 n1 m1 w2 w3

theorem lifted (os : Os) (started : os.Started) (H : Type) (enc : TypeId × Value → H) :
    ReturnsInHanded {} Try.checked os 12 .any (Rows.distanceLeastSpec.pre6 enc Try.prog Try.f12 Rows.distanceLeastRow.domain false) (Rows.distanceLeastSpec.post enc Try.prog Try.f12 false true false false) := by
  refine returnsInHanded_of_change_sized (C := Try.checked) own started (by kernel_rfl) Try.func12
    (ChangeSpec.witness6 (enc := enc) (C := Try.checked) false ⟨#[], #[.slice none 0 0, .slice none 0 0, .int .i64 0, .int .i64 0], []⟩ 8 (by kernel_rfl) (by kernel_rfl) (by kernel_rfl) (by kernel_rfl)) ?_
  intro W base args ds gs before hval0 hW hcnd hsz0 _
  have hval : ∀ (j : Nat) t v, Try.f12.params[j]? = some t → args[j]? = some v → Value.okWide Try.prog W .any base t v := hval0
  have hW' := hW
  have hlt : ∀ x ∈ before, x.block < W.heap.size := fun x hx => hW'.lt x hx
  obtain ⟨p, q, hA0, hV, rfl, hfz, hnd⟩ := hW
  have hA : DataW.TrodAll enc Try.prog W 0 (fun _ => true) true Try.f12.params.toList args.toList ds p := hA0
  rw [Try.params12] at hA hval hsz0
  obtain ⟨v0, vs0, d0, ds0, p0, q0, hargs, rfl, rfl, h0, r0⟩ := trodAll_cons hA
  obtain ⟨v1, vs1, d1, ds1, p1, q1, rfl, rfl, rfl, h1, r1⟩ := trodAll_cons r0
  obtain ⟨v2, vs2, d2, ds2, p2, q2, rfl, rfl, rfl, h2, r2⟩ := trodAll_cons r1
  obtain ⟨v3, vs3, d3, ds3, p3, q3, rfl, rfl, rfl, h3, r3⟩ := trodAll_cons r2
  obtain ⟨rfl, rfl, rfl⟩ := trodAll_nil r3
  obtain rfl : args = #[v0, v1, v2, v3] := by cases args; simp_all
  obtain ⟨rfl, rfl⟩ := trodVars_none hV
  have hsz := hsz0; clear hsz0
  obtain ⟨pp0, c0, a0, rfl, n0, m0, y0, o0⟩ := opened_ints (okBase (hval 0 23 v0 rfl rfl)) h0
  obtain ⟨pp1, c1, a1, rfl, n1, m1, y1, o1⟩ := opened_ints (okBase (hval 1 23 v1 rfl rfl)) h1
  obtain ⟨a2, rfl, -, -, w2⟩ := open_int Try.underlying3 (hval 2 3 v2 rfl rfl) h2
  obtain ⟨a3, rfl, -, -, w3⟩ := open_int Try.underlying3 (hval 3 3 v3 rfl rfl) h3
  clear hA0 hval0
  refine (walk pp0 c0 a0 pp1 c1 a1 a2 a3 W y0 o0 n0 m0 y1 o1 n1 m1 w2 w3).mono fun e W' ⟨he, bel⟩ => ?_
  subst he
  exact ⟨_, rfl, _, _, _, [], _, [], hW', trodAll_mk1 (shut_bool Try.underlying4 _), (trodAll_cons_mk (Below.trod laidOut (by kernel_rfl) (of_decide_eq_true (by kernel_rfl)) h0 bel (fun x hx => hlt x (by simp [hx]))) (trodAll_cons_mk (Below.trod laidOut (by kernel_rfl) (of_decide_eq_true (by kernel_rfl)) h1 bel (fun x hx => hlt x (by simp [hx]))) (trodAll_cons_mk (Below.trod laidOut (by kernel_rfl) (of_decide_eq_true (by kernel_rfl)) h2 bel (fun x hx => hlt x (by simp [hx]))) (trodAll_cons_mk (Below.trod laidOut (by kernel_rfl) (of_decide_eq_true (by kernel_rfl)) h3 bel (fun x hx => hlt x (by simp [hx]))) trodAll_mk0)))), rfl, bel.frame _, fun h => by cases h⟩

theorem over : Rows.distanceLeastRow.holds Try.pinned (OpenSpec.ofChange Rows.distanceLeastSpec) :=
  OpenClaim.holds_of_wide 12 Try.f12 rfl rfl rfl rfl rfl rfl rfl ⟨rfl, rfl, rfl, rfl, rfl⟩ rfl rfl rfl rfl rfl (by kernel_rfl) Try.func12 (by kernel_rfl)
    (of_decide_eq_true (by kernel_rfl)) (by unfold Func.isWrapper; first | (rw [if_pos (by decide +kernel)]; kernel_rfl) | (rw [if_neg (by decide +kernel)]; exact ⟨rfl, rfl⟩))
    (fun os started H enc _ => lifted os started H enc)

theorem proved : Rows.DistanceLeastSaid := over
#print axioms proved
end Go.Proofs.Ytpkipdiecnokhaa.distanceLeast
