/- Contracts of Sum at no slice, and of the reference's Sum. -/
import Derived.Test.YtfhppadcaoggeaaSum
namespace Go.Proofs.Ytfhppadcaoggeaa
open Go.ChangeShapes Go.WideShapes Go.ChangeAt Go.RowKit
set_option linter.unusedVariables false
attribute [local go_sem ↓] Go.wp_at_zero Go.wp_at_succ

theorem sum_nil (w : World) : Calls Try.prog 28 #[.slice none 0 0] w (OptEnd (sumS []) w) := by
  go_enter Try.func28, Try.ntmps28
  go_wp2_with fail
  go_loopw [12] (fun i wr => i = .int .i64 0 ∧ SumRel [] w 0 0 wr) (fun _ _ => 0)
  case atStart =>
    refine ⟨rfl, Nat.zero_le _, rfl, ((Below.refl _ _).alloc (Nat.le_refl _) _).alloc (by simp) _, ?_, ?_, ?_, ?_⟩
    · exact twoNew _ _ _ _ (by simp)
    · have := Free.new (w.alloc (.cells #[.int .i64 0, .int .i64 0] 24)) (.int .i64 0) (.int .i64 1); simpa using this
    · exact (twoNew _ _ _ _ rfl).alloc _
    · exact (Free.new _ _ _).alloc (by simp) _
  case round =>
    obtain ⟨rfl, hS⟩ := hrel
    obtain ⟨c10, c11, l1⟩ : Two wr (w.heap.size + 1) (.int .i64 0) (.int .i64 1) := hS.acc
    obtain ⟨c00, c01, l0⟩ := id hS.res
    obtain ⟨f00, f01⟩ := id hS.resf
    go_wp2_with fail
    refine bodyPost_ret (v := .tuple #[.agg #[.int .i64 0, .int .i64 1], .bool true]) (by simp [results, Try.results28, go_sem, c00, c01]) rfl ⟨?_, ?_⟩
    · rw [show oN (sumS []) = 0 from by decide +kernel, show oD (sumS []) = 1 from by decide +kernel, show oB (sumS []) = true from by decide +kernel]
    · exact (hS.below.setCell (by simp) _).setCell (by simp) _

theorem Free.drew {W : World} {b : Nat} (h : Free W b) : Free W.drew b := h
/-- What the first loop of the reference's Sum keeps. -/
structure ValRel (l : List (Int × Int)) (w : World) (k : Nat) (wr : World) : Prop where
  le : k ≤ l.length
  all : ∀ i (h : i < l.length), i < k → valB l[i].1 l[i].2 = true
  below : Below w.heap.size w wr
  res : Two wr w.heap.size (.int .i64 0) (.int .i64 0)
  resf : Free wr w.heap.size
theorem radd_not (q : Rat) (x : Int × Int) (w : World) (hq : fits q = true) (h : ¬ (valB x.1 x.2 = true ∧ fits (q + Rat.divInt x.1 x.2) = true)) :
    Calls Try.prog 16 #[.agg #[.int .i64 q.num, .int .i64 (q.den : Int)], .agg #[.int .i64 x.1, .int .i64 x.2]] w fun e w' => e = .returned (.tuple #[.agg #[.int .i64 0, .int .i64 0], .bool false]) ∧ Below w.heap.size w w' := by
  refine (radd_any q.num q.den x.1 x.2 w).mono fun e w' ⟨he, hb⟩ => ⟨?_, hb⟩
  rw [he]; unfold addQ
  by_cases hv : valB x.1 x.2 = true
  · have hf : fits (q + Rat.divInt x.1 x.2) = false := by
      cases hf : fits (q + Rat.divInt x.1 x.2)
      · rfl
      · exact absurd ⟨hv, hf⟩ h
    rw [if_pos ⟨fits_val q hq, hv⟩, Rat.num_divInt_den]
    show Ending.returned (.tuple #[.agg #[.int .i64 (qN (q + Rat.divInt x.1 x.2)), .int .i64 (qD (q + Rat.divInt x.1 x.2))], .bool (fits (q + Rat.divInt x.1 x.2))]) = _
    rw [qN_no hf, qD_no hf, hf]
  · rw [if_neg (fun hh => hv hh.2)]; rfl
theorem radd_yes (q : Rat) (x : Int × Int) (w : World) (hq : fits q = true) (h : valB x.1 x.2 = true ∧ fits (q + Rat.divInt x.1 x.2) = true) :
    Calls Try.prog 16 #[.agg #[.int .i64 q.num, .int .i64 (q.den : Int)], .agg #[.int .i64 x.1, .int .i64 x.2]] w (GotQ (q + Rat.divInt x.1 x.2) w) :=
  (radd_any q.num q.den x.1 x.2 w).mono fun e w' h' => got_of (by unfold addQ; rw [if_pos ⟨fits_val q hq, h.1⟩, Rat.num_divInt_den]) h.2 h'
/-- What the second loop keeps: w1 is the world in which it began, b the sum's variable. -/
structure RsRel (l : List (Int × Int)) (w : World) (b k : Nat) (q : Rat) (wr : World) : Prop where
  le : k ≤ l.length
  sum : sumS (l.take k) = some q
  below : Below w.heap.size w wr
  acc : Two wr b (.int .i64 q.num) (.int .i64 (q.den : Int))
  accf : Free wr b
  res : Two wr w.heap.size (.int .i64 0) (.int .i64 0)
  resf : Free wr w.heap.size

set_option maxHeartbeats 2000000 in
theorem rsum_some (a : Addr) (cap : Nat) (l : List (Int × Int)) (w : World) (hR : Rats w a l) (hc : l.length ≤ cap) (hm : cap ≤ maxLen) :
    Calls Try.prog 29 #[.slice (some a) l.length cap] w (OptEnd (sumS l) w) := by
  unfold maxLen at hm
  go_enter Try.func29, Try.ntmps29
  go_wp2_with fail
  go_loopw [10] (fun i wr => ∃ k : Nat, i = .int .i64 k ∧ ValRel l w k wr) (fun i _ => l.length - (intOf i).toNat)
  case atStart =>
    exact ⟨0, rfl, Nat.zero_le _, fun i h hi => by omega, (Below.refl _ _).alloc (Nat.le_refl _) _, twoNew _ _ _ _ rfl, Free.new _ _ _⟩
  case round =>
    obtain ⟨k, rfl, hS⟩ := hrel
    by_cases hlt : k < l.length
    · obtain ⟨e0, e1⟩ := (hR.call hS.below).cells k hlt
      have hall := Lib.hid hS.all
      generalize hx : l[k] = x at *
      have HX := Lib.hid hx; clear hx
      have hv := fun w => rvalid_any x.1 x.2 w
      cases hok : valB x.1 x.2
      · rw [hok] at hv
        have HV := Lib.hid hv; have HOK := Lib.hid hok; clear hv hok
        obtain ⟨c00, c01, l0⟩ := id hS.res
        go_wp2_with fail
        refine (HV.out _).mono ?_; rintro e w1 ⟨rfl, hb⟩
        clear e0 e1 c00 c01 l0
        have T0 := hS.res.call hb
        have F0 := hS.resf.call hS.res.lt hb
        have hB := BelowOn hS.below hb
        obtain ⟨c00, c01, l0⟩ := id T0
        obtain ⟨f00, f01⟩ := id F0
        go_wp2_with fail
        have ho : sumS l = none := sumS_invalid l k hlt (by rw [HX.out]; exact HOK.out)
        rw [ho]
        refine bodyPost_ret (v := .tuple #[.agg #[.int .i64 0, .int .i64 0], .bool false]) (by simp [results, Try.results29, go_sem, c00, c01]) rfl ⟨rfl, ?_⟩
        exact (hB.setCell (by simp) _).setCell (by simp) _
      · rw [hok] at hv
        have HV := Lib.hid hv; have HOK := Lib.hid hok; clear hv hok
        go_wp2_with fail
        refine (HV.out _).mono ?_; rintro e w1 ⟨rfl, hb⟩
        clear e0 e1
        have T0 := hS.res.call hb
        have F0 := hS.resf.call hS.res.lt hb
        have hB := BelowOn hS.below hb
        go_wp2_with fail
        go_roundw
        case rel =>
          refine ⟨k + 1, by go_num, hlt, fun i h hi => ?_, hB, T0, F0⟩
          by_cases e : i = k
          · subst e; rw [HX.out]; exact HOK.out
          · exact hall.out i h (by omega)
        case measure => simp [intOf]; omega
    · have hk : k = l.length := by have := hS.le; omega
      have HALL := Lib.hid hS.all
      have HK := Lib.hid hk; clear hk
      have hSb := hS.below; have hSr := hS.res; have hSf := hS.resf
      clear hS
      obtain ⟨wo, rfl⟩ : ∃ wo : World, wo = wr := ⟨_, rfl⟩
      go_wp2_with fail
      go_loopw [24] (fun i wr => ∃ k : Nat, ∃ q : Rat, i = .int .i64 k ∧ RsRel l w wo.heap.size k q wr) (fun i _ => l.length - (intOf i).toNat)
      case atStart =>
        refine ⟨0, 0, rfl, Nat.zero_le _, rfl, blw hSb _, ?_, ?_, hSr.alloc _, hSf.alloc hSr.lt _⟩
        · exact twoNew _ _ _ _ rfl
        · exact Free.new _ _ _
      case round =>
        obtain ⟨j, q, rfl, hS⟩ := hrel
        have hne : w.heap.size ≠ wo.heap.size := by have := hSr.lt; omega
        have hge := hSb.size
        by_cases hlt : j < l.length
        · obtain ⟨e0, e1⟩ := (hR.call hS.below).cells j hlt
          have hq := sumS_fits _ q hS.sum
          obtain ⟨c10, c11, l1⟩ := id hS.acc
          obtain ⟨f10, f11⟩ := id hS.accf
          generalize hx : l[j] = x at *
          have HX := Lib.hid hx; clear hx
          by_cases hok : valB x.1 x.2 = true ∧ fits (q + Rat.divInt x.1 x.2) = true
          · have ha := fun w => radd_yes q x w hq hok
            have HA := Lib.hid ha; have HOK := Lib.hid hok; clear ha hok hq
            go_wp2_with fail
            first | go_region_with ((go_at_call 16; refine (HA.out _).mono ?_; rintro e w1 ⟨rfl, hb⟩; (have T1 : Two w1 wo.heap.size _ _ := (Two.drew hS.acc).call hb); (have F1 : Free w1 wo.heap.size := (Free.drew hS.accf).call (Two.drew hS.acc).lt hb); (have T0 : Two w1 w.heap.size _ _ := (Two.drew hS.res).call hb); (have F0 : Free w1 w.heap.size := (Free.drew hS.resf).call (Two.drew hS.res).lt hb); (have hB : Below w.heap.size w w1 := BelowOn hS.below.drew hb); (obtain ⟨d10, d11, m1⟩ := id T1); (obtain ⟨g10, g11⟩ := id F1); (obtain ⟨d00, d01, m0⟩ := id T0); (obtain ⟨g00, g01⟩ := id F0))) | fail
            all_goals clear c10 c11 l1 f10 f11 e0 e1
            all_goals go_wp2_with fail
            all_goals go_roundw
            all_goals first
              | (simp [intOf]; omega)
              | (refine ⟨j + 1, _, by go_num, hlt, ?_, (hB.setCell (by simpa using hge) _).setCell (by simpa using hge) _, T1.set _ _, (F1.set _ _).set _ _, T0.setOther hne _ _, (F0.set _ _).set _ _⟩; rw [List.take_succ_eq_append_getElem hlt, sumS_snoc, hS.sum, HX.out]; exact if_pos HOK.out)
          · have ha := fun w => radd_not q x w hq hok
            have HA := Lib.hid ha; have HOK := Lib.hid hok; clear ha hok hq
            go_wp2_with fail
            first | go_region_with ((go_at_call 16; refine (HA.out _).mono ?_; rintro e w1 ⟨rfl, hb⟩; (have T1 : Two w1 wo.heap.size _ _ := (Two.drew hS.acc).call hb); (have F1 : Free w1 wo.heap.size := (Free.drew hS.accf).call (Two.drew hS.acc).lt hb); (have T0 : Two w1 w.heap.size _ _ := (Two.drew hS.res).call hb); (have F0 : Free w1 w.heap.size := (Free.drew hS.resf).call (Two.drew hS.res).lt hb); (have hB : Below w.heap.size w w1 := BelowOn hS.below.drew hb); (obtain ⟨d10, d11, m1⟩ := id T1); (obtain ⟨g10, g11⟩ := id F1); (obtain ⟨d00, d01, m0⟩ := id T0); (obtain ⟨g00, g01⟩ := id F0))) | fail
            all_goals clear c10 c11 l1 f10 f11 e0 e1
            all_goals go_wp2_with fail
            all_goals (have ho : sumS l = none := sumS_fail l (j + 1) (by
              rw [List.take_succ_eq_append_getElem hlt, sumS_snoc, hS.sum, HX.out]; exact if_neg HOK.out))
            all_goals rw [ho]
            all_goals refine bodyPost_ret (v := .tuple #[.agg #[.int .i64 0, .int .i64 0], .bool false]) (by simp [results, Try.results29, go_sem, d00, d01]) rfl ⟨rfl, ?_⟩
            all_goals exact (((hB.setCell (by simpa using hge) _).setCell (by simpa using hge) _).setCell (by simp) _).setCell (by simp) _
        · have hj : j = l.length := by have := hS.le; omega
          obtain ⟨c10, c11, l1⟩ := id hS.acc
          obtain ⟨c00, c01, l0⟩ := id hS.res
          obtain ⟨f00, f01⟩ := id hS.resf
          have hs := hS.sum
          rw [hj, List.take_length] at hs
          have hf := sumS_fits _ q hs
          have HS := Lib.hid hs; have HF := Lib.hid hf; have HJ := Lib.hid hj; clear hs hf hj
          go_wp2_with fail
          rw [HS.out]
          refine bodyPost_ret (v := .tuple #[.agg #[.int .i64 q.num, .int .i64 (q.den : Int)], .bool true]) (by simp [results, Try.results29, go_sem, c00, c01]) rfl ⟨?_, ?_⟩
          · unfold oN oD oB qN qD; simp only [HF.out]; rfl
          · exact (hS.below.setCell (by simp) _).setCell (by simp) _

theorem rsum_nil (w : World) : Calls Try.prog 29 #[.slice none 0 0] w (OptEnd (sumS []) w) := by
  go_enter Try.func29, Try.ntmps29
  go_wp2_with fail
  go_loopw [10] (fun i wr => i = .int .i64 0 ∧ ValRel [] w 0 wr) (fun _ _ => 0)
  case atStart => exact ⟨rfl, Nat.zero_le _, fun i h hi => by omega, (Below.refl _ _).alloc (Nat.le_refl _) _, twoNew _ _ _ _ rfl, Free.new _ _ _⟩
  case round =>
    obtain ⟨rfl, hS⟩ := hrel
    obtain ⟨wo, rfl⟩ : ∃ wo : World, wo = wr := ⟨_, rfl⟩
    go_wp2_with fail
    go_loopw [24] (fun i wr => i = .int .i64 0 ∧ RsRel [] w wo.heap.size 0 0 wr) (fun _ _ => 0)
    case atStart =>
      refine ⟨rfl, Nat.zero_le _, rfl, blw hS.below _, ?_, ?_, hS.res.alloc _, hS.resf.alloc hS.res.lt _⟩
      · exact twoNew _ _ _ _ rfl
      · exact Free.new _ _ _
    case round =>
      obtain ⟨rfl, hT⟩ := hrel
      obtain ⟨c10, c11, l1⟩ : Two wr wo.heap.size (.int .i64 0) (.int .i64 1) := hT.acc
      obtain ⟨c00, c01, l0⟩ := id hT.res
      obtain ⟨f00, f01⟩ := id hT.resf
      go_wp2_with fail
      refine bodyPost_ret (v := .tuple #[.agg #[.int .i64 0, .int .i64 1], .bool true]) (by simp [results, Try.results29, go_sem, c00, c01]) rfl ⟨?_, ?_⟩
      · rw [show oN (sumS []) = 0 from by decide +kernel, show oD (sumS []) = 1 from by decide +kernel, show oB (sumS []) = true from by decide +kernel]
      · exact (hT.below.setCell (by simp) _).setCell (by simp) _
end Go.Proofs.Ytfhppadcaoggeaa
