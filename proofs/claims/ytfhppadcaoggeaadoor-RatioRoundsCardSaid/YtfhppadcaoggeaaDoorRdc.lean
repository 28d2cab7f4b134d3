/- Contracts of reduce and of the reference's reduced. -/
import Derived.Test.YtfhppadcaoggeaaDoorRed
import Derived.Deep.RegionHeld3
import Derived.Deep.DrawnRows
import Derived.WalkSmall
import Derived.ChangeAlike
import Derived.RegionTactic
namespace Go.Proofs.YtfhppadcaoggeaaDoor
open Go.ChangeShapes Go.WideShapes Go.ChangeAt Go.RowKit
set_option linter.unusedVariables false
attribute [local go_sem ↓] Go.wp_at_zero Go.wp_at_succ

theorem bcell {W w1 : World} (hb : Below W.heap.size W w1) : (∀ b o, b < W.heap.size → w1.cell? ⟨b, o, none⟩ = W.cell? ⟨b, o, none⟩) ∧ (∀ b o, b < W.heap.size → w1.frozen? ⟨b, o, none⟩ = W.frozen? ⟨b, o, none⟩) :=
  ⟨fun b o h => hb.cell (p := ⟨b, o, none⟩) h, fun b o h => hb.frozen (p := ⟨b, o, none⟩) h⟩
/-- What reduce gives back. -/
def RedEnd (q : Rat) (w : World) (e : Ending) (w' : World) : Prop := e = .returned (.tuple #[.agg #[.int .i64 (qN q), .int .i64 (qD q)], .bool (fits q)]) ∧ Below w.heap.size w w'
theorem holds_q (n d : Int) (hd : 0 < d) (w : World) :
    Calls Tryd.prog 18 #[.agg #[.int .i64 (Rat.divInt n d).num, .int .i64 ((Rat.divInt n d).den : Int)]] w fun e w' => e = .returned (.bool (fits (Rat.divInt n d))) ∧ Below w.heap.size w w' :=
  (holds_any _ _ w).mono fun e w' ⟨he, hw⟩ => ⟨by rw [he, holdB_fits], hw⟩
theorem reduce_any (n d : Int) (w : World) (hd : 0 < d) (hd' : d ≤ 2305843009213693952) (h0 : -2305843009213693952 ≤ n) (h1 : n ≤ 2305843009213693952) :
    Calls Tryd.prog 25 #[.int .i64 n, .int .i64 d] w (RedEnd (Rat.divInt n d) w) := by
  have hg := fun w => gcd_any (n.natAbs : Int) d w (by omega) (by omega) (by omega) (by omega)
  rw [gcd_abs] at hg
  have hg1 := gcd_pos n d hd
  have hg2 := gcd_le n d hd
  have en := div_num n d hd
  have ed := div_den n d hd
  have hh := fun w => holds_q n d hd w
  have hq := q_val
  generalize (Int.gcd n d : Int) = g at hg hg1 hg2 en ed
  have bn := num_le n d hd
  have bd := den_le n d hd
  generalize Rat.divInt n d = q at *
  rw [← en, ← ed] at hh
  have HG := Lib.hid hg; clear hg
  have EN := Lib.hid en; clear en
  have ED := Lib.hid ed; clear ed
  cases hf : fits q
  · rw [hf] at hh
    have HF := Lib.hid hf; clear hf
    have HH := Lib.hid hh; clear hh
    go_enter Tryd.func25, Tryd.ntmps25
    go_wp2_with fail
    refine (size_any n _ (by omega) (by omega)).mono ?_; rintro e w1 ⟨rfl, rfl⟩
    go_wp2_with fail
    refine (HG.out _).mono ?_; rintro e w1 ⟨rfl, k, rfl⟩
    go_wp2_with fail
    go_region
    go_wp2_with fail
    refine (HH.out _).mono ?_; rintro e w1 ⟨rfl, hb⟩
    obtain ⟨hc, hz⟩ := bcell hb
    have c0 : w1.cell? ⟨w.heap.size, 0, none⟩ = some (.int .i64 0) := by rw [hc _ _ (by simp; omega)]; simp [go_sem]
    have c1 : w1.cell? ⟨w.heap.size, 1, none⟩ = some (.int .i64 0) := by rw [hc _ _ (by simp; omega)]; simp [go_sem]
    have hl : w.heap.size + 1 < w1.heap.size := by have := hb.size; simp at this; omega
    go_wp2_with fail
    refine bodyPost_ret (v := .tuple #[.agg #[.int .i64 0, .int .i64 0], .bool false]) (by simp [results, Tryd.results25, go_sem, c0, c1]) rfl ⟨?_, ?_⟩
    · rw [qN_no HF.out, qD_no HF.out, HF.out]
    · exact ((BelowOn ((below_drewN ((Below.refl _ _).alloc (Nat.le_refl _) _) _).alloc (by simp) _) hb).setCell (by simp) _).setCell (by simp) _
  · rw [hf] at hh
    have HF := Lib.hid hf; clear hf
    have HH := Lib.hid hh; clear hh
    go_enter Tryd.func25, Tryd.ntmps25
    go_wp2_with fail
    refine (size_any n _ (by omega) (by omega)).mono ?_; rintro e w1 ⟨rfl, rfl⟩
    go_wp2_with fail
    refine (HG.out _).mono ?_; rintro e w1 ⟨rfl, k, rfl⟩
    go_wp2_with fail
    go_region
    go_wp2_with fail
    refine (HH.out _).mono ?_; rintro e w1 ⟨rfl, hb⟩
    obtain ⟨hc, hz⟩ := bcell hb
    have c0 : w1.cell? ⟨w.heap.size, 0, none⟩ = some (.int .i64 0) := by rw [hc _ _ (by simp; omega)]; simp [go_sem]
    have c1 : w1.cell? ⟨w.heap.size, 1, none⟩ = some (.int .i64 0) := by rw [hc _ _ (by simp; omega)]; simp [go_sem]
    have hl : w.heap.size + 1 < w1.heap.size := by have := hb.size; simp at this; omega
    go_wp2_with fail
    refine bodyPost_ret (v := .tuple #[.agg #[.int .i64 (n.tdiv g), .int .i64 (d / g)], .bool true]) (by simp [results, Tryd.results25, go_sem, c0, c1]) rfl ⟨?_, ?_⟩
    · rw [EN.out, ED.out]; unfold qN qD; rw [if_pos HF.out, if_pos HF.out, HF.out]
    · exact ((BelowOn ((below_drewN ((Below.refl _ _).alloc (Nat.le_refl _) _) _).alloc (by simp) _) hb).setCell (by simp) _).setCell (by simp) _

theorem rred_pos_hi_yes (n d : Int) (w : World) (hd : 0 < d) (hd2 : d ≤ 2305843009213693952) (h0 : -2305843009213693952 ≤ n) (h1 : n ≤ 2305843009213693952) (hn : 0 ≤ n) (hf : fits (Rat.divInt n d) = true) :
    Calls Tryd.prog 23 #[.int .i64 n, .int .i64 d] w (RedEnd (Rat.divInt n d) w) := by
  have hg := fun w => rgcd_any (n.natAbs : Int) d w (by omega) (by omega) (by omega) (by omega)
  rw [gcd_abs] at hg
  have hg1 := gcd_pos n d hd
  have hg2 := gcd_le n d hd
  have en := div_num n d hd
  have ed := div_den n d hd
  generalize (Int.gcd n d : Int) = g at hg hg1 hg2 en ed
  have bn := num_le n d hd
  have bd := den_le n d hd
  generalize Rat.divInt n d = q at *
  have e : (n.natAbs : Int) = n := by omega
  rw [e] at hg; clear e
  have HG := Lib.hid hg; clear hg
  have EN := Lib.hid en
  have ED := Lib.hid ed
  have hdp := q.den_pos
  rw [← en] at bn
  rw [← ed] at bd
  have hff := hf
  unfold fits at hff
  have hff := of_decide_eq_true hff
  rw [← en, ← ed] at hff
  have HF := Lib.hid hf; clear hf en ed
  obtain ⟨b1, b2, b3⟩ := hff
  go_enter Tryd.func23, Tryd.ntmps23
  go_wp2_with fail
  refine (HG.out _).mono ?_; rintro e w1 ⟨rfl, k, rfl⟩
  go_wp2_with fail
  go_quiet (fail)
  go_wp2_with fail
  refine bodyPost_ret (v := .tuple #[.agg #[.int .i64 (Int.tdiv n g), .int .i64 (d / g)], .bool true]) (by simp [results, Tryd.results23, go_sem]) rfl ⟨?_, ?_⟩
  · rw [EN.out, ED.out]; unfold qN qD; rw [if_pos HF.out, if_pos HF.out, HF.out]
  · exact ((below_drewN ((Below.refl _ _).alloc (Nat.le_refl _) _) _).setCell (by simp) _).setCell (by simp) _

theorem rred_pos_hi_no (n d : Int) (w : World) (hd : 0 < d) (hd2 : d ≤ 2305843009213693952) (h0 : -2305843009213693952 ≤ n) (h1 : n ≤ 2305843009213693952) (hn : 0 ≤ n) (hf : fits (Rat.divInt n d) = false) :
    Calls Tryd.prog 23 #[.int .i64 n, .int .i64 d] w (RedEnd (Rat.divInt n d) w) := by
  have hg := fun w => rgcd_any (n.natAbs : Int) d w (by omega) (by omega) (by omega) (by omega)
  rw [gcd_abs] at hg
  have hg1 := gcd_pos n d hd
  have hg2 := gcd_le n d hd
  have en := div_num n d hd
  have ed := div_den n d hd
  generalize (Int.gcd n d : Int) = g at hg hg1 hg2 en ed
  have bn := num_le n d hd
  have bd := den_le n d hd
  generalize Rat.divInt n d = q at *
  have e : (n.natAbs : Int) = n := by omega
  rw [e] at hg; clear e
  have HG := Lib.hid hg; clear hg
  have EN := Lib.hid en
  have ED := Lib.hid ed
  have hdp := q.den_pos
  rw [← en] at bn
  rw [← ed] at bd
  have hff := hf
  unfold fits at hff
  have hff := of_decide_eq_false hff
  rw [← en, ← ed] at hff
  have HF := Lib.hid hf; clear hf en ed
  go_enter Tryd.func23, Tryd.ntmps23
  go_wp2_with fail
  refine (HG.out _).mono ?_; rintro e w1 ⟨rfl, k, rfl⟩
  go_wp2_with fail
  go_quiet (fail)
  go_wp2_with fail
  all_goals refine bodyPost_ret (v := .tuple #[.agg #[.int .i64 0, .int .i64 0], .bool false]) (by simp [results, Tryd.results23, go_sem]) rfl ⟨?_, ?_⟩
  all_goals first
    | (rw [qN_no HF.out, qD_no HF.out, HF.out]; done)
    | exact ((below_drewN ((Below.refl _ _).alloc (Nat.le_refl _) _) _).setCell (by simp) _).setCell (by simp) _

theorem rred_pos_lo_yes (n d : Int) (w : World) (hd : 0 < d) (hd2 : d ≤ 2305843009213693952) (h0 : -2305843009213693952 ≤ n) (h1 : n ≤ 2305843009213693952) (hn : n < 0) (hf : fits (Rat.divInt n d) = true) :
    Calls Tryd.prog 23 #[.int .i64 n, .int .i64 d] w (RedEnd (Rat.divInt n d) w) := by
  have hg := fun w => rgcd_any (n.natAbs : Int) d w (by omega) (by omega) (by omega) (by omega)
  rw [gcd_abs] at hg
  have hg1 := gcd_pos n d hd
  have hg2 := gcd_le n d hd
  have en := div_num n d hd
  have ed := div_den n d hd
  generalize (Int.gcd n d : Int) = g at hg hg1 hg2 en ed
  have bn := num_le n d hd
  have bd := den_le n d hd
  generalize Rat.divInt n d = q at *
  have e : (n.natAbs : Int) = -n := by omega
  rw [e] at hg; clear e
  have HG := Lib.hid hg; clear hg
  have EN := Lib.hid en
  have ED := Lib.hid ed
  have hdp := q.den_pos
  rw [← en] at bn
  rw [← ed] at bd
  have hff := hf
  unfold fits at hff
  have hff := of_decide_eq_true hff
  rw [← en, ← ed] at hff
  have HF := Lib.hid hf; clear hf en ed
  obtain ⟨b1, b2, b3⟩ := hff
  go_enter Tryd.func23, Tryd.ntmps23
  go_wp2_with fail
  refine (HG.out _).mono ?_; rintro e w1 ⟨rfl, k, rfl⟩
  go_wp2_with fail
  go_quiet (fail)
  go_wp2_with fail
  refine bodyPost_ret (v := .tuple #[.agg #[.int .i64 (Int.tdiv n g), .int .i64 (d / g)], .bool true]) (by simp [results, Tryd.results23, go_sem]) rfl ⟨?_, ?_⟩
  · rw [EN.out, ED.out]; unfold qN qD; rw [if_pos HF.out, if_pos HF.out, HF.out]
  · exact ((below_drewN ((Below.refl _ _).alloc (Nat.le_refl _) _) _).setCell (by simp) _).setCell (by simp) _

theorem rred_pos_lo_no (n d : Int) (w : World) (hd : 0 < d) (hd2 : d ≤ 2305843009213693952) (h0 : -2305843009213693952 ≤ n) (h1 : n ≤ 2305843009213693952) (hn : n < 0) (hf : fits (Rat.divInt n d) = false) :
    Calls Tryd.prog 23 #[.int .i64 n, .int .i64 d] w (RedEnd (Rat.divInt n d) w) := by
  have hg := fun w => rgcd_any (n.natAbs : Int) d w (by omega) (by omega) (by omega) (by omega)
  rw [gcd_abs] at hg
  have hg1 := gcd_pos n d hd
  have hg2 := gcd_le n d hd
  have en := div_num n d hd
  have ed := div_den n d hd
  generalize (Int.gcd n d : Int) = g at hg hg1 hg2 en ed
  have bn := num_le n d hd
  have bd := den_le n d hd
  generalize Rat.divInt n d = q at *
  have e : (n.natAbs : Int) = -n := by omega
  rw [e] at hg; clear e
  have HG := Lib.hid hg; clear hg
  have EN := Lib.hid en
  have ED := Lib.hid ed
  have hdp := q.den_pos
  rw [← en] at bn
  rw [← ed] at bd
  have hff := hf
  unfold fits at hff
  have hff := of_decide_eq_false hff
  rw [← en, ← ed] at hff
  have HF := Lib.hid hf; clear hf en ed
  go_enter Tryd.func23, Tryd.ntmps23
  go_wp2_with fail
  refine (HG.out _).mono ?_; rintro e w1 ⟨rfl, k, rfl⟩
  go_wp2_with fail
  go_quiet (fail)
  go_wp2_with fail
  all_goals refine bodyPost_ret (v := .tuple #[.agg #[.int .i64 0, .int .i64 0], .bool false]) (by simp [results, Tryd.results23, go_sem]) rfl ⟨?_, ?_⟩
  all_goals first
    | (rw [qN_no HF.out, qD_no HF.out, HF.out]; done)
    | exact ((below_drewN ((Below.refl _ _).alloc (Nat.le_refl _) _) _).setCell (by simp) _).setCell (by simp) _

theorem rred_neg_hi_yes (n d : Int) (w : World) (hd : 0 < d) (hd2 : d ≤ 2305843009213693952) (h0 : -2305843009213693952 ≤ n) (h1 : n ≤ 2305843009213693952) (hn : 0 ≤ n) (hf : fits (Rat.divInt n d) = true) :
    Calls Tryd.prog 23 #[.int .i64 (-n), .int .i64 (-d)] w (RedEnd (Rat.divInt n d) w) := by
  have hg := fun w => rgcd_any (n.natAbs : Int) d w (by omega) (by omega) (by omega) (by omega)
  rw [gcd_abs] at hg
  have hg1 := gcd_pos n d hd
  have hg2 := gcd_le n d hd
  have en := div_num n d hd
  have ed := div_den n d hd
  generalize (Int.gcd n d : Int) = g at hg hg1 hg2 en ed
  have bn := num_le n d hd
  have bd := den_le n d hd
  generalize Rat.divInt n d = q at *
  have e : (n.natAbs : Int) = n := by omega
  rw [e] at hg; clear e
  have HG := Lib.hid hg; clear hg
  have EN := Lib.hid en
  have ED := Lib.hid ed
  have hdp := q.den_pos
  rw [← en] at bn
  rw [← ed] at bd
  have hff := hf
  unfold fits at hff
  have hff := of_decide_eq_true hff
  rw [← en, ← ed] at hff
  have HF := Lib.hid hf; clear hf en ed
  obtain ⟨b1, b2, b3⟩ := hff
  go_enter Tryd.func23, Tryd.ntmps23
  go_wp2_with fail
  refine (HG.out _).mono ?_; rintro e w1 ⟨rfl, k, rfl⟩
  go_wp2_with fail
  go_quiet (fail)
  go_wp2_with fail
  refine bodyPost_ret (v := .tuple #[.agg #[.int .i64 (Int.tdiv n g), .int .i64 (d / g)], .bool true]) (by simp [results, Tryd.results23, go_sem]) rfl ⟨?_, ?_⟩
  · rw [EN.out, ED.out]; unfold qN qD; rw [if_pos HF.out, if_pos HF.out, HF.out]
  · exact ((below_drewN ((Below.refl _ _).alloc (Nat.le_refl _) _) _).setCell (by simp) _).setCell (by simp) _

theorem rred_neg_hi_no (n d : Int) (w : World) (hd : 0 < d) (hd2 : d ≤ 2305843009213693952) (h0 : -2305843009213693952 ≤ n) (h1 : n ≤ 2305843009213693952) (hn : 0 ≤ n) (hf : fits (Rat.divInt n d) = false) :
    Calls Tryd.prog 23 #[.int .i64 (-n), .int .i64 (-d)] w (RedEnd (Rat.divInt n d) w) := by
  have hg := fun w => rgcd_any (n.natAbs : Int) d w (by omega) (by omega) (by omega) (by omega)
  rw [gcd_abs] at hg
  have hg1 := gcd_pos n d hd
  have hg2 := gcd_le n d hd
  have en := div_num n d hd
  have ed := div_den n d hd
  generalize (Int.gcd n d : Int) = g at hg hg1 hg2 en ed
  have bn := num_le n d hd
  have bd := den_le n d hd
  generalize Rat.divInt n d = q at *
  have e : (n.natAbs : Int) = n := by omega
  rw [e] at hg; clear e
  have HG := Lib.hid hg; clear hg
  have EN := Lib.hid en
  have ED := Lib.hid ed
  have hdp := q.den_pos
  rw [← en] at bn
  rw [← ed] at bd
  have hff := hf
  unfold fits at hff
  have hff := of_decide_eq_false hff
  rw [← en, ← ed] at hff
  have HF := Lib.hid hf; clear hf en ed
  go_enter Tryd.func23, Tryd.ntmps23
  go_wp2_with fail
  refine (HG.out _).mono ?_; rintro e w1 ⟨rfl, k, rfl⟩
  go_wp2_with fail
  go_quiet (fail)
  go_wp2_with fail
  all_goals refine bodyPost_ret (v := .tuple #[.agg #[.int .i64 0, .int .i64 0], .bool false]) (by simp [results, Tryd.results23, go_sem]) rfl ⟨?_, ?_⟩
  all_goals first
    | (rw [qN_no HF.out, qD_no HF.out, HF.out]; done)
    | exact ((below_drewN ((Below.refl _ _).alloc (Nat.le_refl _) _) _).setCell (by simp) _).setCell (by simp) _

theorem rred_neg_lo_yes (n d : Int) (w : World) (hd : 0 < d) (hd2 : d ≤ 2305843009213693952) (h0 : -2305843009213693952 ≤ n) (h1 : n ≤ 2305843009213693952) (hn : n < 0) (hf : fits (Rat.divInt n d) = true) :
    Calls Tryd.prog 23 #[.int .i64 (-n), .int .i64 (-d)] w (RedEnd (Rat.divInt n d) w) := by
  have hg := fun w => rgcd_any (n.natAbs : Int) d w (by omega) (by omega) (by omega) (by omega)
  rw [gcd_abs] at hg
  have hg1 := gcd_pos n d hd
  have hg2 := gcd_le n d hd
  have en := div_num n d hd
  have ed := div_den n d hd
  generalize (Int.gcd n d : Int) = g at hg hg1 hg2 en ed
  have bn := num_le n d hd
  have bd := den_le n d hd
  generalize Rat.divInt n d = q at *
  have e : (n.natAbs : Int) = -n := by omega
  rw [e] at hg; clear e
  have HG := Lib.hid hg; clear hg
  have EN := Lib.hid en
  have ED := Lib.hid ed
  have hdp := q.den_pos
  rw [← en] at bn
  rw [← ed] at bd
  have hff := hf
  unfold fits at hff
  have hff := of_decide_eq_true hff
  rw [← en, ← ed] at hff
  have HF := Lib.hid hf; clear hf en ed
  obtain ⟨b1, b2, b3⟩ := hff
  go_enter Tryd.func23, Tryd.ntmps23
  go_wp2_with fail
  refine (HG.out _).mono ?_; rintro e w1 ⟨rfl, k, rfl⟩
  go_wp2_with fail
  go_quiet (fail)
  go_wp2_with fail
  refine bodyPost_ret (v := .tuple #[.agg #[.int .i64 (Int.tdiv n g), .int .i64 (d / g)], .bool true]) (by simp [results, Tryd.results23, go_sem]) rfl ⟨?_, ?_⟩
  · rw [EN.out, ED.out]; unfold qN qD; rw [if_pos HF.out, if_pos HF.out, HF.out]
  · exact ((below_drewN ((Below.refl _ _).alloc (Nat.le_refl _) _) _).setCell (by simp) _).setCell (by simp) _

theorem rred_neg_lo_no (n d : Int) (w : World) (hd : 0 < d) (hd2 : d ≤ 2305843009213693952) (h0 : -2305843009213693952 ≤ n) (h1 : n ≤ 2305843009213693952) (hn : n < 0) (hf : fits (Rat.divInt n d) = false) :
    Calls Tryd.prog 23 #[.int .i64 (-n), .int .i64 (-d)] w (RedEnd (Rat.divInt n d) w) := by
  have hg := fun w => rgcd_any (n.natAbs : Int) d w (by omega) (by omega) (by omega) (by omega)
  rw [gcd_abs] at hg
  have hg1 := gcd_pos n d hd
  have hg2 := gcd_le n d hd
  have en := div_num n d hd
  have ed := div_den n d hd
  generalize (Int.gcd n d : Int) = g at hg hg1 hg2 en ed
  have bn := num_le n d hd
  have bd := den_le n d hd
  generalize Rat.divInt n d = q at *
  have e : (n.natAbs : Int) = -n := by omega
  rw [e] at hg; clear e
  have HG := Lib.hid hg; clear hg
  have EN := Lib.hid en
  have ED := Lib.hid ed
  have hdp := q.den_pos
  rw [← en] at bn
  rw [← ed] at bd
  have hff := hf
  unfold fits at hff
  have hff := of_decide_eq_false hff
  rw [← en, ← ed] at hff
  have HF := Lib.hid hf; clear hf en ed
  go_enter Tryd.func23, Tryd.ntmps23
  go_wp2_with fail
  refine (HG.out _).mono ?_; rintro e w1 ⟨rfl, k, rfl⟩
  go_wp2_with fail
  go_quiet (fail)
  go_wp2_with fail
  all_goals refine bodyPost_ret (v := .tuple #[.agg #[.int .i64 0, .int .i64 0], .bool false]) (by simp [results, Tryd.results23, go_sem]) rfl ⟨?_, ?_⟩
  all_goals first
    | (rw [qN_no HF.out, qD_no HF.out, HF.out]; done)
    | exact ((below_drewN ((Below.refl _ _).alloc (Nat.le_refl _) _) _).setCell (by simp) _).setCell (by simp) _

theorem rred_pos (n d : Int) (w : World) (hd : 0 < d) (hd2 : d ≤ 2305843009213693952) (h0 : -2305843009213693952 ≤ n) (h1 : n ≤ 2305843009213693952) :
    Calls Tryd.prog 23 #[.int .i64 n, .int .i64 d] w (RedEnd (Rat.divInt n d) w) := by
  by_cases hn : n < 0
  · cases hf : fits (Rat.divInt n d)
    · exact rred_pos_lo_no n d w hd hd2 h0 h1 hn hf
    · exact rred_pos_lo_yes n d w hd hd2 h0 h1 hn hf
  · cases hf : fits (Rat.divInt n d)
    · exact rred_pos_hi_no n d w hd hd2 h0 h1 (by omega) hf
    · exact rred_pos_hi_yes n d w hd hd2 h0 h1 (by omega) hf
theorem rred_any (n d : Int) (w : World) (hd : d ≠ 0) (hd2 : d ≤ 2305843009213693952) (hd3 : -2305843009213693952 ≤ d) (h0 : -2305843009213693952 ≤ n) (h1 : n ≤ 2305843009213693952) :
    Calls Tryd.prog 23 #[.int .i64 n, .int .i64 d] w (RedEnd (Rat.divInt n d) w) := by
  by_cases hp : 0 < d
  · exact rred_pos n d w hp hd2 h0 h1
  · obtain ⟨m, rfl⟩ : ∃ m, n = -m := ⟨-n, by omega⟩
    obtain ⟨c, rfl⟩ : ∃ c, d = -c := ⟨-d, by omega⟩
    rw [Rat.neg_divInt_neg]
    by_cases hn : m < 0
    · cases hf : fits (Rat.divInt m c)
      · exact rred_neg_lo_no m c w (by omega) (by omega) (by omega) (by omega) hn hf
      · exact rred_neg_lo_yes m c w (by omega) (by omega) (by omega) (by omega) hn hf
    · cases hf : fits (Rat.divInt m c)
      · exact rred_neg_hi_no m c w (by omega) (by omega) (by omega) (by omega) (by omega) hf
      · exact rred_neg_hi_yes m c w (by omega) (by omega) (by omega) (by omega) (by omega) hf
end Go.Proofs.YtfhppadcaoggeaaDoor
