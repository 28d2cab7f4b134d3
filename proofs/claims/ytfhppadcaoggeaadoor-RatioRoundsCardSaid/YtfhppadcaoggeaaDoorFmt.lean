/- Contracts of power and Format. -/
import Derived.Test.YtfhppadcaoggeaaDoorDec
namespace Go.Proofs.YtfhppadcaoggeaaDoor
open Go.ChangeShapes Go.WideShapes Go.ChangeAt Go.RowKit
open Go.Lib (decDigits)
set_option linter.unusedVariables false

theorem pow_le (j k : Nat) (h : j ≤ k) (hk : k ≤ 6) : 1 ≤ 10 ^ j ∧ 10 ^ j ≤ 1000000 := by
  rcases (by omega : j = 0 ∨ j = 1 ∨ j = 2 ∨ j = 3 ∨ j = 4 ∨ j = 5 ∨ j = 6) with rfl | rfl | rfl | rfl | rfl | rfl | rfl <;> decide
theorem power_any (k : Nat) (w : World) (hk : k ≤ 6) : Calls Tryd.prog 11 #[.int .i64 (k : Int)] w fun e w' => e = .returned (.int .i64 ((10 ^ k : Nat) : Int)) ∧ w' = w := by
  go_enter Tryd.func11, Tryd.ntmps11
  go_wp2_with fail
  go_loop [3, 5] (fun p i => ∃ j : Nat, j ≤ k ∧ i = .int .i64 (j : Int) ∧ p = .int .i64 ((10 ^ j : Nat) : Int)) (fun _ i => k - (intOf i).toNat)
  case atStart => exact ⟨0, Nat.zero_le _, rfl, rfl⟩
  case round =>
    obtain ⟨j, hj, rfl, rfl⟩ := hrel
    obtain ⟨b1, b2⟩ := pow_le j k hj hk
    by_cases hlt : j < k
    · have e := pow_succ10 j
      obtain ⟨p, hp⟩ : ∃ p, p = 10 ^ j := ⟨_, rfl⟩
      obtain ⟨p', hp'⟩ : ∃ p, p = 10 ^ (j + 1) := ⟨_, rfl⟩
      rw [← hp] at e b1 b2 ⊢
      rw [← hp'] at e
      have HP := Lib.hid hp; have HP' := Lib.hid hp'; have HE := Lib.hid e
      clear hp hp' e
      go_wp2_with fail
      go_round
      case rel => exact ⟨j + 1, by omega, by go_num, by rw [← HP'.out, HE.out]; go_num⟩
      case measure => simp [intOf]; omega
    · obtain rfl : j = k := by omega
      go_wp2_with fail
      go_ret
      exact ⟨rfl, rfl⟩
/-- What Format hands back. -/
def fmtB (n d k : Int) : Bool := decide (valB n d = true ∧ 0 ≤ k ∧ k ≤ 6)
def fmtS (n d k : Int) : ByteArray := if fmtB n d k = true then bs (fmtL n d k.toNat) else bs []
def FmtEnd (n d k : Int) (w : World) (e : Ending) (w' : World) : Prop := e = .returned (.tuple #[.string (fmtS n d k), .bool (fmtB n d k)]) ∧ Below w.heap.size w w'
theorem fmt_no {n d k : Int} (h : fmtB n d k = false) : fmtS n d k = bs [] := by unfold fmtS; rw [h]; rfl
theorem fmt_yes {n d : Int} {k : Nat} (h : fmtB n d k = true) : fmtS n d k = bs (fmtL n d k) := by unfold fmtS; rw [if_pos h]; rfl
theorem size_q (n : Int) (w : World) (m : Nat) (h0 : -4611686018427387904 ≤ n) (h1 : n ≤ 4611686018427387904) :
    Calls Tryd.prog 10 #[.int .i64 n] (w.drewN m) fun e w'' => e = .returned (.int .i64 (n.natAbs : Int)) ∧ ∃ x, w'' = w.drewN x :=
  (size_any n (w.drewN m) h0 h1).mono fun e w' ⟨he, hw⟩ => ⟨he, m, hw.symm⟩
theorem power_q (k : Nat) (w : World) (m : Nat) (hk : k ≤ 6) :
    Calls Tryd.prog 11 #[.int .i64 (k : Int)] (w.drewN m) fun e w'' => e = .returned (.int .i64 ((10 ^ k : Nat) : Int)) ∧ ∃ x, w'' = w.drewN x :=
  (power_any k (w.drewN m) hk).mono fun e w' ⟨he, hw⟩ => ⟨he, m, hw⟩
theorem rnd_int (n d : Int) (k : Nat) (hd : 0 < d) : (rnd n d k : Int) = (2 * (n.natAbs : Int) * ((10 ^ k : Nat) : Int) + d) / (2 * d) := by
  unfold rnd
  obtain ⟨c, rfl⟩ := Int.eq_ofNat_of_zero_le (by omega : 0 ≤ d)
  rw [Int.natCast_ediv, Int.natCast_add, Int.natCast_mul, Int.natCast_mul, Int.natCast_mul]
  rfl

theorem outS_len (q k : Nat) (hq : q ≤ 9223372036854775807) (hk : k ≤ 6) : 1 ≤ (outS q k).length ∧ (outS q k).length ≤ 28 := by
  have hl : (decDigits (q / 10 ^ k)).length ≤ 21 := by
    have h : q / 10 ^ k ≤ 9223372036854775807 := Nat.le_trans (Nat.div_le_self _ _) hq
    generalize q / 10 ^ k = x at h
    have := Lib.itoa_length_le (x : Int) (by omega) (by omega)
    rw [Lib.itoa_nonneg] at this; exact this
  have hp := dec_pos (q / 10 ^ k)
  unfold outS
  by_cases h0 : k = 0
  · rw [if_pos h0]; simp; omega
  · rw [if_neg h0]; simp [pd_length]; omega
theorem rnd_le (n d : Int) (k : Nat) (hn : n.natAbs ≤ 1073741824) (hd : d.toNat ≤ 1073741824) (hk : k ≤ 6) : rnd n d k ≤ 9223372036854775807 := by
  obtain ⟨_, b⟩ := pow_le k k (Nat.le_refl _) hk
  unfold rnd
  refine Nat.le_trans (Nat.div_le_self _ _) ?_
  have : 2 * n.natAbs * 10 ^ k ≤ 2147483648 * 1000000 := Nat.mul_le_mul (by omega) b
  omega
/-- The text with its sign. -/
theorem fmtL_neg {n d : Int} {k : Nat} (h : n < 0) (hq : 0 < rnd n d k) : bs (fmtL n d k) = bs [45] ++ bs (outS (rnd n d k) k) := by
  unfold fmtL; rw [if_pos ⟨h, hq⟩, bs_append]
theorem fmtL_pos {n d : Int} {k : Nat} (h : ¬ (n < 0 ∧ 0 < rnd n d k)) : bs (fmtL n d k) = bs (outS (rnd n d k) k) := by
  unfold fmtL; rw [if_neg h]; rfl
theorem format_any (n d k : Int) (w : World) (ht : Tab w) (hk1 : -9223372036854775808 ≤ k) (hk2 : k ≤ 9223372036854775807) :
    Calls Tryd.prog 5 #[.agg #[.int .i64 n, .int .i64 d], .int .i64 k] w (FmtEnd n d k w) := by
  have hb0 : Below w.heap.size w (w.alloc (.cells #[.int .i64 n, .int .i64 d] 23)) := (Below.refl _ _).alloc (Nat.le_refl _) _
  have hv := fun w => valid_any n d w
  cases h1 : valB n d
  · have ho : fmtB n d k = false := by unfold fmtB; rw [h1]; simp
    have HN := Lib.hid (fmt_no ho); have HO := Lib.hid ho
    rw [h1] at hv
    have HV := Lib.hid hv
    clear ho hv h1
    go_enter Tryd.func5, Tryd.ntmps5
    go_wp2_with fail
    refine (HV.out _).mono ?_; rintro e w1 ⟨rfl, hb⟩
    go_wp2_with fail
    go_ret2
    exact ⟨by rw [HO.out, HN.out]; rfl, BelowOn hb0 hb⟩
  by_cases c1 : k < 0
  · have ho : fmtB n d k = false := by unfold fmtB; simp; omega
    have HN := Lib.hid (fmt_no ho); have HO := Lib.hid ho
    rw [h1] at hv
    have HV := Lib.hid hv
    clear ho hv h1
    go_enter Tryd.func5, Tryd.ntmps5
    go_wp2_with fail
    refine (HV.out _).mono ?_; rintro e w1 ⟨rfl, hb⟩
    go_wp2_with fail
    go_ret2
    exact ⟨by rw [HO.out, HN.out]; rfl, BelowOn hb0 hb⟩
  by_cases c2 : 6 < k
  · have ho : fmtB n d k = false := by unfold fmtB; simp; omega
    have HN := Lib.hid (fmt_no ho); have HO := Lib.hid ho
    rw [h1] at hv
    have HV := Lib.hid hv
    clear ho hv h1
    go_enter Tryd.func5, Tryd.ntmps5
    go_wp2_with fail
    refine (HV.out _).mono ?_; rintro e w1 ⟨rfl, hb⟩
    go_wp2_with fail
    go_ret2
    exact ⟨by rw [HO.out, HN.out]; rfl, BelowOn hb0 hb⟩
  obtain ⟨m, rfl⟩ := Int.eq_ofNat_of_zero_le (by omega : 0 ≤ k)
  have ho : fmtB n d m = true := by unfold fmtB; rw [h1]; simp; omega
  have HN := Lib.hid (fmt_yes ho); have HO := Lib.hid ho
  obtain ⟨x0, x1, x2, x3, x4⟩ := valB_hold h1
  rw [h1] at hv
  have HV := Lib.hid hv
  have hm : m ≤ 6 := by omega
  obtain ⟨b1, b2⟩ := pow_le m m (Nat.le_refl _) hm
  have hr := rnd_int n d m (by omega)
  have hp := fun w x => power_q m w x hm
  have hq := rnd_le n d m (by omega) (by omega) hm
  have hd := fun w ht => decimal_any (rnd n d m) m hq hm w ht
  obtain ⟨o1, o2⟩ := outS_len (rnd n d m) m hq hm
  have hneg := fun (h : n < 0) (hq : 0 < rnd n d m) => fmtL_neg h hq
  have hpos := fun (h : ¬ (n < 0 ∧ 0 < rnd n d m)) => fmtL_pos h
  rw [hr] at hd
  generalize rnd n d m = q at *
  rw [← bs_size] at o2
  generalize bs (outS q m) = D at *
  generalize 10 ^ m = p at *
  obtain ⟨s, hs⟩ : ∃ s : Nat, s = n.natAbs := ⟨_, rfl⟩
  have hz := fun w x => size_q n w x (by omega) (by omega)
  rw [← hs] at hz hr hd
  have hs1 : s ≤ 1073741824 := by omega
  have HS := Lib.hid hs
  have z1 := mul_bd (2 * (s : Int)) (p : Int) 2147483648 1000000 (by omega) (by omega) (by omega) (by omega)
  have z2 : 0 ≤ 2 * (s : Int) * (p : Int) := Int.mul_nonneg (by omega) (by omega)
  have hno : ¬ (9223372036854775807 < 1 + D.size) := by omega
  have HP := Lib.hid hp; have HZ := Lib.hid hz; have HD := Lib.hid hd; have HR := Lib.hid hr; have HNEG := Lib.hid hneg; have HPOS := Lib.hid hpos
  clear ho hv h1 hp hz hd hr hs x4 hneg hpos o1
  by_cases hn : n < 0
  · by_cases hp0 : 0 < (2 * (s : Int) * (p : Int) + d) / (2 * d)
    · go_enter Tryd.func5, Tryd.ntmps5
      go_wp2_with fail
      refine (HV.out _).mono ?_; rintro e w1 ⟨rfl, hb⟩
      have ht1 := (ht.call hb0).call hb
      obtain ⟨c0, c1', lt⟩ := (twoNew w w.heap.size (.int .i64 n) (.int .i64 d) rfl).call hb
      go_wp2_with fail
      go_quiet ((first | (go_at_call 10; exact HZ.out _ _) | (go_at_call 11; exact HP.out _ _)))
      go_wp2_with fail
      refine (HD.out (w1.drewN nq) ht1).mono ?_; rintro e w2 ⟨rfl, hb2⟩
      have T := (⟨c0, c1', lt⟩ : Two (w1.drewN nq) w.heap.size _ _).call hb2
      clear c0 c1' lt
      obtain ⟨c0, c1', lt⟩ := id T
      go_wp2_with fail
      go_ret2
      refine ⟨?_, BelowOn (below_drewN (BelowOn hb0 hb) _) hb2⟩
      rw [HO.out, HN.out, HNEG.out hn (by have := HR.out; omega)]; rfl
    · go_enter Tryd.func5, Tryd.ntmps5
      go_wp2_with fail
      refine (HV.out _).mono ?_; rintro e w1 ⟨rfl, hb⟩
      have ht1 := (ht.call hb0).call hb
      obtain ⟨c0, c1', lt⟩ := (twoNew w w.heap.size (.int .i64 n) (.int .i64 d) rfl).call hb
      go_wp2_with fail
      go_quiet ((first | (go_at_call 10; exact HZ.out _ _) | (go_at_call 11; exact HP.out _ _)))
      go_wp2_with fail
      refine (HD.out (w1.drewN nq) ht1).mono ?_; rintro e w2 ⟨rfl, hb2⟩
      have T := (⟨c0, c1', lt⟩ : Two (w1.drewN nq) w.heap.size _ _).call hb2
      clear c0 c1' lt
      obtain ⟨c0, c1', lt⟩ := id T
      go_wp2_with fail
      go_ret2
      refine ⟨?_, BelowOn (below_drewN (BelowOn hb0 hb) _) hb2⟩
      rw [HO.out, HN.out, HPOS.out (by have := HR.out; omega)]; rfl
  · go_enter Tryd.func5, Tryd.ntmps5
    go_wp2_with fail
    refine (HV.out _).mono ?_; rintro e w1 ⟨rfl, hb⟩
    have ht1 := (ht.call hb0).call hb
    obtain ⟨c0, c1', lt⟩ := (twoNew w w.heap.size (.int .i64 n) (.int .i64 d) rfl).call hb
    go_wp2_with fail
    go_quiet ((first | (go_at_call 10; exact HZ.out _ _) | (go_at_call 11; exact HP.out _ _)))
    go_wp2_with fail
    refine (HD.out (w1.drewN nq) ht1).mono ?_; rintro e w2 ⟨rfl, hb2⟩
    have T := (⟨c0, c1', lt⟩ : Two (w1.drewN nq) w.heap.size _ _).call hb2
    clear c0 c1' lt
    obtain ⟨c0, c1', lt⟩ := id T
    go_wp2_with fail
    go_ret2
    refine ⟨?_, BelowOn (below_drewN (BelowOn hb0 hb) _) hb2⟩
    rw [HO.out, HN.out, HPOS.out (by omega)]; rfl
end Go.Proofs.YtfhppadcaoggeaaDoor
