/- The reference's single, class. -/
import Derived.Test.YtdnofpllmhnacaaRs1
namespace Go.Proofs.Ytdnofpllmhnacaa
open Go.ChangeShapes Go.WideShapes Go.ChangeAt Go.RowKit Go.Sort
set_option linter.unusedVariables false
set_option linter.unusedSimpArgs false
set_option maxRecDepth 100000

theorem pk_get (s : ByteArray) (n : Nat) (h : n < s.size) : ((s[n]'h).toNat : Int) = (pk s n : Int) := by unfold pk; rw [dif_pos h]
/-- What single answers. -/
def sgV (r : Option Nat × Nat) : Value := match r with
  | (some b, m) => .tuple #[.int .u8 (b : Int), .int .i64 (m : Int), .int .i64 (-1)]
  | (none, m) => .tuple #[.int .u8 0, .int .i64 0, .int .i64 (m : Int)]
theorem ret_of {a b : Value} (h : a = b) : Ending.returned a = .returned b := by rw [h]
set_option maxHeartbeats 3200000 in
theorem single_any (s : ByteArray) (n : Nat) (hn : n ≤ s.size) (hs : s.size ≤ 4000000000) (w : World) :
    Calls Try.prog 64 #[.string s, .int .i64 n] w fun e w' => e = .returned (sgV (rbF sgI s n)) ∧ w = w' := by
  by_cases hlt : n < s.size
  · have q0 : decide (s.size ≤ n) = false := decide_eq_false (by omega)
    have g0 := pk_get s n hlt
    have hx := pk_le s n
    by_cases h92 : pk s n = 92
    · have ha : rbA s n = n + 1 := by unfold rbA; rw [if_pos h92]
      have hr : rbF sgI s n = if okB sgI true (pk s (n + 1)) then (some (pk s (n + 1)), n + 2) else (none, n + 1) := by
        unfold rbF; rw [ha, decide_eq_true h92]
      rw [h92] at g0
      by_cases hl2 : n + 1 < s.size
      · have q1 : decide (s.size ≤ n + 1) = false := decide_eq_false (by omega)
        have q2 : decide ((s.size : Int) ≤ (n : Int) + 1) = false := by simp; omega
        have g1 := pk_get s (n + 1) hl2
        have z1 : ((n : Int) + 1).toNat = n + 1 := by omega
        have z2 : (0 : Int) ≤ (n : Int) + 1 := by omega
        have z3 : (n : Int) + 1 < (s.size : Int) := by omega
        have hx1 := pk_le s (n + 1)
        generalize pk s (n + 1) = x at *
        have hc := fun W => rof_any (x : Int) W (by omega) (by omega)
        by_cases h5 : cls (x : Int) = 5
        · have ho : okB sgI true x = true := by unfold okB; rw [if_pos h5]; rfl
          rw [hr, if_pos ho]
          rw [h5] at hc
          have HC := Lib.hid hc; clear hc hr ho h5 ha h92
          go_enter Try.func64, Try.ntmps64
          go_wp2_with fail
          refine (HC.out _).mono ?_; rintro e w' ⟨rfl, rfl⟩
          go_wp2_with fail
          go_ret3
          exact ⟨rfl, rfl⟩
        · have ho : okB sgI true x = false := by
            unfold okB; rw [if_neg h5]; split <;> rfl
          rw [hr, if_neg (by rw [ho]; decide)]
          have q5 : (cls (x : Int) != 5) = true := by simpa using h5
          generalize cls (x : Int) = c at *
          have HC := Lib.hid hc; clear hc hr ho h5 ha h92
          go_enter Try.func64, Try.ntmps64
          go_wp2_with fail
          refine (HC.out _).mono ?_; rintro e w' ⟨rfl, rfl⟩
          go_wp2_with fail
          go_ret3
          exact ⟨rfl, rfl⟩
      · have hz : n + 1 = s.size := by omega
        have q2 : decide ((s.size : Int) ≤ (n : Int) + 1) = true := by simp; omega
        have ho : okB sgI true (pk s (n + 1)) = false := by rw [pk_end (by omega)]; decide
        rw [hr, if_neg (by rw [ho]; decide), hz]
        clear hz ho hr ha h92
        go_enter Try.func64, Try.ntmps64
        go_wp2_with fail
        go_ret3
        exact ⟨rfl, rfl⟩
    · have ha : rbA s n = n := by unfold rbA; rw [if_neg h92]
      have hr : rbF sgI s n = if okB sgI false (pk s n) then (some (pk s n), n + 1) else (none, n) := by
        unfold rbF; rw [ha, decide_eq_false h92]
      have hp := fun W => plain_any ⟨#[92, 93, 91, 94, 45]⟩ (pk s n) hx (by decide) W
      rw [show byt ⟨#[92, 93, 91, 94, 45]⟩ = [92, 93, 91, 94, 45] from rfl, plain_in ⟨pk s n, hx⟩ h92] at hp
      dsimp only at hp
      have q1 : ((pk s n : Int) == 92) = false := by simp; omega
      generalize pk s n = x at *
      cases ho : okB sgI false x with
      | true =>
        rw [ho] at hp hr
        rw [hr, if_pos rfl]
        have HP := Lib.hid hp; clear hp hr ho ha h92
        go_enter Try.func64, Try.ntmps64
        go_wp2_with fail
        refine (HP.out _).mono ?_; rintro e w' ⟨rfl, rfl⟩
        go_wp2_with fail
        go_ret3
        exact ⟨rfl, rfl⟩
      | false =>
        rw [ho] at hp hr
        rw [hr, if_neg (by decide)]
        have HP := Lib.hid hp; clear hp hr ho ha h92
        go_enter Try.func64, Try.ntmps64
        go_wp2_with fail
        refine (HP.out _).mono ?_; rintro e w' ⟨rfl, rfl⟩
        go_wp2_with fail
        go_ret3
        exact ⟨rfl, rfl⟩
  · obtain rfl : n = s.size := by omega
    have q0 : decide (s.size ≤ s.size) = true := by simp
    have hp := pk_end (s := s) (n := s.size) (Nat.le_refl _)
    have hr : rbF sgI s s.size = (none, s.size) := by
      have ha : rbA s s.size = s.size := by unfold rbA; rw [hp]; rfl
      unfold rbF; rw [ha, hp]; rfl
    rw [hr]
    clear hr hp
    go_enter Try.func64, Try.ntmps64
    go_wp2_with fail
    go_ret3
    exact ⟨rfl, rfl⟩

/-! ### class -/
def kdB : List Nat := [115, 100, 108, 99, 109]
def kdV : List Int := [2, 3, 4, 1, 5]
/-- The class that the first k kinds give. -/
def wantK (low : Nat) : Nat → Int
  | 0 => 0
  | k + 1 => if kdB[k]! = low then kdV[k]! else wantK low k
def lowF (c : Nat) : Nat := if 65 ≤ c ∧ c ≤ 90 then c + 32 else c
def inF (wt : Int) (b : Nat) : Bool := if wt = 0 then decide (65 ≤ b) && decide (b ≤ 90) else decide (cls b = wt)
/-- The first k bytes of the set. -/
def ksF (wt : Int) (g : Bool) (k : Nat) : BSet := fun b => decide (b < k) && (inF wt b == g)
theorem ks_zero (wt : Int) (g : Bool) : ksF wt g 0 = emptyS := by funext b; unfold ksF emptyS; simp
theorem ks_yes {wt : Int} {g : Bool} {k : Nat} (h : inF wt k = g) : addS (ksF wt g k) k = ksF wt g (k + 1) := by
  funext b; unfold addS ksF
  by_cases e : b = k
  · subst e; simp [h]
  · rw [decide_eq_false e, Bool.or_false]
    by_cases hb : b < k
    · rw [decide_eq_true hb, decide_eq_true (by omega)]
    · rw [decide_eq_false hb, decide_eq_false (by omega)]
theorem ks_no {wt : Int} {g : Bool} {k : Nat} (h : inF wt k ≠ g) : ksF wt g k = ksF wt g (k + 1) := by
  funext b; unfold ksF
  by_cases e : b = k
  · subst e; simp [h]
  · by_cases hb : b < k
    · rw [decide_eq_true hb, decide_eq_true (by omega)]
    · rw [decide_eq_false hb, decide_eq_false (by omega)]
theorem setC_congr {S T : BSet} (h : ∀ b, b < 256 → S b = T b) : setC S = setC T := by
  unfold setC
  refine List.map_congr_left fun i hi => ?_
  have hi := List.mem_range.1 hi
  congr 2
  unfold byteOf
  rw [h (8 * i) (by omega), h (8 * i + 1) (by omega), h (8 * i + 2) (by omega), h (8 * i + 3) (by omega), h (8 * i + 4) (by omega), h (8 * i + 5) (by omega), h (8 * i + 6) (by omega), h (8 * i + 7) (by omega)]
/-- Which letters name a set. -/
theorem named_iff : ∀ c : Fin 256, (nmS c.val).isSome = (!(decide (wantK (lowF c.val) 5 = 0)) || decide (lowF c.val = 117)) := by decide +kernel
theorem cls_named (num : Int) (hn : num ≠ 0) : setC (ksF num true 256) = setC (clsS num 256) := setC_congr fun b hb => by
  unfold ksF clsS inF; rw [if_neg hn]; simp
theorem not_named (num : Int) (hn : num ≠ 0) : setC (ksF num false 256) = setC (notS (clsS num 256)) := setC_congr fun b hb => by
  unfold ksF notS clsS inF; rw [if_neg hn, decide_eq_true hb]; simp
theorem up_named : setC (ksF 0 true 256) = setC (rangeS emptyS 65 90) := setC_congr fun b hb => by
  unfold ksF rangeS emptyS inF; rw [if_pos rfl, decide_eq_true hb]; simp
theorem notup_named : setC (ksF 0 false 256) = setC (notS (rangeS emptyS 65 90)) := setC_congr fun b hb => by
  unfold ksF notS rangeS emptyS inF; rw [if_pos rfl, decide_eq_true hb]; simp
theorem named_set (c : Nat) (T : BSet) (h : nmS c = some T) : setC (ksF (wantK (lowF c) 5) (decide (c = lowF c)) 256) = setC T := by
  unfold nmS at h
  by_cases h1 : c = 115
  · subst h1; rw [if_pos rfl] at h; cases h; exact cls_named 2 (by decide)
  rw [if_neg h1] at h
  by_cases h2 : c = 83
  · subst h2; rw [if_pos rfl] at h; cases h; exact not_named 2 (by decide)
  rw [if_neg h2] at h
  by_cases h3 : c = 100
  · subst h3; rw [if_pos rfl] at h; cases h; exact cls_named 3 (by decide)
  rw [if_neg h3] at h
  by_cases h4 : c = 68
  · subst h4; rw [if_pos rfl] at h; cases h; exact not_named 3 (by decide)
  rw [if_neg h4] at h
  by_cases h5 : c = 108
  · subst h5; rw [if_pos rfl] at h; cases h; exact cls_named 4 (by decide)
  rw [if_neg h5] at h
  by_cases h6 : c = 76
  · subst h6; rw [if_pos rfl] at h; cases h; exact not_named 4 (by decide)
  rw [if_neg h6] at h
  by_cases h7 : c = 99
  · subst h7; rw [if_pos rfl] at h; cases h; exact cls_named 1 (by decide)
  rw [if_neg h7] at h
  by_cases h8 : c = 67
  · subst h8; rw [if_pos rfl] at h; cases h; exact not_named 1 (by decide)
  rw [if_neg h8] at h
  by_cases h9 : c = 109
  · subst h9; rw [if_pos rfl] at h; cases h; exact cls_named 5 (by decide)
  rw [if_neg h9] at h
  by_cases h10 : c = 77
  · subst h10; rw [if_pos rfl] at h; cases h; exact not_named 5 (by decide)
  rw [if_neg h10] at h
  by_cases h11 : c = 117
  · subst h11; rw [if_pos rfl] at h; cases h; exact up_named
  rw [if_neg h11] at h
  by_cases h12 : c = 85
  · subst h12; rw [if_pos rfl] at h; cases h; exact notup_named
  rw [if_neg h12] at h; cases h
end Go.Proofs.Ytdnofpllmhnacaa
