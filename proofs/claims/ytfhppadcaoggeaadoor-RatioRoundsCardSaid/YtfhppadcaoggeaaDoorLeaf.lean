/- Contracts of the leaves of package ratio and of the reference: sizes, bounds, the greatest common divisor. -/
import Derived.Test.YtfhppadcaoggeaaDoorRows
import Derived.Test.YtfhppadcaoggeaaDoorMath
import Derived.WalkKit
import Derived.ProofKit
import Derived.OpenShut
import Derived.Lib.Hide
import Derived.LoopTactic
import Derived.Outline
import Derived.BigQuiet
import Derived.Below
import Derived.Deep.QuietTactic
namespace Go.Proofs.YtfhppadcaoggeaaDoor
open Go.ChangeShapes Go.WideShapes Go.ChangeAt Go.RowKit
set_option linter.unusedVariables false

theorem ret_bool {a b : Bool} (h : a = b) : Ending.returned (.bool a) = .returned (.bool b) := by rw [h]
theorem ret_int {k : IntKind} {a b : Int} (h : a = b) : Ending.returned (.int k a) = .returned (.int k b) := by rw [h]

theorem within_any (n m : Int) (w : World) (h0 : 0 ≤ m) (h1 : m ≤ 4611686018427387904) :
    Calls Tryd.prog 24 #[.int .i64 n, .int .i64 m] w fun e w' => e = .returned (.bool (decide (-m ≤ n ∧ n ≤ m))) ∧ w = w' := by
  by_cases a : -m ≤ n
  all_goals by_cases b : n ≤ m
  all_goals go_enter Tryd.func24, Tryd.ntmps24
  all_goals go_wp2
  all_goals go_ret
  all_goals exact ⟨ret_bool (by simp; omega), rfl⟩

theorem size_any (n : Int) (w : World) (h0 : -4611686018427387904 ≤ n) (h1 : n ≤ 4611686018427387904) :
    Calls Tryd.prog 10 #[.int .i64 n] w fun e w' => e = .returned (.int .i64 (n.natAbs : Int)) ∧ w = w' := by
  by_cases a : 0 ≤ n
  all_goals go_enter Tryd.func10, Tryd.ntmps10
  all_goals go_wp2
  all_goals go_ret
  all_goals exact ⟨ret_int (by omega), rfl⟩

/-- What a call that only computes and draws comes to. -/
def DrewEnd (v : Value) (w : World) (e : Ending) (w' : World) : Prop := e = .returned v ∧ ∃ n, w' = w.drewN n
def GcdRel (g : Nat) (a b : Value) (w wr : World) : Prop := ∃ x y : Int, 0 ≤ x ∧ 0 ≤ y ∧ x ≤ 4611686018427387904 ∧ y ≤ 4611686018427387904 ∧ a = .int .i64 x ∧ b = .int .i64 y ∧ Int.gcd x y = g ∧ ∃ n, wr = w.drewN n
theorem gcd_any (a b : Int) (w : World) (ha : 0 ≤ a) (hb : 0 ≤ b) (ha' : a ≤ 4611686018427387904) (hb' : b ≤ 4611686018427387904) :
    Calls Tryd.prog 19 #[.int .i64 a, .int .i64 b] w (DrewEnd (.int .i64 (Int.gcd a b : Int)) w) := by
  obtain ⟨g, hg⟩ : ∃ g, g = Int.gcd a b := ⟨_, rfl⟩
  rw [← hg]
  have HG := Lib.hid hg; clear hg
  go_enter Tryd.func19, Tryd.ntmps19
  go_wp2_with fail
  go_loopw [0, 1] (fun x y wr => GcdRel g x y w wr) (fun _ y _ => (intOf y).toNat)
  case atStart => exact ⟨a, b, ha, hb, ha', hb', rfl, rfl, HG.out.symm, 0, rfl⟩
  case round =>
    obtain ⟨x, y, hx, hy, hx', hy', rfl, rfl, hg, n, rfl⟩ := hrel
    have HH := Lib.hid hg; clear hg
    by_cases h : 1 ≤ y
    · have hlo : 0 ≤ x % y := Int.emod_nonneg _ (by omega)
      have hhi : x % y < y := Int.emod_lt_of_pos _ (by omega)
      have q : (y != 0) = true := by simp; omega
      go_wp2_with fail
      go_quiet (fail)
      go_wp2_with fail
      go_roundw
      case rel => exact ⟨y, x % y, hy, hlo, hy', by omega, rfl, rfl, by rw [gcd_step x y hx (by omega)]; exact HH.out, _, World.drewN_drewN _ _ _⟩
      case measure => simp [intOf]; omega
    · obtain rfl : y = 0 := by omega
      go_wp2_with fail
      go_ret
      exact ⟨ret_int (by rw [← HH.out, Int.gcd_zero_right]; omega), _, rfl⟩
theorem rgcd_any (a b : Int) (w : World) (ha : 0 ≤ a) (hb : 0 ≤ b) (ha' : a ≤ 4611686018427387904) (hb' : b ≤ 4611686018427387904) :
    Calls Tryd.prog 22 #[.int .i64 a, .int .i64 b] w (DrewEnd (.int .i64 (Int.gcd a b : Int)) w) := by
  obtain ⟨g, hg⟩ : ∃ g, g = Int.gcd a b := ⟨_, rfl⟩
  rw [← hg]
  have HG := Lib.hid hg; clear hg
  go_enter Tryd.func22, Tryd.ntmps22
  go_wp2_with fail
  go_loopw [0, 1] (fun x y wr => GcdRel g x y w wr) (fun _ y _ => (intOf y).toNat)
  case atStart => exact ⟨a, b, ha, hb, ha', hb', rfl, rfl, HG.out.symm, 0, rfl⟩
  case round =>
    obtain ⟨x, y, hx, hy, hx', hy', rfl, rfl, hg, n, rfl⟩ := hrel
    have HH := Lib.hid hg; clear hg
    by_cases h : 1 ≤ y
    · have hlo : 0 ≤ x % y := Int.emod_nonneg _ (by omega)
      have hhi : x % y < y := Int.emod_lt_of_pos _ (by omega)
      have q : (y != 0) = true := by simp; omega
      go_wp2_with fail
      go_quiet (fail)
      go_wp2_with fail
      go_roundw
      case rel => exact ⟨y, x % y, hy, hlo, hy', by omega, rfl, rfl, by rw [gcd_step x y hx (by omega)]; exact HH.out, _, World.drewN_drewN _ _ _⟩
      case measure => simp [intOf]; omega
    · obtain rfl : y = 0 := by omega
      go_wp2_with fail
      go_ret
      exact ⟨ret_int (by rw [← HH.out, Int.gcd_zero_right]; omega), _, rfl⟩

theorem within_yes (n m : Int) (w : World) (h0 : 0 ≤ m) (h1 : m ≤ 4611686018427387904) (a : -m ≤ n) (b : n ≤ m) :
    Calls Tryd.prog 24 #[.int .i64 n, .int .i64 m] w fun e w' => e = .returned (.bool true) ∧ w = w' :=
  (within_any n m w h0 h1).mono fun e w' ⟨he, hw⟩ => ⟨by rw [he]; exact ret_bool (by simp; omega), hw⟩
theorem within_no (n m : Int) (w : World) (h0 : 0 ≤ m) (h1 : m ≤ 4611686018427387904) (a : ¬ (-m ≤ n ∧ n ≤ m)) :
    Calls Tryd.prog 24 #[.int .i64 n, .int .i64 m] w fun e w' => e = .returned (.bool false) ∧ w = w' :=
  (within_any n m w h0 h1).mono fun e w' ⟨he, hw⟩ => ⟨by rw [he]; exact ret_bool (by simp; omega), hw⟩

theorem holds_any (n d : Int) (w : World) :
    Calls Tryd.prog 18 #[.agg #[.int .i64 n, .int .i64 d]] w fun e w' => e = .returned (.bool (holdB n d)) ∧ Below w.heap.size w w' := by
  by_cases a : -1073741824 ≤ n ∧ n ≤ 1073741824
  · obtain ⟨a1, a2⟩ := a
    by_cases b : 1 ≤ d
    · by_cases c : d ≤ 1073741824
      all_goals go_enter Tryd.func18, Tryd.ntmps18
      all_goals go_wp2_with fail
      all_goals refine (within_yes _ _ _ (by omega) (by omega) a1 a2).mono ?_
      all_goals rintro e w' ⟨rfl, rfl⟩
      all_goals go_wp2_with fail
      all_goals go_ret
      all_goals exact ⟨ret_bool (by unfold holdB; rw [Bool.eq_iff_iff]; simp; omega), (Below.refl _ _).alloc (Nat.le_refl _) _⟩
    · go_enter Tryd.func18, Tryd.ntmps18
      go_wp2_with fail
      refine (within_yes _ _ _ (by omega) (by omega) a1 a2).mono ?_
      rintro e w' ⟨rfl, rfl⟩
      go_wp2_with fail
      go_ret
      exact ⟨ret_bool (by unfold holdB; simp; omega), (Below.refl _ _).alloc (Nat.le_refl _) _⟩
  · have HA := Lib.hid a; clear a
    go_enter Tryd.func18, Tryd.ntmps18
    go_wp2_with fail
    refine (within_no _ _ _ (by omega) (by omega) HA.out).mono ?_
    rintro e w' ⟨rfl, rfl⟩
    go_wp2_with fail
    go_ret
    exact ⟨ret_bool (by have := HA.out; unfold holdB; simp; omega), (Below.refl _ _).alloc (Nat.le_refl _) _⟩
end Go.Proofs.YtfhppadcaoggeaaDoor
