/- The reader of patterns: peek, skip, readQuantifier; a set's add. -/
import Derived.Test.YtdnofpllmhnacaaBas
import Derived.Lib.Builder
import Derived.Handy
namespace Go.Proofs.Ytdnofpllmhnacaa
open Go.ChangeShapes Go.WideShapes Go.ChangeAt Go.RowKit Go.Sort
set_option linter.unusedVariables false
set_option linter.unusedSimpArgs false
set_option maxRecDepth 100000

/-- A reader in the variable R. -/
structure RD (R : Nat) (s : ByteArray) (n : Nat) (W : World) : Prop where
  var : W.heap[R]? = some (.cells #[.string s, .int .i64 (n : Int)] 54 (0, 0))
  le : n ≤ s.size
  sm : s.size ≤ 4000000000
section
variable {R n : Nat} {s : ByteArray} {W : World}
theorem RD.c0 (h : RD R s n W) : W.cell? ⟨R, 0, none⟩ = some (.string s) := by rw [cell_of_row _ _ _ _ _ _ h.var]; rfl
theorem RD.c1 (h : RD R s n W) : W.cell? ⟨R, 1, none⟩ = some (.int .i64 (n : Int)) := by rw [cell_of_row _ _ _ _ _ _ h.var]; rfl
end
/-- The byte at an offset, 0 behind the end. -/
def pk (s : ByteArray) (i : Nat) : Nat := if h : i < s.size then (s[i]'h).toNat else 0
set_option maxHeartbeats 1600000 in
theorem peek_any (R : Nat) (s : ByteArray) (n k : Nat) (w : World) (h : RD R s n w) (hk : k ≤ 10) :
    Calls Try.prog 59 #[.pointer (some ⟨R, 0, none⟩), .int .i64 k] w fun e w' => e = .returned (.int .u8 (pk s (n + k) : Int)) ∧ Below w.heap.size w w' := by
  have c0 := h.c0; have c1 := h.c1
  have h1 := h.le; have h2 := h.sm
  have mixed : Try.prog.follows .mixedOrders = true := by kernel_rfl
  have hw : IntKind.i64.wrap ((n : Int) + (k : Int)) = (n : Int) + (k : Int) := IntWalk.i64_in _ ⟨by omega, by omega⟩
  by_cases hlt : n + k < s.size
  · have hp : pk s (n + k) = (s[n + k]'hlt).toNat := dif_pos hlt
    have q0 : decide ((s.size : Int) ≤ (n : Int) + (k : Int)) = false := decide_eq_false (by omega)
    have q1 : (0 : Int) ≤ (n : Int) + (k : Int) := by omega
    have q2 : (n : Int) + (k : Int) < (s.size : Int) := by omega
    have q3 : ((n : Int) + (k : Int)).toNat = n + k := by omega
    have HP := Lib.hid hp; clear hp
    go_enter Try.func59, Try.ntmps59
    go_wp2_with fail
    go_quiet (fail)
    go_wp2_with fail
    go_quiet (fail)
    go_wp2_with fail
    go_ret
    exact ⟨by rw [HP.out]; rfl, bdrN (bdrN (Below.refl _ _) _) _⟩
  · have hp : pk s (n + k) = 0 := dif_neg hlt
    have q0 : decide ((s.size : Int) ≤ (n : Int) + (k : Int)) = true := decide_eq_true (by omega)
    have HP := Lib.hid hp; clear hp
    go_enter Try.func59, Try.ntmps59
    go_wp2_with fail
    go_quiet (fail)
    go_wp2_with fail
    go_ret
    exact ⟨by rw [HP.out]; rfl, bdrN (Below.refl _ _) _⟩
theorem pk_lt {s : ByteArray} {i b : Nat} (h : pk s i = b) (hb : b ≠ 0) : i < s.size := by
  unfold pk at h
  by_cases hi : i < s.size
  · exact hi
  · rw [dif_neg hi] at h; exact absurd h.symm hb
theorem pk_le (s : ByteArray) (i : Nat) : pk s i < 256 := by
  unfold pk; split
  · exact (s[i]).toNat_lt
  · decide
theorem RD.call {R n : Nat} {s : ByteArray} {W W' : World} (h : RD R s n W) (hb : Below W.heap.size W W') : RD R s n W' := ⟨(hb.block R (Array.getElem?_eq_some_iff.1 h.var).1).trans h.var, h.le, h.sm⟩
theorem setCell_at (w : World) (g i : Nat) (cur : Array Value) (e : TypeId) (v : Value) (h : w.heap[g]? = some (.cells cur e (0, 0))) : (w.setCell ⟨g, i, none⟩ v).heap[g]? = some (.cells (cur.setIfInBounds i v) e (0, 0)) := by
  simp [World.setCell, Array.getElem?_modify, h]
theorem grow_below {w w' : World} (h : Below w.heap.size w w') (row : Option Nat) : w.grownBy w' row := ⟨h.os, h.tape, h.output, h.size, fun i hi _ => h.block i hi⟩
theorem grow_then {a b c : World} {row : Option Nat} (h : a.grownBy b row) (k : b.grownBy c row) : a.grownBy c row :=
  ⟨k.os.trans h.os, k.tape.trans h.tape, k.output.trans h.output, Nat.le_trans h.size k.size, fun i hi hne => (k.block i (Nat.lt_of_lt_of_le hi h.size) hne).trans (h.block i hi hne)⟩
theorem grow_cell (w : World) (g i : Nat) (v : Value) : w.grownBy (w.setCell ⟨g, i, none⟩ v) (some g) := ⟨rfl, rfl, rfl, by simp, fun j hj hne => Below.heap_setCell w ⟨g, i, none⟩ v j (fun e => hne (by rw [e]))⟩
/-- Where the reader stands behind skip. -/
def skN (s : ByteArray) (n b : Nat) : Nat := if pk s n = b then n + 1 else n

set_option maxHeartbeats 1600000 in
theorem rskip_any (R : Nat) (s : ByteArray) (n b : Nat) (w : World) (h : RD R s n w) (hb : b ≠ 0) (hb2 : b < 256) :
    Calls Try.prog 45 #[.pointer (some ⟨R, 0, none⟩), .int .u8 b] w fun e w' => e = .returned (.bool (decide (pk s n = b))) ∧ w.grownBy w' (some R) ∧ RD R s (skN s n b) w' := by
  have hp := fun W h => peek_any R s n 0 W h (by omega)
  have h1 := h.le; have h2 := h.sm
  rw [Nat.add_zero] at hp
  have HP := Lib.hid hp; clear hp
  by_cases he : pk s n = b
  · have hlt := pk_lt he hb
    have hN : skN s n b = n + 1 := if_pos he
    have q0 : ((pk s n : Int) != (b : Int)) = false := by rw [he]; simp
    have hw : IntKind.i64.wrap ((n : Int) + 1) = (n : Int) + 1 := IntWalk.i64_in _ ⟨by omega, by omega⟩
    rw [hN, decide_eq_true he]
    clear hN
    generalize pk s n = y at *
    clear he
    go_enter Try.func45, Try.ntmps45
    go_wp2_with fail
    refine (HP.out _ h).mono ?_; rintro e w1 ⟨rfl, hb1⟩
    have h3 := h.call hb1
    have c1 := h3.c1
    have fr := Lib.frozen_of_heap h3.var 1
    have hz := setCell_at _ R 1 _ 54 (.int .i64 ((n : Int) + 1)) h3.var
    have hg := grow_then (grow_below hb1 (some R)) (grow_cell w1 R 1 (.int .i64 ((n : Int) + 1)))
    go_wp2_with fail
    go_ret
    exact ⟨rfl, hg, ⟨hz, by omega, h2⟩⟩
  · have hN : skN s n b = n := if_neg he
    have q0 : ((pk s n : Int) != (b : Int)) = true := by simp; omega
    rw [hN, decide_eq_false he]
    clear hN
    generalize pk s n = y at *
    clear he
    go_enter Try.func45, Try.ntmps45
    go_wp2_with fail
    refine (HP.out _ h).mono ?_; rintro e w1 ⟨rfl, hb1⟩
    have h3 := h.call hb1
    have hg := grow_below hb1 (some R)
    go_wp2_with fail
    go_ret
    exact ⟨rfl, hg, h3⟩

/-- What a quantifier says, and where the reader stands behind it. -/
def quF (s : ByteArray) (n : Nat) : Int × Bool × Nat := if pk s n = 42 then (0, true, n + 1) else if pk s n = 43 then (1, true, n + 1) else if pk s n = 63 then (0, false, n + 1) else (1, false, n)
set_option maxHeartbeats 1600000 in
theorem quant_any (R : Nat) (s : ByteArray) (n : Nat) (w : World) (h : RD R s n w) :
    Calls Try.prog 34 #[.pointer (some ⟨R, 0, none⟩)] w fun e w' => e = .returned (.tuple #[.int .i64 (quF s n).1, .bool (quF s n).2.1]) ∧ w.grownBy w' (some R) ∧ RD R s (quF s n).2.2 w' := by
  have k1 := fun W h => rskip_any R s n 42 W h (by decide) (by decide)
  have k2 := fun W h => rskip_any R s n 43 W h (by decide) (by decide)
  have k3 := fun W h => rskip_any R s n 63 W h (by decide) (by decide)
  by_cases h1 : pk s n = 42
  · have hq : quF s n = (0, true, n + 1) := if_pos h1
    rw [hq]
    rw [decide_eq_true h1, show skN s n 42 = n + 1 from if_pos h1] at k1
    have K1 := Lib.hid k1; clear k1 k2 k3 hq h1
    go_enter Try.func34, Try.ntmps34
    go_wp2_with fail
    refine (K1.out _ h).mono ?_; rintro e w1 ⟨rfl, g1, r1⟩
    go_wp2_with fail
    go_ret2
    exact ⟨rfl, g1, r1⟩
  · rw [decide_eq_false h1, show skN s n 42 = n from if_neg h1] at k1
    by_cases h2 : pk s n = 43
    · have hq : quF s n = (1, true, n + 1) := by unfold quF; rw [if_neg h1, if_pos h2]
      rw [hq]
      rw [decide_eq_true h2, show skN s n 43 = n + 1 from if_pos h2] at k2
      have K1 := Lib.hid k1; have K2 := Lib.hid k2; clear k1 k2 k3 hq h1 h2
      go_enter Try.func34, Try.ntmps34
      go_wp2_with fail
      refine (K1.out _ h).mono ?_; rintro e w1 ⟨rfl, g1, r1⟩
      go_wp2_with fail
      refine (K2.out _ r1).mono ?_; rintro e w2 ⟨rfl, g2, r2⟩
      have g := grow_then g1 g2
      go_wp2_with fail
      go_ret2
      exact ⟨rfl, g, r2⟩
    · rw [decide_eq_false h2, show skN s n 43 = n from if_neg h2] at k2
      by_cases h3 : pk s n = 63
      · have hq : quF s n = (0, false, n + 1) := by unfold quF; rw [if_neg h1, if_neg h2, if_pos h3]
        rw [hq]
        rw [decide_eq_true h3, show skN s n 63 = n + 1 from if_pos h3] at k3
        have K1 := Lib.hid k1; have K2 := Lib.hid k2; have K3 := Lib.hid k3; clear k1 k2 k3 hq h1 h2 h3
        go_enter Try.func34, Try.ntmps34
        go_wp2_with fail
        refine (K1.out _ h).mono ?_; rintro e w1 ⟨rfl, g1, r1⟩
        go_wp2_with fail
        refine (K2.out _ r1).mono ?_; rintro e w2 ⟨rfl, g2, r2⟩
        have g := grow_then g1 g2
        go_wp2_with fail
        refine (K3.out _ r2).mono ?_; rintro e w3 ⟨rfl, g3, r3⟩
        have gg := grow_then g g3
        go_wp2_with fail
        go_ret2
        exact ⟨rfl, gg, r3⟩
      · have hq : quF s n = (1, false, n) := by unfold quF; rw [if_neg h1, if_neg h2, if_neg h3]
        rw [hq]
        rw [decide_eq_false h3, show skN s n 63 = n from if_neg h3] at k3
        have K1 := Lib.hid k1; have K2 := Lib.hid k2; have K3 := Lib.hid k3; clear k1 k2 k3 hq h1 h2 h3
        go_enter Try.func34, Try.ntmps34
        go_wp2_with fail
        refine (K1.out _ h).mono ?_; rintro e w1 ⟨rfl, g1, r1⟩
        go_wp2_with fail
        refine (K2.out _ r1).mono ?_; rintro e w2 ⟨rfl, g2, r2⟩
        have g := grow_then g1 g2
        go_wp2_with fail
        refine (K3.out _ r2).mono ?_; rintro e w3 ⟨rfl, g3, r3⟩
        have gg := grow_then g g3
        go_wp2_with fail
        go_ret2
        exact ⟨rfl, gg, r3⟩
end Go.Proofs.Ytdnofpllmhnacaa
