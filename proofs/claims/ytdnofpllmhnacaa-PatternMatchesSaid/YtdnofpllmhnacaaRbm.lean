/- The reference's brackets. -/
import Derived.Test.YtdnofpllmhnacaaRcl
namespace Go.Proofs.Ytdnofpllmhnacaa
open Go.ChangeShapes Go.WideShapes Go.ChangeAt Go.RowKit Go.Sort
set_option linter.unusedVariables false
set_option linter.unusedSimpArgs false
set_option maxRecDepth 100000

/-! ### the members, case by case -/
section
variable {s : ByteArray} {k m x f : Nat} {S T : BSet} {b : Bool}
theorem rb_end : rbF sgI s s.size = (none, s.size) := by
  have hp := pk_end (s := s) (n := s.size) (Nat.le_refl _)
  have ha : rbA s s.size = s.size := by unfold rbA; rw [hp]; rfl
  unfold rbF; rw [ha, hp]; rfl
theorem mbs_end : mbsF s (f + 1) s.size S b = (none, s.size) := by
  have hp := pk_end (s := s) (n := s.size) (Nat.le_refl _)
  rw [mbsF, if_neg (by rw [hp]; simp)]
  have hm : mbF s s.size = (none, s.size) := by
    unfold mbF
    rw [show ndF s s.size = none by unfold ndF; rw [hp]; rfl, rb_end]
  rw [hm]
theorem mbs_exit (h : pk s k = 93) : mbsF s (f + 1) k S false = (some S, k + 1) := by rw [mbsF, if_pos (by simp [h])]
theorem mbs_go (h : b = true ∨ pk s k ≠ 93) : mbsF s (f + 1) k S b = match mbF s k with
      | (none, m) => (none, m)
      | (some T, m) => mbsF s f m (orS S T) false := by
  rw [mbsF, if_neg (by rcases h with h | h <;> simp [h])]
  cases mbF s k with
  | mk o m => cases o <;> rfl
theorem mb_nd (h : ndF s k = some T) : mbF s k = (some T, k + 2) := by unfold mbF; rw [h]
theorem mb_bad (h : ndF s k = none) (h2 : rbF sgI s k = (none, m)) : mbF s k = (none, m) := by unfold mbF; rw [h, h2]
theorem mb_one (h : ndF s k = none) (h2 : rbF sgI s k = (some x, m)) (h3 : pk s m ≠ 45) : mbF s k = (some (rangeS emptyS x x), m) := by
  unfold mbF; rw [h, h2]; dsimp only; rw [if_neg h3]
def dashF (x m : Nat) (r : Option Nat × Nat) : Option BSet × Nat := match r with
  | (none, k) => (none, k)
  | (some y, k) => if y < x then (none, m + 1) else (some (rangeS emptyS x y), k)
theorem mb_dash (h : ndF s k = none) (h2 : rbF sgI s k = (some x, m)) (h3 : pk s m = 45) {r : Option Nat × Nat} (h4 : rbF sgI s (m + 1) = r) : mbF s k = dashF x m r := by
  subst h4
  unfold mbF; rw [h, h2]; dsimp only; rw [if_pos h3]
  unfold dashF
  cases rbF sgI s (m + 1) with
  | mk o k => cases o <;> rfl
end
theorem indexAt_35 (B k : Nat) (hk : k < 32) (W : World) : (Instr.indexAt 35 (.pointer (some ⟨B, 0, none⟩)) (.int .i64 (k : Int))).run Try.prog W = .ok (.pointer (some ⟨B, k, none⟩)) W := by
  have h := run_indexAt_array (P := Try.prog) (w := W) 35 ⟨B, 0, none⟩ .i64 (k : Int) (by kernel_rfl)
  rw [h]
  have e1 : Try.prog.arrayLen 35 = 32 := by kernel_rfl
  have e3 : Try.prog.elem 35 = 5 := by kernel_rfl
  rw [e1, e3, if_pos ⟨by omega, by omega⟩, Try.sizeOf5 W]
  simp [Result.andThen, Addr.add_mid]
/-- The two variables: the result's, the set's. -/
structure BW (w : World) (S : BSet) (wr : World) : Prop where
  a : SAtT 35 w.heap.size emptyS wr
  b : SAtT 35 (w.heap.size + 1) S wr
  bel : Below w.heap.size w wr
section
variable {w W W' : World} {S T : BSet}
theorem BW.call (h : BW w S W) (g : Below W.heap.size W W') : BW w S W' := ⟨h.a.call g, h.b.call g, BelowOn h.bel g⟩
theorem BW.set (h : BW w S W) (g : W.grownBy W' (some (w.heap.size + 1))) (t : SAtT 35 (w.heap.size + 1) T W') : BW w T W' :=
  ⟨h.a.keep g (by intro e; injection e with e; omega), t, h.bel.grown g h.bel.size (fun j hj => by injection hj with hj; omega)⟩
theorem BW.other (h : BW w S W) {k : Nat} (g : W.grownBy W' (some k)) (hk : w.heap.size + 2 ≤ k) : BW w S W' :=
  ⟨h.a.keep g (by intro e; injection e with e; omega), h.b.keep g (by intro e; injection e with e; omega), h.bel.grown g h.bel.size (fun j hj => by injection hj with hj; omega)⟩
theorem BW.big (h : BW w S W) : w.heap.size + 2 ≤ W.heap.size := h.b.lt
end
/-- What brackets and set answer. -/
def setV (S' : BSet) (r : Option BSet × Nat) : Value := match r with
  | (some _, m) => .tuple #[.agg (setC S').toArray, .int .i64 (m : Int), .int .i64 (-1)]
  | (none, m) => .tuple #[.agg (setC S').toArray, .int .i64 0, .int .i64 (m : Int)]
def BrEnd (w : World) (r : Option BSet × Nat) (e : Ending) (w' : World) : Prop :=
  ∃ S' : BSet, e = .returned (setV S' r) ∧ (∀ S, r.1 = some S → setC S' = setC S) ∧ Below w.heap.size w w'
def brY (iv : Bool) (r : Option BSet × Nat) : Option BSet × Nat := (r.1.map fun S => if iv then notS S else S, r.2)
theorem br_eq' (s : ByteArray) (n : Nat) : brF s n = brY (decide (pk s n = 94)) (mbsF s (s.size + 1) (brA s n) emptyS true) := br_eq s n
def BrR (w : World) (s : ByteArray) (res : Option BSet × Nat) (j c : Value) (wr : World) : Prop :=
  ∃ (k : Nat) (S : BSet) (f cnt : Nat), j = .int .i64 k ∧ c = .int .i64 cnt ∧ cnt ≤ k ∧ k ≤ s.size ∧ s.size < f + k ∧ BW w S wr ∧ mbsF s f k S (decide (cnt = 0)) = res

end Go.Proofs.Ytdnofpllmhnacaa
