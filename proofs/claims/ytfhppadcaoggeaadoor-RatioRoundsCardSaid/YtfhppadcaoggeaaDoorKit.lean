/- What the laws of ratio share: small contracts where a ratio is known to fit. -/
import Derived.Test.YtfhppadcaoggeaaDoorSome
namespace Go.Proofs.YtfhppadcaoggeaaDoor
open Go.ChangeShapes Go.WideShapes Go.ChangeAt Go.RowKit
set_option linter.unusedVariables false

/-- A call that hands back the rational number q, which fits. -/
def GotQ (q : Rat) (w : World) (e : Ending) (w' : World) : Prop := e = .returned (.tuple #[.agg #[.int .i64 q.num, .int .i64 (q.den : Int)], .bool true]) ∧ Below w.heap.size w w'
theorem got_of {o : Option Rat} {q : Rat} (ho : o = some q) (hf : fits q = true) {w : World} {e : Ending} {w' : World} (h : OptEnd o w e w') : GotQ q w e w' := by
  obtain ⟨he, hb⟩ := h
  refine ⟨?_, hb⟩
  rw [he, ho]; unfold oN oD oB qN qD; simp only [hf]; rfl
/-- Is a rational number small? -/
def small (q : Rat) (A B : Int) : Prop := -A ≤ q.num ∧ q.num ≤ A ∧ (q.den : Int) ≤ B
theorem small_fits {q : Rat} {A B : Int} (h : small q A B) (hA : A ≤ 1073741824) (hB : B ≤ 1073741824) : fits q = true := by
  obtain ⟨h1, h2, h3⟩ := h
  unfold fits; exact decide_eq_true ⟨by omega, by omega, by omega⟩
theorem small_div (n d A B : Int) (hd : d ≠ 0) (h1 : -A ≤ n) (h2 : n ≤ A) (h3 : -B ≤ d) (h4 : d ≤ B) : small (Rat.divInt n d) A B := by
  by_cases hp : 0 < d
  · have := num_le n d hp
    have := den_le n d hp
    exact ⟨by omega, by omega, by omega⟩
  · rw [← Rat.neg_divInt_neg]
    have := num_le (-n) (-d) (by omega)
    have := den_le (-n) (-d) (by omega)
    exact ⟨by omega, by omega, by omega⟩
theorem small_val {q : Rat} {A B : Int} (h : small q A B) (hA : A ≤ 1073741824) (hB : B ≤ 1073741824) : valB q.num q.den = true := fits_val q (small_fits h hA hB)
theorem small_more {q : Rat} {A B A' B' : Int} (h : small q A B) (hA : A ≤ A') (hB : B ≤ B') : small q A' B' := ⟨by have := h.1; omega, by have := h.2.1; omega, by have := h.2.2; omega⟩
theorem small_add {q p : Rat} {A B C D M N : Int} (h : small q A B) (k : small p C D) (hM : A * D + C * B ≤ M) (hN : B * D ≤ N) : small (q + p) M N := by
  have e : q + p = Rat.divInt (q.num * p.den + p.num * q.den) (q.den * p.den) := by
    rw [add_div _ _ _ _ (by have := q.den_pos; omega) (by have := p.den_pos; omega), Rat.num_divInt_den, Rat.num_divInt_den]
  have hq := q.den_pos; have hp := p.den_pos
  have m1 := mul_bd q.num p.den A D h.1 h.2.1 (by have := k.2.2; omega) k.2.2
  have m2 := mul_bd p.num q.den C B k.1 k.2.1 (by have := h.2.2; omega) h.2.2
  have m3 := mul_p q.den p.den B D (by omega) h.2.2 (by omega) k.2.2
  rw [e]
  exact small_div _ _ _ _ (by omega) (by omega) (by omega) (by omega) (by omega)
theorem small_neg {q : Rat} {A B : Int} (h : small q A B) : small (-q) A B := ⟨by have := h.2.1; simp; omega, by have := h.1; simp; omega, by simpa using h.2.2⟩
theorem small_sub {q p : Rat} {A B C D M N : Int} (h : small q A B) (k : small p C D) (hM : A * D + C * B ≤ M) (hN : B * D ≤ N) : small (q - p) M N := by
  rw [Rat.sub_eq_add_neg]; exact small_add h (small_neg k) hM hN
theorem small_mul {q p : Rat} {A B C D M N : Int} (h : small q A B) (k : small p C D) (hM : A * C ≤ M) (hN : B * D ≤ N) : small (q * p) M N := by
  have e : q * p = Rat.divInt (q.num * p.num) (q.den * p.den) := by
    rw [mul_div, Rat.num_divInt_den, Rat.num_divInt_den]
  have hq := q.den_pos; have hp := p.den_pos
  have m1 := mul_bd q.num p.num A C h.1 h.2.1 k.1 k.2.1
  have m3 := mul_p q.den p.den B D (by omega) h.2.2 (by omega) k.2.2
  rw [e]
  exact small_div _ _ _ _ (by omega) (by omega) (by omega) (by omega) (by omega)

theorem twoNew (W : World) (b : Nat) (x y : Value) (h : b = W.heap.size) : Two (W.alloc (.cells #[x, y] 23)) b x y := by rw [h]; exact Two.new W x y
theorem blw {w W : World} (h : Below w.heap.size w W) (o : Obj) : Below w.heap.size w (W.alloc o) := h.alloc h.size o
end Go.Proofs.YtfhppadcaoggeaaDoor
