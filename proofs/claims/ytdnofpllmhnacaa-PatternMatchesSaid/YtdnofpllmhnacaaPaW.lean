/- The walk of PatternParses. -/
import Derived.Test.YtdnofpllmhnacaaRpa
import Derived.Test.YtdnofpllmhnacaaSam
namespace Go.Proofs.Ytdnofpllmhnacaa
open Go.ChangeShapes Go.WideShapes Go.ChangeAt Go.RowKit Go.Sort
set_option linter.unusedVariables false
set_option linter.unusedSimpArgs false
set_option maxRecDepth 100000

def W22 : List ByteArray := [⟨#[97]⟩, ⟨#[98]⟩, ⟨#[122]⟩, ⟨#[45]⟩, ⟨#[91]⟩, ⟨#[93]⟩, ⟨#[94]⟩, ⟨#[92]⟩, ⟨#[92, 100]⟩, ⟨#[92, 76]⟩, ⟨#[92, 117]⟩, ⟨#[46]⟩, ⟨#[42]⟩, ⟨#[43]⟩, ⟨#[63]⟩, ⟨#[40]⟩, ⟨#[49]⟩, ⟨#[32]⟩, ⟨#[92, 93]⟩, ⟨#[91, 97, 45, 122, 93]⟩, ⟨#[91, 94, 92, 115, 93]⟩, ⟨#[33]⟩]
theorem W22_size : ∀ j : Fin 22, (W22[j.val]'(by exact j.isLt)).size ≤ 6 := by decide
theorem cell22 (W : World) (k : Nat) (hk : k < 22) : (W.alloc (.cells #[.string ⟨#[97]⟩, .string ⟨#[98]⟩, .string ⟨#[122]⟩, .string ⟨#[45]⟩, .string ⟨#[91]⟩, .string ⟨#[93]⟩, .string ⟨#[94]⟩, .string ⟨#[92]⟩, .string ⟨#[92, 100]⟩, .string ⟨#[92, 76]⟩, .string ⟨#[92, 117]⟩, .string ⟨#[46]⟩, .string ⟨#[42]⟩, .string ⟨#[43]⟩, .string ⟨#[63]⟩, .string ⟨#[40]⟩, .string ⟨#[49]⟩, .string ⟨#[32]⟩, .string ⟨#[92, 93]⟩, .string ⟨#[91, 97, 45, 122, 93]⟩, .string ⟨#[91, 94, 92, 115, 93]⟩, .string ⟨#[33]⟩] 9)).cell? ⟨W.heap.size, k, none⟩ = some (.string (W22[k]'hk)) := by
  rw [cell_of_row _ _ _ _ _ _ (heap_alloc_new W _)]
  show (W22.map Value.string).toArray[k]? = _
  rw [List.getElem?_toArray, List.getElem?_map, List.getElem?_eq_getElem hk]; rfl
theorem qu_01 (s : ByteArray) (n : Nat) : (quF s n).1 = 0 ∨ (quF s n).1 = 1 := by
  unfold quF
  split
  · left; rfl
  · split
    · right; rfl
    · split
      · left; rfl
      · right; rfl
theorem qu_wf (s : ByteArray) (n : Nat) : (Lit.int .i64 (quF s n).1).wf = true := by
  rcases qu_01 s n with h | h <;> rw [h] <;> decide
theorem idx0 (s u : ByteArray) (w : World) : (Instr.index 25 (.agg #[.string s, .string u]) (.int .i64 0)).run Try.prog w = .ok (.string s) w := by
  first
    | kernel_rfl
    | (have hs : (sizeOf 9).run Try.prog w = .ok 1 w := Try.sizeOf9 w
       simp [Instr.index, run_underlying Try.underlying25, asIntOf, hs, part, Result.andThen, go_sem])
theorem idx1 (s u : ByteArray) (w : World) : (Instr.index 25 (.agg #[.string s, .string u]) (.int .i64 1)).run Try.prog w = .ok (.string u) w := by
  first
    | kernel_rfl
    | (have hs : (sizeOf 9).run Try.prog w = .ok 1 w := Try.sizeOf9 w
       simp [Instr.index, run_underlying Try.underlying25, asIntOf, hs, part, Result.andThen, go_sem])
theorem prs_wf (s : ByteArray) (f : Nat) : ∀ (n : Nat) (P : List At), wfA P → wfA (prsF s f n P).1 := by
  induction f with
  | zero => intro n P h; exact h
  | succ f ih =>
    intro n P h
    rw [prsF]
    split
    · exact h
    · split
      · intro i hi; cases hi
      · split
        · intro i hi; cases hi
        · refine ih _ _ fun i hi => ?_
          rw [List.length_append, List.length_singleton] at hi
          by_cases e : i < P.length
          · rw [List.getElem_append_left e]; exact h i e
          · rw [List.getElem_append_right (by omega)]
            simp only [List.getElem_singleton]
            exact qu_wf _ _
theorem parse_wf (s : ByteArray) : wfA (parseF s).1 := prs_wf s _ _ _ (fun i hi => by cases hi)

set_option maxHeartbeats 3200000 in
theorem written_any (p : Option Addr) (c : Nat) (L : List Int) (w : World) (h : Ones w (Value.int .i64) p L) (hw : wfs L) (hc : L.length ≤ c) (hm : c ≤ maxLen) :
    Calls Try.prog 13 #[.slice p L.length c] w fun e w' => ∃ u, e = .returned (.string u) ∧ u.size ≤ 300 ∧ Below w.heap.size w w' := by
  unfold maxLen at hm
  have HO := Lib.hid h; have HW := Lib.hid hw; clear h hw
  go_enter Try.func13, Try.ntmps13
  go_wp2_with fail
  go_loopw [3, 4] (fun s i wr => ∃ (k : Nat) (t : ByteArray), k ≤ 40 ∧ i = .int .i64 k ∧ s = .string t ∧ t.size ≤ 6 * k ∧ Below w.heap.size w wr) (fun _ i _ => 40 - (intOf i).toNat)
  case atStart => exact ⟨0, _, Nat.zero_le _, rfl, rfl, Nat.zero_le _, Below.refl _ _⟩
  case round =>
    obtain ⟨k, t, hk, rfl, rfl, ht, hB⟩ := hrel
    by_cases hl : k < L.length
    · have q0 : decide (k < L.length) = true := decide_eq_true hl
      by_cases h40 : k < 40
      · have q1 : decide ((k : Int) < 40) = true := by simp; omega
        have hB2 := blw hB (.cells #[.string ⟨#[97]⟩, .string ⟨#[98]⟩, .string ⟨#[122]⟩, .string ⟨#[45]⟩, .string ⟨#[91]⟩, .string ⟨#[93]⟩, .string ⟨#[94]⟩, .string ⟨#[92]⟩, .string ⟨#[92, 100]⟩, .string ⟨#[92, 76]⟩, .string ⟨#[92, 117]⟩, .string ⟨#[46]⟩, .string ⟨#[42]⟩, .string ⟨#[43]⟩, .string ⟨#[63]⟩, .string ⟨#[40]⟩, .string ⟨#[49]⟩, .string ⟨#[32]⟩, .string ⟨#[92, 93]⟩, .string ⟨#[91, 97, 45, 122, 93]⟩, .string ⟨#[91, 94, 92, 115, 93]⟩, .string ⟨#[33]⟩] 9)
        obtain ⟨a, rfl, ha, d0⟩ := (HO.out.call hB2).row k hl
        have hwf := HW.out k hl
        generalize L[k] = x at *
        have hp := fun W => place_any x 22 W (by omega) (by omega) hwf
        obtain ⟨x4, hx4, hx5⟩ : ∃ k : Nat, x % 22 = (k : Int) ∧ k < 22 := by
          have := Int.emod_nonneg x (show (22 : Int) ≠ 0 by omega); have := Int.emod_lt_of_pos x (show (0 : Int) < 22 by omega)
          exact ⟨(x % 22).toNat, by omega, by omega⟩
        rw [hx4] at hp
        have hcell := cell22 wr x4 hx5
        have hv := W22_size ⟨x4, hx5⟩
        dsimp only at hv
        generalize W22[x4] = v at *
        have HP := Lib.hid hp; have HB2 := Lib.hid hB2; clear hp hx4 hB hB2
        have y0 : (0 : Int) ≤ (x4 : Int) := by omega
        have y1 : (x4 : Int) < 22 := by omega
        go_wp2_with fail
        refine (HP.out _).mono ?_; rintro e w1 ⟨rfl, rfl⟩
        go_wp2_with fail
        go_roundw
        case rel => exact ⟨k + 1, t ++ v, h40, by go_num, rfl, by rw [ByteArray.size_append]; omega, HB2.out⟩
        case measure => simp [intOf]; omega
      · have q1 : decide ((k : Int) < 40) = false := by simp; omega
        go_wp2_with fail
        go_ret
        exact ⟨t, rfl, by omega, hB⟩
    · have q0 : decide (k < L.length) = false := decide_eq_false hl
      go_wp2_with fail
      go_ret
      exact ⟨t, rfl, by omega, hB⟩

set_option maxHeartbeats 6400000 in
theorem parses_any (s : ByteArray) (p1 : Option Addr) (c1 : Nat) (a1 : List Int) (w : World) (hs0 : s.size ≤ 140737488355328)
    (r1 : Ones w (Value.int .i64) p1 a1) (o1 : wfs a1) (n1 : a1.length ≤ c1) (m1 : c1 ≤ maxLen) :
    Calls Try.prog 3 #[.string s, .slice p1 a1.length c1] w fun e w' => e = .returned (.bool true) ∧ Below w.heap.size w w' := by
  have KN := Lib.hid known_any
  by_cases h200 : s.size ≤ 200
  · have q0 : decide (200 < s.size) = false := decide_eq_false (by omega)
    have kw := written_any p1 c1 a1 w r1 o1 n1 m1
    unfold maxLen at m1
    have KW := Lib.hid kw; clear kw r1 o1
    go_enter Try.func3, Try.ntmps3
    go_wp2_with fail
    refine KW.out.mono ?_; rintro e w1 ⟨u, rfl, hu, b1⟩
    have B1 := Lib.hid b1; clear b1
    go_wp2_with fail
    go_loopw [21] (fun i wr => (i = .int .i64 0 ∧ Below w.heap.size w wr) ∨ (i = .int .i64 1 ∧ Below w.heap.size w wr) ∨ (i = .int .i64 2 ∧ Below w.heap.size w wr)) (fun i _ => 2 - (intOf i).toNat)
    case atStart => exact .inl ⟨rfl, B1.out⟩
    case round =>
      have x0 := idx0 s u wr
      have x1 := idx1 s u wr
      rcases hrel with ⟨rfl, hB⟩ | ⟨rfl, hB⟩ | ⟨rfl, hB⟩
      · have HB := Lib.hid hB; clear hB
        have ka := fun W => parse_any s W (by omega)
        have kb := fun W => rparse_any s W (by omega)
        have kw := parse_wf s
        generalize parseF s = R at *
        obtain ⟨P, at_, er⟩ := R
        dsimp only at kw
        have KA := Lib.hid ka; have KB := Lib.hid kb; have KWF := Lib.hid kw; clear ka kb kw
        have qa : ((at_ : Int) != (at_ : Int)) = false := by simp
        have qe : (er != er) = false := by simp
        go_wp2_with fail
        refine (KA.out _).mono ?_; rintro e w2 ⟨v1, rfl, ow1, b2⟩
        have H2 := Lib.hid (And.intro ow1 (BelowOn HB.out b2)); clear ow1 b2
        go_wp2_with fail
        refine (KB.out _).mono ?_; rintro e w3 ⟨v2, rfl, ow2, b3⟩
        have ow1 := H2.out.1.call b3
        have B3 := Lib.hid (BelowOn H2.out.2 b3)
        obtain ⟨pa, ca, rfl, hpa, hcma, hatsa, _⟩ := ow1.ats
        obtain ⟨pb, cb, rfl, hpb, hcmb, hatsb, _⟩ := ow2.ats
        have HA := Lib.hid (And.intro hatsa hatsb); clear ow1 ow2 b3 hatsa hatsb
        go_wp2_with fail
        refine (same_any pa pb ca cb P _ HA.out.1 HA.out.2 hpa hpb hcma hcmb KWF.out).mono ?_; rintro e w4 ⟨rfl, b4⟩
        have B4 := Lib.hid (BelowOn B3.out b4); clear b4
        go_wp2_with fail
        go_roundw
        case rel => exact .inr (.inl ⟨rfl, B4.out⟩)
        case measure => simp [intOf]
      · have HB := Lib.hid hB; clear hB
        have ka := fun W => parse_any u W (by omega)
        have kb := fun W => rparse_any u W (by omega)
        have kw := parse_wf u
        generalize parseF u = R at *
        obtain ⟨P, at_, er⟩ := R
        dsimp only at kw
        have KA := Lib.hid ka; have KB := Lib.hid kb; have KWF := Lib.hid kw; clear ka kb kw
        have qa : ((at_ : Int) != (at_ : Int)) = false := by simp
        have qe : (er != er) = false := by simp
        go_wp2_with fail
        refine (KA.out _).mono ?_; rintro e w2 ⟨v1, rfl, ow1, b2⟩
        have H2 := Lib.hid (And.intro ow1 (BelowOn HB.out b2)); clear ow1 b2
        go_wp2_with fail
        refine (KB.out _).mono ?_; rintro e w3 ⟨v2, rfl, ow2, b3⟩
        have ow1 := H2.out.1.call b3
        have B3 := Lib.hid (BelowOn H2.out.2 b3)
        obtain ⟨pa, ca, rfl, hpa, hcma, hatsa, _⟩ := ow1.ats
        obtain ⟨pb, cb, rfl, hpb, hcmb, hatsb, _⟩ := ow2.ats
        have HA := Lib.hid (And.intro hatsa hatsb); clear ow1 ow2 b3 hatsa hatsb
        go_wp2_with fail
        refine (same_any pa pb ca cb P _ HA.out.1 HA.out.2 hpa hpb hcma hcmb KWF.out).mono ?_; rintro e w4 ⟨rfl, b4⟩
        have B4 := Lib.hid (BelowOn B3.out b4); clear b4
        go_wp2_with fail
        go_roundw
        case rel => exact .inr (.inr ⟨rfl, B4.out⟩)
        case measure => simp [intOf]
      · have HB := Lib.hid hB; clear hB
        go_wp2_with fail
        refine (KN.out _).mono ?_; rintro e w8 ⟨rfl, b8⟩
        have B8 := Lib.hid (BelowOn HB.out b8); clear b8
        go_wp2_with fail
        go_ret
        exact ⟨rfl, B8.out⟩
  · have q0 : decide (200 < s.size) = true := decide_eq_true (by omega)
    go_enter Try.func3, Try.ntmps3
    go_wp2_with fail
    refine (KN.out _).mono ?_; rintro e w8 ⟨rfl, b8⟩
    go_wp2_with fail
    go_ret
    exact ⟨rfl, b8⟩
end Go.Proofs.Ytdnofpllmhnacaa
