/- Contracts of Sum and of the reference's Sum. -/
import Derived.Test.YtfhppadcaoggeaaKeep
import Derived.Test.YtfhppadcaoggeaaSumM
namespace Go.Proofs.Ytfhppadcaoggeaa
open Go.ChangeShapes Go.WideShapes Go.ChangeAt Go.RowKit
set_option linter.unusedVariables false

/-- The cells of a slice of ratios. -/
def Rats (W : World) (a : Addr) (l : List (Int × Int)) : Prop := (0 < l.length → a.block < W.heap.size) ∧ ∀ i (h : i < l.length), W.cell? (a.add (i * 2)) = some (.int .i64 l[i].1) ∧ W.cell? (a.add (i * 2 + 1)) = some (.int .i64 l[i].2)
theorem add_block (a : Addr) (n : Nat) : (a.add n).block = a.block := by unfold Addr.add; split <;> rfl
theorem Rats.call {W w1 : World} {a : Addr} {l : List (Int × Int)} (h : Rats W a l) (hb : Below W.heap.size W w1) : Rats w1 a l :=
  ⟨fun h0 => Nat.lt_of_lt_of_le (h.1 h0) hb.size, fun i hi => ⟨by rw [hb.cell (p := a.add (i * 2)) (by rw [add_block]; exact h.1 (by omega))]; exact (h.2 i hi).1, by rw [hb.cell (p := a.add (i * 2 + 1)) (by rw [add_block]; exact h.1 (by omega))]; exact (h.2 i hi).2⟩⟩

theorem add_next (a : Addr) (n : Nat) : (⟨(a.add n).block, (a.add n).off + 1, none⟩ : Addr) = a.add (n + 1) := by
  unfold Addr.add
  by_cases h : n = 0
  · rw [if_pos h, if_neg (by omega), h]
  · rw [if_neg h, if_neg (by omega)]; rfl
theorem Rats.cells {W : World} {a : Addr} {l : List (Int × Int)} (h : Rats W a l) (k : Nat) (hk : k < l.length) :
    W.cell? (a.add (k * 2)) = some (.int .i64 l[k].1) ∧ W.cell? ⟨(a.add (k * 2)).block, (a.add (k * 2)).off + 1, none⟩ = some (.int .i64 l[k].2) := by
  rw [add_next]; exact h.2 k hk
theorem Two.set {W : World} {b : Nat} {x y : Value} (h : Two W b x y) (u v : Value) : Two ((W.setCell ⟨b, 0, none⟩ u).setCell ⟨b, 1, none⟩ v) b u v := by
  have s : ((W.setCell ⟨b, 0, none⟩ u).setCell ⟨b, 1, none⟩ v).heap.size = W.heap.size := by simp [World.setCell]
  refine ⟨?_, ?_, by rw [s]; exact h.lt⟩
  · rw [World.cell?_setCell_other _ _ _ _ (by intro e; injection e; omega)]; exact World.cell?_setCell_same _ _ _ h.c0
  · exact World.cell?_setCell_same _ _ _ ((World.cell?_setCell_other _ _ _ _ (by intro e; injection e; omega)).trans h.c1)
theorem Two.setOther {W : World} {b c : Nat} {x y : Value} (h : Two W b x y) (hne : b ≠ c) (u v : Value) : Two ((W.setCell ⟨c, 0, none⟩ u).setCell ⟨c, 1, none⟩ v) b x y := by
  have s : ((W.setCell ⟨c, 0, none⟩ u).setCell ⟨c, 1, none⟩ v).heap.size = W.heap.size := by simp [World.setCell]
  refine ⟨?_, ?_, by rw [s]; exact h.lt⟩
  · rw [World.cell?_setCell_other _ _ _ _ (by intro e; injection e; omega), World.cell?_setCell_other _ _ _ _ (by intro e; injection e; omega)]; exact h.c0
  · rw [World.cell?_setCell_other _ _ _ _ (by intro e; injection e; omega), World.cell?_setCell_other _ _ _ _ (by intro e; injection e; omega)]; exact h.c1
/-- A variable of two cells that may be written. -/
def Free (W : World) (b : Nat) : Prop := W.frozen? ⟨b, 0, none⟩ = false ∧ W.frozen? ⟨b, 1, none⟩ = false
theorem Free.call {W w1 : World} {b : Nat} (h : Free W b) (hlt : b < W.heap.size) (hb : Below W.heap.size W w1) : Free w1 b :=
  ⟨by rw [hb.frozen (p := ⟨b, 0, none⟩) hlt]; exact h.1, by rw [hb.frozen (p := ⟨b, 1, none⟩) hlt]; exact h.2⟩
theorem Free.alloc {W : World} {b : Nat} (h : Free W b) (hlt : b < W.heap.size) (o : Obj) : Free (W.alloc o) b := h.call hlt ((Below.refl _ _).alloc (Nat.le_refl _) o)
theorem Free.set {W : World} {b : Nat} (h : Free W b) (c : Addr) (v : Value) : Free (W.setCell c v) b := ⟨by rw [World.frozen?_setCell]; exact h.1, by rw [World.frozen?_setCell]; exact h.2⟩
theorem Free.new (W : World) (x y : Value) : Free (W.alloc (.cells #[x, y] 24)) W.heap.size := ⟨by simp [go_sem], by simp [go_sem]⟩

theorem add_not (q : Rat) (x : Int × Int) (w : World) (hq : fits q = true) (h : ¬ (valB x.1 x.2 = true ∧ fits (q + Rat.divInt x.1 x.2) = true)) :
    Calls Try.prog 15 #[.agg #[.int .i64 q.num, .int .i64 (q.den : Int)], .agg #[.int .i64 x.1, .int .i64 x.2]] w fun e w' => e = .returned (.tuple #[.agg #[.int .i64 0, .int .i64 0], .bool false]) ∧ Below w.heap.size w w' := by
  refine (add_any q.num q.den x.1 x.2 w).mono fun e w' ⟨he, hb⟩ => ⟨?_, hb⟩
  rw [he]; unfold addQ
  by_cases hv : valB x.1 x.2 = true
  · have hf : fits (q + Rat.divInt x.1 x.2) = false := by
      cases hf : fits (q + Rat.divInt x.1 x.2)
      · rfl
      · exact absurd ⟨hv, hf⟩ h
    rw [if_pos ⟨fits_val q hq, hv⟩, Rat.num_divInt_den]
    show Ending.returned (.tuple #[.agg #[.int .i64 (qN (q + Rat.divInt x.1 x.2)), .int .i64 (qD (q + Rat.divInt x.1 x.2))], .bool (fits (q + Rat.divInt x.1 x.2))]) = _
    rw [qN_no hf, qD_no hf, hf]
  · rw [if_neg (fun hh => hv hh.2)]; rfl
theorem add_yes (q : Rat) (x : Int × Int) (w : World) (hq : fits q = true) (h : valB x.1 x.2 = true ∧ fits (q + Rat.divInt x.1 x.2) = true) :
    Calls Try.prog 15 #[.agg #[.int .i64 q.num, .int .i64 (q.den : Int)], .agg #[.int .i64 x.1, .int .i64 x.2]] w (GotQ (q + Rat.divInt x.1 x.2) w) :=
  (add_any q.num q.den x.1 x.2 w).mono fun e w' h' => got_of (by unfold addQ; rw [if_pos ⟨fits_val q hq, h.1⟩, Rat.num_divInt_den]) h.2 h'

/-- What holds at each round's head of Sum. -/
structure SumRel (l : List (Int × Int)) (w : World) (k : Nat) (q : Rat) (wr : World) : Prop where
  le : k ≤ l.length
  sum : sumS (l.take k) = some q
  below : Below w.heap.size w wr
  acc : Two wr (w.heap.size + 1) (.int .i64 q.num) (.int .i64 (q.den : Int))
  accf : Free wr (w.heap.size + 1)
  res : Two wr w.heap.size (.int .i64 0) (.int .i64 0)
  resf : Free wr w.heap.size
theorem sum_some (a : Addr) (cap : Nat) (l : List (Int × Int)) (w : World) (hR : Rats w a l) (hc : l.length ≤ cap) (hm : cap ≤ maxLen) :
    Calls Try.prog 28 #[.slice (some a) l.length cap] w (OptEnd (sumS l) w) := by
  unfold maxLen at hm
  go_enter Try.func28, Try.ntmps28
  go_wp2_with fail
  go_loopw [12] (fun i wr => ∃ k : Nat, ∃ q : Rat, i = .int .i64 k ∧ SumRel l w k q wr) (fun i _ => l.length - (intOf i).toNat)
  case atStart =>
    refine ⟨0, 0, rfl, Nat.zero_le _, rfl, ((Below.refl _ _).alloc (Nat.le_refl _) _).alloc (by simp) _, ?_, ?_, ?_, ?_⟩
    · exact twoNew _ _ _ _ (by simp)
    · have := Free.new (w.alloc (.cells #[.int .i64 0, .int .i64 0] 24)) (.int .i64 0) (.int .i64 1); simpa using this
    · exact (twoNew _ _ _ _ rfl).alloc _
    · exact (Free.new _ _ _).alloc (by simp) _
  case round =>
    obtain ⟨k, q, rfl, hS⟩ := hrel
    by_cases hlt : k < l.length
    · obtain ⟨e0, e1⟩ := (hR.call hS.below).cells k hlt
      have hq := sumS_fits _ q hS.sum
      obtain ⟨c10, c11, l1⟩ := id hS.acc
      generalize hx : l[k] = x at *
      have HX := Lib.hid hx; clear hx
      by_cases hok : valB x.1 x.2 = true ∧ fits (q + Rat.divInt x.1 x.2) = true
      · have ha := fun w => add_yes q x w hq hok
        have HA := Lib.hid ha; have HOK := Lib.hid hok; clear ha hok hq
        go_wp2_with fail
        refine (HA.out _).mono ?_; rintro e w1 ⟨rfl, hb⟩
        clear e0 e1 c10 c11 l1
        have T1 := (hS.acc.alloc _).call hb
        have F1 := (hS.accf.alloc hS.acc.lt _).call (hS.acc.alloc _).lt hb
        have T0 := (hS.res.alloc _).call hb
        have F0 := (hS.resf.alloc hS.res.lt _).call (hS.res.alloc _).lt hb
        have hB := BelowOn (blw hS.below _) hb
        obtain ⟨c10, c11, l1⟩ := id T1
        obtain ⟨f10, f11⟩ := id F1
        go_wp2_with fail
        go_roundw
        case rel =>
          have hk1 : sumS (l.take (k + 1)) = some (q + Rat.divInt x.1 x.2) := by
            rw [List.take_succ_eq_append_getElem hlt, sumS_snoc, hS.sum, HX.out]; exact if_pos HOK.out
          have gz := hB.size
          refine ⟨k + 1, _, by go_num, hlt, hk1, ?_, ?_, ?_, ?_, ?_⟩
          · exact blw ((hB.setCell (by simp) _).setCell (by simp) _) _
          · exact (T1.set _ _).alloc _
          · exact ((F1.set _ _).set _ _).alloc (T1.set _ _).lt _
          · exact (T0.setOther (by omega) _ _).alloc _
          · exact ((F0.set _ _).set _ _).alloc (T0.setOther (c := w.heap.size + 1) (by omega) _ _).lt _
        case measure => simp [intOf]; omega
      · have ha := fun w => add_not q x w hq hok
        have HA := Lib.hid ha; have HOK := Lib.hid hok; clear ha hok hq
        obtain ⟨c00, c01, l0⟩ := id hS.res
        go_wp2_with fail
        refine (HA.out _).mono ?_; rintro e w1 ⟨rfl, hb⟩
        clear e0 e1 c10 c11 l1 c00 c01 l0
        have T0 := (hS.res.alloc _).call hb
        have F0 := (hS.resf.alloc hS.res.lt _).call (hS.res.alloc _).lt hb
        have hB := BelowOn (blw hS.below _) hb
        obtain ⟨c00, c01, l0⟩ := id T0
        obtain ⟨f00, f01⟩ := id F0
        go_wp2_with fail
        have ho : sumS l = none := sumS_fail l (k + 1) (by
          rw [List.take_succ_eq_append_getElem hlt, sumS_snoc, hS.sum, HX.out]; exact if_neg HOK.out)
        rw [ho]
        refine bodyPost_ret (v := .tuple #[.agg #[.int .i64 0, .int .i64 0], .bool false]) (by simp [results, Try.results28, go_sem, c00, c01, l0]) rfl ⟨rfl, ?_⟩
        exact blw ((hB.setCell (by simp) _).setCell (by simp) _) _
    · have hk : k = l.length := by have := hS.le; omega
      obtain ⟨c10, c11, l1⟩ := id hS.acc
      obtain ⟨c00, c01, l0⟩ := id hS.res
      obtain ⟨f00, f01⟩ := id hS.resf
      have hs := hS.sum
      rw [hk, List.take_length] at hs
      have hf := sumS_fits _ q hs
      have HS := Lib.hid hs; have HF := Lib.hid hf; have HK := Lib.hid hk; clear hs hf hk
      go_wp2_with fail
      rw [HS.out]
      refine bodyPost_ret (v := .tuple #[.agg #[.int .i64 q.num, .int .i64 (q.den : Int)], .bool true]) (by simp [results, Try.results28, go_sem, c00, c01]) rfl ⟨?_, ?_⟩
      · unfold oN oD oB qN qD; simp only [HF.out]; rfl
      · exact (hS.below.setCell (by simp) _).setCell (by simp) _
end Go.Proofs.Ytfhppadcaoggeaa
