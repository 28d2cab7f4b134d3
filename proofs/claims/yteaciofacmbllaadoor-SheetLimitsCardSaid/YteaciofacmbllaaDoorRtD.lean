/- strings.IndexAny at the three signs that end a bare field, for any bytes; bareLength. strings.IndexAny at the three signs that end a bare field: the walks. strings.IndexAny at the three signs, for any bytes; bareLength; closingQuote. Contracts of closingQuote, bareLength, readField. Contracts of readEnd and readHeader. -/
import Derived.Test.YteaciofacmbllaaDoorRtB
import Derived.Laws.RangeString
import Derived.Laws.Strings3
import Derived.Deep.LoopGhost
import Derived.Shelf.Small.Utf8
import Derived.Deep.RegionLaw
import Derived.WalkMore
import Derived.Test.YteaciofacmbllaaDoorShelf0
namespace Go.Proofs.YteaciofacmbllaaDoor
open Go.ChangeShapes Go.WideShapes Go.ChangeAt Go.RowKit
set_option linter.unusedVariables false
set_option linter.unusedSimpArgs false
set_option maxRecDepth 100000

theorem get_bang (s : ByteArray) (k : Nat) (h : k < s.size) : s.get! k = s[k]'h := by
  simp [ByteArray.get!, getElem!_pos, h]; rfl
/-- What is decoded at a byte that is not ASCII: a rune from 128 on; its further bytes are not ASCII either. -/
structure HiRune (s : ByteArray) (pos r k : Nat) : Prop where
  dec : Utf8.decode s pos = (r, k)
  low : 128 ≤ r
  ok : Utf8.valid (r : Int) = true
  one : 1 ≤ k
  fit : pos + k ≤ s.size
  high : ∀ j (h : j < s.size), pos ≤ j → j < pos + k → 128 ≤ (s[j]'h).toNat
theorem hi_cont {s : ByteArray} {pos k : Nat} (h : (decide (pos + k < s.size) && (s.get! (pos + k)).toNat / 64 == 2) = true) : pos + k < s.size ∧ ∀ j (h : j < s.size), j = pos + k → 128 ≤ (s[j]'h).toNat := by
  rw [Bool.and_eq_true, decide_eq_true_iff, beq_iff_eq] at h
  refine ⟨h.1, fun j h' e => ?_⟩
  subst e
  rw [get_bang s _ h'] at h; omega
theorem decode_high (s : ByteArray) (pos : Nat) (h : pos < s.size) (ha : ¬ (s[pos]'h).toNat < 128) : ∃ r k, HiRune s pos r k := by
  have h0 : (s.get! (pos + 0)).toNat = (s[pos]'h).toNat := by rw [Nat.add_zero, get_bang s pos h]
  have hself : ∀ j (hj : j < s.size), j = pos → 128 ≤ (s[j]'hj).toNat := fun j hj e => by subst e; omega
  have bad : Utf8.decode s pos = (Utf8.runeError, 1) → ∃ r k, HiRune s pos r k := fun e =>
    ⟨65533, 1, e, by decide, by decide, Nat.le_refl _, h, fun j hj h1 h2 => hself j hj (by omega)⟩
  obtain ⟨y, hy⟩ : ∃ y, Utf8.decode s pos = y := ⟨_, rfl⟩
  have hz := hy
  unfold Utf8.decode at hz
  dsimp only at hz
  split at hz
  · omega
  split at hz
  · rename_i h1 h2
    rw [Bool.and_eq_true] at h2
    obtain ⟨f1, g1⟩ := hi_cont h2.2
    split at hz
    · rename_i hc
      refine ⟨_, _, hy.trans hz.symm, by omega, ?_, by omega, by omega, fun j hj a b => ?_⟩
      · unfold Utf8.valid
        simp only [Bool.or_eq_true, Bool.and_eq_true, decide_eq_true_iff]; omega
      · rcases (by omega : j = pos ∨ j = pos + 1) with e | e
        · exact hself j hj e
        · exact g1 j hj e
    · exact bad (hy.trans hz.symm)
  split at hz
  · rename_i h1 h1' h2
    rw [Bool.and_eq_true, Bool.and_eq_true] at h2
    obtain ⟨f1, g1⟩ := hi_cont h2.1.2
    obtain ⟨f2, g2⟩ := hi_cont h2.2
    split at hz
    · rename_i hc
      rw [Bool.and_eq_true, decide_eq_true_iff] at hc
      refine ⟨_, _, hy.trans hz.symm, by omega, hc.2, by omega, by omega, fun j hj a b => ?_⟩
      rcases (by omega : j = pos ∨ j = pos + 1 ∨ j = pos + 2) with e | e | e
      · exact hself j hj e
      · exact g1 j hj e
      · exact g2 j hj e
    · exact bad (hy.trans hz.symm)
  split at hz
  · rename_i h1 h1' h1'' h2
    rw [Bool.and_eq_true, Bool.and_eq_true, Bool.and_eq_true] at h2
    obtain ⟨f1, g1⟩ := hi_cont h2.1.1.2
    obtain ⟨f2, g2⟩ := hi_cont h2.1.2
    obtain ⟨f3, g3⟩ := hi_cont h2.2
    split at hz
    · rename_i hc
      rw [Bool.and_eq_true, decide_eq_true_iff] at hc
      refine ⟨_, _, hy.trans hz.symm, by omega, hc.2, by omega, by omega, fun j hj a b => ?_⟩
      rcases (by omega : j = pos ∨ j = pos + 1 ∨ j = pos + 2 ∨ j = pos + 3) with e | e | e | e
      · exact hself j hj e
      · exact g1 j hj e
      · exact g2 j hj e
      · exact g3 j hj e
    · exact bad (hy.trans hz.symm)
  · exact bad (hy.trans hz.symm)
theorem run_next_rune {P : Program} (w : World) (s : ByteArray) (pos r k : Nat) (ty : TypeId) (h : pos < s.size) (hd : Utf8.decode s pos = (r, k)) :
    (Instr.next (.pointer (some ⟨w.heap.size, 0, none⟩)) true ty).run P (w.iter s pos) =
      .ok (.tuple #[.bool true, .int .i64 pos, .int .i32 (r : Int)]) (w.iter s (pos + k)) := by
  simp only [Instr.next, getObj, setObj, Sem.run_bind, Sem.run, World.iter_heap, Result.andThen, h, if_true, hd, World.iter_set]
  simp [goInt, Sem.run, World.iter_heap, World.iter_set]
/-- The encoding of a rune from 128 on has two to four bytes, the last of them not ASCII. -/
theorem encode_high (r : Nat) (h : 128 ≤ r) (hv : Utf8.valid (r : Int) = true) : ∃ (t : ByteArray), Utf8.encode (r : Int) = t ∧ 2 ≤ t.size ∧ t.size ≤ 4 ∧ ∀ h : t.size - 1 < t.size, 128 ≤ (t[t.size - 1]'h).toNat := by
  have hu : ∀ n : Nat, 128 ≤ (UInt8.ofNat (128 + n % 64)).toNat := fun n => by
    rw [UInt8.toNat_ofNat']; omega
  obtain ⟨t, ht⟩ : ∃ t, Utf8.encode (r : Int) = t := ⟨_, rfl⟩
  refine ⟨t, ht, ?_⟩
  unfold Utf8.encode at ht
  dsimp only at ht
  rw [if_pos hv] at ht
  rw [show (r : Int).toNat = r from Int.toNat_natCast r] at ht
  split at ht
  · omega
  split at ht
  · subst ht; exact ⟨Nat.le_refl _, by show 2 ≤ 4; omega, fun _ => hu r⟩
  split at ht
  · subst ht; exact ⟨by show 2 ≤ 3; omega, by show 3 ≤ 4; omega, fun _ => hu r⟩
  · subst ht; exact ⟨by show 2 ≤ 4; omega, by show 4 ≤ 4; omega, fun _ => hu r⟩

theorem c3_size : (⟨#[34, 44, 10]⟩ : ByteArray).size = 3 := rfl
theorem encode_run (r : Nat) (t : ByteArray) (h : Utf8.encode (r : Int) = t) (w : World) : (convert 21 9 (.int .i32 (r : Int))).run Tryd.prog w = .ok (.string t) w := by
  rw [← h]; kernel_rfl
end Go.Proofs.YteaciofacmbllaaDoor
namespace Go.Proofs.YteaciofacmbllaaDoor
open Go.ChangeShapes Go.WideShapes Go.ChangeAt Go.RowKit
set_option linter.unusedVariables false
set_option linter.unusedSimpArgs false
set_option maxRecDepth 100000

theorem indexByte_no (l : List UInt8) (c : UInt8) (h : ∀ x ∈ l, x ≠ c) : Lib.indexByte l c = -1 := by
  induction l with
  | nil => rfl
  | cons x t ih =>
    rw [Lib.indexByte, beq_eq_false_iff_ne.2 (h x (List.mem_cons_self ..)), ih (fun y hy => h y (List.mem_cons_of_mem _ hy))]; rfl
set_option maxHeartbeats 4000000 in
/-- A rune that is not ASCII is none of the three signs: all but the replacement sign. -/
theorem idxrune_big (r : Nat) (w : World) (h : 128 ≤ r) (hv : Utf8.valid (r : Int) = true) (hn : r ≠ 65533) :
    Calls Tryd.prog 111 #[.string ⟨#[34, 44, 10]⟩, .int .i32 (r : Int)] w fun e w' => e = .returned (.int .i64 (-1)) ∧ ∃ m, w' = w.drewN m := by
  obtain ⟨t, ht, h2, h4, hl⟩ := encode_high r h hv
  have hcv := encode_run r t ht w
  have hr2 : (r : Int) ≤ 1114111 := by unfold Utf8.valid at hv; simp only [Bool.or_eq_true, Bool.and_eq_true, decide_eq_true_iff] at hv; omega
  have hvr : Lib.validRune (r : Int) = true := by
    unfold Utf8.valid at hv; unfold Lib.validRune
    simp only [Bool.or_eq_true, Bool.and_eq_true, decide_eq_true_iff] at hv ⊢; omega
  have hval := fun W => Any.utf8_ValidRune { Tryd.lays152 with } (r : Int) W
  rw [hvr] at hval
  have HV := Lib.hid hval
  have q0 : ¬ (r : Int) < 128 := by omega
  have q1 : ((r : Int) == 65533) = false := by rw [beq_eq_false_iff_ne]; omega
  have hlast := hl (by omega)
  have hib : ∀ (l : ByteArray) W, (∀ x ∈ l.data.toList, x.toNat < 128) → Calls Tryd.prog 125 #[.string l, .int .u8 (t[t.size - 1].toNat : Int)] W fun e w' => e = .returned (.int .i64 (-1)) ∧ w' = W := fun l W hl => by
    have h := Tryd.strings_IndexByte l (t[t.size - 1].toNat : Int) W
    have hback : (t[t.size - 1].toNat : Int).toNat.toUInt8 = t[t.size - 1] := by simp
    rw [hback, indexByte_no l.data.toList _ (fun x hx e => by have := hl x hx; rw [e] at this; omega)] at h
    exact h
  clear hvr hval hv ht hl
  rcases (by omega : t.size = 2 ∨ t.size = 3 ∨ t.size = 4) with hs | hs | hs
  · have e1 : t[t.size - 1] = t[1]'(by omega) := by simp only [hs]
    rw [e1] at hlast
    have q2 : ((44 : Int) == ((t[1]'(by omega)).toNat : Int)) = false := by rw [beq_eq_false_iff_ne]; omega
    have q3 : ((44 : Int) != ((t[1]'(by omega)).toNat : Int)) = true := by rw [bne_iff_ne]; omega
    have q4 : ((((⟨#[34, 44, 10]⟩ : ByteArray)[1]'(by decide)).toNat : Int) != ((t[1]'(by omega)).toNat : Int)) = true := q3
    have w3 : IntKind.i64.wrap 2 = 2 := by decide
    have w4 : IntKind.i64.wrap 3 = 3 := by decide
    rw [e1] at hib
    have HB := Lib.hid hib
    clear hib e1
    have i1 : (1 : Int) < (t.size : Int) := by omega
    have hsz : (t.size : Int) = 2 := by omega
    go_enter Tryd.func111, Tryd.ntmps111
    go_wp2_with fail
    refine (HV.out _).mono ?_; rintro e w1 ⟨rfl, rfl⟩
    go_wp2_with fail
    go_step3
    go_wp2_with fail
    go_loopw [9, 10] (fun i f wr => i = .int .i64 1 ∧ f = .int .i64 0 ∧ wr = w1) (fun _ _ _ => 1)
    case atStart => exact ⟨rfl, rfl, rfl⟩
    case round =>
      obtain ⟨rfl, rfl, rfl⟩ := hrel
      go_wp2_with fail
      go_step3
      go_wp2_with fail
      go_quiet (fail)
      generalize hW : wr.drewN nq = W1
      go_wp2_with fail
      go_quiet ((first | (exact Calls.quiet_of_same (HB.out _ _ (by decide)))))
      go_wp2_with fail
      rw [Exit.noGoto_ret]
      simp only [Exit.inBlock]
      change (Exit.noGoto _) Exit.ret _ _
      rw [Exit.noGoto_ret]
      simp only [Exit.inBlock, Exit.then]
      rw [Exit.noGoto_ret]
      go_ret
      exact ⟨rfl, _, by rw [← hW, World.drewN_drewN]⟩
  · have e1 : t[t.size - 1] = t[2]'(by omega) := by simp only [hs]
    rw [e1] at hlast
    have q2 : ((10 : Int) == ((t[2]'(by omega)).toNat : Int)) = false := by rw [beq_eq_false_iff_ne]; omega
    have q3 : ((10 : Int) != ((t[2]'(by omega)).toNat : Int)) = true := by rw [bne_iff_ne]; omega
    have q4 : ((((⟨#[34, 44, 10]⟩ : ByteArray)[2]'(by decide)).toNat : Int) != ((t[2]'(by omega)).toNat : Int)) = true := q3
    have w3 : IntKind.i64.wrap 2 = 2 := by decide
    have w4 : IntKind.i64.wrap 3 = 3 := by decide
    rw [e1] at hib
    have HB := Lib.hid hib
    clear hib e1
    have i1 : (2 : Int) < (t.size : Int) := by omega
    have hsz : (t.size : Int) = 3 := by omega
    go_enter Tryd.func111, Tryd.ntmps111
    go_wp2_with fail
    refine (HV.out _).mono ?_; rintro e w1 ⟨rfl, rfl⟩
    go_wp2_with fail
    go_step3
    go_wp2_with fail
    go_loopw [9, 10] (fun i f wr => i = .int .i64 2 ∧ f = .int .i64 0 ∧ wr = w1) (fun _ _ _ => 1)
    case atStart => exact ⟨rfl, rfl, rfl⟩
    case round =>
      obtain ⟨rfl, rfl, rfl⟩ := hrel
      go_wp2_with fail
      go_step3
      go_wp2_with fail
      go_quiet (fail)
      generalize hW : wr.drewN nq = W1
      go_wp2_with fail
      go_quiet ((first | (exact Calls.quiet_of_same (HB.out _ _ (by decide)))))
      go_wp2_with fail
      rw [Exit.noGoto_ret]
      simp only [Exit.inBlock]
      change (Exit.noGoto _) Exit.ret _ _
      rw [Exit.noGoto_ret]
      simp only [Exit.inBlock, Exit.then]
      rw [Exit.noGoto_ret]
      go_ret
      exact ⟨rfl, _, by rw [← hW, World.drewN_drewN]⟩
  · have i1 : (t.size : Int) = 4 := by omega
    clear hib hlast hs
    go_enter Tryd.func111, Tryd.ntmps111
    go_wp2_with fail
    refine (HV.out _).mono ?_; rintro e w1 ⟨rfl, rfl⟩
    go_wp2_with fail
    go_step3
    go_wp2_with fail
    go_loopw [9, 10] (fun i f wr => i = .int .i64 3 ∧ f = .int .i64 0 ∧ wr = w1) (fun _ _ _ => 1)
    case atStart => exact ⟨rfl, rfl, rfl⟩
    case round =>
      obtain ⟨rfl, rfl, rfl⟩ := hrel
      go_wp2_with fail
      rw [Exit.noGoto_ret]
      go_ret
      exact ⟨rfl, 0, rfl⟩
end Go.Proofs.YteaciofacmbllaaDoor
namespace Go.Proofs.YteaciofacmbllaaDoor
open Go.ChangeShapes Go.WideShapes Go.ChangeAt Go.RowKit
set_option linter.unusedVariables false
set_option linter.unusedSimpArgs false
set_option maxRecDepth 100000

def c3 : ByteArray := ⟨#[34, 44, 10]⟩
theorem below_iter (w : World) (s : ByteArray) (pos : Nat) : Below w.heap.size w (w.iter s pos) := blw (Below.refl _ _) _
theorem below_N {k : Nat} {w w' : World} (h : Below k w w') (n : Nat) : Below k w (w'.drewN n) := ⟨h.os, h.tape, h.output, h.size, h.block⟩
set_option maxHeartbeats 4000000 in
theorem idxrune_rep (w : World) : Calls Tryd.prog 111 #[.string ⟨#[34, 44, 10]⟩, .int .i32 65533] w fun e w' => e = .returned (.int .i64 (-1)) ∧ Below w.heap.size w w' := by
  have hn0 := fun ty => run_next_ascii (P := Tryd.prog) w ⟨#[34, 44, 10]⟩ 0 ty (by decide) (by decide)
  have hn1 := fun ty => run_next_ascii (P := Tryd.prog) w ⟨#[34, 44, 10]⟩ 1 ty (by decide) (by decide)
  have hn2 := fun ty => run_next_ascii (P := Tryd.prog) w ⟨#[34, 44, 10]⟩ 2 ty (by decide) (by decide)
  have hn3 := fun ty => run_next_end (P := Tryd.prog) w ⟨#[34, 44, 10]⟩ 3 ty (by decide)
  have HN := Lib.hid (And.intro hn0 (And.intro hn1 (And.intro hn2 hn3)))
  clear hn0 hn1 hn2 hn3
  go_enter Tryd.func111, Tryd.ntmps111
  go_wp2_with fail
  go_loopg [5, 6] 3 (fun g _ _ wx => ∃ i : Nat, i + g = 3 ∧ wx = w.iter ⟨#[34, 44, 10]⟩ i)
  case atStart => exact ⟨0, rfl, rfl⟩
  case round =>
    obtain ⟨i, hig, rfl⟩ := hrel
    obtain ⟨hn0, hn1, hn2, hn3⟩ := HN.out
    rcases (by omega : i = 0 ∨ i = 1 ∨ i = 2 ∨ i = 3) with rfl | rfl | rfl | rfl
    · have hnx : ∀ ty, (Instr.next (.pointer (some ⟨w.heap.size, 0, none⟩)) true ty).run Tryd.prog (w.iter ⟨#[34, 44, 10]⟩ 0) = .ok (.tuple #[.bool true, .int .i64 0, .int .i32 34]) (w.iter ⟨#[34, 44, 10]⟩ 1) := hn0
      clear hn0 hn1 hn2 hn3
      go_wp2
      go_roundg 2
      case measure => omega
      case rel => exact ⟨1, rfl, rfl⟩
    · have hnx : ∀ ty, (Instr.next (.pointer (some ⟨w.heap.size, 0, none⟩)) true ty).run Tryd.prog (w.iter ⟨#[34, 44, 10]⟩ 1) = .ok (.tuple #[.bool true, .int .i64 1, .int .i32 44]) (w.iter ⟨#[34, 44, 10]⟩ 2) := hn1
      clear hn0 hn1 hn2 hn3
      go_wp2
      go_roundg 1
      case measure => omega
      case rel => exact ⟨2, rfl, rfl⟩
    · have hnx : ∀ ty, (Instr.next (.pointer (some ⟨w.heap.size, 0, none⟩)) true ty).run Tryd.prog (w.iter ⟨#[34, 44, 10]⟩ 2) = .ok (.tuple #[.bool true, .int .i64 2, .int .i32 10]) (w.iter ⟨#[34, 44, 10]⟩ 3) := hn2
      clear hn0 hn1 hn2 hn3
      go_wp2
      go_roundg 0
      case measure => omega
      case rel => exact ⟨3, rfl, rfl⟩
    · have hnx := hn3
      clear hn0 hn1 hn2 hn3
      go_wp2
      go_ret
      exact ⟨rfl, below_iter _ _ _⟩
theorem idxrune_high (r : Nat) (w : World) (h : 128 ≤ r) (hv : Utf8.valid (r : Int) = true) :
    Calls Tryd.prog 111 #[.string ⟨#[34, 44, 10]⟩, .int .i32 (r : Int)] w fun e w' => e = .returned (.int .i64 (-1)) ∧ Below w.heap.size w w' := by
  by_cases hn : r = 65533
  · subst hn; exact idxrune_rep w
  · refine (idxrune_big r w h hv hn).mono ?_
    rintro e w' ⟨rfl, m, rfl⟩
    exact ⟨rfl, below_N (Below.refl _ _) m⟩
/-- One step of the iterator over a string that lies in block B. -/
theorem next_rune {P : Program} (W : World) (B : Nat) (s : ByteArray) (pos r k : Nat) (ty : TypeId) (hB : W.heap[B]? = some (.stringIter s pos)) (h : pos < s.size) (hd : Utf8.decode s pos = (r, k)) :
    (Instr.next (.pointer (some ⟨B, 0, none⟩)) true ty).run P W = .ok (.tuple #[.bool true, .int .i64 pos, .int .i32 (r : Int)]) { W with heap := W.heap.setIfInBounds B (.stringIter s (pos + k)) } := by
  simp only [Instr.next, getObj, setObj, Sem.run_bind, Sem.run, hB, Result.andThen, h, if_true, hd]
  simp [goInt, Sem.run, hB]
theorem next_end {P : Program} (W : World) (B : Nat) (s : ByteArray) (pos : Nat) (ty : TypeId) (hB : W.heap[B]? = some (.stringIter s pos)) (h : ¬ pos < s.size) :
    (Instr.next (.pointer (some ⟨B, 0, none⟩)) true ty).run P W = .ok (.tuple #[.bool false]) W := by
  simp [Instr.next, getObj, Sem.run, hB, h]
/-- The iterator stands at pos; all below has stayed. -/
structure ItAt (w : World) (s : ByteArray) (pos : Nat) (W : World) : Prop where
  it : W.heap[w.heap.size]? = some (.stringIter s pos)
  bel : Below w.heap.size w W
theorem ItAt.next {w W : World} {s : ByteArray} {pos : Nat} (h : ItAt w s pos W) (q : Nat) : ItAt w s q { W with heap := W.heap.setIfInBounds w.heap.size (.stringIter s q) } := by
  have hlt : w.heap.size < W.heap.size := (Array.getElem?_eq_some_iff.1 h.it).1
  refine ⟨?_, ⟨h.bel.os, h.bel.tape, h.bel.output, by simpa using h.bel.size, fun i hi => ?_⟩⟩
  · show (W.heap.setIfInBounds w.heap.size _)[w.heap.size]? = _
    simp [Array.getElem?_setIfInBounds, hlt]
  · show (W.heap.setIfInBounds w.heap.size _)[i]? = _
    rw [Array.getElem?_setIfInBounds, if_neg (by omega)]
    exact h.bel.block i hi
theorem ItAt.call {w W W' : World} {s : ByteArray} {pos : Nat} (h : ItAt w s pos W) (hb : Below W.heap.size W W') : ItAt w s pos W' :=
  ⟨(hb.block _ (Array.getElem?_eq_some_iff.1 h.it).1).trans h.it, BelowOn h.bel hb⟩
theorem noany_more {s : ByteArray} {i k r : Nat} (h : Lib.NoAny s.data.toList [34, 44, 10] i) (hr : HiRune s i r k) : Lib.NoAny s.data.toList [34, 44, 10] (i + k) := fun j b hj hb => by
  rcases Nat.lt_or_ge j i with h1 | h1
  · exact h j b h1 hb
  · obtain ⟨hl, hg⟩ := List.getElem?_eq_some_iff.1 hb
    have hl' : j < s.size := by simpa using hl
    have := hr.high j hl' h1 hj
    have e : s[j]'hl' = b := by rw [← hg]; simp; rfl
    rw [e] at this
    have n1 : b ≠ 34 := fun e => by rw [e] at this; exact absurd this (by decide)
    have n2 : b ≠ 44 := fun e => by rw [e] at this; exact absurd this (by decide)
    have n3 : b ≠ 10 := fun e => by rw [e] at this; exact absurd this (by decide)
    simp [n1, n2, n3]
set_option maxHeartbeats 8000000 in
theorem indexany_short (s : ByteArray) (w : World) (h8 : s.size ≤ 8) :
    Calls Tryd.prog 95 #[.string s, .string ⟨#[34, 44, 10]⟩] w fun e w' => e = .returned (.int .i64 (Lib.indexAny s.data.toList [34, 44, 10])) ∧ Below w.heap.size w w' := by
  have h8z : decide ((8 : Int) < (s.size : Int)) = false := decide_eq_false (by omega)
  have hA := fun W => Tryd.strings_shouldUseASCIISet (s.size : Int) W
  rw [h8z] at hA
  have HA := Lib.hid hA
  clear hA h8z
  go_enter Tryd.func95, Tryd.ntmps95
  go_wp2_with fail
  refine (HA.out _).mono ?_; rintro e w1 ⟨rfl, rfl⟩
  go_wp2_with fail
  go_loopg [9, 10] s.size (fun g _ _ wx => ∃ i : Nat, i + g = s.size ∧ ItAt w1 s i wx ∧ Hid (Lib.NoAny s.data.toList [34, 44, 10] i))
  case atStart => exact ⟨0, by omega, ⟨World.iter_heap _ _ _, below_iter _ _ _⟩, Lib.hid (Lib.NoAny.zero _ _)⟩
  case round =>
    obtain ⟨i, hig, hI, HN⟩ := hrel
    by_cases hi : i < s.size
    · by_cases hx128 : (s[i]'hi).toNat < 128
      · obtain ⟨x, hx⟩ : ∃ x : UInt8, s[i]'hi = x := ⟨_, rfl⟩
        have hxl : s.data.toList[i]? = some x := by rw [← hx]; exact Lib.data_getElem? s i hi
        have hnx := fun ty => next_rune (P := Tryd.prog) wr w1.heap.size s i x.toNat 1 ty hI.it hi (by rw [decode_ascii s i hi hx128, hx])
        have hI2 := hI.next (i + 1)
        rw [hx] at hx128
        have Hx := Lib.hid hxl
        clear hxl hx
        have hcon := Lib.contains_iff_indexByte [34, 44, 10] x
        have hback : ((x.toNat : Int)).toNat.toUInt8 = x := by simp
        have hr := fun W => Tryd.strings_IndexRune_ascii ⟨#[34, 44, 10]⟩ (x.toNat : Int) W (by omega) (by omega)
        rw [hback, show (⟨#[34, 44, 10]⟩ : ByteArray).data.toList = [34, 44, 10] from rfl] at hr
        have HR := Lib.hid hr
        clear hr hback
        cases hin : ([34, 44, 10] : List UInt8).contains x
        · rw [hin] at hcon
          have hlt : ¬ ((0 : Int) ≤ Lib.indexByte [34, 44, 10] x) := of_decide_eq_false hcon.symm
          clear hcon
          go_wp2_with fail
          refine (HR.out _).mono ?_; rintro e w2 ⟨rfl, rfl⟩
          go_wp2_with fail
          go_roundg (s.size - (i + 1))
          case measure => omega
          case rel => exact ⟨i + 1, by omega, hI2, Lib.hid (HN.out.succ Hx.out hin)⟩
        · rw [hin] at hcon
          have hge : (0 : Int) ≤ Lib.indexByte [34, 44, 10] x := of_decide_eq_true hcon.symm
          clear hcon
          go_wp2_with fail
          refine (HR.out _).mono ?_; rintro e w2 ⟨rfl, rfl⟩
          go_wp2_with fail
          go_ret
          exact ⟨by rw [Lib.indexAny_hit HN.out Hx.out hin]; rfl, hI2.bel⟩
      · obtain ⟨r, k, hr⟩ := decode_high s i hi hx128
        have hnx := fun ty => next_rune (P := Tryd.prog) wr w1.heap.size s i r k ty hI.it hi hr.dec
        have hI2 := hI.next (i + k)
        have HRn := Lib.hid hr
        have HR := Lib.hid (fun W => idxrune_high r W hr.low hr.ok)
        have hk := hr.one
        have hf := hr.fit
        clear hr
        go_wp2_with fail
        refine (HR.out _).mono ?_; rintro e w2 ⟨rfl, hb⟩
        have hI3 := hI2.call hb
        go_wp2_with fail
        go_roundg (s.size - (i + k))
        case measure => omega
        case rel => exact ⟨i + k, by omega, hI3, Lib.hid (noany_more HN.out HRn.out)⟩
    · obtain rfl : i = s.size := by omega
      have hnx := fun ty => next_end (P := Tryd.prog) wr w1.heap.size s s.size ty hI.it hi
      go_wp2_with fail
      go_ret
      exact ⟨by rw [Lib.indexAny_none (by rw [← Lib.size_eq]; exact HN.out)]; rfl, hI.bel⟩
theorem indexany_any (s : ByteArray) (w : World) (hs : s.size ≤ 1000000000) :
    Calls Tryd.prog 95 #[.string s, .string ⟨#[34, 44, 10]⟩] w fun e w' => e = .returned (.int .i64 (Lib.indexAny s.data.toList [34, 44, 10])) ∧ Below w.heap.size w w' := by
  by_cases h8 : s.size ≤ 8
  · exact indexany_short s w h8
  · refine (Tryd.strings_IndexAny_long (fun w => by kernel_rfl) s ⟨#[34, 44, 10]⟩ w (by decide) (by omega) (by omega) (by decide) (fun j b h => ?_)).mono ?_
    · have hb : ∀ b ∈ ([34, 44, 10] : List UInt8), b.toNat < 128 := by decide
      exact hb b (List.mem_of_getElem? h)
    · rintro e w' ⟨rfl, rfl⟩
      exact ⟨rfl, blw (blw (Below.refl _ _) _) _⟩
theorem tw_stop9 {P : UInt8 → Bool} {l : List UInt8} (h : (l.takeWhile P).length < l.length) : P (l[(l.takeWhile P).length]'h) = false := by
  induction l with
  | nil => cases h
  | cons a t ih =>
    cases ha : P a with
    | false => simp only [List.takeWhile_cons, ha]; simpa using ha
    | true =>
      have e : ((a :: t).takeWhile P).length = (t.takeWhile P).length + 1 := by rw [List.takeWhile_cons, ha, if_pos rfl]; rfl
      have h2 : (t.takeWhile P).length < t.length := by rw [e] at h; simpa using h
      have := ih h2
      simp only [e]
      simpa using this
theorem indexAny_bar (l : List UInt8) : Lib.indexAny l [34, 44, 10] = if barL l < l.length then (barL l : Int) else -1 := by
  have hno : Lib.NoAny l [34, 44, 10] (barL l) := fun j b hj hb => by
    have hp : (l.takeWhile fun c => !stopF c) <+: l := List.takeWhile_prefix _
    have hj' : j < (l.takeWhile fun c => !stopF c).length := hj
    have e : (l.takeWhile fun c => !stopF c)[j]? = some b := by
      obtain ⟨t, ht⟩ := hp
      rw [← ht, List.getElem?_append_left hj'] at hb; exact hb
    have hm := List.mem_of_getElem? e
    have hs := List.all_eq_true.1 (List.all_takeWhile (l := l) (p := fun c => !stopF c)) b hm
    unfold stopF at hs
    simp only [Bool.not_eq_true', Bool.or_eq_false_iff, beq_eq_false_iff_ne] at hs
    simp [hs.1.1, hs.1.2, hs.2]
  split
  · rename_i h
    have hd : l[barL l]? = some (l[barL l]'h) := List.getElem?_eq_getElem h
    refine Lib.indexAny_hit hno hd ?_
    have := tw_stop9 (P := fun c => !stopF c) h
    unfold stopF at this
    simp only [Bool.not_eq_false', Bool.or_eq_true, beq_iff_eq] at this
    rcases this with (h | h) | h <;> (simp only [List.contains_cons, List.contains_nil, Bool.or_false]; simp [barL, stopF] at h ⊢; simp [h])
  · rename_i h
    have e : barL l = l.length := by
      have := (List.takeWhile_prefix (p := fun c => !stopF c) (l := l)).length_le
      unfold barL at h ⊢; omega
    rw [e] at hno
    exact Lib.indexAny_none hno
end Go.Proofs.YteaciofacmbllaaDoor
namespace Go.Proofs.YteaciofacmbllaaDoor
open Go.ChangeShapes Go.WideShapes Go.ChangeAt Go.RowKit
set_option linter.unusedVariables false
set_option linter.unusedSimpArgs false
set_option maxRecDepth 100000

theorem cloQ_nil : cloQ [] = none := by unfold cloQ; rfl
theorem cloQ_here (r : List UInt8) (h : r.head? ≠ some 34) : cloQ (34 :: r) = some 0 := by
  cases r with
  | nil => rw [cloQ_one, if_pos rfl]
  | cons d t => exact cloQ_end d t (fun e => h (by rw [e]; rfl))
/-- What closingQuote answers. -/
def cqR (o : Option Nat) : Nat × Bool := match o with | none => (0, false) | some n => (n, true)
theorem cq_map (o : Option Nat) (k j : Nat) : (o.map (· + j)).map (· + k) = o.map (· + (k + j)) := by
  cases o with
  | none => rfl
  | some n => show some (n + j + k) = some (n + (k + j)); congr 1; omega
set_option maxHeartbeats 1600000 in
theorem closing_any (s : ByteArray) (w : World) (hs : s.size ≤ 1000000000000) :
    Calls Tryd.prog 60 #[.string s] w fun e w' => e = .returned (.tuple #[.int .i64 (cqR (cloQ s.data.toList)).1, .bool (cqR (cloQ s.data.toList)).2]) ∧ w = w' := by
  obtain ⟨C, hC⟩ : ∃ C, cloQ s.data.toList = C := ⟨_, rfl⟩
  have hC0 : Hid (C = (cloQ (s.data.toList.drop 0)).map (· + 0)) := Lib.hid (by rw [List.drop_zero, hC]; cases C <;> rfl)
  rw [hC]
  have hP := fun k W => prefix2_any (s.extract k s.size) 34 34 W
  simp only [ext_dropL] at hP
  have HP := Lib.hid hP
  clear hP hC
  go_enter Tryd.func60, Tryd.ntmps60
  go_wp2_with fail
  go_loopw [2] (fun i wr => ∃ k : Nat, k ≤ s.size ∧ i = .int .i64 k ∧ Hid (C = (cloQ (s.data.toList.drop k)).map (· + k)) ∧ wr = w) (fun i _ => s.size - (intOf i).toNat)
  case atStart => exact ⟨0, Nat.zero_le _, rfl, hC0, rfl⟩
  case round =>
    obtain ⟨k, hk, rfl, HC, rfl⟩ := hrel
    by_cases hlt : k < s.size
    · have hd := drop_get s k hlt
      have i0 : (0 : Int) ≤ (k : Int) := by omega
      have i1 : (k : Int) ≤ (s.size : Int) := by omega
      by_cases hc : s[k] = 34
      · have q : ((s[k].toNat : Int) == 34) = true := by rw [hc]; rfl
        have hp := fun W => HP.out k W
        rw [hd, hc] at hp
        by_cases hn : (s.data.toList.drop (k + 1)).head? = some 34
        · rw [twoB_yes 34 34 _ hn] at hp
          have hk2 : k + 2 ≤ s.size := by
            rcases Nat.lt_or_ge (k + 1) s.size with h | h
            · omega
            · rw [List.drop_of_length_le (by simp; omega)] at hn; cases hn
          have hst : Hid (C = (cloQ (s.data.toList.drop (k + 2))).map (· + (k + 2))) := Lib.hid (by
            rw [HC.out, hd, hc]
            have hd2 := drop_get s (k + 1) (by omega)
            rw [hd2] at hn ⊢
            injection hn with hn
            rw [hn, cloQ_two, cq_map])
          have HX := Lib.hid hp
          clear hp hd hn hc HC
          go_wp2_with fail
          refine (HX.out _).mono ?_; rintro e w2 ⟨rfl, rfl⟩
          go_wp2_with fail
          go_roundw
          case rel => exact ⟨k + 2, hk2, by go_num, hst, by trivial⟩
          case measure => simp [intOf]; omega
        · rw [twoB_no2 34 34 34 _ hn] at hp
          have hst : Hid (C = some k) := Lib.hid (by rw [HC.out, hd, hc, cloQ_here _ hn]; simp)
          have HX := Lib.hid hp
          clear hp hd hn hc HC
          go_wp2_with fail
          refine (HX.out _).mono ?_; rintro e w2 ⟨rfl, rfl⟩
          go_wp2_with fail
          go_ret2
          exact ⟨by rw [hst.out]; rfl, rfl⟩
      · have q : ((s[k].toNat : Int) == 34) = false := u8_int_ne (b := 34) hc
        have q2 : ((s[k].toNat : Int) != 34) = true := by unfold bne; rw [q]; rfl
        have hst : Hid (C = (cloQ (s.data.toList.drop (k + 1))).map (· + (k + 1))) := Lib.hid (by
          rw [HC.out, hd, cloQ_on _ _ hc, cq_map])
        clear hd hc HC
        go_wp2_with fail
        go_roundw
        case rel => exact ⟨k + 1, hlt, by go_num, hst, by trivial⟩
        case measure => simp [intOf]; omega
    · have hst : Hid (C = none) := Lib.hid (by rw [HC.out, List.drop_of_length_le (by simp; omega), cloQ_nil]; rfl)
      clear HC
      go_wp2_with fail
      go_ret2
      exact ⟨by rw [hst.out]; rfl, rfl⟩
theorem barL_le (l : List UInt8) : barL l ≤ l.length := (List.takeWhile_prefix _).length_le
set_option maxHeartbeats 1600000 in
theorem bare_any (s : ByteArray) (w : World) (hs : s.size ≤ 1000000000) :
    Calls Tryd.prog 61 #[.string s] w fun e w' => e = .returned (.int .i64 (barL s.data.toList)) ∧ Below w.heap.size w w' := by
  have hI := fun W => indexany_any s W hs
  have hl : s.data.toList.length = s.size := by simp
  have hle := barL_le s.data.toList
  rw [indexAny_bar, hl] at hI
  rw [hl] at hle
  generalize barL s.data.toList = n at *
  by_cases hn : n < s.size
  · rw [if_pos hn] at hI
    have HI := Lib.hid hI
    clear hI
    go_enter Tryd.func61, Tryd.ntmps61
    go_wp2_with fail
    refine (HI.out _).mono ?_; rintro e w2 ⟨rfl, hb⟩
    go_wp2_with fail
    go_ret
    exact ⟨rfl, hb⟩
  · rw [if_neg hn] at hI
    have HI := Lib.hid hI
    have he : Hid ((s.size : Int) = (n : Int)) := Lib.hid (by omega)
    clear hI
    go_enter Tryd.func61, Tryd.ntmps61
    go_wp2_with fail
    refine (HI.out _).mono ?_; rintro e w2 ⟨rfl, hb⟩
    go_wp2_with fail
    go_ret
    exact ⟨by rw [he.out]; rfl, hb⟩
/-- A field's variable. -/
def fV (W : World) (B : Nat) (q : Bool) (a : Int) (r : ByteArray) : Prop := W.heap[B]? = some (.cells #[.bool q, .int .i64 a, .string r] 76 (0, 0))
section
variable {W W' : World} {B : Nat} {q : Bool} {a : Int} {r : ByteArray}
theorem fV.new (W : World) (q : Bool) (a : Int) (r : ByteArray) : fV (W.alloc (.cells #[.bool q, .int .i64 a, .string r] 76)) W.heap.size q a r := heap_alloc_new W _
theorem fV.lt (h : fV W B q a r) : B < W.heap.size := (Array.getElem?_eq_some_iff.1 h).1
theorem fV.call (h : fV W B q a r) (hb : Below W.heap.size W W') : fV W' B q a r := (hb.block B h.lt).trans h
theorem fV.only {S : Nat → Prop} (h : fV W B q a r) (hb : Only S W W') (hn : ¬ S B) : fV W' B q a r := (hb.block B h.lt hn).trans h
theorem fV.cells (h : fV W B q a r) : W.cell? ⟨B, 0, none⟩ = some (.bool q) ∧ W.cell? ⟨B, 1, none⟩ = some (.int .i64 a) ∧ W.cell? ⟨B, 2, none⟩ = some (.string r) ∧ W.frozen? ⟨B, 0, none⟩ = false ∧ W.frozen? ⟨B, 1, none⟩ = false ∧ W.frozen? ⟨B, 2, none⟩ = false :=
  ⟨by rw [Lib.cell_of_heap h]; rfl, by rw [Lib.cell_of_heap h]; rfl, by rw [Lib.cell_of_heap h]; rfl, Lib.frozen_of_heap h 0, Lib.frozen_of_heap h 1, Lib.frozen_of_heap h 2⟩
theorem fV.set3 (h : fV W B q a r) (q' : Bool) (a' : Int) (r' : ByteArray) : fV (((W.setCell ⟨B, 0, none⟩ (.bool q')).setCell ⟨B, 1, none⟩ (.int .i64 a')).setCell ⟨B, 2, none⟩ (.string r')) B q' a' r' := by
  have h1 := setCell_heap W B 0 _ 76 (.bool q') h
  have h2 := setCell_heap _ B 1 _ 76 (.int .i64 a') h1
  have h3 := setCell_heap _ B 2 _ 76 (.string r') h2
  exact h3
end
/-- What readField answers. -/
def EndFd (b p : Nat) (s : ByteArray) (w : World) (e : Ending) (w' : World) : Prop := match fldS (restD s p) with
  | none => e = .returned (.tuple #[.agg #[.bool false, .int .i64 0, .string .empty], .bool false]) ∧ Scn w' b s p ∧ Only (fun i => i = b) w w'
  | some x => e = .returned (.tuple #[.agg #[.bool x.quoted, .int .i64 ((p + (if x.quoted = true then 1 else 0) : Nat) : Int), .string (bsL (rawF s p x))], .bool true]) ∧ Scn w' b s (p + x.size) ∧ Only (fun i => i = b) w w'
theorem EndFd.no {b p : Nat} {s : ByteArray} {w w' : World} (h : fldS (restD s p) = none) (hs : Scn w' b s p) (ho : Only (fun i => i = b) w w') : EndFd b p s w (.returned (.tuple #[.agg #[.bool false, .int .i64 0, .string .empty], .bool false])) w' := by
  unfold EndFd; rw [h]; exact ⟨rfl, hs, ho⟩
theorem EndFd.yes {b p : Nat} {s : ByteArray} {w w' : World} {x : Fld} {a : Int} {r : ByteArray} {q : Bool} (h : fldS (restD s p) = some x) (hq : q = x.quoted) (ha : a = ((p + (if x.quoted = true then 1 else 0) : Nat) : Int)) (hr : r = bsL (rawF s p x)) (hs : Scn w' b s (p + x.size)) (ho : Only (fun i => i = b) w w') : EndFd b p s w (.returned (.tuple #[.agg #[.bool q, .int .i64 a, .string r], .bool true])) w' := by
  unfold EndFd; rw [h]; subst hq; subst ha; subst hr; exact ⟨rfl, hs, ho⟩
/-- What stands behind a field of some size. -/
theorem endF_cases (T : List UInt8) (x : Fld) : (T.length ≤ x.size ∧ endF T x = some x) ∨ (∃ h : x.size < T.length, (T[x.size]'h = 44 ∨ T[x.size]'h = 10) ∧ endF T x = some x) ∨ (∃ h : x.size < T.length, T[x.size]'h ≠ 44 ∧ T[x.size]'h ≠ 10 ∧ endF T x = none) := by
  unfold endF
  rcases Nat.lt_or_ge x.size T.length with h | h
  · rw [List.drop_eq_getElem_cons h]
    dsimp only [List.head?_cons]
    by_cases hc : T[x.size] = 44 ∨ T[x.size] = 10
    · exact .inr (.inl ⟨h, hc, if_pos hc⟩)
    · exact .inr (.inr ⟨h, fun e => hc (.inl e), fun e => hc (.inr e), if_neg hc⟩)
  · rw [List.drop_of_length_le h]; exact .inl ⟨h, rfl⟩
theorem ext_get {s R : ByteArray} {p : Nat} (e : R = s.extract p s.size) (k : Nat) (h : k < R.size) : ∃ h' : k < (restD s p).length, (restD s p)[k]'h' = R[k]'h := by
  have hl : R.data.toList = restD s p := by rw [e, ext_dropL]; rfl
  have hz : (restD s p).length = R.size := by rw [← hl]; simp
  refine ⟨by omega, ?_⟩
  have : (restD s p)[k]'(by omega) = R.data.toList[k]'(by simpa using h) := by congr 1; exact hl.symm
  rw [this]; simp; rfl
set_option maxHeartbeats 6400000 in
theorem readfield_any (b p : Nat) (s : ByteArray) (w : World) (h : Scn w b s p) (hs : s.size ≤ 1000000000) (hp : p ≤ s.size) :
    Calls Tryd.prog 33 #[.pointer (some ⟨b, 0, none⟩)] w (EndFd b p s w) := by
  have hbs := h.lt
  have hBn : b ≠ w.heap.size := by omega
  have hR := fun W (hS : Scn W b s p) => rest_any b p s W hS (by omega) hp
  have hZ := fV.new w false 0 ByteArray.empty
  have hS := h.call (blw (Below.refl _ _) (.cells #[.bool false, .int .i64 0, .string ByteArray.empty] 76))
  have hBa := blw (Below.refl w.heap.size w) (.cells #[.bool false, .int .i64 0, .string ByteArray.empty] 76)
  have c1 : (p : Int) ≤ 1000000000 := by omega
  have hrs : (s.extract p s.size).size = s.size - p := by simp
  have hC := fun W => cutprefix_any (s.extract p s.size) 34 W
  have hB := fun W => bare_any (s.extract p s.size) W (by omega)
  rw [ext_dropL] at hC hB
  have hfl : fldS (restD s p) = fldS (restD s p) := rfl
  conv at hfl => rhs; unfold fldS
  have hT : s.data.toList.drop p = restD s p := rfl
  have hT1 : restD s (p + 1) = (restD s p).drop 1 := by unfold restD; rw [List.drop_drop]
  have hTl := restD_len s p
  rw [hT] at hC hB
  obtain ⟨R, hRR⟩ : ∃ R, R = s.extract p s.size := ⟨_, rfl⟩
  have hRl : R.data.toList = restD s p := by rw [hRR, ext_dropL]; rfl
  rw [← hRR] at hR hC hB hrs
  have HR := Lib.hid hR
  have hrz : (R.size : Int) ≤ 1000000000 := by omega
  have HRR := Lib.hid hRR
  clear hR hT hRR hRl
  by_cases hq : (restD s p).head? = some 34
  · rw [if_pos hq] at hfl
    rw [show hdB 34 (restD s p) = true from decide_eq_true hq, show tlB 34 (restD s p) = (restD s p).drop 1 from if_pos hq] at hC
    have hQ := fun W => closing_any (bsL ((restD s p).drop 1)) W (by rw [bsL_size, List.length_drop]; omega)
    rw [bsL_list] at hQ
    have HC := Lib.hid hC
    cases hc : cloQ ((restD s p).drop 1) with
    | none =>
      rw [hc] at hfl hQ
      rw [show cqR none = (0, false) from rfl] at hQ
      have HF := Lib.hid hfl; have HQ := Lib.hid hQ
      clear hfl hQ hB hC hc hq
      generalize bsL ((restD s p).drop 1) = I at *
      go_enter Tryd.func33, Tryd.ntmps33
      go_wp2_with fail
      refine (HR.out _ hS).mono ?_; rintro e w1 ⟨rfl, hb⟩
      go_wp2_with fail
      refine (HC.out _).mono ?_; rintro e w2 ⟨rfl, rfl⟩
      go_wp2_with fail
      refine (HQ.out _).mono ?_; rintro e w2 ⟨rfl, rfl⟩
      have hV1 := hZ.call hb
      have hS1 := hS.call hb
      have hO1 : Only (fun i => i = b) w w1 := Only.of_below (BelowOn hBa hb)
      obtain ⟨v0, v1, v2, v3, v4, v5⟩ := hV1.cells
      go_wp2_with fail
      have hWz := hV1.set3 false 0 ⟨#[]⟩
      have hBz := ((hO1.setNew (p := ⟨w.heap.size, 0, none⟩) (Nat.le_refl _) (.bool false)).setNew (p := ⟨w.heap.size, 1, none⟩) (Nat.le_refl _) (.int .i64 0)).setNew (p := ⟨w.heap.size, 2, none⟩) (Nat.le_refl _) (.string ⟨#[]⟩)
      have hSz := hS1.only3 hBn (.bool false) (.int .i64 0) (.string ⟨#[]⟩)
      generalize (((w1.setCell ⟨w.heap.size, 0, none⟩ (.bool false)).setCell ⟨w.heap.size, 1, none⟩ (.int .i64 0)).setCell ⟨w.heap.size, 2, none⟩ (.string ⟨#[]⟩)) = wz at *
      obtain ⟨z0, z1, z2, _⟩ := hWz.cells
      (try simp only [Exit.inBlock, Exit.then])
      refine bodyPost_ret (v := .tuple #[.agg #[.bool false, .int .i64 0, .string ⟨#[]⟩], .bool false]) (by simp [results, Tryd.results33, go_sem, z0, z1, z2]; try rfl) rfl (EndFd.no HF.out hSz hBz)
    | some n =>
      rw [hc] at hfl hQ
      rw [show cqR (some n) = (n, true) from rfl] at hQ
      have hn := cloQ_lt _ _ _ (Nat.le_refl _) hc
      rw [List.length_drop] at hn
      have hE := endF_cases (restD s p) ⟨true, n, n + 2⟩
      dsimp only at hfl hE
      rw [← hfl] at hE
      have hraw : (bsL ((restD s p).drop 1)).extract 0 n = bsL (rawF s p ⟨true, n, n + 2⟩) := by
        rw [extract_take, bsL_list]; unfold rawF; rw [if_pos rfl, hT1]
      have hil : (n : Int) ≤ ((bsL ((restD s p).drop 1)).size : Int) := by rw [bsL_size, List.length_drop]; omega
      have hn2 : n + 2 ≤ R.size := by omega
      have hsq : (1 : Int) + (n : Int) + 1 = ((n + 2 : Nat) : Int) := by omega
      have hpq : p + (n + 2) ≤ 1000000000 := by omega
      generalize n + 2 = sz at *
      have HE := Lib.hid hE
      have HQ := Lib.hid hQ
      have HSQ := Lib.hid hsq
      clear hfl hQ hB hC hc hq hE hsq
      generalize bsL ((restD s p).drop 1) = I at *
      obtain ⟨V, hV⟩ : ∃ V, I.extract 0 n = V := ⟨_, rfl⟩
      rw [hV] at hraw
      have HRAW := Lib.hid hraw
      have HVV := Lib.hid hV
      clear hraw hV
      go_enter Tryd.func33, Tryd.ntmps33
      go_wp2_with fail
      refine (HR.out _ hS).mono ?_; rintro e w1 ⟨rfl, hb⟩
      go_wp2_with fail
      refine (HC.out _).mono ?_; rintro e w2 ⟨rfl, rfl⟩
      go_wp2_with fail
      refine (HQ.out _).mono ?_; rintro e w2 ⟨rfl, rfl⟩
      have hV1 := hZ.call hb
      have hS1 := hS.call hb
      have hO1 : Only (fun i => i = b) w w1 := Only.of_below (BelowOn hBa hb)
      obtain ⟨v0, v1, v2, v3, v4, v5⟩ := hV1.cells
      obtain ⟨x0, x1, x2⟩ := hS1.cells
      have i0 : (0 : Int) ≤ (n : Int) := by omega
      have mixed : Tryd.prog.follows .mixedOrders = true := by kernel_rfl
      go_upto_region 8 with fail
      go_region_o
      rw [HVV.out]
      have hV8 : fV (((w1.setCell ⟨w.heap.size, 0, none⟩ (.bool true)).setCell ⟨w.heap.size, 1, none⟩ (.int .i64 ((p : Int) + 1))).setCell ⟨w.heap.size, 2, none⟩ (.string V)).drew w.heap.size true ((p : Int) + 1) V := hV1.set3 true ((p : Int) + 1) V
      have hO8 := (((hO1.setNew (p := ⟨w.heap.size, 0, none⟩) (Nat.le_refl _) (.bool true)).setNew (p := ⟨w.heap.size, 1, none⟩) (Nat.le_refl _) (.int .i64 ((p : Int) + 1))).setNew (p := ⟨w.heap.size, 2, none⟩) (Nat.le_refl _) (.string V)).drew
      have hS8 := (hS1.only3 hBn (.bool true) (.int .i64 ((p : Int) + 1)) (.string V)).drew
      change Exit.then _ _ _ _ ((((w1.setCell ⟨w.heap.size, 0, none⟩ (.bool true)).setCell ⟨w.heap.size, 1, none⟩ (.int .i64 ((p : Int) + 1))).setCell ⟨w.heap.size, 2, none⟩ (.string V)).drew)
      generalize (((w1.setCell ⟨w.heap.size, 0, none⟩ (.bool true)).setCell ⟨w.heap.size, 1, none⟩ (.int .i64 ((p : Int) + 1))).setCell ⟨w.heap.size, 2, none⟩ (.string V)).drew = W8 at *
      clear v0 v1 v2 v3 v4 v5 x0 x1 x2 hV1 hS1 hO1 hb
      go_upto_region 12 with fail
      rw [HSQ.out]
      rcases HE.out with ⟨h1, h2⟩ | ⟨h1, h3, h2⟩ | ⟨h1, h3, h4, h2⟩
      · have HF := Lib.hid h2
        have n1 : ¬ (sz : Int) < (R.size : Int) := by omega
        clear h1 h2 HE
        obtain ⟨v0, v1, v2, v3, v4, v5⟩ := hV8.cells
        obtain ⟨x0, x1, x2⟩ := hS8.cells
        go_upto_region 15 with fail
        have hO4 := hO8.setCell ⟨b, 1, none⟩ (.int .i64 ((p + sz : Nat) : Int)) rfl
        have hS4 := hS8.set (p + sz)
        have hV4 : fV (W8.setCell ⟨b, 1, none⟩ (.int .i64 ((p + sz : Nat) : Int))) w.heap.size true ((p : Int) + 1) V := hV8.only ((Only.refl (fun i => i = b) W8).setCell _ _ rfl) (fun e => hBn e.symm)
        change Code.wp _ _ _ _ (W8.setCell ⟨b, 1, none⟩ (.int .i64 ((p + sz : Nat) : Int)))
        generalize W8.setCell ⟨b, 1, none⟩ (.int .i64 ((p + sz : Nat) : Int)) = w4 at *
        clear v0 v1 v2 v3 v4 v5 x0 x1 x2
        obtain ⟨v0, v1, v2, v3, v4, v5⟩ := hV4.cells
        go_wp2_with fail
        have hWz := hV4.set3 true ((p : Int) + 1) V
        have hBz := ((hO4.setNew (p := ⟨w.heap.size, 0, none⟩) (Nat.le_refl _) (.bool true)).setNew (p := ⟨w.heap.size, 1, none⟩) (Nat.le_refl _) (.int .i64 ((p : Int) + 1))).setNew (p := ⟨w.heap.size, 2, none⟩) (Nat.le_refl _) (.string V)
        have hSz := hS4.only3 hBn (.bool true) (.int .i64 ((p : Int) + 1)) (.string V)
        generalize (((w4.setCell ⟨w.heap.size, 0, none⟩ (.bool true)).setCell ⟨w.heap.size, 1, none⟩ (.int .i64 ((p : Int) + 1))).setCell ⟨w.heap.size, 2, none⟩ (.string V)) = wz at *
        obtain ⟨z0, z1, z2, _⟩ := hWz.cells
        (try simp only [Exit.inBlock, Exit.then])
        refine bodyPost_ret (v := .tuple #[.agg #[.bool true, .int .i64 ((p : Int) + 1), .string V], .bool true]) (by simp [results, Tryd.results33, go_sem, z0, z1, z2]; try rfl) rfl (EndFd.yes HF.out rfl (by rw [if_pos rfl]; rfl) HRAW.out hSz hBz)
      · have HF := Lib.hid h2
        have h1r : sz < R.size := by omega
        obtain ⟨_, hg⟩ := ext_get HRR.out sz h1r
        rw [hg] at h3
        have n1 : (sz : Int) < (R.size : Int) := by omega
        have n0 : (0 : Int) ≤ (sz : Int) := by omega
        rcases h3 with h3 | h3
        · have q44 : ((R[sz].toNat : Int) != 44) = false := by rw [h3]; rfl
          clear h1 h2 HE hg h3
          obtain ⟨v0, v1, v2, v3, v4, v5⟩ := hV8.cells
          obtain ⟨x0, x1, x2⟩ := hS8.cells
          go_upto_region 15 with fail
          have hO4 := hO8.setCell ⟨b, 1, none⟩ (.int .i64 ((p + sz : Nat) : Int)) rfl
          have hS4 := hS8.set (p + sz)
          have hV4 : fV (W8.setCell ⟨b, 1, none⟩ (.int .i64 ((p + sz : Nat) : Int))) w.heap.size true ((p : Int) + 1) V := hV8.only ((Only.refl (fun i => i = b) W8).setCell _ _ rfl) (fun e => hBn e.symm)
          change Code.wp _ _ _ _ (W8.setCell ⟨b, 1, none⟩ (.int .i64 ((p + sz : Nat) : Int)))
          generalize W8.setCell ⟨b, 1, none⟩ (.int .i64 ((p + sz : Nat) : Int)) = w4 at *
          clear v0 v1 v2 v3 v4 v5 x0 x1 x2
          obtain ⟨v0, v1, v2, v3, v4, v5⟩ := hV4.cells
          go_wp2_with fail
          have hWz := hV4.set3 true ((p : Int) + 1) V
          have hBz := ((hO4.setNew (p := ⟨w.heap.size, 0, none⟩) (Nat.le_refl _) (.bool true)).setNew (p := ⟨w.heap.size, 1, none⟩) (Nat.le_refl _) (.int .i64 ((p : Int) + 1))).setNew (p := ⟨w.heap.size, 2, none⟩) (Nat.le_refl _) (.string V)
          have hSz := hS4.only3 hBn (.bool true) (.int .i64 ((p : Int) + 1)) (.string V)
          generalize (((w4.setCell ⟨w.heap.size, 0, none⟩ (.bool true)).setCell ⟨w.heap.size, 1, none⟩ (.int .i64 ((p : Int) + 1))).setCell ⟨w.heap.size, 2, none⟩ (.string V)) = wz at *
          obtain ⟨z0, z1, z2, _⟩ := hWz.cells
          (try simp only [Exit.inBlock, Exit.then])
          refine bodyPost_ret (v := .tuple #[.agg #[.bool true, .int .i64 ((p : Int) + 1), .string V], .bool true]) (by simp [results, Tryd.results33, go_sem, z0, z1, z2]; try rfl) rfl (EndFd.yes HF.out rfl (by rw [if_pos rfl]; rfl) HRAW.out hSz hBz)
        · have q44 : ((R[sz].toNat : Int) != 44) = true := by rw [h3]; rfl
          have q10 : ((R[sz].toNat : Int) != 10) = false := by rw [h3]; rfl
          clear h1 h2 HE hg h3
          obtain ⟨v0, v1, v2, v3, v4, v5⟩ := hV8.cells
          obtain ⟨x0, x1, x2⟩ := hS8.cells
          go_upto_region 15 with fail
          have hO4 := hO8.setCell ⟨b, 1, none⟩ (.int .i64 ((p + sz : Nat) : Int)) rfl
          have hS4 := hS8.set (p + sz)
          have hV4 : fV (W8.setCell ⟨b, 1, none⟩ (.int .i64 ((p + sz : Nat) : Int))) w.heap.size true ((p : Int) + 1) V := hV8.only ((Only.refl (fun i => i = b) W8).setCell _ _ rfl) (fun e => hBn e.symm)
          change Code.wp _ _ _ _ (W8.setCell ⟨b, 1, none⟩ (.int .i64 ((p + sz : Nat) : Int)))
          generalize W8.setCell ⟨b, 1, none⟩ (.int .i64 ((p + sz : Nat) : Int)) = w4 at *
          clear v0 v1 v2 v3 v4 v5 x0 x1 x2
          obtain ⟨v0, v1, v2, v3, v4, v5⟩ := hV4.cells
          go_wp2_with fail
          have hWz := hV4.set3 true ((p : Int) + 1) V
          have hBz := ((hO4.setNew (p := ⟨w.heap.size, 0, none⟩) (Nat.le_refl _) (.bool true)).setNew (p := ⟨w.heap.size, 1, none⟩) (Nat.le_refl _) (.int .i64 ((p : Int) + 1))).setNew (p := ⟨w.heap.size, 2, none⟩) (Nat.le_refl _) (.string V)
          have hSz := hS4.only3 hBn (.bool true) (.int .i64 ((p : Int) + 1)) (.string V)
          generalize (((w4.setCell ⟨w.heap.size, 0, none⟩ (.bool true)).setCell ⟨w.heap.size, 1, none⟩ (.int .i64 ((p : Int) + 1))).setCell ⟨w.heap.size, 2, none⟩ (.string V)) = wz at *
          obtain ⟨z0, z1, z2, _⟩ := hWz.cells
          (try simp only [Exit.inBlock, Exit.then])
          refine bodyPost_ret (v := .tuple #[.agg #[.bool true, .int .i64 ((p : Int) + 1), .string V], .bool true]) (by simp [results, Tryd.results33, go_sem, z0, z1, z2]; try rfl) rfl (EndFd.yes HF.out rfl (by rw [if_pos rfl]; rfl) HRAW.out hSz hBz)
      · have HF := Lib.hid h2
        have h1r : sz < R.size := by omega
        obtain ⟨_, hg⟩ := ext_get HRR.out sz h1r
        rw [hg] at h3 h4
        have n1 : (sz : Int) < (R.size : Int) := by omega
        have n0 : (0 : Int) ≤ (sz : Int) := by omega
        have q44 : ((R[sz].toNat : Int) != 44) = true := by have := u8_int_ne (b := 44) h3; unfold bne; rw [show ((R[sz].toNat : Int) == 44) = false from this]; rfl
        have q10 : ((R[sz].toNat : Int) != 10) = true := by have := u8_int_ne (b := 10) h4; unfold bne; rw [show ((R[sz].toNat : Int) == 10) = false from this]; rfl
        clear h1 h2 HE hg h3 h4
        obtain ⟨v0, v1, v2, v3, v4, v5⟩ := hV8.cells
        go_wp2_with fail
        have hWz := hV8.set3 false 0 ⟨#[]⟩
        have hBz := ((hO8.setNew (p := ⟨w.heap.size, 0, none⟩) (Nat.le_refl _) (.bool false)).setNew (p := ⟨w.heap.size, 1, none⟩) (Nat.le_refl _) (.int .i64 0)).setNew (p := ⟨w.heap.size, 2, none⟩) (Nat.le_refl _) (.string ⟨#[]⟩)
        have hSz := hS8.only3 hBn (.bool false) (.int .i64 0) (.string ⟨#[]⟩)
        generalize (((W8.setCell ⟨w.heap.size, 0, none⟩ (.bool false)).setCell ⟨w.heap.size, 1, none⟩ (.int .i64 0)).setCell ⟨w.heap.size, 2, none⟩ (.string ⟨#[]⟩)) = wz at *
        obtain ⟨z0, z1, z2, _⟩ := hWz.cells
        (try simp only [Exit.inBlock, Exit.then])
        refine bodyPost_ret (v := .tuple #[.agg #[.bool false, .int .i64 0, .string ⟨#[]⟩], .bool false]) (by simp [results, Tryd.results33, go_sem, z0, z1, z2]; try rfl) rfl (EndFd.no HF.out hSz hBz)
  · rw [if_neg hq] at hfl
    rw [show hdB 34 (restD s p) = false from decide_eq_false hq, show tlB 34 (restD s p) = restD s p from if_neg hq] at hC
    have hle := barL_le (restD s p)
    have hE := endF_cases (restD s p) ⟨false, barL (restD s p), barL (restD s p)⟩
    dsimp only at hE
    rw [← hfl] at hE
    have hraw : R.extract 0 (barL (restD s p)) = bsL (rawF s p ⟨false, barL (restD s p), barL (restD s p)⟩) := by
      rw [HRR.out, extract_take, ext_dropL]; rfl
    generalize barL (restD s p) = sz at *
    have hil : (sz : Int) ≤ (R.size : Int) := by omega
    have i0 : (0 : Int) ≤ (sz : Int) := by omega
    have hpq : p + sz ≤ 1000000000 := by omega
    have HE := Lib.hid hE
    have HC := Lib.hid hC
    have HB := Lib.hid hB
    clear hfl hB hC hq hE
    generalize bsL (restD s p) = I at *
    obtain ⟨V, hV⟩ : ∃ V, R.extract 0 sz = V := ⟨_, rfl⟩
    rw [hV] at hraw
    have HRAW := Lib.hid hraw
    have HVV := Lib.hid hV
    clear hraw hV
    go_enter Tryd.func33, Tryd.ntmps33
    go_wp2_with fail
    refine (HR.out _ hS).mono ?_; rintro e w1 ⟨rfl, hb⟩
    go_wp2_with fail
    refine (HC.out _).mono ?_; rintro e w2 ⟨rfl, rfl⟩
    go_wp2_with fail
    refine (HB.out _).mono ?_; rintro e w2 ⟨rfl, hb2⟩
    have hV1 := (hZ.call hb).call hb2
    have hS1 := (hS.call hb).call hb2
    have hO1 : Only (fun i => i = b) w w2 := Only.of_below (BelowOn (BelowOn hBa hb) hb2)
    obtain ⟨v0, v1, v2, v3, v4, v5⟩ := hV1.cells
    obtain ⟨x0, x1, x2⟩ := hS1.cells
    have mixed : Tryd.prog.follows .mixedOrders = true := by kernel_rfl
    go_upto_region 11 with fail
    go_region_o
    rw [HVV.out]
    have hV8 : fV (((w2.setCell ⟨w.heap.size, 0, none⟩ (.bool false)).setCell ⟨w.heap.size, 1, none⟩ (.int .i64 (p : Int))).setCell ⟨w.heap.size, 2, none⟩ (.string V)).drew w.heap.size false (p : Int) V := hV1.set3 false (p : Int) V
    have hO8 := (((hO1.setNew (p := ⟨w.heap.size, 0, none⟩) (Nat.le_refl _) (.bool false)).setNew (p := ⟨w.heap.size, 1, none⟩) (Nat.le_refl _) (.int .i64 (p : Int))).setNew (p := ⟨w.heap.size, 2, none⟩) (Nat.le_refl _) (.string V)).drew
    have hS8 := (hS1.only3 hBn (.bool false) (.int .i64 (p : Int)) (.string V)).drew
    change Exit.then _ _ _ _ ((((w2.setCell ⟨w.heap.size, 0, none⟩ (.bool false)).setCell ⟨w.heap.size, 1, none⟩ (.int .i64 (p : Int))).setCell ⟨w.heap.size, 2, none⟩ (.string V)).drew)
    generalize (((w2.setCell ⟨w.heap.size, 0, none⟩ (.bool false)).setCell ⟨w.heap.size, 1, none⟩ (.int .i64 (p : Int))).setCell ⟨w.heap.size, 2, none⟩ (.string V)).drew = W8 at *
    clear v0 v1 v2 v3 v4 v5 x0 x1 x2 hV1 hS1 hO1 hb hb2
    go_upto_region 12 with fail
    rcases HE.out with ⟨h1, h2⟩ | ⟨h1, h3, h2⟩ | ⟨h1, h3, h4, h2⟩
    · have HF := Lib.hid h2
      have n1 : ¬ (sz : Int) < (R.size : Int) := by omega
      clear h1 h2 HE
      obtain ⟨v0, v1, v2, v3, v4, v5⟩ := hV8.cells
      obtain ⟨x0, x1, x2⟩ := hS8.cells
      go_upto_region 15 with fail
      have hO4 := hO8.setCell ⟨b, 1, none⟩ (.int .i64 ((p + sz : Nat) : Int)) rfl
      have hS4 := hS8.set (p + sz)
      have hV4 : fV (W8.setCell ⟨b, 1, none⟩ (.int .i64 ((p + sz : Nat) : Int))) w.heap.size false (p : Int) V := hV8.only ((Only.refl (fun i => i = b) W8).setCell _ _ rfl) (fun e => hBn e.symm)
      change Code.wp _ _ _ _ (W8.setCell ⟨b, 1, none⟩ (.int .i64 ((p + sz : Nat) : Int)))
      generalize W8.setCell ⟨b, 1, none⟩ (.int .i64 ((p + sz : Nat) : Int)) = w4 at *
      clear v0 v1 v2 v3 v4 v5 x0 x1 x2
      obtain ⟨v0, v1, v2, v3, v4, v5⟩ := hV4.cells
      go_wp2_with fail
      have hWz := hV4.set3 false (p : Int) V
      have hBz := ((hO4.setNew (p := ⟨w.heap.size, 0, none⟩) (Nat.le_refl _) (.bool false)).setNew (p := ⟨w.heap.size, 1, none⟩) (Nat.le_refl _) (.int .i64 (p : Int))).setNew (p := ⟨w.heap.size, 2, none⟩) (Nat.le_refl _) (.string V)
      have hSz := hS4.only3 hBn (.bool false) (.int .i64 (p : Int)) (.string V)
      generalize (((w4.setCell ⟨w.heap.size, 0, none⟩ (.bool false)).setCell ⟨w.heap.size, 1, none⟩ (.int .i64 (p : Int))).setCell ⟨w.heap.size, 2, none⟩ (.string V)) = wz at *
      obtain ⟨z0, z1, z2, _⟩ := hWz.cells
      (try simp only [Exit.inBlock, Exit.then])
      refine bodyPost_ret (v := .tuple #[.agg #[.bool false, .int .i64 (p : Int), .string V], .bool true]) (by simp [results, Tryd.results33, go_sem, z0, z1, z2]; try rfl) rfl (EndFd.yes HF.out rfl rfl HRAW.out hSz hBz)
    · have HF := Lib.hid h2
      have h1r : sz < R.size := by omega
      obtain ⟨_, hg⟩ := ext_get HRR.out sz h1r
      rw [hg] at h3
      have n1 : (sz : Int) < (R.size : Int) := by omega
      have n0 : (0 : Int) ≤ (sz : Int) := by omega
      rcases h3 with h3 | h3
      · have q44 : ((R[sz].toNat : Int) != 44) = false := by rw [h3]; rfl
        clear h1 h2 HE hg h3
        obtain ⟨v0, v1, v2, v3, v4, v5⟩ := hV8.cells
        obtain ⟨x0, x1, x2⟩ := hS8.cells
        go_upto_region 15 with fail
        have hO4 := hO8.setCell ⟨b, 1, none⟩ (.int .i64 ((p + sz : Nat) : Int)) rfl
        have hS4 := hS8.set (p + sz)
        have hV4 : fV (W8.setCell ⟨b, 1, none⟩ (.int .i64 ((p + sz : Nat) : Int))) w.heap.size false (p : Int) V := hV8.only ((Only.refl (fun i => i = b) W8).setCell _ _ rfl) (fun e => hBn e.symm)
        change Code.wp _ _ _ _ (W8.setCell ⟨b, 1, none⟩ (.int .i64 ((p + sz : Nat) : Int)))
        generalize W8.setCell ⟨b, 1, none⟩ (.int .i64 ((p + sz : Nat) : Int)) = w4 at *
        clear v0 v1 v2 v3 v4 v5 x0 x1 x2
        obtain ⟨v0, v1, v2, v3, v4, v5⟩ := hV4.cells
        go_wp2_with fail
        have hWz := hV4.set3 false (p : Int) V
        have hBz := ((hO4.setNew (p := ⟨w.heap.size, 0, none⟩) (Nat.le_refl _) (.bool false)).setNew (p := ⟨w.heap.size, 1, none⟩) (Nat.le_refl _) (.int .i64 (p : Int))).setNew (p := ⟨w.heap.size, 2, none⟩) (Nat.le_refl _) (.string V)
        have hSz := hS4.only3 hBn (.bool false) (.int .i64 (p : Int)) (.string V)
        generalize (((w4.setCell ⟨w.heap.size, 0, none⟩ (.bool false)).setCell ⟨w.heap.size, 1, none⟩ (.int .i64 (p : Int))).setCell ⟨w.heap.size, 2, none⟩ (.string V)) = wz at *
        obtain ⟨z0, z1, z2, _⟩ := hWz.cells
        (try simp only [Exit.inBlock, Exit.then])
        refine bodyPost_ret (v := .tuple #[.agg #[.bool false, .int .i64 (p : Int), .string V], .bool true]) (by simp [results, Tryd.results33, go_sem, z0, z1, z2]; try rfl) rfl (EndFd.yes HF.out rfl rfl HRAW.out hSz hBz)
      · have q44 : ((R[sz].toNat : Int) != 44) = true := by rw [h3]; rfl
        have q10 : ((R[sz].toNat : Int) != 10) = false := by rw [h3]; rfl
        clear h1 h2 HE hg h3
        obtain ⟨v0, v1, v2, v3, v4, v5⟩ := hV8.cells
        obtain ⟨x0, x1, x2⟩ := hS8.cells
        go_upto_region 15 with fail
        have hO4 := hO8.setCell ⟨b, 1, none⟩ (.int .i64 ((p + sz : Nat) : Int)) rfl
        have hS4 := hS8.set (p + sz)
        have hV4 : fV (W8.setCell ⟨b, 1, none⟩ (.int .i64 ((p + sz : Nat) : Int))) w.heap.size false (p : Int) V := hV8.only ((Only.refl (fun i => i = b) W8).setCell _ _ rfl) (fun e => hBn e.symm)
        change Code.wp _ _ _ _ (W8.setCell ⟨b, 1, none⟩ (.int .i64 ((p + sz : Nat) : Int)))
        generalize W8.setCell ⟨b, 1, none⟩ (.int .i64 ((p + sz : Nat) : Int)) = w4 at *
        clear v0 v1 v2 v3 v4 v5 x0 x1 x2
        obtain ⟨v0, v1, v2, v3, v4, v5⟩ := hV4.cells
        go_wp2_with fail
        have hWz := hV4.set3 false (p : Int) V
        have hBz := ((hO4.setNew (p := ⟨w.heap.size, 0, none⟩) (Nat.le_refl _) (.bool false)).setNew (p := ⟨w.heap.size, 1, none⟩) (Nat.le_refl _) (.int .i64 (p : Int))).setNew (p := ⟨w.heap.size, 2, none⟩) (Nat.le_refl _) (.string V)
        have hSz := hS4.only3 hBn (.bool false) (.int .i64 (p : Int)) (.string V)
        generalize (((w4.setCell ⟨w.heap.size, 0, none⟩ (.bool false)).setCell ⟨w.heap.size, 1, none⟩ (.int .i64 (p : Int))).setCell ⟨w.heap.size, 2, none⟩ (.string V)) = wz at *
        obtain ⟨z0, z1, z2, _⟩ := hWz.cells
        (try simp only [Exit.inBlock, Exit.then])
        refine bodyPost_ret (v := .tuple #[.agg #[.bool false, .int .i64 (p : Int), .string V], .bool true]) (by simp [results, Tryd.results33, go_sem, z0, z1, z2]; try rfl) rfl (EndFd.yes HF.out rfl rfl HRAW.out hSz hBz)
    · have HF := Lib.hid h2
      have h1r : sz < R.size := by omega
      obtain ⟨_, hg⟩ := ext_get HRR.out sz h1r
      rw [hg] at h3 h4
      have n1 : (sz : Int) < (R.size : Int) := by omega
      have n0 : (0 : Int) ≤ (sz : Int) := by omega
      have q44 : ((R[sz].toNat : Int) != 44) = true := by have := u8_int_ne (b := 44) h3; unfold bne; rw [show ((R[sz].toNat : Int) == 44) = false from this]; rfl
      have q10 : ((R[sz].toNat : Int) != 10) = true := by have := u8_int_ne (b := 10) h4; unfold bne; rw [show ((R[sz].toNat : Int) == 10) = false from this]; rfl
      clear h1 h2 HE hg h3 h4
      obtain ⟨v0, v1, v2, v3, v4, v5⟩ := hV8.cells
      go_wp2_with fail
      have hWz := hV8.set3 false 0 ⟨#[]⟩
      have hBz := ((hO8.setNew (p := ⟨w.heap.size, 0, none⟩) (Nat.le_refl _) (.bool false)).setNew (p := ⟨w.heap.size, 1, none⟩) (Nat.le_refl _) (.int .i64 0)).setNew (p := ⟨w.heap.size, 2, none⟩) (Nat.le_refl _) (.string ⟨#[]⟩)
      have hSz := hS8.only3 hBn (.bool false) (.int .i64 0) (.string ⟨#[]⟩)
      generalize (((W8.setCell ⟨w.heap.size, 0, none⟩ (.bool false)).setCell ⟨w.heap.size, 1, none⟩ (.int .i64 0)).setCell ⟨w.heap.size, 2, none⟩ (.string ⟨#[]⟩)) = wz at *
      obtain ⟨z0, z1, z2, _⟩ := hWz.cells
      (try simp only [Exit.inBlock, Exit.then])
      refine bodyPost_ret (v := .tuple #[.agg #[.bool false, .int .i64 0, .string ⟨#[]⟩], .bool false]) (by simp [results, Tryd.results33, go_sem, z0, z1, z2]; try rfl) rfl (EndFd.no HF.out hSz hBz)
end Go.Proofs.YteaciofacmbllaaDoor
namespace Go.Proofs.YteaciofacmbllaaDoor
open Go.ChangeShapes Go.WideShapes Go.ChangeAt Go.RowKit
set_option linter.unusedVariables false
set_option linter.unusedSimpArgs false
set_option maxRecDepth 100000

theorem endsR_get (s : ByteArray) (q : Nat) (h : q < s.size) : endsR s q = ((s[q].toNat : Int) == 10) := by
  have hd : restD s q = s[q] :: restD s (q + 1) := drop_get s q h
  unfold endsR
  rw [hd]
  show (s[q] == 10) = _
  rw [Bool.eq_iff_iff, beq_iff_eq, beq_iff_eq]
  constructor
  · intro e; rw [e]; rfl
  · intro e; exact UInt8.toNat_inj.1 (by show _ = 10; omega)
set_option maxHeartbeats 1600000 in
theorem readend_any (b q : Nat) (s : ByteArray) (w : World) (h : Scn w b s q) (hs : s.size ≤ 1000000000) (hq : q ≤ s.size) :
    Calls Tryd.prog 35 #[.pointer (some ⟨b, 0, none⟩)] w fun e w' => e = .returned (.bool (endsR s q)) ∧ Scn w' b s (min (q + 1) s.size) ∧ Only (fun i => i = b) w w' := by
  have HM := Lib.hid (more_any b q s w h (by omega) (by omega))
  by_cases hlt : q < s.size
  · rw [decide_eq_true hlt] at HM
    rw [show min (q + 1) s.size = q + 1 by omega]
    have he := endsR_get s q hlt
    have HE := Lib.hid he
    have i0 : (0 : Int) ≤ (q : Int) := by omega
    have i1 : (q : Int) < (s.size : Int) := by omega
    have i2 : IntKind.i64.wrap ((q : Int) + 1) = (q : Int) + 1 := IntWalk.i64_in _ ⟨by omega, by omega⟩
    have i3 : IntKind.i64.wrap (q : Int) = (q : Int) := IntWalk.i64_in _ ⟨by omega, by omega⟩
    have i4 : (q : Int) + 1 - 1 = (q : Int) := by omega
    clear he
    go_enter Tryd.func35, Tryd.ntmps35
    go_wp2_with fail
    refine HM.out.mono ?_; rintro e w1 ⟨rfl, hb⟩
    have hS1 := h.call hb
    have hO1 : Only (fun i => i = b) w w1 := Only.of_below hb
    obtain ⟨x0, x1, x2⟩ := hS1.cells
    go_upto_region 4 with fail
    have hS2 := hS1.set (q + 1)
    have hO2 := hO1.setCell ⟨b, 1, none⟩ (.int .i64 ((q + 1 : Nat) : Int)) rfl
    change Code.wp _ _ _ _ (w1.setCell ⟨b, 1, none⟩ (.int .i64 ((q + 1 : Nat) : Int)))
    generalize w1.setCell ⟨b, 1, none⟩ (.int .i64 ((q + 1 : Nat) : Int)) = w2 at *
    clear x0 x1 x2
    obtain ⟨x0, x1, x2⟩ := hS2.cells
    rw [show ((q + 1 : Nat) : Int) = (q : Int) + 1 from rfl] at x1
    go_quiet (fail)
    go_wp2_with fail
    go_ret
    exact ⟨by rw [HE.out]; rfl, hS2.call (below_qN _ _), hO2.trans (Only.of_below (below_qN _ _))⟩
  · rw [decide_eq_false hlt] at HM
    rw [show min (q + 1) s.size = q by omega, endsR_end s q (by omega)]
    go_enter Tryd.func35, Tryd.ntmps35
    go_wp2_with fail
    refine HM.out.mono ?_; rintro e w1 ⟨rfl, hb⟩
    go_wp2_with fail
    go_ret
    exact ⟨rfl, h.call hb, Only.of_below hb⟩
/-- The header's variable. -/
def hV (W : World) (B : Nat) (f c : Nat) : Prop := W.heap[B]? = some (.cells #[.int .i64 f, .int .i64 c] 72 (0, 0))
section
variable {W W' : World} {B f c : Nat}
theorem hV.new (W : World) (f c : Nat) : hV (W.alloc (.cells #[.int .i64 f, .int .i64 c] 72)) W.heap.size f c := heap_alloc_new W _
theorem hV.lt (h : hV W B f c) : B < W.heap.size := (Array.getElem?_eq_some_iff.1 h).1
theorem hV.call (h : hV W B f c) (hb : Below W.heap.size W W') : hV W' B f c := (hb.block B h.lt).trans h
theorem hV.only {S : Nat → Prop} (h : hV W B f c) (hb : Only S W W') (hn : ¬ S B) : hV W' B f c := (hb.block B h.lt hn).trans h
theorem hV.cells (h : hV W B f c) : W.cell? ⟨B, 0, none⟩ = some (.int .i64 f) ∧ W.cell? ⟨B, 1, none⟩ = some (.int .i64 c) ∧ W.frozen? ⟨B, 0, none⟩ = false ∧ W.frozen? ⟨B, 1, none⟩ = false :=
  ⟨by rw [Lib.cell_of_heap h]; rfl, by rw [Lib.cell_of_heap h]; rfl, Lib.frozen_of_heap h 0, Lib.frozen_of_heap h 1⟩
theorem hV.set0 (h : hV W B f c) (f' : Nat) : hV (W.setCell ⟨B, 0, none⟩ (.int .i64 f')) B f' c := setCell_heap W B 0 _ 72 (.int .i64 f') h
theorem hV.set1 (h : hV W B f c) (c' : Nat) : hV (W.setCell ⟨B, 1, none⟩ (.int .i64 c')) B f c' := setCell_heap W B 1 _ 72 (.int .i64 c') h
end
/-- What readHeader answers. -/
def hdR : Hd → (Nat × Nat) × Nat × Int
  | .bad p => ((0, 0), p, 2)
  | .ok f t c _ => if t = 0 then ((0, 0), 0, 6) else if t = 1 then ((f, c), 0, 0) else ((0, 0), 0, 5)
def EndHd (H : Hd) (b : Nat) (s : ByteArray) (w : World) (e : Ending) (w' : World) : Prop :=
  e = .returned (.tuple #[.agg #[.int .i64 (hdR H).1.1, .int .i64 (hdR H).1.2], .int .i64 (hdR H).2.1, .int .i64 (hdR H).2.2]) ∧ ∃ q, Scn w' b s q ∧ (∀ f t c nx, H = .ok f t c nx → q = min nx s.size) ∧ Only (fun i => i = b) w w'
theorem EndHd.mk' {H : Hd} {b : Nat} {s : ByteArray} {w w' : World} {f c a : Nat} {e : Int} (h : hdR H = ((f, c), a, e)) {q : Nat} (hs : Scn w' b s q) (hq : ∀ f t c nx, H = .ok f t c nx → q = min nx s.size) (ho : Only (fun i => i = b) w w') : EndHd H b s w (.returned (.tuple #[.agg #[.int .i64 f, .int .i64 c], .int .i64 a, .int .i64 e])) w' := by
  unfold EndHd; rw [h]; exact ⟨rfl, q, hs, hq, ho⟩
/-- What holds at the head of a round. -/
structure HdR (H : Hd) (b : Nat) (s : ByteArray) (w : World) (p n t c : Nat) (ended : Bool) (wr : World) : Prop where
  var : hV wr w.heap.size n c
  scn : Scn wr b s p
  only : Only (fun i => i = b) w wr
  le : p ≤ s.size
  on : ended = false → H = hdrS s p n t c ∧ n ≤ p
  off : ended = true → ∃ nx, H = .ok n t c nx ∧ p = min nx s.size
  small : t ≤ n ∧ n ≤ s.size + 1 ∧ c ≤ n
theorem text_quoted {s : ByteArray} {p : Nat} {x : Fld} (h : fldS (restD s p) = some x) (hq : x.quoted = false) : ((bsL (rawF s p x)).toList == [116, 101, 120, 116]) = isText s p x := by
  rw [Go.ByteArray.toList_eq, show (bsL (rawF s p x)).data.toList = rawF s p x from bsL_list _, rawF_bare h hq]
  unfold isText
  rw [Bool.eq_iff_iff, beq_iff_eq, decide_eq_true_iff]
set_option maxHeartbeats 6400000 in
theorem readheader_any (b : Nat) (s : ByteArray) (w : World) (h : Scn w b s 0) (hs : s.size ≤ 1000000000) :
    Calls Tryd.prog 31 #[.pointer (some ⟨b, 0, none⟩)] w (EndHd (hdrS s 0 0 0 0) b s w) := by
  have hbs := h.lt
  have hBn : b ≠ w.heap.size := by omega
  obtain ⟨H, hH⟩ : ∃ H, hdrS s 0 0 0 0 = H := ⟨_, rfl⟩
  have hZ := hV.new w 0 0
  have hS := h.call (blw (Below.refl _ _) (.cells #[.int .i64 ((0 : Nat) : Int), .int .i64 ((0 : Nat) : Int)] 72))
  have hBa := blw (Below.refl w.heap.size w) (.cells #[.int .i64 ((0 : Nat) : Int), .int .i64 ((0 : Nat) : Int)] 72)
  have hrel : HdR H b s w 0 0 0 0 false (w.alloc (.cells #[.int .i64 ((0 : Nat) : Int), .int .i64 ((0 : Nat) : Int)] 72)) :=
    ⟨hZ, hS, Only.of_below hBa, Nat.zero_le _, fun _ => ⟨hH.symm, Nat.le_refl _⟩, fun e => (by cases e), ⟨Nat.le_refl _, Nat.zero_le _, Nat.le_refl _⟩⟩
  have HREL := Lib.hid hrel
  have HRF := Lib.hid (fun p W (hS : Scn W b s p) (hp : p ≤ s.size) => readfield_any b p s W hS hs hp)
  have HRE := Lib.hid (fun p W (hS : Scn W b s p) (hp : p ≤ s.size) => readend_any b p s W hS hs hp)
  rw [hH]
  clear hH hZ hS hBa hrel
  go_enter Tryd.func31, Tryd.ntmps31
  go_wp2_with fail
  go_loopw [5, 6] (fun vt ve wr => ∃ (p n t c : Nat) (ended : Bool), vt = .int .i64 t ∧ ve = .bool ended ∧ HdR H b s w p n t c ended wr) (fun _ ve wr => match ve with | .bool true => 0 | _ => s.size + 1 - (intOf ((wr.cell? ⟨b, 1, none⟩).getD (.int .i64 0))).toNat + 1)
  case atStart => exact ⟨0, 0, 0, 0, false, rfl, rfl, HREL.out⟩
  case round =>
    obtain ⟨p, n, t, c, ended, rfl, rfl, hr⟩ := hrel
    have HR := Lib.hid hr
    obtain ⟨hv0, hv1, hf0, hf1⟩ := hr.var.cells
    have hle := hr.le
    have hsm := hr.small
    have hn1 : (n : Int) ≤ 1000000001 := by omega
    have ht1 : (t : Int) ≤ 1000000001 := by omega
    clear hr HREL hsm
    cases ended
    case true =>
      obtain ⟨nx, hH, hp⟩ := HR.out.off rfl
      have HQ := Lib.hid (show ∀ f t' c' nx', H = .ok f t' c' nx' → p = min nx' s.size from fun f t' c' nx' e => by rw [hH] at e; injection e with _ _ _ e; subst e; exact hp)
      have HH := Lib.hid hH
      clear hH hp
      by_cases t0 : t = 0
      · have q0 : ((t : Int) == 0) = true := by rw [t0]; rfl
        have HX := Lib.hid (show hdR H = ((0, 0), 0, 6) by rw [HH.out]; exact if_pos t0)
        clear t0
        go_wp2_with fail
        have hV2 := (HR.out.var.set0 0).set1 0
        have hS2 := (HR.out.scn).same (W' := (wr.setCell ⟨w.heap.size, 0, none⟩ (.int .i64 ((0 : Nat) : Int))).setCell ⟨w.heap.size, 1, none⟩ (.int .i64 ((0 : Nat) : Int))) (by rw [Below.heap_setCell _ _ _ _ hBn, Below.heap_setCell _ _ _ _ hBn])
        have hO2 := ((HR.out.only).setNew (p := ⟨w.heap.size, 0, none⟩) (Nat.le_refl _) (.int .i64 ((0 : Nat) : Int))).setNew (p := ⟨w.heap.size, 1, none⟩) (Nat.le_refl _) (.int .i64 ((0 : Nat) : Int))
        change bodyPost _ _ _ _ _ ((wr.setCell ⟨w.heap.size, 0, none⟩ (.int .i64 ((0 : Nat) : Int))).setCell ⟨w.heap.size, 1, none⟩ (.int .i64 ((0 : Nat) : Int)))
        generalize (wr.setCell ⟨w.heap.size, 0, none⟩ (.int .i64 ((0 : Nat) : Int))).setCell ⟨w.heap.size, 1, none⟩ (.int .i64 ((0 : Nat) : Int)) = wz at *
        obtain ⟨z0, z1, _⟩ := hV2.cells
        (try simp only [Exit.inBlock, Exit.then])
        refine bodyPost_ret (v := .tuple #[.agg #[.int .i64 ((0 : Nat) : Int), .int .i64 ((0 : Nat) : Int)], .int .i64 ((0 : Nat) : Int), .int .i64 6]) (by simp [results, Tryd.results31, go_sem, z0, z1]; try rfl) rfl (EndHd.mk' HX.out hS2 HQ.out hO2)
      by_cases t1 : t = 1
      · have q0 : ((t : Int) == 0) = false := by rw [t1]; rfl
        have q1 : ((t : Int) == 1) = true := by rw [t1]; rfl
        have HX := Lib.hid (show hdR H = ((n, c), 0, 0) by rw [HH.out]; show (if t = 0 then _ else _) = _; rw [if_neg t0, if_pos t1])
        clear t0 t1
        go_wp2_with fail
        have hV2 := (HR.out.var.set0 n).set1 c
        have hS2 := (HR.out.scn).same (W' := (wr.setCell ⟨w.heap.size, 0, none⟩ (.int .i64 ((n : Nat) : Int))).setCell ⟨w.heap.size, 1, none⟩ (.int .i64 ((c : Nat) : Int))) (by rw [Below.heap_setCell _ _ _ _ hBn, Below.heap_setCell _ _ _ _ hBn])
        have hO2 := ((HR.out.only).setNew (p := ⟨w.heap.size, 0, none⟩) (Nat.le_refl _) (.int .i64 ((n : Nat) : Int))).setNew (p := ⟨w.heap.size, 1, none⟩) (Nat.le_refl _) (.int .i64 ((c : Nat) : Int))
        change bodyPost _ _ _ _ _ ((wr.setCell ⟨w.heap.size, 0, none⟩ (.int .i64 ((n : Nat) : Int))).setCell ⟨w.heap.size, 1, none⟩ (.int .i64 ((c : Nat) : Int)))
        generalize (wr.setCell ⟨w.heap.size, 0, none⟩ (.int .i64 ((n : Nat) : Int))).setCell ⟨w.heap.size, 1, none⟩ (.int .i64 ((c : Nat) : Int)) = wz at *
        obtain ⟨z0, z1, _⟩ := hV2.cells
        (try simp only [Exit.inBlock, Exit.then])
        refine bodyPost_ret (v := .tuple #[.agg #[.int .i64 ((n : Nat) : Int), .int .i64 ((c : Nat) : Int)], .int .i64 ((0 : Nat) : Int), .int .i64 0]) (by simp [results, Tryd.results31, go_sem, z0, z1]; try rfl) rfl (EndHd.mk' HX.out hS2 HQ.out hO2)
      · have q0 : ((t : Int) == 0) = false := by rw [beq_eq_false_iff_ne]; omega
        have q1 : ((t : Int) == 1) = false := by rw [beq_eq_false_iff_ne]; omega
        have HX := Lib.hid (show hdR H = ((0, 0), 0, 5) by rw [HH.out]; show (if t = 0 then _ else _) = _; rw [if_neg t0, if_neg t1])
        clear t0 t1
        go_wp2_with fail
        have hV2 := (HR.out.var.set0 0).set1 0
        have hS2 := (HR.out.scn).same (W' := (wr.setCell ⟨w.heap.size, 0, none⟩ (.int .i64 ((0 : Nat) : Int))).setCell ⟨w.heap.size, 1, none⟩ (.int .i64 ((0 : Nat) : Int))) (by rw [Below.heap_setCell _ _ _ _ hBn, Below.heap_setCell _ _ _ _ hBn])
        have hO2 := ((HR.out.only).setNew (p := ⟨w.heap.size, 0, none⟩) (Nat.le_refl _) (.int .i64 ((0 : Nat) : Int))).setNew (p := ⟨w.heap.size, 1, none⟩) (Nat.le_refl _) (.int .i64 ((0 : Nat) : Int))
        change bodyPost _ _ _ _ _ ((wr.setCell ⟨w.heap.size, 0, none⟩ (.int .i64 ((0 : Nat) : Int))).setCell ⟨w.heap.size, 1, none⟩ (.int .i64 ((0 : Nat) : Int)))
        generalize (wr.setCell ⟨w.heap.size, 0, none⟩ (.int .i64 ((0 : Nat) : Int))).setCell ⟨w.heap.size, 1, none⟩ (.int .i64 ((0 : Nat) : Int)) = wz at *
        obtain ⟨z0, z1, _⟩ := hV2.cells
        (try simp only [Exit.inBlock, Exit.then])
        refine bodyPost_ret (v := .tuple #[.agg #[.int .i64 ((0 : Nat) : Int), .int .i64 ((0 : Nat) : Int)], .int .i64 ((0 : Nat) : Int), .int .i64 5]) (by simp [results, Tryd.results31, go_sem, z0, z1]; try rfl) rfl (EndHd.mk' HX.out hS2 HQ.out hO2)
    case false =>
      obtain ⟨hH, hnp⟩ := HR.out.on rfl
      have hm0 := HR.out.scn.cells.2.1
      have x1 := HR.out.scn.cells.2.1
      have hrf := HRF.out p wr HR.out.scn hle
      have hlt := HR.out.var.lt
      unfold EndFd at hrf
      cases hf : fldS (restD s p) with
      | none =>
        rw [hf] at hrf
        have hHb := hdr_bad (n := n) (t := t) (col := c) hle hf
        rw [← hH] at hHb
        have HX := Lib.hid (show hdR H = ((0, 0), p, 2) by rw [hHb]; rfl)
        have HQ := Lib.hid (show ∀ f t' c' nx', H = .ok f t' c' nx' → p = min nx' s.size from fun f t' c' nx' e => by rw [hHb] at e; cases e)
        have HRF2 := Lib.hid hrf
        clear hrf hf hH hHb hm0
        go_wp2_with fail
        refine HRF2.out.mono ?_; rintro e w1 ⟨rfl, hS1, hO1⟩
        have hV1 := (HR.out.var.only hO1 (fun e => hBn e.symm)).call (blw (Below.refl _ _) (.cells #[.bool false, .int .i64 0, .string ByteArray.empty] 76))
        have hS1 := hS1.call (blw (Below.refl _ _) (.cells #[.bool false, .int .i64 0, .string ByteArray.empty] 76))
        have hO2 := (HR.out.only.trans hO1).alloc (.cells #[.bool false, .int .i64 0, .string ByteArray.empty] 76)
        clear x1 hv0 hv1 hf0 hf1
        obtain ⟨hv0, hv1, hf0, hf1⟩ := hV1.cells
        go_wp2_with fail
        have hV2 := (hV1.set0 0).set1 0
        have hS2 := (hS1).same (W' := ((w1.alloc (.cells #[.bool false, .int .i64 0, .string ByteArray.empty] 76)).setCell ⟨w.heap.size, 0, none⟩ (.int .i64 ((0 : Nat) : Int))).setCell ⟨w.heap.size, 1, none⟩ (.int .i64 ((0 : Nat) : Int))) (by rw [Below.heap_setCell _ _ _ _ hBn, Below.heap_setCell _ _ _ _ hBn])
        have hO2 := ((hO2).setNew (p := ⟨w.heap.size, 0, none⟩) (Nat.le_refl _) (.int .i64 ((0 : Nat) : Int))).setNew (p := ⟨w.heap.size, 1, none⟩) (Nat.le_refl _) (.int .i64 ((0 : Nat) : Int))
        change bodyPost _ _ _ _ _ (((w1.alloc (.cells #[.bool false, .int .i64 0, .string ByteArray.empty] 76)).setCell ⟨w.heap.size, 0, none⟩ (.int .i64 ((0 : Nat) : Int))).setCell ⟨w.heap.size, 1, none⟩ (.int .i64 ((0 : Nat) : Int)))
        generalize ((w1.alloc (.cells #[.bool false, .int .i64 0, .string ByteArray.empty] 76)).setCell ⟨w.heap.size, 0, none⟩ (.int .i64 ((0 : Nat) : Int))).setCell ⟨w.heap.size, 1, none⟩ (.int .i64 ((0 : Nat) : Int)) = wz at *
        obtain ⟨z0, z1, _⟩ := hV2.cells
        (try simp only [Exit.inBlock, Exit.then])
        refine bodyPost_ret (v := .tuple #[.agg #[.int .i64 ((0 : Nat) : Int), .int .i64 ((0 : Nat) : Int)], .int .i64 ((p : Nat) : Int), .int .i64 2]) (by simp [results, Tryd.results31, go_sem, z0, z1]; try rfl) rfl (EndHd.mk' HX.out hS2 HQ.out hO2)
      | some x =>
        rw [hf] at hrf
        obtain ⟨X, hX⟩ : ∃ X, bsL (rawF s p x) = X := ⟨_, rfl⟩
        have hXa : ∃ a : Int, a = ((p + (if x.quoted = true then 1 else 0) : Nat) : Int) := ⟨_, rfl⟩
        obtain ⟨A, hA⟩ := hXa
        have hfa := fld_at hf hle
        have htq := fun hq => text_quoted hf hq
        have htn := fun hq => isText_quoted hf hq
        have hen := fun he => hdr_end (n := n) (t := t) (col := c) hle hf he
        have hmo := fun he => hdr_more (n := n) (t := t) (col := c) hle hf he
        rw [← hH] at hen hmo
        dsimp only at hrf
        rw [hX] at hrf htq
        rw [← hA] at hrf
        have HEN := Lib.hid hen; have HMO := Lib.hid hmo
        have HRF2 := Lib.hid hrf
        have HTQ := Lib.hid htq; have HTN := Lib.hid htn
        clear hrf hf hH hen hmo hX hA htq htn
        obtain ⟨z, hz⟩ : ∃ z, x.size = z := ⟨_, rfl⟩
        obtain ⟨T, hT⟩ : ∃ T, isText s p x = T := ⟨_, rfl⟩
        obtain ⟨Q, hQ⟩ : ∃ Q, x.quoted = Q := ⟨_, rfl⟩
        rw [hz] at HRF2 HEN HMO hfa
        rw [hT] at HEN HMO HTQ HTN
        rw [hQ] at HTQ HTN HRF2
        have HRE2 := Lib.hid (fun W (hS : Scn W b s (p + z)) => HRE.out (p + z) W hS (by omega))
        clear hz hT hQ
        cases T
        · cases Q
          · have tq : (X.toList == [116, 101, 120, 116]) = false := HTQ.out rfl
            go_wp2_with fail
            refine HRF2.out.mono ?_; rintro e w1 ⟨rfl, hS1, hO1⟩
            have hV1 := (HR.out.var.only hO1 (fun e => hBn e.symm)).call (blw (Below.refl _ _) (.cells #[.bool false, .int .i64 A, .string X] 76))
            have hS1 := hS1.call (blw (Below.refl _ _) (.cells #[.bool false, .int .i64 A, .string X] 76))
            have hO2 := (HR.out.only.trans hO1).alloc (.cells #[.bool false, .int .i64 A, .string X] 76)
            have hF1 := fV.new w1 false A X
            have hne : w.heap.size ≠ w1.heap.size := by have := hO1.size; omega
            clear x1 hv0 hv1 hf0 hf1
            obtain ⟨hv0, hv1, hf0, hf1⟩ := hV1.cells
            obtain ⟨y0, y1, y2, _⟩ := hF1.cells
            go_upto_region 4 with fail
            have hV2 := hV1.set0 (n + 1)
            have hS2 := hS1.same (W' := (w1.alloc (.cells #[.bool false, .int .i64 A, .string X] 76)).setCell ⟨w.heap.size, 0, none⟩ (.int .i64 ((n + 1 : Nat) : Int))) (by rw [Below.heap_setCell _ _ _ _ hBn])
            have hO3 := hO2.setNew (p := ⟨w.heap.size, 0, none⟩) (Nat.le_refl _) (.int .i64 ((n + 1 : Nat) : Int))
            change Code.wp _ _ _ _ ((w1.alloc (.cells #[.bool false, .int .i64 A, .string X] 76)).setCell ⟨w.heap.size, 0, none⟩ (.int .i64 ((n + 1 : Nat) : Int)))
            generalize (w1.alloc (.cells #[.bool false, .int .i64 A, .string X] 76)).setCell ⟨w.heap.size, 0, none⟩ (.int .i64 ((n + 1 : Nat) : Int)) = W4 at *
            clear hv0 hv1 hf0 hf1 y0 y1 y2 hV1 hS1 hO2 hF1 hO1
            go_wp2_with fail
            refine (HRE2.out _ hS2).mono ?_; rintro e w5 ⟨rfl, hS5, hO5⟩
            have hV5 := hV2.only hO5 (fun e => hBn e.symm)
            have hsm := HR.out.small
            cases he : endsR s (p + z)
            · have hlt2 := endsR_lt he
              have hst := HMO.out he
              rw [if_neg Bool.false_ne_true, if_neg Bool.false_ne_true] at hst
              rw [show min (p + z + 1) s.size = p + z + 1 by omega] at hS5
              have hrel : HdR H b s w (p + z + 1) (n + 1) t c false w5 :=
                ⟨hV5, hS5, hO3.trans hO5, by omega, fun _ => ⟨hst, by omega⟩, fun e => (by cases e), ⟨by omega, by omega, by omega⟩⟩
              have HREL := Lib.hid hrel
              have hm1 := hS5.cells.2.1
              clear hrel hst hsm hS5 hO5 hV5 hV2 hS2 hO3 he
              go_wp2_with fail
              go_roundw
              case rel => exact ⟨p + z + 1, n + 1, t, c, false, by go_num, rfl, HREL.out⟩
              case measure =>
                show s.size + 1 - (intOf ((w5.cell? ⟨b, 1, none⟩).getD (.int .i64 0))).toNat + 1 < s.size + 1 - (intOf ((wr.cell? ⟨b, 1, none⟩).getD (.int .i64 0))).toNat + 1
                rw [hm0, hm1]; simp [intOf]; omega
            · have hst := HEN.out he
              rw [if_neg Bool.false_ne_true, if_neg Bool.false_ne_true] at hst
              have hrel : HdR H b s w (min (p + z + 1) s.size) (n + 1) t c true w5 :=
                ⟨hV5, hS5, hO3.trans hO5, by omega, fun e => (by cases e), fun _ => ⟨_, hst, rfl⟩, ⟨by omega, by omega, by omega⟩⟩
              have HREL := Lib.hid hrel
              clear hrel hst hsm hS5 hO5 hV5 hV2 hS2 hO3 he
              go_wp2_with fail
              go_roundw
              case rel => exact ⟨_, n + 1, t, c, true, by go_num, rfl, HREL.out⟩
              case measure =>
                show 0 < s.size + 1 - (intOf ((wr.cell? ⟨b, 1, none⟩).getD (.int .i64 0))).toNat + 1
                omega
          · skip
            go_wp2_with fail
            refine HRF2.out.mono ?_; rintro e w1 ⟨rfl, hS1, hO1⟩
            have hV1 := (HR.out.var.only hO1 (fun e => hBn e.symm)).call (blw (Below.refl _ _) (.cells #[.bool true, .int .i64 A, .string X] 76))
            have hS1 := hS1.call (blw (Below.refl _ _) (.cells #[.bool true, .int .i64 A, .string X] 76))
            have hO2 := (HR.out.only.trans hO1).alloc (.cells #[.bool true, .int .i64 A, .string X] 76)
            have hF1 := fV.new w1 true A X
            have hne : w.heap.size ≠ w1.heap.size := by have := hO1.size; omega
            clear x1 hv0 hv1 hf0 hf1
            obtain ⟨hv0, hv1, hf0, hf1⟩ := hV1.cells
            obtain ⟨y0, y1, y2, _⟩ := hF1.cells
            go_upto_region 4 with fail
            have hV2 := hV1.set0 (n + 1)
            have hS2 := hS1.same (W' := (w1.alloc (.cells #[.bool true, .int .i64 A, .string X] 76)).setCell ⟨w.heap.size, 0, none⟩ (.int .i64 ((n + 1 : Nat) : Int))) (by rw [Below.heap_setCell _ _ _ _ hBn])
            have hO3 := hO2.setNew (p := ⟨w.heap.size, 0, none⟩) (Nat.le_refl _) (.int .i64 ((n + 1 : Nat) : Int))
            change Code.wp _ _ _ _ ((w1.alloc (.cells #[.bool true, .int .i64 A, .string X] 76)).setCell ⟨w.heap.size, 0, none⟩ (.int .i64 ((n + 1 : Nat) : Int)))
            generalize (w1.alloc (.cells #[.bool true, .int .i64 A, .string X] 76)).setCell ⟨w.heap.size, 0, none⟩ (.int .i64 ((n + 1 : Nat) : Int)) = W4 at *
            clear hv0 hv1 hf0 hf1 y0 y1 y2 hV1 hS1 hO2 hF1 hO1
            go_wp2_with fail
            refine (HRE2.out _ hS2).mono ?_; rintro e w5 ⟨rfl, hS5, hO5⟩
            have hV5 := hV2.only hO5 (fun e => hBn e.symm)
            have hsm := HR.out.small
            cases he : endsR s (p + z)
            · have hlt2 := endsR_lt he
              have hst := HMO.out he
              rw [if_neg Bool.false_ne_true, if_neg Bool.false_ne_true] at hst
              rw [show min (p + z + 1) s.size = p + z + 1 by omega] at hS5
              have hrel : HdR H b s w (p + z + 1) (n + 1) t c false w5 :=
                ⟨hV5, hS5, hO3.trans hO5, by omega, fun _ => ⟨hst, by omega⟩, fun e => (by cases e), ⟨by omega, by omega, by omega⟩⟩
              have HREL := Lib.hid hrel
              have hm1 := hS5.cells.2.1
              clear hrel hst hsm hS5 hO5 hV5 hV2 hS2 hO3 he
              go_wp2_with fail
              go_roundw
              case rel => exact ⟨p + z + 1, n + 1, t, c, false, by go_num, rfl, HREL.out⟩
              case measure =>
                show s.size + 1 - (intOf ((w5.cell? ⟨b, 1, none⟩).getD (.int .i64 0))).toNat + 1 < s.size + 1 - (intOf ((wr.cell? ⟨b, 1, none⟩).getD (.int .i64 0))).toNat + 1
                rw [hm0, hm1]; simp [intOf]; omega
            · have hst := HEN.out he
              rw [if_neg Bool.false_ne_true, if_neg Bool.false_ne_true] at hst
              have hrel : HdR H b s w (min (p + z + 1) s.size) (n + 1) t c true w5 :=
                ⟨hV5, hS5, hO3.trans hO5, by omega, fun e => (by cases e), fun _ => ⟨_, hst, rfl⟩, ⟨by omega, by omega, by omega⟩⟩
              have HREL := Lib.hid hrel
              clear hrel hst hsm hS5 hO5 hV5 hV2 hS2 hO3 he
              go_wp2_with fail
              go_roundw
              case rel => exact ⟨_, n + 1, t, c, true, by go_num, rfl, HREL.out⟩
              case measure =>
                show 0 < s.size + 1 - (intOf ((wr.cell? ⟨b, 1, none⟩).getD (.int .i64 0))).toNat + 1
                omega

        · cases Q
          · have tq : (X.toList == [116, 101, 120, 116]) = true := HTQ.out rfl
            go_wp2_with fail
            refine HRF2.out.mono ?_; rintro e w1 ⟨rfl, hS1, hO1⟩
            have hV1 := (HR.out.var.only hO1 (fun e => hBn e.symm)).call (blw (Below.refl _ _) (.cells #[.bool false, .int .i64 A, .string X] 76))
            have hS1 := hS1.call (blw (Below.refl _ _) (.cells #[.bool false, .int .i64 A, .string X] 76))
            have hO2 := (HR.out.only.trans hO1).alloc (.cells #[.bool false, .int .i64 A, .string X] 76)
            have hF1 := fV.new w1 false A X
            have hne : w.heap.size ≠ w1.heap.size := by have := hO1.size; omega
            clear x1 hv0 hv1 hf0 hf1
            obtain ⟨hv0, hv1, hf0, hf1⟩ := hV1.cells
            obtain ⟨y0, y1, y2, _⟩ := hF1.cells
            go_upto_region 4 with fail
            have hV2 := (hV1.set1 n).set0 (n + 1)
            have hS2 := hS1.same (W' := ((w1.alloc (.cells #[.bool false, .int .i64 A, .string X] 76)).setCell ⟨w.heap.size, 1, none⟩ (.int .i64 ((n : Nat) : Int))).setCell ⟨w.heap.size, 0, none⟩ (.int .i64 ((n + 1 : Nat) : Int))) (by rw [Below.heap_setCell _ _ _ _ hBn, Below.heap_setCell _ _ _ _ hBn])
            have hO3 := (hO2.setNew (p := ⟨w.heap.size, 1, none⟩) (Nat.le_refl _) (.int .i64 ((n : Nat) : Int))).setNew (p := ⟨w.heap.size, 0, none⟩) (Nat.le_refl _) (.int .i64 ((n + 1 : Nat) : Int))
            change Code.wp _ _ _ _ (((w1.alloc (.cells #[.bool false, .int .i64 A, .string X] 76)).setCell ⟨w.heap.size, 1, none⟩ (.int .i64 ((n : Nat) : Int))).setCell ⟨w.heap.size, 0, none⟩ (.int .i64 ((n + 1 : Nat) : Int)))
            generalize ((w1.alloc (.cells #[.bool false, .int .i64 A, .string X] 76)).setCell ⟨w.heap.size, 1, none⟩ (.int .i64 ((n : Nat) : Int))).setCell ⟨w.heap.size, 0, none⟩ (.int .i64 ((n + 1 : Nat) : Int)) = W4 at *
            clear hv0 hv1 hf0 hf1 y0 y1 y2 hV1 hS1 hO2 hF1 hO1
            go_wp2_with fail
            refine (HRE2.out _ hS2).mono ?_; rintro e w5 ⟨rfl, hS5, hO5⟩
            have hV5 := hV2.only hO5 (fun e => hBn e.symm)
            have hsm := HR.out.small
            cases he : endsR s (p + z)
            · have hlt2 := endsR_lt he
              have hst := HMO.out he
              simp only [↓reduceIte] at hst
              rw [show min (p + z + 1) s.size = p + z + 1 by omega] at hS5
              have hrel : HdR H b s w (p + z + 1) (n + 1) (t + 1) n false w5 :=
                ⟨hV5, hS5, hO3.trans hO5, by omega, fun _ => ⟨hst, by omega⟩, fun e => (by cases e), ⟨by omega, by omega, by omega⟩⟩
              have HREL := Lib.hid hrel
              have hm1 := hS5.cells.2.1
              clear hrel hst hsm hS5 hO5 hV5 hV2 hS2 hO3 he
              go_wp2_with fail
              go_roundw
              case rel => exact ⟨p + z + 1, n + 1, (t + 1), n, false, by go_num, rfl, HREL.out⟩
              case measure =>
                show s.size + 1 - (intOf ((w5.cell? ⟨b, 1, none⟩).getD (.int .i64 0))).toNat + 1 < s.size + 1 - (intOf ((wr.cell? ⟨b, 1, none⟩).getD (.int .i64 0))).toNat + 1
                rw [hm0, hm1]; simp [intOf]; omega
            · have hst := HEN.out he
              simp only [↓reduceIte] at hst
              have hrel : HdR H b s w (min (p + z + 1) s.size) (n + 1) (t + 1) n true w5 :=
                ⟨hV5, hS5, hO3.trans hO5, by omega, fun e => (by cases e), fun _ => ⟨_, hst, rfl⟩, ⟨by omega, by omega, by omega⟩⟩
              have HREL := Lib.hid hrel
              clear hrel hst hsm hS5 hO5 hV5 hV2 hS2 hO3 he
              go_wp2_with fail
              go_roundw
              case rel => exact ⟨_, n + 1, (t + 1), n, true, by go_num, rfl, HREL.out⟩
              case measure =>
                show 0 < s.size + 1 - (intOf ((wr.cell? ⟨b, 1, none⟩).getD (.int .i64 0))).toNat + 1
                omega
          · exact absurd (HTN.out rfl) (by decide)
end Go.Proofs.YteaciofacmbllaaDoor
