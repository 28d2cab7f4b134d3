/- Parse. -/
import Derived.Test.YtdnofpllmhnacaaPat
namespace Go.Proofs.Ytdnofpllmhnacaa
open Go.ChangeShapes Go.WideShapes Go.ChangeAt Go.RowKit Go.Sort
set_option linter.unusedVariables false
set_option linter.unusedSimpArgs false
set_option maxRecDepth 100000

/-- What Parse has in hand: the reader in the first new block, the pattern. -/
structure PS (s : ByteArray) (w : World) (k : Nat) (P : List At) (v : Value) (W : World) : Prop where
  rd : RD w.heap.size s k W
  own : OwA (w.heap.size + 1) P v W
  bel : Below w.heap.size w W
  big : w.heap.size + 1 ≤ W.heap.size
theorem below_gr {n : Nat} {w a b : World} (h : Below n w a) (hs : n ≤ w.heap.size) (g : Gr [n] a b) (hn : n ≤ a.heap.size) : Below n w b :=
  ⟨g.os.trans h.os, g.tape.trans h.tape, g.output.trans h.output, Nat.le_trans h.size g.size, fun {i} hi => (g.block i (by omega) (by simp; omega)).trans (h.block i hi)⟩
theorem PS.gr {s : ByteArray} {w : World} {k k' : Nat} {P : List At} {v : Value} {W W' : World} (h : PS s w k P v W) (g : Gr [w.heap.size] W W') (r : RD w.heap.size s k' W') : PS s w k' P v W' :=
  ⟨r, h.own.gr g (by simp), below_gr h.bel (Nat.le_refl _) g h.bel.size, Nat.le_trans h.big g.size⟩
theorem PS.below {s : ByteArray} {w : World} {k : Nat} {P : List At} {v : Value} {W W' : World} (h : PS s w k P v W) (g : Below W.heap.size W W') : PS s w k P v W' :=
  ⟨h.rd.call g, h.own.call g, BelowOn h.bel g, Nat.le_trans h.big g.size⟩
theorem PS.alloc {s : ByteArray} {w : World} {k : Nat} {P : List At} {v : Value} {W : World} (h : PS s w k P v W) (o : Obj) : PS s w k P v (W.alloc o) := h.below (blw (Below.refl _ _) o)
/-- A store into a new variable. -/
theorem PS.other {s : ByteArray} {w : World} {k b : Nat} {P : List At} {v : Value} {W W' : World} (h : PS s w k P v W) (g : W.grownBy W' (some b)) (hb : w.heap.size < b) (hv : v.ownBlock ≠ some b) : PS s w k P v W' :=
  ⟨h.rd.keep (Gr.of (l := [b]) g (Or.inl (by simp))) (by simp; omega), World.ownsRow.kept h.own g (Or.inr hv), h.bel.grown g h.bel.size (fun j hj => by injection hj with hj; omega), Nat.le_trans h.big g.size⟩
theorem PS.more {s : ByteArray} {w : World} {k : Nat} {P Q : List At} {v v' : Value} {W W' : World} (h : PS s w k P v W) (g : W.grownBy W' v.ownBlock) (o : OwA (w.heap.size + 1) Q v' W') : PS s w k Q v' W' := by
  have hlt : ∀ b, v.ownBlock = some b → w.heap.size + 1 ≤ b := fun b hb => (World.ownsRow.lt h.own b hb).1
  refine ⟨⟨(g.block _ h.rd.lt (fun e => ?_)).trans h.rd.var, h.rd.le, h.rd.sm⟩, o, h.bel.grown g h.bel.size (fun b hb => by have := hlt b hb; omega), Nat.le_trans h.big g.size⟩
  have := hlt _ e.symm; omega
theorem PS.size {s : ByteArray} {w : World} {k : Nat} {P : List At} {v : Value} {W : World} (h : PS s w k P v W) : w.heap.size < W.heap.size := h.big
/-- A new variable is not the pattern's row. -/
theorem PS.row_lt {s : ByteArray} {w : World} {k : Nat} {P : List At} {v : Value} {W : World} (h : PS s w k P v W) : v.ownBlock ≠ some W.heap.size := fun e => by
  have := (World.ownsRow.lt h.own _ e).2; omega
def PrsEnd (w : World) (r : List At × Nat × Int) (e : Ending) (w' : World) : Prop :=
  ∃ v, e = .returned (.tuple #[v, .int .i64 (r.2.1 : Int), .int .i64 r.2.2]) ∧ OwA w.heap.size r.1 v w' ∧ Below w.heap.size w w'
def PrsRel (s : ByteArray) (w : World) (res : List At × Nat × Int) (v : Value) (wr : World) : Prop :=
  ∃ (k : Nat) (P : List At) (f : Nat), PS s w k P v wr ∧ P.length ≤ 32 ∧ s.size < f + k ∧ prsF s f k P = res
def AV (B : Nat) (y : At) (W : World) : Prop := W.heap[B]? = some (.cells y.cs.toArray 37 (0, 0))
theorem cs_set (S : BSet) (mn : Int) (mny : Bool) : (((At.cs ⟨S, 0, false⟩).toArray.setIfInBounds 32 (.int .i64 mn)).setIfInBounds 33 (.bool mny)) = (At.cs ⟨S, mn, mny⟩).toArray := by
  apply Array.ext'
  simp only [Array.toList_setIfInBounds]
  unfold At.cs
  rw [List.set_append_right _ _ (by rw [setC_length]; omega), setC_length]
  rw [List.set_append_right _ _ (by rw [setC_length]; omega), setC_length]
  rfl
theorem AV.range {B : Nat} {y : At} {W : World} (h : AV B y W) : W.rangeAt B 0 y.cs := fun j v hv => by
  rw [cell_of_row _ _ _ _ _ _ h]; simpa using hv

set_option maxHeartbeats 6400000 in
theorem parse_any (s : ByteArray) (w : World) (hs : s.size ≤ 4000000000) :
    Calls Try.prog 14 #[.string s] w (PrsEnd w (parseF s)) := by
  have hh := heap_alloc_new w (.cells #[.string s, .int .i64 0] 54)
  have h0 : PS s w 0 [] (.slice none 0 0) (w.alloc (.cells #[.string s, .int .i64 0] 54)) :=
    ⟨⟨hh, Nat.zero_le _, hs⟩, OwA.nil _ _, blw (Below.refl _ _) _, by simp⟩
  generalize hres : parseF s = res
  unfold parseF at hres
  have H0 := Lib.hid (And.intro h0 hres); clear h0 hh hres
  go_enter Try.func14, Try.ntmps14
  go_wp2_with fail
  generalize w.alloc (.cells #[.string s, .int .i64 0] 54) = wz at *
  go_loopw [2] (fun v wr => PrsRel s w res v wr) (fun _ wr => s.size + 1 - posOf w.heap.size wr)
  case atStart => exact ⟨_, _, _, H0.out.1, Nat.zero_le _, by omega, H0.out.2⟩
  case round =>
    clear H0
    obtain ⟨k, P, f, hM, hP, hf, hr⟩ := hrel
    have hle := hM.rd.le
    have hsm := hM.rd.sm
    obtain ⟨f, rfl⟩ : ∃ g, f = g + 1 := ⟨f - 1, by omega⟩
    have c1 := hM.rd.c1
    obtain ⟨p, c, hv, hpc, hcm, hats, hpb⟩ := hM.own.ats
    subst hv
    unfold maxLen at hcm
    have HM := Lib.hid hM; clear hM hats hpb
    rw [prsF] at hr
    by_cases hlt : k < s.size
    · rw [if_neg (by omega)] at hr
      have q0 : decide (k < s.size) = true := decide_eq_true hlt
      by_cases h32 : P.length = 32
      · rw [if_pos h32] at hr
        have q1 : ((P.length : Int) == 32) = true := by rw [h32]; rfl
        subst hr
        clear h32
        go_wp2_with fail
        go_quiet (fail)
        go_wp2_with fail
        go_ret3
        exact ⟨_, rfl, OwA.nil _ _, bdrN HM.out.bel _⟩
      · rw [if_neg h32] at hr
        have q1 : ((P.length : Int) == 32) = false := by simp; omega
        have hP2 : P.length ≤ 31 := by omega
        have hst := fun W h => rdset_any w.heap.size s k W h
        cases hS : stF s k with
        | mk o m =>
          rw [hS] at hst hr
          have hstle := st_le hlt
          rw [hS] at hstle
          obtain ⟨hm1, hm2⟩ := hstle
          clear hS h32
          have HST := Lib.hid hst; clear hst
          cases o with
          | none =>
            dsimp only at hr hm1 hm2
            clear hm2
            subst hr
            go_wp2_with fail
            refine (HST.out _ HM.out.rd).mono ?_; rintro e w1 ⟨rfl, g1, r1⟩
            have m1 := HM.out.gr g1 r1
            have m2 := m1.alloc (.cells (List.replicate 32 (Value.int .u8 0)).toArray 55)
            have k2 := SAtT.new 55 w1
            have hz1 := m1.size
            have hrl := m1.row_lt
            have H2 := Lib.hid (And.intro m2 (And.intro k2 hrl)); clear m1 m2 k2 g1 r1 HM HST hrl
            simp only [Option.getD_none, Option.isSome_none]
            clear c1
            go_upto_region 6 with (refine wpl_storeSet (by rfl) 55 (Or.inl rfl) _ _ (by rfl) w1.heap.size emptyS emptyS (by rfl) (by rfl) H2.out.2.1 ?_; intro w2 h2 g2)
            have m3 := H2.out.1.other g2 hz1 H2.out.2.2
            have c1 := m3.rd.c1
            have H3 := Lib.hid m3; clear m3 H2 h2 g2
            go_wp2_with fail
            go_quiet (fail)
            go_wp2_with fail
            go_ret3
            exact ⟨_, rfl, OwA.nil _ _, bdrN H3.out.bel _⟩
          | some S =>
            dsimp only at hr hm1 hm2
            have hm2 := hm2 rfl
            have hq := qu_le hm1
            have hqc := fun W h => quant_any w.heap.size s m W h
            generalize quF s m = q at *
            obtain ⟨mn, mny, m'⟩ := q
            dsimp only at hq hqc hr
            obtain ⟨hq1, hq2⟩ := hq
            have HQ := Lib.hid hqc; have HR := Lib.hid hr; clear hqc hr
            go_wp2_with fail
            refine (HST.out _ HM.out.rd).mono ?_; rintro e w1 ⟨rfl, g1, r1⟩
            have m1 := HM.out.gr g1 r1
            have m2 := m1.alloc (.cells (List.replicate 32 (Value.int .u8 0)).toArray 55)
            have k2 := SAtT.new 55 w1
            have hz1 := m1.size
            have hrl := m1.row_lt
            have H2 := Lib.hid (And.intro m2 (And.intro k2 hrl)); clear m1 m2 k2 g1 r1 HST hrl
            simp only [Option.getD_some, Option.isSome_some]
            clear c1
            go_upto_region 6 with (refine wpl_storeSet (by rfl) 55 (Or.inl rfl) _ _ (by rfl) w1.heap.size emptyS S (by rfl) (by rfl) H2.out.2.1 ?_; intro w2 h2 g2)
            have m3 := H2.out.1.other g2 hz1 H2.out.2.2
            have m4 := m3.alloc (.cells (At.cs ⟨S, 0, false⟩).toArray 37)
            have hz2 := m3.size
            have hrl := m3.row_lt
            have a4 : AV w2.heap.size ⟨S, 0, false⟩ (w2.alloc (.cells (At.cs ⟨S, 0, false⟩).toArray 37)) := heap_alloc_new w2 _
            have H3 := Lib.hid h2
            have H4 := Lib.hid (And.intro m4 (And.intro a4 hrl)); clear m3 H2 h2 g2 m4 a4 hrl
            go_upto_region 8 with fail
            go_upto_region 9 with (first | (refine wpl_loadSet (by rfl) 55 (Or.inl rfl) _ (by rfl) w1.heap.size S (by rfl) H3.out ?_) | (refine wpl_buildAt (by rfl) _ (by rfl) S (by rfl) ?_) | (refine wpl_storeAt (by rfl) _ _ (by rfl) w2 _ (by rfl) (by rfl) (by rfl) ⟨S, 0, false⟩ (by rfl) ?_))
            go_wp2_with fail
            refine (HQ.out _ H4.out.1.rd).mono ?_; rintro e w3 ⟨rfl, g3, r3⟩
            have m5 := H4.out.1.gr (Gr.of (l := [w.heap.size]) g3 (Or.inl (by simp))) r3
            have hB3 : w2.heap.size < w3.heap.size := by have := g3.size; simp at this; omega
            have a5 : AV w2.heap.size ⟨S, 0, false⟩ w3 := (g3.block _ (by simp) (fun e => by injection e with e; omega)).trans H4.out.2.1
            have x0 : w3.cell? ⟨w2.heap.size, 32, none⟩ = some (.int .i64 0) := rangeMin (o := 0) a5.range
            have f0 : w3.frozen? ⟨w2.heap.size, 32, none⟩ = false := Lib.frozen_of_heap a5 32
            have a6 := setCell_at w3 w2.heap.size 32 _ 37 (.int .i64 mn) a5
            have f1 : (w3.setCell ⟨w2.heap.size, 32, none⟩ (.int .i64 mn)).frozen? ⟨w2.heap.size, 33, none⟩ = false := Lib.frozen_of_heap a6 33
            have x1 : (w3.setCell ⟨w2.heap.size, 32, none⟩ (.int .i64 mn)).cell? ⟨w2.heap.size, 33, none⟩ = some (.bool false) := by
              rw [cell_of_row _ _ _ _ _ _ a6, Array.getElem?_setIfInBounds_ne (by omega)]
              have := rangeMany (o := 0) a5.range
              rw [cell_of_row _ _ _ _ _ _ a5] at this
              simpa using this
            have a7 := setCell_at _ w2.heap.size 33 _ 37 (.bool mny) a6
            rw [cs_set] at a7
            have g7 := grow_then (grow_cell w3 w2.heap.size 32 (.int .i64 mn)) (grow_cell (w3.setCell ⟨w2.heap.size, 32, none⟩ (.int .i64 mn)) w2.heap.size 33 (.bool mny))
            have m7 := m5.other g7 hz2 H4.out.2.2
            have hz7 : ((w3.setCell ⟨w2.heap.size, 32, none⟩ (.int .i64 mn)).setCell ⟨w2.heap.size, 33, none⟩ (.bool mny)).heap.size = w3.heap.size := by simp
            have H7 := Lib.hid (And.intro m7 (show AV w2.heap.size ⟨S, mn, mny⟩ _ from a7)); clear m7 a7 g7 a6 a5 m5 H4 g3 r3 HQ
            go_upto_region 10 with fail
            clear x0 x1 f0 f1
            generalize (w3.setCell ⟨w2.heap.size, 32, none⟩ (.int .i64 mn)).setCell ⟨w2.heap.size, 33, none⟩ (.bool mny) = w7 at *
            obtain ⟨d, hu, hd⟩ := und37
            have hin : (Try.prog.info? 37).map (·.size) = some (At.cs ⟨S, mn, mny⟩).length := by rw [At.cs_length]; exact size37
            have hc8 := heap_alloc_new w7 (.cells (At.cs ⟨S, mn, mny⟩).toArray 37)
            have H8 := Lib.hid (And.intro (H7.out.1.alloc (.cells (At.cs ⟨S, mn, mny⟩).toArray 37)) hc8); clear hc8
            have hb8 : w.heap.size + 1 ≤ (w7.alloc (.cells (At.cs ⟨S, mn, mny⟩).toArray 37)).heap.size := H8.out.1.big
            clear hz7
            go_wp2_with (first | (refine wpList_load_mid (by rfl) 37 _ (by rfl) w2.heap.size 0 (by rfl) (At.cs ⟨S, mn, mny⟩) d H7.out.2.range hu hd hin ?_) | (refine wpl_sliceAt (by rfl) _ (by rfl) ⟨S, mn, mny⟩ (by rfl) w7.heap.size (by rfl) ?_) | (refine wpl_appendAt _ (by rfl) _ _ (by rfl) (w.heap.size + 1) P _ (by rfl) H8.out.1.own hb8 ⟨S, mn, mny⟩ w7.heap.size (by rfl) H8.out.2 (by omega) ?_; intro v9 w9 o9 g9))
            have m9 := H8.out.1.more g9 o9
            have H9 := Lib.hid m9; clear m9 o9 g9
            go_roundw
            case rel => exact ⟨m', _, f, H9.out, by simp; omega, by omega, HR.out⟩
            case measure => rw [H9.out.rd.pos, HM.out.rd.pos]; omega
    · rw [if_pos (by omega)] at hr
      have q0 : decide (k < s.size) = false := decide_eq_false hlt
      subst hr
      go_wp2_with fail
      go_ret3
      exact ⟨_, rfl, HM.out.own.mono (by omega), HM.out.bel⟩
end Go.Proofs.Ytdnofpllmhnacaa
