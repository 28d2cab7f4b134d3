/- The scanner of markup: where it lies; contracts of its small methods. Contracts of names of tags, of comments and of tags. Contracts of placeholders, tags inside, references and elements. Contracts of references and of elements. -/
import Derived.Test.YtphkpokoeaagfaaGreatDoorKtA
import Derived.Test.YtphkpokoeaagfaaGreatDoorShelf0
import Derived.Test.YtphkpokoeaagfaaGreatDoorName
import Derived.Test.YtphkpokoeaagfaaGreatDoorCon
import Derived.Test.YtphkpokoeaagfaaGreatDoorRnr
import Derived.Test.YtphkpokoeaagfaaGreatDoorFrg
import Derived.Deep.QuietTactic
import Derived.BigQuiet
import Derived.Lib.QuietBelow
import Derived.Lib.IndexMore
import Derived.HandedShaped
import Derived.Deep.RegionLaw
import Derived.Handy
namespace Go.Proofs.YtphkpokoeaagfaaGreatDoor
open Go.ChangeShapes Go.WideShapes Go.ChangeAt Go.RowKit
set_option linter.unusedVariables false
set_option linter.unusedSimpArgs false
set_option maxRecDepth 100000

/-- A scanner in block b: of s, at p. -/
def Scn (W : World) (b : Nat) (s : ByteArray) (p : Nat) : Prop := W.heap[b]? = some (.cells #[.string s, .int .i64 p] 88 (0, 0))
theorem Scn.new (W : World) (s : ByteArray) (p : Nat) : Scn (W.alloc (.cells #[.string s, .int .i64 p] 88)) W.heap.size s p := heap_alloc_new W _
section
variable {W W' : World} {b p : Nat} {s : ByteArray}
theorem Scn.lt (h : Scn W b s p) : b < W.heap.size := (Array.getElem?_eq_some_iff.1 h).1
theorem Scn.same (h : Scn W b s p) (hb : W'.heap[b]? = W.heap[b]?) : Scn W' b s p := hb.trans h
theorem Scn.call (h : Scn W b s p) (hb : Below W.heap.size W W') : Scn W' b s p := h.same (hb.block b h.lt)
theorem Scn.only {S : Nat → Prop} (h : Scn W b s p) (hb : Only S W W') (hn : ¬ S b) : Scn W' b s p := h.same (hb.block b h.lt hn)
theorem Scn.cells (h : Scn W b s p) : W.cell? ⟨b, 0, none⟩ = some (.string s) ∧ W.cell? ⟨b, 1, none⟩ = some (.int .i64 p) ∧ W.frozen? ⟨b, 1, none⟩ = false :=
  ⟨by rw [Lib.cell_of_heap h]; rfl, by rw [Lib.cell_of_heap h]; rfl, Lib.frozen_of_heap h 1⟩
theorem Scn.set (h : Scn W b s p) (q : Nat) : Scn (W.setCell ⟨b, 1, none⟩ (.int .i64 q)) b s q := setCell_heap W b 1 _ _ _ h
theorem Scn.drew (h : Scn W b s p) : Scn W.drew b s p := h
theorem Scn.only3 (h : Scn W b s p) {B : Nat} (hn : b ≠ B) (x y z : Value) : Scn (((W.setCell ⟨B, 0, none⟩ x).setCell ⟨B, 1, none⟩ y).setCell ⟨B, 2, none⟩ z) b s p :=
  h.same (by rw [Below.heap_setCell _ _ _ _ hn, Below.heap_setCell _ _ _ _ hn, Below.heap_setCell _ _ _ _ hn])
end
/-- The library's variable holds some number. -/
def Mx (W : World) : Prop := ∃ m, W.cell? ⟨1, 0, none⟩ = some (.int .i64 m)
theorem cell_blkM {W W' : World} {a : Addr} (h : W'.heap[a.block]? = W.heap[a.block]?) : W'.cell? a = W.cell? a := by unfold World.cell?; rw [h]
theorem Mx.lt {W : World} (h : Mx W) : 1 < W.heap.size := by obtain ⟨m, hm⟩ := h; exact World.block_lt_of_cell? W _ hm
theorem Mx.same {W W' : World} (h : Mx W) (hb : W'.heap[1]? = W.heap[1]?) : Mx W' := by
  obtain ⟨m, hm⟩ := h; exact ⟨m, (cell_blkM (a := ⟨1, 0, none⟩) hb).trans hm⟩
theorem Mx.call {W W' : World} (h : Mx W) (hb : Below W.heap.size W W') : Mx W' := h.same (hb.block _ h.lt)
theorem Mx.only {S : Nat → Prop} {W W' : World} (h : Mx W) (hb : Only S W W') (hn : ¬ S 1) : Mx W' := h.same (hb.block _ h.lt hn)
theorem Mx.drew {W : World} (h : Mx W) : Mx W.drew := h
theorem Only.setNew {S : Nat → Prop} {a b : World} (h : Only S a b) {p : Addr} (hp : a.heap.size ≤ p.block) (v : Value) : Only S a (b.setCell p v) :=
  ⟨h.os, h.tape, h.output, by simpa [World.setCell] using h.size, fun i hi hs => by rw [Below.heap_setCell _ _ _ _ (by omega)]; exact h.block i hi hs⟩
theorem Only.drew {S : Nat → Prop} {a b : World} (h : Only S a b) : Only S a b.drew := ⟨h.os, h.tape, h.output, h.size, h.block⟩
theorem Only.next {S S' : Nat → Prop} {a b c : World} (h : Only S a b) (k : Only S' b c) (hs : ∀ i, i < a.heap.size → S' i → S i) : Only S a c :=
  ⟨k.os.trans h.os, k.tape.trans h.tape, k.output.trans h.output, Nat.le_trans h.size k.size, fun i hi hS => (k.block i (Nat.lt_of_lt_of_le hi h.size) (fun hS' => hS (hs i hi hS'))).trans (h.block i hi hS)⟩
theorem below_qN (w : World) (n : Nat) : Below w.heap.size w (w.drewN n) := ⟨rfl, rfl, rfl, Nat.le_refl _, fun _ _ => rfl⟩
/-- What a call does that moves the scanner alone. -/
abbrev OnB (b : Nat) := Only (fun i => i = b)
theorem extract_drop (s : ByteArray) (n : Nat) : s.extract n s.size = bsL (s.data.toList.drop n) := by
  apply ByteArray.ext; unfold bsL; rw [ByteArray.data_extract]; apply Array.ext'; simp [List.take_of_length_le]
theorem ext_dropL (s : ByteArray) (p : Nat) : (s.extract p s.size).data.toList = s.data.toList.drop p := by rw [extract_drop, bsL_list]
theorem drop_get (s : ByteArray) (p : Nat) (h : p < s.size) : s.data.toList.drop p = s[p] :: s.data.toList.drop (p + 1) := by
  have hl : p < s.data.toList.length := by simpa using h
  rw [List.drop_eq_getElem_cons hl]
  congr 1
theorem ll_size (s : ByteArray) : s.data.toList.length = s.size := by simp

theorem more_any (b p : Nat) (s : ByteArray) (w : World) (h : Scn w b s p) (hs : s.size ≤ 1000000000000) (hp : p ≤ 1000000000000) :
    Calls Tryz.prog 54 #[.pointer (some ⟨b, 0, none⟩)] w fun e w' => e = .returned (.bool (decide (p < s.size))) ∧ Below w.heap.size w w' := by
  obtain ⟨h0, h1, h2⟩ := h.cells
  go_enter Tryz.func54, Tryz.ntmps54
  go_wp2_with fail
  go_quiet (fail)
  all_goals go_wp2_with fail
  all_goals go_ret
  all_goals exact ⟨rfl, below_qN _ _⟩
def hasP (l p : List UInt8) : Bool := Lib.hasPrefix l p
/-- skip: reads the bytes, if they are the next ones. -/
def EndSk (ok : Bool) (q b : Nat) (s : ByteArray) (w : World) (e : Ending) (w' : World) : Prop := e = .returned (.bool ok) ∧ Scn w' b s q ∧ OnB b w w'
set_option maxHeartbeats 800000 in
theorem skip_any (b p : Nat) (s x : ByteArray) (w : World) (h : Scn w b s p) (hs : s.size ≤ 1000000000) (hp : p ≤ s.size) (hx : x.size ≤ 100000) :
    Calls Tryz.prog 48 #[.pointer (some ⟨b, 0, none⟩), .string x] w (EndSk (hasP (s.data.toList.drop p) x.data.toList) (if hasP (s.data.toList.drop p) x.data.toList = true then p + x.size else p) b s w) := by
  obtain ⟨h0, h1, h2⟩ := h.cells
  have hp' : (p : Int) ≤ (s.size : Int) := by omega
  have hp0 : (0 : Int) ≤ (p : Int) := by omega
  have hsm : (s.size : Int) ≤ 1000000000 := by omega
  have hxm : (x.size : Int) ≤ 100000 := by omega
  have hi := fun W => Tryz.strings_HasPrefix (s.extract p s.size) x W
  rw [ext_dropL] at hi
  unfold EndSk hasP
  cases hb : Lib.hasPrefix (s.data.toList.drop p) x.data.toList
  · rw [if_neg (by simp)]
    rw [hb] at hi
    have HI := Lib.hid hi; clear hi hb
    go_enter Tryz.func48, Tryz.ntmps48
    go_wp2_with fail
    go_quiet (exact Calls.quiet_of_same (HI.out _))
    all_goals go_wp2_with fail
    all_goals go_ret
    all_goals exact ⟨rfl, h.call (below_qN _ _), Only.of_below (below_qN _ _)⟩
  · rw [if_pos rfl]
    rw [hb] at hi
    have HI := Lib.hid hi; clear hi hb
    go_enter Tryz.func48, Tryz.ntmps48
    go_wp2_with fail
    go_quiet (exact Calls.quiet_of_same (HI.out _))
    all_goals go_wp2_with fail
    all_goals go_ret
    all_goals exact ⟨rfl, (h.call (below_qN w _)).set (p + x.size), (Only.of_below (below_qN w _)).setCell _ _ rfl⟩
theorem upto_lenD (c : UInt8) (l : List UInt8) : (upto c l).length ≤ l.length := (List.takeWhile_prefix (p := (· != c)) (l := l)).length_le
theorem indexByte_uptoM (c : UInt8) (l : List UInt8) : Lib.indexByte l c = if hasU c l = true then ((upto c l).length : Int) else -1 := by
  induction l with
  | nil => rfl
  | cons x t ih =>
    rw [Lib.indexByte]
    by_cases hx : x = c
    · subst hx; simp [hasU, upto]
    · have h1 : (x == c) = false := by simpa using hx
      have h2 : (x != c) = true := by simpa using hx
      have e1 : upto c (x :: t) = x :: upto c t := by unfold upto; rw [List.takeWhile_cons, h2, if_pos rfl]
      have e2 : hasU c (x :: t) = hasU c t := by unfold hasU; rw [e1]; simp
      rw [h1, ih, e1, e2]
      cases hh : hasU c t <;> simp
set_option maxHeartbeats 800000 in
theorem skipto_any (b p : Nat) (s : ByteArray) (c : UInt8) (w : World) (h : Scn w b s p) (hs : s.size ≤ 1000000000) (hp : p ≤ s.size) :
    Calls Tryz.prog 77 #[.pointer (some ⟨b, 0, none⟩), .int .u8 (c.toNat : Int)] w fun e w' => e = .returned (.tuple #[]) ∧ Scn w' b s (p + (upto c (s.data.toList.drop p)).length) ∧ OnB b w w' := by
  obtain ⟨h0, h1, h2⟩ := h.cells
  have hp' : (p : Int) ≤ (s.size : Int) := by omega
  have hp0 : (0 : Int) ≤ (p : Int) := by omega
  have hsm : (s.size : Int) ≤ 1000000000 := by omega
  have hi := fun W => Tryz.strings_IndexByte (s.extract p s.size) (c.toNat : Int) W
  rw [ext_dropL, show ((c.toNat : Int)).toNat.toUInt8 = c by simp, indexByte_uptoM] at hi
  have hul := upto_lenD c (s.data.toList.drop p)
  rw [List.length_drop, ll_size] at hul
  cases hb : hasU c (s.data.toList.drop p)
  · rw [hb, if_neg (by simp)] at hi
    have hall := (upto_none c _ hb).1
    have hlen := congrArg List.length hall
    rw [List.length_drop, ll_size] at hlen
    have HQ := Lib.hid (show p + (upto c (s.data.toList.drop p)).length = s.size by omega)
    have HI := Lib.hid hi; clear hi hb hall hlen hul
    rw [HQ.out]
    go_enter Tryz.func77, Tryz.ntmps77
    go_wp2_with fail
    go_quiet (exact Calls.quiet_of_same (HI.out _))
    all_goals go_wp2_with fail
    all_goals go_end0
    all_goals exact ⟨rfl, (h.call (below_qN w _)).set s.size, (Only.of_below (below_qN w _)).setCell _ _ rfl⟩
  · rw [hb, if_pos rfl] at hi
    generalize (upto c (s.data.toList.drop p)).length = n at *
    have hn : (n : Int) ≤ 1000000000 := by omega
    have HI := Lib.hid hi; clear hi hb hul
    go_enter Tryz.func77, Tryz.ntmps77
    go_wp2_with fail
    go_quiet (exact Calls.quiet_of_same (HI.out _))
    all_goals go_wp2_with fail
    all_goals go_end0
    all_goals exact ⟨rfl, (h.call (below_qN w _)).set (p + n), (Only.of_below (below_qN w _)).setCell _ _ rfl⟩
/-- The bytes between, and no more than the next right. -/
def btw (r left right : List UInt8) : Option (List UInt8) :=
  if Lib.hasPrefix r left = true ∧ 0 ≤ Lib.index (r.drop left.length) right then some ((r.drop left.length).take (Lib.index (r.drop left.length) right).toNat) else none
def EndBt (o : Option (List UInt8)) (n b p : Nat) (s : ByteArray) (w : World) (e : Ending) (w' : World) : Prop :=
  match o with
  | some u => e = .returned (.tuple #[.string (bsL u), .bool true]) ∧ Scn w' b s (p + u.length + n) ∧ OnB b w w'
  | none => e = .returned (.tuple #[.string ⟨#[]⟩, .bool false]) ∧ Scn w' b s p ∧ OnB b w w'
set_option maxHeartbeats 1600000 in
theorem between_any (b p : Nat) (s l r : ByteArray) (w : World) (h : Scn w b s p) (hM : Mx w) (hs : s.size ≤ 1000000000) (hp : p ≤ s.size) (hl : l.size ≤ 100000) (hr : r.size ≤ 100000) :
    Calls Tryz.prog 110 #[.pointer (some ⟨b, 0, none⟩), .string l, .string r] w (EndBt (btw (s.data.toList.drop p) l.data.toList r.data.toList) (l.size + r.size) b p s w) := by
  obtain ⟨h0, h1, h2⟩ := h.cells
  have hp' : (p : Int) ≤ (s.size : Int) := by omega
  have hp0 : (0 : Int) ≤ (p : Int) := by omega
  have hsm : (s.size : Int) ≤ 1000000000 := by omega
  have hlm : (l.size : Int) ≤ 100000 := by omega
  have hrm : (r.size : Int) ≤ 100000 := by omega
  have hi := fun W => Tryz.strings_CutPrefix (s.extract p s.size) l W
  rw [ext_dropL] at hi
  unfold Lib.trimPrefix at hi
  have hll := ll_size l
  unfold btw EndBt
  cases hb : Lib.hasPrefix (s.data.toList.drop p) l.data.toList
  · rw [if_neg (by simp)]
    rw [hb, if_neg (by simp)] at hi
    have HI := Lib.hid hi; clear hi hb hll
    go_enter Tryz.func110, Tryz.ntmps110
    go_wp2_with fail
    go_quiet (exact Calls.quiet_of_same (HI.out _))
    all_goals go_wp2_with fail
    all_goals go_ret2
    all_goals exact ⟨rfl, h.call (below_qN _ _), Only.of_below (below_qN _ _)⟩
  · rw [hb, if_pos rfl] at hi
    have HI := Lib.hid hi
    have hdl : ((s.data.toList.drop p).drop l.data.toList.length).length ≤ s.size := by rw [List.length_drop, List.length_drop, ll_size]; omega
    have hroom := Lib.index_room ((s.data.toList.drop p).drop l.data.toList.length) r.data.toList
    rw [ll_size r] at hroom
    generalize hR : (s.data.toList.drop p).drop l.data.toList.length = R at *
    have hlR : l.size + R.length + p ≤ s.size := by
      have hpre : l.data.toList.length ≤ (s.data.toList.drop p).length := by
        unfold Lib.hasPrefix at hb; rw [List.isPrefixOf_iff_prefix] at hb; exact hb.length_le
      have := congrArg List.length hR
      rw [List.length_drop] at this
      rw [List.length_drop, ll_size s] at hpre this
      omega
    have hc := fun W m (hm : W.cell? ⟨1, 0, none⟩ = some (.int .i64 m)) => Tryz.strings_Cut (bsL R) r m W (by rw [bsL_size]; omega) hm
    rw [bsL_list] at hc
    unfold Lib.cut at hc
    by_cases hx : 0 ≤ Lib.index R r.data.toList
    · rw [if_pos ⟨rfl, hx⟩]
      rw [if_pos hx] at hc
      have hle := hroom hx
      obtain ⟨n, hn⟩ := Int.eq_ofNat_of_zero_le hx
      rw [hn] at hc hle ⊢
      have e1 : ((n : Nat) : Int).toNat = n := rfl
      rw [e1] at hc ⊢
      have hul : (R.take n).length = n := by rw [List.length_take]; omega
      have hus : (bsL (R.take n)).size = n := by rw [bsL_size, hul]
      dsimp only
      rw [hul]
      generalize hU : bsL (R.take n) = U at *
      have HC := Lib.hid hc
      have hn9 : (n : Int) ≤ 1000000000 := by omega
      have HQ := Lib.hid (show (p : Int) + ((l.size : Int) + (U.size : Int) + (r.size : Int)) = ((p + n + (l.size + r.size) : Nat) : Int) by omega)
      have HU := Lib.hid (show (⟨(R.take n).toArray⟩ : ByteArray) = U from hU)
      have HI2 : Hid (∀ W, Calls Tryz.prog 111 #[.string (s.extract p s.size), .string l] W fun e w' => e = .returned (.tuple #[.string (bsL R), .bool true]) ∧ w' = W) := HI
      have hus9 : (U.size : Int) ≤ 1000000000 := by omega
      clear hi hb hll HI hdl hroom hR hlR hc hx hle hn hul hU hus
      go_enter Tryz.func110, Tryz.ntmps110
      go_wp2_with fail
      go_quiet (exact Calls.quiet_of_same (HI2.out _))
      all_goals
        (obtain ⟨m, hm⟩ := hM.call (below_qN w _)
         go_wp2_with fail
         refine (HC.out _ m hm).mono ?_
         rintro e w3 ⟨rfl, nn, rfl⟩
         rw [HU.out]
         go_wp2_with fail
         rw [HQ.out]
         go_ret2
         exact ⟨rfl, (h.call (below_qN w _)).set (p + n + (l.size + r.size)), (Only.of_below (below_qN w _)).setCell _ _ rfl⟩)
    · rw [if_neg (fun c => hx c.2)]
      rw [if_neg hx] at hc
      have HC := Lib.hid hc
      have HI2 : Hid (∀ W, Calls Tryz.prog 111 #[.string (s.extract p s.size), .string l] W fun e w' => e = .returned (.tuple #[.string (bsL R), .bool true]) ∧ w' = W) := HI
      clear hi hb hll HI hdl hroom hR hlR hc hx
      go_enter Tryz.func110, Tryz.ntmps110
      go_wp2_with fail
      go_quiet (exact Calls.quiet_of_same (HI2.out _))
      all_goals
        (obtain ⟨m, hm⟩ := hM.call (below_qN w _)
         go_wp2_with fail
         refine (HC.out _ m hm).mono ?_
         rintro e w3 ⟨rfl, nn, rfl⟩
         go_wp2_with fail
         go_ret2
         exact ⟨rfl, h.call (below_qN w _), Only.of_below (below_qN w _)⟩)
end Go.Proofs.YtphkpokoeaagfaaGreatDoor
namespace Go.Proofs.YtphkpokoeaagfaaGreatDoor
open Go.ChangeShapes Go.WideShapes Go.ChangeAt Go.RowKit
set_option linter.unusedVariables false
set_option linter.unusedSimpArgs false
set_option maxRecDepth 100000

theorem tagname_any (k : Int) (t : ByteArray) (id : Int) (w : World) (hs : t.size ≤ maxLen) :
    Calls Tryz.prog 72 #[.agg #[.int .i64 k, .string t, .int .i64 id]] w fun e w' => e = .returned (.string (nameB t)) ∧ Below w.heap.size w w' := by
  have h := fun w => cut_any t w hs
  generalize nameB t = a at *
  generalize restB t = b at *
  generalize decide (cutN t < t.size) = c at *
  have HH := Lib.hid h; clear h
  go_enter Tryz.func72, Tryz.ntmps72
  go_wp2_with fail
  refine (HH.out _).mono ?_; rintro e w1 ⟨rfl, hb⟩
  go_wp2_with fail
  go_ret
  exact ⟨rfl, BelowOn (blw (Below.refl _ _) _) hb⟩
theorem nameB_le (t : ByteArray) : (nameB t).size ≤ t.size := by rw [nameB_size]; exact cutN_le t
theorem lst_ne {a : ByteArray} (l : List UInt8) (h : a ≠ bsL l) : (a.toList == l) = false := by
  rw [beq_eq_false_iff_ne]
  intro e
  exact h (by rw [← e, Go.ByteArray.toList_eq a, bsL_of])
theorem hasblock_any (k : Int) (t : ByteArray) (id : Int) (w : World) (hs : t.size ≤ maxLen) :
    Calls Tryz.prog 38 #[.agg #[.int .i64 k, .string t, .int .i64 id]] w fun e w' => e = .returned (.bool (blkN (nameB t))) ∧ Below w.heap.size w w' := by
  have h := fun W => tagname_any k t id W hs
  generalize nameB t = a at *
  have HH := Lib.hid h; clear h
  by_cases n0 : a = ⟨#[112]⟩
  · have HB := Lib.hid (show blkN a = true from decide_eq_true (by simp [n0]))
    subst n0
    go_enter Tryz.func38, Tryz.ntmps38
    go_wp2_with fail
    refine (HH.out _).mono ?_; rintro e w1 ⟨rfl, hb⟩
    go_wp2_with fail
    go_ret
    exact ⟨ret_bool (by rw [HB.out]), BelowOn (blw (Below.refl _ _) _) hb⟩
  · by_cases n1 : a = ⟨#[104]⟩
    · have HB := Lib.hid (show blkN a = true from decide_eq_true (by simp [n1]))
      have s0 := lst_ne [112] n0
      clear n0
      subst n1
      go_enter Tryz.func38, Tryz.ntmps38
      go_wp2_with fail
      refine (HH.out _).mono ?_; rintro e w1 ⟨rfl, hb⟩
      go_wp2_with fail
      go_ret
      exact ⟨ret_bool (by rw [HB.out]), BelowOn (blw (Below.refl _ _) _) hb⟩
    · by_cases n2 : a = ⟨#[108, 105]⟩
      · have HB := Lib.hid (show blkN a = true from decide_eq_true (by simp [n2]))
        have s0 := lst_ne [112] n0
        have s1 := lst_ne [104] n1
        clear n0 n1
        subst n2
        go_enter Tryz.func38, Tryz.ntmps38
        go_wp2_with fail
        refine (HH.out _).mono ?_; rintro e w1 ⟨rfl, hb⟩
        go_wp2_with fail
        go_ret
        exact ⟨ret_bool (by rw [HB.out]), BelowOn (blw (Below.refl _ _) _) hb⟩
      · by_cases n3 : a = ⟨#[116, 100]⟩
        · have HB := Lib.hid (show blkN a = true from decide_eq_true (by simp [n3]))
          have s0 := lst_ne [112] n0
          have s1 := lst_ne [104] n1
          have s2 := lst_ne [108, 105] n2
          clear n0 n1 n2
          subst n3
          go_enter Tryz.func38, Tryz.ntmps38
          go_wp2_with fail
          refine (HH.out _).mono ?_; rintro e w1 ⟨rfl, hb⟩
          go_wp2_with fail
          go_ret
          exact ⟨ret_bool (by rw [HB.out]), BelowOn (blw (Below.refl _ _) _) hb⟩
        · by_cases n4 : a = ⟨#[116, 105, 116, 108, 101]⟩
          · have HB := Lib.hid (show blkN a = true from decide_eq_true (by simp [n4]))
            have s0 := lst_ne [112] n0
            have s1 := lst_ne [104] n1
            have s2 := lst_ne [108, 105] n2
            have s3 := lst_ne [116, 100] n3
            clear n0 n1 n2 n3
            subst n4
            go_enter Tryz.func38, Tryz.ntmps38
            go_wp2_with fail
            refine (HH.out _).mono ?_; rintro e w1 ⟨rfl, hb⟩
            go_wp2_with fail
            go_ret
            exact ⟨ret_bool (by rw [HB.out]), BelowOn (blw (Below.refl _ _) _) hb⟩
          · have HB := Lib.hid (show blkN a = false from decide_eq_false (by rintro (h | h | h | h | h); exact n0 h; exact n1 h; exact n2 h; exact n3 h; exact n4 h))
            have s0 := lst_ne [112] n0
            have s1 := lst_ne [104] n1
            have s2 := lst_ne [108, 105] n2
            have s3 := lst_ne [116, 100] n3
            have s4 := lst_ne [116, 105, 116, 108, 101] n4
            clear n0 n1 n2 n3 n4
            go_enter Tryz.func38, Tryz.ntmps38
            go_wp2_with fail
            refine (HH.out _).mono ?_; rintro e w1 ⟨rfl, hb⟩
            go_wp2_with fail
            go_ret
            exact ⟨ret_bool (by rw [HB.out]), BelowOn (blw (Below.refl _ _) _) hb⟩

/-- The length of a comment at the beginning, if there is one. -/
def comM (r : List UInt8) : Option Nat := match btw r [60, 33, 45, 45] [45, 45, 62] with | some u => some (u.length + 7) | none => none
def EndCm (o : Option Nat) (b p : Nat) (s : ByteArray) (w : World) (e : Ending) (w' : World) : Prop := match o with
  | some n => e = .returned (.bool true) ∧ Scn w' b s (p + n) ∧ OnB b w w'
  | none => e = .returned (.bool false) ∧ Scn w' b s p ∧ OnB b w w'
theorem comment_any (b p : Nat) (s : ByteArray) (w : World) (h : Scn w b s p) (hM : Mx w) (hs : s.size ≤ 1000000000) (hp : p ≤ s.size) :
    Calls Tryz.prog 78 #[.pointer (some ⟨b, 0, none⟩)] w (EndCm (comM (s.data.toList.drop p)) b p s w) := by
  have hb : Calls Tryz.prog 110 #[.pointer (some ⟨b, 0, none⟩), .string ⟨#[60, 33, 45, 45]⟩, .string ⟨#[45, 45, 62]⟩] w (EndBt (btw (s.data.toList.drop p) [60, 33, 45, 45] [45, 45, 62]) 7 b p s w) := between_any b p s ⟨#[60, 33, 45, 45]⟩ ⟨#[45, 45, 62]⟩ w h hM hs hp (by decide) (by decide)
  unfold comM EndCm
  cases he : btw (s.data.toList.drop p) [60, 33, 45, 45] [45, 45, 62] with
  | none =>
    rw [he] at hb
    have HB := Lib.hid hb; clear hb he
    go_enter Tryz.func78, Tryz.ntmps78
    go_wp2_with fail
    refine (HB.out).mono ?_; rintro e w1 ⟨rfl, hS, hO⟩
    go_wp2_with fail
    go_ret
    exact ⟨rfl, hS, hO⟩
  | some u =>
    rw [he] at hb
    have HB := Lib.hid hb; clear hb he
    go_enter Tryz.func78, Tryz.ntmps78
    go_wp2_with fail
    refine (HB.out).mono ?_; rintro e w1 ⟨rfl, hS, hO⟩
    go_wp2_with fail
    go_ret
    exact ⟨rfl, hS, hO⟩

/-! ### tags -/
def zI : It := ⟨0, .empty, 0⟩
/-- The result's variable, zero. -/
def zV (W : World) (b : Nat) : Prop := W.heap[b]? = some (.cells #[.int .i64 0, .string ByteArray.empty, .int .i64 0] 62 (0, 0))
theorem zV.new (W : World) : zV (W.alloc (.cells #[.int .i64 0, .string ByteArray.empty, .int .i64 0] 62)) W.heap.size := heap_alloc_new W _
theorem zV.call {W w1 : World} {b : Nat} (h : zV W b) (hb : Below W.heap.size W w1) : zV w1 b := (hb.block b (Array.getElem?_eq_some_iff.1 h).1).trans h
theorem zV.only {S : Nat → Prop} {W w1 : World} {b : Nat} (h : zV W b) (hb : Only S W w1) (hn : ¬ S b) : zV w1 b := (hb.block b (Array.getElem?_eq_some_iff.1 h).1 hn).trans h
/-- What a reader of the scanner answers: an item, whether there is one; where the scanner then stands. -/
def RdOk (o : Option (It × Nat)) (p : Nat) (x : It) (ok : Bool) (q : Nat) : Prop := match o with | some y => x = y.1 ∧ ok = true ∧ q = p + y.2 | none => x = zI ∧ ok = false ∧ q = p
def EndR (o : Option (It × Nat)) (b p : Nat) (s : ByteArray) (w : World) (e : Ending) (w' : World) : Prop :=
  ∃ (x : It) (ok : Bool) (q : Nat), e = .returned (.tuple #[.agg #[.int .i64 x.k, .string x.t, .int .i64 x.id], .bool ok]) ∧ RdOk o p x ok q ∧ Scn w' b s q ∧ OnB b w w'
theorem btw_one (c d : UInt8) (r : List UInt8) : btw (c :: r) [c] [d] = if hasU d r = true then some (upto d r) else none := by
  unfold btw
  have h1 : Lib.hasPrefix (c :: r) [c] = true := by unfold Lib.hasPrefix; simp
  rw [h1]
  show (if true = true ∧ 0 ≤ Lib.index r [d] then some (r.take (Lib.index r [d]).toNat) else none) = _
  rw [Lib.index_one, indexByte_uptoM]
  cases hh : hasU d r
  · rw [if_neg (show ¬ false = true by decide), if_neg (by omega), if_neg (by decide)]
  · rw [if_pos rfl, if_pos ⟨rfl, by omega⟩, if_pos rfl]
    have e : r.take (upto d r).length = upto d r := (List.prefix_iff_eq_take.1 (List.takeWhile_prefix _)).symm
    show some (r.take (upto d r).length) = _
    rw [e]
theorem pre_one (u : List UInt8) : Lib.hasPrefix u [47] = decide (u.head? = some 47) := by
  unfold Lib.hasPrefix
  cases u with
  | nil => rfl
  | cons c t =>
    rw [Bool.eq_iff_iff]
    simp [List.isPrefixOf]
    exact eq_comm
theorem suf_one (u : List UInt8) : Lib.hasSuffix u [47] = decide (u.getLast? = some 47) := by
  unfold Lib.hasSuffix
  rw [Bool.eq_iff_iff, List.isSuffixOf_iff_suffix, decide_eq_true_iff]
  constructor
  · rintro ⟨t, rfl⟩; simp
  · intro h
    have hne : u ≠ [] := fun e => by rw [e] at h; cases h
    rw [List.getLast?_eq_some_getLast hne] at h
    injection h with h
    exact ⟨u.dropLast, by rw [← h]; exact List.dropLast_concat_getLast hne⟩
theorem trimP_yes (u : List UInt8) (h : u.head? = some 47) : Lib.trimPrefix u [47] = u.drop 1 := by unfold Lib.trimPrefix; rw [pre_one, decide_eq_true h, if_pos rfl]; rfl
theorem trimP_no (u : List UInt8) (h : ¬ u.head? = some 47) : Lib.trimPrefix u [47] = u := by unfold Lib.trimPrefix; rw [pre_one, decide_eq_false h, if_neg (by decide)]
theorem trimS_yes (u : List UInt8) (h : u.getLast? = some 47) : Lib.trimSuffix u [47] = u.dropLast := by
  unfold Lib.trimSuffix; rw [suf_one, decide_eq_true h, if_pos rfl, List.dropLast_eq_take]; rfl
theorem trimS_no (u : List UInt8) (h : ¬ u.getLast? = some 47) : Lib.trimSuffix u [47] = u := by unfold Lib.trimSuffix; rw [suf_one, decide_eq_false h, if_neg (by decide)]
set_option maxHeartbeats 3200000 in
theorem tagarm30 (b p : Nat) (s : ByteArray) (w : World) (h : Scn w b s p) (hBn : b ≠ w.heap.size) (hp : p < s.size) (hs : s.size ≤ 1000000000) (u : List UInt8) (M N : ByteArray)
    (hbt : Calls Tryz.prog 110 #[.pointer (some ⟨b, 0, none⟩), .string ⟨#[60]⟩, .string ⟨#[62]⟩] (w.alloc (.cells #[.int .i64 0, .string ByteArray.empty, .int .i64 0] 62)) fun e w' => e = .returned (.tuple #[.string M, .bool true]) ∧ Scn w' b s (p + u.length + 2) ∧ OnB b (w.alloc (.cells #[.int .i64 0, .string ByteArray.empty, .int .i64 0] 62)) w')
    (hpre : ∀ W, Calls Tryz.prog 111 #[.string M, .string ⟨#[47]⟩] W fun e w' => e = .returned (.tuple #[.string N, .bool true]) ∧ W = w') (hnm : ∀ W, Calls Tryz.prog 105 #[.string N] W fun e w' => e = .returned (.bool false) ∧ W = w') :
    Calls Tryz.prog 79 #[.pointer (some ⟨b, 0, none⟩)] w (EndR none b p s w) := by
  have hbs := h.lt
  have hZ := zV.new w
  have hBa := blw (Below.refl w.heap.size w) (.cells #[.int .i64 0, .string ByteArray.empty, .int .i64 0] 62)
  have c1 : (p : Int) ≤ 1000000000 := by omega
  have HB := Lib.hid hbt; have HP := Lib.hid hpre; have HN := Lib.hid hnm
  clear hbt hpre hnm
  obtain ⟨x0, x1, x2⟩ := h.cells
  go_enter Tryz.func79, Tryz.ntmps79
  go_wp2_with fail
  refine (HB.out).mono ?_; rintro e w1 ⟨rfl, hS1, hO1⟩
  clear x0 x1 x2
  go_wp2_with fail
  refine (HP.out _).mono ?_; rintro e w2 ⟨rfl, rfl⟩
  go_wp2_with fail
  refine (HN.out _).mono ?_; rintro e w3 ⟨rfl, rfl⟩
  have hZ1 := hZ.only hO1 (fun e => hBn e.symm)
  have hO2 : OnB b w w1 := (Only.of_below hBa).trans hO1
  obtain ⟨v0, v1, v2, v3, v4, v5⟩ := cells_item hZ1
  go_upto_region 12 with fail
  have hWy := heap_set3 (a' := .int .i64 3) (b' := .string N) (c' := .int .i64 0) hZ1
  have hBy := ((hO2.setNew (p := ⟨w.heap.size, 0, none⟩) (Nat.le_refl _) (.int .i64 3)).setNew (p := ⟨w.heap.size, 1, none⟩) (Nat.le_refl _) (.string N)).setNew (p := ⟨w.heap.size, 2, none⟩) (Nat.le_refl _) (.int .i64 0)
  have hSy := hS1.only3 hBn (.int .i64 3) (.string N) (.int .i64 0)
  clear v0 v1 v2 v3 v4 v5
  generalize (((w1.setCell ⟨w.heap.size, 0, none⟩ (.int .i64 3)).setCell ⟨w.heap.size, 1, none⟩ (.string N)).setCell ⟨w.heap.size, 2, none⟩ (.int .i64 0)) = wy at *
  obtain ⟨v0, v1, v2, v3, v4, v5⟩ := cells_item hWy
  obtain ⟨x0, x1, x2⟩ := hSy.cells
  go_upto_region 14 with fail
  have hOt := hBy.setCell ⟨b, 1, none⟩ (.int .i64 (p : Int)) rfl
  have hSt := hSy.set p
  have hWt := (Below.heap_setCell wy ⟨b, 1, none⟩ (.int .i64 (p : Int)) w.heap.size (fun e => hBn e.symm)).trans hWy
  clear v0 v1 v2 v3 v4 v5 x0 x1 x2
  generalize (wy.setCell ⟨b, 1, none⟩ (.int .i64 (p : Int))) = wt at *
  obtain ⟨v0, v1, v2, v3, v4, v5⟩ := cells_item hWt
  go_wp2_with fail
  have hWz := heap_set3 (a' := .int .i64 0) (b' := .string ⟨#[]⟩) (c' := .int .i64 0) hWt
  have hBz := ((hOt.setNew (p := ⟨w.heap.size, 0, none⟩) (Nat.le_refl _) (.int .i64 0)).setNew (p := ⟨w.heap.size, 1, none⟩) (Nat.le_refl _) (.string ⟨#[]⟩)).setNew (p := ⟨w.heap.size, 2, none⟩) (Nat.le_refl _) (.int .i64 0)
  have hSz := hSt.only3 hBn (.int .i64 0) (.string ⟨#[]⟩) (.int .i64 0)
  generalize (((wt.setCell ⟨w.heap.size, 0, none⟩ (.int .i64 0)).setCell ⟨w.heap.size, 1, none⟩ (.string ⟨#[]⟩)).setCell ⟨w.heap.size, 2, none⟩ (.int .i64 0)) = wz at *
  obtain ⟨z0, z1, z2, _⟩ := cells_item hWz
  (try simp only [Exit.inBlock, Exit.then])
  refine bodyPost_ret (v := .tuple #[.agg #[.int .i64 0, .string ⟨#[]⟩, .int .i64 0], .bool false]) (by simp [results, Tryz.results79, go_sem, z0, z1, z2]; try rfl) rfl ⟨zI, false, p, rfl, ⟨rfl, rfl, rfl⟩, hSz, hBz⟩
set_option maxHeartbeats 3200000 in
theorem tagarm31 (b p : Nat) (s : ByteArray) (w : World) (h : Scn w b s p) (hBn : b ≠ w.heap.size) (hp : p < s.size) (hs : s.size ≤ 1000000000) (u : List UInt8) (M N : ByteArray)
    (hbt : Calls Tryz.prog 110 #[.pointer (some ⟨b, 0, none⟩), .string ⟨#[60]⟩, .string ⟨#[62]⟩] (w.alloc (.cells #[.int .i64 0, .string ByteArray.empty, .int .i64 0] 62)) fun e w' => e = .returned (.tuple #[.string M, .bool true]) ∧ Scn w' b s (p + u.length + 2) ∧ OnB b (w.alloc (.cells #[.int .i64 0, .string ByteArray.empty, .int .i64 0] 62)) w')
    (hpre : ∀ W, Calls Tryz.prog 111 #[.string M, .string ⟨#[47]⟩] W fun e w' => e = .returned (.tuple #[.string N, .bool true]) ∧ W = w') (hnm : ∀ W, Calls Tryz.prog 105 #[.string N] W fun e w' => e = .returned (.bool true) ∧ W = w') :
    Calls Tryz.prog 79 #[.pointer (some ⟨b, 0, none⟩)] w (EndR (some (⟨3, N, 0⟩, u.length + 2)) b p s w) := by
  have hbs := h.lt
  have hZ := zV.new w
  have hBa := blw (Below.refl w.heap.size w) (.cells #[.int .i64 0, .string ByteArray.empty, .int .i64 0] 62)
  have c1 : (p : Int) ≤ 1000000000 := by omega
  have HB := Lib.hid hbt; have HP := Lib.hid hpre; have HN := Lib.hid hnm
  clear hbt hpre hnm
  obtain ⟨x0, x1, x2⟩ := h.cells
  go_enter Tryz.func79, Tryz.ntmps79
  go_wp2_with fail
  refine (HB.out).mono ?_; rintro e w1 ⟨rfl, hS1, hO1⟩
  clear x0 x1 x2
  go_wp2_with fail
  refine (HP.out _).mono ?_; rintro e w2 ⟨rfl, rfl⟩
  go_wp2_with fail
  refine (HN.out _).mono ?_; rintro e w3 ⟨rfl, rfl⟩
  have hZ1 := hZ.only hO1 (fun e => hBn e.symm)
  have hO2 : OnB b w w1 := (Only.of_below hBa).trans hO1
  obtain ⟨v0, v1, v2, v3, v4, v5⟩ := cells_item hZ1
  go_upto_region 12 with fail
  have hWy := heap_set3 (a' := .int .i64 3) (b' := .string N) (c' := .int .i64 0) hZ1
  have hBy := ((hO2.setNew (p := ⟨w.heap.size, 0, none⟩) (Nat.le_refl _) (.int .i64 3)).setNew (p := ⟨w.heap.size, 1, none⟩) (Nat.le_refl _) (.string N)).setNew (p := ⟨w.heap.size, 2, none⟩) (Nat.le_refl _) (.int .i64 0)
  have hSy := hS1.only3 hBn (.int .i64 3) (.string N) (.int .i64 0)
  clear v0 v1 v2 v3 v4 v5
  generalize (((w1.setCell ⟨w.heap.size, 0, none⟩ (.int .i64 3)).setCell ⟨w.heap.size, 1, none⟩ (.string N)).setCell ⟨w.heap.size, 2, none⟩ (.int .i64 0)) = wy at *
  obtain ⟨v0, v1, v2, v3, v4, v5⟩ := cells_item hWy
  have hSy : Scn wy b s (p + (u.length + 2)) := hSy
  go_wp2_with fail
  have hWz := heap_set3 (a' := .int .i64 3) (b' := .string N) (c' := .int .i64 0) hWy
  have hBz := ((hBy.setNew (p := ⟨w.heap.size, 0, none⟩) (Nat.le_refl _) (.int .i64 3)).setNew (p := ⟨w.heap.size, 1, none⟩) (Nat.le_refl _) (.string N)).setNew (p := ⟨w.heap.size, 2, none⟩) (Nat.le_refl _) (.int .i64 0)
  have hSz := hSy.only3 hBn (.int .i64 3) (.string N) (.int .i64 0)
  generalize (((wy.setCell ⟨w.heap.size, 0, none⟩ (.int .i64 3)).setCell ⟨w.heap.size, 1, none⟩ (.string N)).setCell ⟨w.heap.size, 2, none⟩ (.int .i64 0)) = wz at *
  obtain ⟨z0, z1, z2, _⟩ := cells_item hWz
  (try simp only [Exit.inBlock, Exit.then])
  refine bodyPost_ret (v := .tuple #[.agg #[.int .i64 3, .string N, .int .i64 0], .bool true]) (by simp [results, Tryz.results79, go_sem, z0, z1, z2]; try rfl) rfl ⟨⟨3, N, 0⟩, true, p + (u.length + 2), rfl, ⟨rfl, rfl, rfl⟩, hSz, hBz⟩
set_option maxHeartbeats 3200000 in
theorem tagarm40 (b p : Nat) (s : ByteArray) (w : World) (h : Scn w b s p) (hBn : b ≠ w.heap.size) (hp : p < s.size) (hs : s.size ≤ 1000000000) (u : List UInt8) (M N : ByteArray)
    (hbt : Calls Tryz.prog 110 #[.pointer (some ⟨b, 0, none⟩), .string ⟨#[60]⟩, .string ⟨#[62]⟩] (w.alloc (.cells #[.int .i64 0, .string ByteArray.empty, .int .i64 0] 62)) fun e w' => e = .returned (.tuple #[.string M, .bool true]) ∧ Scn w' b s (p + u.length + 2) ∧ OnB b (w.alloc (.cells #[.int .i64 0, .string ByteArray.empty, .int .i64 0] 62)) w')
    (hpre : ∀ W, Calls Tryz.prog 111 #[.string M, .string ⟨#[47]⟩] W fun e w' => e = .returned (.tuple #[.string M, .bool false]) ∧ W = w') (hsuf : ∀ W, Calls Tryz.prog 112 #[.string M, .string ⟨#[47]⟩] W fun e w' => e = .returned (.tuple #[.string N, .bool true]) ∧ W = w') (hnm : ∀ W, Calls Tryz.prog 103 #[.string N] W fun e w' => e = .returned (.bool false) ∧ Below W.heap.size W w') :
    Calls Tryz.prog 79 #[.pointer (some ⟨b, 0, none⟩)] w (EndR none b p s w) := by
  have hbs := h.lt
  have hZ := zV.new w
  have hBa := blw (Below.refl w.heap.size w) (.cells #[.int .i64 0, .string ByteArray.empty, .int .i64 0] 62)
  have c1 : (p : Int) ≤ 1000000000 := by omega
  have HB := Lib.hid hbt; have HP := Lib.hid hpre; have HS := Lib.hid hsuf; have HN := Lib.hid hnm
  clear hbt hpre hsuf hnm
  obtain ⟨x0, x1, x2⟩ := h.cells
  go_enter Tryz.func79, Tryz.ntmps79
  go_wp2_with fail
  refine (HB.out).mono ?_; rintro e w1 ⟨rfl, hS1, hO1⟩
  clear x0 x1 x2
  go_wp2_with fail
  refine (HP.out _).mono ?_; rintro e w2 ⟨rfl, rfl⟩
  go_wp2_with fail
  refine (HS.out _).mono ?_; rintro e w2b ⟨rfl, rfl⟩
  go_wp2_with fail
  refine (HN.out _).mono ?_; rintro e w3 ⟨rfl, hb3⟩
  have hZ1 := (hZ.only hO1 (fun e => hBn e.symm)).call hb3
  have hO2 : OnB b w w3 := ((Only.of_below hBa).trans hO1).trans (Only.of_below hb3)
  have hS1 := hS1.call hb3
  obtain ⟨v0, v1, v2, v3, v4, v5⟩ := cells_item hZ1
  go_upto_region 12 with fail
  have hWy := heap_set3 (a' := .int .i64 4) (b' := .string N) (c' := .int .i64 0) hZ1
  have hBy := ((hO2.setNew (p := ⟨w.heap.size, 0, none⟩) (Nat.le_refl _) (.int .i64 4)).setNew (p := ⟨w.heap.size, 1, none⟩) (Nat.le_refl _) (.string N)).setNew (p := ⟨w.heap.size, 2, none⟩) (Nat.le_refl _) (.int .i64 0)
  have hSy := hS1.only3 hBn (.int .i64 4) (.string N) (.int .i64 0)
  clear v0 v1 v2 v3 v4 v5
  generalize (((w3.setCell ⟨w.heap.size, 0, none⟩ (.int .i64 4)).setCell ⟨w.heap.size, 1, none⟩ (.string N)).setCell ⟨w.heap.size, 2, none⟩ (.int .i64 0)) = wy at *
  obtain ⟨v0, v1, v2, v3, v4, v5⟩ := cells_item hWy
  obtain ⟨x0, x1, x2⟩ := hSy.cells
  go_upto_region 14 with fail
  have hOt := hBy.setCell ⟨b, 1, none⟩ (.int .i64 (p : Int)) rfl
  have hSt := hSy.set p
  have hWt := (Below.heap_setCell wy ⟨b, 1, none⟩ (.int .i64 (p : Int)) w.heap.size (fun e => hBn e.symm)).trans hWy
  clear v0 v1 v2 v3 v4 v5 x0 x1 x2
  generalize (wy.setCell ⟨b, 1, none⟩ (.int .i64 (p : Int))) = wt at *
  obtain ⟨v0, v1, v2, v3, v4, v5⟩ := cells_item hWt
  go_wp2_with fail
  have hWz := heap_set3 (a' := .int .i64 0) (b' := .string ⟨#[]⟩) (c' := .int .i64 0) hWt
  have hBz := ((hOt.setNew (p := ⟨w.heap.size, 0, none⟩) (Nat.le_refl _) (.int .i64 0)).setNew (p := ⟨w.heap.size, 1, none⟩) (Nat.le_refl _) (.string ⟨#[]⟩)).setNew (p := ⟨w.heap.size, 2, none⟩) (Nat.le_refl _) (.int .i64 0)
  have hSz := hSt.only3 hBn (.int .i64 0) (.string ⟨#[]⟩) (.int .i64 0)
  generalize (((wt.setCell ⟨w.heap.size, 0, none⟩ (.int .i64 0)).setCell ⟨w.heap.size, 1, none⟩ (.string ⟨#[]⟩)).setCell ⟨w.heap.size, 2, none⟩ (.int .i64 0)) = wz at *
  obtain ⟨z0, z1, z2, _⟩ := cells_item hWz
  (try simp only [Exit.inBlock, Exit.then])
  refine bodyPost_ret (v := .tuple #[.agg #[.int .i64 0, .string ⟨#[]⟩, .int .i64 0], .bool false]) (by simp [results, Tryz.results79, go_sem, z0, z1, z2]; try rfl) rfl ⟨zI, false, p, rfl, ⟨rfl, rfl, rfl⟩, hSz, hBz⟩
set_option maxHeartbeats 3200000 in
theorem tagarm41 (b p : Nat) (s : ByteArray) (w : World) (h : Scn w b s p) (hBn : b ≠ w.heap.size) (hp : p < s.size) (hs : s.size ≤ 1000000000) (u : List UInt8) (M N : ByteArray)
    (hbt : Calls Tryz.prog 110 #[.pointer (some ⟨b, 0, none⟩), .string ⟨#[60]⟩, .string ⟨#[62]⟩] (w.alloc (.cells #[.int .i64 0, .string ByteArray.empty, .int .i64 0] 62)) fun e w' => e = .returned (.tuple #[.string M, .bool true]) ∧ Scn w' b s (p + u.length + 2) ∧ OnB b (w.alloc (.cells #[.int .i64 0, .string ByteArray.empty, .int .i64 0] 62)) w')
    (hpre : ∀ W, Calls Tryz.prog 111 #[.string M, .string ⟨#[47]⟩] W fun e w' => e = .returned (.tuple #[.string M, .bool false]) ∧ W = w') (hsuf : ∀ W, Calls Tryz.prog 112 #[.string M, .string ⟨#[47]⟩] W fun e w' => e = .returned (.tuple #[.string N, .bool true]) ∧ W = w') (hnm : ∀ W, Calls Tryz.prog 103 #[.string N] W fun e w' => e = .returned (.bool true) ∧ Below W.heap.size W w') :
    Calls Tryz.prog 79 #[.pointer (some ⟨b, 0, none⟩)] w (EndR (some (⟨4, N, 0⟩, u.length + 2)) b p s w) := by
  have hbs := h.lt
  have hZ := zV.new w
  have hBa := blw (Below.refl w.heap.size w) (.cells #[.int .i64 0, .string ByteArray.empty, .int .i64 0] 62)
  have c1 : (p : Int) ≤ 1000000000 := by omega
  have HB := Lib.hid hbt; have HP := Lib.hid hpre; have HS := Lib.hid hsuf; have HN := Lib.hid hnm
  clear hbt hpre hsuf hnm
  obtain ⟨x0, x1, x2⟩ := h.cells
  go_enter Tryz.func79, Tryz.ntmps79
  go_wp2_with fail
  refine (HB.out).mono ?_; rintro e w1 ⟨rfl, hS1, hO1⟩
  clear x0 x1 x2
  go_wp2_with fail
  refine (HP.out _).mono ?_; rintro e w2 ⟨rfl, rfl⟩
  go_wp2_with fail
  refine (HS.out _).mono ?_; rintro e w2b ⟨rfl, rfl⟩
  go_wp2_with fail
  refine (HN.out _).mono ?_; rintro e w3 ⟨rfl, hb3⟩
  have hZ1 := (hZ.only hO1 (fun e => hBn e.symm)).call hb3
  have hO2 : OnB b w w3 := ((Only.of_below hBa).trans hO1).trans (Only.of_below hb3)
  have hS1 := hS1.call hb3
  obtain ⟨v0, v1, v2, v3, v4, v5⟩ := cells_item hZ1
  go_upto_region 12 with fail
  have hWy := heap_set3 (a' := .int .i64 4) (b' := .string N) (c' := .int .i64 0) hZ1
  have hBy := ((hO2.setNew (p := ⟨w.heap.size, 0, none⟩) (Nat.le_refl _) (.int .i64 4)).setNew (p := ⟨w.heap.size, 1, none⟩) (Nat.le_refl _) (.string N)).setNew (p := ⟨w.heap.size, 2, none⟩) (Nat.le_refl _) (.int .i64 0)
  have hSy := hS1.only3 hBn (.int .i64 4) (.string N) (.int .i64 0)
  clear v0 v1 v2 v3 v4 v5
  generalize (((w3.setCell ⟨w.heap.size, 0, none⟩ (.int .i64 4)).setCell ⟨w.heap.size, 1, none⟩ (.string N)).setCell ⟨w.heap.size, 2, none⟩ (.int .i64 0)) = wy at *
  obtain ⟨v0, v1, v2, v3, v4, v5⟩ := cells_item hWy
  have hSy : Scn wy b s (p + (u.length + 2)) := hSy
  go_wp2_with fail
  have hWz := heap_set3 (a' := .int .i64 4) (b' := .string N) (c' := .int .i64 0) hWy
  have hBz := ((hBy.setNew (p := ⟨w.heap.size, 0, none⟩) (Nat.le_refl _) (.int .i64 4)).setNew (p := ⟨w.heap.size, 1, none⟩) (Nat.le_refl _) (.string N)).setNew (p := ⟨w.heap.size, 2, none⟩) (Nat.le_refl _) (.int .i64 0)
  have hSz := hSy.only3 hBn (.int .i64 4) (.string N) (.int .i64 0)
  generalize (((wy.setCell ⟨w.heap.size, 0, none⟩ (.int .i64 4)).setCell ⟨w.heap.size, 1, none⟩ (.string N)).setCell ⟨w.heap.size, 2, none⟩ (.int .i64 0)) = wz at *
  obtain ⟨z0, z1, z2, _⟩ := cells_item hWz
  (try simp only [Exit.inBlock, Exit.then])
  refine bodyPost_ret (v := .tuple #[.agg #[.int .i64 4, .string N, .int .i64 0], .bool true]) (by simp [results, Tryz.results79, go_sem, z0, z1, z2]; try rfl) rfl ⟨⟨4, N, 0⟩, true, p + (u.length + 2), rfl, ⟨rfl, rfl, rfl⟩, hSz, hBz⟩
set_option maxHeartbeats 3200000 in
theorem tagarm20 (b p : Nat) (s : ByteArray) (w : World) (h : Scn w b s p) (hBn : b ≠ w.heap.size) (hp : p < s.size) (hs : s.size ≤ 1000000000) (u : List UInt8) (M : ByteArray)
    (hbt : Calls Tryz.prog 110 #[.pointer (some ⟨b, 0, none⟩), .string ⟨#[60]⟩, .string ⟨#[62]⟩] (w.alloc (.cells #[.int .i64 0, .string ByteArray.empty, .int .i64 0] 62)) fun e w' => e = .returned (.tuple #[.string M, .bool true]) ∧ Scn w' b s (p + u.length + 2) ∧ OnB b (w.alloc (.cells #[.int .i64 0, .string ByteArray.empty, .int .i64 0] 62)) w')
    (hpre : ∀ W, Calls Tryz.prog 111 #[.string M, .string ⟨#[47]⟩] W fun e w' => e = .returned (.tuple #[.string M, .bool false]) ∧ W = w') (hsuf : ∀ W, Calls Tryz.prog 112 #[.string M, .string ⟨#[47]⟩] W fun e w' => e = .returned (.tuple #[.string M, .bool false]) ∧ W = w') (hnm : ∀ W, Calls Tryz.prog 103 #[.string M] W fun e w' => e = .returned (.bool false) ∧ Below W.heap.size W w') :
    Calls Tryz.prog 79 #[.pointer (some ⟨b, 0, none⟩)] w (EndR none b p s w) := by
  have hbs := h.lt
  have hZ := zV.new w
  have hBa := blw (Below.refl w.heap.size w) (.cells #[.int .i64 0, .string ByteArray.empty, .int .i64 0] 62)
  have c1 : (p : Int) ≤ 1000000000 := by omega
  have HB := Lib.hid hbt; have HP := Lib.hid hpre; have HS := Lib.hid hsuf; have HN := Lib.hid hnm
  clear hbt hpre hsuf hnm
  obtain ⟨x0, x1, x2⟩ := h.cells
  go_enter Tryz.func79, Tryz.ntmps79
  go_wp2_with fail
  refine (HB.out).mono ?_; rintro e w1 ⟨rfl, hS1, hO1⟩
  clear x0 x1 x2
  go_wp2_with fail
  refine (HP.out _).mono ?_; rintro e w2 ⟨rfl, rfl⟩
  go_wp2_with fail
  refine (HS.out _).mono ?_; rintro e w2b ⟨rfl, rfl⟩
  go_wp2_with fail
  refine (HN.out _).mono ?_; rintro e w3 ⟨rfl, hb3⟩
  have hZ1 := (hZ.only hO1 (fun e => hBn e.symm)).call hb3
  have hO2 : OnB b w w3 := ((Only.of_below hBa).trans hO1).trans (Only.of_below hb3)
  have hS1 := hS1.call hb3
  obtain ⟨v0, v1, v2, v3, v4, v5⟩ := cells_item hZ1
  go_upto_region 12 with fail
  have hWy := heap_set3 (a' := .int .i64 2) (b' := .string M) (c' := .int .i64 0) hZ1
  have hBy := ((hO2.setNew (p := ⟨w.heap.size, 0, none⟩) (Nat.le_refl _) (.int .i64 2)).setNew (p := ⟨w.heap.size, 1, none⟩) (Nat.le_refl _) (.string M)).setNew (p := ⟨w.heap.size, 2, none⟩) (Nat.le_refl _) (.int .i64 0)
  have hSy := hS1.only3 hBn (.int .i64 2) (.string M) (.int .i64 0)
  clear v0 v1 v2 v3 v4 v5
  generalize (((w3.setCell ⟨w.heap.size, 0, none⟩ (.int .i64 2)).setCell ⟨w.heap.size, 1, none⟩ (.string M)).setCell ⟨w.heap.size, 2, none⟩ (.int .i64 0)) = wy at *
  obtain ⟨v0, v1, v2, v3, v4, v5⟩ := cells_item hWy
  obtain ⟨x0, x1, x2⟩ := hSy.cells
  go_upto_region 14 with fail
  have hOt := hBy.setCell ⟨b, 1, none⟩ (.int .i64 (p : Int)) rfl
  have hSt := hSy.set p
  have hWt := (Below.heap_setCell wy ⟨b, 1, none⟩ (.int .i64 (p : Int)) w.heap.size (fun e => hBn e.symm)).trans hWy
  clear v0 v1 v2 v3 v4 v5 x0 x1 x2
  generalize (wy.setCell ⟨b, 1, none⟩ (.int .i64 (p : Int))) = wt at *
  obtain ⟨v0, v1, v2, v3, v4, v5⟩ := cells_item hWt
  go_wp2_with fail
  have hWz := heap_set3 (a' := .int .i64 0) (b' := .string ⟨#[]⟩) (c' := .int .i64 0) hWt
  have hBz := ((hOt.setNew (p := ⟨w.heap.size, 0, none⟩) (Nat.le_refl _) (.int .i64 0)).setNew (p := ⟨w.heap.size, 1, none⟩) (Nat.le_refl _) (.string ⟨#[]⟩)).setNew (p := ⟨w.heap.size, 2, none⟩) (Nat.le_refl _) (.int .i64 0)
  have hSz := hSt.only3 hBn (.int .i64 0) (.string ⟨#[]⟩) (.int .i64 0)
  generalize (((wt.setCell ⟨w.heap.size, 0, none⟩ (.int .i64 0)).setCell ⟨w.heap.size, 1, none⟩ (.string ⟨#[]⟩)).setCell ⟨w.heap.size, 2, none⟩ (.int .i64 0)) = wz at *
  obtain ⟨z0, z1, z2, _⟩ := cells_item hWz
  (try simp only [Exit.inBlock, Exit.then])
  refine bodyPost_ret (v := .tuple #[.agg #[.int .i64 0, .string ⟨#[]⟩, .int .i64 0], .bool false]) (by simp [results, Tryz.results79, go_sem, z0, z1, z2]; try rfl) rfl ⟨zI, false, p, rfl, ⟨rfl, rfl, rfl⟩, hSz, hBz⟩
set_option maxHeartbeats 3200000 in
theorem tagarm21 (b p : Nat) (s : ByteArray) (w : World) (h : Scn w b s p) (hBn : b ≠ w.heap.size) (hp : p < s.size) (hs : s.size ≤ 1000000000) (u : List UInt8) (M : ByteArray)
    (hbt : Calls Tryz.prog 110 #[.pointer (some ⟨b, 0, none⟩), .string ⟨#[60]⟩, .string ⟨#[62]⟩] (w.alloc (.cells #[.int .i64 0, .string ByteArray.empty, .int .i64 0] 62)) fun e w' => e = .returned (.tuple #[.string M, .bool true]) ∧ Scn w' b s (p + u.length + 2) ∧ OnB b (w.alloc (.cells #[.int .i64 0, .string ByteArray.empty, .int .i64 0] 62)) w')
    (hpre : ∀ W, Calls Tryz.prog 111 #[.string M, .string ⟨#[47]⟩] W fun e w' => e = .returned (.tuple #[.string M, .bool false]) ∧ W = w') (hsuf : ∀ W, Calls Tryz.prog 112 #[.string M, .string ⟨#[47]⟩] W fun e w' => e = .returned (.tuple #[.string M, .bool false]) ∧ W = w') (hnm : ∀ W, Calls Tryz.prog 103 #[.string M] W fun e w' => e = .returned (.bool true) ∧ Below W.heap.size W w') :
    Calls Tryz.prog 79 #[.pointer (some ⟨b, 0, none⟩)] w (EndR (some (⟨2, M, 0⟩, u.length + 2)) b p s w) := by
  have hbs := h.lt
  have hZ := zV.new w
  have hBa := blw (Below.refl w.heap.size w) (.cells #[.int .i64 0, .string ByteArray.empty, .int .i64 0] 62)
  have c1 : (p : Int) ≤ 1000000000 := by omega
  have HB := Lib.hid hbt; have HP := Lib.hid hpre; have HS := Lib.hid hsuf; have HN := Lib.hid hnm
  clear hbt hpre hsuf hnm
  obtain ⟨x0, x1, x2⟩ := h.cells
  go_enter Tryz.func79, Tryz.ntmps79
  go_wp2_with fail
  refine (HB.out).mono ?_; rintro e w1 ⟨rfl, hS1, hO1⟩
  clear x0 x1 x2
  go_wp2_with fail
  refine (HP.out _).mono ?_; rintro e w2 ⟨rfl, rfl⟩
  go_wp2_with fail
  refine (HS.out _).mono ?_; rintro e w2b ⟨rfl, rfl⟩
  go_wp2_with fail
  refine (HN.out _).mono ?_; rintro e w3 ⟨rfl, hb3⟩
  have hZ1 := (hZ.only hO1 (fun e => hBn e.symm)).call hb3
  have hO2 : OnB b w w3 := ((Only.of_below hBa).trans hO1).trans (Only.of_below hb3)
  have hS1 := hS1.call hb3
  obtain ⟨v0, v1, v2, v3, v4, v5⟩ := cells_item hZ1
  go_upto_region 12 with fail
  have hWy := heap_set3 (a' := .int .i64 2) (b' := .string M) (c' := .int .i64 0) hZ1
  have hBy := ((hO2.setNew (p := ⟨w.heap.size, 0, none⟩) (Nat.le_refl _) (.int .i64 2)).setNew (p := ⟨w.heap.size, 1, none⟩) (Nat.le_refl _) (.string M)).setNew (p := ⟨w.heap.size, 2, none⟩) (Nat.le_refl _) (.int .i64 0)
  have hSy := hS1.only3 hBn (.int .i64 2) (.string M) (.int .i64 0)
  clear v0 v1 v2 v3 v4 v5
  generalize (((w3.setCell ⟨w.heap.size, 0, none⟩ (.int .i64 2)).setCell ⟨w.heap.size, 1, none⟩ (.string M)).setCell ⟨w.heap.size, 2, none⟩ (.int .i64 0)) = wy at *
  obtain ⟨v0, v1, v2, v3, v4, v5⟩ := cells_item hWy
  have hSy : Scn wy b s (p + (u.length + 2)) := hSy
  go_wp2_with fail
  have hWz := heap_set3 (a' := .int .i64 2) (b' := .string M) (c' := .int .i64 0) hWy
  have hBz := ((hBy.setNew (p := ⟨w.heap.size, 0, none⟩) (Nat.le_refl _) (.int .i64 2)).setNew (p := ⟨w.heap.size, 1, none⟩) (Nat.le_refl _) (.string M)).setNew (p := ⟨w.heap.size, 2, none⟩) (Nat.le_refl _) (.int .i64 0)
  have hSz := hSy.only3 hBn (.int .i64 2) (.string M) (.int .i64 0)
  generalize (((wy.setCell ⟨w.heap.size, 0, none⟩ (.int .i64 2)).setCell ⟨w.heap.size, 1, none⟩ (.string M)).setCell ⟨w.heap.size, 2, none⟩ (.int .i64 0)) = wz at *
  obtain ⟨z0, z1, z2, _⟩ := cells_item hWz
  (try simp only [Exit.inBlock, Exit.then])
  refine bodyPost_ret (v := .tuple #[.agg #[.int .i64 2, .string M, .int .i64 0], .bool true]) (by simp [results, Tryz.results79, go_sem, z0, z1, z2]; try rfl) rfl ⟨⟨2, M, 0⟩, true, p + (u.length + 2), rfl, ⟨rfl, rfl, rfl⟩, hSz, hBz⟩
set_option maxHeartbeats 6400000 in
theorem readtag_any (b p : Nat) (s : ByteArray) (w : World) (h : Scn w b s p) (hM : Mx w) (hb1 : b ≠ 1) (hs : s.size ≤ 1000000000) (hp : p < s.size) (h60 : s[p] = 60) :
    Calls Tryz.prog 79 #[.pointer (some ⟨b, 0, none⟩)] w (EndR (rdT (s.data.toList.drop (p + 1))) b p s w) := by
  have hbs := h.lt
  have hBn : b ≠ w.heap.size := by omega
  have hZ := zV.new w
  have hBa := blw (Below.refl w.heap.size w) (.cells #[.int .i64 0, .string ByteArray.empty, .int .i64 0] 62)
  have hS := h.call hBa
  have hMa := hM.call hBa
  have c1 : (p : Int) ≤ 1000000000 := by omega
  have hd := drop_get s p hp
  rw [h60] at hd
  have hbt : Calls Tryz.prog 110 #[.pointer (some ⟨b, 0, none⟩), .string ⟨#[60]⟩, .string ⟨#[62]⟩] _ (EndBt (btw (s.data.toList.drop p) [60] [62]) 2 b p s _) := between_any b p s ⟨#[60]⟩ ⟨#[62]⟩ _ hS hMa hs (by omega) (by decide) (by decide)
  rw [hd, btw_one] at hbt
  have hul := upto_lenD 62 (s.data.toList.drop (p + 1))
  rw [List.length_drop, ll_size] at hul
  unfold rdT
  generalize upto 62 (s.data.toList.drop (p + 1)) = u at *
  cases hF : hasU 62 (s.data.toList.drop (p + 1))
  · rw [hF, if_neg (by decide)] at hbt
    rw [if_neg (by simp)]
    have HB := Lib.hid hbt
    clear hbt hd hul hF
    obtain ⟨x0, x1, x2⟩ := h.cells
    go_enter Tryz.func79, Tryz.ntmps79
    go_wp2_with fail
    refine (HB.out).mono ?_; rintro e w1 ⟨rfl, hS1, hO1⟩
    have hZ1 := hZ.only hO1 (fun e => hBn e.symm)
    have hO2 : OnB b w w1 := (Only.of_below hBa).trans hO1
    obtain ⟨v0, v1, v2, v3, v4, v5⟩ := cells_item hZ1
    clear x0 x1 x2
    go_wp2_with fail
    have hWz := heap_set3 (a' := .int .i64 0) (b' := .string ⟨#[]⟩) (c' := .int .i64 0) hZ1
    have hBz := ((hO2.setNew (p := ⟨w.heap.size, 0, none⟩) (Nat.le_refl _) (.int .i64 0)).setNew (p := ⟨w.heap.size, 1, none⟩) (Nat.le_refl _) (.string ⟨#[]⟩)).setNew (p := ⟨w.heap.size, 2, none⟩) (Nat.le_refl _) (.int .i64 0)
    have hSz := hS1.only3 hBn (.int .i64 0) (.string ⟨#[]⟩) (.int .i64 0)
    generalize (((w1.setCell ⟨w.heap.size, 0, none⟩ (.int .i64 0)).setCell ⟨w.heap.size, 1, none⟩ (.string ⟨#[]⟩)).setCell ⟨w.heap.size, 2, none⟩ (.int .i64 0)) = wz at *
    obtain ⟨z0, z1, z2, _⟩ := cells_item hWz
    (try simp only [Exit.inBlock, Exit.then])
    refine bodyPost_ret (v := .tuple #[.agg #[.int .i64 0, .string ⟨#[]⟩, .int .i64 0], .bool false]) (by simp [results, Tryz.results79, go_sem, z0, z1, z2]; try rfl) rfl ⟨zI, false, p, rfl, ⟨rfl, rfl, rfl⟩, hSz, hBz⟩
  · rw [hF, if_pos rfl] at hbt
    have hsuf := fun W => (Tryz.strings_CutSuffix (bsL u) ⟨#[47]⟩ W (by rw [bsL_size]; omega)).mono fun e w' ⟨a, c⟩ => (⟨a, c.symm⟩ : e = _ ∧ W = w')
    have hpre := fun W => (Tryz.strings_CutPrefix (bsL u) ⟨#[47]⟩ W).mono fun e w' ⟨a, c⟩ => (⟨a, c.symm⟩ : e = _ ∧ W = w')
    have e47 : (⟨#[47]⟩ : ByteArray).data.toList = [47] := rfl
    rw [bsL_list, e47] at hsuf hpre
    rw [pre_one] at hpre
    rw [suf_one] at hsuf
    have hu9 : u.length ≤ 1000000000 := by omega
    unfold tgM okM
    by_cases hh : u.head? = some 47
    · rw [decide_eq_true hh, trimP_yes u hh] at hpre
      rw [if_pos hh, if_pos (show (⟨3, bsL (u.drop 1), 0⟩ : It).k = 3 from rfl)]
      have hus : (bsL (u.drop 1)).size ≤ 1000000000 := by rw [bsL_size, List.length_drop]; omega
      have hnm := fun W => isname_any (bsL (u.drop 1)) W (by unfold maxLen; omega)
      dsimp only
      cases hN : isNm (bsL (u.drop 1))
      · rw [hN] at hnm; rw [if_neg (by simp)]
        exact tagarm30 b p s w h hBn hp hs u _ _ hbt hpre hnm
      · rw [hN] at hnm; rw [if_pos ⟨rfl, rfl⟩]
        exact tagarm31 b p s w h hBn hp hs u _ _ hbt hpre hnm
    · rw [decide_eq_false hh, trimP_no u hh] at hpre
      rw [if_neg hh]
      by_cases hg : u.getLast? = some 47
      · rw [decide_eq_true hg, trimS_yes u hg] at hsuf
        rw [if_pos hg, if_neg (show ¬ (⟨4, bsL u.dropLast, 0⟩ : It).k = 3 by show ¬ (4 : Int) = 3; decide)]
        have hus : (bsL u.dropLast).size ≤ 1000000000 := by rw [bsL_size, List.length_dropLast]; omega
        have hnm := fun W => iscontent_any (bsL u.dropLast) W (by unfold maxLen; omega)
        dsimp only
        cases hN : isCon (bsL u.dropLast)
        · rw [hN] at hnm; rw [if_neg (by simp)]
          exact tagarm40 b p s w h hBn hp hs u _ _ hbt hpre hsuf hnm
        · rw [hN] at hnm; rw [if_pos ⟨rfl, rfl⟩]
          exact tagarm41 b p s w h hBn hp hs u _ _ hbt hpre hsuf hnm
      · rw [decide_eq_false hg, trimS_no u hg] at hsuf
        rw [if_neg hg, if_neg (show ¬ (⟨2, bsL u, 0⟩ : It).k = 3 by show ¬ (2 : Int) = 3; decide)]
        have hus : (bsL u).size ≤ 1000000000 := by rw [bsL_size]; omega
        have hnm := fun W => iscontent_any (bsL u) W (by unfold maxLen; omega)
        dsimp only
        cases hN : isCon (bsL u)
        · rw [hN] at hnm; rw [if_neg (by simp)]
          exact tagarm20 b p s w h hBn hp hs u _ hbt hpre hsuf hnm
        · rw [hN] at hnm; rw [if_pos ⟨rfl, rfl⟩]
          exact tagarm21 b p s w h hBn hp hs u _ hbt hpre hsuf hnm
end Go.Proofs.YtphkpokoeaagfaaGreatDoor
namespace Go.Proofs.YtphkpokoeaagfaaGreatDoor
open Go.ChangeShapes Go.WideShapes Go.ChangeAt Go.RowKit
set_option linter.unusedVariables false
set_option linter.unusedSimpArgs false
set_option maxRecDepth 100000

set_option maxHeartbeats 3200000 in
theorem slot_no (b p : Nat) (s : ByteArray) (w : World) (h : Scn w b s p) (hBn : b ≠ w.heap.size) (hp : p < s.size) (hs : s.size ≤ 1000000000) (hbt : Calls Tryz.prog 110 #[.pointer (some ⟨b, 0, none⟩), .string ⟨#[123]⟩, .string ⟨#[125]⟩] (w.alloc (.cells #[.int .i64 0, .string ByteArray.empty, .int .i64 0] 62)) fun e w' => e = .returned (.tuple #[.string ⟨#[]⟩, .bool false]) ∧ Scn w' b s p ∧ OnB b (w.alloc (.cells #[.int .i64 0, .string ByteArray.empty, .int .i64 0] 62)) w') :
    Calls Tryz.prog 94 #[.pointer (some ⟨b, 0, none⟩)] w (EndR none b p s w) := by
  have hbs := h.lt
  have hZ := zV.new w
  have hBa := blw (Below.refl w.heap.size w) (.cells #[.int .i64 0, .string ByteArray.empty, .int .i64 0] 62)
  have c1 : (p : Int) ≤ 1000000000 := by omega
  have HB := Lib.hid hbt; clear hbt
  obtain ⟨x0, x1, x2⟩ := h.cells
  go_enter Tryz.func94, Tryz.ntmps94
  go_wp2_with fail
  refine (HB.out).mono ?_; rintro e w1 ⟨rfl, hS1, hO1⟩
  clear x0 x1 x2
  have hZ1 := hZ.only hO1 (fun e => hBn e.symm)
  have hO2 : OnB b w w1 := (Only.of_below hBa).trans hO1
  obtain ⟨v0, v1, v2, v3, v4, v5⟩ := cells_item hZ1
  obtain ⟨x0, x1, x2⟩ := hS1.cells
  go_upto_region 5 with fail
  have hOt := hO2.setCell ⟨b, 1, none⟩ (.int .i64 (p : Int)) rfl
  have hSt := hS1.set p
  have hWt := (Below.heap_setCell w1 ⟨b, 1, none⟩ (.int .i64 (p : Int)) w.heap.size (fun e => hBn e.symm)).trans hZ1
  clear v0 v1 v2 v3 v4 v5 x0 x1 x2
  generalize (w1.setCell ⟨b, 1, none⟩ (.int .i64 (p : Int))) = wt at *
  obtain ⟨v0, v1, v2, v3, v4, v5⟩ := cells_item hWt
  go_wp2_with fail
  have hWz := heap_set3 (a' := .int .i64 0) (b' := .string ⟨#[]⟩) (c' := .int .i64 0) hWt
  have hBz := ((hOt.setNew (p := ⟨w.heap.size, 0, none⟩) (Nat.le_refl _) (.int .i64 0)).setNew (p := ⟨w.heap.size, 1, none⟩) (Nat.le_refl _) (.string ⟨#[]⟩)).setNew (p := ⟨w.heap.size, 2, none⟩) (Nat.le_refl _) (.int .i64 0)
  have hSz := hSt.only3 hBn (.int .i64 0) (.string ⟨#[]⟩) (.int .i64 0)
  generalize (((wt.setCell ⟨w.heap.size, 0, none⟩ (.int .i64 0)).setCell ⟨w.heap.size, 1, none⟩ (.string ⟨#[]⟩)).setCell ⟨w.heap.size, 2, none⟩ (.int .i64 0)) = wz at *
  obtain ⟨z0, z1, z2, _⟩ := cells_item hWz
  (try simp only [Exit.inBlock, Exit.then])
  refine bodyPost_ret (v := .tuple #[.agg #[.int .i64 0, .string ⟨#[]⟩, .int .i64 0], .bool false]) (by simp [results, Tryz.results94, go_sem, z0, z1, z2]; try rfl) rfl ⟨zI, false, p, rfl, ⟨rfl, rfl, rfl⟩, hSz, hBz⟩
set_option maxHeartbeats 3200000 in
theorem slot_bad (b p : Nat) (s : ByteArray) (w : World) (h : Scn w b s p) (hBn : b ≠ w.heap.size) (hp : p < s.size) (hs : s.size ≤ 1000000000) (n : Nat) (N : ByteArray) (hbt : Calls Tryz.prog 110 #[.pointer (some ⟨b, 0, none⟩), .string ⟨#[123]⟩, .string ⟨#[125]⟩] (w.alloc (.cells #[.int .i64 0, .string ByteArray.empty, .int .i64 0] 62)) fun e w' => e = .returned (.tuple #[.string N, .bool true]) ∧ Scn w' b s (p + n + 2) ∧ OnB b (w.alloc (.cells #[.int .i64 0, .string ByteArray.empty, .int .i64 0] 62)) w') (hnm : ∀ W, Calls Tryz.prog 105 #[.string N] W fun e w' => e = .returned (.bool false) ∧ W = w') :
    Calls Tryz.prog 94 #[.pointer (some ⟨b, 0, none⟩)] w (EndR none b p s w) := by
  have hbs := h.lt
  have hZ := zV.new w
  have hBa := blw (Below.refl w.heap.size w) (.cells #[.int .i64 0, .string ByteArray.empty, .int .i64 0] 62)
  have c1 : (p : Int) ≤ 1000000000 := by omega
  have HB := Lib.hid hbt; have HN := Lib.hid hnm; clear hbt hnm
  obtain ⟨x0, x1, x2⟩ := h.cells
  go_enter Tryz.func94, Tryz.ntmps94
  go_wp2_with fail
  refine (HB.out).mono ?_; rintro e w1 ⟨rfl, hS1, hO1⟩
  clear x0 x1 x2
  have hZ1 := hZ.only hO1 (fun e => hBn e.symm)
  have hO2 : OnB b w w1 := (Only.of_below hBa).trans hO1
  obtain ⟨v0, v1, v2, v3, v4, v5⟩ := cells_item hZ1
  go_wp2_with fail
  refine (HN.out _).mono ?_; rintro e w2 ⟨rfl, rfl⟩
  obtain ⟨x0, x1, x2⟩ := hS1.cells
  go_upto_region 5 with fail
  have hOt := hO2.setCell ⟨b, 1, none⟩ (.int .i64 (p : Int)) rfl
  have hSt := hS1.set p
  have hWt := (Below.heap_setCell w1 ⟨b, 1, none⟩ (.int .i64 (p : Int)) w.heap.size (fun e => hBn e.symm)).trans hZ1
  clear v0 v1 v2 v3 v4 v5 x0 x1 x2
  generalize (w1.setCell ⟨b, 1, none⟩ (.int .i64 (p : Int))) = wt at *
  obtain ⟨v0, v1, v2, v3, v4, v5⟩ := cells_item hWt
  go_wp2_with fail
  have hWz := heap_set3 (a' := .int .i64 0) (b' := .string ⟨#[]⟩) (c' := .int .i64 0) hWt
  have hBz := ((hOt.setNew (p := ⟨w.heap.size, 0, none⟩) (Nat.le_refl _) (.int .i64 0)).setNew (p := ⟨w.heap.size, 1, none⟩) (Nat.le_refl _) (.string ⟨#[]⟩)).setNew (p := ⟨w.heap.size, 2, none⟩) (Nat.le_refl _) (.int .i64 0)
  have hSz := hSt.only3 hBn (.int .i64 0) (.string ⟨#[]⟩) (.int .i64 0)
  generalize (((wt.setCell ⟨w.heap.size, 0, none⟩ (.int .i64 0)).setCell ⟨w.heap.size, 1, none⟩ (.string ⟨#[]⟩)).setCell ⟨w.heap.size, 2, none⟩ (.int .i64 0)) = wz at *
  obtain ⟨z0, z1, z2, _⟩ := cells_item hWz
  (try simp only [Exit.inBlock, Exit.then])
  refine bodyPost_ret (v := .tuple #[.agg #[.int .i64 0, .string ⟨#[]⟩, .int .i64 0], .bool false]) (by simp [results, Tryz.results94, go_sem, z0, z1, z2]; try rfl) rfl ⟨zI, false, p, rfl, ⟨rfl, rfl, rfl⟩, hSz, hBz⟩
set_option maxHeartbeats 3200000 in
theorem slot_yes (b p : Nat) (s : ByteArray) (w : World) (h : Scn w b s p) (hBn : b ≠ w.heap.size) (hp : p < s.size) (hs : s.size ≤ 1000000000) (n : Nat) (N : ByteArray) (hbt : Calls Tryz.prog 110 #[.pointer (some ⟨b, 0, none⟩), .string ⟨#[123]⟩, .string ⟨#[125]⟩] (w.alloc (.cells #[.int .i64 0, .string ByteArray.empty, .int .i64 0] 62)) fun e w' => e = .returned (.tuple #[.string N, .bool true]) ∧ Scn w' b s (p + n + 2) ∧ OnB b (w.alloc (.cells #[.int .i64 0, .string ByteArray.empty, .int .i64 0] 62)) w') (hnm : ∀ W, Calls Tryz.prog 105 #[.string N] W fun e w' => e = .returned (.bool true) ∧ W = w') :
    Calls Tryz.prog 94 #[.pointer (some ⟨b, 0, none⟩)] w (EndR (some (⟨5, N, 0⟩, n + 2)) b p s w) := by
  have hbs := h.lt
  have hZ := zV.new w
  have hBa := blw (Below.refl w.heap.size w) (.cells #[.int .i64 0, .string ByteArray.empty, .int .i64 0] 62)
  have c1 : (p : Int) ≤ 1000000000 := by omega
  have HB := Lib.hid hbt; have HN := Lib.hid hnm; clear hbt hnm
  obtain ⟨x0, x1, x2⟩ := h.cells
  go_enter Tryz.func94, Tryz.ntmps94
  go_wp2_with fail
  refine (HB.out).mono ?_; rintro e w1 ⟨rfl, hS1, hO1⟩
  clear x0 x1 x2
  have hZ1 := hZ.only hO1 (fun e => hBn e.symm)
  have hO2 : OnB b w w1 := (Only.of_below hBa).trans hO1
  obtain ⟨v0, v1, v2, v3, v4, v5⟩ := cells_item hZ1
  have hS1 : Scn w1 b s (p + (n + 2)) := hS1
  go_wp2_with fail
  refine (HN.out _).mono ?_; rintro e w2 ⟨rfl, rfl⟩
  go_wp2_with fail
  have hWz := heap_set3 (a' := .int .i64 5) (b' := .string N) (c' := .int .i64 0) hZ1
  have hBz := ((hO2.setNew (p := ⟨w.heap.size, 0, none⟩) (Nat.le_refl _) (.int .i64 5)).setNew (p := ⟨w.heap.size, 1, none⟩) (Nat.le_refl _) (.string N)).setNew (p := ⟨w.heap.size, 2, none⟩) (Nat.le_refl _) (.int .i64 0)
  have hSz := hS1.only3 hBn (.int .i64 5) (.string N) (.int .i64 0)
  generalize (((w1.setCell ⟨w.heap.size, 0, none⟩ (.int .i64 5)).setCell ⟨w.heap.size, 1, none⟩ (.string N)).setCell ⟨w.heap.size, 2, none⟩ (.int .i64 0)) = wz at *
  obtain ⟨z0, z1, z2, _⟩ := cells_item hWz
  (try simp only [Exit.inBlock, Exit.then])
  refine bodyPost_ret (v := .tuple #[.agg #[.int .i64 5, .string N, .int .i64 0], .bool true]) (by simp [results, Tryz.results94, go_sem, z0, z1, z2]; try rfl) rfl ⟨⟨5, N, 0⟩, true, p + (n + 2), rfl, ⟨rfl, rfl, rfl⟩, hSz, hBz⟩
theorem readslot_any (b p : Nat) (s : ByteArray) (w : World) (h : Scn w b s p) (hM : Mx w) (hs : s.size ≤ 1000000000) (hp : p < s.size) (h123 : s[p] = 123) :
    Calls Tryz.prog 94 #[.pointer (some ⟨b, 0, none⟩)] w (EndR (rdSlot (s.data.toList.drop (p + 1))) b p s w) := by
  have hbs := h.lt
  have hBn : b ≠ w.heap.size := by omega
  have hBa := blw (Below.refl w.heap.size w) (.cells #[.int .i64 0, .string ByteArray.empty, .int .i64 0] 62)
  have hd := drop_get s p hp
  rw [h123] at hd
  have hbt : Calls Tryz.prog 110 #[.pointer (some ⟨b, 0, none⟩), .string ⟨#[123]⟩, .string ⟨#[125]⟩] _ (EndBt (btw (s.data.toList.drop p) [123] [125]) 2 b p s _) := between_any b p s ⟨#[123]⟩ ⟨#[125]⟩ _ (h.call hBa) (hM.call hBa) hs (by omega) (by decide) (by decide)
  rw [hd, btw_one] at hbt
  have hul := upto_lenD 125 (s.data.toList.drop (p + 1))
  rw [List.length_drop, ll_size] at hul
  unfold rdSlot
  generalize upto 125 (s.data.toList.drop (p + 1)) = u at *
  cases hF : hasU 125 (s.data.toList.drop (p + 1))
  · rw [hF, if_neg (by decide)] at hbt
    rw [if_neg (by simp)]
    exact slot_no b p s w h hBn hp hs hbt
  · rw [hF, if_pos rfl] at hbt
    have hnm := fun W => isname_any (bsL u) W (by unfold maxLen; rw [bsL_size]; omega)
    cases hN : isNm (bsL u)
    · rw [hN] at hnm; rw [if_neg (by simp)]
      exact slot_bad b p s w h hBn hp hs u.length _ hbt hnm
    · rw [hN] at hnm; rw [if_pos ⟨rfl, rfl⟩]
      exact slot_yes b p s w h hBn hp hs u.length _ hbt hnm
set_option maxHeartbeats 3200000 in
theorem inl_no (b p : Nat) (s : ByteArray) (w : World) (h : Scn w b s p) (hBn : b ≠ w.heap.size) (hp : p < s.size) (hs : s.size ≤ 1000000000) (hbt : Calls Tryz.prog 79 #[.pointer (some ⟨b, 0, none⟩)] (w.alloc (.cells #[.int .i64 0, .string ByteArray.empty, .int .i64 0] 62)) fun e w' => e = .returned (.tuple #[.agg #[.int .i64 0, .string ⟨#[]⟩, .int .i64 0], .bool false]) ∧ Scn w' b s p ∧ OnB b (w.alloc (.cells #[.int .i64 0, .string ByteArray.empty, .int .i64 0] 62)) w') :
    Calls Tryz.prog 93 #[.pointer (some ⟨b, 0, none⟩)] w (EndR none b p s w) := by
  have hbs := h.lt
  have hZ := zV.new w
  have hBa := blw (Below.refl w.heap.size w) (.cells #[.int .i64 0, .string ByteArray.empty, .int .i64 0] 62)
  have c1 : (p : Int) ≤ 1000000000 := by omega
  have HB := Lib.hid hbt; clear hbt
  obtain ⟨x0, x1, x2⟩ := h.cells
  go_enter Tryz.func93, Tryz.ntmps93
  go_wp2_with fail
  refine (HB.out).mono ?_; rintro e w1 ⟨rfl, hS1, hO1⟩
  clear x0 x1 x2
  have hZ1 := hZ.only hO1 (fun e => hBn e.symm)
  have hO2 : OnB b w w1 := (Only.of_below hBa).trans hO1
  obtain ⟨v0, v1, v2, v3, v4, v5⟩ := cells_item hZ1
  go_upto_region 3 with fail
  have hWy := heap_set3 (a' := .int .i64 0) (b' := .string ⟨#[]⟩) (c' := .int .i64 0) hZ1
  have hBy := ((hO2.setNew (p := ⟨w.heap.size, 0, none⟩) (Nat.le_refl _) (.int .i64 0)).setNew (p := ⟨w.heap.size, 1, none⟩) (Nat.le_refl _) (.string ⟨#[]⟩)).setNew (p := ⟨w.heap.size, 2, none⟩) (Nat.le_refl _) (.int .i64 0)
  have hSy := hS1.only3 hBn (.int .i64 0) (.string ⟨#[]⟩) (.int .i64 0)
  clear v0 v1 v2 v3 v4 v5
  generalize (((w1.setCell ⟨w.heap.size, 0, none⟩ (.int .i64 0)).setCell ⟨w.heap.size, 1, none⟩ (.string ⟨#[]⟩)).setCell ⟨w.heap.size, 2, none⟩ (.int .i64 0)) = wy at *
  obtain ⟨v0, v1, v2, v3, v4, v5⟩ := cells_item hWy
  obtain ⟨x0, x1, x2⟩ := hSy.cells
  go_upto_region 5 with fail
  have hOt := hBy.setCell ⟨b, 1, none⟩ (.int .i64 (p : Int)) rfl
  have hSt := hSy.set p
  have hWt := (Below.heap_setCell wy ⟨b, 1, none⟩ (.int .i64 (p : Int)) w.heap.size (fun e => hBn e.symm)).trans hWy
  clear v0 v1 v2 v3 v4 v5 x0 x1 x2
  generalize (wy.setCell ⟨b, 1, none⟩ (.int .i64 (p : Int))) = wt at *
  obtain ⟨v0, v1, v2, v3, v4, v5⟩ := cells_item hWt
  go_wp2_with fail
  have hWz := heap_set3 (a' := .int .i64 0) (b' := .string ⟨#[]⟩) (c' := .int .i64 0) hWt
  have hBz := ((hOt.setNew (p := ⟨w.heap.size, 0, none⟩) (Nat.le_refl _) (.int .i64 0)).setNew (p := ⟨w.heap.size, 1, none⟩) (Nat.le_refl _) (.string ⟨#[]⟩)).setNew (p := ⟨w.heap.size, 2, none⟩) (Nat.le_refl _) (.int .i64 0)
  have hSz := hSt.only3 hBn (.int .i64 0) (.string ⟨#[]⟩) (.int .i64 0)
  generalize (((wt.setCell ⟨w.heap.size, 0, none⟩ (.int .i64 0)).setCell ⟨w.heap.size, 1, none⟩ (.string ⟨#[]⟩)).setCell ⟨w.heap.size, 2, none⟩ (.int .i64 0)) = wz at *
  obtain ⟨z0, z1, z2, _⟩ := cells_item hWz
  (try simp only [Exit.inBlock, Exit.then])
  refine bodyPost_ret (v := .tuple #[.agg #[.int .i64 0, .string ⟨#[]⟩, .int .i64 0], .bool false]) (by simp [results, Tryz.results93, go_sem, z0, z1, z2]; try rfl) rfl ⟨zI, false, p, rfl, ⟨rfl, rfl, rfl⟩, hSz, hBz⟩
set_option maxHeartbeats 3200000 in
theorem inl_blk (b p : Nat) (s : ByteArray) (w : World) (h : Scn w b s p) (hBn : b ≠ w.heap.size) (hp : p < s.size) (hs : s.size ≤ 1000000000) (x : It) (n : Nat) (hbt : Calls Tryz.prog 79 #[.pointer (some ⟨b, 0, none⟩)] (w.alloc (.cells #[.int .i64 0, .string ByteArray.empty, .int .i64 0] 62)) fun e w' => e = .returned (.tuple #[.agg #[.int .i64 x.k, .string x.t, .int .i64 x.id], .bool true]) ∧ Scn w' b s (p + n) ∧ OnB b (w.alloc (.cells #[.int .i64 0, .string ByteArray.empty, .int .i64 0] 62)) w') (hnm : ∀ W, Calls Tryz.prog 38 #[.agg #[.int .i64 x.k, .string x.t, .int .i64 x.id]] W fun e w' => e = .returned (.bool true) ∧ Below W.heap.size W w') :
    Calls Tryz.prog 93 #[.pointer (some ⟨b, 0, none⟩)] w (EndR none b p s w) := by
  have hbs := h.lt
  have hZ := zV.new w
  have hBa := blw (Below.refl w.heap.size w) (.cells #[.int .i64 0, .string ByteArray.empty, .int .i64 0] 62)
  have c1 : (p : Int) ≤ 1000000000 := by omega
  have HB := Lib.hid hbt; have HN := Lib.hid hnm; clear hbt hnm
  obtain ⟨x0, x1, x2⟩ := h.cells
  go_enter Tryz.func93, Tryz.ntmps93
  go_wp2_with fail
  refine (HB.out).mono ?_; rintro e w1 ⟨rfl, hS1, hO1⟩
  clear x0 x1 x2
  have hZ1 := hZ.only hO1 (fun e => hBn e.symm)
  have hO2 : OnB b w w1 := (Only.of_below hBa).trans hO1
  obtain ⟨v0, v1, v2, v3, v4, v5⟩ := cells_item hZ1
  go_upto_region 3 with fail
  have hWy := heap_set3 (a' := .int .i64 x.k) (b' := .string x.t) (c' := .int .i64 x.id) hZ1
  have hBy := ((hO2.setNew (p := ⟨w.heap.size, 0, none⟩) (Nat.le_refl _) (.int .i64 x.k)).setNew (p := ⟨w.heap.size, 1, none⟩) (Nat.le_refl _) (.string x.t)).setNew (p := ⟨w.heap.size, 2, none⟩) (Nat.le_refl _) (.int .i64 x.id)
  have hSy := hS1.only3 hBn (.int .i64 x.k) (.string x.t) (.int .i64 x.id)
  clear v0 v1 v2 v3 v4 v5
  generalize (((w1.setCell ⟨w.heap.size, 0, none⟩ (.int .i64 x.k)).setCell ⟨w.heap.size, 1, none⟩ (.string x.t)).setCell ⟨w.heap.size, 2, none⟩ (.int .i64 x.id)) = wy at *
  obtain ⟨v0, v1, v2, v3, v4, v5⟩ := cells_item hWy
  go_wp2_with fail
  refine (HN.out _).mono ?_; rintro e w2 ⟨rfl, hb3⟩
  have hSu := hSy.call hb3
  have hBu : OnB b w w2 := hBy.trans (Only.of_below hb3)
  have hWu := (hb3.block _ (Array.getElem?_eq_some_iff.1 hWy).1).trans hWy
  clear v0 v1 v2 v3 v4 v5
  obtain ⟨v0, v1, v2, v3, v4, v5⟩ := cells_item hWu
  obtain ⟨x0, x1, x2⟩ := hSu.cells
  go_upto_region 5 with fail
  have hOt := hBu.setCell ⟨b, 1, none⟩ (.int .i64 (p : Int)) rfl
  have hSt := hSu.set p
  have hWt := (Below.heap_setCell w2 ⟨b, 1, none⟩ (.int .i64 (p : Int)) w.heap.size (fun e => hBn e.symm)).trans hWu
  clear v0 v1 v2 v3 v4 v5 x0 x1 x2
  generalize (w2.setCell ⟨b, 1, none⟩ (.int .i64 (p : Int))) = wt at *
  obtain ⟨v0, v1, v2, v3, v4, v5⟩ := cells_item hWt
  go_wp2_with fail
  have hWz := heap_set3 (a' := .int .i64 0) (b' := .string ⟨#[]⟩) (c' := .int .i64 0) hWt
  have hBz := ((hOt.setNew (p := ⟨w.heap.size, 0, none⟩) (Nat.le_refl _) (.int .i64 0)).setNew (p := ⟨w.heap.size, 1, none⟩) (Nat.le_refl _) (.string ⟨#[]⟩)).setNew (p := ⟨w.heap.size, 2, none⟩) (Nat.le_refl _) (.int .i64 0)
  have hSz := hSt.only3 hBn (.int .i64 0) (.string ⟨#[]⟩) (.int .i64 0)
  generalize (((wt.setCell ⟨w.heap.size, 0, none⟩ (.int .i64 0)).setCell ⟨w.heap.size, 1, none⟩ (.string ⟨#[]⟩)).setCell ⟨w.heap.size, 2, none⟩ (.int .i64 0)) = wz at *
  obtain ⟨z0, z1, z2, _⟩ := cells_item hWz
  (try simp only [Exit.inBlock, Exit.then])
  refine bodyPost_ret (v := .tuple #[.agg #[.int .i64 0, .string ⟨#[]⟩, .int .i64 0], .bool false]) (by simp [results, Tryz.results93, go_sem, z0, z1, z2]; try rfl) rfl ⟨zI, false, p, rfl, ⟨rfl, rfl, rfl⟩, hSz, hBz⟩
set_option maxHeartbeats 3200000 in
theorem inl_yes (b p : Nat) (s : ByteArray) (w : World) (h : Scn w b s p) (hBn : b ≠ w.heap.size) (hp : p < s.size) (hs : s.size ≤ 1000000000) (x : It) (n : Nat) (hbt : Calls Tryz.prog 79 #[.pointer (some ⟨b, 0, none⟩)] (w.alloc (.cells #[.int .i64 0, .string ByteArray.empty, .int .i64 0] 62)) fun e w' => e = .returned (.tuple #[.agg #[.int .i64 x.k, .string x.t, .int .i64 x.id], .bool true]) ∧ Scn w' b s (p + n) ∧ OnB b (w.alloc (.cells #[.int .i64 0, .string ByteArray.empty, .int .i64 0] 62)) w') (hnm : ∀ W, Calls Tryz.prog 38 #[.agg #[.int .i64 x.k, .string x.t, .int .i64 x.id]] W fun e w' => e = .returned (.bool false) ∧ Below W.heap.size W w') :
    Calls Tryz.prog 93 #[.pointer (some ⟨b, 0, none⟩)] w (EndR (some (x, n)) b p s w) := by
  have hbs := h.lt
  have hZ := zV.new w
  have hBa := blw (Below.refl w.heap.size w) (.cells #[.int .i64 0, .string ByteArray.empty, .int .i64 0] 62)
  have c1 : (p : Int) ≤ 1000000000 := by omega
  have HB := Lib.hid hbt; have HN := Lib.hid hnm; clear hbt hnm
  obtain ⟨x0, x1, x2⟩ := h.cells
  go_enter Tryz.func93, Tryz.ntmps93
  go_wp2_with fail
  refine (HB.out).mono ?_; rintro e w1 ⟨rfl, hS1, hO1⟩
  clear x0 x1 x2
  have hZ1 := hZ.only hO1 (fun e => hBn e.symm)
  have hO2 : OnB b w w1 := (Only.of_below hBa).trans hO1
  obtain ⟨v0, v1, v2, v3, v4, v5⟩ := cells_item hZ1
  go_upto_region 3 with fail
  have hWy := heap_set3 (a' := .int .i64 x.k) (b' := .string x.t) (c' := .int .i64 x.id) hZ1
  have hBy := ((hO2.setNew (p := ⟨w.heap.size, 0, none⟩) (Nat.le_refl _) (.int .i64 x.k)).setNew (p := ⟨w.heap.size, 1, none⟩) (Nat.le_refl _) (.string x.t)).setNew (p := ⟨w.heap.size, 2, none⟩) (Nat.le_refl _) (.int .i64 x.id)
  have hSy := hS1.only3 hBn (.int .i64 x.k) (.string x.t) (.int .i64 x.id)
  clear v0 v1 v2 v3 v4 v5
  generalize (((w1.setCell ⟨w.heap.size, 0, none⟩ (.int .i64 x.k)).setCell ⟨w.heap.size, 1, none⟩ (.string x.t)).setCell ⟨w.heap.size, 2, none⟩ (.int .i64 x.id)) = wy at *
  obtain ⟨v0, v1, v2, v3, v4, v5⟩ := cells_item hWy
  go_wp2_with fail
  refine (HN.out _).mono ?_; rintro e w2 ⟨rfl, hb3⟩
  have hSu := hSy.call hb3
  have hBu : OnB b w w2 := hBy.trans (Only.of_below hb3)
  have hWu := (hb3.block _ (Array.getElem?_eq_some_iff.1 hWy).1).trans hWy
  clear v0 v1 v2 v3 v4 v5
  obtain ⟨v0, v1, v2, v3, v4, v5⟩ := cells_item hWu
  go_wp2_with fail
  have hWz := heap_set3 (a' := .int .i64 x.k) (b' := .string x.t) (c' := .int .i64 x.id) hWu
  have hBz := ((hBu.setNew (p := ⟨w.heap.size, 0, none⟩) (Nat.le_refl _) (.int .i64 x.k)).setNew (p := ⟨w.heap.size, 1, none⟩) (Nat.le_refl _) (.string x.t)).setNew (p := ⟨w.heap.size, 2, none⟩) (Nat.le_refl _) (.int .i64 x.id)
  have hSz := hSu.only3 hBn (.int .i64 x.k) (.string x.t) (.int .i64 x.id)
  generalize (((w2.setCell ⟨w.heap.size, 0, none⟩ (.int .i64 x.k)).setCell ⟨w.heap.size, 1, none⟩ (.string x.t)).setCell ⟨w.heap.size, 2, none⟩ (.int .i64 x.id)) = wz at *
  obtain ⟨z0, z1, z2, _⟩ := cells_item hWz
  (try simp only [Exit.inBlock, Exit.then])
  refine bodyPost_ret (v := .tuple #[.agg #[.int .i64 x.k, .string x.t, .int .i64 x.id], .bool true]) (by simp [results, Tryz.results93, go_sem, z0, z1, z2]; try rfl) rfl ⟨x, true, p + n, rfl, ⟨rfl, rfl, rfl⟩, hSz, hBz⟩
theorem readinline_any (b p : Nat) (s : ByteArray) (w : World) (h : Scn w b s p) (hM : Mx w) (hb1 : b ≠ 1) (hs : s.size ≤ 1000000000) (hp : p < s.size) (h60 : s[p] = 60) :
    Calls Tryz.prog 93 #[.pointer (some ⟨b, 0, none⟩)] w (EndR (inlT (s.data.toList.drop (p + 1))) b p s w) := by
  have hbs := h.lt
  have hBn : b ≠ w.heap.size := by omega
  have hBa := blw (Below.refl w.heap.size w) (.cells #[.int .i64 0, .string ByteArray.empty, .int .i64 0] 62)
  have hbt := readtag_any b p s _ (h.call hBa) (hM.call hBa) hb1 hs hp h60
  have hlen : (s.data.toList.drop (p + 1)).length ≤ 1000000000 := by rw [List.length_drop, ll_size]; omega
  unfold inlT
  cases hr : rdT (s.data.toList.drop (p + 1)) with
  | none =>
    rw [hr] at hbt
    refine inl_no b p s w h hBn hp hs (hbt.mono ?_)
    rintro e w' ⟨x, ok, q, rfl, ⟨rfl, rfl, rfl⟩, h1, h2⟩
    exact ⟨rfl, h1, h2⟩
  | some y =>
    obtain ⟨x, n⟩ := y
    rw [hr] at hbt
    have hxs : x.t.size ≤ maxLen := by
      obtain ⟨u, v, e1, _, _, e2⟩ := rdT_some hr
      injection e2 with e2 e3
      have hul : u.length ≤ 1000000000 := by have := congrArg List.length e1; rw [List.length_append] at this; omega
      rw [e2]; unfold tgM maxLen
      split
      · show (bsL (u.drop 1)).size ≤ _; rw [bsL_size, List.length_drop]; omega
      · split
        · show (bsL u.dropLast).size ≤ _; rw [bsL_size, List.length_dropLast]; omega
        · show (bsL u).size ≤ _; rw [bsL_size]; omega
    have hnm := fun W => hasblock_any x.k x.t x.id W hxs
    have hbt : Calls Tryz.prog 79 #[.pointer (some ⟨b, 0, none⟩)] (w.alloc (.cells #[.int .i64 0, .string ByteArray.empty, .int .i64 0] 62)) fun e w' => e = .returned (.tuple #[.agg #[.int .i64 x.k, .string x.t, .int .i64 x.id], .bool true]) ∧ Scn w' b s (p + n) ∧ OnB b (w.alloc (.cells #[.int .i64 0, .string ByteArray.empty, .int .i64 0] 62)) w' := by
      refine hbt.mono ?_
      rintro e w' ⟨x', ok, q, rfl, ⟨rfl, rfl, rfl⟩, h1, h2⟩
      exact ⟨rfl, h1, h2⟩
    dsimp only
    show Calls _ _ _ _ (EndR (if blkN (nameB x.t) = true then none else some (x, n)) b p s w)
    cases hb : blkN (nameB x.t)
    · rw [hb] at hnm; rw [if_neg (by decide)]
      exact inl_yes b p s w h hBn hp hs x n hbt hnm
    · rw [hb] at hnm; rw [if_pos rfl]
      exact inl_blk b p s w h hBn hp hs x n hbt hnm
end Go.Proofs.YtphkpokoeaagfaaGreatDoor
namespace Go.Proofs.YtphkpokoeaagfaaGreatDoor
open Go.ChangeShapes Go.WideShapes Go.ChangeAt Go.RowKit
set_option linter.unusedVariables false
set_option linter.unusedSimpArgs false
set_option maxRecDepth 100000

theorem hp_take (r w : List UInt8) : hasP (38 :: r) (38 :: w) = decide (r.take w.length = w) := by
  unfold hasP Lib.hasPrefix
  rw [Bool.eq_iff_iff, List.isPrefixOf_iff_prefix, decide_eq_true_iff, List.prefix_iff_eq_take]
  constructor
  · intro h
    have h : 38 :: w = (38 :: r).take (w.length + 1) := h
    rw [List.take_succ_cons] at h
    injection h with _ h; exact h.symm
  · intro h
    show 38 :: w = (38 :: r).take (w.length + 1)
    rw [List.take_succ_cons, h]
set_option maxHeartbeats 3200000 in
theorem ref0 (b p : Nat) (s : ByteArray) (w : World) (h : Scn w b s p) (hBn : b ≠ w.heap.size) (hp : p < s.size) (hs : s.size ≤ 1000000000) (h0 : hasP (s.data.toList.drop p) (⟨#[38, 108, 116, 59]⟩ : ByteArray).data.toList = true) :
    Calls Tryz.prog 95 #[.pointer (some ⟨b, 0, none⟩)] w (EndR (some (⟨1, ⟨#[60]⟩, 0⟩, 4)) b p s w) := by
  have hbs := h.lt
  have hZ := heap_alloc_new w (.cells #[.int .i64 1, .string ByteArray.empty, .int .i64 0] 62)
  have hBa := blw (Below.refl w.heap.size w) (.cells #[.int .i64 1, .string ByteArray.empty, .int .i64 0] 62)
  have hSa := h.call hBa
  have hOa : OnB b w _ := Only.of_below hBa
  have k0 := fun W (hS : Scn W b s p) => skip_any b p s ⟨#[38, 108, 116, 59]⟩ W hS hs (by omega) (by decide)
  rw [h0, if_pos rfl] at k0
  have K0 := Lib.hid k0; clear k0 h0
  go_enter Tryz.func95, Tryz.ntmps95
  go_wp2_with fail
  refine (K0.out _ hSa).mono ?_; rintro e w1 ⟨rfl, hS1, hO1⟩
  have hZ1 := (hO1.block _ (Array.getElem?_eq_some_iff.1 hZ).1 (fun e => hBn e.symm)).trans hZ
  have hP1 : OnB b w w1 := hOa.trans hO1
  obtain ⟨v0, v1, v2, v3, v4, v5⟩ := cells_item hZ1
  go_upto_region 13 with fail
  have hWy := setCell_heap w1 w.heap.size 1 _ 62 (.string ⟨#[60]⟩) hZ1
  have hWy : (w1.setCell ⟨w.heap.size, 1, none⟩ (.string ⟨#[60]⟩)).heap[w.heap.size]? = some (.cells #[.int .i64 1, .string ⟨#[60]⟩, .int .i64 0] 62 (0, 0)) := hWy
  have hBy := hP1.setNew (p := ⟨w.heap.size, 1, none⟩) (Nat.le_refl _) (.string ⟨#[60]⟩)
  have hSy := hS1.same (Below.heap_setCell w1 ⟨w.heap.size, 1, none⟩ (.string ⟨#[60]⟩) b hBn)
  clear v0 v1 v2 v3 v4 v5
  generalize (w1.setCell ⟨w.heap.size, 1, none⟩ (.string ⟨#[60]⟩)) = wy at *
  obtain ⟨v0, v1, v2, v3, v4, v5⟩ := cells_item hWy
  go_wp2_with fail
  have hWz := heap_set3 (a' := .int .i64 1) (b' := .string ⟨#[60]⟩) (c' := .int .i64 0) hWy
  have hBz := ((hBy.setNew (p := ⟨w.heap.size, 0, none⟩) (Nat.le_refl _) (.int .i64 1)).setNew (p := ⟨w.heap.size, 1, none⟩) (Nat.le_refl _) (.string ⟨#[60]⟩)).setNew (p := ⟨w.heap.size, 2, none⟩) (Nat.le_refl _) (.int .i64 0)
  have hSz := hSy.only3 hBn (.int .i64 1) (.string ⟨#[60]⟩) (.int .i64 0)
  generalize (((wy.setCell ⟨w.heap.size, 0, none⟩ (.int .i64 1)).setCell ⟨w.heap.size, 1, none⟩ (.string ⟨#[60]⟩)).setCell ⟨w.heap.size, 2, none⟩ (.int .i64 0)) = wz at *
  obtain ⟨z0, z1, z2, _⟩ := cells_item hWz
  (try simp only [Exit.inBlock, Exit.then])
  refine bodyPost_ret (v := .tuple #[.agg #[.int .i64 1, .string ⟨#[60]⟩, .int .i64 0], .bool true]) (by simp [results, Tryz.results95, go_sem, z0, z1, z2]; try rfl) rfl ⟨⟨1, ⟨#[60]⟩, 0⟩, true, p + 4, rfl, ⟨rfl, rfl, rfl⟩, hSz, hBz⟩
set_option maxHeartbeats 3200000 in
theorem ref1 (b p : Nat) (s : ByteArray) (w : World) (h : Scn w b s p) (hBn : b ≠ w.heap.size) (hp : p < s.size) (hs : s.size ≤ 1000000000) (h0 : hasP (s.data.toList.drop p) (⟨#[38, 108, 116, 59]⟩ : ByteArray).data.toList = false) (h1 : hasP (s.data.toList.drop p) (⟨#[38, 103, 116, 59]⟩ : ByteArray).data.toList = true) :
    Calls Tryz.prog 95 #[.pointer (some ⟨b, 0, none⟩)] w (EndR (some (⟨1, ⟨#[62]⟩, 0⟩, 4)) b p s w) := by
  have hbs := h.lt
  have hZ := heap_alloc_new w (.cells #[.int .i64 1, .string ByteArray.empty, .int .i64 0] 62)
  have hBa := blw (Below.refl w.heap.size w) (.cells #[.int .i64 1, .string ByteArray.empty, .int .i64 0] 62)
  have hSa := h.call hBa
  have hOa : OnB b w _ := Only.of_below hBa
  have k0 := fun W (hS : Scn W b s p) => skip_any b p s ⟨#[38, 108, 116, 59]⟩ W hS hs (by omega) (by decide)
  rw [h0, if_neg (by decide)] at k0
  have K0 := Lib.hid k0; clear k0 h0
  have k1 := fun W (hS : Scn W b s p) => skip_any b p s ⟨#[38, 103, 116, 59]⟩ W hS hs (by omega) (by decide)
  rw [h1, if_pos rfl] at k1
  have K1 := Lib.hid k1; clear k1 h1
  go_enter Tryz.func95, Tryz.ntmps95
  go_wp2_with fail
  refine (K0.out _ hSa).mono ?_; rintro e w1 ⟨rfl, hS1, hO1⟩
  have hZ1 := (hO1.block _ (Array.getElem?_eq_some_iff.1 hZ).1 (fun e => hBn e.symm)).trans hZ
  have hP1 : OnB b w w1 := hOa.trans hO1
  go_wp2_with fail
  refine (K1.out _ hS1).mono ?_; rintro e w2 ⟨rfl, hS2, hO2⟩
  have hZ2 := (hO2.block _ (Array.getElem?_eq_some_iff.1 hZ1).1 (fun e => hBn e.symm)).trans hZ1
  have hP2 : OnB b w w2 := hP1.trans hO2
  obtain ⟨v0, v1, v2, v3, v4, v5⟩ := cells_item hZ2
  go_upto_region 13 with fail
  have hWy := setCell_heap w2 w.heap.size 1 _ 62 (.string ⟨#[62]⟩) hZ2
  have hWy : (w2.setCell ⟨w.heap.size, 1, none⟩ (.string ⟨#[62]⟩)).heap[w.heap.size]? = some (.cells #[.int .i64 1, .string ⟨#[62]⟩, .int .i64 0] 62 (0, 0)) := hWy
  have hBy := hP2.setNew (p := ⟨w.heap.size, 1, none⟩) (Nat.le_refl _) (.string ⟨#[62]⟩)
  have hSy := hS2.same (Below.heap_setCell w2 ⟨w.heap.size, 1, none⟩ (.string ⟨#[62]⟩) b hBn)
  clear v0 v1 v2 v3 v4 v5
  generalize (w2.setCell ⟨w.heap.size, 1, none⟩ (.string ⟨#[62]⟩)) = wy at *
  obtain ⟨v0, v1, v2, v3, v4, v5⟩ := cells_item hWy
  go_wp2_with fail
  have hWz := heap_set3 (a' := .int .i64 1) (b' := .string ⟨#[62]⟩) (c' := .int .i64 0) hWy
  have hBz := ((hBy.setNew (p := ⟨w.heap.size, 0, none⟩) (Nat.le_refl _) (.int .i64 1)).setNew (p := ⟨w.heap.size, 1, none⟩) (Nat.le_refl _) (.string ⟨#[62]⟩)).setNew (p := ⟨w.heap.size, 2, none⟩) (Nat.le_refl _) (.int .i64 0)
  have hSz := hSy.only3 hBn (.int .i64 1) (.string ⟨#[62]⟩) (.int .i64 0)
  generalize (((wy.setCell ⟨w.heap.size, 0, none⟩ (.int .i64 1)).setCell ⟨w.heap.size, 1, none⟩ (.string ⟨#[62]⟩)).setCell ⟨w.heap.size, 2, none⟩ (.int .i64 0)) = wz at *
  obtain ⟨z0, z1, z2, _⟩ := cells_item hWz
  (try simp only [Exit.inBlock, Exit.then])
  refine bodyPost_ret (v := .tuple #[.agg #[.int .i64 1, .string ⟨#[62]⟩, .int .i64 0], .bool true]) (by simp [results, Tryz.results95, go_sem, z0, z1, z2]; try rfl) rfl ⟨⟨1, ⟨#[62]⟩, 0⟩, true, p + 4, rfl, ⟨rfl, rfl, rfl⟩, hSz, hBz⟩
set_option maxHeartbeats 3200000 in
theorem ref2 (b p : Nat) (s : ByteArray) (w : World) (h : Scn w b s p) (hBn : b ≠ w.heap.size) (hp : p < s.size) (hs : s.size ≤ 1000000000) (h0 : hasP (s.data.toList.drop p) (⟨#[38, 108, 116, 59]⟩ : ByteArray).data.toList = false) (h1 : hasP (s.data.toList.drop p) (⟨#[38, 103, 116, 59]⟩ : ByteArray).data.toList = false) (h2 : hasP (s.data.toList.drop p) (⟨#[38, 97, 109, 112, 59]⟩ : ByteArray).data.toList = true) :
    Calls Tryz.prog 95 #[.pointer (some ⟨b, 0, none⟩)] w (EndR (some (⟨1, ⟨#[38]⟩, 0⟩, 5)) b p s w) := by
  have hbs := h.lt
  have hZ := heap_alloc_new w (.cells #[.int .i64 1, .string ByteArray.empty, .int .i64 0] 62)
  have hBa := blw (Below.refl w.heap.size w) (.cells #[.int .i64 1, .string ByteArray.empty, .int .i64 0] 62)
  have hSa := h.call hBa
  have hOa : OnB b w _ := Only.of_below hBa
  have k0 := fun W (hS : Scn W b s p) => skip_any b p s ⟨#[38, 108, 116, 59]⟩ W hS hs (by omega) (by decide)
  rw [h0, if_neg (by decide)] at k0
  have K0 := Lib.hid k0; clear k0 h0
  have k1 := fun W (hS : Scn W b s p) => skip_any b p s ⟨#[38, 103, 116, 59]⟩ W hS hs (by omega) (by decide)
  rw [h1, if_neg (by decide)] at k1
  have K1 := Lib.hid k1; clear k1 h1
  have k2 := fun W (hS : Scn W b s p) => skip_any b p s ⟨#[38, 97, 109, 112, 59]⟩ W hS hs (by omega) (by decide)
  rw [h2, if_pos rfl] at k2
  have K2 := Lib.hid k2; clear k2 h2
  go_enter Tryz.func95, Tryz.ntmps95
  go_wp2_with fail
  refine (K0.out _ hSa).mono ?_; rintro e w1 ⟨rfl, hS1, hO1⟩
  have hZ1 := (hO1.block _ (Array.getElem?_eq_some_iff.1 hZ).1 (fun e => hBn e.symm)).trans hZ
  have hP1 : OnB b w w1 := hOa.trans hO1
  go_wp2_with fail
  refine (K1.out _ hS1).mono ?_; rintro e w2 ⟨rfl, hS2, hO2⟩
  have hZ2 := (hO2.block _ (Array.getElem?_eq_some_iff.1 hZ1).1 (fun e => hBn e.symm)).trans hZ1
  have hP2 : OnB b w w2 := hP1.trans hO2
  go_wp2_with fail
  refine (K2.out _ hS2).mono ?_; rintro e w3 ⟨rfl, hS3, hO3⟩
  have hZ3 := (hO3.block _ (Array.getElem?_eq_some_iff.1 hZ2).1 (fun e => hBn e.symm)).trans hZ2
  have hP3 : OnB b w w3 := hP2.trans hO3
  obtain ⟨v0, v1, v2, v3, v4, v5⟩ := cells_item hZ3
  go_upto_region 13 with fail
  have hWy := setCell_heap w3 w.heap.size 1 _ 62 (.string ⟨#[38]⟩) hZ3
  have hWy : (w3.setCell ⟨w.heap.size, 1, none⟩ (.string ⟨#[38]⟩)).heap[w.heap.size]? = some (.cells #[.int .i64 1, .string ⟨#[38]⟩, .int .i64 0] 62 (0, 0)) := hWy
  have hBy := hP3.setNew (p := ⟨w.heap.size, 1, none⟩) (Nat.le_refl _) (.string ⟨#[38]⟩)
  have hSy := hS3.same (Below.heap_setCell w3 ⟨w.heap.size, 1, none⟩ (.string ⟨#[38]⟩) b hBn)
  clear v0 v1 v2 v3 v4 v5
  generalize (w3.setCell ⟨w.heap.size, 1, none⟩ (.string ⟨#[38]⟩)) = wy at *
  obtain ⟨v0, v1, v2, v3, v4, v5⟩ := cells_item hWy
  go_wp2_with fail
  have hWz := heap_set3 (a' := .int .i64 1) (b' := .string ⟨#[38]⟩) (c' := .int .i64 0) hWy
  have hBz := ((hBy.setNew (p := ⟨w.heap.size, 0, none⟩) (Nat.le_refl _) (.int .i64 1)).setNew (p := ⟨w.heap.size, 1, none⟩) (Nat.le_refl _) (.string ⟨#[38]⟩)).setNew (p := ⟨w.heap.size, 2, none⟩) (Nat.le_refl _) (.int .i64 0)
  have hSz := hSy.only3 hBn (.int .i64 1) (.string ⟨#[38]⟩) (.int .i64 0)
  generalize (((wy.setCell ⟨w.heap.size, 0, none⟩ (.int .i64 1)).setCell ⟨w.heap.size, 1, none⟩ (.string ⟨#[38]⟩)).setCell ⟨w.heap.size, 2, none⟩ (.int .i64 0)) = wz at *
  obtain ⟨z0, z1, z2, _⟩ := cells_item hWz
  (try simp only [Exit.inBlock, Exit.then])
  refine bodyPost_ret (v := .tuple #[.agg #[.int .i64 1, .string ⟨#[38]⟩, .int .i64 0], .bool true]) (by simp [results, Tryz.results95, go_sem, z0, z1, z2]; try rfl) rfl ⟨⟨1, ⟨#[38]⟩, 0⟩, true, p + 5, rfl, ⟨rfl, rfl, rfl⟩, hSz, hBz⟩
set_option maxHeartbeats 3200000 in
theorem ref3 (b p : Nat) (s : ByteArray) (w : World) (h : Scn w b s p) (hBn : b ≠ w.heap.size) (hp : p < s.size) (hs : s.size ≤ 1000000000) (h0 : hasP (s.data.toList.drop p) (⟨#[38, 108, 116, 59]⟩ : ByteArray).data.toList = false) (h1 : hasP (s.data.toList.drop p) (⟨#[38, 103, 116, 59]⟩ : ByteArray).data.toList = false) (h2 : hasP (s.data.toList.drop p) (⟨#[38, 97, 109, 112, 59]⟩ : ByteArray).data.toList = false) (h3 : hasP (s.data.toList.drop p) (⟨#[38, 108, 98, 59]⟩ : ByteArray).data.toList = true) :
    Calls Tryz.prog 95 #[.pointer (some ⟨b, 0, none⟩)] w (EndR (some (⟨1, ⟨#[123]⟩, 0⟩, 4)) b p s w) := by
  have hbs := h.lt
  have hZ := heap_alloc_new w (.cells #[.int .i64 1, .string ByteArray.empty, .int .i64 0] 62)
  have hBa := blw (Below.refl w.heap.size w) (.cells #[.int .i64 1, .string ByteArray.empty, .int .i64 0] 62)
  have hSa := h.call hBa
  have hOa : OnB b w _ := Only.of_below hBa
  have k0 := fun W (hS : Scn W b s p) => skip_any b p s ⟨#[38, 108, 116, 59]⟩ W hS hs (by omega) (by decide)
  rw [h0, if_neg (by decide)] at k0
  have K0 := Lib.hid k0; clear k0 h0
  have k1 := fun W (hS : Scn W b s p) => skip_any b p s ⟨#[38, 103, 116, 59]⟩ W hS hs (by omega) (by decide)
  rw [h1, if_neg (by decide)] at k1
  have K1 := Lib.hid k1; clear k1 h1
  have k2 := fun W (hS : Scn W b s p) => skip_any b p s ⟨#[38, 97, 109, 112, 59]⟩ W hS hs (by omega) (by decide)
  rw [h2, if_neg (by decide)] at k2
  have K2 := Lib.hid k2; clear k2 h2
  have k3 := fun W (hS : Scn W b s p) => skip_any b p s ⟨#[38, 108, 98, 59]⟩ W hS hs (by omega) (by decide)
  rw [h3, if_pos rfl] at k3
  have K3 := Lib.hid k3; clear k3 h3
  go_enter Tryz.func95, Tryz.ntmps95
  go_wp2_with fail
  refine (K0.out _ hSa).mono ?_; rintro e w1 ⟨rfl, hS1, hO1⟩
  have hZ1 := (hO1.block _ (Array.getElem?_eq_some_iff.1 hZ).1 (fun e => hBn e.symm)).trans hZ
  have hP1 : OnB b w w1 := hOa.trans hO1
  go_wp2_with fail
  refine (K1.out _ hS1).mono ?_; rintro e w2 ⟨rfl, hS2, hO2⟩
  have hZ2 := (hO2.block _ (Array.getElem?_eq_some_iff.1 hZ1).1 (fun e => hBn e.symm)).trans hZ1
  have hP2 : OnB b w w2 := hP1.trans hO2
  go_wp2_with fail
  refine (K2.out _ hS2).mono ?_; rintro e w3 ⟨rfl, hS3, hO3⟩
  have hZ3 := (hO3.block _ (Array.getElem?_eq_some_iff.1 hZ2).1 (fun e => hBn e.symm)).trans hZ2
  have hP3 : OnB b w w3 := hP2.trans hO3
  go_wp2_with fail
  refine (K3.out _ hS3).mono ?_; rintro e w4 ⟨rfl, hS4, hO4⟩
  have hZ4 := (hO4.block _ (Array.getElem?_eq_some_iff.1 hZ3).1 (fun e => hBn e.symm)).trans hZ3
  have hP4 : OnB b w w4 := hP3.trans hO4
  obtain ⟨v0, v1, v2, v3, v4, v5⟩ := cells_item hZ4
  go_upto_region 13 with fail
  have hWy := setCell_heap w4 w.heap.size 1 _ 62 (.string ⟨#[123]⟩) hZ4
  have hWy : (w4.setCell ⟨w.heap.size, 1, none⟩ (.string ⟨#[123]⟩)).heap[w.heap.size]? = some (.cells #[.int .i64 1, .string ⟨#[123]⟩, .int .i64 0] 62 (0, 0)) := hWy
  have hBy := hP4.setNew (p := ⟨w.heap.size, 1, none⟩) (Nat.le_refl _) (.string ⟨#[123]⟩)
  have hSy := hS4.same (Below.heap_setCell w4 ⟨w.heap.size, 1, none⟩ (.string ⟨#[123]⟩) b hBn)
  clear v0 v1 v2 v3 v4 v5
  generalize (w4.setCell ⟨w.heap.size, 1, none⟩ (.string ⟨#[123]⟩)) = wy at *
  obtain ⟨v0, v1, v2, v3, v4, v5⟩ := cells_item hWy
  go_wp2_with fail
  have hWz := heap_set3 (a' := .int .i64 1) (b' := .string ⟨#[123]⟩) (c' := .int .i64 0) hWy
  have hBz := ((hBy.setNew (p := ⟨w.heap.size, 0, none⟩) (Nat.le_refl _) (.int .i64 1)).setNew (p := ⟨w.heap.size, 1, none⟩) (Nat.le_refl _) (.string ⟨#[123]⟩)).setNew (p := ⟨w.heap.size, 2, none⟩) (Nat.le_refl _) (.int .i64 0)
  have hSz := hSy.only3 hBn (.int .i64 1) (.string ⟨#[123]⟩) (.int .i64 0)
  generalize (((wy.setCell ⟨w.heap.size, 0, none⟩ (.int .i64 1)).setCell ⟨w.heap.size, 1, none⟩ (.string ⟨#[123]⟩)).setCell ⟨w.heap.size, 2, none⟩ (.int .i64 0)) = wz at *
  obtain ⟨z0, z1, z2, _⟩ := cells_item hWz
  (try simp only [Exit.inBlock, Exit.then])
  refine bodyPost_ret (v := .tuple #[.agg #[.int .i64 1, .string ⟨#[123]⟩, .int .i64 0], .bool true]) (by simp [results, Tryz.results95, go_sem, z0, z1, z2]; try rfl) rfl ⟨⟨1, ⟨#[123]⟩, 0⟩, true, p + 4, rfl, ⟨rfl, rfl, rfl⟩, hSz, hBz⟩
set_option maxHeartbeats 3200000 in
theorem ref4 (b p : Nat) (s : ByteArray) (w : World) (h : Scn w b s p) (hBn : b ≠ w.heap.size) (hp : p < s.size) (hs : s.size ≤ 1000000000) (h0 : hasP (s.data.toList.drop p) (⟨#[38, 108, 116, 59]⟩ : ByteArray).data.toList = false) (h1 : hasP (s.data.toList.drop p) (⟨#[38, 103, 116, 59]⟩ : ByteArray).data.toList = false) (h2 : hasP (s.data.toList.drop p) (⟨#[38, 97, 109, 112, 59]⟩ : ByteArray).data.toList = false) (h3 : hasP (s.data.toList.drop p) (⟨#[38, 108, 98, 59]⟩ : ByteArray).data.toList = false) (h4 : hasP (s.data.toList.drop p) (⟨#[38, 114, 98, 59]⟩ : ByteArray).data.toList = true) :
    Calls Tryz.prog 95 #[.pointer (some ⟨b, 0, none⟩)] w (EndR (some (⟨1, ⟨#[125]⟩, 0⟩, 4)) b p s w) := by
  have hbs := h.lt
  have hZ := heap_alloc_new w (.cells #[.int .i64 1, .string ByteArray.empty, .int .i64 0] 62)
  have hBa := blw (Below.refl w.heap.size w) (.cells #[.int .i64 1, .string ByteArray.empty, .int .i64 0] 62)
  have hSa := h.call hBa
  have hOa : OnB b w _ := Only.of_below hBa
  have k0 := fun W (hS : Scn W b s p) => skip_any b p s ⟨#[38, 108, 116, 59]⟩ W hS hs (by omega) (by decide)
  rw [h0, if_neg (by decide)] at k0
  have K0 := Lib.hid k0; clear k0 h0
  have k1 := fun W (hS : Scn W b s p) => skip_any b p s ⟨#[38, 103, 116, 59]⟩ W hS hs (by omega) (by decide)
  rw [h1, if_neg (by decide)] at k1
  have K1 := Lib.hid k1; clear k1 h1
  have k2 := fun W (hS : Scn W b s p) => skip_any b p s ⟨#[38, 97, 109, 112, 59]⟩ W hS hs (by omega) (by decide)
  rw [h2, if_neg (by decide)] at k2
  have K2 := Lib.hid k2; clear k2 h2
  have k3 := fun W (hS : Scn W b s p) => skip_any b p s ⟨#[38, 108, 98, 59]⟩ W hS hs (by omega) (by decide)
  rw [h3, if_neg (by decide)] at k3
  have K3 := Lib.hid k3; clear k3 h3
  have k4 := fun W (hS : Scn W b s p) => skip_any b p s ⟨#[38, 114, 98, 59]⟩ W hS hs (by omega) (by decide)
  rw [h4, if_pos rfl] at k4
  have K4 := Lib.hid k4; clear k4 h4
  go_enter Tryz.func95, Tryz.ntmps95
  go_wp2_with fail
  refine (K0.out _ hSa).mono ?_; rintro e w1 ⟨rfl, hS1, hO1⟩
  have hZ1 := (hO1.block _ (Array.getElem?_eq_some_iff.1 hZ).1 (fun e => hBn e.symm)).trans hZ
  have hP1 : OnB b w w1 := hOa.trans hO1
  go_wp2_with fail
  refine (K1.out _ hS1).mono ?_; rintro e w2 ⟨rfl, hS2, hO2⟩
  have hZ2 := (hO2.block _ (Array.getElem?_eq_some_iff.1 hZ1).1 (fun e => hBn e.symm)).trans hZ1
  have hP2 : OnB b w w2 := hP1.trans hO2
  go_wp2_with fail
  refine (K2.out _ hS2).mono ?_; rintro e w3 ⟨rfl, hS3, hO3⟩
  have hZ3 := (hO3.block _ (Array.getElem?_eq_some_iff.1 hZ2).1 (fun e => hBn e.symm)).trans hZ2
  have hP3 : OnB b w w3 := hP2.trans hO3
  go_wp2_with fail
  refine (K3.out _ hS3).mono ?_; rintro e w4 ⟨rfl, hS4, hO4⟩
  have hZ4 := (hO4.block _ (Array.getElem?_eq_some_iff.1 hZ3).1 (fun e => hBn e.symm)).trans hZ3
  have hP4 : OnB b w w4 := hP3.trans hO4
  go_wp2_with fail
  refine (K4.out _ hS4).mono ?_; rintro e w5 ⟨rfl, hS5, hO5⟩
  have hZ5 := (hO5.block _ (Array.getElem?_eq_some_iff.1 hZ4).1 (fun e => hBn e.symm)).trans hZ4
  have hP5 : OnB b w w5 := hP4.trans hO5
  obtain ⟨v0, v1, v2, v3, v4, v5⟩ := cells_item hZ5
  go_upto_region 13 with fail
  have hWy := setCell_heap w5 w.heap.size 1 _ 62 (.string ⟨#[125]⟩) hZ5
  have hWy : (w5.setCell ⟨w.heap.size, 1, none⟩ (.string ⟨#[125]⟩)).heap[w.heap.size]? = some (.cells #[.int .i64 1, .string ⟨#[125]⟩, .int .i64 0] 62 (0, 0)) := hWy
  have hBy := hP5.setNew (p := ⟨w.heap.size, 1, none⟩) (Nat.le_refl _) (.string ⟨#[125]⟩)
  have hSy := hS5.same (Below.heap_setCell w5 ⟨w.heap.size, 1, none⟩ (.string ⟨#[125]⟩) b hBn)
  clear v0 v1 v2 v3 v4 v5
  generalize (w5.setCell ⟨w.heap.size, 1, none⟩ (.string ⟨#[125]⟩)) = wy at *
  obtain ⟨v0, v1, v2, v3, v4, v5⟩ := cells_item hWy
  go_wp2_with fail
  have hWz := heap_set3 (a' := .int .i64 1) (b' := .string ⟨#[125]⟩) (c' := .int .i64 0) hWy
  have hBz := ((hBy.setNew (p := ⟨w.heap.size, 0, none⟩) (Nat.le_refl _) (.int .i64 1)).setNew (p := ⟨w.heap.size, 1, none⟩) (Nat.le_refl _) (.string ⟨#[125]⟩)).setNew (p := ⟨w.heap.size, 2, none⟩) (Nat.le_refl _) (.int .i64 0)
  have hSz := hSy.only3 hBn (.int .i64 1) (.string ⟨#[125]⟩) (.int .i64 0)
  generalize (((wy.setCell ⟨w.heap.size, 0, none⟩ (.int .i64 1)).setCell ⟨w.heap.size, 1, none⟩ (.string ⟨#[125]⟩)).setCell ⟨w.heap.size, 2, none⟩ (.int .i64 0)) = wz at *
  obtain ⟨z0, z1, z2, _⟩ := cells_item hWz
  (try simp only [Exit.inBlock, Exit.then])
  refine bodyPost_ret (v := .tuple #[.agg #[.int .i64 1, .string ⟨#[125]⟩, .int .i64 0], .bool true]) (by simp [results, Tryz.results95, go_sem, z0, z1, z2]; try rfl) rfl ⟨⟨1, ⟨#[125]⟩, 0⟩, true, p + 4, rfl, ⟨rfl, rfl, rfl⟩, hSz, hBz⟩
set_option maxHeartbeats 3200000 in
theorem ref5 (b p : Nat) (s : ByteArray) (w : World) (h : Scn w b s p) (hBn : b ≠ w.heap.size) (hp : p < s.size) (hs : s.size ≤ 1000000000) (h0 : hasP (s.data.toList.drop p) (⟨#[38, 108, 116, 59]⟩ : ByteArray).data.toList = false) (h1 : hasP (s.data.toList.drop p) (⟨#[38, 103, 116, 59]⟩ : ByteArray).data.toList = false) (h2 : hasP (s.data.toList.drop p) (⟨#[38, 97, 109, 112, 59]⟩ : ByteArray).data.toList = false) (h3 : hasP (s.data.toList.drop p) (⟨#[38, 108, 98, 59]⟩ : ByteArray).data.toList = false) (h4 : hasP (s.data.toList.drop p) (⟨#[38, 114, 98, 59]⟩ : ByteArray).data.toList = false) :
    Calls Tryz.prog 95 #[.pointer (some ⟨b, 0, none⟩)] w (EndR none b p s w) := by
  have hbs := h.lt
  have hZ := heap_alloc_new w (.cells #[.int .i64 1, .string ByteArray.empty, .int .i64 0] 62)
  have hBa := blw (Below.refl w.heap.size w) (.cells #[.int .i64 1, .string ByteArray.empty, .int .i64 0] 62)
  have hSa := h.call hBa
  have hOa : OnB b w _ := Only.of_below hBa
  have k0 := fun W (hS : Scn W b s p) => skip_any b p s ⟨#[38, 108, 116, 59]⟩ W hS hs (by omega) (by decide)
  rw [h0, if_neg (by decide)] at k0
  have K0 := Lib.hid k0; clear k0 h0
  have k1 := fun W (hS : Scn W b s p) => skip_any b p s ⟨#[38, 103, 116, 59]⟩ W hS hs (by omega) (by decide)
  rw [h1, if_neg (by decide)] at k1
  have K1 := Lib.hid k1; clear k1 h1
  have k2 := fun W (hS : Scn W b s p) => skip_any b p s ⟨#[38, 97, 109, 112, 59]⟩ W hS hs (by omega) (by decide)
  rw [h2, if_neg (by decide)] at k2
  have K2 := Lib.hid k2; clear k2 h2
  have k3 := fun W (hS : Scn W b s p) => skip_any b p s ⟨#[38, 108, 98, 59]⟩ W hS hs (by omega) (by decide)
  rw [h3, if_neg (by decide)] at k3
  have K3 := Lib.hid k3; clear k3 h3
  have k4 := fun W (hS : Scn W b s p) => skip_any b p s ⟨#[38, 114, 98, 59]⟩ W hS hs (by omega) (by decide)
  rw [h4, if_neg (by decide)] at k4
  have K4 := Lib.hid k4; clear k4 h4
  go_enter Tryz.func95, Tryz.ntmps95
  go_wp2_with fail
  refine (K0.out _ hSa).mono ?_; rintro e w1 ⟨rfl, hS1, hO1⟩
  have hZ1 := (hO1.block _ (Array.getElem?_eq_some_iff.1 hZ).1 (fun e => hBn e.symm)).trans hZ
  have hP1 : OnB b w w1 := hOa.trans hO1
  go_wp2_with fail
  refine (K1.out _ hS1).mono ?_; rintro e w2 ⟨rfl, hS2, hO2⟩
  have hZ2 := (hO2.block _ (Array.getElem?_eq_some_iff.1 hZ1).1 (fun e => hBn e.symm)).trans hZ1
  have hP2 : OnB b w w2 := hP1.trans hO2
  go_wp2_with fail
  refine (K2.out _ hS2).mono ?_; rintro e w3 ⟨rfl, hS3, hO3⟩
  have hZ3 := (hO3.block _ (Array.getElem?_eq_some_iff.1 hZ2).1 (fun e => hBn e.symm)).trans hZ2
  have hP3 : OnB b w w3 := hP2.trans hO3
  go_wp2_with fail
  refine (K3.out _ hS3).mono ?_; rintro e w4 ⟨rfl, hS4, hO4⟩
  have hZ4 := (hO4.block _ (Array.getElem?_eq_some_iff.1 hZ3).1 (fun e => hBn e.symm)).trans hZ3
  have hP4 : OnB b w w4 := hP3.trans hO4
  go_wp2_with fail
  refine (K4.out _ hS4).mono ?_; rintro e w5 ⟨rfl, hS5, hO5⟩
  have hZ5 := (hO5.block _ (Array.getElem?_eq_some_iff.1 hZ4).1 (fun e => hBn e.symm)).trans hZ4
  have hP5 : OnB b w w5 := hP4.trans hO5
  obtain ⟨v0, v1, v2, v3, v4, v5⟩ := cells_item hZ5
  go_wp2_with fail
  have hWz := heap_set3 (a' := .int .i64 0) (b' := .string ⟨#[]⟩) (c' := .int .i64 0) hZ5
  have hBz := ((hP5.setNew (p := ⟨w.heap.size, 0, none⟩) (Nat.le_refl _) (.int .i64 0)).setNew (p := ⟨w.heap.size, 1, none⟩) (Nat.le_refl _) (.string ⟨#[]⟩)).setNew (p := ⟨w.heap.size, 2, none⟩) (Nat.le_refl _) (.int .i64 0)
  have hSz := hS5.only3 hBn (.int .i64 0) (.string ⟨#[]⟩) (.int .i64 0)
  generalize (((w5.setCell ⟨w.heap.size, 0, none⟩ (.int .i64 0)).setCell ⟨w.heap.size, 1, none⟩ (.string ⟨#[]⟩)).setCell ⟨w.heap.size, 2, none⟩ (.int .i64 0)) = wz at *
  obtain ⟨z0, z1, z2, _⟩ := cells_item hWz
  (try simp only [Exit.inBlock, Exit.then])
  refine bodyPost_ret (v := .tuple #[.agg #[.int .i64 0, .string ⟨#[]⟩, .int .i64 0], .bool false]) (by simp [results, Tryz.results95, go_sem, z0, z1, z2]; try rfl) rfl ⟨zI, false, p, rfl, ⟨rfl, rfl, rfl⟩, hSz, hBz⟩
theorem readref_any (b p : Nat) (s : ByteArray) (w : World) (h : Scn w b s p) (hs : s.size ≤ 1000000000) (hp : p < s.size) (h38 : s[p] = 38) :
    Calls Tryz.prog 95 #[.pointer (some ⟨b, 0, none⟩)] w (EndR (refR (s.data.toList.drop (p + 1))) b p s w) := by
  have hbs := h.lt
  have hBn : b ≠ w.heap.size := by omega
  have hd := drop_get s p hp
  rw [h38] at hd
  have hx : ∀ v : List UInt8, hasP (s.data.toList.drop p) (38 :: v) = decide ((s.data.toList.drop (p + 1)).take v.length = v) := fun v => by rw [hd, hp_take]
  unfold refR
  by_cases c0 : (s.data.toList.drop (p + 1)).take 3 = [108, 116, 59]
  · rw [if_pos c0]
    exact ref0 b p s w h hBn hp hs ((hx [108, 116, 59]).trans (decide_eq_true c0))
  rw [if_neg c0]
  by_cases c1 : (s.data.toList.drop (p + 1)).take 3 = [103, 116, 59]
  · rw [if_pos c1]
    exact ref1 b p s w h hBn hp hs ((hx [108, 116, 59]).trans (decide_eq_false c0)) ((hx [103, 116, 59]).trans (decide_eq_true c1))
  rw [if_neg c1]
  by_cases c2 : (s.data.toList.drop (p + 1)).take 4 = [97, 109, 112, 59]
  · rw [if_pos c2]
    exact ref2 b p s w h hBn hp hs ((hx [108, 116, 59]).trans (decide_eq_false c0)) ((hx [103, 116, 59]).trans (decide_eq_false c1)) ((hx [97, 109, 112, 59]).trans (decide_eq_true c2))
  rw [if_neg c2]
  by_cases c3 : (s.data.toList.drop (p + 1)).take 3 = [108, 98, 59]
  · rw [if_pos c3]
    exact ref3 b p s w h hBn hp hs ((hx [108, 116, 59]).trans (decide_eq_false c0)) ((hx [103, 116, 59]).trans (decide_eq_false c1)) ((hx [97, 109, 112, 59]).trans (decide_eq_false c2)) ((hx [108, 98, 59]).trans (decide_eq_true c3))
  rw [if_neg c3]
  by_cases c4 : (s.data.toList.drop (p + 1)).take 3 = [114, 98, 59]
  · rw [if_pos c4]
    exact ref4 b p s w h hBn hp hs ((hx [108, 116, 59]).trans (decide_eq_false c0)) ((hx [103, 116, 59]).trans (decide_eq_false c1)) ((hx [97, 109, 112, 59]).trans (decide_eq_false c2)) ((hx [108, 98, 59]).trans (decide_eq_false c3)) ((hx [114, 98, 59]).trans (decide_eq_true c4))
  rw [if_neg c4]
  exact ref5 b p s w h hBn hp hs ((hx [108, 116, 59]).trans (decide_eq_false c0)) ((hx [103, 116, 59]).trans (decide_eq_false c1)) ((hx [97, 109, 112, 59]).trans (decide_eq_false c2)) ((hx [108, 98, 59]).trans (decide_eq_false c3)) ((hx [114, 98, 59]).trans (decide_eq_false c4))

theorem u8_int_ne {a b : UInt8} (h : a ≠ b) : ((a.toNat : Int) == (b.toNat : Int)) = false := by
  rw [beq_eq_false_iff_ne]; intro e; exact h (UInt8.toNat_inj.1 (by omega))
set_option maxHeartbeats 6400000 in
theorem readelem_any (b p : Nat) (s : ByteArray) (w : World) (h : Scn w b s p) (hM : Mx w) (hb1 : b ≠ 1) (hs : s.size ≤ 1000000000) (hp : p < s.size) :
    Calls Tryz.prog 55 #[.pointer (some ⟨b, 0, none⟩)] w (EndR (elM (s.data.toList.drop p)) b p s w) := by
  have hbs := h.lt
  have hBn : b ≠ w.heap.size := by omega
  have hZ := zV.new w
  have hBa := blw (Below.refl w.heap.size w) (.cells #[.int .i64 0, .string ByteArray.empty, .int .i64 0] 62)
  have hS := h.call hBa
  have hMa := hM.call hBa
  have c1 : (p : Int) ≤ 1000000000 := by omega
  have hd := drop_get s p hp
  obtain ⟨x0, x1, x2⟩ := h.cells
  have i0 : (0 : Int) ≤ (p : Int) := by omega
  have i1 : (p : Int) < (s.size : Int) := by omega
  by_cases hc : s[p] = 60
  · have HC := Lib.hid (fun W (hS : Scn W b s p) (hM : Mx W) => readinline_any b p s W hS hM hb1 hs hp hc)
    have ha : (s[p].toNat : Int) = 60 := by rw [hc]; rfl
    rw [hd, hc]
    have HE := Lib.hid (show elM (60 :: s.data.toList.drop (p + 1)) = _ from rfl)
    clear hd
    go_enter Tryz.func55, Tryz.ntmps55
    go_upto_region 1 with fail
    go_quiet (fail)
    have hSq := hS.call (below_qN _ nq)
    have hMq := hMa.call (below_qN _ nq)
    have hZq := hZ.call (below_qN _ nq)
    have hBq : OnB b w _ := Only.of_below (hBa.trans ((below_qN _ nq).mono hBa.size))
    go_wp2_with fail
    refine (HC.out _ hSq hMq).mono ?_
    rintro e w1 ⟨x, ok, q, rfl, hr, hS1, hO1⟩
    have hZ1 := hZq.only hO1 (fun e => hBn e.symm)
    have hO2 : OnB b w w1 := hBq.trans hO1
    have HR := Lib.hid hr
    clear hr x0 x1 x2
    obtain ⟨v0, v1, v2, v3, v4, v5⟩ := cells_item hZ1
    go_wp2_with fail
    have hWz := heap_set3 (a' := .int .i64 x.k) (b' := .string x.t) (c' := .int .i64 x.id) hZ1
    have hBz := ((hO2.setNew (p := ⟨w.heap.size, 0, none⟩) (Nat.le_refl _) (.int .i64 x.k)).setNew (p := ⟨w.heap.size, 1, none⟩) (Nat.le_refl _) (.string x.t)).setNew (p := ⟨w.heap.size, 2, none⟩) (Nat.le_refl _) (.int .i64 x.id)
    have hSz := hS1.only3 hBn (.int .i64 x.k) (.string x.t) (.int .i64 x.id)
    generalize (((w1.setCell ⟨w.heap.size, 0, none⟩ (.int .i64 x.k)).setCell ⟨w.heap.size, 1, none⟩ (.string x.t)).setCell ⟨w.heap.size, 2, none⟩ (.int .i64 x.id)) = wz at *
    obtain ⟨z0, z1, z2, _⟩ := cells_item hWz
    (try simp only [Exit.inBlock, Exit.then])
    refine bodyPost_ret (v := .tuple #[.agg #[.int .i64 x.k, .string x.t, .int .i64 x.id], .bool ok]) (by simp [results, Tryz.results55, go_sem, z0, z1, z2]; try rfl) rfl ⟨x, ok, q, rfl, HR.out, hSz, hBz⟩
  have n60 := u8_int_ne hc
  by_cases hc2 : s[p] = 123
  · have HC := Lib.hid (fun W (hS : Scn W b s p) (hM : Mx W) => readslot_any b p s W hS hM hs hp hc2)
    have ha : (s[p].toNat : Int) = 123 := by rw [hc2]; rfl
    clear n60 hc
    rw [hd, hc2]
    have HE := Lib.hid (show elM (123 :: s.data.toList.drop (p + 1)) = _ from rfl)
    clear hd
    go_enter Tryz.func55, Tryz.ntmps55
    go_upto_region 1 with fail
    go_quiet (fail)
    have hSq := hS.call (below_qN _ nq)
    have hMq := hMa.call (below_qN _ nq)
    have hZq := hZ.call (below_qN _ nq)
    have hBq : OnB b w _ := Only.of_below (hBa.trans ((below_qN _ nq).mono hBa.size))
    go_wp2_with fail
    refine (HC.out _ hSq hMq).mono ?_
    rintro e w1 ⟨x, ok, q, rfl, hr, hS1, hO1⟩
    have hZ1 := hZq.only hO1 (fun e => hBn e.symm)
    have hO2 : OnB b w w1 := hBq.trans hO1
    have HR := Lib.hid hr
    clear hr x0 x1 x2
    obtain ⟨v0, v1, v2, v3, v4, v5⟩ := cells_item hZ1
    go_wp2_with fail
    have hWz := heap_set3 (a' := .int .i64 x.k) (b' := .string x.t) (c' := .int .i64 x.id) hZ1
    have hBz := ((hO2.setNew (p := ⟨w.heap.size, 0, none⟩) (Nat.le_refl _) (.int .i64 x.k)).setNew (p := ⟨w.heap.size, 1, none⟩) (Nat.le_refl _) (.string x.t)).setNew (p := ⟨w.heap.size, 2, none⟩) (Nat.le_refl _) (.int .i64 x.id)
    have hSz := hS1.only3 hBn (.int .i64 x.k) (.string x.t) (.int .i64 x.id)
    generalize (((w1.setCell ⟨w.heap.size, 0, none⟩ (.int .i64 x.k)).setCell ⟨w.heap.size, 1, none⟩ (.string x.t)).setCell ⟨w.heap.size, 2, none⟩ (.int .i64 x.id)) = wz at *
    obtain ⟨z0, z1, z2, _⟩ := cells_item hWz
    (try simp only [Exit.inBlock, Exit.then])
    refine bodyPost_ret (v := .tuple #[.agg #[.int .i64 x.k, .string x.t, .int .i64 x.id], .bool ok]) (by simp [results, Tryz.results55, go_sem, z0, z1, z2]; try rfl) rfl ⟨x, ok, q, rfl, HR.out, hSz, hBz⟩
  have n123 := u8_int_ne hc2
  by_cases hc3 : s[p] = 38
  · have HC := Lib.hid (fun W (hS : Scn W b s p) (hM : Mx W) => readref_any b p s W hS hs hp hc3)
    have ha : (s[p].toNat : Int) = 38 := by rw [hc3]; rfl
    clear n60 n123 hc hc2
    rw [hd, hc3]
    have HE := Lib.hid (show elM (38 :: s.data.toList.drop (p + 1)) = _ from rfl)
    clear hd
    go_enter Tryz.func55, Tryz.ntmps55
    go_upto_region 1 with fail
    go_quiet (fail)
    have hSq := hS.call (below_qN _ nq)
    have hMq := hMa.call (below_qN _ nq)
    have hZq := hZ.call (below_qN _ nq)
    have hBq : OnB b w _ := Only.of_below (hBa.trans ((below_qN _ nq).mono hBa.size))
    go_wp2_with fail
    refine (HC.out _ hSq hMq).mono ?_
    rintro e w1 ⟨x, ok, q, rfl, hr, hS1, hO1⟩
    have hZ1 := hZq.only hO1 (fun e => hBn e.symm)
    have hO2 : OnB b w w1 := hBq.trans hO1
    have HR := Lib.hid hr
    clear hr x0 x1 x2
    obtain ⟨v0, v1, v2, v3, v4, v5⟩ := cells_item hZ1
    go_wp2_with fail
    have hWz := heap_set3 (a' := .int .i64 x.k) (b' := .string x.t) (c' := .int .i64 x.id) hZ1
    have hBz := ((hO2.setNew (p := ⟨w.heap.size, 0, none⟩) (Nat.le_refl _) (.int .i64 x.k)).setNew (p := ⟨w.heap.size, 1, none⟩) (Nat.le_refl _) (.string x.t)).setNew (p := ⟨w.heap.size, 2, none⟩) (Nat.le_refl _) (.int .i64 x.id)
    have hSz := hS1.only3 hBn (.int .i64 x.k) (.string x.t) (.int .i64 x.id)
    generalize (((w1.setCell ⟨w.heap.size, 0, none⟩ (.int .i64 x.k)).setCell ⟨w.heap.size, 1, none⟩ (.string x.t)).setCell ⟨w.heap.size, 2, none⟩ (.int .i64 x.id)) = wz at *
    obtain ⟨z0, z1, z2, _⟩ := cells_item hWz
    (try simp only [Exit.inBlock, Exit.then])
    refine bodyPost_ret (v := .tuple #[.agg #[.int .i64 x.k, .string x.t, .int .i64 x.id], .bool ok]) (by simp [results, Tryz.results55, go_sem, z0, z1, z2]; try rfl) rfl ⟨x, ok, q, rfl, HR.out, hSz, hBz⟩
  have n38 := u8_int_ne hc3
  have he : elM (s.data.toList.drop p) = some (bT s[p], 1) := by rw [hd]; exact elM_text _ _ hc hc2 hc3
  rw [he]
  have hext : s.extract p (p + 1) = ⟨#[s[p]]⟩ := by
    apply ByteArray.ext; apply Array.ext'
    have h1 : (s.extract p (p + 1)).data.toList = (s.data.toList.drop p).take 1 := by simp [ByteArray.extract, ByteArray.copySlice]
    rw [h1, hd]; rfl
  have HX := Lib.hid hext
  have f60 : ((s[p].toNat : Int) == 60) = false := n60
  have f123 : ((s[p].toNat : Int) == 123) = false := n123
  have f38 : ((s[p].toNat : Int) == 38) = false := n38
  clear hd he hext hc hc2 hc3 n60 n123 n38
  go_enter Tryz.func55, Tryz.ntmps55
  go_upto_region 1 with fail
  go_quiet (fail)
  have hZ1 := hZ.call (below_qN _ nq)
  have hS1 := hS.call (below_qN _ nq)
  have hO1 : Only (fun i => i = b) w _ := Only.of_below (BelowOn hBa (below_qN _ nq))
  generalize hW : (w.alloc (.cells #[.int .i64 0, .string ByteArray.empty, .int .i64 0] 62)).drewN nq = W1 at *
  change Exit.then _ _ _ _ ((w.alloc (.cells #[.int .i64 0, .string ByteArray.empty, .int .i64 0] 62)).drewN nq)
  rw [hW]
  clear hW
  clear x0 x1 x2
  obtain ⟨x0, x1, x2⟩ := hS1.cells
  go_upto_region 9 with (fail)
  have hO4 := hO1.setCell ⟨b, 1, none⟩ (.int .i64 ((p + 1 : Nat) : Int)) rfl
  have hS4 := hS1.set (p + 1)
  have hZ4 : zV (W1.setCell ⟨b, 1, none⟩ (.int .i64 ((p + 1 : Nat) : Int))) w.heap.size := hZ1.only ((Only.refl (fun i => i = b) W1).setCell _ _ rfl) (fun e => hBn e.symm)
  change Code.wp _ _ _ _ (W1.setCell ⟨b, 1, none⟩ (.int .i64 ((p + 1 : Nat) : Int)))
  generalize W1.setCell ⟨b, 1, none⟩ (.int .i64 ((p + 1 : Nat) : Int)) = w4 at *
  clear x0 x1 x2
  obtain ⟨x0, x1, x2⟩ := hS4.cells
  obtain ⟨v0, v1, v2, v3, v4, v5⟩ := cells_item hZ4
  have j1 : (p : Int) + 1 ≤ (s.size : Int) := by omega
  have j2 : (p : Int) ≤ (p : Int) + 1 := by omega
  have j3 : (0 : Int) ≤ (p : Int) + 1 := by omega
  have cn : ((p : Int) + 1).toNat = p + 1 := by omega
  have hsub : IntKind.i64.wrap (p : Int) = (p : Int) := IntWalk.i64_in _ ⟨by omega, by omega⟩
  rw [show ((p + 1 : Nat) : Int) = (p : Int) + 1 from rfl] at x1
  have mixed : Tryz.prog.follows .mixedOrders = true := by kernel_rfl
  go_region_o
  all_goals go_wp2_with fail
  rw [HX.out]
  have hWz := heap_set3 (a' := .int .i64 1) (b' := .string ⟨#[s[p]]⟩) (c' := .int .i64 0) hZ4
  have hBz := ((hO4.setNew (p := ⟨w.heap.size, 0, none⟩) (Nat.le_refl _) (.int .i64 1)).setNew (p := ⟨w.heap.size, 1, none⟩) (Nat.le_refl _) (.string ⟨#[s[p]]⟩)).setNew (p := ⟨w.heap.size, 2, none⟩) (Nat.le_refl _) (.int .i64 0)
  have hSz := hS4.only3 hBn (.int .i64 1) (.string ⟨#[s[p]]⟩) (.int .i64 0)
  generalize (((w4.setCell ⟨w.heap.size, 0, none⟩ (.int .i64 1)).setCell ⟨w.heap.size, 1, none⟩ (.string ⟨#[s[p]]⟩)).setCell ⟨w.heap.size, 2, none⟩ (.int .i64 0)) = wz at *
  obtain ⟨z0, z1, z2, _⟩ := cells_item hWz
  (try simp only [Exit.inBlock, Exit.then])
  refine bodyPost_ret (v := .tuple #[.agg #[.int .i64 1, .string ⟨#[s[p]]⟩, .int .i64 0], .bool true]) (by simp [results, Tryz.results55, go_sem, show wz.drew.cell? _ = _ from z0, show wz.drew.cell? _ = _ from z1, show wz.drew.cell? _ = _ from z2]; try rfl) rfl ⟨bT s[p], true, p + 1, rfl, ⟨rfl, rfl, rfl⟩, hSz.drew, hBz.drew⟩
end Go.Proofs.YtphkpokoeaagfaaGreatDoor
