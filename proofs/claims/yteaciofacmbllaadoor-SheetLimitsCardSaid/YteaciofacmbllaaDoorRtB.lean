/- Rows of bytes that a call owns; contracts of strings.Cut at one byte, CutPrefix. The scanner of raw contents: where it lies; contracts of its small methods. Contracts of the scanner of raw contents: what its readers answer. Contracts of the scanner of raw contents: placeholders, elements. -/
import Derived.Test.YteaciofacmbllaaDoorRtA
import Derived.Test.YteaciofacmbllaaDoorCon
import Derived.Test.YteaciofacmbllaaDoorBld
import Derived.Test.YteaciofacmbllaaDoorRvl
import Derived.Test.YteaciofacmbllaaDoorFst
import Derived.Deep.RegionLaw
import Derived.Test.YteaciofacmbllaaDoorName
import Derived.Deep.QuietTactic
import Derived.BigQuiet
import Derived.Lib.QuietBelow
import Derived.Test.YteaciofacmbllaaDoorFrg
import Derived.Lib.SlBytesRow
namespace Go.Proofs.YteaciofacmbllaaDoor
open Go.ChangeShapes Go.WideShapes Go.ChangeAt Go.RowKit
set_option linter.unusedVariables false
set_option linter.unusedSimpArgs false
set_option maxRecDepth 100000


theorem info5' : (Tryd.prog.info? 5).map (fun i => (i.zero, i.size, i.bytes)) = some (some (.int .u8 0), 1, 1) := by kernel_rfl
def benc (c : UInt8) : List Value := [.int .u8 (c.toNat : Int)]
theorem eB : El 22 5 1 1 (.int .u8 0) benc := ⟨Tryd.underlying22, info_parts info5', rfl, by omega, fun _ => rfl, fun x u hu => by simp [benc] at hu; subst hu; rfl⟩
theorem cells_bytes (l : List UInt8) : cellsOf benc l = Lib.byteCells l := by
  unfold cellsOf Lib.byteCells
  induction l with
  | nil => rfl
  | cons x t ih => rw [List.flatMap_cons, ih]; rfl
/-- A slice of bytes that the call owns from block base on. -/
def OwB (base : Nat) (l : List UInt8) (v : Value) (w : World) : Prop := w.ownsRow base 5 1 v l.length (Lib.byteCells l)
theorem OwB.ownL {base : Nat} {l : List UInt8} {v : Value} {w : World} (h : OwB base l v w) : OwnL 5 1 benc base l v w := by unfold OwnL; rw [cells_bytes]; exact h
theorem OwB.of {base : Nat} {l : List UInt8} {v : Value} {w : World} (h : OwnL 5 1 benc base l v w) : OwB base l v w := by unfold OwnL at h; rw [cells_bytes] at h; exact h
theorem OwB.call {base : Nat} {l : List UInt8} {v : Value} {w w1 : World} (h : OwB base l v w) (hb : Below w.heap.size w w1) : OwB base l v w1 := ownsRow_below h hb
theorem OwB.form {base : Nat} {l : List UInt8} {v : Value} {w : World} (h : OwB base l v w) : ∃ a n c, v = .slice a n c := by
  rcases h.2 with ⟨hv, _⟩ | ⟨g, cap, cur, hv, _⟩
  · exact ⟨_, _, _, hv⟩
  · exact ⟨_, _, _, hv⟩
theorem OwB.nil (w : World) (base : Nat) : OwB base [] (.slice none 0 0) w := World.ownsRow_nil _ _ _ _
/-- What appending leaves: a longer row; nothing below base has turned. -/
def EndB (base : Nat) (l : List UInt8) (w : World) (e : Ending) (w' : World) : Prop := ∃ a n c, e = .returned (.slice a n c) ∧ OwB base l (.slice a n c) w' ∧ Below base w w'
/-- append of the bytes of a block to a row that the call owns. -/
theorem wpl_catB (w : World) {ops : Array Oper} {rest : List Oper} {o : Oper} {a : Act} {Q : Exit → Act → World → Prop} (hg : o.guard = none) (s x : Operand)
    (ho : o.op = .call { callee := .builtin .append, args := #[s, x], argTypes := #[22, 22] }) (base : Nat) (L : List UInt8) (v : Value) (hs : a.eval s = v) (h : OwB base L v w) (hbase : base ≤ w.heap.size) (ys : List UInt8) (B m : Nat) (cs : Array Value)
    (hx : a.eval x = .slice (some ⟨B, 0, none⟩) m m) (hB : w.heap[B]? = some (.cells cs 5 (0, 0))) (hcs : cs.toList = Lib.byteCells ys) (hm : ys.length = m) (hm0 : 0 < m) (hlen : L.length + m ≤ 140737488355328)
    (hK : ∀ g cap w', OwB base (L ++ ys) (.slice (some ⟨g, 0, none⟩) (L.length + m) cap) w' → w.grownBy w' v.ownBlock → Below base w w' → wpList Tryd.prog ops Q rest (a.put o.dst (.slice (some ⟨g, 0, none⟩) (L.length + m) cap)) w') : wpList Tryd.prog ops Q (o :: rest) a w := by
  obtain ⟨i, hi, hz0, hz1, hz2⟩ := eB.hi
  refine wpList_append_lies w hg s x 22 ho base 5 i (.int .u8 0) 1 1 eB.ht hi hz0 hz1 hz2 rfl (by omega) v L.length (Lib.byteCells L) hs h ⟨B, 0, none⟩ m m (Lib.byteCells ys) hx (by rw [Lib.byteCells_length]; omega) ?_ (fun u hu => ?_) hm0 (by unfold maxLen; omega) (by omega) hbase _ rfl ?_
  · rw [← hcs]; exact World.news_of_block hB
  · unfold Lib.byteCells at hu; obtain ⟨c, _, rfl⟩ := List.mem_map.1 hu; rfl
  · intro g cap w' h2 h3 h4 h5
    refine hK g cap w' ?_ h3 ((Below.refl base w).grown h3 hbase (fun k hk => (h.lt k hk).1))
    unfold OwB; rw [List.length_append, hm, byteCells_append]; exact h2
theorem step_catB (w : World) {ops : Array Oper} {o : Oper} {a : Act} {K : Act → World → Prop} {Q : Exit → Act → World → Prop} {EE : Prop} (hg : o.guard = none) (s x : Operand)
    (ho : o.op = .call { callee := .builtin .append, args := #[s, x], argTypes := #[22, 22] }) (base : Nat) (L : List UInt8) (v : Value) (hs : a.eval s = v) (h : OwB base L v w) (hbase : base ≤ w.heap.size) (ys : List UInt8) (B m : Nat) (cs : Array Value)
    (hx : a.eval x = .slice (some ⟨B, 0, none⟩) m m) (hB : w.heap[B]? = some (.cells cs 5 (0, 0))) (hcs : cs.toList = Lib.byteCells ys) (hm : ys.length = m) (hm0 : 0 < m) (hlen : L.length + m ≤ 140737488355328)
    (hK : ∀ g cap w', OwB base (L ++ ys) (.slice (some ⟨g, 0, none⟩) (L.length + m) cap) w' → w.grownBy w' v.ownBlock → Below base w w' → K (a.put o.dst (.slice (some ⟨g, 0, none⟩) (L.length + m) cap)) w') :
    if Region.wanted o (yielded ops a.tmps) = true then Oper.wp Tryd.prog o a w K Q else EE := by
  obtain ⟨i, hi, hz0, hz1, hz2⟩ := eB.hi
  refine step_append_lies w hg s x 22 ho base 5 i (.int .u8 0) 1 1 eB.ht hi hz0 hz1 hz2 rfl (by omega) v L.length (Lib.byteCells L) hs h ⟨B, 0, none⟩ m m (Lib.byteCells ys) hx (by rw [Lib.byteCells_length]; omega) ?_ (fun u hu => ?_) hm0 (by unfold maxLen; omega) (by omega) hbase _ rfl ?_
  · rw [← hcs]; exact World.news_of_block hB
  · unfold Lib.byteCells at hu; obtain ⟨c, _, rfl⟩ := List.mem_map.1 hu; rfl
  · intro g cap w' h2 h3 h4 h5
    refine hK g cap w' ?_ h3 ((Below.refl base w).grown h3 hbase (fun k hk => (h.lt k hk).1))
    unfold OwB; rw [List.length_append, hm, byteCells_append]; exact h2
/-- append of a string's bytes to a row that the call owns. -/
theorem wpl_strB (w : World) {ops : Array Oper} {rest : List Oper} {o : Oper} {a : Act} {Q : Exit → Act → World → Prop} (hg : o.guard = none) (s x : Operand)
    (ho : o.op = .call { callee := .builtin .append, args := #[s, x], argTypes := #[22, 9] }) (base : Nat) (L : List UInt8) (v : Value) (hs : a.eval s = v) (h : OwB base L v w) (hbase : base ≤ w.heap.size) (t : ByteArray) (hx : a.eval x = .string t) (hlen : L.length + t.size ≤ 140737488355328)
    (hK : ∀ p n c w', OwB base (L ++ t.data.toList) (.slice p n c) w' → w.grownBy w' v.ownBlock → Below base w w' → wpList Tryd.prog ops Q rest (a.put o.dst (.slice p n c)) w') : wpList Tryd.prog ops Q (o :: rest) a w := by
  refine wpl_append_str hg s x ho base v L.length _ hs h t hx hlen hbase fun v' w' h2 h3 h4 => ?_
  have h5 : OwB base (L ++ t.data.toList) v' w' := by unfold OwB; rw [List.length_append, byteCells_append, ← strCells_eq, show t.data.toList.length = t.size by simp]; exact h2
  obtain ⟨p, n, c, rfl⟩ := h5.form
  exact hK p n c w' h5 h3 ((Below.refl base w).grown h3 hbase (fun k hk => (World.ownsRow.lt h k hk).1))
theorem indexByte_upto (c : UInt8) (l : List UInt8) : Lib.indexByte l c = if hasU c l = true then ((upto c l).length : Int) else -1 := by
  induction l with
  | nil => rfl
  | cons x t ih =>
    rw [Lib.indexByte]
    by_cases hx : x = c
    · subst hx; simp [hasU, upto]
    · have h1 : (x == c) = false := by simpa using hx
      have h2 : (x != c) = true := by simpa using hx
      have e1 : upto c (x :: t) = x :: upto c t := by unfold upto; rw [List.takeWhile_cons, h2, if_pos rfl]
      have e2 : hasU c (x :: t) = hasU c t := by unfold hasU; rw [e1]; simp
      rw [h1, ih, e1, e2]
      cases hh : hasU c t <;> simp
theorem extract_take (s : ByteArray) (n : Nat) : s.extract 0 n = bsL (s.data.toList.take n) := by
  apply ByteArray.ext; unfold bsL; rw [ByteArray.data_extract]; apply Array.ext'; simp
theorem extract_drop (s : ByteArray) (n : Nat) : s.extract n s.size = bsL (s.data.toList.drop n) := by
  apply ByteArray.ext; unfold bsL; rw [ByteArray.data_extract]; apply Array.ext'; simp [List.take_of_length_le]
theorem upto_take (c : UInt8) (l : List UInt8) : l.take (upto c l).length = upto c l := by
  have h : upto c l <+: l := List.takeWhile_prefix _
  exact List.prefix_iff_eq_take.1 h |>.symm
theorem upto_le (c : UInt8) (l : List UInt8) : (upto c l).length ≤ l.length := (List.takeWhile_prefix (p := (· != c)) (l := l)).length_le

theorem scutc_any (s : ByteArray) (c : UInt8) (w : World) (hs : s.size ≤ maxLen) :
    Calls Tryd.prog 134 #[.string s, .string ⟨#[c]⟩] w fun e w' => e = .returned (.tuple #[.string (bsL (upto c s.data.toList)), .string (bsL (aft c s.data.toList)), .bool (hasU c s.data.toList)]) ∧ Below w.heap.size w w' := by
  unfold maxLen at hs
  have hi := Tryd.stringslite_Index_one s c
  rw [indexByte_upto] at hi
  have hle := upto_le c s.data.toList
  have hsz : s.data.toList.length = s.size := by simp
  have hn : s.extract 0 (upto c s.data.toList).length = bsL (upto c s.data.toList) := by rw [extract_take, upto_take]
  have hr : s.extract ((upto c s.data.toList).length + 1) s.size = bsL (aft c s.data.toList) := extract_drop s _
  cases hb : hasU c s.data.toList
  · rw [hb, if_neg (by simp)] at hi
    have hall := (upto_none c _ hb).1
    have h1 : bsL (upto c s.data.toList) = s := by rw [hall, bsL_of]
    have h2 : bsL (aft c s.data.toList) = ByteArray.empty := by unfold aft; rw [hall, List.drop_of_length_le (by omega)]; rfl
    have HI := Lib.hid hi; have HN := Lib.hid h1; have HR := Lib.hid h2
    clear hi hn hr hb hle h1 h2 hall hsz
    go_enter Tryd.func134, Tryd.ntmps134
    go_wp2_with fail
    refine (HI.out _).mono ?_; rintro e w1 ⟨rfl, rfl⟩
    go_wp2_with fail
    go_ret3
    exact ⟨by rw [HN.out, HR.out]; rfl, Below.refl _ _⟩
  · rw [hb, if_pos rfl] at hi
    have hlt : (upto c s.data.toList).length < s.size := by unfold hasU at hb; simpa using hb
    generalize (upto c s.data.toList).length = n at *
    have c0 : (0 : Int) ≤ (n : Int) := by omega
    have c1 : (n : Int) ≤ (s.size : Int) := by omega
    have c2 : (0 : Int) ≤ (n : Int) + 1 := by omega
    have c3 : (n : Int) + 1 ≤ (s.size : Int) := by omega
    have HN := Lib.hid hn; have HR := Lib.hid hr; have HI := Lib.hid hi
    clear hi hb hn hr hle hsz hlt
    have mixed : Tryd.prog.follows .mixedOrders = true := by kernel_rfl
    have cw : IntKind.i64.wrap ((n : Int) + 1) = (n : Int) + 1 := by
      have a1 : (-9223372036854775808 : Int) ≤ (n : Int) + 1 := by omega
      have a2 : (n : Int) + 1 ≤ 9223372036854775807 := by omega
      exact IntWalk.i64_in _ ⟨a1, a2⟩
    have cn : ((n : Int) + 1).toNat = n + 1 := by omega
    go_enter Tryd.func134, Tryd.ntmps134
    go_wp2_with fail
    refine (HI.out _).mono ?_; rintro e w1 ⟨rfl, rfl⟩
    go_wp2_with fail
    go_region_o
    all_goals go_wp2_with fail
    all_goals go_ret3
    all_goals (rw [← HN.out, ← HR.out]; exact ⟨rfl, (Below.refl _ _).drew⟩)
theorem cutc_any (s : ByteArray) (c : UInt8) (w : World) (hs : s.size ≤ maxLen) :
    Calls Tryd.prog 119 #[.string s, .string ⟨#[c]⟩] w fun e w' => e = .returned (.tuple #[.string (bsL (upto c s.data.toList)), .string (bsL (aft c s.data.toList)), .bool (hasU c s.data.toList)]) ∧ Below w.heap.size w w' := by
  have h := fun w => scutc_any s c w hs
  generalize bsL (upto c s.data.toList) = a at *
  generalize bsL (aft c s.data.toList) = b at *
  generalize hasU c s.data.toList = d at *
  have H := Lib.hid h; clear h
  go_enter Tryd.func119, Tryd.ntmps119
  go_wp2_with fail
  refine (H.out _).mono ?_; rintro e w1 ⟨rfl, hb⟩
  go_wp2_with fail
  go_ret3
  exact ⟨rfl, hb⟩
/-- A list's head, off. -/
def hdB (c : UInt8) (l : List UInt8) : Bool := decide (l.head? = some c)
def tlB (c : UInt8) (l : List UInt8) : List UInt8 := if l.head? = some c then l.drop 1 else l
def laB (c : UInt8) (l : List UInt8) : Bool := decide (l.getLast? = some c)
def inB (c : UInt8) (l : List UInt8) : List UInt8 := if l.getLast? = some c then l.dropLast else l
theorem prefix_one (c : UInt8) (l : List UInt8) : Lib.hasPrefix l [c] = hdB c l := by
  unfold Lib.hasPrefix hdB
  rw [Bool.eq_iff_iff, List.isPrefixOf_iff_prefix]
  cases l with
  | nil => simp
  | cons x t => simp [List.cons_prefix_cons, eq_comm]
theorem suffix_one (c : UInt8) (l : List UInt8) : Lib.hasSuffix l [c] = laB c l := by
  unfold Lib.hasSuffix laB
  rw [Bool.eq_iff_iff, List.isSuffixOf_iff_suffix]
  rw [decide_eq_true_iff]
  constructor
  · rintro ⟨t, rfl⟩; simp
  · intro h
    have hne : l ≠ [] := by intro e; rw [e] at h; cases h
    rw [List.getLast?_eq_some_getLast hne] at h
    injection h with h
    exact ⟨l.dropLast, by rw [← h, List.dropLast_concat_getLast]⟩
theorem cutprefix_any (s : ByteArray) (c : UInt8) (w : World) :
    Calls Tryd.prog 59 #[.string s, .string ⟨#[c]⟩] w fun e w' => e = .returned (.tuple #[.string (bsL (tlB c s.data.toList)), .bool (hdB c s.data.toList)]) ∧ w = w' := by
  refine (Tryd.strings_CutPrefix s ⟨#[c]⟩ w).mono fun e w' ⟨he, hw⟩ => ⟨?_, hw.symm⟩
  rw [he]
  have e1 : Lib.trimPrefix s.data.toList [c] = tlB c s.data.toList := by
    unfold Lib.trimPrefix tlB
    rw [prefix_one]
    unfold hdB
    by_cases h : s.data.toList.head? = some c
    · simp [h]
    · simp [h]
  show Ending.returned (.tuple #[.string (bsL (Lib.trimPrefix s.data.toList [c])), .bool (Lib.hasPrefix s.data.toList [c])]) = _
  rw [e1, prefix_one]
end Go.Proofs.YteaciofacmbllaaDoor
namespace Go.Proofs.YteaciofacmbllaaDoor
open Go.ChangeShapes Go.WideShapes Go.ChangeAt Go.RowKit
set_option linter.unusedVariables false
set_option linter.unusedSimpArgs false
set_option maxRecDepth 100000

/-- A scanner in block b: of s, at p. -/
def Scn (W : World) (b : Nat) (s : ByteArray) (p : Nat) : Prop := W.heap[b]? = some (.cells #[.string s, .int .i64 p] 70 (0, 0))
theorem Scn.new (W : World) (s : ByteArray) (p : Nat) : Scn (W.alloc (.cells #[.string s, .int .i64 p] 70)) W.heap.size s p := heap_alloc_new W _
section
variable {W W' : World} {b p : Nat} {s : ByteArray}
theorem Scn.lt (h : Scn W b s p) : b < W.heap.size := (Array.getElem?_eq_some_iff.1 h).1
theorem Scn.same (h : Scn W b s p) (hb : W'.heap[b]? = W.heap[b]?) : Scn W' b s p := hb.trans h
theorem Scn.call (h : Scn W b s p) (hb : Below W.heap.size W W') : Scn W' b s p := h.same (hb.block b h.lt)
theorem Scn.only {S : Nat → Prop} (h : Scn W b s p) (hb : Only S W W') (hn : ¬ S b) : Scn W' b s p := h.same (hb.block b h.lt hn)
theorem Scn.cells (h : Scn W b s p) : W.cell? ⟨b, 0, none⟩ = some (.string s) ∧ W.cell? ⟨b, 1, none⟩ = some (.int .i64 p) ∧ W.frozen? ⟨b, 1, none⟩ = false :=
  ⟨by rw [Lib.cell_of_heap h]; rfl, by rw [Lib.cell_of_heap h]; rfl, Lib.frozen_of_heap h 1⟩
theorem Scn.set (h : Scn W b s p) (q : Nat) : Scn (W.setCell ⟨b, 1, none⟩ (.int .i64 q)) b s q := setCell_heap W b 1 _ _ _ h
end
/-- The end of a call that moves the scanner in block b and turns nothing else. -/
def EndSc (b : Nat) (s : ByteArray) (q : Nat) (w w' : World) : Prop := Scn w' b s q ∧ Only (fun i => i = b) w w'
theorem below_qN (w : World) (n : Nat) : Below w.heap.size w (w.drewN n) := ⟨rfl, rfl, rfl, Nat.le_refl _, fun _ _ => rfl⟩
theorem more_any (b p : Nat) (s : ByteArray) (w : World) (h : Scn w b s p) (hs : s.size ≤ 1000000000000) (hp : p ≤ 1000000000000) :
    Calls Tryd.prog 32 #[.pointer (some ⟨b, 0, none⟩)] w fun e w' => e = .returned (.bool (decide (p < s.size))) ∧ Below w.heap.size w w' := by
  obtain ⟨h0, h1, h2⟩ := h.cells
  go_enter Tryd.func32, Tryd.ntmps32
  go_wp2_with fail
  go_quiet (fail)
  all_goals go_wp2_with fail
  all_goals go_ret
  all_goals exact ⟨rfl, below_qN _ _⟩
theorem rest_any (b p : Nat) (s : ByteArray) (w : World) (h : Scn w b s p) (hs : s.size ≤ 1000000000000) (hp : p ≤ s.size) :
    Calls Tryd.prog 58 #[.pointer (some ⟨b, 0, none⟩)] w fun e w' => e = .returned (.string (s.extract p s.size)) ∧ Below w.heap.size w w' := by
  obtain ⟨h0, h1, h2⟩ := h.cells
  have c0 : (0 : Int) ≤ (p : Int) := by omega
  have c1 : (p : Int) ≤ (s.size : Int) := by omega
  go_enter Tryd.func58, Tryd.ntmps58
  go_wp2_with fail
  go_quiet (fail)
  all_goals go_wp2_with fail
  all_goals go_ret
  all_goals exact ⟨rfl, below_qN _ _⟩

end Go.Proofs.YteaciofacmbllaaDoor
namespace Go.Proofs.YteaciofacmbllaaDoor
open Go.ChangeShapes Go.WideShapes Go.ChangeAt Go.RowKit
set_option linter.unusedVariables false
set_option linter.unusedSimpArgs false
set_option maxRecDepth 100000

/-- No item. -/
def zI : It := ⟨0, .empty, 0⟩
/-- The result's variable, zero. -/
def zV (W : World) (b : Nat) : Prop := W.heap[b]? = some (.cells #[.int .i64 0, .string ByteArray.empty, .int .i64 0] 58 (0, 0))
theorem zV.new (W : World) : zV (W.alloc (.cells #[.int .i64 0, .string ByteArray.empty, .int .i64 0] 58)) W.heap.size := heap_alloc_new W _
theorem zV.call {W w1 : World} {b : Nat} (h : zV W b) (hb : Below W.heap.size W w1) : zV w1 b := (hb.block b (Array.getElem?_eq_some_iff.1 h).1).trans h
theorem zV.only {S : Nat → Prop} {W w1 : World} {b : Nat} (h : zV W b) (hb : Only S W w1) (hn : ¬ S b) : zV w1 b := (hb.block b (Array.getElem?_eq_some_iff.1 h).1 hn).trans h
/-- A store into a block that is newer than the old world. -/
theorem Only.setNew {S : Nat → Prop} {a b : World} (h : Only S a b) {p : Addr} (hp : a.heap.size ≤ p.block) (v : Value) : Only S a (b.setCell p v) :=
  ⟨h.os, h.tape, h.output, by simpa [World.setCell] using h.size, fun i hi hs => by rw [Below.heap_setCell _ _ _ _ (by omega)]; exact h.block i hi hs⟩
theorem Only.drew {S : Nat → Prop} {a b : World} (h : Only S a b) : Only S a b.drew := ⟨h.os, h.tape, h.output, h.size, h.block⟩
theorem Scn.drew {W : World} {b p : Nat} {s : ByteArray} (h : Scn W b s p) : Scn W.drew b s p := h
theorem Scn.only3 {W : World} {b p : Nat} {s : ByteArray} (h : Scn W b s p) {B : Nat} (hn : b ≠ B) (x y z : Value) : Scn (((W.setCell ⟨B, 0, none⟩ x).setCell ⟨B, 1, none⟩ y).setCell ⟨B, 2, none⟩ z) b s p :=
  h.same (by rw [Below.heap_setCell _ _ _ _ hn, Below.heap_setCell _ _ _ _ hn, Below.heap_setCell _ _ _ _ hn])
theorem u8_int_ne {a b : UInt8} (h : a ≠ b) : ((a.toNat : Int) == (b.toNat : Int)) = false := by
  rw [beq_eq_false_iff_ne]; intro e; exact h (UInt8.toNat_inj.1 (by omega))
theorem u8_int_eq {a b : UInt8} (h : a = b) : ((a.toNat : Int) == (b.toNat : Int)) = true := by rw [h]; simp
/-- What a reader of the scanner answers: an item, whether there is one; where the scanner then stands. -/
def RdOk (o : Option (It × Nat)) (p : Nat) (x : It) (ok : Bool) (q : Nat) : Prop := match o with | some y => x = y.1 ∧ ok = true ∧ q = p + y.2 | none => x = zI ∧ ok = false ∧ q = p
def EndR (o : Option (It × Nat)) (b p : Nat) (s : ByteArray) (w : World) (e : Ending) (w' : World) : Prop :=
  ∃ (x : It) (ok : Bool) (q : Nat), e = .returned (.tuple #[.agg #[.int .i64 x.k, .string x.t, .int .i64 x.id], .bool ok]) ∧ RdOk o p x ok q ∧ Scn w' b s q ∧ Only (fun i => i = b) w w'

/-- The item at the beginning, where one stands there. -/
def elX (l : List UInt8) : Option (It × Nat) := match elS l with | some (some x, n) => some (x, n) | _ => none
theorem drop_get (s : ByteArray) (p : Nat) (h : p < s.size) : s.data.toList.drop p = s[p] :: s.data.toList.drop (p + 1) := by
  have hl : p < s.data.toList.length := by simpa using h
  rw [List.drop_eq_getElem_cons hl]
  congr 1
theorem ext_dropL (s : ByteArray) (p : Nat) : (s.extract p s.size).data.toList = s.data.toList.drop p := by rw [extract_drop, bsL_list]
theorem elX_34 (r : List UInt8) : elX (34 :: 34 :: r) = some (bT 34, 2) := by unfold elX; rw [elS_34]
theorem elX_34n (r : List UInt8) (h : r.head? ≠ some 34) : elX (34 :: r) = none := by unfold elX; rw [elS_34n r h]
theorem elX_123 (r : List UInt8) : elX (123 :: 123 :: r) = some (bT 123, 2) := by unfold elX; rw [elS_123]
theorem elX_slot (r : List UInt8) (h : r.head? ≠ some 123) : elX (123 :: r) = rdSlot r := by
  unfold elX; rw [elS_slotR r h]; cases rdSlot r <;> rfl
theorem elX_text (c : UInt8) (r : List UInt8) (h1 : c ≠ 34) (h2 : c ≠ 123) : elX (c :: r) = some (bT c, 1) := by
  unfold elX; rw [elS_text c r h1 h2]
/-- Does a list begin with two bytes? -/
def twoB (a b : UInt8) (l : List UInt8) : Bool := decide (l.head? = some a) && decide (l.tail.head? = some b)
theorem twoB_yes (a b : UInt8) (t : List UInt8) (h : t.head? = some b) : twoB a b (a :: t) = true := by
  unfold twoB; rw [List.head?_cons, List.tail_cons, decide_eq_true rfl, decide_eq_true h]; rfl
theorem twoB_no1 {a b c : UInt8} (t : List UInt8) (h : c ≠ a) : twoB a b (c :: t) = false := by
  unfold twoB; rw [List.head?_cons, decide_eq_false (fun e => h (Option.some.inj e)), Bool.false_and]
theorem twoB_no2 (a b c : UInt8) (t : List UInt8) (h : t.head? ≠ some b) : twoB a b (c :: t) = false := by
  unfold twoB; rw [List.tail_cons, decide_eq_false h, Bool.and_false]
theorem twoB_nil (a b : UInt8) : twoB a b [] = false := rfl
theorem prefix_two (a b : UInt8) (l : List UInt8) : Lib.hasPrefix l [a, b] = twoB a b l := by
  unfold Lib.hasPrefix twoB
  rw [Bool.eq_iff_iff, List.isPrefixOf_iff_prefix, Bool.and_eq_true, decide_eq_true_iff, decide_eq_true_iff]
  cases l with
  | nil => simp
  | cons x t =>
    cases t with
    | nil => simp [List.cons_prefix_cons]
    | cons y u => simp [List.cons_prefix_cons, eq_comm]
theorem prefix2_any (s : ByteArray) (a b : UInt8) (w : World) :
    Calls Tryd.prog 94 #[.string s, .string ⟨#[a, b]⟩] w fun e w' => e = .returned (.bool (twoB a b s.data.toList)) ∧ w = w' := by
  refine (Tryd.strings_HasPrefix s ⟨#[a, b]⟩ w).mono fun e w' ⟨he, hw⟩ => ⟨?_, hw.symm⟩
  rw [he, ← prefix_two]
end Go.Proofs.YteaciofacmbllaaDoor
namespace Go.Proofs.YteaciofacmbllaaDoor
open Go.ChangeShapes Go.WideShapes Go.ChangeAt Go.RowKit
set_option linter.unusedVariables false
set_option linter.unusedSimpArgs false
set_option maxRecDepth 100000

set_option maxHeartbeats 1600000 in
theorem readslot_any (b p : Nat) (s : ByteArray) (w : World) (h : Scn w b s p) (hs : s.size ≤ 1000000000000) (hp : p < s.size) (h123 : s[p] = 123) (hnx : (s.data.toList.drop (p + 1)).head? ≠ some 123) :
    Calls Tryd.prog 99 #[.pointer (some ⟨b, 0, none⟩)] w (EndR (elX (s.data.toList.drop p)) b p s w) := by
  have hbs := h.lt
  have hBn : b ≠ w.heap.size := by omega
  have hR := fun W (hS : Scn W b s p) => rest_any b p s W hS hs (by omega)
  have hZ := zV.new w
  have hS := h.call (blw (Below.refl _ _) (.cells #[.int .i64 0, .string ByteArray.empty, .int .i64 0] 58))
  have hBa := blw (Below.refl w.heap.size w) (.cells #[.int .i64 0, .string ByteArray.empty, .int .i64 0] 58)
  have c1 : (p : Int) ≤ 1000000000000 := by omega
  have hrs : (s.extract p s.size).size = s.size - p := by simp
  have hd := drop_get s p hp
  rw [h123] at hd
  have he := elX_slot (s.data.toList.drop (p + 1)) hnx
  clear hnx
  rw [← hd] at he
  have hcut : (s.extract p s.size).extract 1 (s.extract p s.size).size = s.extract (p + 1) s.size := by
    rw [hrs, ByteArray.extract_extract]; congr 1; omega
  have hcc := fun W => cutc_any (s.extract (p + 1) s.size) 125 W (by unfold maxLen; simp; omega)
  rw [ext_dropL] at hcc
  have hul := upto_le 125 (s.data.toList.drop (p + 1))
  rw [List.length_drop] at hul
  have hll : s.data.toList.length = s.size := by simp
  have hus : (bsL (upto 125 (s.data.toList.drop (p + 1)))).size = (upto 125 (s.data.toList.drop (p + 1))).length := bsL_size _
  have hnm := fun (u : ByteArray) W (h : u.size ≤ maxLen) => isname_any u W h
  unfold rdSlot at he
  generalize hU : upto 125 (s.data.toList.drop (p + 1)) = u at *
  generalize hasU 125 (s.data.toList.drop (p + 1)) = F at *
  generalize bsL (aft 125 (s.data.toList.drop (p + 1))) = rest at *
  obtain ⟨R, hRR⟩ : ∃ R, R = s.extract p s.size := ⟨_, rfl⟩
  obtain ⟨R1, hR1⟩ : ∃ R1, R1 = s.extract (p + 1) s.size := ⟨_, rfl⟩
  rw [← hRR] at hR
  rw [← hRR, ← hR1] at hcut
  rw [← hR1] at hcc
  have hl1 : (1 : Int) ≤ (R.size : Int) := by rw [hRR, hrs]; omega
  generalize hnn : u.length = n at *
  generalize hN : bsL u = N at *
  have hNs : N.size ≤ 1000000000000 := by omega
  have hn := fun W => hnm N W (by unfold maxLen; omega)
  have HCUT := Lib.hid hcut; have HR := Lib.hid hR; have HC := Lib.hid hcc
  clear hnm hcut hR hcc hRR hR1 hrs hd hul hll hU
  cases F
  · have he2 : elX (s.data.toList.drop p) = none := by rw [he, if_neg (by simp)]
    have HE := Lib.hid he2
    clear he he2 hn hnn hN
    have hcut := HCUT.out
    go_enter Tryd.func99, Tryd.ntmps99
    go_wp2_with fail
    refine (HR.out _ hS).mono ?_; rintro e w1 ⟨rfl, hb⟩
    go_wp2_with fail
    refine (HC.out _).mono ?_; rintro e w2 ⟨rfl, hb2⟩
    have hZ1 := (hZ.call hb).call hb2
    have hS1 := (hS.call hb).call hb2
    have hO1 : Only (fun i => i = b) w w2 := Only.of_below (BelowOn (BelowOn hBa hb) hb2)
    obtain ⟨v0, v1, v2, v3, v4, v5⟩ := cells_item hZ1
    go_wp2_with fail
    have hWz := heap_set3 (a' := .int .i64 0) (b' := .string ⟨#[]⟩) (c' := .int .i64 0) hZ1
    have hBz := ((hO1.setNew (p := ⟨w.heap.size, 0, none⟩) (Nat.le_refl _) (.int .i64 0)).setNew (p := ⟨w.heap.size, 1, none⟩) (Nat.le_refl _) (.string ⟨#[]⟩)).setNew (p := ⟨w.heap.size, 2, none⟩) (Nat.le_refl _) (.int .i64 0)
    have hSz := hS1.only3 hBn (.int .i64 0) (.string ⟨#[]⟩) (.int .i64 0)
    generalize (((w2.setCell ⟨w.heap.size, 0, none⟩ (.int .i64 0)).setCell ⟨w.heap.size, 1, none⟩ (.string ⟨#[]⟩)).setCell ⟨w.heap.size, 2, none⟩ (.int .i64 0)) = wz at *
    obtain ⟨z0, z1, z2, _⟩ := cells_item hWz
    (try simp only [Exit.inBlock, Exit.then])
    refine bodyPost_ret (v := .tuple #[.agg #[.int .i64 0, .string ⟨#[]⟩, .int .i64 0], .bool false]) (by simp [results, Tryd.results99, go_sem, z0, z1, z2]; try rfl) rfl ⟨⟨0, ⟨#[]⟩, 0⟩, false, p, rfl, (by rw [HE.out]; exact ⟨rfl, rfl, rfl⟩), hSz, hBz⟩
  · cases hnb : isNm N
    · have he2 : elX (s.data.toList.drop p) = none := by rw [he, if_neg (by rw [hnb]; simp)]
      rw [hnb] at hn
      have HE := Lib.hid he2; have HN := Lib.hid hn
      clear he he2 hn hnn hN hnb
      have hcut := HCUT.out
      go_enter Tryd.func99, Tryd.ntmps99
      go_wp2_with fail
      refine (HR.out _ hS).mono ?_; rintro e w1 ⟨rfl, hb⟩
      go_wp2_with fail
      refine (HC.out _).mono ?_; rintro e w2 ⟨rfl, hb2⟩
      go_wp2_with fail
      refine (HN.out _).mono ?_; rintro e w3 ⟨rfl, rfl⟩
      have hZ1 := (hZ.call hb).call hb2
      have hS1 := (hS.call hb).call hb2
      have hO1 : Only (fun i => i = b) w w2 := Only.of_below (BelowOn (BelowOn hBa hb) hb2)
      obtain ⟨v0, v1, v2, v3, v4, v5⟩ := cells_item hZ1
      go_wp2_with fail
      have hWz := heap_set3 (a' := .int .i64 0) (b' := .string ⟨#[]⟩) (c' := .int .i64 0) hZ1
      have hBz := ((hO1.setNew (p := ⟨w.heap.size, 0, none⟩) (Nat.le_refl _) (.int .i64 0)).setNew (p := ⟨w.heap.size, 1, none⟩) (Nat.le_refl _) (.string ⟨#[]⟩)).setNew (p := ⟨w.heap.size, 2, none⟩) (Nat.le_refl _) (.int .i64 0)
      have hSz := hS1.only3 hBn (.int .i64 0) (.string ⟨#[]⟩) (.int .i64 0)
      generalize (((w2.setCell ⟨w.heap.size, 0, none⟩ (.int .i64 0)).setCell ⟨w.heap.size, 1, none⟩ (.string ⟨#[]⟩)).setCell ⟨w.heap.size, 2, none⟩ (.int .i64 0)) = wz at *
      obtain ⟨z0, z1, z2, _⟩ := cells_item hWz
      (try simp only [Exit.inBlock, Exit.then])
      refine bodyPost_ret (v := .tuple #[.agg #[.int .i64 0, .string ⟨#[]⟩, .int .i64 0], .bool false]) (by simp [results, Tryd.results99, go_sem, z0, z1, z2]; try rfl) rfl ⟨⟨0, ⟨#[]⟩, 0⟩, false, p, rfl, (by rw [HE.out]; exact ⟨rfl, rfl, rfl⟩), hSz, hBz⟩
    · have he2 : elX (s.data.toList.drop p) = some (⟨5, N, 0⟩, n + 2) := by rw [he, if_pos ⟨rfl, hnb⟩]
      rw [hnb] at hn
      have hnz : N.size = n := hus
      have HE := Lib.hid he2; have HN := Lib.hid hn
      have hq : IntKind.i64.wrap ((p : Int) + (1 + (N.size : Int) + 1)) = ((p + (n + 2) : Nat) : Int) := by rw [hnz]; rw [IntWalk.i64_in _ ⟨by omega, by omega⟩]; omega
      have hq2 : (p : Int) + (1 + (N.size : Int) + 1) = ((p + (n + 2) : Nat) : Int) := by rw [hnz]; omega
      have hn0 : (N.size : Int) ≤ 1000000000000 := by omega
      have HQ := Lib.hid hq; have HQ2 := Lib.hid hq2
      clear he he2 hn hnn hN hnb hus hq hq2 hnz
      have hcut := HCUT.out
      go_enter Tryd.func99, Tryd.ntmps99
      go_wp2_with fail
      refine (HR.out _ hS).mono ?_; rintro e w1 ⟨rfl, hb⟩
      go_wp2_with fail
      refine (HC.out _).mono ?_; rintro e w2 ⟨rfl, hb2⟩
      go_wp2_with fail
      refine (HN.out _).mono ?_; rintro e w3 ⟨rfl, rfl⟩
      have hZ1 := (hZ.call hb).call hb2
      have hS1 := (hS.call hb).call hb2
      have hO1 : Only (fun i => i = b) w w2 := Only.of_below (BelowOn (BelowOn hBa hb) hb2)
      obtain ⟨v0, v1, v2, v3, v4, v5⟩ := cells_item hZ1
      obtain ⟨x0, x1, x2⟩ := hS1.cells
      go_wp2_with fail
      rw [HQ2.out]
      have hO4 := hO1.setCell ⟨b, 1, none⟩ (.int .i64 ((p + (n + 2) : Nat) : Int)) rfl
      have hS4 := hS1.set (p + (n + 2))
      have hZ4 : zV (w2.setCell ⟨b, 1, none⟩ (.int .i64 ((p + (n + 2) : Nat) : Int))) w.heap.size := hZ1.only ((Only.refl (fun i => i = b) w2).setCell _ _ rfl) (fun e => hBn e.symm)
      generalize w2.setCell ⟨b, 1, none⟩ (.int .i64 ((p + (n + 2) : Nat) : Int)) = w4 at *
      have hWz := heap_set3 (a' := .int .i64 5) (b' := .string N) (c' := .int .i64 0) hZ4
      have hBz := ((hO4.setNew (p := ⟨w.heap.size, 0, none⟩) (Nat.le_refl _) (.int .i64 5)).setNew (p := ⟨w.heap.size, 1, none⟩) (Nat.le_refl _) (.string N)).setNew (p := ⟨w.heap.size, 2, none⟩) (Nat.le_refl _) (.int .i64 0)
      have hSz := hS4.only3 hBn (.int .i64 5) (.string N) (.int .i64 0)
      generalize (((w4.setCell ⟨w.heap.size, 0, none⟩ (.int .i64 5)).setCell ⟨w.heap.size, 1, none⟩ (.string N)).setCell ⟨w.heap.size, 2, none⟩ (.int .i64 0)) = wz at *
      obtain ⟨z0, z1, z2, _⟩ := cells_item hWz
      (try simp only [Exit.inBlock, Exit.then])
      refine bodyPost_ret (v := .tuple #[.agg #[.int .i64 5, .string N, .int .i64 0], .bool true]) (by simp [results, Tryd.results99, go_sem, z0, z1, z2]; try rfl) rfl ⟨⟨5, N, 0⟩, true, p + (n + 2), rfl, (by rw [HE.out]; exact ⟨rfl, rfl, rfl⟩), hSz, hBz⟩
set_option maxHeartbeats 3200000 in
theorem rdelem_any (b p : Nat) (s : ByteArray) (w : World) (h : Scn w b s p) (hs : s.size ≤ 1000000000000) (hp : p < s.size) :
    Calls Tryd.prog 72 #[.pointer (some ⟨b, 0, none⟩)] w (EndR (elX (s.data.toList.drop p)) b p s w) := by
  have hbs := h.lt
  have hBn : b ≠ w.heap.size := by omega
  have hR := fun W (hS : Scn W b s p) => rest_any b p s W hS hs (by omega)
  have hZ := zV.new w
  have hS := h.call (blw (Below.refl _ _) (.cells #[.int .i64 0, .string ByteArray.empty, .int .i64 0] 58))
  have hBa := blw (Below.refl w.heap.size w) (.cells #[.int .i64 0, .string ByteArray.empty, .int .i64 0] 58)
  have c1 : (p : Int) ≤ 1000000000000 := by omega
  have hd := drop_get s p hp
  have hrs : (s.extract p s.size).size = s.size - p := by simp
  have hA := fun W => prefix2_any (s.extract p s.size) 34 34 W
  have hB := fun W => prefix2_any (s.extract p s.size) 123 123 W
  rw [ext_dropL] at hA hB
  have hx : ∀ (R : ByteArray) (e : R = s.extract p s.size) (hl : 0 < R.size), R[0] = s[p] := fun R e hl => by subst e; simp [ByteArray.getElem_extract]
  have hcut : ∀ (R : ByteArray) (e : R = s.extract p s.size), R.extract 0 1 = ⟨#[s[p]]⟩ := fun R e => by
    subst e
    rw [extract_take, ext_dropL, hd]; rfl
  obtain ⟨R, hRR⟩ : ∃ R, R = s.extract p s.size := ⟨_, rfl⟩
  rw [← hRR] at hR hA hB hrs
  have hl0 : 0 < R.size := by omega
  have hl1 : (1 : Int) ≤ (R.size : Int) := by omega
  have hl2 : (0 : Int) < (R.size : Int) := by omega
  have h0 := hx R hRR hl0
  have HCUT := Lib.hid (hcut R hRR)
  have HR := Lib.hid hR
  clear hx hcut hRR hR hrs
  have hslot := fun (h123 : s[p] = 123) (hn : (s.data.toList.drop (p + 1)).head? ≠ some 123) W (hS : Scn W b s p) => readslot_any b p s W hS hs hp h123 hn
  have HSL := Lib.hid hslot
  clear hslot
  rw [hd] at hA hB
  generalize hT : s.data.toList.drop (p + 1) = T at *
  by_cases h34 : s[p] = 34
  · by_cases hn : T.head? = some 34
    · have he : elX (s.data.toList.drop p) = some (bT s[p], 2) := by
        rw [hd, h34]
        cases T with
        | nil => cases hn
        | cons d t => injection hn with hn; subst hn; exact elX_34 t
      have HE := Lib.hid he
      rw [h34, twoB_yes 34 34 T hn] at hA
      have HA := Lib.hid hA
      clear he hA hB hd h34 hn hT h0
      go_enter Tryd.func72, Tryd.ntmps72
      go_wp2_with fail
      refine (HR.out _ hS).mono ?_; rintro e w1 ⟨rfl, hb⟩
      go_wp2_with fail
      refine (HA.out _).mono ?_; rintro e w2 ⟨rfl, rfl⟩
      have hZ1 := hZ.call hb
      have hS1 := hS.call hb
      have hO1 : Only (fun i => i = b) w w1 := Only.of_below (BelowOn hBa hb)
      obtain ⟨x0, x1, x2⟩ := hS1.cells
      go_upto_region 11 with (fail)
      have hO4 := hO1.setCell ⟨b, 1, none⟩ (.int .i64 ((p + 2 : Nat) : Int)) rfl
      have hS4 := hS1.set (p + 2)
      have hZ4 : zV (w1.setCell ⟨b, 1, none⟩ (.int .i64 ((p + 2 : Nat) : Int))) w.heap.size := hZ1.only ((Only.refl (fun i => i = b) w1).setCell _ _ rfl) (fun e => hBn e.symm)
      change Code.wp _ _ _ _ (w1.setCell ⟨b, 1, none⟩ (.int .i64 ((p + 2 : Nat) : Int)))
      generalize w1.setCell ⟨b, 1, none⟩ (.int .i64 ((p + 2 : Nat) : Int)) = w4 at *
      clear x0 x1 x2
      obtain ⟨v0, v1, v2, v3, v4, v5⟩ := cells_item hZ4
      go_wp2_with fail
      rw [HCUT.out]
      have hWz := heap_set3 (a' := .int .i64 1) (b' := .string ⟨#[s[p]]⟩) (c' := .int .i64 0) hZ4
      have hBz := ((hO4.setNew (p := ⟨w.heap.size, 0, none⟩) (Nat.le_refl _) (.int .i64 1)).setNew (p := ⟨w.heap.size, 1, none⟩) (Nat.le_refl _) (.string ⟨#[s[p]]⟩)).setNew (p := ⟨w.heap.size, 2, none⟩) (Nat.le_refl _) (.int .i64 0)
      have hSz := hS4.only3 hBn (.int .i64 1) (.string ⟨#[s[p]]⟩) (.int .i64 0)
      generalize (((w4.setCell ⟨w.heap.size, 0, none⟩ (.int .i64 1)).setCell ⟨w.heap.size, 1, none⟩ (.string ⟨#[s[p]]⟩)).setCell ⟨w.heap.size, 2, none⟩ (.int .i64 0)) = wz at *
      obtain ⟨z0, z1, z2, _⟩ := cells_item hWz
      (try simp only [Exit.inBlock, Exit.then])
      refine bodyPost_ret (v := .tuple #[.agg #[.int .i64 1, .string ⟨#[s[p]]⟩, .int .i64 0], .bool true]) (by simp [results, Tryd.results72, go_sem, z0, z1, z2]; try rfl) rfl ⟨bT s[p], true, p + 2, rfl, (by rw [HE.out]; exact ⟨rfl, rfl, rfl⟩), hSz, hBz⟩
    · have he : elX (s.data.toList.drop p) = none := by rw [hd, h34]; exact elX_34n T hn
      have HE := Lib.hid he
      rw [twoB_no2 34 34 s[p] T hn] at hA
      rw [h34, twoB_no1 T (by decide)] at hB
      have HA := Lib.hid hA; have HB := Lib.hid hB
      have q1 : ((R[0].toNat : Int) == 123) = false := by rw [h0, h34]; rfl
      have q2 : ((R[0].toNat : Int) == 34) = true := by rw [h0, h34]; rfl
      clear he hA hB hd h34 hn hT h0
      go_enter Tryd.func72, Tryd.ntmps72
      go_wp2_with fail
      refine (HR.out _ hS).mono ?_; rintro e w1 ⟨rfl, hb⟩
      go_wp2_with fail
      refine (HA.out _).mono ?_; rintro e w2 ⟨rfl, rfl⟩
      go_wp2_with fail
      refine (HB.out _).mono ?_; rintro e w2 ⟨rfl, rfl⟩
      have hZ1 := hZ.call hb
      have hS1 := hS.call hb
      have hO1 : Only (fun i => i = b) w w1 := Only.of_below (BelowOn hBa hb)
      obtain ⟨v0, v1, v2, v3, v4, v5⟩ := cells_item hZ1
      go_wp2_with fail
      have hWz := heap_set3 (a' := .int .i64 0) (b' := .string ⟨#[]⟩) (c' := .int .i64 0) hZ1
      have hBz := ((hO1.setNew (p := ⟨w.heap.size, 0, none⟩) (Nat.le_refl _) (.int .i64 0)).setNew (p := ⟨w.heap.size, 1, none⟩) (Nat.le_refl _) (.string ⟨#[]⟩)).setNew (p := ⟨w.heap.size, 2, none⟩) (Nat.le_refl _) (.int .i64 0)
      have hSz := hS1.only3 hBn (.int .i64 0) (.string ⟨#[]⟩) (.int .i64 0)
      generalize (((w1.setCell ⟨w.heap.size, 0, none⟩ (.int .i64 0)).setCell ⟨w.heap.size, 1, none⟩ (.string ⟨#[]⟩)).setCell ⟨w.heap.size, 2, none⟩ (.int .i64 0)) = wz at *
      obtain ⟨z0, z1, z2, _⟩ := cells_item hWz
      (try simp only [Exit.inBlock, Exit.then])
      refine bodyPost_ret (v := .tuple #[.agg #[.int .i64 0, .string ⟨#[]⟩, .int .i64 0], .bool false]) (by simp [results, Tryd.results72, go_sem, z0, z1, z2]; try rfl) rfl ⟨⟨0, ⟨#[]⟩, 0⟩, false, p, rfl, (by rw [HE.out]; exact ⟨rfl, rfl, rfl⟩), hSz, hBz⟩
  by_cases h123 : s[p] = 123
  · by_cases hn : T.head? = some 123
    · have he : elX (s.data.toList.drop p) = some (bT s[p], 2) := by
        rw [hd, h123]
        cases T with
        | nil => cases hn
        | cons d t => injection hn with hn; subst hn; exact elX_123 t
      have HE := Lib.hid he
      rw [h123, twoB_no1 T (by decide)] at hA
      rw [h123, twoB_yes 123 123 T hn] at hB
      have HA := Lib.hid hA; have HB := Lib.hid hB
      clear he hA hB hd h34 h123 hn hT h0
      go_enter Tryd.func72, Tryd.ntmps72
      go_wp2_with fail
      refine (HR.out _ hS).mono ?_; rintro e w1 ⟨rfl, hb⟩
      go_wp2_with fail
      refine (HA.out _).mono ?_; rintro e w2 ⟨rfl, rfl⟩
      go_wp2_with fail
      refine (HB.out _).mono ?_; rintro e w2 ⟨rfl, rfl⟩
      have hZ1 := hZ.call hb
      have hS1 := hS.call hb
      have hO1 : Only (fun i => i = b) w w1 := Only.of_below (BelowOn hBa hb)
      obtain ⟨x0, x1, x2⟩ := hS1.cells
      go_upto_region 11 with (fail)
      have hO4 := hO1.setCell ⟨b, 1, none⟩ (.int .i64 ((p + 2 : Nat) : Int)) rfl
      have hS4 := hS1.set (p + 2)
      have hZ4 : zV (w1.setCell ⟨b, 1, none⟩ (.int .i64 ((p + 2 : Nat) : Int))) w.heap.size := hZ1.only ((Only.refl (fun i => i = b) w1).setCell _ _ rfl) (fun e => hBn e.symm)
      change Code.wp _ _ _ _ (w1.setCell ⟨b, 1, none⟩ (.int .i64 ((p + 2 : Nat) : Int)))
      generalize w1.setCell ⟨b, 1, none⟩ (.int .i64 ((p + 2 : Nat) : Int)) = w4 at *
      clear x0 x1 x2
      obtain ⟨v0, v1, v2, v3, v4, v5⟩ := cells_item hZ4
      go_wp2_with fail
      rw [HCUT.out]
      have hWz := heap_set3 (a' := .int .i64 1) (b' := .string ⟨#[s[p]]⟩) (c' := .int .i64 0) hZ4
      have hBz := ((hO4.setNew (p := ⟨w.heap.size, 0, none⟩) (Nat.le_refl _) (.int .i64 1)).setNew (p := ⟨w.heap.size, 1, none⟩) (Nat.le_refl _) (.string ⟨#[s[p]]⟩)).setNew (p := ⟨w.heap.size, 2, none⟩) (Nat.le_refl _) (.int .i64 0)
      have hSz := hS4.only3 hBn (.int .i64 1) (.string ⟨#[s[p]]⟩) (.int .i64 0)
      generalize (((w4.setCell ⟨w.heap.size, 0, none⟩ (.int .i64 1)).setCell ⟨w.heap.size, 1, none⟩ (.string ⟨#[s[p]]⟩)).setCell ⟨w.heap.size, 2, none⟩ (.int .i64 0)) = wz at *
      obtain ⟨z0, z1, z2, _⟩ := cells_item hWz
      (try simp only [Exit.inBlock, Exit.then])
      refine bodyPost_ret (v := .tuple #[.agg #[.int .i64 1, .string ⟨#[s[p]]⟩, .int .i64 0], .bool true]) (by simp [results, Tryd.results72, go_sem, z0, z1, z2]; try rfl) rfl ⟨bT s[p], true, p + 2, rfl, (by rw [HE.out]; exact ⟨rfl, rfl, rfl⟩), hSz, hBz⟩
    · rw [h123, twoB_no1 T (by decide)] at hA
      rw [twoB_no2 123 123 s[p] T hn] at hB
      have HA := Lib.hid hA; have HB := Lib.hid hB
      have q1 : ((R[0].toNat : Int) == 123) = true := by rw [h0, h123]; rfl
      have HC := Lib.hid (HSL.out h123 hn)
      clear hA hB hd h34 h123 hn hT h0
      go_enter Tryd.func72, Tryd.ntmps72
      go_wp2_with fail
      refine (HR.out _ hS).mono ?_; rintro e w1 ⟨rfl, hb⟩
      go_wp2_with fail
      refine (HA.out _).mono ?_; rintro e w2 ⟨rfl, rfl⟩
      go_wp2_with fail
      refine (HB.out _).mono ?_; rintro e w2 ⟨rfl, rfl⟩
      have hZ1 := hZ.call hb
      have hS1 := hS.call hb
      have hO1 : Only (fun i => i = b) w w1 := Only.of_below (BelowOn hBa hb)
      go_wp2_with fail
      refine (HC.out _ hS1).mono ?_
      rintro e w3 ⟨x, ok, q, rfl, hx, hS3, hO3⟩
      have hO2 : Only (fun i => i = b) w w3 := hO1.trans hO3
      have hZ3 := hZ1.only hO3 (fun e => hBn e.symm)
      have HX := Lib.hid hx
      clear hx HC
      obtain ⟨v0, v1, v2, v3, v4, v5⟩ := cells_item hZ3
      go_wp2_with fail
      have hWz := heap_set3 (a' := .int .i64 x.k) (b' := .string x.t) (c' := .int .i64 x.id) hZ3
      have hBz := ((hO2.setNew (p := ⟨w.heap.size, 0, none⟩) (Nat.le_refl _) (.int .i64 x.k)).setNew (p := ⟨w.heap.size, 1, none⟩) (Nat.le_refl _) (.string x.t)).setNew (p := ⟨w.heap.size, 2, none⟩) (Nat.le_refl _) (.int .i64 x.id)
      have hSz := hS3.only3 hBn (.int .i64 x.k) (.string x.t) (.int .i64 x.id)
      generalize (((w3.setCell ⟨w.heap.size, 0, none⟩ (.int .i64 x.k)).setCell ⟨w.heap.size, 1, none⟩ (.string x.t)).setCell ⟨w.heap.size, 2, none⟩ (.int .i64 x.id)) = wz at *
      obtain ⟨z0, z1, z2, _⟩ := cells_item hWz
      (try simp only [Exit.inBlock, Exit.then])
      refine bodyPost_ret (v := .tuple #[.agg #[.int .i64 x.k, .string x.t, .int .i64 x.id], .bool ok]) (by simp [results, Tryd.results72, go_sem, z0, z1, z2]; try rfl) rfl ⟨x, ok, q, rfl, HX.out, hSz, hBz⟩
  · have he : elX (s.data.toList.drop p) = some (bT s[p], 1) := by rw [hd]; exact elX_text _ _ h34 h123
    have HE := Lib.hid he
    rw [twoB_no1 T h34] at hA
    rw [twoB_no1 T h123] at hB
    have HA := Lib.hid hA; have HB := Lib.hid hB
    have q1 : ((R[0].toNat : Int) == 123) = false := by rw [h0]; exact u8_int_ne (b := 123) h123
    have q2 : ((R[0].toNat : Int) == 34) = false := by rw [h0]; exact u8_int_ne (b := 34) h34
    clear he hA hB hd h34 h123 hT h0
    go_enter Tryd.func72, Tryd.ntmps72
    go_wp2_with fail
    refine (HR.out _ hS).mono ?_; rintro e w1 ⟨rfl, hb⟩
    go_wp2_with fail
    refine (HA.out _).mono ?_; rintro e w2 ⟨rfl, rfl⟩
    go_wp2_with fail
    refine (HB.out _).mono ?_; rintro e w2 ⟨rfl, rfl⟩
    have hZ1 := hZ.call hb
    have hS1 := hS.call hb
    have hO1 : Only (fun i => i = b) w w1 := Only.of_below (BelowOn hBa hb)
    obtain ⟨x0, x1, x2⟩ := hS1.cells
    go_upto_region 11 with (fail)
    have hO4 := hO1.setCell ⟨b, 1, none⟩ (.int .i64 ((p + 1 : Nat) : Int)) rfl
    have hS4 := hS1.set (p + 1)
    have hZ4 : zV (w1.setCell ⟨b, 1, none⟩ (.int .i64 ((p + 1 : Nat) : Int))) w.heap.size := hZ1.only ((Only.refl (fun i => i = b) w1).setCell _ _ rfl) (fun e => hBn e.symm)
    change Code.wp _ _ _ _ (w1.setCell ⟨b, 1, none⟩ (.int .i64 ((p + 1 : Nat) : Int)))
    generalize w1.setCell ⟨b, 1, none⟩ (.int .i64 ((p + 1 : Nat) : Int)) = w4 at *
    clear x0 x1 x2
    obtain ⟨v0, v1, v2, v3, v4, v5⟩ := cells_item hZ4
    go_wp2_with fail
    rw [HCUT.out]
    have hWz := heap_set3 (a' := .int .i64 1) (b' := .string ⟨#[s[p]]⟩) (c' := .int .i64 0) hZ4
    have hBz := ((hO4.setNew (p := ⟨w.heap.size, 0, none⟩) (Nat.le_refl _) (.int .i64 1)).setNew (p := ⟨w.heap.size, 1, none⟩) (Nat.le_refl _) (.string ⟨#[s[p]]⟩)).setNew (p := ⟨w.heap.size, 2, none⟩) (Nat.le_refl _) (.int .i64 0)
    have hSz := hS4.only3 hBn (.int .i64 1) (.string ⟨#[s[p]]⟩) (.int .i64 0)
    generalize (((w4.setCell ⟨w.heap.size, 0, none⟩ (.int .i64 1)).setCell ⟨w.heap.size, 1, none⟩ (.string ⟨#[s[p]]⟩)).setCell ⟨w.heap.size, 2, none⟩ (.int .i64 0)) = wz at *
    obtain ⟨z0, z1, z2, _⟩ := cells_item hWz
    (try simp only [Exit.inBlock, Exit.then])
    refine bodyPost_ret (v := .tuple #[.agg #[.int .i64 1, .string ⟨#[s[p]]⟩, .int .i64 0], .bool true]) (by simp [results, Tryd.results72, go_sem, z0, z1, z2]; try rfl) rfl ⟨bT s[p], true, p + 1, rfl, (by rw [HE.out]; exact ⟨rfl, rfl, rfl⟩), hSz, hBz⟩
end Go.Proofs.YteaciofacmbllaaDoor
