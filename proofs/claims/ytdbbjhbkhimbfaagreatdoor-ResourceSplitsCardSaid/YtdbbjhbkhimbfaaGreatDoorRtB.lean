/- Rows of bytes that a call owns; contracts of strings.Cut at one byte, CutPrefix. The scanner of raw values: where it lies; contracts of its small methods, of CutPrefix and of TrimLeft. Contracts of the scanner of raw values: continuations, escapes, placeholders, elements. Contracts of the scanner of raw values: placeholders, elements. -/
import Derived.Test.YtdbbjhbkhimbfaaGreatDoorNtp
import Derived.Test.YtdbbjhbkhimbfaaGreatDoorCon
import Derived.Test.YtdbbjhbkhimbfaaGreatDoorBld
import Derived.Test.YtdbbjhbkhimbfaaGreatDoorRvl
import Derived.Test.YtdbbjhbkhimbfaaGreatDoorFst
import Derived.Deep.RegionLaw
import Derived.Test.YtdbbjhbkhimbfaaGreatDoorRtA
import Derived.Test.YtdbbjhbkhimbfaaGreatDoorName
import Derived.Shelf.Strings.SlTrimAscii
import Derived.Deep.QuietTactic
import Derived.BigQuiet
import Derived.Lib.QuietBelow
import Derived.Test.YtdbbjhbkhimbfaaGreatDoorFrg
import Derived.Lib.SlBytesRow
namespace Go.Proofs.YtdbbjhbkhimbfaaGreatDoor
open Go.ChangeShapes Go.WideShapes Go.ChangeAt Go.RowKit
set_option linter.unusedVariables false
set_option linter.unusedSimpArgs false
set_option maxRecDepth 100000


theorem info5' : (Tryz.prog.info? 5).map (fun i => (i.zero, i.size, i.bytes)) = some (some (.int .u8 0), 1, 1) := by kernel_rfl
def benc (c : UInt8) : List Value := [.int .u8 (c.toNat : Int)]
theorem eB : El 50 5 1 1 (.int .u8 0) benc := ⟨Tryz.underlying50, info_parts info5', rfl, by omega, fun _ => rfl, fun x u hu => by simp [benc] at hu; subst hu; rfl⟩
theorem cells_bytes (l : List UInt8) : cellsOf benc l = Lib.byteCells l := by
  unfold cellsOf Lib.byteCells
  induction l with
  | nil => rfl
  | cons x t ih => rw [List.flatMap_cons, ih]; rfl
/-- A slice of bytes that the call owns from block base on. -/
def OwB (base : Nat) (l : List UInt8) (v : Value) (w : World) : Prop := w.ownsRow base 5 1 v l.length (Lib.byteCells l)
theorem OwB.ownL {base : Nat} {l : List UInt8} {v : Value} {w : World} (h : OwB base l v w) : OwnL 5 1 benc base l v w := by unfold OwnL; rw [cells_bytes]; exact h
theorem OwB.of {base : Nat} {l : List UInt8} {v : Value} {w : World} (h : OwnL 5 1 benc base l v w) : OwB base l v w := by unfold OwnL at h; rw [cells_bytes] at h; exact h
theorem OwB.call {base : Nat} {l : List UInt8} {v : Value} {w w1 : World} (h : OwB base l v w) (hb : Below w.heap.size w w1) : OwB base l v w1 := ownsRow_below h hb
theorem OwB.form {base : Nat} {l : List UInt8} {v : Value} {w : World} (h : OwB base l v w) : ∃ a n c, v = .slice a n c := by
  rcases h.2 with ⟨hv, _⟩ | ⟨g, cap, cur, hv, _⟩
  · exact ⟨_, _, _, hv⟩
  · exact ⟨_, _, _, hv⟩
theorem OwB.nil (w : World) (base : Nat) : OwB base [] (.slice none 0 0) w := World.ownsRow_nil _ _ _ _
/-- What appending leaves: a longer row; nothing below base has turned. -/
def EndB (base : Nat) (l : List UInt8) (w : World) (e : Ending) (w' : World) : Prop := ∃ a n c, e = .returned (.slice a n c) ∧ OwB base l (.slice a n c) w' ∧ Below base w w'
/-- append of the bytes of a block to a row that the call owns. -/
theorem wpl_catB (w : World) {ops : Array Oper} {rest : List Oper} {o : Oper} {a : Act} {Q : Exit → Act → World → Prop} (hg : o.guard = none) (s x : Operand)
    (ho : o.op = .call { callee := .builtin .append, args := #[s, x], argTypes := #[50, 50] }) (base : Nat) (L : List UInt8) (v : Value) (hs : a.eval s = v) (h : OwB base L v w) (hbase : base ≤ w.heap.size) (ys : List UInt8) (B m : Nat) (cs : Array Value)
    (hx : a.eval x = .slice (some ⟨B, 0, none⟩) m m) (hB : w.heap[B]? = some (.cells cs 5 (0, 0))) (hcs : cs.toList = Lib.byteCells ys) (hm : ys.length = m) (hm0 : 0 < m) (hlen : L.length + m ≤ 140737488355328)
    (hK : ∀ g cap w', OwB base (L ++ ys) (.slice (some ⟨g, 0, none⟩) (L.length + m) cap) w' → w.grownBy w' v.ownBlock → Below base w w' → wpList Tryz.prog ops Q rest (a.put o.dst (.slice (some ⟨g, 0, none⟩) (L.length + m) cap)) w') : wpList Tryz.prog ops Q (o :: rest) a w := by
  obtain ⟨i, hi, hz0, hz1, hz2⟩ := eB.hi
  refine wpList_append_lies w hg s x 50 ho base 5 i (.int .u8 0) 1 1 eB.ht hi hz0 hz1 hz2 rfl (by omega) v L.length (Lib.byteCells L) hs h ⟨B, 0, none⟩ m m (Lib.byteCells ys) hx (by rw [Lib.byteCells_length]; omega) ?_ (fun u hu => ?_) hm0 (by unfold maxLen; omega) (by omega) hbase _ rfl ?_
  · rw [← hcs]; exact World.news_of_block hB
  · unfold Lib.byteCells at hu; obtain ⟨c, _, rfl⟩ := List.mem_map.1 hu; rfl
  · intro g cap w' h2 h3 h4 h5
    refine hK g cap w' ?_ h3 ((Below.refl base w).grown h3 hbase (fun k hk => (h.lt k hk).1))
    unfold OwB; rw [List.length_append, hm, byteCells_append]; exact h2
theorem step_catB (w : World) {ops : Array Oper} {o : Oper} {a : Act} {K : Act → World → Prop} {Q : Exit → Act → World → Prop} {EE : Prop} (hg : o.guard = none) (s x : Operand)
    (ho : o.op = .call { callee := .builtin .append, args := #[s, x], argTypes := #[50, 50] }) (base : Nat) (L : List UInt8) (v : Value) (hs : a.eval s = v) (h : OwB base L v w) (hbase : base ≤ w.heap.size) (ys : List UInt8) (B m : Nat) (cs : Array Value)
    (hx : a.eval x = .slice (some ⟨B, 0, none⟩) m m) (hB : w.heap[B]? = some (.cells cs 5 (0, 0))) (hcs : cs.toList = Lib.byteCells ys) (hm : ys.length = m) (hm0 : 0 < m) (hlen : L.length + m ≤ 140737488355328)
    (hK : ∀ g cap w', OwB base (L ++ ys) (.slice (some ⟨g, 0, none⟩) (L.length + m) cap) w' → w.grownBy w' v.ownBlock → Below base w w' → K (a.put o.dst (.slice (some ⟨g, 0, none⟩) (L.length + m) cap)) w') :
    if Region.wanted o (yielded ops a.tmps) = true then Oper.wp Tryz.prog o a w K Q else EE := by
  obtain ⟨i, hi, hz0, hz1, hz2⟩ := eB.hi
  refine step_append_lies w hg s x 50 ho base 5 i (.int .u8 0) 1 1 eB.ht hi hz0 hz1 hz2 rfl (by omega) v L.length (Lib.byteCells L) hs h ⟨B, 0, none⟩ m m (Lib.byteCells ys) hx (by rw [Lib.byteCells_length]; omega) ?_ (fun u hu => ?_) hm0 (by unfold maxLen; omega) (by omega) hbase _ rfl ?_
  · rw [← hcs]; exact World.news_of_block hB
  · unfold Lib.byteCells at hu; obtain ⟨c, _, rfl⟩ := List.mem_map.1 hu; rfl
  · intro g cap w' h2 h3 h4 h5
    refine hK g cap w' ?_ h3 ((Below.refl base w).grown h3 hbase (fun k hk => (h.lt k hk).1))
    unfold OwB; rw [List.length_append, hm, byteCells_append]; exact h2
/-- append of a string's bytes to a row that the call owns. -/
theorem wpl_strB (w : World) {ops : Array Oper} {rest : List Oper} {o : Oper} {a : Act} {Q : Exit → Act → World → Prop} (hg : o.guard = none) (s x : Operand)
    (ho : o.op = .call { callee := .builtin .append, args := #[s, x], argTypes := #[50, 9] }) (base : Nat) (L : List UInt8) (v : Value) (hs : a.eval s = v) (h : OwB base L v w) (hbase : base ≤ w.heap.size) (t : ByteArray) (hx : a.eval x = .string t) (hlen : L.length + t.size ≤ 140737488355328)
    (hK : ∀ p n c w', OwB base (L ++ t.data.toList) (.slice p n c) w' → w.grownBy w' v.ownBlock → Below base w w' → wpList Tryz.prog ops Q rest (a.put o.dst (.slice p n c)) w') : wpList Tryz.prog ops Q (o :: rest) a w := by
  refine wpl_append_str hg s x ho base v L.length _ hs h t hx hlen hbase fun v' w' h2 h3 h4 => ?_
  have h5 : OwB base (L ++ t.data.toList) v' w' := by unfold OwB; rw [List.length_append, byteCells_append, ← strCells_eq, show t.data.toList.length = t.size by simp]; exact h2
  obtain ⟨p, n, c, rfl⟩ := h5.form
  exact hK p n c w' h5 h3 ((Below.refl base w).grown h3 hbase (fun k hk => (World.ownsRow.lt h k hk).1))
theorem indexByte_upto (c : UInt8) (l : List UInt8) : Lib.indexByte l c = if hasU c l = true then ((upto c l).length : Int) else -1 := by
  induction l with
  | nil => rfl
  | cons x t ih =>
    rw [Lib.indexByte]
    by_cases hx : x = c
    · subst hx; simp [hasU, upto]
    · have h1 : (x == c) = false := by simpa using hx
      have h2 : (x != c) = true := by simpa using hx
      have e1 : upto c (x :: t) = x :: upto c t := by unfold upto; rw [List.takeWhile_cons, h2, if_pos rfl]
      have e2 : hasU c (x :: t) = hasU c t := by unfold hasU; rw [e1]; simp
      rw [h1, ih, e1, e2]
      cases hh : hasU c t <;> simp
theorem extract_take (s : ByteArray) (n : Nat) : s.extract 0 n = bsL (s.data.toList.take n) := by
  apply ByteArray.ext; unfold bsL; rw [ByteArray.data_extract]; apply Array.ext'; simp
theorem extract_drop (s : ByteArray) (n : Nat) : s.extract n s.size = bsL (s.data.toList.drop n) := by
  apply ByteArray.ext; unfold bsL; rw [ByteArray.data_extract]; apply Array.ext'; simp [List.take_of_length_le]
theorem upto_take (c : UInt8) (l : List UInt8) : l.take (upto c l).length = upto c l := by
  have h : upto c l <+: l := List.takeWhile_prefix _
  exact List.prefix_iff_eq_take.1 h |>.symm
theorem upto_le (c : UInt8) (l : List UInt8) : (upto c l).length ≤ l.length := (List.takeWhile_prefix (p := (· != c)) (l := l)).length_le

theorem scutc_any (s : ByteArray) (c : UInt8) (w : World) (hs : s.size ≤ maxLen) :
    Calls Tryz.prog 65 #[.string s, .string ⟨#[c]⟩] w fun e w' => e = .returned (.tuple #[.string (bsL (upto c s.data.toList)), .string (bsL (aft c s.data.toList)), .bool (hasU c s.data.toList)]) ∧ Below w.heap.size w w' := by
  unfold maxLen at hs
  have hi := Tryz.stringslite_Index_one s c
  rw [indexByte_upto] at hi
  have hle := upto_le c s.data.toList
  have hsz : s.data.toList.length = s.size := by simp
  have hn : s.extract 0 (upto c s.data.toList).length = bsL (upto c s.data.toList) := by rw [extract_take, upto_take]
  have hr : s.extract ((upto c s.data.toList).length + 1) s.size = bsL (aft c s.data.toList) := extract_drop s _
  cases hb : hasU c s.data.toList
  · rw [hb, if_neg (by simp)] at hi
    have hall := (upto_none c _ hb).1
    have h1 : bsL (upto c s.data.toList) = s := by rw [hall, bsL_of]
    have h2 : bsL (aft c s.data.toList) = ByteArray.empty := by unfold aft; rw [hall, List.drop_of_length_le (by omega)]; rfl
    have HI := Lib.hid hi; have HN := Lib.hid h1; have HR := Lib.hid h2
    clear hi hn hr hb hle h1 h2 hall hsz
    go_enter Tryz.func65, Tryz.ntmps65
    go_wp2_with fail
    refine (HI.out _).mono ?_; rintro e w1 ⟨rfl, rfl⟩
    go_wp2_with fail
    go_ret3
    exact ⟨by rw [HN.out, HR.out]; rfl, Below.refl _ _⟩
  · rw [hb, if_pos rfl] at hi
    have hlt : (upto c s.data.toList).length < s.size := by unfold hasU at hb; simpa using hb
    generalize (upto c s.data.toList).length = n at *
    have c0 : (0 : Int) ≤ (n : Int) := by omega
    have c1 : (n : Int) ≤ (s.size : Int) := by omega
    have c2 : (0 : Int) ≤ (n : Int) + 1 := by omega
    have c3 : (n : Int) + 1 ≤ (s.size : Int) := by omega
    have HN := Lib.hid hn; have HR := Lib.hid hr; have HI := Lib.hid hi
    clear hi hb hn hr hle hsz hlt
    have mixed : Tryz.prog.follows .mixedOrders = true := by kernel_rfl
    have cw : IntKind.i64.wrap ((n : Int) + 1) = (n : Int) + 1 := by
      have a1 : (-9223372036854775808 : Int) ≤ (n : Int) + 1 := by omega
      have a2 : (n : Int) + 1 ≤ 9223372036854775807 := by omega
      exact IntWalk.i64_in _ ⟨a1, a2⟩
    have cn : ((n : Int) + 1).toNat = n + 1 := by omega
    go_enter Tryz.func65, Tryz.ntmps65
    go_wp2_with fail
    refine (HI.out _).mono ?_; rintro e w1 ⟨rfl, rfl⟩
    go_wp2_with fail
    go_region_o
    all_goals go_wp2_with fail
    all_goals go_ret3
    all_goals (rw [← HN.out, ← HR.out]; exact ⟨rfl, (Below.refl _ _).drew⟩)
theorem cutc_any (s : ByteArray) (c : UInt8) (w : World) (hs : s.size ≤ maxLen) :
    Calls Tryz.prog 36 #[.string s, .string ⟨#[c]⟩] w fun e w' => e = .returned (.tuple #[.string (bsL (upto c s.data.toList)), .string (bsL (aft c s.data.toList)), .bool (hasU c s.data.toList)]) ∧ Below w.heap.size w w' := by
  have h := fun w => scutc_any s c w hs
  generalize bsL (upto c s.data.toList) = a at *
  generalize bsL (aft c s.data.toList) = b at *
  generalize hasU c s.data.toList = d at *
  have H := Lib.hid h; clear h
  go_enter Tryz.func36, Tryz.ntmps36
  go_wp2_with fail
  refine (H.out _).mono ?_; rintro e w1 ⟨rfl, hb⟩
  go_wp2_with fail
  go_ret3
  exact ⟨rfl, hb⟩
/-- A list's head, off. -/
def hdB (c : UInt8) (l : List UInt8) : Bool := decide (l.head? = some c)
def tlB (c : UInt8) (l : List UInt8) : List UInt8 := if l.head? = some c then l.drop 1 else l
def laB (c : UInt8) (l : List UInt8) : Bool := decide (l.getLast? = some c)
def inB (c : UInt8) (l : List UInt8) : List UInt8 := if l.getLast? = some c then l.dropLast else l
theorem prefix_one (c : UInt8) (l : List UInt8) : Lib.hasPrefix l [c] = hdB c l := by
  unfold Lib.hasPrefix hdB
  rw [Bool.eq_iff_iff, List.isPrefixOf_iff_prefix]
  cases l with
  | nil => simp
  | cons x t => simp [List.cons_prefix_cons, eq_comm]
theorem suffix_one (c : UInt8) (l : List UInt8) : Lib.hasSuffix l [c] = laB c l := by
  unfold Lib.hasSuffix laB
  rw [Bool.eq_iff_iff, List.isSuffixOf_iff_suffix]
  rw [decide_eq_true_iff]
  constructor
  · rintro ⟨t, rfl⟩; simp
  · intro h
    have hne : l ≠ [] := by intro e; rw [e] at h; cases h
    rw [List.getLast?_eq_some_getLast hne] at h
    injection h with h
    exact ⟨l.dropLast, by rw [← h, List.dropLast_concat_getLast]⟩
theorem cutprefix_any (s : ByteArray) (c : UInt8) (w : World) :
    Calls Tryz.prog 74 #[.string s, .string ⟨#[c]⟩] w fun e w' => e = .returned (.tuple #[.string (bsL (tlB c s.data.toList)), .bool (hdB c s.data.toList)]) ∧ w = w' := by
  refine (Tryz.strings_CutPrefix s ⟨#[c]⟩ w).mono fun e w' ⟨he, hw⟩ => ⟨?_, hw.symm⟩
  rw [he]
  have e1 : Lib.trimPrefix s.data.toList [c] = tlB c s.data.toList := by
    unfold Lib.trimPrefix tlB
    rw [prefix_one]
    unfold hdB
    by_cases h : s.data.toList.head? = some c
    · simp [h]
    · simp [h]
  show Ending.returned (.tuple #[.string (bsL (Lib.trimPrefix s.data.toList [c])), .bool (Lib.hasPrefix s.data.toList [c])]) = _
  rw [e1, prefix_one]
end Go.Proofs.YtdbbjhbkhimbfaaGreatDoor
namespace Go.Proofs.YtdbbjhbkhimbfaaGreatDoor
open Go.ChangeShapes Go.WideShapes Go.ChangeAt Go.RowKit
set_option linter.unusedVariables false
set_option linter.unusedSimpArgs false
set_option maxRecDepth 100000

/-- A scanner in block b: of s, at p. -/
def Scn (W : World) (b : Nat) (s : ByteArray) (p : Nat) : Prop := W.heap[b]? = some (.cells #[.string s, .int .i64 p] 53 (0, 0))
theorem Scn.new (W : World) (s : ByteArray) (p : Nat) : Scn (W.alloc (.cells #[.string s, .int .i64 p] 53)) W.heap.size s p := heap_alloc_new W _
section
variable {W W' : World} {b p : Nat} {s : ByteArray}
theorem Scn.lt (h : Scn W b s p) : b < W.heap.size := (Array.getElem?_eq_some_iff.1 h).1
theorem Scn.same (h : Scn W b s p) (hb : W'.heap[b]? = W.heap[b]?) : Scn W' b s p := hb.trans h
theorem Scn.call (h : Scn W b s p) (hb : Below W.heap.size W W') : Scn W' b s p := h.same (hb.block b h.lt)
theorem Scn.only {S : Nat → Prop} (h : Scn W b s p) (hb : Only S W W') (hn : ¬ S b) : Scn W' b s p := h.same (hb.block b h.lt hn)
theorem Scn.cells (h : Scn W b s p) : W.cell? ⟨b, 0, none⟩ = some (.string s) ∧ W.cell? ⟨b, 1, none⟩ = some (.int .i64 p) ∧ W.frozen? ⟨b, 1, none⟩ = false :=
  ⟨by rw [Lib.cell_of_heap h]; rfl, by rw [Lib.cell_of_heap h]; rfl, Lib.frozen_of_heap h 1⟩
theorem Scn.set (h : Scn W b s p) (q : Nat) : Scn (W.setCell ⟨b, 1, none⟩ (.int .i64 q)) b s q := setCell_heap W b 1 _ _ _ h
end
/-- The end of a call that moves the scanner in block b and turns nothing else. -/
def EndSc (b : Nat) (s : ByteArray) (q : Nat) (w w' : World) : Prop := Scn w' b s q ∧ Only (fun i => i = b) w w'
theorem below_qN (w : World) (n : Nat) : Below w.heap.size w (w.drewN n) := ⟨rfl, rfl, rfl, Nat.le_refl _, fun _ _ => rfl⟩
theorem more_any (b p : Nat) (s : ByteArray) (w : World) (h : Scn w b s p) (hs : s.size ≤ 1000000000000) (hp : p ≤ 1000000000000) :
    Calls Tryz.prog 18 #[.pointer (some ⟨b, 0, none⟩)] w fun e w' => e = .returned (.bool (decide (p < s.size))) ∧ Below w.heap.size w w' := by
  obtain ⟨h0, h1, h2⟩ := h.cells
  go_enter Tryz.func18, Tryz.ntmps18
  go_wp2_with fail
  go_quiet (fail)
  all_goals go_wp2_with fail
  all_goals go_ret
  all_goals exact ⟨rfl, below_qN _ _⟩
theorem rest_any (b p : Nat) (s : ByteArray) (w : World) (h : Scn w b s p) (hs : s.size ≤ 1000000000000) (hp : p ≤ s.size) :
    Calls Tryz.prog 37 #[.pointer (some ⟨b, 0, none⟩)] w fun e w' => e = .returned (.string (s.extract p s.size)) ∧ Below w.heap.size w w' := by
  obtain ⟨h0, h1, h2⟩ := h.cells
  have c0 : (0 : Int) ≤ (p : Int) := by omega
  have c1 : (p : Int) ≤ (s.size : Int) := by omega
  go_enter Tryz.func37, Tryz.ntmps37
  go_wp2_with fail
  go_quiet (fail)
  all_goals go_wp2_with fail
  all_goals go_ret
  all_goals exact ⟨rfl, below_qN _ _⟩

theorem take_bl (l : List UInt8) : Lib.trimLeftS l [32, 9] = l.drop (blanks l).length := by
  unfold Lib.trimLeftS blanks
  induction l with
  | nil => rfl
  | cons a t ih =>
    rw [List.dropWhile_cons, List.takeWhile_cons]
    have e : ([32, 9] : List UInt8).contains a = blB a := by unfold blB; simp only [List.contains_cons, List.contains_nil, Bool.or_false]
    rw [e]
    cases blB a with
    | false => simp
    | true => simpa using ih
theorem trimbl_any (s : ByteArray) (w : World) : Calls Tryz.prog 38 #[.string s, .string ⟨#[32, 9]⟩] w fun e w' => e = .returned (.string (bsL (s.data.toList.drop (blanks s.data.toList).length))) ∧ Below w.heap.size w w' := by
  refine (Any.strings_TrimLeft_laid Tryz.lays161 (by kernel_rfl) s ⟨#[32, 9]⟩ w (by decide) (ascii_of_all (by decide))).mono ?_
  rintro e w' ⟨rfl, hb⟩
  refine ⟨?_, hb⟩
  rw [show (⟨#[32, 9]⟩ : ByteArray).data.toList = [32, 9] from rfl, take_bl]; rfl
def isC (l : List UInt8) : Bool := Lib.hasPrefix l [92, 10]
theorem cutcont_any (s : ByteArray) (w : World) : Calls Tryz.prog 74 #[.string s, .string ⟨#[92, 10]⟩] w fun e w' => e = .returned (.tuple #[.string (if isC s.data.toList = true then bsL (s.data.toList.drop 2) else s), .bool (isC s.data.toList)]) ∧ w' = w := by
  refine (Tryz.strings_CutPrefix s ⟨#[92, 10]⟩ w).mono fun e w' ⟨he, hw⟩ => ⟨?_, hw⟩
  rw [he]
  show Ending.returned (.tuple #[.string (bsL (Lib.trimPrefix s.data.toList [92, 10])), .bool (isC s.data.toList)]) = _
  have e1 : bsL (Lib.trimPrefix s.data.toList [92, 10]) = if isC s.data.toList = true then bsL (s.data.toList.drop 2) else s := by
    unfold Lib.trimPrefix isC
    by_cases h : Lib.hasPrefix s.data.toList [92, 10] = true
    · rw [if_pos h, if_pos h]; rfl
    · rw [if_neg h, if_neg h, bsL_of]
  rw [e1]
theorem isC_yes {l : List UInt8} (h : isC l = true) : l = 92 :: 10 :: l.drop 2 := by
  unfold isC Lib.hasPrefix at h
  rw [List.isPrefixOf_iff_prefix] at h
  obtain ⟨t, rfl⟩ := h
  rfl
theorem isC_no {l : List UInt8} (h : isC l = false) : ∀ n, elR l ≠ some (none, n) := fun n e => by
  rcases elR_some e with ⟨u, v, rfl, _, _, e2, _⟩ | ⟨t, rfl, _, _⟩ | ⟨c, v, t, rfl, _, _, e2, _⟩ | ⟨c, t, rfl, _, _, _, e2, _⟩
  · cases e2
  · rw [show isC (92 :: 10 :: t) = true from by unfold isC Lib.hasPrefix; rw [List.isPrefixOf_iff_prefix]; exact ⟨t, rfl⟩] at h; cases h
  · cases e2
  · cases e2
/-- Where the reading goes on behind the continuations at p. -/
structure SkOk (L : List UInt8) (p q : Nat) : Prop where
  le : p ≤ q
  len : q ≤ L.length
  dec : ∀ f cs d, decG elR f cs p d (L.drop p) = decG elR f cs q d (L.drop q)
theorem SkOk.refl {L : List UInt8} {p : Nat} (h : p ≤ L.length) : SkOk L p p := ⟨Nat.le_refl _, h, fun _ _ _ => rfl⟩
theorem SkOk.step {L : List UInt8} {p q : Nat} (h : SkOk L p q) (hc : isC (L.drop q) = true) : SkOk L p (q + 2 + (blanks (L.drop (q + 2))).length) := by
  have e := isC_yes hc
  have hl : (L.drop q).length = L.length - q := List.length_drop
  have h2 : 2 ≤ (L.drop q).length := by rw [e]; simp
  have hb := blanks_len (L.drop (q + 2))
  have hd : (L.drop q).drop 2 = L.drop (q + 2) := by rw [List.drop_drop]
  have hle := h.le
  rw [List.length_drop] at hb
  refine ⟨by omega, by omega, fun f cs d => ?_⟩
  rw [h.dec f cs d]
  have he : elR (L.drop q) = some (none, 2 + (blanks (L.drop (q + 2))).length) := by rw [← hd]; conv => { lhs; rw [e] }; exact elR_cont _
  rw [decG_cont elR_ok f cs q d _ he, List.drop_drop]
  congr 1
  · omega
  · congr 1; omega
end Go.Proofs.YtdbbjhbkhimbfaaGreatDoor
namespace Go.Proofs.YtdbbjhbkhimbfaaGreatDoor
open Go.ChangeShapes Go.WideShapes Go.ChangeAt Go.RowKit
set_option linter.unusedVariables false
set_option linter.unusedSimpArgs false
set_option maxRecDepth 100000

/-- No item. -/
def zI : It := ⟨0, .empty, 0⟩
/-- The result's variable, zero. -/
def zV (W : World) (b : Nat) : Prop := W.heap[b]? = some (.cells #[.int .i64 0, .string ByteArray.empty, .int .i64 0] 43 (0, 0))
theorem zV.new (W : World) : zV (W.alloc (.cells #[.int .i64 0, .string ByteArray.empty, .int .i64 0] 43)) W.heap.size := heap_alloc_new W _
theorem zV.call {W w1 : World} {b : Nat} (h : zV W b) (hb : Below W.heap.size W w1) : zV w1 b := (hb.block b (Array.getElem?_eq_some_iff.1 h).1).trans h
theorem zV.only {S : Nat → Prop} {W w1 : World} {b : Nat} (h : zV W b) (hb : Only S W w1) (hn : ¬ S b) : zV w1 b := (hb.block b (Array.getElem?_eq_some_iff.1 h).1 hn).trans h
/-- A store into a block that is newer than the old world. -/
theorem Only.setNew {S : Nat → Prop} {a b : World} (h : Only S a b) {p : Addr} (hp : a.heap.size ≤ p.block) (v : Value) : Only S a (b.setCell p v) :=
  ⟨h.os, h.tape, h.output, by simpa [World.setCell] using h.size, fun i hi hs => by rw [Below.heap_setCell _ _ _ _ (by omega)]; exact h.block i hi hs⟩
theorem Only.drew {S : Nat → Prop} {a b : World} (h : Only S a b) : Only S a b.drew := ⟨h.os, h.tape, h.output, h.size, h.block⟩
theorem Scn.drew {W : World} {b p : Nat} {s : ByteArray} (h : Scn W b s p) : Scn W.drew b s p := h
theorem Scn.only3 {W : World} {b p : Nat} {s : ByteArray} (h : Scn W b s p) {B : Nat} (hn : b ≠ B) (x y z : Value) : Scn (((W.setCell ⟨B, 0, none⟩ x).setCell ⟨B, 1, none⟩ y).setCell ⟨B, 2, none⟩ z) b s p :=
  h.same (by rw [Below.heap_setCell _ _ _ _ hn, Below.heap_setCell _ _ _ _ hn, Below.heap_setCell _ _ _ _ hn])
theorem u8_int_ne {a b : UInt8} (h : a ≠ b) : ((a.toNat : Int) == (b.toNat : Int)) = false := by
  rw [beq_eq_false_iff_ne]; intro e; exact h (UInt8.toNat_inj.1 (by omega))
theorem u8_int_eq {a b : UInt8} (h : a = b) : ((a.toNat : Int) == (b.toNat : Int)) = true := by rw [h]; simp
/-- What a reader of the scanner answers: an item, whether there is one; where the scanner then stands. -/
def RdOk (o : Option (It × Nat)) (p : Nat) (x : It) (ok : Bool) (q : Nat) : Prop := match o with | some y => x = y.1 ∧ ok = true ∧ q = p + y.2 | none => x = zI ∧ ok = false ∧ q = p
def EndR (o : Option (It × Nat)) (b p : Nat) (s : ByteArray) (w : World) (e : Ending) (w' : World) : Prop :=
  ∃ (x : It) (ok : Bool) (q : Nat), e = .returned (.tuple #[.agg #[.int .i64 x.k, .string x.t, .int .i64 x.id], .bool ok]) ∧ RdOk o p x ok q ∧ Scn w' b s q ∧ Only (fun i => i = b) w w'

/-- The item at the beginning, where one stands there. -/
def elX (l : List UInt8) : Option (It × Nat) := match elR l with | some (some x, n) => some (x, n) | _ => none
theorem drop_get (s : ByteArray) (p : Nat) (h : p < s.size) : s.data.toList.drop p = s[p] :: s.data.toList.drop (p + 1) := by
  have hl : p < s.data.toList.length := by simpa using h
  rw [List.drop_eq_getElem_cons hl]
  congr 1
theorem ext_dropL (s : ByteArray) (p : Nat) : (s.extract p s.size).data.toList = s.data.toList.drop p := by rw [extract_drop, bsL_list]
theorem elX_esc (c : UInt8) (t : List UInt8) : elX (92 :: c :: t) = match escO c with | none => none | some v => some (bT v, 2) := by
  unfold elX
  by_cases hc : c = 10
  · subst hc; rw [elR_cont]; rfl
  · cases he : escO c with
    | none => rw [elR_92]; show (match (if c = 10 then _ else _ : Option (Option It × Nat)) with | some (some x, n) => some (x, n) | _ => none) = _; rw [if_neg hc, he]
    | some v => rw [elR_esc c v t hc he]
theorem elX_slot (r : List UInt8) : elX (123 :: r) = rdSlot r := by
  unfold elX; rw [elR_123]; cases rdSlot r <;> rfl
theorem elX_text (c : UInt8) (r : List UInt8) (h1 : c ≠ 10) (h2 : c ≠ 123) (h3 : c ≠ 92) : elX (c :: r) = some (bT c, 1) := by
  unfold elX; rw [elR_text c r h1 h2 h3]
theorem esc_index : ∀ c : UInt8, (Lib.indexByte [110, 116, 115, 114, 92, 123] c = -1 ∧ escO c = none) ∨ ∃ k : Nat, k < 6 ∧ ∃ v : UInt8, Lib.indexByte [110, 116, 115, 114, 92, 123] c = (k : Int) ∧ escO c = some v ∧ (⟨#[10, 9, 32, 13, 92, 123]⟩ : ByteArray).extract k (k + 1) = ⟨#[v]⟩ := fun c => by
  by_cases h1 : c = 110
  · subst h1; exact .inr ⟨0, by decide, 10, by decide, by decide, by decide⟩
  by_cases h2 : c = 116
  · subst h2; exact .inr ⟨1, by decide, 9, by decide, by decide, by decide⟩
  by_cases h3 : c = 115
  · subst h3; exact .inr ⟨2, by decide, 32, by decide, by decide, by decide⟩
  by_cases h4 : c = 114
  · subst h4; exact .inr ⟨3, by decide, 13, by decide, by decide, by decide⟩
  by_cases h5 : c = 92
  · subst h5; exact .inr ⟨4, by decide, 92, by decide, by decide, by decide⟩
  by_cases h6 : c = 123
  · subst h6; exact .inr ⟨5, by decide, 123, by decide, by decide, by decide⟩
  left
  refine ⟨?_, by unfold escO; rw [if_neg h1, if_neg h2, if_neg h3, if_neg h4, if_neg h5, if_neg h6]⟩
  have e : ∀ d : UInt8, c ≠ d → (d == c) = false := fun d h => by rw [beq_eq_false_iff_ne]; exact fun e => h e.symm
  simp [Lib.indexByte, e _ h1, e _ h2, e _ h3, e _ h4, e _ h5, e _ h6]
theorem meant0 (W : World) : Sem.run Tryz.prog (Instr.slice 9 (.string ⟨#[10, 9, 32, 13, 92, 123]⟩) (some (.int .i64 ((0 : Nat) : Int))) (some (.int .i64 (((0 : Nat) : Int) + 1))) none) W = .ok (.string ((⟨#[10, 9, 32, 13, 92, 123]⟩ : ByteArray).extract 0 (0 + 1))) W := by kernel_rfl
theorem meant1 (W : World) : Sem.run Tryz.prog (Instr.slice 9 (.string ⟨#[10, 9, 32, 13, 92, 123]⟩) (some (.int .i64 ((1 : Nat) : Int))) (some (.int .i64 (((1 : Nat) : Int) + 1))) none) W = .ok (.string ((⟨#[10, 9, 32, 13, 92, 123]⟩ : ByteArray).extract 1 (1 + 1))) W := by kernel_rfl
theorem meant2 (W : World) : Sem.run Tryz.prog (Instr.slice 9 (.string ⟨#[10, 9, 32, 13, 92, 123]⟩) (some (.int .i64 ((2 : Nat) : Int))) (some (.int .i64 (((2 : Nat) : Int) + 1))) none) W = .ok (.string ((⟨#[10, 9, 32, 13, 92, 123]⟩ : ByteArray).extract 2 (2 + 1))) W := by kernel_rfl
theorem meant3 (W : World) : Sem.run Tryz.prog (Instr.slice 9 (.string ⟨#[10, 9, 32, 13, 92, 123]⟩) (some (.int .i64 ((3 : Nat) : Int))) (some (.int .i64 (((3 : Nat) : Int) + 1))) none) W = .ok (.string ((⟨#[10, 9, 32, 13, 92, 123]⟩ : ByteArray).extract 3 (3 + 1))) W := by kernel_rfl
theorem meant4 (W : World) : Sem.run Tryz.prog (Instr.slice 9 (.string ⟨#[10, 9, 32, 13, 92, 123]⟩) (some (.int .i64 ((4 : Nat) : Int))) (some (.int .i64 (((4 : Nat) : Int) + 1))) none) W = .ok (.string ((⟨#[10, 9, 32, 13, 92, 123]⟩ : ByteArray).extract 4 (4 + 1))) W := by kernel_rfl
theorem meant5 (W : World) : Sem.run Tryz.prog (Instr.slice 9 (.string ⟨#[10, 9, 32, 13, 92, 123]⟩) (some (.int .i64 ((5 : Nat) : Int))) (some (.int .i64 (((5 : Nat) : Int) + 1))) none) W = .ok (.string ((⟨#[10, 9, 32, 13, 92, 123]⟩ : ByteArray).extract 5 (5 + 1))) W := by kernel_rfl
theorem meant_cut (k : Nat) (h : k < 6) (W : World) : Sem.run Tryz.prog (Instr.slice 9 (.string ⟨#[10, 9, 32, 13, 92, 123]⟩) (some (.int .i64 (k : Int))) (some (.int .i64 ((k : Int) + 1))) none) W = .ok (.string ((⟨#[10, 9, 32, 13, 92, 123]⟩ : ByteArray).extract k (k + 1))) W := by
  have h6 : k = 0 ∨ k = 1 ∨ k = 2 ∨ k = 3 ∨ k = 4 ∨ k = 5 := by omega
  rcases h6 with rfl | rfl | rfl | rfl | rfl | rfl
  · exact meant0 W
  · exact meant1 W
  · exact meant2 W
  · exact meant3 W
  · exact meant4 W
  · exact meant5 W
theorem skipend_any (b p : Nat) (s : ByteArray) (w : World) (h : Scn w b s p) (hs : s.size ≤ 1000000000000) (hp : p ≤ s.size) :
    Calls Tryz.prog 22 #[.pointer (some ⟨b, 0, none⟩)] w fun e w' => e = .returned (.tuple #[]) ∧ Scn w' b s (min (p + 1) s.size) ∧ Only (fun i => i = b) w w' := by
  have HM := Lib.hid (more_any b p s w h hs (by omega))
  have c1 : (p : Int) ≤ 1000000000000 := by omega
  by_cases hlt : p < s.size
  · have e : min (p + 1) s.size = p + 1 := by omega
    rw [e]
    have q : decide (p < s.size) = true := decide_eq_true hlt
    rw [q] at HM
    go_enter Tryz.func22, Tryz.ntmps22
    go_wp2_with fail
    refine HM.out.mono ?_; rintro e w1 ⟨rfl, hb⟩
    have hS := h.call hb
    obtain ⟨h0, h1, h2⟩ := hS.cells
    go_wp2_with fail
    go_end0
    exact ⟨rfl, hS.set (p + 1), (Only.of_below hb).setCell _ _ rfl⟩
  · have e : min (p + 1) s.size = p := by omega
    rw [e]
    have q : decide (p < s.size) = false := decide_eq_false hlt
    rw [q] at HM
    go_enter Tryz.func22, Tryz.ntmps22
    go_wp2_with fail
    refine HM.out.mono ?_; rintro e w1 ⟨rfl, hb⟩
    go_wp2_with fail
    go_end0
    exact ⟨rfl, h.call hb, Only.of_below hb⟩
set_option maxHeartbeats 1600000 in
theorem skip_any (b p : Nat) (s : ByteArray) (w : World) (h : Scn w b s p) (hs : s.size ≤ 1000000000000) (hp : p ≤ s.size) :
    Calls Tryz.prog 51 #[.pointer (some ⟨b, 0, none⟩)] w fun e w' => e = .returned (.tuple #[]) ∧ ∃ q, SkOk s.data.toList p q ∧ isC (s.data.toList.drop q) = false ∧ Scn w' b s q ∧ Only (fun i => i = b) w w' := by
  have hlen : s.data.toList.length = s.size := by simp
  have hR := fun q W (hS : Scn W b s q) (hq : q ≤ s.size) => rest_any b q s W hS hs hq
  have hC := fun (t : ByteArray) W => cutcont_any t W
  have hT := fun (t : ByteArray) W => trimbl_any t W
  have HR := Lib.hid hR; have HC := Lib.hid hC; have HT := Lib.hid hT
  have hk0 : Hid (SkOk s.data.toList p p) := Lib.hid (SkOk.refl (by rw [hlen]; exact hp))
  clear hR hC hT
  go_enter Tryz.func51, Tryz.ntmps51
  go_wp2_with fail
  go_loopw [] (fun wr => ∃ q : Nat, Hid (SkOk s.data.toList p q) ∧ Scn wr b s q ∧ Only (fun i => i = b) w wr) (fun wr => s.size - (intOf ((wr.cell? ⟨b, 1, none⟩).getD (.int .i64 0))).toNat)
  case atStart => exact ⟨p, hk0, h, Only.refl _ _⟩
  case round =>
    obtain ⟨q, HK, hS, hO⟩ := hrel
    have hq : q ≤ s.size := by have := HK.out.len; omega
    have hx := ext_dropL s q
    have HCq := HC.out (s.extract q s.size)
    rw [hx] at HCq
    have hm0 := hS.cells.2.1
    cases hc : isC (s.data.toList.drop q)
    · rw [hc] at HCq
      have HC2 := Lib.hid HCq
      have HI := Lib.hid hc
      clear hx HCq hc
      go_wp2_with fail
      refine (HR.out _ _ hS hq).mono ?_; rintro e w1 ⟨rfl, hb⟩
      go_wp2_with fail
      refine (HC2.out _).mono ?_; rintro e w2 ⟨rfl, rfl⟩
      go_wp2_with fail
      (try simp only [Exit.inBlock, Exit.then])
      exact bodyPost_ret (results_none (by rfl) _ _ _) rfl ⟨rfl, q, HK.out, HI.out, hS.call hb, hO.trans (Only.of_below hb)⟩
    · rw [hc, if_pos rfl] at HCq
      have hstep := HK.out.step hc
      have hdd : (s.data.toList.drop q).drop 2 = s.data.toList.drop (q + 2) := by rw [List.drop_drop]
      rw [hdd] at HCq
      have hTq := HT.out (bsL (s.data.toList.drop (q + 2)))
      rw [bsL_list] at hTq
      have hle := hstep.len
      have hbl := blanks_len (s.data.toList.drop (q + 2))
      have hsz : (bsL ((s.data.toList.drop (q + 2)).drop (blanks (s.data.toList.drop (q + 2))).length)).size = s.size - (q + 2 + (blanks (s.data.toList.drop (q + 2))).length) := by
        rw [bsL_size, List.length_drop, List.length_drop, hlen]; omega
      generalize bsL ((s.data.toList.drop (q + 2)).drop (blanks (s.data.toList.drop (q + 2))).length) = T at *
      generalize bsL (s.data.toList.drop (q + 2)) = U at *
      generalize hn : q + 2 + (blanks (s.data.toList.drop (q + 2))).length = n at *
      have hnn : n ≤ s.size := by omega
      have hqn : q < n := by omega
      have hv : (s.size : Int) - (T.size : Int) = (n : Int) := by omega
      have hts : T.size ≤ s.size := by omega
      have hwv : IntKind.i64.wrap ((s.size : Int) - (T.size : Int)) = (n : Int) := by rw [hv]; exact IntWalk.i64_in _ ⟨by omega, by omega⟩
      have HC2 := Lib.hid HCq; have HT2 := Lib.hid hTq; have HV := Lib.hid hv; have HST := Lib.hid hstep; have HWV := Lib.hid hwv
      clear hx HCq hc hstep hdd hTq hle hbl hsz hn hv hlen hwv
      go_wp2_with fail
      refine (HR.out _ _ hS hq).mono ?_; rintro e w1 ⟨rfl, hb⟩
      go_wp2_with fail
      refine (HC2.out _).mono ?_; rintro e w2 ⟨rfl, rfl⟩
      have hS1 := hS.call hb
      obtain ⟨v0, v1, v2⟩ := hS1.cells
      have hbl := hS1.lt
      go_wp2_with fail
      have hBd : Below w2.heap.size w2 w2.drew := (Below.refl _ _).drew
      go_region_held3 (fun w' => w'.cell? ⟨b, 0, none⟩ = some (.string s))
        (first | exact v0 | exact ((BelowOn hBd hb2).cell (p := ⟨b, 0, none⟩) hbl).trans v0 | (rw [World.cell?_setCell_other _ _ _ _ (by simp)]; exact x0))
        ((first | (go_at_call 38; refine (HT2.out _).mono ?_; rintro e w3 ⟨rfl, hb2⟩; have hS2 := hS1.call (BelowOn hBd hb2); obtain ⟨x0, x1, x2⟩ := hS2.cells)))
      all_goals rw [HWV.out]
      all_goals go_wp2_with fail
      all_goals go_roundw
      case rel => exact ⟨n, HST, hS2.set n, ((hO.trans (Only.of_below hb)).trans (Only.of_below (BelowOn hBd hb2))).setCell _ _ rfl⟩
      case measure =>
        rw [hm0, (hS2.set n).cells.2.1]; simp [intOf]; omega
set_option maxHeartbeats 1600000 in
theorem readesc_any (b p : Nat) (s : ByteArray) (w : World) (h : Scn w b s p) (hs : s.size ≤ 1000000000000) (hp : p < s.size) (h92 : s[p] = 92) :
    Calls Tryz.prog 75 #[.pointer (some ⟨b, 0, none⟩)] w (EndR (elX (s.data.toList.drop p)) b p s w) := by
  have hbs := h.lt
  have hBn : b ≠ w.heap.size := by omega
  have hR := fun W (hS : Scn W b s p) => rest_any b p s W hS hs (by omega)
  have hZ := zV.new w
  have hS := h.call (blw (Below.refl _ _) (.cells #[.int .i64 0, .string ByteArray.empty, .int .i64 0] 43))
  have hBa := blw (Below.refl w.heap.size w) (.cells #[.int .i64 0, .string ByteArray.empty, .int .i64 0] 43)
  have c1 : (p : Int) ≤ 1000000000000 := by omega
  have hrs : (s.extract p s.size).size = s.size - p := by simp
  have hd := drop_get s p hp
  rw [h92] at hd
  by_cases h2 : p + 2 ≤ s.size
  · have hd2 := drop_get s (p + 1) (by omega)
    have hx : ∀ (R : ByteArray) (e : R = s.extract p s.size) (hl : 1 < R.size), R[1] = s[p + 1] := fun R e hl => by subst e; simp [ByteArray.getElem_extract]
    rw [hd2] at hd
    have he := elX_esc s[p + 1] (s.data.toList.drop (p + 1 + 1))
    rw [← hd] at he
    have hi := fun W => Tryz.strings_IndexByte ⟨#[110, 116, 115, 114, 92, 123]⟩ (s[p + 1].toNat : Int) W
    have hu : (s[p + 1].toNat : Int).toNat.toUInt8 = s[p + 1] := by simp
    rw [hu, show (⟨#[110, 116, 115, 114, 92, 123]⟩ : ByteArray).data.toList = [110, 116, 115, 114, 92, 123] from rfl] at hi
    have hb0 : (0 : Int) ≤ (s[p + 1].toNat : Int) := by omega
    have hb1 : (s[p + 1].toNat : Int) ≤ 255 := by have := s[p + 1].toNat_lt; omega
    obtain ⟨R, hRR⟩ : ∃ R, R = s.extract p s.size := ⟨_, rfl⟩
    rw [← hRR] at hR
    have hl1 : 1 < R.size := by rw [hRR, hrs]; omega
    have hRx := hx R hRR hl1
    rcases esc_index s[p + 1] with ⟨h3, h4⟩ | ⟨k, hk6, v, h3, h4, h5⟩
    · rw [h3] at hi
      rw [h4] at he
      have HI := Lib.hid hi; have HE := Lib.hid he; have HR := Lib.hid hR
      clear hi he hR hd hd2 hx hu h3 h4 hRR hrs
      rw [← hRx] at HI hb0 hb1
      clear hRx
      have l2 : (2 : Int) ≤ (R.size : Int) := by omega
      go_enter Tryz.func75, Tryz.ntmps75
      go_wp2_with fail
      refine (HR.out _ hS).mono ?_; rintro e w1 ⟨rfl, hb⟩
      go_wp2_with fail
      refine (HI.out _).mono ?_; rintro e w2 ⟨rfl, rfl⟩
      have hZ1 := hZ.call hb
      have hS1 := hS.call hb
      have hO1 : Only (fun i => i = b) w w2 := Only.of_below (BelowOn hBa hb)
      obtain ⟨v0, v1, v2, v3, v4, v5⟩ := cells_item hZ1
      go_wp2_with fail
      have hWz := heap_set3 (a' := .int .i64 0) (b' := .string ⟨#[]⟩) (c' := .int .i64 0) hZ1
      have hBz := ((hO1.setNew (p := ⟨w.heap.size, 0, none⟩) (Nat.le_refl _) (.int .i64 0)).setNew (p := ⟨w.heap.size, 1, none⟩) (Nat.le_refl _) (.string ⟨#[]⟩)).setNew (p := ⟨w.heap.size, 2, none⟩) (Nat.le_refl _) (.int .i64 0)
      have hSz := hS1.only3 hBn (.int .i64 0) (.string ⟨#[]⟩) (.int .i64 0)
      generalize (((w2.setCell ⟨w.heap.size, 0, none⟩ (.int .i64 0)).setCell ⟨w.heap.size, 1, none⟩ (.string ⟨#[]⟩)).setCell ⟨w.heap.size, 2, none⟩ (.int .i64 0)) = wz at *
      obtain ⟨z0, z1, z2, _⟩ := cells_item hWz
      (try simp only [Exit.inBlock, Exit.then])
      refine bodyPost_ret (v := .tuple #[.agg #[.int .i64 0, .string ⟨#[]⟩, .int .i64 0], .bool false]) (by simp [results, Tryz.results75, go_sem, z0, z1, z2]; try rfl) rfl ⟨⟨0, ⟨#[]⟩, 0⟩, false, p, rfl, (by rw [HE.out]; exact ⟨rfl, rfl, rfl⟩), hSz, hBz⟩
    · rw [h3] at hi
      rw [h4] at he
      have HI := Lib.hid hi; have HE := Lib.hid he; have HR := Lib.hid hR; have H5 := Lib.hid h5
      clear hi he hR hd hd2 hx hu h3 h4 hRR hrs h5
      rw [← hRx] at HI hb0 hb1
      clear hRx
      have l2 : (2 : Int) ≤ (R.size : Int) := by omega
      have k0 : (0 : Int) ≤ (k : Int) := by omega
      have k6 : (k : Int) ≤ 5 := by omega
      have hsl := fun W => meant_cut k hk6 W
      rw [H5.out] at hsl
      go_enter Tryz.func75, Tryz.ntmps75
      go_wp2_with fail
      refine (HR.out _ hS).mono ?_; rintro e w1 ⟨rfl, hb⟩
      go_wp2_with fail
      refine (HI.out _).mono ?_; rintro e w2 ⟨rfl, rfl⟩
      have hZ1 := hZ.call hb
      have hS1 := hS.call hb
      have hO1 : Only (fun i => i = b) w w2 := Only.of_below (BelowOn hBa hb)
      obtain ⟨v0, v1, v2, v3, v4, v5⟩ := cells_item hZ1
      obtain ⟨x0, x1, x2⟩ := hS1.cells
      go_wp2_with fail
      have hO2 := hO1.setCell ⟨b, 1, none⟩ (.int .i64 ((p + 2 : Nat) : Int)) rfl
      have hS2 := hS1.set (p + 2)
      have hZ2 : zV (w2.setCell ⟨b, 1, none⟩ (.int .i64 ((p + 2 : Nat) : Int))) w.heap.size := hZ1.only ((Only.refl (fun i => i = b) w2).setCell _ _ rfl) (fun e => hBn e.symm)
      change bodyPost _ _ _ _ _ ((((w2.setCell ⟨b, 1, none⟩ (.int .i64 ((p + 2 : Nat) : Int))).setCell _ _).setCell _ _).setCell _ _)
      generalize w2.setCell ⟨b, 1, none⟩ (.int .i64 ((p + 2 : Nat) : Int)) = w4 at *
      have hWz := heap_set3 (a' := .int .i64 1) (b' := .string ⟨#[v]⟩) (c' := .int .i64 0) hZ2
      have hBz := ((hO2.setNew (p := ⟨w.heap.size, 0, none⟩) (Nat.le_refl _) (.int .i64 1)).setNew (p := ⟨w.heap.size, 1, none⟩) (Nat.le_refl _) (.string ⟨#[v]⟩)).setNew (p := ⟨w.heap.size, 2, none⟩) (Nat.le_refl _) (.int .i64 0)
      have hSz := hS2.only3 hBn (.int .i64 1) (.string ⟨#[v]⟩) (.int .i64 0)
      generalize (((w4.setCell ⟨w.heap.size, 0, none⟩ (.int .i64 1)).setCell ⟨w.heap.size, 1, none⟩ (.string ⟨#[v]⟩)).setCell ⟨w.heap.size, 2, none⟩ (.int .i64 0)) = wz at *
      obtain ⟨z0, z1, z2, _⟩ := cells_item hWz
      (try simp only [Exit.inBlock, Exit.then])
      refine bodyPost_ret (v := .tuple #[.agg #[.int .i64 1, .string ⟨#[v]⟩, .int .i64 0], .bool true]) (by simp [results, Tryz.results75, go_sem, z0, z1, z2]; try rfl) rfl ⟨bT v, true, p + 2, rfl, (by rw [HE.out]; exact ⟨rfl, rfl, rfl⟩), hSz, hBz⟩
  · have hr0 : s.data.toList.drop (p + 1) = [] := List.drop_of_length_le (by simp; omega)
    rw [hr0] at hd
    have he : elX (s.data.toList.drop p) = none := by rw [hd]; rfl
    obtain ⟨R, hRR⟩ : ∃ R, R = s.extract p s.size := ⟨_, rfl⟩
    rw [← hRR] at hR
    have hl1 : (R.size : Int) < 2 := by rw [hRR, hrs]; omega
    have HE := Lib.hid he; have HR := Lib.hid hR
    clear he hR hd hRR hrs hr0
    go_enter Tryz.func75, Tryz.ntmps75
    go_wp2_with fail
    refine (HR.out _ hS).mono ?_; rintro e w1 ⟨rfl, hb⟩
    have hZ1 := hZ.call hb
    have hS1 := hS.call hb
    have hO1 : Only (fun i => i = b) w w1 := Only.of_below (BelowOn hBa hb)
    obtain ⟨v0, v1, v2, v3, v4, v5⟩ := cells_item hZ1
    go_wp2_with fail
    have hWz := heap_set3 (a' := .int .i64 0) (b' := .string ⟨#[]⟩) (c' := .int .i64 0) hZ1
    have hBz := ((hO1.setNew (p := ⟨w.heap.size, 0, none⟩) (Nat.le_refl _) (.int .i64 0)).setNew (p := ⟨w.heap.size, 1, none⟩) (Nat.le_refl _) (.string ⟨#[]⟩)).setNew (p := ⟨w.heap.size, 2, none⟩) (Nat.le_refl _) (.int .i64 0)
    have hSz := hS1.only3 hBn (.int .i64 0) (.string ⟨#[]⟩) (.int .i64 0)
    generalize (((w1.setCell ⟨w.heap.size, 0, none⟩ (.int .i64 0)).setCell ⟨w.heap.size, 1, none⟩ (.string ⟨#[]⟩)).setCell ⟨w.heap.size, 2, none⟩ (.int .i64 0)) = wz at *
    obtain ⟨z0, z1, z2, _⟩ := cells_item hWz
    (try simp only [Exit.inBlock, Exit.then])
    refine bodyPost_ret (v := .tuple #[.agg #[.int .i64 0, .string ⟨#[]⟩, .int .i64 0], .bool false]) (by simp [results, Tryz.results75, go_sem, z0, z1, z2]; try rfl) rfl ⟨⟨0, ⟨#[]⟩, 0⟩, false, p, rfl, (by rw [HE.out]; exact ⟨rfl, rfl, rfl⟩), hSz, hBz⟩
end Go.Proofs.YtdbbjhbkhimbfaaGreatDoor
namespace Go.Proofs.YtdbbjhbkhimbfaaGreatDoor
open Go.ChangeShapes Go.WideShapes Go.ChangeAt Go.RowKit
set_option linter.unusedVariables false
set_option linter.unusedSimpArgs false
set_option maxRecDepth 100000

set_option maxHeartbeats 1600000 in
theorem readslot_any (b p : Nat) (s : ByteArray) (w : World) (h : Scn w b s p) (hs : s.size ≤ 1000000000000) (hp : p < s.size) (h123 : s[p] = 123) :
    Calls Tryz.prog 76 #[.pointer (some ⟨b, 0, none⟩)] w (EndR (elX (s.data.toList.drop p)) b p s w) := by
  have hbs := h.lt
  have hBn : b ≠ w.heap.size := by omega
  have hR := fun W (hS : Scn W b s p) => rest_any b p s W hS hs (by omega)
  have hZ := zV.new w
  have hS := h.call (blw (Below.refl _ _) (.cells #[.int .i64 0, .string ByteArray.empty, .int .i64 0] 43))
  have hBa := blw (Below.refl w.heap.size w) (.cells #[.int .i64 0, .string ByteArray.empty, .int .i64 0] 43)
  have c1 : (p : Int) ≤ 1000000000000 := by omega
  have hrs : (s.extract p s.size).size = s.size - p := by simp
  have hd := drop_get s p hp
  rw [h123] at hd
  have he := elX_slot (s.data.toList.drop (p + 1))
  rw [← hd] at he
  have hcut : (s.extract p s.size).extract 1 (s.extract p s.size).size = s.extract (p + 1) s.size := by
    rw [hrs, ByteArray.extract_extract]; congr 1; omega
  have hcc := fun W => cutc_any (s.extract (p + 1) s.size) 125 W (by unfold maxLen; simp; omega)
  rw [ext_dropL] at hcc
  have hul := upto_le 125 (s.data.toList.drop (p + 1))
  rw [List.length_drop] at hul
  have hll : s.data.toList.length = s.size := by simp
  have hus : (bsL (upto 125 (s.data.toList.drop (p + 1)))).size = (upto 125 (s.data.toList.drop (p + 1))).length := bsL_size _
  have hnm := fun (u : ByteArray) W (h : u.size ≤ maxLen) => isname_any u W h
  unfold rdSlot at he
  generalize hU : upto 125 (s.data.toList.drop (p + 1)) = u at *
  generalize hasU 125 (s.data.toList.drop (p + 1)) = F at *
  generalize bsL (aft 125 (s.data.toList.drop (p + 1))) = rest at *
  obtain ⟨R, hRR⟩ : ∃ R, R = s.extract p s.size := ⟨_, rfl⟩
  obtain ⟨R1, hR1⟩ : ∃ R1, R1 = s.extract (p + 1) s.size := ⟨_, rfl⟩
  rw [← hRR] at hR
  rw [← hRR, ← hR1] at hcut
  rw [← hR1] at hcc
  have hl1 : (1 : Int) ≤ (R.size : Int) := by rw [hRR, hrs]; omega
  generalize hnn : u.length = n at *
  generalize hN : bsL u = N at *
  have hNs : N.size ≤ 1000000000000 := by omega
  have hn := fun W => hnm N W (by unfold maxLen; omega)
  have HCUT := Lib.hid hcut; have HR := Lib.hid hR; have HC := Lib.hid hcc
  clear hnm hcut hR hcc hRR hR1 hrs hd hul hll hU
  cases F
  · have he2 : elX (s.data.toList.drop p) = none := by rw [he, if_neg (by simp)]
    have HE := Lib.hid he2
    clear he he2 hn hnn hN
    have hcut := HCUT.out
    go_enter Tryz.func76, Tryz.ntmps76
    go_wp2_with fail
    refine (HR.out _ hS).mono ?_; rintro e w1 ⟨rfl, hb⟩
    go_wp2_with fail
    refine (HC.out _).mono ?_; rintro e w2 ⟨rfl, hb2⟩
    have hZ1 := (hZ.call hb).call hb2
    have hS1 := (hS.call hb).call hb2
    have hO1 : Only (fun i => i = b) w w2 := Only.of_below (BelowOn (BelowOn hBa hb) hb2)
    obtain ⟨v0, v1, v2, v3, v4, v5⟩ := cells_item hZ1
    go_wp2_with fail
    have hWz := heap_set3 (a' := .int .i64 0) (b' := .string ⟨#[]⟩) (c' := .int .i64 0) hZ1
    have hBz := ((hO1.setNew (p := ⟨w.heap.size, 0, none⟩) (Nat.le_refl _) (.int .i64 0)).setNew (p := ⟨w.heap.size, 1, none⟩) (Nat.le_refl _) (.string ⟨#[]⟩)).setNew (p := ⟨w.heap.size, 2, none⟩) (Nat.le_refl _) (.int .i64 0)
    have hSz := hS1.only3 hBn (.int .i64 0) (.string ⟨#[]⟩) (.int .i64 0)
    generalize (((w2.setCell ⟨w.heap.size, 0, none⟩ (.int .i64 0)).setCell ⟨w.heap.size, 1, none⟩ (.string ⟨#[]⟩)).setCell ⟨w.heap.size, 2, none⟩ (.int .i64 0)) = wz at *
    obtain ⟨z0, z1, z2, _⟩ := cells_item hWz
    (try simp only [Exit.inBlock, Exit.then])
    refine bodyPost_ret (v := .tuple #[.agg #[.int .i64 0, .string ⟨#[]⟩, .int .i64 0], .bool false]) (by simp [results, Tryz.results76, go_sem, z0, z1, z2]; try rfl) rfl ⟨⟨0, ⟨#[]⟩, 0⟩, false, p, rfl, (by rw [HE.out]; exact ⟨rfl, rfl, rfl⟩), hSz, hBz⟩
  · cases hnb : isNm N
    · have he2 : elX (s.data.toList.drop p) = none := by rw [he, if_neg (by rw [hnb]; simp)]
      rw [hnb] at hn
      have HE := Lib.hid he2; have HN := Lib.hid hn
      clear he he2 hn hnn hN hnb
      have hcut := HCUT.out
      go_enter Tryz.func76, Tryz.ntmps76
      go_wp2_with fail
      refine (HR.out _ hS).mono ?_; rintro e w1 ⟨rfl, hb⟩
      go_wp2_with fail
      refine (HC.out _).mono ?_; rintro e w2 ⟨rfl, hb2⟩
      go_wp2_with fail
      refine (HN.out _).mono ?_; rintro e w3 ⟨rfl, rfl⟩
      have hZ1 := (hZ.call hb).call hb2
      have hS1 := (hS.call hb).call hb2
      have hO1 : Only (fun i => i = b) w w2 := Only.of_below (BelowOn (BelowOn hBa hb) hb2)
      obtain ⟨v0, v1, v2, v3, v4, v5⟩ := cells_item hZ1
      go_wp2_with fail
      have hWz := heap_set3 (a' := .int .i64 0) (b' := .string ⟨#[]⟩) (c' := .int .i64 0) hZ1
      have hBz := ((hO1.setNew (p := ⟨w.heap.size, 0, none⟩) (Nat.le_refl _) (.int .i64 0)).setNew (p := ⟨w.heap.size, 1, none⟩) (Nat.le_refl _) (.string ⟨#[]⟩)).setNew (p := ⟨w.heap.size, 2, none⟩) (Nat.le_refl _) (.int .i64 0)
      have hSz := hS1.only3 hBn (.int .i64 0) (.string ⟨#[]⟩) (.int .i64 0)
      generalize (((w2.setCell ⟨w.heap.size, 0, none⟩ (.int .i64 0)).setCell ⟨w.heap.size, 1, none⟩ (.string ⟨#[]⟩)).setCell ⟨w.heap.size, 2, none⟩ (.int .i64 0)) = wz at *
      obtain ⟨z0, z1, z2, _⟩ := cells_item hWz
      (try simp only [Exit.inBlock, Exit.then])
      refine bodyPost_ret (v := .tuple #[.agg #[.int .i64 0, .string ⟨#[]⟩, .int .i64 0], .bool false]) (by simp [results, Tryz.results76, go_sem, z0, z1, z2]; try rfl) rfl ⟨⟨0, ⟨#[]⟩, 0⟩, false, p, rfl, (by rw [HE.out]; exact ⟨rfl, rfl, rfl⟩), hSz, hBz⟩
    · have he2 : elX (s.data.toList.drop p) = some (⟨5, N, 0⟩, n + 2) := by rw [he, if_pos ⟨rfl, hnb⟩]
      rw [hnb] at hn
      have hnz : N.size = n := hus
      have HE := Lib.hid he2; have HN := Lib.hid hn
      have hq : IntKind.i64.wrap ((p : Int) + (1 + (N.size : Int) + 1)) = ((p + (n + 2) : Nat) : Int) := by rw [hnz]; rw [IntWalk.i64_in _ ⟨by omega, by omega⟩]; omega
      have hq2 : (p : Int) + (1 + (N.size : Int) + 1) = ((p + (n + 2) : Nat) : Int) := by rw [hnz]; omega
      have hn0 : (N.size : Int) ≤ 1000000000000 := by omega
      have HQ := Lib.hid hq; have HQ2 := Lib.hid hq2
      clear he he2 hn hnn hN hnb hus hq hq2 hnz
      have hcut := HCUT.out
      go_enter Tryz.func76, Tryz.ntmps76
      go_wp2_with fail
      refine (HR.out _ hS).mono ?_; rintro e w1 ⟨rfl, hb⟩
      go_wp2_with fail
      refine (HC.out _).mono ?_; rintro e w2 ⟨rfl, hb2⟩
      go_wp2_with fail
      refine (HN.out _).mono ?_; rintro e w3 ⟨rfl, rfl⟩
      have hZ1 := (hZ.call hb).call hb2
      have hS1 := (hS.call hb).call hb2
      have hO1 : Only (fun i => i = b) w w2 := Only.of_below (BelowOn (BelowOn hBa hb) hb2)
      obtain ⟨v0, v1, v2, v3, v4, v5⟩ := cells_item hZ1
      obtain ⟨x0, x1, x2⟩ := hS1.cells
      go_wp2_with fail
      rw [HQ2.out]
      have hO4 := hO1.setCell ⟨b, 1, none⟩ (.int .i64 ((p + (n + 2) : Nat) : Int)) rfl
      have hS4 := hS1.set (p + (n + 2))
      have hZ4 : zV (w2.setCell ⟨b, 1, none⟩ (.int .i64 ((p + (n + 2) : Nat) : Int))) w.heap.size := hZ1.only ((Only.refl (fun i => i = b) w2).setCell _ _ rfl) (fun e => hBn e.symm)
      generalize w2.setCell ⟨b, 1, none⟩ (.int .i64 ((p + (n + 2) : Nat) : Int)) = w4 at *
      have hWz := heap_set3 (a' := .int .i64 5) (b' := .string N) (c' := .int .i64 0) hZ4
      have hBz := ((hO4.setNew (p := ⟨w.heap.size, 0, none⟩) (Nat.le_refl _) (.int .i64 5)).setNew (p := ⟨w.heap.size, 1, none⟩) (Nat.le_refl _) (.string N)).setNew (p := ⟨w.heap.size, 2, none⟩) (Nat.le_refl _) (.int .i64 0)
      have hSz := hS4.only3 hBn (.int .i64 5) (.string N) (.int .i64 0)
      generalize (((w4.setCell ⟨w.heap.size, 0, none⟩ (.int .i64 5)).setCell ⟨w.heap.size, 1, none⟩ (.string N)).setCell ⟨w.heap.size, 2, none⟩ (.int .i64 0)) = wz at *
      obtain ⟨z0, z1, z2, _⟩ := cells_item hWz
      (try simp only [Exit.inBlock, Exit.then])
      refine bodyPost_ret (v := .tuple #[.agg #[.int .i64 5, .string N, .int .i64 0], .bool true]) (by simp [results, Tryz.results76, go_sem, z0, z1, z2]; try rfl) rfl ⟨⟨5, N, 0⟩, true, p + (n + 2), rfl, (by rw [HE.out]; exact ⟨rfl, rfl, rfl⟩), hSz, hBz⟩
set_option maxHeartbeats 1600000 in
theorem rdelem_any (b p : Nat) (s : ByteArray) (w : World) (h : Scn w b s p) (hs : s.size ≤ 1000000000000) (hp : p < s.size) :
    Calls Tryz.prog 52 #[.pointer (some ⟨b, 0, none⟩)] w (EndR (elX (s.data.toList.drop p)) b p s w) := by
  have hbs := h.lt
  have hBn : b ≠ w.heap.size := by omega
  have hZ := zV.new w
  have hS := h.call (blw (Below.refl _ _) (.cells #[.int .i64 0, .string ByteArray.empty, .int .i64 0] 43))
  have hBa := blw (Below.refl w.heap.size w) (.cells #[.int .i64 0, .string ByteArray.empty, .int .i64 0] 43)
  have c1 : (p : Int) ≤ 1000000000000 := by omega
  have hd := drop_get s p hp
  obtain ⟨x0, x1, x2⟩ := h.cells
  have i0 : (0 : Int) ≤ (p : Int) := by omega
  have i1 : (p : Int) < (s.size : Int) := by omega
  by_cases hc : s[p] = 92
  · have HC := Lib.hid (fun W (hS : Scn W b s p) => readesc_any b p s W hS hs hp hc)
    have ha : (s[p].toNat : Int) = 92 := by rw [hc]; rfl
    clear hd hc
    go_enter Tryz.func52, Tryz.ntmps52
    go_upto_region 1 with (fail)
    go_quiet (fail)
    go_wp2_with fail
    refine (HC.out _ (hS.call (below_qN _ _))).mono ?_
    rintro e w1 ⟨x, ok, q, rfl, hx, hS1, hO1⟩
    have hO2 : Only (fun i => i = b) w w1 := (Only.of_below (BelowOn hBa (below_qN _ _))).trans hO1
    have hZ1 := (hZ.call (below_qN _ nq)).only hO1 (fun e => hBn e.symm)
    have HX := Lib.hid hx
    clear hx HC
    obtain ⟨v0, v1, v2, v3, v4, v5⟩ := cells_item hZ1
    go_wp2_with fail
    have hWz := heap_set3 (a' := .int .i64 x.k) (b' := .string x.t) (c' := .int .i64 x.id) hZ1
    have hBz := ((hO2.setNew (p := ⟨w.heap.size, 0, none⟩) (Nat.le_refl _) (.int .i64 x.k)).setNew (p := ⟨w.heap.size, 1, none⟩) (Nat.le_refl _) (.string x.t)).setNew (p := ⟨w.heap.size, 2, none⟩) (Nat.le_refl _) (.int .i64 x.id)
    have hSz := hS1.only3 hBn (.int .i64 x.k) (.string x.t) (.int .i64 x.id)
    generalize (((w1.setCell ⟨w.heap.size, 0, none⟩ (.int .i64 x.k)).setCell ⟨w.heap.size, 1, none⟩ (.string x.t)).setCell ⟨w.heap.size, 2, none⟩ (.int .i64 x.id)) = wz at *
    obtain ⟨z0, z1, z2, _⟩ := cells_item hWz
    (try simp only [Exit.inBlock, Exit.then])
    refine bodyPost_ret (v := .tuple #[.agg #[.int .i64 x.k, .string x.t, .int .i64 x.id], .bool ok]) (by simp [results, Tryz.results52, go_sem, z0, z1, z2]; try rfl) rfl ⟨x, ok, q, rfl, HX.out, hSz, hBz⟩
  have n92 := hc
  by_cases hc : s[p] = 123
  · have HC := Lib.hid (fun W (hS : Scn W b s p) => readslot_any b p s W hS hs hp hc)
    have ha : (s[p].toNat : Int) = 123 := by rw [hc]; rfl
    clear hd hc
    go_enter Tryz.func52, Tryz.ntmps52
    go_upto_region 1 with (fail)
    go_quiet (fail)
    go_wp2_with fail
    refine (HC.out _ (hS.call (below_qN _ _))).mono ?_
    rintro e w1 ⟨x, ok, q, rfl, hx, hS1, hO1⟩
    have hO2 : Only (fun i => i = b) w w1 := (Only.of_below (BelowOn hBa (below_qN _ _))).trans hO1
    have hZ1 := (hZ.call (below_qN _ nq)).only hO1 (fun e => hBn e.symm)
    have HX := Lib.hid hx
    clear hx HC
    obtain ⟨v0, v1, v2, v3, v4, v5⟩ := cells_item hZ1
    go_wp2_with fail
    have hWz := heap_set3 (a' := .int .i64 x.k) (b' := .string x.t) (c' := .int .i64 x.id) hZ1
    have hBz := ((hO2.setNew (p := ⟨w.heap.size, 0, none⟩) (Nat.le_refl _) (.int .i64 x.k)).setNew (p := ⟨w.heap.size, 1, none⟩) (Nat.le_refl _) (.string x.t)).setNew (p := ⟨w.heap.size, 2, none⟩) (Nat.le_refl _) (.int .i64 x.id)
    have hSz := hS1.only3 hBn (.int .i64 x.k) (.string x.t) (.int .i64 x.id)
    generalize (((w1.setCell ⟨w.heap.size, 0, none⟩ (.int .i64 x.k)).setCell ⟨w.heap.size, 1, none⟩ (.string x.t)).setCell ⟨w.heap.size, 2, none⟩ (.int .i64 x.id)) = wz at *
    obtain ⟨z0, z1, z2, _⟩ := cells_item hWz
    (try simp only [Exit.inBlock, Exit.then])
    refine bodyPost_ret (v := .tuple #[.agg #[.int .i64 x.k, .string x.t, .int .i64 x.id], .bool ok]) (by simp [results, Tryz.results52, go_sem, z0, z1, z2]; try rfl) rfl ⟨x, ok, q, rfl, HX.out, hSz, hBz⟩
  have n123 := hc
  by_cases h10 : s[p] = 10
  · have he : elX (s.data.toList.drop p) = none := by rw [hd, h10]; rfl
    have HE := Lib.hid he
    have ha : (s[p].toNat : Int) = 10 := by rw [h10]; rfl
    clear hd he h10 hc
    go_enter Tryz.func52, Tryz.ntmps52
    go_upto_region 1 with (fail)
    go_quiet (fail)
    have hZ1 := hZ.call (below_qN _ nq)
    have hS1 := hS.call (below_qN _ nq)
    have hO1 : Only (fun i => i = b) w _ := Only.of_below (BelowOn hBa (below_qN _ nq))
    generalize hW : (w.alloc (.cells #[.int .i64 0, .string ByteArray.empty, .int .i64 0] 43)).drewN nq = W1 at *
    change Exit.then _ _ _ _ ((w.alloc (.cells #[.int .i64 0, .string ByteArray.empty, .int .i64 0] 43)).drewN nq)
    rw [hW]
    clear hW
    obtain ⟨v0, v1, v2, v3, v4, v5⟩ := cells_item hZ1
    go_wp2_with fail
    have hWz := heap_set3 (a' := .int .i64 0) (b' := .string ⟨#[]⟩) (c' := .int .i64 0) hZ1
    have hBz := ((hO1.setNew (p := ⟨w.heap.size, 0, none⟩) (Nat.le_refl _) (.int .i64 0)).setNew (p := ⟨w.heap.size, 1, none⟩) (Nat.le_refl _) (.string ⟨#[]⟩)).setNew (p := ⟨w.heap.size, 2, none⟩) (Nat.le_refl _) (.int .i64 0)
    have hSz := hS1.only3 hBn (.int .i64 0) (.string ⟨#[]⟩) (.int .i64 0)
    generalize (((W1.setCell ⟨w.heap.size, 0, none⟩ (.int .i64 0)).setCell ⟨w.heap.size, 1, none⟩ (.string ⟨#[]⟩)).setCell ⟨w.heap.size, 2, none⟩ (.int .i64 0)) = wz at *
    obtain ⟨z0, z1, z2, _⟩ := cells_item hWz
    (try simp only [Exit.inBlock, Exit.then])
    refine bodyPost_ret (v := .tuple #[.agg #[.int .i64 0, .string ⟨#[]⟩, .int .i64 0], .bool false]) (by simp [results, Tryz.results52, go_sem, z0, z1, z2]; try rfl) rfl ⟨⟨0, ⟨#[]⟩, 0⟩, false, p, rfl, (by rw [HE.out]; exact ⟨rfl, rfl, rfl⟩), hSz, hBz⟩
  · have he : elX (s.data.toList.drop p) = some (bT s[p], 1) := by rw [hd, elX_text _ _ h10 n123 n92]
    have HE := Lib.hid he
    have q1 : ((s[p].toNat : Int) == 10) = false := u8_int_ne (b := 10) h10
    have q2 : ((s[p].toNat : Int) == 123) = false := u8_int_ne (b := 123) n123
    have q3 : ((s[p].toNat : Int) == 92) = false := u8_int_ne (b := 92) n92
    have hcut : s.extract p (p + 1) = ⟨#[s[p]]⟩ := by
      have hl : (s.extract p (p + 1)).data.toList = [s[p]] := by
        rw [show (s.extract p (p + 1)).data.toList = (s.data.toList.drop p).take 1 from by simp [ByteArray.extract, ByteArray.copySlice], hd]; rfl
      rw [← bsL_of (s.extract p (p + 1)), hl]; rfl
    have HCUT := Lib.hid hcut
    clear hd he h10 hcut
    go_enter Tryz.func52, Tryz.ntmps52
    go_upto_region 1 with (fail)
    go_quiet (fail)
    have hZ1 := hZ.call (below_qN _ nq)
    have hS1 := hS.call (below_qN _ nq)
    have hO1 : Only (fun i => i = b) w _ := Only.of_below (BelowOn hBa (below_qN _ nq))
    generalize hW : (w.alloc (.cells #[.int .i64 0, .string ByteArray.empty, .int .i64 0] 43)).drewN nq = W1 at *
    change Exit.then _ _ _ _ ((w.alloc (.cells #[.int .i64 0, .string ByteArray.empty, .int .i64 0] 43)).drewN nq)
    rw [hW]
    clear hW
    clear x0 x1 x2
    obtain ⟨x0, x1, x2⟩ := hS1.cells
    go_upto_region 9 with (fail)
    have hO4 := hO1.setCell ⟨b, 1, none⟩ (.int .i64 ((p + 1 : Nat) : Int)) rfl
    have hS4 := hS1.set (p + 1)
    have hZ4 : zV (W1.setCell ⟨b, 1, none⟩ (.int .i64 ((p + 1 : Nat) : Int))) w.heap.size := hZ1.only ((Only.refl (fun i => i = b) W1).setCell _ _ rfl) (fun e => hBn e.symm)
    change Code.wp _ _ _ _ (W1.setCell ⟨b, 1, none⟩ (.int .i64 ((p + 1 : Nat) : Int)))
    generalize W1.setCell ⟨b, 1, none⟩ (.int .i64 ((p + 1 : Nat) : Int)) = w4 at *
    clear x0 x1 x2
    obtain ⟨x0, x1, x2⟩ := hS4.cells
    obtain ⟨v0, v1, v2, v3, v4, v5⟩ := cells_item hZ4
    have j1 : (p : Int) + 1 ≤ (s.size : Int) := by omega
    have j2 : (p : Int) ≤ (p : Int) + 1 := by omega
    have j3 : (0 : Int) ≤ (p : Int) + 1 := by omega
    have cn : ((p : Int) + 1).toNat = p + 1 := by omega
    have hsub : IntKind.i64.wrap (p : Int) = (p : Int) := IntWalk.i64_in _ ⟨by omega, by omega⟩
    rw [show ((p + 1 : Nat) : Int) = (p : Int) + 1 from rfl] at x1
    have mixed : Tryz.prog.follows .mixedOrders = true := by kernel_rfl
    go_region_o
    all_goals go_wp2_with fail
    rw [HCUT.out]
    have hWz := heap_set3 (a' := .int .i64 1) (b' := .string ⟨#[s[p]]⟩) (c' := .int .i64 0) hZ4
    have hBz := ((hO4.setNew (p := ⟨w.heap.size, 0, none⟩) (Nat.le_refl _) (.int .i64 1)).setNew (p := ⟨w.heap.size, 1, none⟩) (Nat.le_refl _) (.string ⟨#[s[p]]⟩)).setNew (p := ⟨w.heap.size, 2, none⟩) (Nat.le_refl _) (.int .i64 0)
    have hSz := hS4.only3 hBn (.int .i64 1) (.string ⟨#[s[p]]⟩) (.int .i64 0)
    generalize (((w4.setCell ⟨w.heap.size, 0, none⟩ (.int .i64 1)).setCell ⟨w.heap.size, 1, none⟩ (.string ⟨#[s[p]]⟩)).setCell ⟨w.heap.size, 2, none⟩ (.int .i64 0)) = wz at *
    obtain ⟨z0, z1, z2, _⟩ := cells_item hWz
    (try simp only [Exit.inBlock, Exit.then])
    refine bodyPost_ret (v := .tuple #[.agg #[.int .i64 1, .string ⟨#[s[p]]⟩, .int .i64 0], .bool true]) (by simp [results, Tryz.results52, go_sem, show wz.drew.cell? _ = _ from z0, show wz.drew.cell? _ = _ from z1, show wz.drew.cell? _ = _ from z2]; try rfl) rfl ⟨bT s[p], true, p + 1, rfl, (by rw [HE.out]; exact ⟨rfl, rfl, rfl⟩), hSz.drew, hBz.drew⟩
