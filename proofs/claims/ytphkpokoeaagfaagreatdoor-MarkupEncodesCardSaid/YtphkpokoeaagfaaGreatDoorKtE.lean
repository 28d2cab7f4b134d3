/- Whether a tag with a block's name is among items. Rows of bytes that a call owns; contracts of strings.Cut at one byte, CutPrefix. How an item is written. The contract of Encode. -/
import Derived.Test.YtphkpokoeaagfaaGreatDoorKtD
import Derived.Test.YtphkpokoeaagfaaGreatDoorKtU
import Derived.Test.YtphkpokoeaagfaaGreatDoorKtA
import Derived.Test.YtphkpokoeaagfaaGreatDoorCon
import Derived.Test.YtphkpokoeaagfaaGreatDoorBld
import Derived.Test.YtphkpokoeaagfaaGreatDoorRvl
import Derived.Test.YtphkpokoeaagfaaGreatDoorFst
import Derived.Deep.RegionLaw
import Derived.Test.YtphkpokoeaagfaaGreatDoorTgs
import Derived.Test.YtphkpokoeaagfaaGreatDoorCcW
import Derived.Lib.SlBytesRow
namespace Go.Proofs.YtphkpokoeaagfaaGreatDoor
open Go.ChangeShapes Go.WideShapes Go.ChangeAt Go.RowKit
set_option linter.unusedVariables false
set_option linter.unusedSimpArgs false
set_option maxRecDepth 100000

def anyB (l : List It) : Bool := l.any blk
theorem anyB_no {l : List It} (h : ∀ k (hk : k < l.length), blk (l[k]'hk) = false) : anyB l = false := by
  unfold anyB
  rw [List.any_eq_false]
  intro x hx
  obtain ⟨k, hk, rfl⟩ := List.getElem_of_mem hx
  rw [h k hk]; simp
theorem anyB_yes {l : List It} {k : Nat} (hk : k < l.length) (h : blk (l[k]'hk) = true) : anyB l = true := by
  unfold anyB
  rw [List.any_eq_true]
  exact ⟨_, List.getElem_mem hk, h⟩
set_option maxHeartbeats 1600000 in
theorem indexfunc_any (p : Option Addr) (c : Nat) (l : List It) (w : World) (hI : Its w p l) (hs : ∀ x ∈ l, x.t.size ≤ maxLen) (hc : l.length ≤ c) (hm : c ≤ maxLen) :
    Calls Tryz.prog 71 #[.slice p l.length c, .func (.func 38) #[] #[]] w fun e w' => (∃ z : Int, e = .returned (.int .i64 z) ∧ decide (0 ≤ z) = anyB l) ∧ Below w.heap.size w w' := by
  have hb := fun k t id W (h : ByteArray.size t ≤ maxLen) => hasblock_any k t id W h
  have HB := Lib.hid hb; have HS := Lib.hid hs
  clear hb hs
  unfold maxLen at hm
  go_enter Tryz.func71, Tryz.ntmps71
  go_wp2_with fail
  go_loopw [8] (fun i wr => ∃ k : Nat, k ≤ l.length ∧ i = .int .i64 k ∧ (∀ j (hj : j < l.length), j < k → blk (l[j]'hj) = false) ∧ Below w.heap.size w wr) (fun i _ => l.length - (intOf i).toNat)
  case atStart => exact ⟨0, Nat.zero_le _, rfl, fun j _ h => absurd h (by omega), Below.refl _ _⟩
  case round =>
    obtain ⟨k, hk, rfl, hno, hB⟩ := hrel
    by_cases hlt : k < l.length
    · obtain ⟨ad, rfl, had, c0, c1, c2⟩ := (hI.call hB).row k hlt
      have hx := HS.out _ (List.getElem_mem hlt)
      have hbk := HB.out (l[k]).k (l[k]).t (l[k]).id wr hx
      have HNO := Lib.hid hno
      have hblk : blkN (nameB (l[k]).t) = blk l[k] := rfl
      rw [hblk] at hbk
      cases hq : blk l[k]
      · rw [hq] at hbk
        have HBK := Lib.hid hbk
        have HQ := Lib.hid hq
        clear hbk hq hblk hno
        go_wp2_with fail
        refine HBK.out.mono ?_; rintro e w1 ⟨rfl, hb1⟩
        go_wp2_with fail
        go_roundw
        case rel => exact ⟨k + 1, hlt, by go_num, fun j hj h => by
          rcases Nat.lt_or_ge j k with h1 | h1
          · exact HNO.out j hj h1
          · obtain rfl : j = k := by omega
            exact HQ.out, BelowOn hB hb1⟩
        case measure => simp [intOf]; omega
      · rw [hq] at hbk
        have HBK := Lib.hid hbk
        have HQ := Lib.hid (anyB_yes hlt hq)
        clear hbk hq hblk hno
        go_wp2_with fail
        refine HBK.out.mono ?_; rintro e w1 ⟨rfl, hb1⟩
        go_wp2_with fail
        go_ret
        exact ⟨⟨(k : Int), rfl, by rw [HQ.out]; simp⟩, BelowOn hB hb1⟩
    · obtain rfl : k = l.length := by omega
      have HQ := Lib.hid (anyB_no (fun k hk => hno k hk hk))
      clear hno
      go_wp2_with fail
      go_ret
      exact ⟨⟨-1, rfl, by rw [HQ.out]; rfl⟩, hB⟩
set_option maxHeartbeats 800000 in
theorem containsfunc_any (p : Option Addr) (c : Nat) (l : List It) (w : World) (hI : Its w p l) (hs : ∀ x ∈ l, x.t.size ≤ maxLen) (hc : l.length ≤ c) (hm : c ≤ maxLen) :
    Calls Tryz.prog 36 #[.slice p l.length c, .func (.func 38) #[] #[]] w fun e w' => e = .returned (.bool (anyB l)) ∧ Below w.heap.size w w' := by
  have h := indexfunc_any p c l w hI hs hc hm
  generalize anyB l = B at *
  clear hI hs
  go_enter Tryz.func36, Tryz.ntmps36
  go_wp2_with fail
  refine h.mono ?_; rintro e w1 ⟨⟨z, rfl, hz⟩, hb⟩
  have HZ := Lib.hid hz
  clear hz
  go_wp2_with fail
  go_ret
  exact ⟨ret_bool HZ.out, hb⟩
end Go.Proofs.YtphkpokoeaagfaaGreatDoor
namespace Go.Proofs.YtphkpokoeaagfaaGreatDoor
open Go.ChangeShapes Go.WideShapes Go.ChangeAt Go.RowKit
set_option linter.unusedVariables false
set_option linter.unusedSimpArgs false
set_option maxRecDepth 100000


theorem info5' : (Tryz.prog.info? 5).map (fun i => (i.zero, i.size, i.bytes)) = some (some (.int .u8 0), 1, 1) := by kernel_rfl
def benc (c : UInt8) : List Value := [.int .u8 (c.toNat : Int)]
theorem eB : El 67 5 1 1 (.int .u8 0) benc := ⟨Tryz.underlying67, info_parts info5', rfl, by omega, fun _ => rfl, fun x u hu => by simp [benc] at hu; subst hu; rfl⟩
theorem cells_bytes (l : List UInt8) : cellsOf benc l = Lib.byteCells l := by
  unfold cellsOf Lib.byteCells
  induction l with
  | nil => rfl
  | cons x t ih => rw [List.flatMap_cons, ih]; rfl
/-- A slice of bytes that the call owns from block base on. -/
def OwB (base : Nat) (l : List UInt8) (v : Value) (w : World) : Prop := w.ownsRow base 5 1 v l.length (Lib.byteCells l)
theorem OwB.ownL {base : Nat} {l : List UInt8} {v : Value} {w : World} (h : OwB base l v w) : OwnL 5 1 benc base l v w := by unfold OwnL; rw [cells_bytes]; exact h
theorem OwB.of {base : Nat} {l : List UInt8} {v : Value} {w : World} (h : OwnL 5 1 benc base l v w) : OwB base l v w := by unfold OwnL at h; rw [cells_bytes] at h; exact h
theorem OwB.call {base : Nat} {l : List UInt8} {v : Value} {w w1 : World} (h : OwB base l v w) (hb : Below w.heap.size w w1) : OwB base l v w1 := ownsRow_below h hb
theorem OwB.form {base : Nat} {l : List UInt8} {v : Value} {w : World} (h : OwB base l v w) : ∃ a n c, v = .slice a n c := by
  rcases h.2 with ⟨hv, _⟩ | ⟨g, cap, cur, hv, _⟩
  · exact ⟨_, _, _, hv⟩
  · exact ⟨_, _, _, hv⟩
theorem OwB.nil (w : World) (base : Nat) : OwB base [] (.slice none 0 0) w := World.ownsRow_nil _ _ _ _
/-- What appending leaves: a longer row; nothing below base has turned. -/
def EndB (base : Nat) (l : List UInt8) (w : World) (e : Ending) (w' : World) : Prop := ∃ a n c, e = .returned (.slice a n c) ∧ OwB base l (.slice a n c) w' ∧ Below base w w'
/-- append of the bytes of a block to a row that the call owns. -/
theorem wpl_catB (w : World) {ops : Array Oper} {rest : List Oper} {o : Oper} {a : Act} {Q : Exit → Act → World → Prop} (hg : o.guard = none) (s x : Operand)
    (ho : o.op = .call { callee := .builtin .append, args := #[s, x], argTypes := #[67, 67] }) (base : Nat) (L : List UInt8) (v : Value) (hs : a.eval s = v) (h : OwB base L v w) (hbase : base ≤ w.heap.size) (ys : List UInt8) (B m : Nat) (cs : Array Value)
    (hx : a.eval x = .slice (some ⟨B, 0, none⟩) m m) (hB : w.heap[B]? = some (.cells cs 5 (0, 0))) (hcs : cs.toList = Lib.byteCells ys) (hm : ys.length = m) (hm0 : 0 < m) (hlen : L.length + m ≤ 140737488355328)
    (hK : ∀ g cap w', OwB base (L ++ ys) (.slice (some ⟨g, 0, none⟩) (L.length + m) cap) w' → w.grownBy w' v.ownBlock → Below base w w' → wpList Tryz.prog ops Q rest (a.put o.dst (.slice (some ⟨g, 0, none⟩) (L.length + m) cap)) w') : wpList Tryz.prog ops Q (o :: rest) a w := by
  obtain ⟨i, hi, hz0, hz1, hz2⟩ := eB.hi
  refine wpList_append_lies w hg s x 67 ho base 5 i (.int .u8 0) 1 1 eB.ht hi hz0 hz1 hz2 rfl (by omega) v L.length (Lib.byteCells L) hs h ⟨B, 0, none⟩ m m (Lib.byteCells ys) hx (by rw [Lib.byteCells_length]; omega) ?_ (fun u hu => ?_) hm0 (by unfold maxLen; omega) (by omega) hbase _ rfl ?_
  · rw [← hcs]; exact World.news_of_block hB
  · unfold Lib.byteCells at hu; obtain ⟨c, _, rfl⟩ := List.mem_map.1 hu; rfl
  · intro g cap w' h2 h3 h4 h5
    refine hK g cap w' ?_ h3 ((Below.refl base w).grown h3 hbase (fun k hk => (h.lt k hk).1))
    unfold OwB; rw [List.length_append, hm, byteCells_append]; exact h2
theorem step_catB (w : World) {ops : Array Oper} {o : Oper} {a : Act} {K : Act → World → Prop} {Q : Exit → Act → World → Prop} {EE : Prop} (hg : o.guard = none) (s x : Operand)
    (ho : o.op = .call { callee := .builtin .append, args := #[s, x], argTypes := #[67, 67] }) (base : Nat) (L : List UInt8) (v : Value) (hs : a.eval s = v) (h : OwB base L v w) (hbase : base ≤ w.heap.size) (ys : List UInt8) (B m : Nat) (cs : Array Value)
    (hx : a.eval x = .slice (some ⟨B, 0, none⟩) m m) (hB : w.heap[B]? = some (.cells cs 5 (0, 0))) (hcs : cs.toList = Lib.byteCells ys) (hm : ys.length = m) (hm0 : 0 < m) (hlen : L.length + m ≤ 140737488355328)
    (hK : ∀ g cap w', OwB base (L ++ ys) (.slice (some ⟨g, 0, none⟩) (L.length + m) cap) w' → w.grownBy w' v.ownBlock → Below base w w' → K (a.put o.dst (.slice (some ⟨g, 0, none⟩) (L.length + m) cap)) w') :
    if Region.wanted o (yielded ops a.tmps) = true then Oper.wp Tryz.prog o a w K Q else EE := by
  obtain ⟨i, hi, hz0, hz1, hz2⟩ := eB.hi
  refine step_append_lies w hg s x 67 ho base 5 i (.int .u8 0) 1 1 eB.ht hi hz0 hz1 hz2 rfl (by omega) v L.length (Lib.byteCells L) hs h ⟨B, 0, none⟩ m m (Lib.byteCells ys) hx (by rw [Lib.byteCells_length]; omega) ?_ (fun u hu => ?_) hm0 (by unfold maxLen; omega) (by omega) hbase _ rfl ?_
  · rw [← hcs]; exact World.news_of_block hB
  · unfold Lib.byteCells at hu; obtain ⟨c, _, rfl⟩ := List.mem_map.1 hu; rfl
  · intro g cap w' h2 h3 h4 h5
    refine hK g cap w' ?_ h3 ((Below.refl base w).grown h3 hbase (fun k hk => (h.lt k hk).1))
    unfold OwB; rw [List.length_append, hm, byteCells_append]; exact h2
/-- append of a string's bytes to a row that the call owns. -/
theorem wpl_strB (w : World) {ops : Array Oper} {rest : List Oper} {o : Oper} {a : Act} {Q : Exit → Act → World → Prop} (hg : o.guard = none) (s x : Operand)
    (ho : o.op = .call { callee := .builtin .append, args := #[s, x], argTypes := #[67, 9] }) (base : Nat) (L : List UInt8) (v : Value) (hs : a.eval s = v) (h : OwB base L v w) (hbase : base ≤ w.heap.size) (t : ByteArray) (hx : a.eval x = .string t) (hlen : L.length + t.size ≤ 140737488355328)
    (hK : ∀ p n c w', OwB base (L ++ t.data.toList) (.slice p n c) w' → w.grownBy w' v.ownBlock → Below base w w' → wpList Tryz.prog ops Q rest (a.put o.dst (.slice p n c)) w') : wpList Tryz.prog ops Q (o :: rest) a w := by
  refine wpl_append_str hg s x ho base v L.length _ hs h t hx hlen hbase fun v' w' h2 h3 h4 => ?_
  have h5 : OwB base (L ++ t.data.toList) v' w' := by unfold OwB; rw [List.length_append, byteCells_append, ← strCells_eq, show t.data.toList.length = t.size by simp]; exact h2
  obtain ⟨p, n, c, rfl⟩ := h5.form
  exact hK p n c w' h5 h3 ((Below.refl base w).grown h3 hbase (fun k hk => (World.ownsRow.lt h k hk).1))
theorem indexByte_upto (c : UInt8) (l : List UInt8) : Lib.indexByte l c = if hasU c l = true then ((upto c l).length : Int) else -1 := by
  induction l with
  | nil => rfl
  | cons x t ih =>
    rw [Lib.indexByte]
    by_cases hx : x = c
    · subst hx; simp [hasU, upto]
    · have h1 : (x == c) = false := by simpa using hx
      have h2 : (x != c) = true := by simpa using hx
      have e1 : upto c (x :: t) = x :: upto c t := by unfold upto; rw [List.takeWhile_cons, h2, if_pos rfl]
      have e2 : hasU c (x :: t) = hasU c t := by unfold hasU; rw [e1]; simp
      rw [h1, ih, e1, e2]
      cases hh : hasU c t <;> simp
theorem extract_take (s : ByteArray) (n : Nat) : s.extract 0 n = bsL (s.data.toList.take n) := by
  apply ByteArray.ext; unfold bsL; rw [ByteArray.data_extract]; apply Array.ext'; simp
theorem upto_take (c : UInt8) (l : List UInt8) : l.take (upto c l).length = upto c l := by
  have h : upto c l <+: l := List.takeWhile_prefix _
  exact List.prefix_iff_eq_take.1 h |>.symm
theorem upto_le (c : UInt8) (l : List UInt8) : (upto c l).length ≤ l.length := (List.takeWhile_prefix (p := (· != c)) (l := l)).length_le

theorem scutc_any (s : ByteArray) (c : UInt8) (w : World) (hs : s.size ≤ maxLen) :
    Calls Tryz.prog 114 #[.string s, .string ⟨#[c]⟩] w fun e w' => e = .returned (.tuple #[.string (bsL (upto c s.data.toList)), .string (bsL (aft c s.data.toList)), .bool (hasU c s.data.toList)]) ∧ Below w.heap.size w w' := by
  unfold maxLen at hs
  have hi := Tryz.stringslite_Index_one s c
  rw [indexByte_upto] at hi
  have hle := upto_le c s.data.toList
  have hsz : s.data.toList.length = s.size := by simp
  have hn : s.extract 0 (upto c s.data.toList).length = bsL (upto c s.data.toList) := by rw [extract_take, upto_take]
  have hr : s.extract ((upto c s.data.toList).length + 1) s.size = bsL (aft c s.data.toList) := extract_drop s _
  cases hb : hasU c s.data.toList
  · rw [hb, if_neg (by simp)] at hi
    have hall := (upto_none c _ hb).1
    have h1 : bsL (upto c s.data.toList) = s := by rw [hall, bsL_of]
    have h2 : bsL (aft c s.data.toList) = ByteArray.empty := by unfold aft; rw [hall, List.drop_of_length_le (by omega)]; rfl
    have HI := Lib.hid hi; have HN := Lib.hid h1; have HR := Lib.hid h2
    clear hi hn hr hb hle h1 h2 hall hsz
    go_enter Tryz.func114, Tryz.ntmps114
    go_wp2_with fail
    refine (HI.out _).mono ?_; rintro e w1 ⟨rfl, rfl⟩
    go_wp2_with fail
    go_ret3
    exact ⟨by rw [HN.out, HR.out]; rfl, Below.refl _ _⟩
  · rw [hb, if_pos rfl] at hi
    have hlt : (upto c s.data.toList).length < s.size := by unfold hasU at hb; simpa using hb
    generalize (upto c s.data.toList).length = n at *
    have c0 : (0 : Int) ≤ (n : Int) := by omega
    have c1 : (n : Int) ≤ (s.size : Int) := by omega
    have c2 : (0 : Int) ≤ (n : Int) + 1 := by omega
    have c3 : (n : Int) + 1 ≤ (s.size : Int) := by omega
    have HN := Lib.hid hn; have HR := Lib.hid hr; have HI := Lib.hid hi
    clear hi hb hn hr hle hsz hlt
    have mixed : Tryz.prog.follows .mixedOrders = true := by kernel_rfl
    have cw : IntKind.i64.wrap ((n : Int) + 1) = (n : Int) + 1 := by
      have a1 : (-9223372036854775808 : Int) ≤ (n : Int) + 1 := by omega
      have a2 : (n : Int) + 1 ≤ 9223372036854775807 := by omega
      exact IntWalk.i64_in _ ⟨a1, a2⟩
    have cn : ((n : Int) + 1).toNat = n + 1 := by omega
    go_enter Tryz.func114, Tryz.ntmps114
    go_wp2_with fail
    refine (HI.out _).mono ?_; rintro e w1 ⟨rfl, rfl⟩
    go_wp2_with fail
    go_region_o
    all_goals go_wp2_with fail
    all_goals go_ret3
    all_goals (rw [← HN.out, ← HR.out]; exact ⟨rfl, (Below.refl _ _).drew⟩)
theorem cutc_any (s : ByteArray) (c : UInt8) (w : World) (hs : s.size ≤ maxLen) :
    Calls Tryz.prog 81 #[.string s, .string ⟨#[c]⟩] w fun e w' => e = .returned (.tuple #[.string (bsL (upto c s.data.toList)), .string (bsL (aft c s.data.toList)), .bool (hasU c s.data.toList)]) ∧ Below w.heap.size w w' := by
  have h := fun w => scutc_any s c w hs
  generalize bsL (upto c s.data.toList) = a at *
  generalize bsL (aft c s.data.toList) = b at *
  generalize hasU c s.data.toList = d at *
  have H := Lib.hid h; clear h
  go_enter Tryz.func81, Tryz.ntmps81
  go_wp2_with fail
  refine (H.out _).mono ?_; rintro e w1 ⟨rfl, hb⟩
  go_wp2_with fail
  go_ret3
  exact ⟨rfl, hb⟩
/-- A list's head, off. -/
def hdB (c : UInt8) (l : List UInt8) : Bool := decide (l.head? = some c)
def tlB (c : UInt8) (l : List UInt8) : List UInt8 := if l.head? = some c then l.drop 1 else l
def laB (c : UInt8) (l : List UInt8) : Bool := decide (l.getLast? = some c)
def inB (c : UInt8) (l : List UInt8) : List UInt8 := if l.getLast? = some c then l.dropLast else l
theorem prefix_one (c : UInt8) (l : List UInt8) : Lib.hasPrefix l [c] = hdB c l := by
  unfold Lib.hasPrefix hdB
  rw [Bool.eq_iff_iff, List.isPrefixOf_iff_prefix]
  cases l with
  | nil => simp
  | cons x t => simp [List.cons_prefix_cons, eq_comm]
theorem suffix_one (c : UInt8) (l : List UInt8) : Lib.hasSuffix l [c] = laB c l := by
  unfold Lib.hasSuffix laB
  rw [Bool.eq_iff_iff, List.isSuffixOf_iff_suffix]
  rw [decide_eq_true_iff]
  constructor
  · rintro ⟨t, rfl⟩; simp
  · intro h
    have hne : l ≠ [] := by intro e; rw [e] at h; cases h
    rw [List.getLast?_eq_some_getLast hne] at h
    injection h with h
    exact ⟨l.dropLast, by rw [← h, List.dropLast_concat_getLast]⟩
theorem cutprefix_any (s : ByteArray) (c : UInt8) (w : World) :
    Calls Tryz.prog 111 #[.string s, .string ⟨#[c]⟩] w fun e w' => e = .returned (.tuple #[.string (bsL (tlB c s.data.toList)), .bool (hdB c s.data.toList)]) ∧ w = w' := by
  refine (Tryz.strings_CutPrefix s ⟨#[c]⟩ w).mono fun e w' ⟨he, hw⟩ => ⟨?_, hw.symm⟩
  rw [he]
  have e1 : Lib.trimPrefix s.data.toList [c] = tlB c s.data.toList := by
    unfold Lib.trimPrefix tlB
    rw [prefix_one]
    unfold hdB
    by_cases h : s.data.toList.head? = some c
    · simp [h]
    · simp [h]
  show Ending.returned (.tuple #[.string (bsL (Lib.trimPrefix s.data.toList [c])), .bool (Lib.hasPrefix s.data.toList [c])]) = _
  rw [e1, prefix_one]
end Go.Proofs.YtphkpokoeaagfaaGreatDoor
namespace Go.Proofs.YtphkpokoeaagfaaGreatDoor
open Go.ChangeShapes Go.WideShapes Go.ChangeAt Go.RowKit
set_option linter.unusedVariables false
set_option linter.unusedSimpArgs false
set_option maxRecDepth 100000

def encT (l : List UInt8) : List UInt8 := l.flatMap byM
theorem encT_next (s : ByteArray) (k : Nat) (h : k < s.size) : encT (s.data.toList.take (k + 1)) = encT (s.data.toList.take k) ++ byM s[k] := by
  unfold encT
  rw [List.take_succ_eq_append_getElem (by simpa using h), List.flatMap_append]; simp; rfl
theorem byM_len (c : UInt8) : (byM c).length ≤ 5 := by unfold byM; repeat' split
                                                       all_goals simp
theorem encT_len (l : List UInt8) : (encT l).length ≤ 5 * l.length := by
  unfold encT
  induction l with
  | nil => simp
  | cons x t ih => rw [List.flatMap_cons, List.length_append, List.length_cons]; have := byM_len x; omega
theorem encT_take (s : ByteArray) (k : Nat) (h : k ≤ s.size) : (encT (s.data.toList.take k)).length ≤ 5 * s.size := by
  have := encT_len (s.data.toList.take k)
  have h2 : (s.data.toList.take k).length ≤ s.size := by simp; omega
  omega
set_option maxHeartbeats 3200000 in
theorem appendtext_any (base : Nat) (l : List UInt8) (p : Option Addr) (n c : Nat) (t : ByteArray) (w : World) (h : OwB base l (.slice p n c) w) (hb : base ≤ w.heap.size) (hl : l.length + 5 * t.size + 8 ≤ 140737488355328) :
    Calls Tryz.prog 74 #[.slice p n c, .string t] w (EndB base (l ++ encT t.data.toList) w) := by
  have hEnd : ∀ a n c w', OwB base (l ++ encT t.data.toList) (.slice a n c) w' → Below base w w' → EndB base (l ++ encT t.data.toList) w (.returned (.slice a n c)) w' := fun a n c w' h1 h2 => ⟨a, n, c, rfl, h1, h2⟩
  have HE := Lib.hid hEnd; clear hEnd
  go_enter Tryz.func74, Tryz.ntmps74
  go_wp2_with fail
  go_loopw [0, 9] (fun v i wr => ∃ (k : Nat) (a : Option Addr) (n c : Nat), k ≤ t.size ∧ i = .int .i64 k ∧ v = .slice a n c ∧ OwB base (l ++ encT (t.data.toList.take k)) (.slice a n c) wr ∧ Below base w wr) (fun _ i _ => t.size - (intOf i).toNat)
  case atStart => exact ⟨0, p, n, c, Nat.zero_le _, rfl, rfl, by simpa [encT] using h, Below.refl _ _⟩
  case round =>
    obtain ⟨k, a, n, c, hk, rfl, rfl, hO, hB⟩ := hrel
    have hbw : base ≤ wr.heap.size := Nat.le_trans hb hB.size
    have htl := encT_take t k hk
    have hll : (l ++ encT (t.data.toList.take k)).length + 8 ≤ 140737488355328 := by rw [List.length_append]; omega
    by_cases hlt : k < t.size
    · have hn := encT_next t k hlt
      have HN := Lib.hid hn
      clear hn
      generalize hLL : l ++ encT (t.data.toList.take k) = L at *
      have HL := Lib.hid hLL; clear hLL
      have hlt8 := t[k].toNat_lt
      by_cases h60 : t[k] = 60
      · have hx4 : byM t[k] = (⟨#[38, 108, 116, 59]⟩ : ByteArray).data.toList := by rw [h60]; rfl
        have HW := Lib.hid hx4
        have q0 : ((t[k].toNat : Int) == 60) = true := by rw [h60]; rfl
        clear hx4 h60
        go_wp2_with (at_builtin; refine wpl_strB _ rfl _ _ rfl base L (.slice a n c) rfl hO hbw ⟨#[38, 108, 116, 59]⟩ rfl (by show L.length + 4 ≤ _; omega) ?_; intro a2 n2 c2' w2 hW2 hg2 hB2)
        go_roundw
        case rel => exact ⟨k + 1, _, _, _, hlt, by go_num, rfl, by rw [HN.out, HW.out, ← List.append_assoc, HL.out]; exact hW2, hB.trans hB2⟩
        case measure => simp [intOf]; omega
      have q0 : ((t[k].toNat : Int) == 60) = false := u8_int_ne h60
      by_cases h38 : t[k] = 38
      · have hx4 : byM t[k] = (⟨#[38, 97, 109, 112, 59]⟩ : ByteArray).data.toList := by rw [h38]; rfl
        have HW := Lib.hid hx4
        have q1 : ((t[k].toNat : Int) == 38) = true := by rw [h38]; rfl
        clear hx4 h38 h60
        go_wp2_with (at_builtin; refine wpl_strB _ rfl _ _ rfl base L (.slice a n c) rfl hO hbw ⟨#[38, 97, 109, 112, 59]⟩ rfl (by show L.length + 5 ≤ _; omega) ?_; intro a2 n2 c2' w2 hW2 hg2 hB2)
        go_roundw
        case rel => exact ⟨k + 1, _, _, _, hlt, by go_num, rfl, by rw [HN.out, HW.out, ← List.append_assoc, HL.out]; exact hW2, hB.trans hB2⟩
        case measure => simp [intOf]; omega
      have q1 : ((t[k].toNat : Int) == 38) = false := u8_int_ne h38
      by_cases h123 : t[k] = 123
      · have hx4 : byM t[k] = (⟨#[38, 108, 98, 59]⟩ : ByteArray).data.toList := by rw [h123]; rfl
        have HW := Lib.hid hx4
        have q2 : ((t[k].toNat : Int) == 123) = true := by rw [h123]; rfl
        clear hx4 h38 h60 h123
        go_wp2_with (at_builtin; refine wpl_strB _ rfl _ _ rfl base L (.slice a n c) rfl hO hbw ⟨#[38, 108, 98, 59]⟩ rfl (by show L.length + 4 ≤ _; omega) ?_; intro a2 n2 c2' w2 hW2 hg2 hB2)
        go_roundw
        case rel => exact ⟨k + 1, _, _, _, hlt, by go_num, rfl, by rw [HN.out, HW.out, ← List.append_assoc, HL.out]; exact hW2, hB.trans hB2⟩
        case measure => simp [intOf]; omega
      have q2 : ((t[k].toNat : Int) == 123) = false := u8_int_ne h123
      have hx4 : byM t[k] = [t[k]] := by unfold byM; rw [if_neg h60, if_neg h38, if_neg h123]
      have HW := Lib.hid hx4
      clear hx4 h38 h60 h123
      go_wp2_with (at_builtin; refine wpl_catB _ rfl _ _ rfl base _ _ rfl (hO.call (blw (Below.refl _ _) _)) (by simp; omega) [t[k]] _ 1 _ rfl (heap_alloc_new _ _) rfl rfl (by omega) (by omega) ?_; intro g cap w2 hO2 hg2 hB2)
      go_roundw
      case rel => exact ⟨k + 1, _, _, _, hlt, by go_num, rfl, by rw [HN.out, HW.out, ← List.append_assoc, HL.out]; exact hO2, (hB.alloc hbw _).trans hB2⟩
      case measure => simp [intOf]; omega
    · have hk' : t.data.toList.take k = t.data.toList := List.take_of_length_le (by simp; omega)
      rw [hk'] at hO
      go_wp2_with fail
      go_ret
      exact HE.out _ _ _ _ hO hB
set_option maxHeartbeats 1600000 in
theorem appendbtw_any (base : Nat) (l : List UInt8) (p : Option Addr) (n c : Nat) (a t b : ByteArray) (w : World) (h : OwB base l (.slice p n c) w) (hb : base ≤ w.heap.size) (hl : l.length + a.size + t.size + b.size ≤ 140737488355328) :
    Calls Tryz.prog 73 #[.slice p n c, .string a, .string t, .string b] w (EndB base (l ++ a.data.toList ++ t.data.toList ++ b.data.toList) w) := by
  have ha : a.data.toList.length = a.size := by simp
  have ht : t.data.toList.length = t.size := by simp
  go_enter Tryz.func73, Tryz.ntmps73
  go_upto_region 2 with (at_builtin; refine wpl_strB _ rfl _ _ rfl base l (.slice p n c) rfl h hb a rfl (by omega) ?_; intro p1 n1 c1 w1 h1 hg1 hB1)
  go_upto_region 3 with (at_builtin; refine wpl_strB _ rfl _ _ rfl base (l ++ a.data.toList) (.slice p1 n1 c1) rfl h1 (Nat.le_trans hb hB1.size) t rfl (by rw [List.length_append]; omega) ?_; intro p2 n2 c2 w2 h2 hg2 hB2)
  go_wp2_with (at_builtin; refine wpl_strB _ rfl _ _ rfl base (l ++ a.data.toList ++ t.data.toList) (.slice p2 n2 c2) rfl h2 (Nat.le_trans hb (Nat.le_trans hB1.size hB2.size)) b rfl (by rw [List.length_append, List.length_append]; omega) ?_; intro p3 n3 c3 w3 h3 hg3 hB3)
  go_ret
  exact ⟨p3, n3, c3, rfl, h3, (hB1.trans hB2).trans hB3⟩
set_option maxHeartbeats 800000 in
theorem closing_any (t : ByteArray) (w : World) (hl : t.size ≤ 1000000000) : Calls Tryz.prog 49 #[.string t] w fun e w' => e = .returned (.string (⟨#[60, 47]⟩ ++ t ++ ⟨#[62]⟩)) ∧ w = w' := by
  have z1 : ¬ (9223372036854775807 < 2 + t.size) := by omega
  have z2 : ¬ (9223372036854775807 < (⟨#[60, 47]⟩ ++ t : ByteArray).size + 1) := by
    rw [ByteArray.size_append, show (⟨#[60, 47]⟩ : ByteArray).size = 2 from rfl]; omega
  go_enter Tryz.func49, Tryz.ntmps49
  go_wp2
  all_goals go_ret
  all_goals exact ⟨rfl, rfl⟩
end Go.Proofs.YtphkpokoeaagfaaGreatDoor
namespace Go.Proofs.YtphkpokoeaagfaaGreatDoor
open Go.ChangeShapes Go.WideShapes Go.ChangeAt Go.RowKit
set_option linter.unusedVariables false
set_option linter.unusedSimpArgs false
set_option maxRecDepth 100000

theorem etxt_small {x : It} (hp : properB x = true) (hw : wid x ≤ 1024) : x.t.size ≤ 1024 := by
  rcases proper_kinds hp with h | h | h
  · have : wid x = x.t.size := if_pos h
    omega
  · obtain ⟨_, _, h3, h4⟩ := isT_proper h hp
    unfold isT at h; simp at h
    by_cases hk : x.k = 3
    · have := (isNm_bytes _ (h3 hk)).2.1; omega
    · have := ((isCon_iff _).1 (h4 (by omega))).size; omega
  · rw [slot_proper h] at hp
    simp at hp
    have := (isNm_bytes _ hp.1).2.1; omega
theorem ewid_len (l : List It) (k : Nat) (h : k < l.length) : wid (l[k]'h) ≤ lenI l := by
  have h1 := lenI_next l k h
  have h2 := lenI_take l (k + 1)
  omega
theorem eitem_small {f : List It} (h : valE f = 0) (k : Nat) (hk : k < f.length) : properB (f[k]'hk) = true ∧ (f[k]'hk).t.size ≤ 1024 := by
  obtain ⟨h1, h2, h3⟩ := valE_zero h
  have hp := errL_proper f h3 _ (List.getElem_mem hk)
  have := ewid_len f k hk
  exact ⟨hp, etxt_small hp (by omega)⟩
theorem ekinds {x : It} (hp : properB x = true) : x.k = 1 ∨ x.k = 2 ∨ x.k = 3 ∨ x.k = 4 ∨ x.k = 5 := by
  rcases proper_kinds hp with h | h | h
  · omega
  · unfold isT at h; simp at h; omega
  · omega
theorem e1M_1 {x : It} (h : x.k = 1) : e1M x = encT x.t.data.toList := if_pos h
theorem e1M_2 {x : It} (h : x.k = 2) : e1M x = (⟨#[60]⟩ : ByteArray).data.toList ++ x.t.data.toList ++ (⟨#[62]⟩ : ByteArray).data.toList := by
  unfold e1M; rw [if_neg (by omega), if_pos h]; rfl
theorem e1M_3 {x : It} (h : x.k = 3) : e1M x = (⟨#[60, 47]⟩ ++ x.t ++ ⟨#[62]⟩ : ByteArray).data.toList := by
  unfold e1M; rw [if_neg (by omega), if_neg (by omega), if_pos h]; simp
theorem e1M_4 {x : It} (h : x.k = 4) : e1M x = (⟨#[60]⟩ : ByteArray).data.toList ++ x.t.data.toList ++ (⟨#[47, 62]⟩ : ByteArray).data.toList := by
  unfold e1M; rw [if_neg (by omega), if_neg (by omega), if_neg (by omega), if_pos h]; simp
theorem e1M_5 {x : It} (h : x.k = 5) : e1M x = (⟨#[123]⟩ : ByteArray).data.toList ++ x.t.data.toList ++ (⟨#[125]⟩ : ByteArray).data.toList := by
  unfold e1M; rw [if_neg (by omega), if_neg (by omega), if_neg (by omega), if_neg (by omega)]; rfl
theorem e1M_len {x : It} (h : x.t.size ≤ 1024) : (e1M x).length ≤ 6000 := by
  have hs : x.t.data.toList.length = x.t.size := by simp
  unfold e1M
  split
  · have := encT_len x.t.data.toList
    unfold encT at this; omega
  · repeat' split
    all_goals (simp only [List.length_cons, List.length_append, List.length_nil, hs]; omega)
theorem enc_len {f : List It} (h : valE f = 0) : ∀ k, k ≤ f.length → (encM (f.take k)).length ≤ 6000 * k := by
  intro k
  induction k with
  | zero => intro _; simp [encM]
  | succ j ih =>
    intro hj
    obtain ⟨h1, h2⟩ := eitem_small h j (by omega)
    have := ih (by omega)
    have := e1M_len h2
    rw [encM_next f j (by omega), List.length_append]
    omega
set_option maxHeartbeats 3200000 in
theorem appenditem_any (base : Nat) (l : List UInt8) (p : Option Addr) (n c : Nat) (x : It) (w : World) (h : OwB base l (.slice p n c) w) (hb : base ≤ w.heap.size) (hk : x.k = 1 ∨ x.k = 2 ∨ x.k = 3 ∨ x.k = 4 ∨ x.k = 5) (ht : x.t.size ≤ 1024) (hl : l.length ≤ 1000000000) :
    Calls Tryz.prog 39 #[.slice p n c, .agg #[.int .i64 x.k, .string x.t, .int .i64 x.id]] w (EndB base (l ++ e1M x) w) := by
  obtain ⟨k, tx, id⟩ := x
  have hk : k = 1 ∨ k = 2 ∨ k = 3 ∨ k = 4 ∨ k = 5 := hk
  have ht : tx.size ≤ 1024 := ht
  dsimp only
  have h1 := h.call (blw (Below.refl _ _) (.cells #[.int .i64 k, .string tx, .int .i64 id] 62))
  have hb1 : base ≤ (w.alloc (.cells #[.int .i64 k, .string tx, .int .i64 id] 62)).heap.size := by simp; omega
  have hB : Below base w (w.alloc (.cells #[.int .i64 k, .string tx, .int .i64 id] 62)) := (Below.refl base w).alloc hb _
  have hbt := fun a b (ha : ByteArray.size a ≤ 100) (hb : ByteArray.size b ≤ 100) => appendbtw_any base l p n c a tx b _ h1 hb1 (by omega)
  have htx := appendtext_any base l p n c tx _ h1 hb1 (by omega)
  have hcl := fun W => closing_any tx W (by omega)
  have HBT := Lib.hid hbt; have HTX := Lib.hid htx; have HCL := Lib.hid hcl; have H1 := Lib.hid h1
  clear hbt htx hcl h h1
  rcases hk with rfl | rfl | rfl | rfl | rfl
  · rw [e1M_1 rfl]
    go_enter Tryz.func39, Tryz.ntmps39
    go_wp2_with fail
    refine HTX.out.mono ?_; rintro e w1 ⟨a, n1, c1, rfl, hO, hB1⟩
    go_wp2_with fail
    go_ret
    exact ⟨a, n1, c1, rfl, hO, hB.trans hB1⟩
  · rw [e1M_2 rfl, ← List.append_assoc, ← List.append_assoc]
    go_enter Tryz.func39, Tryz.ntmps39
    go_wp2_with fail
    refine (HBT.out ⟨#[60]⟩ ⟨#[62]⟩ (by decide) (by decide)).mono ?_; rintro e w1 ⟨a, n1, c1, rfl, hO, hB1⟩
    go_wp2_with fail
    go_ret
    exact ⟨a, n1, c1, rfl, hO, hB.trans hB1⟩
  · rw [e1M_3 rfl]
    have hsz : ((⟨#[60, 47]⟩ ++ tx ++ ⟨#[62]⟩ : ByteArray)).size = tx.size + 3 := by
      rw [ByteArray.size_append, ByteArray.size_append, show (⟨#[60, 47]⟩ : ByteArray).size = 2 from rfl, show (⟨#[62]⟩ : ByteArray).size = 1 from rfl]; omega
    go_enter Tryz.func39, Tryz.ntmps39
    go_wp2_with fail
    refine (HCL.out _).mono ?_; rintro e w1 ⟨rfl, rfl⟩
    go_wp2_with (at_builtin; refine wpl_strB _ rfl _ _ rfl base l (.slice p n c) rfl H1.out hb1 (⟨#[60, 47]⟩ ++ tx ++ ⟨#[62]⟩) rfl (by omega) ?_; intro a2 n2 c2' w2 hW2 hg2 hB2)
    go_ret
    exact ⟨a2, n2, c2', rfl, hW2, hB.trans hB2⟩
  · rw [e1M_4 rfl, ← List.append_assoc, ← List.append_assoc]
    go_enter Tryz.func39, Tryz.ntmps39
    go_wp2_with fail
    refine (HBT.out ⟨#[60]⟩ ⟨#[47, 62]⟩ (by decide) (by decide)).mono ?_; rintro e w1 ⟨a, n1, c1, rfl, hO, hB1⟩
    go_wp2_with fail
    go_ret
    exact ⟨a, n1, c1, rfl, hO, hB.trans hB1⟩
  · rw [e1M_5 rfl, ← List.append_assoc, ← List.append_assoc]
    go_enter Tryz.func39, Tryz.ntmps39
    go_wp2_with fail
    refine (HBT.out ⟨#[123]⟩ ⟨#[125]⟩ (by decide) (by decide)).mono ?_; rintro e w1 ⟨a, n1, c1, rfl, hO, hB1⟩
    go_wp2_with fail
    go_ret
    exact ⟨a, n1, c1, rfl, hO, hB.trans hB1⟩
theorem econv_nil (w : World) : (convert 67 9 (.slice none 0 0)).run Tryz.prog w = .ok (.string .empty) w := by kernel_rfl
/-- string(row) -/
theorem econv_own {base : Nat} {l : List UInt8} {v : Value} {w : World} (h : OwB base l v w) : (convert 67 9 v).run Tryz.prog w = .ok (.string (bsL l)) w := by
  rcases h.2 with ⟨hv, h0⟩ | ⟨g, cap, cur, hv, hg, hh, r⟩
  · have : l = [] := List.length_eq_zero_iff.1 h0
    subst this
    rw [hv]
    exact econv_nil w
  · have hc := World.ownsRow.cells h (g := g) (by rw [hv]; rfl)
    have hw := Lib.run_convert_whole (P := Tryz.prog) w 67 5 9 Tryz.underlying67 Tryz.underlying5 Tryz.underlying9 g 0 (bsL l) (fun i hi => by
      rw [bsL_size] at hi
      have hcell := hc i (.int .u8 ((l[i]'hi).toNat : Int)) (by unfold Lib.byteCells; rw [List.getElem?_map, List.getElem?_eq_getElem hi]; rfl)
      have ea : ((⟨g, 0, none⟩ : Addr).add i) = ⟨g, 0 + i, none⟩ := by unfold Addr.add; split <;> simp_all
      rw [ea] at hcell
      rw [hcell]; rfl) cap
    rw [bsL_size] at hw
    rw [hv]; exact hw
/-- What Encode answers. -/
def encE (f : List It) : ByteArray × Int := if valE f = 0 then (if anyB (tagsL f) = true then (.empty, 7) else (bsL (encM f), 0)) else (.empty, valE f)
theorem encE_bad {f : List It} (h : valE f ≠ 0) : encE f = (.empty, valE f) := if_neg h
theorem encE_tag {f : List It} (h : valE f = 0) (h2 : anyB (tagsL f) = true) : encE f = (.empty, 7) := by unfold encE; rw [if_pos h, if_pos h2]
theorem encE_ok {f : List It} (h : valE f = 0) (h2 : anyB (tagsL f) = false) : encE f = (bsL (encM f), 0) := by unfold encE; rw [if_pos h, if_neg (by rw [h2]; decide)]
set_option maxHeartbeats 3200000 in
theorem encode_any (p : Option Addr) (cap : Nat) (f : List It) (w : World) (hR : Its w p f) (hO : Oks f) (hc : f.length ≤ cap) (hm : cap ≤ maxLen) :
    Calls Tryz.prog 17 #[.slice p f.length cap] w fun e w' => e = .returned (.tuple #[.string (encE f).1, .int .i64 (encE f).2]) ∧ Below w.heap.size w w' := by
  have hv := fun w hR => validate_any p cap f w hR hO hc hm
  by_cases h : valE f = 0
  · have h512 := (valE_zero h).1
    have ht := fun W i => (tags_any p cap f W i hc hm (by omega)).mono fun _ _ h => EndI.f h
    unfold EndF at ht
    unfold maxLen at hm ht
    have hts : ∀ x ∈ tagsL f, x.t.size ≤ maxLen := fun x hx => by
      have hx : x ∈ f := (List.mem_filter.1 hx).1
      obtain ⟨k, hk, rfl⟩ := List.getElem_of_mem hx
      have := (eitem_small h k hk).2
      unfold maxLen; omega
    have hcf := fun p c W (i : Its W p (tagsL f)) (a : (tagsL f).length ≤ c) (b : c ≤ maxLen) => containsfunc_any p c (tagsL f) W i hts a b
    have HCF := Lib.hid hcf
    have HTL := Lib.hid (tags_len f)
    rw [h] at hv
    have HV := Lib.hid hv; have HT := Lib.hid ht
    clear hv ht hts hcf
    cases hA : anyB (tagsL f)
    · rw [encE_ok h hA]
      rw [hA] at HCF
      have hit := fun k hk => eitem_small h k hk
      have hln := fun k hk => enc_len h k hk
      have HF := Lib.hid hit; have HL := Lib.hid hln
      clear hit hln h hA
      generalize tagsL f = T at *
      go_enter Tryz.func17, Tryz.ntmps17
      go_wp2_with fail
      refine (HV.out _ hR).mono ?_; rintro e w1 ⟨rfl, hb⟩
      have hR1 := hR.call hb
      go_wp2_with fail
      refine (HT.out _ hR1).mono ?_; rintro e w2 ⟨pT, cT, rfl, jT1, jT2, jT3, hb2⟩
      have hb := BelowOn hb hb2
      have HC2 := Lib.hid (HCF.out pT cT w2 jT3 jT1 jT2)
      clear jT1 jT2 jT3
      go_wp2_with fail
      refine (HC2.out).mono ?_; rintro e w3 ⟨rfl, hb3⟩
      have hb := BelowOn hb hb3
      have hR2 := hR.call hb
      go_wp2_with fail
      go_loopw [5, 18] (fun v i wr => ∃ (k : Nat) (a : Option Addr) (n c : Nat), k ≤ f.length ∧ i = .int .i64 k ∧ v = .slice a n c ∧ OwB w.heap.size (encM (f.take k)) (.slice a n c) wr ∧ Below w.heap.size w wr) (fun _ i _ => f.length - (intOf i).toNat)
      case atStart => exact ⟨0, _, _, _, Nat.zero_le _, rfl, rfl, by simpa [encM] using OwB.nil w3 w.heap.size, hb⟩
      case round =>
        obtain ⟨k, a, n, c, hk, rfl, rfl, hW, hB⟩ := hrel
        by_cases hlt : k < f.length
        · obtain ⟨ad, rfl, had, c0, c1, c2⟩ := (hR.call hB).row k hlt
          obtain ⟨hkd, hts⟩ := HF.out k hlt
          have hl := HL.out k hk
          have hn := encM_next f k hlt
          generalize f[k] = x at *
          generalize hLL : encM (f.take k) = L at *
          have HN := Lib.hid hn; clear hn
          have HLL := Lib.hid hLL; clear hLL
          have hW1 := hW.call (blw (Below.refl _ _) (.cells #[.int .i64 x.k, .string x.t, .int .i64 x.id] 62))
          have hB1 := blw hB (.cells #[.int .i64 x.k, .string x.t, .int .i64 x.id] 62)
          obtain ⟨v0, v1, v2, vl⟩ := Var3.new wr x.k x.t x.id
          have hap := fun W (h1 : OwB w.heap.size L (.slice a n c) W) (h2 : Below w.heap.size w W) => appenditem_any w.heap.size L a n c x W h1 h2.size (ekinds hkd) hts (by omega)
          have HA := Lib.hid hap
          clear hap hkd
          go_wp2_with fail
          refine (HA.out _ hW1 hB1).mono ?_; rintro e w2 ⟨a2, n2, c2', rfl, hW2, hB2⟩
          go_wp2_with fail
          go_roundw
          case rel => exact ⟨k + 1, _, _, _, hlt, by go_num, rfl, by rw [HN.out]; exact hW2, hB1.trans hB2⟩
          case measure => simp [intOf]; omega
        · obtain rfl : k = f.length := by omega
          rw [List.take_length] at hW
          have hcv := econv_own hW
          go_wp2_with fail
          go_ret2
          exact ⟨rfl, hB⟩
    · rw [encE_tag h hA]
      rw [hA] at HCF
      clear h hA
      generalize tagsL f = T at *
      go_enter Tryz.func17, Tryz.ntmps17
      go_wp2_with fail
      refine (HV.out _ hR).mono ?_; rintro e w1 ⟨rfl, hb⟩
      have hR1 := hR.call hb
      go_wp2_with fail
      refine (HT.out _ hR1).mono ?_; rintro e w2 ⟨pT, cT, rfl, jT1, jT2, jT3, hb2⟩
      have hb := BelowOn hb hb2
      have HC2 := Lib.hid (HCF.out pT cT w2 jT3 jT1 jT2)
      clear jT1 jT2 jT3
      go_wp2_with fail
      refine (HC2.out).mono ?_; rintro e w3 ⟨rfl, hb3⟩
      have hb := BelowOn hb hb3
      go_wp2_with fail
      go_ret2
      exact ⟨rfl, hb⟩
  · rw [encE_bad h]
    have q : (valE f == 0) = false := by simpa using h
    have HV := Lib.hid hv
    clear hv h
    generalize valE f = E at *
    go_enter Tryz.func17, Tryz.ntmps17
    go_wp2_with fail
    refine (HV.out _ hR).mono ?_; rintro e w1 ⟨rfl, hb⟩
    go_wp2_with fail
    go_ret2
    exact ⟨rfl, hb⟩
end Go.Proofs.YtphkpokoeaagfaaGreatDoor
