/- Contracts of what Format calls: the sign of a byte, the notation of a text, of a tag, of an item. Contract of appendText. Contracts of appendTag, appendItem and Format. The contract of Format. Contracts of strings.Cut at one byte, CutPrefix, CutSuffix, IndexByte. The contract of readNumber. -/
import Derived.Test.YtaogjccmeajpoaaGreatDoorNtA
import Derived.Test.YtaogjccmeajpoaaGreatDoorRvl
import Derived.Test.YtaogjccmeajpoaaGreatDoorFst
import Derived.Lib.AppendIntMem
import Derived.Lib.ItoaMem
import Derived.Lib.ItoaLen
import Derived.Deep.RegionLaw
import Derived.Lib.SlBytesRow
import Derived.Test.YtaogjccmeajpoaaGreatDoorCon
import Derived.Lib.AtoiAllCases
namespace Go.Proofs.YtaogjccmeajpoaaGreatDoor
open Go.ChangeShapes Go.WideShapes Go.ChangeAt Go.RowKit
set_option linter.unusedVariables false
set_option linter.unusedSimpArgs false
set_option maxRecDepth 100000

theorem upper_any (n : Int) (w : World) (h0 : 0 ≤ n) (h1 : n ≤ 255) :
    Calls Tryz.prog 80 #[.int .u8 n] w fun e w' => e = .returned (.bool (upB n)) ∧ w = w' := by
  go_enter Tryz.func80, Tryz.ntmps80
  go_wp2
  all_goals go_ret
  all_goals refine ⟨ret_bool ?_, rfl⟩
  all_goals (unfold upB; simp; try omega)
theorem of_any (n : Int) (w : World) (h0 : 0 ≤ n) (h1 : n ≤ 255) :
    Calls Tryz.prog 71 #[.int .u8 n] w fun e w' => e = .returned (.int .i64 (cls n)) ∧ w = w' := by
  go_enter Tryz.func71, Tryz.ntmps71
  go_wp2_with (first | (go_at_call 80; refine (upper_any _ _ h0 h1).mono ?_; rintro e w' ⟨rfl, rfl⟩) | (go_at_call 68; refine (lower_any1 _ _ h0 h1).mono ?_; rintro e w' ⟨rfl, rfl⟩))
  all_goals go_ret
  all_goals refine ⟨ret_int ?_, rfl⟩
  all_goals (unfold cls; simp_all [upB, loB]; try omega)
theorem sign_any (n : Int) (w : World) (h0 : 0 ≤ n) (h1 : n ≤ 255) :
    Calls Tryz.prog 57 #[.int .u8 n] w fun e w' => e = .returned (.int .u8 (sgN n)) ∧ w = w' := by
  have ho := fun w => of_any n w h0 h1
  have hz : sgN n = if n = 92 ∨ n = 60 ∨ n = 123 then n else if n = 10 then 110 else if n = 9 then 116 else if n = 13 ∨ cls n = 1 then 120 else 0 := rfl
  rw [hz]
  generalize cls n = c at *
  have HO := Lib.hid ho
  clear ho hz
  go_enter Tryz.func57, Tryz.ntmps57
  go_wp2_with (go_at_call 71; refine (HO.out _).mono ?_; rintro e w' ⟨rfl, rfl⟩)
  all_goals go_ret
  all_goals refine ⟨ret_int ?_, rfl⟩
  all_goals (simp_all; try omega)

/-! ### rows of bytes that a call owns -/
theorem info5' : (Tryz.prog.info? 5).map (fun i => (i.zero, i.size, i.bytes)) = some (some (.int .u8 0), 1, 1) := by kernel_rfl
def benc (c : UInt8) : List Value := [.int .u8 (c.toNat : Int)]
theorem eB : El 31 5 1 1 (.int .u8 0) benc := ⟨Tryz.underlying31, info_parts info5', rfl, by omega, fun _ => rfl, fun x u hu => by simp [benc] at hu; subst hu; rfl⟩
theorem cells_bytes (l : List UInt8) : cellsOf benc l = Lib.byteCells l := by
  unfold cellsOf Lib.byteCells
  induction l with
  | nil => rfl
  | cons x t ih => rw [List.flatMap_cons, ih]; rfl
/-- A slice of bytes that the call owns from block base on. -/
def OwB (base : Nat) (l : List UInt8) (v : Value) (w : World) : Prop := w.ownsRow base 5 1 v l.length (Lib.byteCells l)
theorem OwB.ownL {base : Nat} {l : List UInt8} {v : Value} {w : World} (h : OwB base l v w) : OwnL 5 1 benc base l v w := by unfold OwnL; rw [cells_bytes]; exact h
theorem OwB.of {base : Nat} {l : List UInt8} {v : Value} {w : World} (h : OwnL 5 1 benc base l v w) : OwB base l v w := by unfold OwnL at h; rw [cells_bytes] at h; exact h
theorem OwB.call {base : Nat} {l : List UInt8} {v : Value} {w w1 : World} (h : OwB base l v w) (hb : Below w.heap.size w w1) : OwB base l v w1 := ownsRow_below h hb
theorem OwB.form {base : Nat} {l : List UInt8} {v : Value} {w : World} (h : OwB base l v w) : ∃ a n c, v = .slice a n c := by
  rcases h.2 with ⟨hv, _⟩ | ⟨g, cap, cur, hv, _⟩
  · exact ⟨_, _, _, hv⟩
  · exact ⟨_, _, _, hv⟩
theorem OwB.nil (w : World) (base : Nat) : OwB base [] (.slice none 0 0) w := World.ownsRow_nil _ _ _ _
/-- What appending leaves: a longer row; nothing below base has turned. -/
def EndB (base : Nat) (l : List UInt8) (w : World) (e : Ending) (w' : World) : Prop := ∃ a n c, e = .returned (.slice a n c) ∧ OwB base l (.slice a n c) w' ∧ Below base w w'
/-- append of the bytes of a block to a row that the call owns. -/
theorem wpl_catB (w : World) {ops : Array Oper} {rest : List Oper} {o : Oper} {a : Act} {Q : Exit → Act → World → Prop} (hg : o.guard = none) (s x : Operand)
    (ho : o.op = .call { callee := .builtin .append, args := #[s, x], argTypes := #[31, 31] }) (base : Nat) (L : List UInt8) (v : Value) (hs : a.eval s = v) (h : OwB base L v w) (hbase : base ≤ w.heap.size) (ys : List UInt8) (B m : Nat) (cs : Array Value)
    (hx : a.eval x = .slice (some ⟨B, 0, none⟩) m m) (hB : w.heap[B]? = some (.cells cs 5 (0, 0))) (hcs : cs.toList = Lib.byteCells ys) (hm : ys.length = m) (hm0 : 0 < m) (hlen : L.length + m ≤ 140737488355328)
    (hK : ∀ g cap w', OwB base (L ++ ys) (.slice (some ⟨g, 0, none⟩) (L.length + m) cap) w' → w.grownBy w' v.ownBlock → Below base w w' → wpList Tryz.prog ops Q rest (a.put o.dst (.slice (some ⟨g, 0, none⟩) (L.length + m) cap)) w') : wpList Tryz.prog ops Q (o :: rest) a w := by
  obtain ⟨i, hi, hz0, hz1, hz2⟩ := eB.hi
  refine wpList_append_lies w hg s x 31 ho base 5 i (.int .u8 0) 1 1 eB.ht hi hz0 hz1 hz2 rfl (by omega) v L.length (Lib.byteCells L) hs h ⟨B, 0, none⟩ m m (Lib.byteCells ys) hx (by rw [Lib.byteCells_length]; omega) ?_ (fun u hu => ?_) hm0 (by unfold maxLen; omega) (by omega) hbase _ rfl ?_
  · rw [← hcs]; exact World.news_of_block hB
  · unfold Lib.byteCells at hu; obtain ⟨c, _, rfl⟩ := List.mem_map.1 hu; rfl
  · intro g cap w' h2 h3 h4 h5
    refine hK g cap w' ?_ h3 ((Below.refl base w).grown h3 hbase (fun k hk => (h.lt k hk).1))
    unfold OwB; rw [List.length_append, hm, byteCells_append]; exact h2
theorem step_catB (w : World) {ops : Array Oper} {o : Oper} {a : Act} {K : Act → World → Prop} {Q : Exit → Act → World → Prop} {EE : Prop} (hg : o.guard = none) (s x : Operand)
    (ho : o.op = .call { callee := .builtin .append, args := #[s, x], argTypes := #[31, 31] }) (base : Nat) (L : List UInt8) (v : Value) (hs : a.eval s = v) (h : OwB base L v w) (hbase : base ≤ w.heap.size) (ys : List UInt8) (B m : Nat) (cs : Array Value)
    (hx : a.eval x = .slice (some ⟨B, 0, none⟩) m m) (hB : w.heap[B]? = some (.cells cs 5 (0, 0))) (hcs : cs.toList = Lib.byteCells ys) (hm : ys.length = m) (hm0 : 0 < m) (hlen : L.length + m ≤ 140737488355328)
    (hK : ∀ g cap w', OwB base (L ++ ys) (.slice (some ⟨g, 0, none⟩) (L.length + m) cap) w' → w.grownBy w' v.ownBlock → Below base w w' → K (a.put o.dst (.slice (some ⟨g, 0, none⟩) (L.length + m) cap)) w') :
    if Region.wanted o (yielded ops a.tmps) = true then Oper.wp Tryz.prog o a w K Q else EE := by
  obtain ⟨i, hi, hz0, hz1, hz2⟩ := eB.hi
  refine step_append_lies w hg s x 31 ho base 5 i (.int .u8 0) 1 1 eB.ht hi hz0 hz1 hz2 rfl (by omega) v L.length (Lib.byteCells L) hs h ⟨B, 0, none⟩ m m (Lib.byteCells ys) hx (by rw [Lib.byteCells_length]; omega) ?_ (fun u hu => ?_) hm0 (by unfold maxLen; omega) (by omega) hbase _ rfl ?_
  · rw [← hcs]; exact World.news_of_block hB
  · unfold Lib.byteCells at hu; obtain ⟨c, _, rfl⟩ := List.mem_map.1 hu; rfl
  · intro g cap w' h2 h3 h4 h5
    refine hK g cap w' ?_ h3 ((Below.refl base w).grown h3 hbase (fun k hk => (h.lt k hk).1))
    unfold OwB; rw [List.length_append, hm, byteCells_append]; exact h2
/-- append of a string's bytes to a row that the call owns. -/
theorem wpl_strB (w : World) {ops : Array Oper} {rest : List Oper} {o : Oper} {a : Act} {Q : Exit → Act → World → Prop} (hg : o.guard = none) (s x : Operand)
    (ho : o.op = .call { callee := .builtin .append, args := #[s, x], argTypes := #[31, 9] }) (base : Nat) (L : List UInt8) (v : Value) (hs : a.eval s = v) (h : OwB base L v w) (hbase : base ≤ w.heap.size) (t : ByteArray) (hx : a.eval x = .string t) (hlen : L.length + t.size ≤ 140737488355328)
    (hK : ∀ p n c w', OwB base (L ++ t.data.toList) (.slice p n c) w' → w.grownBy w' v.ownBlock → Below base w w' → wpList Tryz.prog ops Q rest (a.put o.dst (.slice p n c)) w') : wpList Tryz.prog ops Q (o :: rest) a w := by
  refine wpl_append_str hg s x ho base v L.length _ hs h t hx hlen hbase fun v' w' h2 h3 h4 => ?_
  have h5 : OwB base (L ++ t.data.toList) v' w' := by unfold OwB; rw [List.length_append, byteCells_append, ← strCells_eq, show t.data.toList.length = t.size by simp]; exact h2
  obtain ⟨p, n, c, rfl⟩ := h5.form
  exact hK p n c w' h5 h3 ((Below.refl base w).grown h3 hbase (fun k hk => (World.ownsRow.lt h k hk).1))
end Go.Proofs.YtaogjccmeajpoaaGreatDoor
namespace Go.Proofs.YtaogjccmeajpoaaGreatDoor
open Go.ChangeShapes Go.WideShapes Go.ChangeAt Go.RowKit
set_option linter.unusedVariables false
set_option linter.unusedSimpArgs false
set_option maxRecDepth 100000

theorem wrL_next (s : ByteArray) (k : Nat) (h : k < s.size) : wrL (s.data.toList.take (k + 1)) = wrL (s.data.toList.take k) ++ wrU s[k] := by
  rw [List.take_succ_eq_append_getElem (by simpa using h), wrL_snoc]; rfl
theorem hexS (n : Nat) (h : n < 16) : ((⟨#[48, 49, 50, 51, 52, 53, 54, 55, 56, 57, 97, 98, 99, 100, 101, 102]⟩ : ByteArray)[n]'(by exact h)) = hxU n := by
  have : ∀ m : Fin 16, ((⟨#[48, 49, 50, 51, 52, 53, 54, 55, 56, 57, 97, 98, 99, 100, 101, 102]⟩ : ByteArray)[m.val]'(by exact m.isLt)) = hxU m.val := by decide +kernel
  exact this ⟨n, h⟩
theorem take_len (s : ByteArray) (k : Nat) (h : k ≤ s.size) : (wrL (s.data.toList.take k)).length ≤ 4 * s.size := by
  have := wrL_len (s.data.toList.take k)
  have h2 : (s.data.toList.take k).length ≤ s.size := by simp; omega
  omega

set_option maxHeartbeats 3200000 in
theorem appendtext_any (base : Nat) (l : List UInt8) (p : Option Addr) (n c : Nat) (t : ByteArray) (w : World) (h : OwB base l (.slice p n c) w) (hb : base ≤ w.heap.size) (hl : l.length + 4 * t.size + 4 ≤ 140737488355328) :
    Calls Tryz.prog 33 #[.slice p n c, .string t] w (EndB base (l ++ wrL t.data.toList) w) := by
  have hEnd : ∀ a n c w', OwB base (l ++ wrL t.data.toList) (.slice a n c) w' → Below base w w' → EndB base (l ++ wrL t.data.toList) w (.returned (.slice a n c)) w' := fun a n c w' h1 h2 => ⟨a, n, c, rfl, h1, h2⟩
  have HE := Lib.hid hEnd; clear hEnd
  go_enter Tryz.func33, Tryz.ntmps33
  go_wp2_with fail
  go_loopw [0, 10] (fun v i wr => ∃ (k : Nat) (a : Option Addr) (n c : Nat), k ≤ t.size ∧ i = .int .i64 k ∧ v = .slice a n c ∧ OwB base (l ++ wrL (t.data.toList.take k)) (.slice a n c) wr ∧ Below base w wr) (fun _ i _ => t.size - (intOf i).toNat)
  case atStart => exact ⟨0, p, n, c, Nat.zero_le _, rfl, rfl, by simpa [wrL] using h, Below.refl _ _⟩
  case round =>
    obtain ⟨k, a, n, c, hk, rfl, rfl, hO, hB⟩ := hrel
    have hbw : base ≤ wr.heap.size := Nat.le_trans hb hB.size
    have htl := take_len t k hk
    have hll : (l ++ wrL (t.data.toList.take k)).length + 4 ≤ 140737488355328 := by rw [List.length_append]; omega
    by_cases hlt : k < t.size
    · have hn := wrL_next t k hlt
      have hsg := fun w => sign_any (t[k].toNat : Int) w (by omega) (by have := t[k].toNat_lt; omega)
      rw [← sg_toNat] at hsg
      have hwr : wrU t[k] = if sg t[k] = 0 then [t[k]] else if sg t[k] = 120 then [92, 120, hxU (t[k].toNat / 16), hxU (t[k].toNat % 16)] else [92, sg t[k]] := rfl
      have hlt8 := t[k].toNat_lt
      have HS := Lib.hid hsg
      have HN := Lib.hid hn
      clear hsg hn
      generalize hLL : l ++ wrL (t.data.toList.take k) = L at *
      have HL := Lib.hid hLL; clear hLL
      have b0 : (0 : Int) ≤ (t[k].toNat : Int) := by omega
      have b1 : (t[k].toNat : Int) ≤ 255 := by omega
      by_cases h0 : sg t[k] = 0
      · rw [if_pos h0] at hwr
        have q0 : (((sg t[k]).toNat : Int) == 0) = true := by rw [h0]; rfl
        have HW := Lib.hid hwr
        clear hwr h0
        go_wp2_with fail
        refine (HS.out _).mono ?_; rintro e w1 ⟨rfl, rfl⟩
        go_wp2_with (at_builtin; refine wpl_catB _ rfl _ _ rfl base _ _ rfl (hO.call (blw (Below.refl _ _) _)) (by simp; omega) [t[k]] _ 1 _ rfl (heap_alloc_new _ _) rfl rfl (by omega) (by omega) ?_; intro g cap w2 hO2 hg2 hB2)
        go_roundw
        case rel => exact ⟨k + 1, _, _, _, hlt, by go_num, rfl, by rw [HN.out, HW.out, ← List.append_assoc, HL.out]; exact hO2, (hB.alloc hbw _).trans hB2⟩
        case measure => simp [intOf]; omega
      · rw [if_neg h0] at hwr
        have q0 : (((sg t[k]).toNat : Int) == 0) = false := by
          rw [beq_eq_false_iff_ne]; intro e; apply h0; apply UInt8.toNat_inj.1; show _ = 0; omega
        by_cases h1 : sg t[k] = 120
        · rw [if_pos h1] at hwr
          have q1 : (((sg t[k]).toNat : Int) == 120) = true := by rw [h1]; rfl
          have HW := Lib.hid hwr
          clear hwr h0
          go_wp2_with fail
          refine (HS.out _).mono ?_; rintro e w1 ⟨rfl, rfl⟩
          go_wp2_with fail
          obtain ⟨d1, hd1⟩ : ∃ d : Nat, t[k].toNat / 16 = d := ⟨_, rfl⟩
          obtain ⟨d2, hd2⟩ : ∃ d : Nat, t[k].toNat % 16 = d := ⟨_, rfl⟩
          have l1 : d1 < 16 := by omega
          have l2 : d2 < 16 := by omega
          have l1' : (d1 : Int) < 16 := by omega
          have l2' : (d2 : Int) < 16 := by omega
          have e1 : IntKind.u8.wrap ((t[k].toNat : Int) / 16) = (d1 : Int) := by
            have : ((t[k].toNat : Int) / 16) = (d1 : Int) := by omega
            rw [this]; simp [IntKind.wrap, IntKind.signed, IntKind.bits]; omega
          have e2 : (t[k].toNat : Int).tmod 16 = (d2 : Int) := by rw [Int.tmod_eq_emod_of_nonneg (by omega)]; omega
          have x1 := hexS d1 l1
          have x2 := hexS d2 l2
          rw [hd1, hd2] at HW
          have HD1 := Lib.hid hd1; have HD2 := Lib.hid hd2; clear hd1 hd2
          go_region_law (refine step_catB _ (by rfl) _ _ (by rfl) base L _ (by rfl) (hO.call (blw (Below.refl _ _).drew _)) (by simp; omega) [92, 120, hxU d1, hxU d2] _ 4 _ (by rfl) (heap_alloc_new _ _) (by rfl) (by rfl) (by omega) (by omega) ?_; intro g cap w2 hO2 hg2 hB2)
          all_goals go_wp2_with fail
          all_goals go_roundw
          all_goals first | exact ⟨k + 1, _, _, _, hlt, by go_num, rfl, by rw [HN.out, HW.out, ← List.append_assoc, HL.out]; exact hO2, ((hB.drew).alloc hbw _).trans hB2⟩ | (simp [intOf]; omega)
        · rw [if_neg h1] at hwr
          have q1 : (((sg t[k]).toNat : Int) == 120) = false := by
            rw [beq_eq_false_iff_ne]; intro e; apply h1; apply UInt8.toNat_inj.1; show _ = 120; omega
          have HW := Lib.hid hwr
          clear hwr h0 h1
          go_wp2_with fail
          refine (HS.out _).mono ?_; rintro e w1 ⟨rfl, rfl⟩
          go_wp2_with (at_builtin; refine wpl_catB _ rfl _ _ rfl base _ _ rfl (hO.call (blw (Below.refl _ _) _)) (by simp; omega) [92, sg t[k]] _ 2 _ rfl (heap_alloc_new _ _) rfl rfl (by omega) (by omega) ?_; intro g cap w2 hO2 hg2 hB2)
          go_roundw
          case rel => exact ⟨k + 1, _, _, _, hlt, by go_num, rfl, by rw [HN.out, HW.out, ← List.append_assoc, HL.out]; exact hO2, (hB.alloc hbw _).trans hB2⟩
          case measure => simp [intOf]; omega
    · have hk' : t.data.toList.take k = t.data.toList := List.take_of_length_le (by simp; omega)
      rw [hk'] at hO
      go_wp2_with fail
      go_ret
      exact HE.out _ _ _ _ hO hB
end Go.Proofs.YtaogjccmeajpoaaGreatDoor
namespace Go.Proofs.YtaogjccmeajpoaaGreatDoor
open Go.ChangeShapes Go.WideShapes Go.ChangeAt Go.RowKit
set_option linter.unusedVariables false
set_option linter.unusedSimpArgs false
set_option maxRecDepth 100000

/-- The table of powers that the library reads, wherever only blocks from base on have turned. -/
def TabB (base : Nat) (w : World) : Prop := Lib.TabBelow Tryz.prog base w "internal/strconv.uint64pow10" .u64 Lib.pow10Tab
theorem TabB.call {base : Nat} {w w1 : World} (h : TabB base w) (hb : Below base w w1) : TabB base w1 := fun w2 h2 => h w2 (hb.trans h2)
theorem TabB.mono {base base' : Nat} {w : World} (h : TabB base w) (hb : base ≤ base') : TabB base' w := fun w2 h2 => h w2 (h2.mono hb)

theorem appendint_any (base : Nat) (l : List UInt8) (p : Option Addr) (n c : Nat) (i : Int) (w : World) (h : OwB base l (.slice p n c) w) (hb : base ≤ w.heap.size) (hl : l.length + 21 ≤ 140737488355328) (hi0 : 0 ≤ i) (hi1 : i ≤ 9223372036854775807) (hT : TabB base w) :
    Calls Tryz.prog 56 #[.slice p n c, .int .i64 i, .int .i64 10] w fun e w' => ∃ a n c, e = .returned (.slice a n c) ∧ OwB base (l ++ Lib.decDigits i.toNat) (.slice a n c) w' ∧ Below base w w' ∧ Lib.OthersKept 5 none w w' := by
  refine (Tryz.strconv_AppendInt_10 base l.length i (by omega) hi1 _ _ w h hb hl hT).mono fun e w' ⟨v', he, ho, hB, hk⟩ => ?_
  have e1 : Lib.itoa i = Lib.decDigits i.toNat := by unfold Lib.itoa; rw [if_neg (by omega)]
  rw [e1] at ho
  have h5 : OwB base (l ++ Lib.decDigits i.toNat) v' w' := by unfold OwB; rw [List.length_append, byteCells_append]; exact ho
  obtain ⟨p, n, c, rfl⟩ := h5.form
  exact ⟨p, n, c, he, h5, hB, hk⟩

/-- A variable that is newer than a row is not the row's block. -/
theorem Var3.past {base : Nat} {l : List UInt8} {v : Value} {w0 w1 w2 : World} {b : Nat} {k id : Int} {t : ByteArray} (V : Var3 w1 b k t id) (hg : w1.grownBy w2 v.ownBlock) (h : OwB base l v w0) (hb : w0.heap.size ≤ b) : Var3 w2 b k t id :=
  V.same (hg.block b V.lt (fun e => by have := (World.ownsRow.lt h b e.symm).2; omega)) hg.size
/-- A variable that is older than what a call makes, and not its row. -/
theorem Var3.other' {v : Value} {w1 w2 : World} {b : Nat} {k id : Int} {t : ByteArray} (V : Var3 w1 b k t id) (hg : w1.grownBy w2 v.ownBlock) (hne : v.ownBlock ≠ some b) : Var3 w2 b k t id :=
  V.same (hg.block b V.lt (fun e => hne e.symm)) hg.size
/-- A variable that holds an item, its block known whole. -/
def VarB (W : World) (b : Nat) (x : It) : Prop := W.heap[b]? = some (.cells #[.int .i64 x.k, .string x.t, .int .i64 x.id] 43 (0, 0))
theorem VarB.new (W : World) (x : It) : VarB (W.alloc (.cells #[.int .i64 x.k, .string x.t, .int .i64 x.id] 43)) W.heap.size x := heap_alloc_new W _
theorem VarB.v {W : World} {b : Nat} {x : It} (h : VarB W b x) : Var3 W b x.k x.t x.id := ⟨by rw [Lib.cell_of_heap h]; rfl, by rw [Lib.cell_of_heap h]; rfl, by rw [Lib.cell_of_heap h]; rfl, (Array.getElem?_eq_some_iff.1 h).1⟩
theorem VarB.past {base : Nat} {l : List UInt8} {v : Value} {w0 w1 w2 : World} {b : Nat} {x : It} (V : VarB w1 b x) (hg : w1.grownBy w2 v.ownBlock) (h : OwB base l v w0) (hb : w0.heap.size ≤ b) : VarB w2 b x :=
  (hg.block b V.v.lt (fun e => by have := (World.ownsRow.lt h b e.symm).2; omega)).trans V
theorem VarB.other {v : Value} {w1 w2 : World} {b : Nat} {x : It} (V : VarB w1 b x) (hg : w1.grownBy w2 v.ownBlock) (hne : v.ownBlock ≠ some b) : VarB w2 b x := (hg.block b V.v.lt (fun e => hne e.symm)).trans V
theorem VarB.kept {w1 w2 : World} {b : Nat} {x : It} (V : VarB w1 b x) (hk : Lib.OthersKept 5 none w1 w2) : VarB w2 b x := hk b _ V (by simp) (fun c fz e => by simp at e)
/-- The block of a row of bytes is none of an item. -/
theorem VarB.row {base : Nat} {l : List UInt8} {v : Value} {w : World} {b : Nat} {x : It} (V : VarB w b x) (h : OwB base l v w) : v.ownBlock ≠ some b := fun e => by
  rcases h.2 with ⟨hv, _⟩ | ⟨g, cap, cur, hv, hg, hh, r⟩
  · rw [hv] at e; cases e
  · rw [hv] at e
    injection e with e
    unfold VarB at V
    rw [← e, hh] at V
    injection V with V
    injection V with _ V2
    cases V2
theorem VarB.alloc {W : World} {b : Nat} {x : It} (V : VarB W b x) (o : Obj) : VarB (W.alloc o) b x := (Lib.alloc_old W o b V.v.lt).trans V
set_option maxHeartbeats 1600000 in
theorem appendtag_in (base : Nat) (l Z : List UInt8) (p : Option Addr) (n c : Nat) (s r : ByteArray) (x : It) (w : World) (h : OwB base l (.slice p n c) w) (hb : base ≤ w.heap.size) (hl : l.length + s.size + r.size + x.t.size + 30 ≤ 140737488355328) (h0 : 0 ≤ x.id) (h1 : x.id ≤ 9999) (hT : TabB base w)
    (hZ : Hid (((((l ++ s.data.toList) ++ Lib.decDigits x.id.toNat) ++ [58]) ++ x.t.data.toList) ++ r.data.toList = Z)) :
    Calls Tryz.prog 32 #[.slice p n c, .string s, .agg #[.int .i64 x.k, .string x.t, .int .i64 x.id], .string r] w (EndB base Z w) := by
  have hEnd : ∀ a n c w', OwB base (((((l ++ s.data.toList) ++ Lib.decDigits x.id.toNat) ++ [58]) ++ x.t.data.toList) ++ r.data.toList) (.slice a n c) w' → Below base w w' → EndB base Z w (.returned (.slice a n c)) w' := fun a n c w' h1 h2 => ⟨a, n, c, rfl, by rw [← hZ.out]; exact h1, h2⟩
  have HE := Lib.hid hEnd; clear hEnd hZ
  have hs1 : (l ++ s.data.toList).length = l.length + s.size := by simp
  have hd : (Lib.decDigits x.id.toNat).length ≤ 21 := by
    have := Lib.itoa_length_le x.id (by omega) (by omega)
    have e1 : Lib.itoa x.id = Lib.decDigits x.id.toNat := by unfold Lib.itoa; rw [if_neg (by omega)]
    rw [e1] at this; exact this
  have hint := fun a n c w2 (hO : OwB base (l ++ s.data.toList) (.slice a n c) w2) (hB : Below base w w2) => appendint_any base (l ++ s.data.toList) a n c x.id w2 hO (Nat.le_trans hb hB.size) (by omega) h0 (by omega) (hT.call hB)
  have HI := Lib.hid hint; clear hint
  have hs2 : ((l ++ s.data.toList) ++ Lib.decDigits x.id.toNat).length = l.length + s.size + (Lib.decDigits x.id.toNat).length := by simp; omega
  have hs3 : (((l ++ s.data.toList) ++ Lib.decDigits x.id.toNat) ++ [58]).length = l.length + s.size + (Lib.decDigits x.id.toNat).length + 1 := by simp; omega
  have hs4 : ((((l ++ s.data.toList) ++ Lib.decDigits x.id.toNat) ++ [58]) ++ x.t.data.toList).length = l.length + s.size + (Lib.decDigits x.id.toNat).length + 1 + x.t.size := by simp; omega
  generalize hD : (l ++ s.data.toList) ++ Lib.decDigits x.id.toNat = D at *
  generalize hA : l ++ s.data.toList = A at *
  generalize hC : D ++ [58] = C at *
  generalize hC4 : C ++ x.t.data.toList = C4 at *
  have m1 : A.length + 21 ≤ 140737488355328 := by omega
  have m2 : D.length + 1 ≤ 140737488355328 := by omega
  have m3 : C.length + x.t.size ≤ 140737488355328 := by omega
  have m4 : C4.length + r.size ≤ 140737488355328 := by omega
  have HA := Lib.hid hA; have HD := Lib.hid hD; have HC := Lib.hid hC; have HC4 := Lib.hid hC4
  clear hA hD hC hC4 hs1 hs2 hs3 hs4 hd
  have HV0 := Lib.hid (VarB.new w x)
  have hB0 : Below base w (w.alloc (.cells #[.int .i64 x.k, .string x.t, .int .i64 x.id] 43)) := (Below.refl base w).alloc hb _
  go_enter Tryz.func32, Tryz.ntmps32
  go_wp2_with (at_builtin; refine wpl_strB _ rfl _ _ rfl base l (.slice p n c) rfl (h.call (blw (Below.refl _ _) _)) (by simp; omega) s rfl (by omega) ?_; intro a1 n1 c1 w1 hO1 hg1 hB1; have V1 := HV0.out.past hg1 h (Nat.le_refl _); obtain ⟨v0, v1, v2, vl⟩ := V1.v)
  rw [HA.out] at hO1
  have hB1' := hB0.trans hB1
  have s1 := hB1.size
  refine (HI.out _ _ _ _ hO1 hB1').mono ?_
  rintro e w2 ⟨a2, n2, c2, rfl, hO2, hB2, hK2⟩
  have V2 := V1.kept hK2
  have b2 : base ≤ w2.heap.size := by have := hB1'.size; have := hB2.size; omega
  clear v0 v1 v2 vl hO1 hg1 hK2 V1
  obtain ⟨v0, v1, v2, vl⟩ := V2.v
  have HV2 := Lib.hid V2; clear V2
  have b2' : base ≤ (w2.alloc (.cells #[.int .u8 58] 5)).heap.size := Nat.le_trans b2 (blw (Below.refl _ _) _).size
  go_wp2_with (first
    | (at_builtin; refine wpl_strB _ rfl _ _ rfl base C4 _ rfl hO4 b4 r rfl m4 ?_; intro a5 n5 c5 w5 hO5 hg5 hB5)
    | (at_builtin; refine wpl_strB _ rfl _ _ rfl base C _ rfl hO3 b3 x.t rfl m3 ?_; intro a4 n4 c4 w4 hO4 hg4 hB4; rw [HC4.out] at hO4; have b4 := Nat.le_trans b3 hB4.size)
    | (at_builtin; refine wpl_catB _ rfl _ _ rfl base D (.slice a2 n2 c2) rfl (hO2.call (blw (Below.refl _ _) _)) b2' [58] _ 1 #[.int .u8 58] rfl (heap_alloc_new _ _) rfl rfl (by omega) m2 ?_; intro g3 c3 w3 hO3 hg3 hB3; rw [HC.out] at hO3; have b3 := Nat.le_trans b2' hB3.size; have V3 := (HV2.out.alloc _).other hg3 (HV2.out.row hO2); obtain ⟨y0, y1, y2, yl⟩ := V3.v))
  go_ret
  exact HE.out _ _ _ _ hO5 ((((hB1'.trans hB2).alloc b2 _).trans hB3).trans (hB4.trans hB5))
theorem appendtag_any (base : Nat) (l : List UInt8) (p : Option Addr) (n c : Nat) (s r : ByteArray) (x : It) (w : World) (h : OwB base l (.slice p n c) w) (hb : base ≤ w.heap.size) (hl : l.length + s.size + r.size + x.t.size + 30 ≤ 140737488355328) (h0 : 0 ≤ x.id) (h1 : x.id ≤ 9999) (hT : TabB base w) :
    Calls Tryz.prog 32 #[.slice p n c, .string s, .agg #[.int .i64 x.k, .string x.t, .int .i64 x.id], .string r] w (EndB base (l ++ (s.data.toList ++ Lib.decDigits x.id.toNat ++ [58] ++ x.t.data.toList ++ r.data.toList)) w) :=
  appendtag_in base l _ p n c s r x w h hb hl h0 h1 hT (Lib.hid (by simp))

theorem heap_new' (W : World) (o : Obj) (B : Nat) (h : W.heap.size = B) : (W.alloc o).heap[B]? = some o := by subst h; exact heap_alloc_new W o
set_option maxHeartbeats 1600000 in
theorem appenditem_any (base : Nat) (l : List UInt8) (p : Option Addr) (n c : Nat) (x : It) (w : World) (h : OwB base l (.slice p n c) w) (hb : base ≤ w.heap.size) (hp : properB x = true) (hl : l.length + 4 * x.t.size + 40 ≤ 140737488355328) (hT : TabB base w) :
    Calls Tryz.prog 18 #[.slice p n c, .agg #[.int .i64 x.k, .string x.t, .int .i64 x.id]] w (EndB base (l ++ elL x) w) := by
  have hB0 : Below base w (w.alloc (.cells #[.int .i64 x.k, .string x.t, .int .i64 x.id] 43)) := (Below.refl base w).alloc hb _
  have hO0 : OwB base l (.slice p n c) (w.alloc (.cells #[.int .i64 x.k, .string x.t, .int .i64 x.id] 43)) := h.call (blw (Below.refl _ _) _)
  have hT0 := hT.call hB0
  have b0 : base ≤ (w.alloc (.cells #[.int .i64 x.k, .string x.t, .int .i64 x.id] 43)).heap.size := Nat.le_trans hb hB0.size
  have hEnd : ∀ e w', EndB base (l ++ elL x) (w.alloc (.cells #[.int .i64 x.k, .string x.t, .int .i64 x.id] 43)) e w' → EndB base (l ++ elL x) w e w' := fun e w' ⟨a, n, c, h1, h2, h3⟩ => ⟨a, n, c, h1, h2, hB0.trans h3⟩
  have V := VarB.new w x
  obtain ⟨v0, v1, v2, vl⟩ := V.v
  have HV := Lib.hid V; clear V
  have hk := proper_kinds hp
  clear vl
  by_cases k1 : x.k = 1
  · have hel : elL x = wrL x.t.data.toList := if_pos k1
    have hc := appendtext_any base l p n c x.t _ hO0 b0 (by omega)
    rw [← hel] at hc
    generalize elL x = E at *
    have q2 : (x.k == 2) = false := by rw [k1]; rfl
    have q3 : (x.k == 3) = false := by rw [k1]; rfl
    have q4 : (x.k == 4) = false := by rw [k1]; rfl
    have q5 : (x.k == 5) = false := by rw [k1]; rfl
    have HC := Lib.hid hc; have HE := Lib.hid hEnd
    clear hc hEnd k1 hel hk hp hT hT0
    go_enter Tryz.func18, Tryz.ntmps18
    go_wp2_with fail
    refine HC.out.mono ?_; rintro e w1 ⟨a, n1, c1, rfl, hO, hB⟩
    go_wp2_with fail
    go_ret
    exact HE.out _ _ ⟨a, n1, c1, rfl, hO, hB⟩
  by_cases k2 : x.k = 2
  · have ht : isT x.k = true := by rw [k2]; rfl
    obtain ⟨i0, i1, _, _⟩ := isT_proper ht hp
    have hel : elL x = (⟨#[60]⟩ : ByteArray).data.toList ++ Lib.decDigits x.id.toNat ++ [58] ++ x.t.data.toList ++ (⟨#[62]⟩ : ByteArray).data.toList := by
      unfold elL; rw [if_neg k1, if_pos k2]
    have hc := appendtag_any base l p n c ⟨#[60]⟩ ⟨#[62]⟩ x _ hO0 b0 (by show l.length + 1 + 1 + x.t.size + 30 ≤ _; omega) (by omega) (by omega) hT0
    rw [← hel] at hc
    generalize elL x = E at *
    have HK := Lib.hid k2
    have q2 : (x.k == 2) = true := by rw [k2]; rfl
    have q3 : (x.k == 3) = false := by rw [k2]; rfl
    have q4 : (x.k == 4) = false := by rw [k2]; rfl
    have HC := Lib.hid hc; have HE := Lib.hid hEnd
    clear hc hEnd k1 hel hk hp hT hT0 k2 ht
    go_enter Tryz.func18, Tryz.ntmps18
    go_wp2_with fail
    refine HC.out.mono ?_; rintro e w1 ⟨a, n1, c1, rfl, hO, hB⟩
    go_wp2_with fail
    go_ret
    exact HE.out _ _ ⟨a, n1, c1, rfl, hO, hB⟩
  by_cases k3 : x.k = 3
  · have ht : isT x.k = true := by rw [k3]; rfl
    obtain ⟨i0, i1, _, _⟩ := isT_proper ht hp
    have hel : elL x = (⟨#[60, 47]⟩ : ByteArray).data.toList ++ Lib.decDigits x.id.toNat ++ [58] ++ x.t.data.toList ++ (⟨#[62]⟩ : ByteArray).data.toList := by
      unfold elL; rw [if_neg k1, if_neg k2, if_pos k3]
    have hc := appendtag_any base l p n c ⟨#[60, 47]⟩ ⟨#[62]⟩ x _ hO0 b0 (by show l.length + 2 + 1 + x.t.size + 30 ≤ _; omega) (by omega) (by omega) hT0
    rw [← hel] at hc
    generalize elL x = E at *
    have HK := Lib.hid k3
    have q2 : (x.k == 2) = false := by rw [k3]; rfl
    have q3 : (x.k == 3) = true := by rw [k3]; rfl
    have q4 : (x.k == 4) = false := by rw [k3]; rfl
    have HC := Lib.hid hc; have HE := Lib.hid hEnd
    clear hc hEnd k1 hel hk hp hT hT0 k3 ht
    go_enter Tryz.func18, Tryz.ntmps18
    go_wp2_with fail
    refine HC.out.mono ?_; rintro e w1 ⟨a, n1, c1, rfl, hO, hB⟩
    go_wp2_with fail
    go_ret
    exact HE.out _ _ ⟨a, n1, c1, rfl, hO, hB⟩
  by_cases k4 : x.k = 4
  · have ht : isT x.k = true := by rw [k4]; rfl
    obtain ⟨i0, i1, _, _⟩ := isT_proper ht hp
    have hel : elL x = (⟨#[60]⟩ : ByteArray).data.toList ++ Lib.decDigits x.id.toNat ++ [58] ++ x.t.data.toList ++ (⟨#[47, 62]⟩ : ByteArray).data.toList := by
      unfold elL; rw [if_neg k1, if_neg k2, if_neg k3, if_pos k4]
    have hc := appendtag_any base l p n c ⟨#[60]⟩ ⟨#[47, 62]⟩ x _ hO0 b0 (by show l.length + 1 + 2 + x.t.size + 30 ≤ _; omega) (by omega) (by omega) hT0
    rw [← hel] at hc
    generalize elL x = E at *
    have HK := Lib.hid k4
    have q2 : (x.k == 2) = false := by rw [k4]; rfl
    have q3 : (x.k == 3) = false := by rw [k4]; rfl
    have q4 : (x.k == 4) = true := by rw [k4]; rfl
    have HC := Lib.hid hc; have HE := Lib.hid hEnd
    clear hc hEnd k1 hel hk hp hT hT0 k4 ht
    go_enter Tryz.func18, Tryz.ntmps18
    go_wp2_with fail
    refine HC.out.mono ?_; rintro e w1 ⟨a, n1, c1, rfl, hO, hB⟩
    go_wp2_with fail
    go_ret
    exact HE.out _ _ ⟨a, n1, c1, rfl, hO, hB⟩
  have k5 : x.k = 5 := by
    rcases hk with h | h | h
    · exact absurd h k1
    · unfold isT at h; simp at h; omega
    · exact h
  have hel : elL x = [123] ++ x.t.data.toList ++ [125] := by unfold elL; rw [if_neg k1, if_neg k2, if_neg k3, if_neg k4]
  have hEnd' : ∀ a n c w', OwB base (((l ++ [123]) ++ x.t.data.toList) ++ [125]) (.slice a n c) w' → Below base w w' → EndB base (l ++ elL x) w (.returned (.slice a n c)) w' := fun a n c w' h1 h2 => ⟨a, n, c, rfl, by rw [hel]; simpa using h1, h2⟩
  have hl1 : (l ++ [123]).length = l.length + 1 := by simp
  have hl2 : ((l ++ [123]) ++ x.t.data.toList).length = l.length + 1 + x.t.size := by simp; omega
  have q1 : (x.k == 2) = false := by rw [k5]; rfl
  have q3 : (x.k == 3) = false := by rw [k5]; rfl
  have q4 : (x.k == 4) = false := by rw [k5]; rfl
  have q5 : (x.k == 5) = true := by rw [k5]; rfl
  generalize elL x = E at *
  generalize hC : l ++ [123] = C at *
  generalize hD : C ++ x.t.data.toList = D at *
  have m1 : l.length + 1 ≤ 140737488355328 := by omega
  have m2 : C.length + x.t.size ≤ 140737488355328 := by omega
  have m3 : D.length + 1 ≤ 140737488355328 := by omega
  have HC := Lib.hid hC; have HD := Lib.hid hD; have HE := Lib.hid hEnd'
  clear hC hD hEnd hEnd' hl1 hl2 hel k1 k2 k3 k4 k5 hk hp hT hT0
  have b1 : base ≤ ((w.alloc (.cells #[.int .i64 x.k, .string x.t, .int .i64 x.id] 43)).alloc (.cells #[.int .u8 123] 5)).heap.size := Nat.le_trans b0 (blw (Below.refl _ _) _).size
  go_enter Tryz.func18, Tryz.ntmps18
  go_wp2_with (first
    | (at_builtin; refine wpl_catB _ rfl _ _ rfl base D _ rfl (hO3.call (blw (Below.refl _ _) _)) (Nat.le_trans b3 (blw (Below.refl _ _) _).size) [125] _ 1 #[.int .u8 125] rfl (heap_alloc_new _ _) rfl rfl (by omega) m3 ?_; intro g4 c4 w4 hO4 hg4 hB4)
    | (at_builtin; refine wpl_strB _ rfl _ _ rfl base C _ rfl hO2 b2 x.t rfl m2 ?_; intro a3 n3 c3 w3 hO3 hg3 hB3; rw [HD.out] at hO3; have b3 := Nat.le_trans b2 hB3.size)
    | (at_builtin; refine wpl_catB _ rfl _ _ rfl base l (.slice p n c) rfl (hO0.call (blw (Below.refl _ _) _)) b1 [123] _ 1 #[.int .u8 123] rfl (heap_new' _ _ _ (by simp)) rfl rfl (by omega) m1 ?_; intro g2 c2 w2 hO2 hg2 hB2; rw [HC.out] at hO2; have b2 := Nat.le_trans b1 hB2.size; have V2 := (HV.out.alloc _).past hg2 h (Nat.le_refl _); obtain ⟨y0, y1, y2, yl⟩ := V2.v))
  go_ret
  exact HE.out _ _ _ _ hO4 ((((hB0.alloc b0 _).trans (hB2.trans hB3)).alloc b3 _).trans hB4)
end Go.Proofs.YtaogjccmeajpoaaGreatDoor
namespace Go.Proofs.YtaogjccmeajpoaaGreatDoor
open Go.ChangeShapes Go.WideShapes Go.ChangeAt Go.RowKit
set_option linter.unusedVariables false
set_option linter.unusedSimpArgs false
set_option maxRecDepth 100000

theorem txt_small {x : It} {n : Nat} (hp : properB x = true) (hw : wid x ≤ 1024) : x.t.size ≤ 1024 := by
  rcases proper_kinds hp with h | h | h
  · have : wid x = x.t.size := if_pos h
    omega
  · obtain ⟨_, _, h3, h4⟩ := isT_proper h hp
    unfold isT at h; simp at h
    by_cases hk : x.k = 3
    · have := (isNm_bytes _ (h3 hk)).2.1; omega
    · have := ((isCon_iff _).1 (h4 (by omega))).size; omega
  · rw [slot_proper h] at hp
    simp at hp
    have := (isNm_bytes _ hp.1).2.1; omega
theorem dec_short (n : Nat) (h : n ≤ 9999) : (Lib.decDigits n).length ≤ 21 := by
  have := Lib.itoa_length_le (n : Int) (by omega) (by omega)
  have e1 : Lib.itoa (n : Int) = Lib.decDigits n := by unfold Lib.itoa; rw [if_neg (by omega)]; rfl
  rw [e1] at this; exact this
theorem el_len {x : It} (hp : properB x = true) (ht : x.t.size ≤ 1024) : (elL x).length ≤ 5000 := by
  have hs : x.t.data.toList.length = x.t.size := by simp
  rcases proper_kinds hp with h | h | h
  · have e : elL x = wrL x.t.data.toList := if_pos h
    rw [e]
    have := wrL_len x.t.data.toList
    omega
  · obtain ⟨h1, h2, _, _⟩ := isT_proper h hp
    have hd := dec_short x.id.toNat (by omega)
    rw [el_tag x h]
    unfold insL
    simp only [List.length_cons, List.length_append, List.length_nil, hs]
    have a3 : (if x.k = 3 then [(47 : UInt8)] else []).length ≤ 1 := by split <;> simp
    have a4 : (if x.k = 4 then [(47 : UInt8)] else []).length ≤ 1 := by split <;> simp
    omega
  · rw [el_slot h]
    simp only [List.length_cons, List.length_append, List.length_nil, hs]
    omega
theorem wid_len (l : List It) (k : Nat) (h : k < l.length) : wid (l[k]'h) ≤ lenI l := by
  have h1 := lenI_next l k h
  have h2 := lenI_take l (k + 1)
  omega
theorem item_small {f : List It} (h : valE f = 0) (k : Nat) (hk : k < f.length) : properB (f[k]'hk) = true ∧ (f[k]'hk).t.size ≤ 1024 := by
  obtain ⟨h1, h2, h3⟩ := valE_zero h
  have hp := errL_proper f h3 _ (List.getElem_mem hk)
  have := wid_len f k hk
  exact ⟨hp, txt_small (n := 0) hp (by omega)⟩
theorem fmt_len {f : List It} (h : valE f = 0) : ∀ k, k ≤ f.length → (fmtN (f.take k)).length ≤ 5000 * k := by
  intro k
  induction k with
  | zero => intro _; simp [fmtN]
  | succ j ih =>
    intro hj
    obtain ⟨h1, h2⟩ := item_small h j (by omega)
    have := ih (by omega)
    have := el_len h1 h2
    rw [fmtN_next f j (by omega), List.length_append]
    omega
theorem fmt_size {f : List It} (h : valE f = 0) : (fmtN f).length ≤ 2560000 := by
  have h1 := fmt_len h f.length (Nat.le_refl _)
  rw [List.take_length] at h1
  have := (valE_zero h).1
  omega
theorem conv_nil (w : World) : (convert 31 9 (.slice none 0 0)).run Tryz.prog w = .ok (.string .empty) w := by kernel_rfl
/-- string(row) -/
theorem conv_own {base : Nat} {l : List UInt8} {v : Value} {w : World} (h : OwB base l v w) : (convert 31 9 v).run Tryz.prog w = .ok (.string (bsL l)) w := by
  rcases h.2 with ⟨hv, h0⟩ | ⟨g, cap, cur, hv, hg, hh, r⟩
  · have : l = [] := List.length_eq_zero_iff.1 h0
    subst this
    rw [hv]
    exact conv_nil w
  · have hc := World.ownsRow.cells h (g := g) (by rw [hv]; rfl)
    have hw := Lib.run_convert_whole (P := Tryz.prog) w 31 5 9 Tryz.underlying31 Tryz.underlying5 Tryz.underlying9 g 0 (bsL l) (fun i hi => by
      rw [bsL_size] at hi
      have hcell := hc i (.int .u8 ((l[i]'hi).toNat : Int)) (by unfold Lib.byteCells; rw [List.getElem?_map, List.getElem?_eq_getElem hi]; rfl)
      have ea : ((⟨g, 0, none⟩ : Addr).add i) = ⟨g, 0 + i, none⟩ := by unfold Addr.add; split <;> simp_all
      rw [ea] at hcell
      rw [hcell]; rfl) cap
    rw [bsL_size] at hw
    rw [hv]; exact hw
def fmtS (f : List It) : ByteArray := if valE f = 0 then bsL (fmtN f) else .empty
theorem fmtS_ok {f : List It} (h : valE f = 0) : fmtS f = bsL (fmtN f) := if_pos h
theorem fmtS_no {f : List It} (h : valE f ≠ 0) : fmtS f = .empty := if_neg h
theorem ret_fmt {a b : ByteArray} {m n : Int} (h : a = b) (h2 : m = n) : Ending.returned (.tuple #[.string a, .int .i64 m]) = .returned (.tuple #[.string b, .int .i64 n]) := by rw [h, h2]

set_option maxHeartbeats 1600000 in
theorem format_any (p : Option Addr) (cap : Nat) (f : List It) (w : World) (hR : Its w p f) (hO : Oks f) (hc : f.length ≤ cap) (hm : cap ≤ maxLen) (hT : TabB w.heap.size w) :
    Calls Tryz.prog 9 #[.slice p f.length cap] w fun e w' => e = .returned (.tuple #[.string (fmtS f), .int .i64 (valE f)]) ∧ Below w.heap.size w w' := by
  have hv := fun w hR => validate_any p cap f w hR hO hc hm
  unfold maxLen at hm
  by_cases h : valE f = 0
  · rw [fmtS_ok h]
    have hsm := fun k hk => item_small h k hk
    have hln := fun k hk => fmt_len h k hk
    have h512 := (valE_zero h).1
    have HH := Lib.hid h
    rw [h] at hv ⊢
    have HV := Lib.hid hv; have HS := Lib.hid hsm; have HL := Lib.hid hln
    clear hv hsm hln h
    go_enter Tryz.func9, Tryz.ntmps9
    go_wp2_with fail
    refine (HV.out _ hR).mono ?_; rintro e w1 ⟨rfl, hb⟩
    have hR1 := hR.call hb
    go_wp2_with fail
    go_loopw [5, 15] (fun v i wr => ∃ (k : Nat) (a : Option Addr) (n c : Nat), k ≤ f.length ∧ i = .int .i64 k ∧ v = .slice a n c ∧ OwB w.heap.size (fmtN (f.take k)) (.slice a n c) wr ∧ Below w.heap.size w wr) (fun _ i _ => f.length - (intOf i).toNat)
    case atStart => exact ⟨0, _, _, _, Nat.zero_le _, rfl, rfl, by simpa [fmtN] using OwB.nil w1 w.heap.size, hb⟩
    case round =>
      obtain ⟨k, a, n, c, hk, rfl, rfl, hW, hB⟩ := hrel
      by_cases hlt : k < f.length
      · obtain ⟨ad, rfl, had, c0, c1, c2⟩ := (hR.call hB).row k hlt
        obtain ⟨hp, hts⟩ := HS.out k hlt
        have hl := HL.out k hk
        have hn := fmtN_next f k hlt
        generalize f[k] = x at *
        have HN := Lib.hid hn; clear hn
        have hci := fun W (h1 : OwB w.heap.size (fmtN (f.take k)) (.slice a n c) W) (h2 : Below w.heap.size w W) => appenditem_any w.heap.size (fmtN (f.take k)) a n c x W h1 h2.size hp (by omega) (hT.call h2)
        have HC := Lib.hid hci; clear hci hp
        have V := VarB.new wr x
        have hW1 := hW.call (blw (Below.refl _ _) (.cells #[.int .i64 x.k, .string x.t, .int .i64 x.id] 43))
        have hB1 := blw hB (.cells #[.int .i64 x.k, .string x.t, .int .i64 x.id] 43)
        obtain ⟨v0, v1, v2, vl⟩ := V.v
        go_wp2_with fail
        refine (HC.out _ hW1 hB1).mono ?_; rintro e w2 ⟨a2, n2, c2', rfl, hW2, hB2⟩
        go_wp2_with fail
        go_roundw
        case rel => exact ⟨k + 1, _, _, _, hlt, by go_num, rfl, by rw [HN.out]; exact hW2, hB1.trans hB2⟩
        case measure => simp [intOf]; omega
      · obtain rfl : k = f.length := by omega
        rw [List.take_length] at hW
        have hcv := conv_own hW
        go_wp2_with fail
        go_ret2
        exact ⟨rfl, hB⟩
  · rw [fmtS_no h]
    have q : (valE f == 0) = false := by simpa using h
    have HV := Lib.hid hv
    clear hv h
    generalize valE f = E at *
    go_enter Tryz.func9, Tryz.ntmps9
    go_wp2_with fail
    refine (HV.out _ hR).mono ?_; rintro e w1 ⟨rfl, hb⟩
    go_wp2_with fail
    go_ret2
    exact ⟨rfl, hb⟩
end Go.Proofs.YtaogjccmeajpoaaGreatDoor
namespace Go.Proofs.YtaogjccmeajpoaaGreatDoor
open Go.ChangeShapes Go.WideShapes Go.ChangeAt Go.RowKit
set_option linter.unusedVariables false
set_option linter.unusedSimpArgs false
set_option maxRecDepth 100000

theorem indexByte_upto (c : UInt8) (l : List UInt8) : Lib.indexByte l c = if hasU c l = true then ((upto c l).length : Int) else -1 := by
  induction l with
  | nil => rfl
  | cons x t ih =>
    rw [Lib.indexByte]
    by_cases hx : x = c
    · subst hx; simp [hasU, upto]
    · have h1 : (x == c) = false := by simpa using hx
      have h2 : (x != c) = true := by simpa using hx
      have e1 : upto c (x :: t) = x :: upto c t := by unfold upto; rw [List.takeWhile_cons, h2, if_pos rfl]
      have e2 : hasU c (x :: t) = hasU c t := by unfold hasU; rw [e1]; simp
      rw [h1, ih, e1, e2]
      cases hh : hasU c t <;> simp
theorem extract_take (s : ByteArray) (n : Nat) : s.extract 0 n = bsL (s.data.toList.take n) := by
  apply ByteArray.ext; unfold bsL; rw [ByteArray.data_extract]; apply Array.ext'; simp
theorem extract_drop (s : ByteArray) (n : Nat) : s.extract n s.size = bsL (s.data.toList.drop n) := by
  apply ByteArray.ext; unfold bsL; rw [ByteArray.data_extract]; apply Array.ext'; simp [List.take_of_length_le]
theorem upto_take (c : UInt8) (l : List UInt8) : l.take (upto c l).length = upto c l := by
  have h : upto c l <+: l := List.takeWhile_prefix _
  exact List.prefix_iff_eq_take.1 h |>.symm
theorem upto_le (c : UInt8) (l : List UInt8) : (upto c l).length ≤ l.length := (List.takeWhile_prefix (p := (· != c)) (l := l)).length_le

theorem scutc_any (s : ByteArray) (c : UInt8) (w : World) (hs : s.size ≤ maxLen) :
    Calls Tryz.prog 72 #[.string s, .string ⟨#[c]⟩] w fun e w' => e = .returned (.tuple #[.string (bsL (upto c s.data.toList)), .string (bsL (aft c s.data.toList)), .bool (hasU c s.data.toList)]) ∧ Below w.heap.size w w' := by
  unfold maxLen at hs
  have hi := Tryz.stringslite_Index_one s c
  rw [indexByte_upto] at hi
  have hle := upto_le c s.data.toList
  have hsz : s.data.toList.length = s.size := by simp
  have hn : s.extract 0 (upto c s.data.toList).length = bsL (upto c s.data.toList) := by rw [extract_take, upto_take]
  have hr : s.extract ((upto c s.data.toList).length + 1) s.size = bsL (aft c s.data.toList) := extract_drop s _
  cases hb : hasU c s.data.toList
  · rw [hb, if_neg (by simp)] at hi
    have hall := (upto_none c _ hb).1
    have h1 : bsL (upto c s.data.toList) = s := by rw [hall, bsL_of]
    have h2 : bsL (aft c s.data.toList) = ByteArray.empty := by unfold aft; rw [hall, List.drop_of_length_le (by omega)]; rfl
    have HI := Lib.hid hi; have HN := Lib.hid h1; have HR := Lib.hid h2
    clear hi hn hr hb hle h1 h2 hall hsz
    go_enter Tryz.func72, Tryz.ntmps72
    go_wp2_with fail
    refine (HI.out _).mono ?_; rintro e w1 ⟨rfl, rfl⟩
    go_wp2_with fail
    go_ret3
    exact ⟨by rw [HN.out, HR.out]; rfl, Below.refl _ _⟩
  · rw [hb, if_pos rfl] at hi
    have hlt : (upto c s.data.toList).length < s.size := by unfold hasU at hb; simpa using hb
    generalize (upto c s.data.toList).length = n at *
    have c0 : (0 : Int) ≤ (n : Int) := by omega
    have c1 : (n : Int) ≤ (s.size : Int) := by omega
    have c2 : (0 : Int) ≤ (n : Int) + 1 := by omega
    have c3 : (n : Int) + 1 ≤ (s.size : Int) := by omega
    have HN := Lib.hid hn; have HR := Lib.hid hr; have HI := Lib.hid hi
    clear hi hb hn hr hle hsz hlt
    have mixed : Tryz.prog.follows .mixedOrders = true := by kernel_rfl
    have cw : IntKind.i64.wrap ((n : Int) + 1) = (n : Int) + 1 := by
      have a1 : (-9223372036854775808 : Int) ≤ (n : Int) + 1 := by omega
      have a2 : (n : Int) + 1 ≤ 9223372036854775807 := by omega
      exact IntWalk.i64_in _ ⟨a1, a2⟩
    have cn : ((n : Int) + 1).toNat = n + 1 := by omega
    go_enter Tryz.func72, Tryz.ntmps72
    go_wp2_with fail
    refine (HI.out _).mono ?_; rintro e w1 ⟨rfl, rfl⟩
    go_wp2_with fail
    go_region_o
    all_goals go_wp2_with fail
    all_goals go_ret3
    all_goals (rw [← HN.out, ← HR.out]; exact ⟨rfl, (Below.refl _ _).drew⟩)
theorem cutc_any (s : ByteArray) (c : UInt8) (w : World) (hs : s.size ≤ maxLen) :
    Calls Tryz.prog 61 #[.string s, .string ⟨#[c]⟩] w fun e w' => e = .returned (.tuple #[.string (bsL (upto c s.data.toList)), .string (bsL (aft c s.data.toList)), .bool (hasU c s.data.toList)]) ∧ Below w.heap.size w w' := by
  have h := fun w => scutc_any s c w hs
  generalize bsL (upto c s.data.toList) = a at *
  generalize bsL (aft c s.data.toList) = b at *
  generalize hasU c s.data.toList = d at *
  have H := Lib.hid h; clear h
  go_enter Tryz.func61, Tryz.ntmps61
  go_wp2_with fail
  refine (H.out _).mono ?_; rintro e w1 ⟨rfl, hb⟩
  go_wp2_with fail
  go_ret3
  exact ⟨rfl, hb⟩
/-- A list's head, off. -/
def hdB (c : UInt8) (l : List UInt8) : Bool := decide (l.head? = some c)
def tlB (c : UInt8) (l : List UInt8) : List UInt8 := if l.head? = some c then l.drop 1 else l
def laB (c : UInt8) (l : List UInt8) : Bool := decide (l.getLast? = some c)
def inB (c : UInt8) (l : List UInt8) : List UInt8 := if l.getLast? = some c then l.dropLast else l
theorem prefix_one (c : UInt8) (l : List UInt8) : Lib.hasPrefix l [c] = hdB c l := by
  unfold Lib.hasPrefix hdB
  rw [Bool.eq_iff_iff, List.isPrefixOf_iff_prefix]
  cases l with
  | nil => simp
  | cons x t => simp [List.cons_prefix_cons, eq_comm]
theorem suffix_one (c : UInt8) (l : List UInt8) : Lib.hasSuffix l [c] = laB c l := by
  unfold Lib.hasSuffix laB
  rw [Bool.eq_iff_iff, List.isSuffixOf_iff_suffix]
  rw [decide_eq_true_iff]
  constructor
  · rintro ⟨t, rfl⟩; simp
  · intro h
    have hne : l ≠ [] := by intro e; rw [e] at h; cases h
    rw [List.getLast?_eq_some_getLast hne] at h
    injection h with h
    exact ⟨l.dropLast, by rw [← h, List.dropLast_concat_getLast]⟩
theorem cutprefix_any (s : ByteArray) (c : UInt8) (w : World) :
    Calls Tryz.prog 62 #[.string s, .string ⟨#[c]⟩] w fun e w' => e = .returned (.tuple #[.string (bsL (tlB c s.data.toList)), .bool (hdB c s.data.toList)]) ∧ w = w' := by
  refine (Tryz.strings_CutPrefix s ⟨#[c]⟩ w).mono fun e w' ⟨he, hw⟩ => ⟨?_, hw.symm⟩
  rw [he]
  have e1 : Lib.trimPrefix s.data.toList [c] = tlB c s.data.toList := by
    unfold Lib.trimPrefix tlB
    rw [prefix_one]
    unfold hdB
    by_cases h : s.data.toList.head? = some c
    · simp [h]
    · simp [h]
  show Ending.returned (.tuple #[.string (bsL (Lib.trimPrefix s.data.toList [c])), .bool (Lib.hasPrefix s.data.toList [c])]) = _
  rw [e1, prefix_one]
theorem cutsuffix_any (s : ByteArray) (c : UInt8) (w : World) (hs : s.size ≤ maxLen) :
    Calls Tryz.prog 63 #[.string s, .string ⟨#[c]⟩] w fun e w' => e = .returned (.tuple #[.string (bsL (inB c s.data.toList)), .bool (laB c s.data.toList)]) ∧ w = w' := by
  refine (Tryz.strings_CutSuffix s ⟨#[c]⟩ w hs).mono fun e w' ⟨he, hw⟩ => ⟨?_, hw.symm⟩
  rw [he]
  have e1 : Lib.trimSuffix s.data.toList [c] = inB c s.data.toList := by
    unfold Lib.trimSuffix inB
    rw [suffix_one]
    unfold laB
    generalize s.data.toList = l
    by_cases h : l.getLast? = some c
    · rw [if_pos (by rw [decide_eq_true h]), if_pos h, List.dropLast_eq_take]; rfl
    · rw [if_neg (by rw [decide_eq_false h]; simp), if_neg h]
  show Ending.returned (.tuple #[.string (bsL (Lib.trimSuffix s.data.toList [c])), .bool (Lib.hasSuffix s.data.toList [c])]) = _
  rw [e1, suffix_one]
end Go.Proofs.YtaogjccmeajpoaaGreatDoor
namespace Go.Proofs.YtaogjccmeajpoaaGreatDoor
open Go.ChangeShapes Go.WideShapes Go.ChangeAt Go.RowKit
set_option linter.unusedVariables false
set_option linter.unusedSimpArgs false
set_option maxRecDepth 100000

theorem parse_snoc (c : UInt8) (hc : 48 ≤ c.toNat ∧ c.toNat ≤ 57) : ∀ (l : List UInt8) (acc u : Nat), Lib.parseUint10 acc l = .ok u → u < 100000000000000000 → Lib.parseUint10 acc (l ++ [c]) = .ok (10 * u + (c.toNat - 48)) := by
  intro l
  induction l with
  | nil =>
    intro acc u h hu
    simp only [Lib.parseUint10] at h
    injection h with h
    subst h
    show Lib.parseUint10 acc [c] = _
    simp only [Lib.parseUint10]
    rw [if_pos hc, if_neg (by omega), if_neg (by omega), Nat.mul_comm]
  | cons x t ih =>
    intro acc u h hu
    simp only [Lib.parseUint10, List.cons_append] at h ⊢
    by_cases h1 : 48 ≤ x.toNat ∧ x.toNat ≤ 57
    · rw [if_pos h1] at h ⊢
      by_cases h2 : 1844674407370955162 ≤ acc
      · rw [if_pos h2] at h; cases h
      · rw [if_neg h2] at h ⊢
        by_cases h3 : 18446744073709551616 ≤ acc * 10 + (x.toNat - 48)
        · rw [if_pos h3] at h; cases h
        · rw [if_neg h3] at h ⊢
          exact ih _ _ h hu
    · rw [if_neg h1] at h; cases h
theorem parse_dec (n : Nat) (h : n < 100000000000000000) : Lib.parseUint10 0 (Lib.decDigits n) = .ok n := by
  induction n using Nat.strongRecOn with
  | ind n ih =>
    by_cases hn : n < 10
    · rw [Lib.decDigits_one hn]
      simp only [Lib.parseUint10]
      rw [digit_toNat n hn, if_pos (by omega), if_neg (by omega), if_neg (by omega)]
      congr 1; omega
    · rw [dec_big hn, parse_snoc _ (by rw [digit_toNat _ (by omega)]; omega) _ _ _ (ih (n / 10) (by omega) (by omega)) (by omega), digit_toNat _ (by omega)]
      congr 1; omega
theorem atoi_dec (n : Nat) (h : n < 100000000000000000) : Lib.atoiAll (Lib.decDigits n) = .ok (n : Int) := by
  have hp := parse_dec n h
  have hd := dec_digit n
  have hne := dec_ne n
  cases hl : Lib.decDigits n with
  | nil => exact absurd hl hne
  | cons c r =>
    have hc := hd c (by rw [hl]; exact .head _)
    rw [hl] at hp
    rw [Lib.atoiAll_plain c r (by omega) (by omega)]
    have hm : Lib.parseMag (c :: r) = .ok n := by unfold Lib.parseMag; rw [if_neg (by simp)]; exact hp
    rw [hm]
    simp only [Lib.signless]
    rw [if_neg (by omega)]
theorem itoa_neg (v : Int) (h : v < 0) (n : Nat) : Lib.itoa v ≠ Lib.decDigits n := fun e => by
  unfold Lib.itoa at e
  rw [if_pos h] at e
  have := dec_digit n 45 (by rw [← e]; exact .head _)
  have h45 : (45 : UInt8).toNat = 45 := rfl
  omega
theorem itoa_pos (v : Int) (h : 0 ≤ v) : Lib.itoa v = Lib.decDigits v.toNat := by unfold Lib.itoa; rw [if_neg (by omega)]
theorem numok_yes (v : Int) (d : List UInt8) (h : Lib.itoa v = d) : NumOk v d := fun n h1 h2 => by
  constructor
  · intro e; subst e; rw [← h, itoa_pos _ (by omega)]; rfl
  · intro e
    rw [← h] at e
    by_cases hv : v < 0
    · exact absurd e (itoa_neg v hv n)
    · rw [itoa_pos v (by omega)] at e
      have := dec_inj _ _ e
      omega
theorem numok_not (d : List UInt8) (h : ∀ n : Nat, 1 ≤ n → n ≤ 999 → d ≠ Lib.decDigits n) : NumOk 0 d := fun n h1 h2 => ⟨fun e => by omega, fun e => absurd e (h n h1 h2)⟩

/-- What the readers need of the world: the table of powers, the library's two errors. -/
structure Env (base : Nat) (w : World) : Prop where
  tab : TabB base w
  e1 : ∃ ev, w.cell? ⟨2, 0, none⟩ = some ev ∧ (ev = .nilIface ∨ ∃ te pe, ev = .iface te pe)
  e2 : ∃ ev, w.cell? ⟨3, 0, none⟩ = some ev ∧ (ev = .nilIface ∨ ∃ te pe, ev = .iface te pe)
  l1 : 2 < base
  l2 : 3 < base
theorem Env.call {base : Nat} {w w1 : World} (h : Env base w) (hb : Below base w w1) : Env base w1 := by
  obtain ⟨v1, c1, f1⟩ := h.e1
  obtain ⟨v2, c2, f2⟩ := h.e2
  exact ⟨h.tab.call hb, ⟨v1, by rw [hb.cell (p := ⟨2, 0, none⟩) h.l1]; exact c1, f1⟩, ⟨v2, by rw [hb.cell (p := ⟨3, 0, none⟩) h.l2]; exact c2, f2⟩, h.l1, h.l2⟩
theorem Env.tabIs {base : Nat} {w : World} (h : Env base w) : Lib.TabIs Tryz.prog w "internal/strconv.uint64pow10" .u64 Lib.pow10Tab := h.tab w (Below.refl _ _)
/-- What Atoi answers. -/
def EndA (s : ByteArray) (w : World) (e : Ending) (w' : World) : Prop := ∃ z er, e = .returned (.tuple #[.int .i64 z, er]) ∧ (er = .nilIface ∨ ∃ t p, er = .iface t p) ∧ (er = .nilIface → -9223372036854775808 ≤ z ∧ z ≤ 9223372036854775807 ∧ Lib.atoiAll s.data.toList = .ok z) ∧ ((∃ t p, er = .iface t p) → ∀ n : Nat, n ≤ 999 → s.data.toList ≠ Lib.decDigits n) ∧ Below w.heap.size w w'
theorem atoi_any (s : ByteArray) (base : Nat) (w : World) (hs : s.size ≤ 281474976710656) (hE : Env base w) : Calls Tryz.prog 75 #[.string s] w (EndA s w) := by
  cases ha : Lib.atoiAll s.data.toList with
  | ok v =>
    refine (Tryz.strconv_Atoi_ok s (by omega) v ha w).mono fun e w' ⟨he, hw⟩ => ⟨v, .nilIface, he, .inl rfl, fun _ => ⟨(Lib.atoiAll_bounds ha).1, (Lib.atoiAll_bounds ha).2, ha⟩, fun ⟨t, p, e⟩ => (by cases e), ?_⟩
    rcases hw with rfl | ⟨t, rfl⟩
    · exact Below.refl _ _
    · exact Lib.bytesWorld_below _ _ _
  | range =>
    obtain ⟨ev, h1, h2⟩ := hE.e2
    refine (Tryz.strconv_Atoi_range s hs ha ev w h1 h2).mono fun e w' ⟨N, he, _, _, hb⟩ => ⟨_, _, he, .inr ⟨_, _, rfl⟩, fun e => (by cases e), fun _ n hn e => ?_, hb⟩
    rw [e, atoi_dec n (by omega)] at ha; cases ha
  | _ =>
    obtain ⟨ev, h1, h2⟩ := hE.e1
    refine (Tryz.strconv_Atoi_syntax s hs ha ev w h1 h2).mono fun e w' ⟨N, he, _, _, hb⟩ => ⟨0, _, he, .inr ⟨_, _, rfl⟩, fun e => (by cases e), fun _ n hn e => ?_, hb⟩
    rw [e, atoi_dec n (by omega)] at ha; cases ha
theorem below_grow (w : World) (k : Nat) (os : Array Obj) : Below w.heap.size w (Go.Sort.grow (w.drewN k) os) :=
  ⟨rfl, rfl, rfl, by simp [Go.Sort.grow], fun i hi => by simp [Go.Sort.grow, Array.getElem?_append, hi]⟩
theorem itoa_any (v : Int) (base : Nat) (w : World) (h0 : -9223372036854775808 ≤ v) (h1 : v ≤ 9223372036854775807) (hE : Env base w) :
    Calls Tryz.prog 76 #[.int .i64 v] w fun e w' => e = .returned (.string (bsL (Lib.itoa v))) ∧ Below w.heap.size w w' := by
  refine (Tryz.strconv_Itoa v h0 h1 w hE.tabIs).mono fun e w' ⟨he, k, os, hw⟩ => ⟨he, by rw [hw]; exact below_grow w k os⟩

def EndNum (d : List UInt8) (w : World) (e : Ending) (w' : World) : Prop := ∃ z, e = .returned (.int .i64 z) ∧ NumOk z d ∧ (Lit.int .i64 z).wf = true ∧ Below w.heap.size w w'
theorem wf_i64 {z : Int} (h0 : -9223372036854775808 ≤ z) (h1 : z ≤ 9223372036854775807) : (Lit.int .i64 z).wf = true := by
  show (decide (IntKind.min .i64 ≤ z) && decide (z ≤ IntKind.max .i64)) = true
  have e1 : IntKind.min .i64 = -9223372036854775808 := by decide
  have e2 : IntKind.max .i64 = 9223372036854775807 := by decide
  rw [e1, e2]; simp; omega
set_option maxHeartbeats 1600000 in
theorem readnumber_any (s : ByteArray) (base : Nat) (w : World) (hs : s.size ≤ 281474976710656) (hb : base ≤ w.heap.size) (hE : Env base w) : Calls Tryz.prog 64 #[.string s] w (EndNum s.data.toList w) := by
  have ha := fun W (h : Env base W) => atoi_any s base W hs h
  have HA := Lib.hid ha; clear ha
  have hno : ∀ w', NumOk 0 s.data.toList → Below w.heap.size w w' → EndNum s.data.toList w (.returned (.int .i64 0)) w' := fun w' h1 h2 => ⟨0, rfl, h1, by decide, h2⟩
  have HNO := Lib.hid hno; clear hno
  go_enter Tryz.func64, Tryz.ntmps64
  go_wp2_with fail
  refine (HA.out _ hE).mono ?_
  rintro e w1 ⟨z, er, rfl, hf, hyes, hnot, hb1⟩
  rcases hf with rfl | ⟨t, q, rfl⟩
  · obtain ⟨z0, z1, hz⟩ := hyes rfl
    have hE1 := hE.call (hb1.mono hb)
    have hi := fun W h => itoa_any z base W z0 z1 h
    have HI := Lib.hid hi
    clear hi hyes hnot
    have HZ := Lib.hid hz; clear hz
    by_cases he : bsL (Lib.itoa z) = s
    · have q1 : ((bsL (Lib.itoa z)).toList == s.toList) = true := strl_eq he
      have q2 : ((bsL (Lib.itoa z)).toList != s.toList) = false := by rw [bne, q1]; rfl
      have hres : NumOk z s.data.toList := numok_yes z _ (by rw [← he, bsL_list])
      have HR := Lib.hid hres; clear hres he
      generalize bsL (Lib.itoa z) = it at *
      go_wp2_with fail
      refine (HI.out _ hE1).mono ?_; rintro e w2 ⟨rfl, hb2⟩
      go_wp2_with fail
      go_ret
      exact ⟨z, rfl, HR.out, wf_i64 z0 z1, BelowOn hb1 hb2⟩
    · have q1 : ((bsL (Lib.itoa z)).toList == s.toList) = false := strl_ne he
      have q2 : ((bsL (Lib.itoa z)).toList != s.toList) = true := by rw [bne, q1]; rfl
      have hres : NumOk 0 s.data.toList := numok_not _ fun n h1 h2 e => he (by
        have h3 := HZ.out
        rw [e, atoi_dec n (by omega)] at h3
        injection h3 with h3
        rw [← h3, itoa_pos _ (by omega), ← bsL_of s, e]; rfl)
      have HR := Lib.hid hres; clear hres he
      generalize bsL (Lib.itoa z) = it at *
      go_wp2_with fail
      refine (HI.out _ hE1).mono ?_; rintro e w2 ⟨rfl, hb2⟩
      go_wp2_with fail
      go_ret
      exact HNO.out _ HR.out (BelowOn hb1 hb2)
  · have hres : NumOk 0 s.data.toList := numok_not _ fun n h1 h2 => hnot ⟨_, _, rfl⟩ n h2
    have HR := Lib.hid hres
    clear hres hyes hnot
    go_wp2_with fail
    go_ret
    exact HNO.out _ HR.out hb1
end Go.Proofs.YtaogjccmeajpoaaGreatDoor
