/- Contracts of Concat: of the library's, of the program's, of the reference's. -/
import Derived.Test.YtnfapcfajoboaaaRnr
import Derived.Lib.AppendZeros
import Derived.Deep.Upon
namespace Go.Proofs.Ytnfapcfajoboaaa
open Go.ChangeShapes Go.WideShapes Go.ChangeAt Go.RowKit
set_option linter.unusedVariables false
set_option maxRecDepth 100000

theorem Its.news {w : World} {a : Addr} {M : List It} (hM : Its w (some a) M) : ∀ j u, (icells M)[j]? = some u → w.cell? (a.add j) = some u := fun j u hj => by
  have hj3 : j < M.length * 3 := by
    rcases Nat.lt_or_ge j (M.length * 3) with h | h
    · exact h
    · rw [List.getElem?_eq_none (by rw [icells_length]; exact h)] at hj; cases hj
  obtain ⟨a', e, _, hc⟩ := hM (by omega)
  cases e
  obtain ⟨q, hq⟩ : ∃ q, q = j / 3 := ⟨_, rfl⟩
  have hql : q < M.length := by omega
  have hj' : j = q * 3 ∨ j = q * 3 + 1 ∨ j = q * 3 + 2 := by omega
  clear hq
  obtain ⟨c0, c1, c2⟩ := hc q hql
  obtain ⟨d0, d1, d2⟩ := icells_at M q hql
  rcases hj' with rfl | rfl | rfl
  · rw [d0] at hj; rw [c0]; exact hj
  · rw [d1] at hj; rw [c1]; exact hj
  · rw [d2] at hj; rw [c2]; exact hj
/-- Appending a slice of items, whatever it is, to one that the call owns. -/
theorem append_its (w : World) (ty : TypeId) (base : Nat) (L M : List It) (v : Value) (p : Option Addr) (c : Nat) (h : OwnL 26 3 ienc base L v w) (hM : Its w p M) (hbase : base ≤ w.heap.size) (hl : (L.length + M.length) * 32 ≤ 140737488355328) :
    ∃ v' w', (Builtin.append_ #[30, 30] ty #[v, .slice p M.length c]).run Try.prog w = .ok v' w' ∧ OwnL 26 3 ienc base (L ++ M) v' w' ∧ w.grownBy w' v.ownBlock := by
  obtain ⟨i, hi, hz0, hz1, hz2⟩ := eI.hi
  by_cases h0 : M.length = 0
  · have hM0 : M = [] := List.length_eq_zero_iff.1 h0
    subst hM0
    rw [List.append_nil]
    refine ⟨v, w, ?_, h, World.grownBy.refl _ _⟩
    obtain ⟨p1, c1, rfl, hle, _⟩ := h.its
    refine run_append_nothing w 30 30 ty 26 i eI.ht hi p1 L.length c1 hle _ ?_
    cases p with
    | none => exact Src.ofNil w eI.ht c
    | some a => exact Src.ofSlice w eI.ht a 0 c [] (by simp) (fun j u hj => by simp at hj) (fun u hu => by cases hu)
  · obtain ⟨a, rfl, hlt, _⟩ := hM (by omega)
    have hm3 := icells_length M
    obtain ⟨g, cap, w', hr, h2, h3, h4, h5⟩ := run_append_lies (P := Try.prog) w 30 ty base 26 i _ 3 32 eI.ht hi hz0 hz1 hz2 eI.hzs eI.hsz v L.length (cellsOf ienc L) h a M.length c (icells M) hm3 hM.news (icells_one M) (by omega) (by unfold maxLen; omega) hl hbase _ rfl
    refine ⟨_, w', hr, ?_, h3⟩
    unfold OwnL
    rw [List.length_append, show cellsOf ienc (L ++ M) = cellsOf ienc L ++ icells M from by unfold cellsOf icells; rw [List.flatMap_append]; rfl]
    exact h2
theorem wpl_cat {w : World} {ops : Array Oper} {rest : List Oper} {o : Oper} {a : Act} {Q : Exit → Act → World → Prop} (hgd : o.guard = none) (s x : Operand) (ho : o.op = .call { callee := .builtin .append, args := #[s, x], argTypes := #[30, 30] })
    (w0 : World) (L M : List It) (v : Value) (hs : a.eval s = v) (h : AccI w0 L v w) (p : Option Addr) (m c : Nat) (hx : a.eval x = .slice p m c) (hm : m = M.length) (hM : Its w p M) (hl : (L.length + M.length) * 32 ≤ 140737488355328)
    (hK : ∀ v' w', AccI w0 (L ++ M) v' w' → wpList Try.prog ops Q rest (a.put o.dst v') w') : wpList Try.prog ops Q (o :: rest) a w := by
  subst hm
  obtain ⟨v', w', hr, h1, h2⟩ := append_its w o.type w0.heap.size L M v p c h.own hM h.below.size hl
  exact Lib.wpList_append_run w hgd s x 30 30 ho v _ hs hx v' w' hr (hK v' w' (h.more h2 h1))

set_option maxHeartbeats 1600000 in
theorem grow_any (n : Nat) (w : World) (hn : n ≤ 4000000000) :
    Calls Try.prog 102 #[.slice none 0 0, .int .i64 n] w (fun e w' => ∃ p cap, e = .returned (.slice p 0 cap) ∧ AccI w [] (.slice p 0 cap) w') := by
  obtain ⟨i, hi, hz0, hz1, hz2⟩ := eI.hi
  by_cases h0 : n = 0
  · subst h0
    go_enter Try.func102, Try.ntmps102
    go_wp2_with fail
    go_ret
    exact ⟨_, _, rfl, Acc.start _⟩
  · have q : decide (0 < n) = true := decide_eq_true (by omega)
    have q' : decide ((n : Int) < 0) = false := by simp
    have hr := fun ty => Lib.run_append_nil_zeros (P := Try.prog) w 30 3 ty 26 i _ .i64 .i64 eI.ht Try.underlying3 hi hz0 n (by omega) (by omega) (by omega) (by rw [hz2]; omega)
    have hge := grownCap_ge w n 0 26
    have hcm : grownCap w n 0 26 ≤ maxLen := grownCap_le_maxLen w n 0 26 (by unfold maxLen; omega)
    have hcm' := hcm
    unfold maxLen at hcm'
    have hA : AccI w [] (.slice (some ⟨w.heap.size, 0, none⟩) 0 (grownCap w n 0 26)) (w.drew.alloc (.cells (Builtin.zeroCells (Value.agg #[.int .i64 0, .string .empty, .int .i64 0]).cells n ++ Builtin.zeroCells (Value.agg #[.int .i64 0, .string .empty, .int .i64 0]).cells (grownCap w n 0 26 - n)) 26)) := by
      refine ⟨((Below.refl _ w).drew).alloc (Nat.le_refl _) _, rfl, .inr ⟨w.heap.size, grownCap w n 0 26, _, rfl, Nat.le_refl _, heap_alloc_new w.drew _, Nat.zero_le _, hcm, ?_, by simp [cellsOf]⟩⟩
      have hz3 : (Value.agg #[.int .i64 0, .string .empty, .int .i64 0]).cells.size = 3 := rfl
      rw [Array.size_append, size_zeroCells, size_zeroCells, hz3, ← Nat.add_mul]
      congr 1
      omega
    generalize grownCap w n 0 26 = cp at *
    have HA := Lib.hid hA
    clear hA hcm
    go_enter Try.func102, Try.ntmps102
    go_wp2_with (at_builtin; refine Lib.wpList_append_run _ rfl _ _ 30 3 rfl _ _ rfl rfl _ _ (hr _) ?_)
    go_ret
    exact ⟨_, _, rfl, HA.out⟩

set_option maxHeartbeats 3200000 in
theorem cat_any (B : Nat) (p q : Option Addr) (c d : Nat) (l m : List It) (w : World) (hB : B < w.heap.size) (x0 : w.cell? ⟨B, 0, none⟩ = some (.slice p l.length c)) (x1 : w.cell? ⟨B, 1, none⟩ = some (.slice q m.length d)) (hR : Its w p l) (hS : Its w q m) (hl : l.length + m.length ≤ 4000000000) :
    Calls Try.prog 84 #[.slice (some ⟨B, 0, none⟩) 2 2] w (EndI (l ++ m) w) := by
  have hgr := fun w => grow_any (l.length + m.length) w hl
  rw [Int.natCast_add] at hgr
  have HG := Lib.hid hgr; clear hgr
  have hcell : ∀ W, Below w.heap.size w W → W.cell? ⟨B, 0, none⟩ = some (.slice p l.length c) ∧ W.cell? ⟨B, 1, none⟩ = some (.slice q m.length d) := fun W hW =>
    ⟨by rw [hW.cell (p := ⟨B, 0, none⟩) hB]; exact x0, by rw [hW.cell (p := ⟨B, 1, none⟩) hB]; exact x1⟩
  have HC := Lib.hid hcell; clear hcell
  have n1 : (0 : Int) ≤ (l.length : Int) + (m.length : Int) := by omega
  go_enter Try.func84, Try.ntmps84
  go_wp2_with fail
  go_loopw [3, 11] (fun s i wr => w = wr ∧ ((i = .int .i64 0 ∧ s = .int .i64 0) ∨ (i = .int .i64 1 ∧ s = .int .i64 l.length) ∨ (i = .int .i64 2 ∧ s = .int .i64 ((l.length : Int) + (m.length : Int))))) (fun _ i _ => 2 - (intOf i).toNat)
  case atStart => exact ⟨rfl, .inl ⟨rfl, rfl⟩⟩
  case round =>
    obtain ⟨rfl, hrel⟩ := hrel
    rcases hrel with ⟨rfl, rfl⟩ | ⟨rfl, rfl⟩ | ⟨rfl, rfl⟩
    · have q1 : decide ((l.length : Int) < 0) = false := by simp
      go_wp2_with fail
      go_roundw
      case rel => exact ⟨by trivial, .inr (.inl ⟨rfl, rfl⟩)⟩
      case measure => simp [intOf]
    · have q1 : decide ((l.length : Int) + (m.length : Int) < 0) = false := decide_eq_false (by omega)
      go_wp2_with fail
      go_roundw
      case rel => exact ⟨by trivial, .inr (.inr ⟨rfl, rfl⟩)⟩
      case measure => simp [intOf]
    · go_wp2_with fail
      refine (HG.out _).mono ?_; rintro e w1 ⟨p1, c1, rfl, hA⟩
      go_wp2_with fail
      go_loopw [6, 27] (fun v i wr' => (i = .int .i64 0 ∧ AccI w [] v wr') ∨ (i = .int .i64 1 ∧ AccI w l v wr') ∨ (i = .int .i64 2 ∧ AccI w (l ++ m) v wr')) (fun _ i _ => 2 - (intOf i).toNat)
      case atStart => exact .inl ⟨rfl, hA⟩
      case round =>
        rcases hrel with ⟨rfl, hA⟩ | ⟨rfl, hA⟩ | ⟨rfl, hA⟩
        · obtain ⟨y0, y1⟩ := HC.out _ hA.below
          go_wp2_with (at_builtin; refine wpl_cat rfl _ _ rfl w [] l _ rfl hA p _ c rfl rfl (hR.call hA.below) (by simp; omega) ?_; intro v' w4 hA4)
          go_wp2_with fail
          go_roundw
          case rel => exact .inr (.inl ⟨rfl, hA4⟩)
          case measure => simp [intOf]
        · obtain ⟨y0, y1⟩ := HC.out _ hA.below
          go_wp2_with (at_builtin; refine wpl_cat rfl _ _ rfl w l m _ rfl hA q _ d rfl rfl (hS.call hA.below) (by omega) ?_; intro v' w4 hA4)
          go_wp2_with fail
          go_roundw
          case rel => exact .inr (.inr ⟨rfl, hA4⟩)
          case measure => simp [intOf]
        · go_wp2_with fail
          go_ret
          exact ⟨_, rfl, hA⟩
end Go.Proofs.Ytnfapcfajoboaaa
