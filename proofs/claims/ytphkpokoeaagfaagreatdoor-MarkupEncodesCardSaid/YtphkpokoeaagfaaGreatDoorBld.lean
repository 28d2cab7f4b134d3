/- Contracts of strings.Builder, with the blocks that they touch. -/
import Derived.Test.YtphkpokoeaagfaaGreatDoorAcc
import Derived.Test.YtphkpokoeaagfaaGreatDoorShelf0
import Derived.Lib.AppendStr
namespace Go.Proofs.YtphkpokoeaagfaaGreatDoor
open Go.ChangeShapes Go.WideShapes Go.ChangeAt Go.RowKit
set_option linter.unusedVariables false
set_option maxRecDepth 100000

/-- Of the blocks that lay none has turned but those of S. -/
structure Only (S : Nat → Prop) (w w' : World) : Prop where
  os : w'.os = w.os
  tape : w'.tape = w.tape
  output : w'.output = w.output
  size : w.heap.size ≤ w'.heap.size
  block : ∀ i, i < w.heap.size → ¬ S i → w'.heap[i]? = w.heap[i]?
theorem Only.trans {S : Nat → Prop} {a b c : World} (h : Only S a b) (k : Only S b c) : Only S a c :=
  ⟨k.os.trans h.os, k.tape.trans h.tape, k.output.trans h.output, Nat.le_trans h.size k.size, fun i hi hs => (k.block i (Nat.lt_of_lt_of_le hi h.size) hs).trans (h.block i hi hs)⟩
theorem Only.mono {S T : Nat → Prop} {a b : World} (h : Only S a b) (hs : ∀ i, i < a.heap.size → S i → T i) : Only T a b := ⟨h.os, h.tape, h.output, h.size, fun i hi ht => h.block i hi (fun hS => ht (hs i hi hS))⟩
theorem Only.below {S : Nat → Prop} {a b : World} (h : Only S a b) (base : Nat) (hb : base ≤ a.heap.size) (hs : ∀ i, S i → base ≤ i) : Below base a b :=
  ⟨h.os, h.tape, h.output, h.size, fun i hi => h.block i (by omega) (fun hS => by have := hs i hS; omega)⟩
theorem Only.of_below {S : Nat → Prop} {a b : World} (h : Below a.heap.size a b) : Only S a b := ⟨h.os, h.tape, h.output, h.size, fun i hi _ => h.block i hi⟩
theorem Only.of_grown {S : Nat → Prop} {a b : World} {r : Option Nat} (h : a.grownBy b r) (hs : ∀ i, r = some i → S i) : Only S a b :=
  ⟨h.os, h.tape, h.output, h.size, fun i hi hS => h.block i hi (fun e => hS (hs i e.symm))⟩
theorem Only.setCell {S : Nat → Prop} {a b : World} (h : Only S a b) (p : Addr) (v : Value) (hp : S p.block) : Only S a (b.setCell p v) :=
  ⟨h.os, h.tape, h.output, by simp [World.setCell]; exact h.size, fun i hi hS => by rw [Below.heap_setCell _ _ _ _ (fun e => hS (by rw [e]; exact hp))]; exact h.block i hi hS⟩
theorem Only.refl (S : Nat → Prop) (w : World) : Only S w w := ⟨rfl, rfl, rfl, Nat.le_refl _, fun _ _ _ => rfl⟩
theorem Only.alloc {S : Nat → Prop} {a b : World} (h : Only S a b) (o : Obj) : Only S a (b.alloc o) := h.trans (Only.of_below ((Below.refl _ _).alloc (Nat.le_refl _) o))

/-- A builder in block b, its bytes in block g. -/
def Bld (base : Nat) (w : World) (b : Nat) (g : Option Nat) (bs : List UInt8) : Prop :=
  base ≤ b ∧ ∃ p v, (p = Value.pointer none ∨ p = Value.pointer (some ⟨b, 0, none⟩)) ∧ w.heap[b]? = some (.cells #[p, v] 99 (0, 0)) ∧ w.ownsRow base 5 1 v bs.length (Lib.byteCells bs) ∧ v.ownBlock = g ∧ g ≠ some b
theorem Bld.lt {base : Nat} {w : World} {b : Nat} {g : Option Nat} {bs : List UInt8} (h : Bld base w b g bs) : b < w.heap.size ∧ ∀ i, g = some i → base ≤ i ∧ i < w.heap.size := by
  obtain ⟨_, p, v, _, hb, ho, hg, _⟩ := h
  exact ⟨(Array.getElem?_eq_some_iff.1 hb).1, fun i hi => ho.lt i (hg.trans hi)⟩
theorem Bld.isB {base : Nat} {w : World} {b : Nat} {g : Option Nat} {bs : List UInt8} (h : Bld base w b g bs) : Lib.IsBuilder 99 5 base b (Lib.byteCells bs) w := by
  obtain ⟨h0, p, v, hp, hb, ho, hg, hne⟩ := h
  have hl : (Lib.byteCells bs).length = bs.length := Lib.byteCells_length bs
  rcases hp with rfl | rfl
  · exact .inl ⟨h0, v, hb, by rw [hl]; exact ho, by rw [hg]; exact hne⟩
  · exact .inr ⟨h0, v, hb, by rw [hl]; exact ho, by rw [hg]; exact hne⟩
theorem ownsRow_same {w w' : World} {base : Nat} {e : TypeId} {size : Nat} {v : Value} {n : Nat} {xs : List Value} (h : w.ownsRow base e size v n xs) (hb : ∀ i, v.ownBlock = some i → w'.heap[i]? = w.heap[i]?) : w'.ownsRow base e size v n xs := by
  obtain ⟨h1, h2⟩ := h
  refine ⟨h1, ?_⟩
  rcases h2 with h2 | ⟨g, cap, cur, hv, hg, hh, r⟩
  · exact .inl h2
  · exact .inr ⟨g, cap, cur, hv, hg, (hb g (by rw [hv]; rfl)).trans hh, r⟩
theorem Bld.same {base : Nat} {w w' : World} {b : Nat} {g : Option Nat} {bs : List UInt8} (h : Bld base w b g bs) (hb : w'.heap[b]? = w.heap[b]?) (hg : ∀ i, g = some i → w'.heap[i]? = w.heap[i]?) : Bld base w' b g bs := by
  obtain ⟨h0, p, v, hp, hbb, ho, hgg, hne⟩ := h
  exact ⟨h0, p, v, hp, hb.trans hbb, ownsRow_same ho (fun i hi => hg i (hgg.symm.trans hi)), hgg, hne⟩
theorem Bld.call {base : Nat} {w w' : World} {b : Nat} {g : Option Nat} {bs : List UInt8} (h : Bld base w b g bs) (hb : Below w.heap.size w w') : Bld base w' b g bs := h.same (hb.block b h.lt.1) (fun i hi => hb.block i (h.lt.2 i hi).2)
theorem Bld.alloc {base : Nat} {w : World} {b : Nat} {g : Option Nat} {bs : List UInt8} (h : Bld base w b g bs) (o : Obj) : Bld base (w.alloc o) b g bs := h.call ((Below.refl _ _).alloc (Nat.le_refl _) o)
theorem Bld.new (w : World) (base : Nat) (hb : base ≤ w.heap.size) (B : Nat) (hB : w.heap.size = B) : Bld base (w.alloc (.cells #[.pointer none, .slice none 0 0] 99)) B none [] := by
  subst hB
  exact ⟨hb, _, _, .inl rfl, heap_alloc_new w _, World.ownsRow_nil _ _ _ _, rfl, by simp⟩

theorem info85 : ∃ j, Tryz.prog.info? 99 = some j ∧ j.size = 2 := by
  have h : (Tryz.prog.info? 99).map (·.size) = some 2 := by kernel_rfl
  obtain ⟨j, hj, hs⟩ := Option.map_eq_some_iff.1 h
  exact ⟨j, hj, hs⟩
theorem lies85 : liesAt Tryz.prog Tryz.prog.depth 99 (2 / Tryz.prog.cellsOf 99) 0 99 1 = true := by kernel_rfl
theorem info5b : (Tryz.prog.info? 5).map (fun i => (i.zero, i.size, i.bytes)) = some (some (.int .u8 0), 1, 1) := by kernel_rfl

set_option maxHeartbeats 1600000 in
theorem cc_used (b : Nat) (w : World) (h0 : w.cell? ⟨b, 0, none⟩ = some (.pointer (some ⟨b, 0, none⟩))) :
    Calls Tryz.prog 99 #[.pointer (some ⟨b, 0, none⟩)] w fun e w' => e = .returned (.tuple #[]) ∧ w' = w := by
  obtain ⟨j, hj, _⟩ := info85
  go_enter Tryz.func99, Tryz.ntmps99
  go_wp2
  rw [Lib.run_neq_ptr_same w _ Tryz.underlying97 hj]
  go_wp2
  go_end0
  exact ⟨rfl, rfl⟩
set_option maxHeartbeats 1600000 in
theorem cc_fresh (b : Nat) (w : World) (h0 : w.cell? ⟨b, 0, none⟩ = some (.pointer none)) (hsh : w.shape? b = some (99, 2)) (hfz : w.frozen? ⟨b, 0, none⟩ = false) :
    Calls Tryz.prog 99 #[.pointer (some ⟨b, 0, none⟩)] w fun e w' => e = .returned (.tuple #[]) ∧ w' = w.setCell ⟨b, 0, none⟩ (.pointer (some ⟨b, 0, none⟩)) := by
  obtain ⟨j, hj, hjs⟩ := info85
  go_enter Tryz.func99, Tryz.ntmps99
  go_wp2
  rw [Lib.run_to_unsafe w ⟨b, 0, none⟩ Tryz.underlying97 Tryz.underlying144 hj (by rw [hjs]; decide) hsh (Nat.zero_lt_succ 1)]
  simp only [Result.andThen]
  rw [Oper.upon_value]
  go_wp2
  rw [run_callFunc_extern Tryz.func116 (by kernel_rfl) (by kernel_rfl) (by kernel_rfl) (e := Extern.AbiNoEscape.same) (by kernel_rfl)]
  rw [Lib.run_noEscape]
  simp only [Result.andThen]
  rw [Oper.upon_value]
  go_wp2
  rw [Lib.run_from_unsafe w ⟨b, 0, none⟩ Tryz.underlying144 Tryz.underlying97 hj hsh lies85]
  simp only [Result.andThen]
  rw [Oper.upon_value]
  go_wp2
  go_end0
  exact ⟨rfl, rfl⟩
/-- Behind copyCheck: the builder's own address stands in it; nothing but its block has turned. -/
theorem cc_any (base : Nat) (w : World) (b : Nat) (g : Option Nat) (bs : List UInt8) (h : Bld base w b g bs) :
    Calls Tryz.prog 99 #[.pointer (some ⟨b, 0, none⟩)] w fun e w' => e = .returned (.tuple #[]) ∧ Only (fun i => i = b) w w' ∧ ∃ v, w'.heap[b]? = some (.cells #[.pointer (some ⟨b, 0, none⟩), v] 99 (0, 0)) ∧ w'.ownsRow base 5 1 v bs.length (Lib.byteCells bs) ∧ v.ownBlock = g := by
  obtain ⟨h0, p, v, hp, hb, ho, hg, hne⟩ := h
  rcases hp with rfl | rfl
  · refine (cc_fresh b w (by rw [Lib.cell_of_heap hb]; rfl) (by simp [World.shape?, hb]) (Lib.frozen_of_heap hb 0)).mono ?_
    rintro e w' ⟨rfl, rfl⟩
    refine ⟨rfl, (Only.refl _ w).setCell _ _ rfl, v, ?_, ?_, hg⟩
    · simp [World.setCell, Array.getElem?_modify, hb]
    · exact ownsRow_same ho (fun i hi => Below.heap_setCell _ _ _ _ (fun e => hne (by rw [← hg, hi, e])))
  · refine (cc_used b w (by rw [Lib.cell_of_heap hb]; rfl)).mono ?_
    rintro e w' ⟨rfl, rfl⟩
    exact ⟨rfl, Only.refl _ _, v, hb, ho, hg⟩
theorem bld_len (base : Nat) (w : World) (b : Nat) (g : Option Nat) (bs : List UInt8) (h : Bld base w b g bs) :
    Calls Tryz.prog 58 #[.pointer (some ⟨b, 0, none⟩)] w fun e w' => e = .returned (.int .i64 bs.length) ∧ w = w' :=
  (Tryz.Builder_Len base b _ w h.isB).mono fun e w' ⟨he, hw⟩ => ⟨by rw [he, Lib.byteCells_length], hw.symm⟩

/-- Appending a string's bytes: and where the new slice lies. -/
theorem append_str {P : Program} (w : World) (base : Nat) (t u ty e : TypeId) (i : TypeInfo) (ht : P.underlying t = some (.slice e)) (hu : P.underlying u = some .string) (hi : P.info? e = some i) (hz : i.zero = some (.int .u8 0))
    (hsize : i.size = 1) (hby : i.bytes = 1) (v : Value) (n : Nat) (xs : List Value) (hown : w.ownsRow base e 1 v n xs) (s : ByteArray) (h63 : n + s.size ≤ maxLen) (hbytes : n + s.size ≤ 140737488355328) (hbase : base ≤ w.heap.size) :
    ∃ v' w', (Builtin.append_ #[t, u] ty #[v, .string s]).run P w = .ok v' w' ∧ w'.ownsRow base e 1 v' (n + s.size) (xs ++ Lib.strCells s) ∧ w.grownBy w' v.ownBlock ∧ ∀ k, v'.ownBlock = some k → v.ownBlock = some k ∨ k = w.heap.size := by
  obtain ⟨v', w', hr, h1, h2, h3⟩ := Lib.run_append_own_string (P := P) w base t u ty e i ht hu hi hz hsize hby v n xs hown s h63 hbytes hbase
  refine ⟨v', w', hr, h1, h2, fun k hk => ?_⟩
  have hsmall : n + s.size ≤ 9223372036854775807 := by simp only [maxLen] at h63; omega
  have hxl : xs.length = n := by simpa using hown.1
  rcases hown.2 with ⟨rfl, rfl⟩ | ⟨g, cap, cur, rfl, hbg, hg, hnc, hcm, hcs, htake⟩
  · by_cases hm : s.size = 0
    · have := h3.2 ⟨rfl, hm⟩
      rw [this] at hk; cases hk
    · have hr' := run_append_nil_string (P := P) w t u ty e i (.int .u8 0) ht hu hi hz s (by omega) (by omega) (by rw [hby]; omega)
      rw [hr] at hr'
      injection hr' with e1 _
      rw [e1] at hk
      injection hk with hk
      exact .inr hk.symm
  · by_cases hroom : n + s.size ≤ cap
    · have hcs' : cur.size = cap := by simpa using hcs
      have hr' := Lib.run_append_room_string (P := P) w t u ty e i ht hu hi hsize g n cap cur hg s hroom (by omega)
      rw [hr] at hr'
      injection hr' with e1 _
      rw [e1] at hk
      exact .inl hk
    · have holds : ∀ j u, xs[j]? = some u → w.cell? ((⟨g, 0, none⟩ : Addr).add j) = some u := hown.cells (g := g) rfl
      have hr' := Lib.run_append_grow_string (P := P) w t u ty e i (.int .u8 0) ht hu hi hz ⟨g, 0, none⟩ n cap xs (by rw [hsize]; simpa using hxl) holds s (by omega) (by omega) (by rw [hby]; exact growslice_fits (by omega) (by omega))
      rw [hr] at hr'
      injection hr' with e1 _
      rw [e1] at hk
      injection hk with hk
      exact .inr hk.symm
theorem wpl_append_str {w : World} {ops : Array Oper} {rest : List Oper} {o : Oper} {a : Act} {Q : Exit → Act → World → Prop} (hgd : o.guard = none) (sl x : Operand) (ho : o.op = .call { callee := .builtin .append, args := #[sl, x], argTypes := #[67, 9] })
    (base : Nat) (v : Value) (n : Nat) (xs : List Value) (hs : a.eval sl = v) (hown : w.ownsRow base 5 1 v n xs) (s : ByteArray) (hx : a.eval x = .string s) (hbytes : n + s.size ≤ 140737488355328) (hbase : base ≤ w.heap.size)
    (h : ∀ v' w', w'.ownsRow base 5 1 v' (n + s.size) (xs ++ Lib.strCells s) → w.grownBy w' v.ownBlock → (∀ k, v'.ownBlock = some k → v.ownBlock = some k ∨ k = w.heap.size) → wpList Tryz.prog ops Q rest (a.put o.dst v') w') : wpList Tryz.prog ops Q (o :: rest) a w := by
  obtain ⟨i, hi, hz0, hz1, hz2⟩ := info_parts info5b
  refine wpList_plain hgd fun K hK => ?_
  obtain ⟨v', w', hr, h1, h2, h3⟩ := append_str (P := Tryz.prog) w base 67 9 o.type 5 i Tryz.underlying67 Tryz.underlying9 hi hz0 hz1 hz2 v n xs hown s (by unfold maxLen; omega) hbytes hbase
  unfold Oper.wp
  simp [execOp, ho, resolve, invoke, builtin, hs, hx, hr, Result.andThen]
  exact hK _ _ (h v' w' h1 h2 h3)
theorem byteCells_append (l m : List UInt8) : Lib.byteCells (l ++ m) = Lib.byteCells l ++ Lib.byteCells m := by unfold Lib.byteCells; simp
theorem strCells_eq (s : ByteArray) : Lib.strCells s = Lib.byteCells s.data.toList := rfl
end Go.Proofs.YtphkpokoeaagfaaGreatDoor
