/- The generator of fragments: what a round has in hand. -/
import Derived.Test.YtphkpokoeaagfaaGreatDoorGsz
import Derived.Test.YtphkpokoeaagfaaGreatDoorLin
import Derived.Test.YtphkpokoeaagfaaGreatDoorChk
import Derived.Test.YtphkpokoeaagfaaGreatDoorTwo
import Derived.Deep.CutRange
import Derived.Deep.CutBlock
import Derived.Deep.Cut
import Derived.StillTailTactics
namespace Go.Proofs.YtphkpokoeaagfaaGreatDoor
open Go.ChangeShapes Go.WideShapes Go.ChangeAt Go.RowKit
set_option linter.unusedVariables false
set_option maxRecDepth 100000

abbrev OwnI := OwnL 62 3 ienc
/-- The generator between two calls: the numbers, the fragment, the open tags. -/
structure GRel (b : Nat) (pn : Option Addr) (cn : Nat) (L : List Int) (w : World) (f o : List It) (m : Nat) (vf vo : Value) (W : World) : Prop where
  base : b < w.heap.size
  chg : w.grownBy W (some b)
  nums : NumsAt W b pn cn L m
  f : OwnI w.heap.size f vf W
  o : OwnI w.heap.size o vo W
  ne : ∀ k, vf.ownBlock = some k → vo.ownBlock ≠ some k
  nums_lo : 0 < L.length → ∀ a, pn = some a → a.block < w.heap.size
theorem NumsAt.keep {W W' : World} {b : Nat} {p : Option Addr} {cap : Nat} {L : List Int} {m : Nat} (h : NumsAt W b p cap L m) (hs : W.heap.size ≤ W'.heap.size) (hb : W'.heap[b]? = W.heap[b]?) (hp : 0 < L.length → ∀ a, p = some a → W'.heap[a.block]? = W.heap[a.block]?) : NumsAt W' b p cap L m :=
  ⟨hb.trans h.hh, ones_keep h.ones hs hp, h.ap, h.wf, h.le, h.cm⟩
section
variable {b m : Nat} {pn : Option Addr} {cn : Nat} {L : List Int} {w W W' : World} {f o : List It} {vf vo : Value}
theorem GRel.next (h : GRel b pn cn L w f o m vf vo W) {m' : Nat} (hg : W.grownBy W' (some b)) (hN : NumsAt W' b pn cn L m') : GRel b pn cn L w f o m' vf vo W' :=
  ⟨h.base, chg_trans h.chg hg, hN, h.f.other hg h.base, h.o.other hg h.base, h.ne, h.nums_lo⟩
theorem GRel.call (h : GRel b pn cn L w f o m vf vo W) (hb : Below W.heap.size W W') : GRel b pn cn L w f o m vf vo W' :=
  h.next (chg_below hb) (h.nums.call hb)
theorem GRel.alloc (h : GRel b pn cn L w f o m vf vo W) (ob : Obj) : GRel b pn cn L w f o m vf vo (W.alloc ob) := h.call (blw (Below.refl _ _) ob)
theorem GRel.drewN (h : GRel b pn cn L w f o m vf vo W) (n : Nat) : GRel b pn cn L w f o m vf vo (W.drewN n) :=
  ⟨h.base, ⟨h.chg.os, h.chg.tape, h.chg.output, h.chg.size, h.chg.block⟩, ⟨h.nums.hh, h.nums.ones, h.nums.ap, h.nums.wf, h.nums.le, h.nums.cm⟩, h.f, h.o, h.ne, h.nums_lo⟩
/-- A store into a block of its own. -/
theorem GRel.set (h : GRel b pn cn L w f o m vf vo W) (B : Nat) (hB : w.heap.size ≤ B) (hf : vf.ownBlock ≠ some B) (ho : vo.ownBlock ≠ some B) (i : Nat) (v : Value) : GRel b pn cn L w f o m vf vo (W.setCell ⟨B, i, none⟩ v) := by
  have hk : ∀ k, k ≠ B → (W.setCell ⟨B, i, none⟩ v).heap[k]? = W.heap[k]? := fun k hk => Below.heap_setCell W ⟨B, i, none⟩ _ k hk
  have hs : (W.setCell ⟨B, i, none⟩ v).heap.size = W.heap.size := by simp [World.setCell]
  have hbs := h.base
  exact ⟨h.base, ⟨h.chg.os, h.chg.tape, h.chg.output, by rw [hs]; exact h.chg.size, fun k h1 h2 => (hk k (by omega)).trans (h.chg.block k h1 h2)⟩,
    h.nums.keep (by omega) (hk b (by omega)) (fun h0 a ha => hk _ (by have := h.nums_lo h0 a ha; omega)),
    h.f.keepAt (fun k e => hk k (fun e2 => hf (by rw [← e2]; exact e))), h.o.keepAt (fun k e => hk k (fun e2 => ho (by rw [← e2]; exact e))), h.ne, h.nums_lo⟩
/-- The open tags have turned: in their own block, or they lie in a new one. -/
theorem GRel.push (h : GRel b pn cn L w f o m vf vo W) {o' : List It} {g n cap : Nat} (hown : OwnI w.heap.size o' (.slice (some ⟨g, 0, none⟩) n cap) W') (hgr : W.grownBy W' vo.ownBlock) (hloc : vo.ownBlock = some g ∨ g = W.heap.size) : GRel b pn cn L w f o' m vf (.slice (some ⟨g, 0, none⟩) n cap) W' := by
  have hbs := h.base
  have hsz := h.chg.size
  have hlo : ∀ k, k < w.heap.size → W'.heap[k]? = W.heap[k]? := fun k hk => hgr.block k (by omega) (fun e => by have := (h.o.lt k e.symm).1; omega)
  refine ⟨h.base, ⟨hgr.os.trans h.chg.os, hgr.tape.trans h.chg.tape, hgr.output.trans h.chg.output, Nat.le_trans h.chg.size hgr.size, fun k h1 h2 => (hlo k h1).trans (h.chg.block k h1 h2)⟩,
    h.nums.keep hgr.size (hlo b hbs) (fun h0 a ha => hlo _ (h.nums_lo h0 a ha)),
    h.f.keepAt (fun k e => hgr.block k (h.f.lt k e).2 (fun e2 => h.ne k e e2.symm)), hown, fun k hk e => ?_, h.nums_lo⟩
  have e' : g = k := by simpa [Value.ownBlock] using e
  subst e'
  rcases hloc with h1 | h1
  · exact h.ne _ hk h1
  · have := (h.f.lt _ hk).2; omega
/-- The fragment has grown. -/
theorem GRel.pushF (h : GRel b pn cn L w f o m vf vo W) {f' : List It} {g n cap : Nat} (hown : OwnI w.heap.size f' (.slice (some ⟨g, 0, none⟩) n cap) W') (hgr : W.grownBy W' vf.ownBlock) (hloc : vf.ownBlock = some g ∨ g = W.heap.size) : GRel b pn cn L w f' o m (.slice (some ⟨g, 0, none⟩) n cap) vo W' := by
  have hs : GRel b pn cn L w o f m vo vf W := ⟨h.base, h.chg, h.nums, h.o, h.f, fun k h1 h2 => h.ne k h2 h1, h.nums_lo⟩
  have hp := hs.push hown hgr hloc
  exact ⟨hp.base, hp.chg, hp.nums, hp.o, hp.f, fun k h1 h2 => hp.ne k h2 h1, hp.nums_lo⟩
/-- The fragment has been made anew. -/
theorem GRel.made (h : GRel b pn cn L w f o m vf vo W) {f' : List It} {v : Value} (hA : AccI W f' v W') : GRel b pn cn L w f' o m v vo W' := by
  have hw := h.chg.size
  have h' := h.call hA.below
  refine ⟨h'.base, h'.chg, h'.nums, ownsRow_base hA.own hw, h'.o, fun k hk e => ?_, h'.nums_lo⟩
  have h1 := (hA.own.lt k hk).1
  have h2 := (h.o.lt k e).2
  omega
theorem GRel.itsF {pf : Option Addr} {n cf : Nat} (h : GRel b pn cn L w f o m (.slice pf n cf) vo W) : n = f.length ∧ f.length ≤ cf ∧ cf ≤ maxLen ∧ Its W pf f := by
  obtain ⟨p, c, e, h1, h2, hI⟩ := h.f.its
  injection e with e1 e2 e3
  subst e1; subst e3
  exact ⟨e2, h1, h2, hI⟩
theorem GRel.itsO {po : Option Addr} {n co : Nat} (h : GRel b pn cn L w f o m vf (.slice po n co) W) : n = o.length ∧ o.length ≤ co ∧ co ≤ maxLen ∧ Its W po o := by
  obtain ⟨p, c, e, h1, h2, hI⟩ := h.o.its
  injection e with e1 e2 e3
  subst e1; subst e3
  exact ⟨e2, h1, h2, hI⟩
theorem its_one {W : World} {B : Nat} {x : It} (h : W.heap[B]? = some (.cells #[.int .i64 x.k, .string x.t, .int .i64 x.id] 62 (0, 0))) : Its W (some ⟨B, 0, none⟩) [x] := fun _ => by
  refine ⟨_, rfl, (Array.getElem?_eq_some_iff.1 h).1, fun i hi => ?_⟩
  have hi0 : i = 0 := by simp at hi; exact hi
  subst hi0
  have e : ∀ n, (⟨B, 0, none⟩ : Addr).add n = ⟨B, n, none⟩ := fun n => by unfold Addr.add; split <;> simp_all
  rw [e, e, e]
  exact ⟨by rw [Lib.cell_of_heap h]; rfl, by rw [Lib.cell_of_heap h]; rfl, by rw [Lib.cell_of_heap h]; rfl⟩
theorem cells_item {W : World} {B : Nat} {k id : Int} {t : ByteArray} (h : W.heap[B]? = some (.cells #[.int .i64 k, .string t, .int .i64 id] 62 (0, 0))) : W.cell? ⟨B, 0, none⟩ = some (.int .i64 k) ∧ W.cell? ⟨B, 1, none⟩ = some (.string t) ∧ W.cell? ⟨B, 2, none⟩ = some (.int .i64 id) ∧ W.frozen? ⟨B, 0, none⟩ = false ∧ W.frozen? ⟨B, 1, none⟩ = false ∧ W.frozen? ⟨B, 2, none⟩ = false :=
  ⟨by rw [Lib.cell_of_heap h]; rfl, by rw [Lib.cell_of_heap h]; rfl, by rw [Lib.cell_of_heap h]; rfl, Lib.frozen_of_heap h 0, Lib.frozen_of_heap h 1, Lib.frozen_of_heap h 2⟩
theorem heap_set3 {W : World} {B : Nat} {a b c a' b' c' : Value} (h : W.heap[B]? = some (.cells #[a, b, c] 62 (0, 0))) : (((W.setCell ⟨B, 0, none⟩ a').setCell ⟨B, 1, none⟩ b').setCell ⟨B, 2, none⟩ c').heap[B]? = some (.cells #[a', b', c'] 62 (0, 0)) := by
  have h1 := setCell_heap W B 0 _ 62 a' h
  have h2 := setCell_heap _ B 1 _ 62 b' h1
  have h3 := setCell_heap _ B 2 _ 62 c' h2
  exact h3
theorem set3_size (W : World) (B : Nat) (a b c : Value) : (((W.setCell ⟨B, 0, none⟩ a).setCell ⟨B, 1, none⟩ b).setCell ⟨B, 2, none⟩ c).heap.size = W.heap.size := by simp [World.setCell]
theorem GRel.set3 (h : GRel b pn cn L w f o m vf vo W) (B : Nat) (hB : w.heap.size ≤ B) (hf : vf.ownBlock ≠ some B) (ho : vo.ownBlock ≠ some B) (a' b' c' : Value) : GRel b pn cn L w f o m vf vo (((W.setCell ⟨B, 0, none⟩ a').setCell ⟨B, 1, none⟩ b').setCell ⟨B, 2, none⟩ c') :=
  ((h.set B hB hf ho 0 a').set B hB hf ho 1 b').set B hB hf ho 2 c'
theorem GRel.atO {po : Option Addr} {n co : Nat} (h : GRel b pn cn L w f o m vf (.slice po n co) W) (h0 : 0 < o.length) : ∃ g, po = some ⟨g, 0, none⟩ := by
  rcases h.o.2 with ⟨_, hz⟩ | ⟨g, cap, cur, hv, _⟩
  · omega
  · injection hv with e1; exact ⟨g, e1⟩
theorem addr3 (g k : Nat) : (⟨g, 0, none⟩ : Addr).add k = ⟨g, k, none⟩ := by unfold Addr.add; split <;> simp_all
theorem its_at {g : Nat} {l : List It} (h : Its W (some ⟨g, 0, none⟩) l) (i : Nat) (hi : i < l.length) : g < W.heap.size ∧ W.cell? ⟨g, i * 3, none⟩ = some (.int .i64 (l[i]'hi).k) ∧ W.cell? ⟨g, i * 3 + 1, none⟩ = some (.string (l[i]'hi).t) ∧ W.cell? ⟨g, i * 3 + 2, none⟩ = some (.int .i64 (l[i]'hi).id) := by
  obtain ⟨a, e, hlt, hc⟩ := h (by omega)
  cases e
  obtain ⟨c0, c1, c2⟩ := hc i hi
  rw [addr3] at c0 c1 c2
  exact ⟨hlt, c0, c1, c2⟩
theorem its_take {p : Option Addr} {l : List It} (h : Its W p l) (k : Nat) : Its W p (l.take k) := fun h0 => by
  have hlt : 0 < l.length := by rw [List.length_take] at h0; omega
  obtain ⟨a, e, hb, hc⟩ := h hlt
  refine ⟨a, e, hb, fun i hi => ?_⟩
  rw [List.length_take] at hi
  have := hc i (by omega)
  rw [List.getElem_take]; exact this
theorem its_drop {g : Nat} {l : List It} (h : Its W (some ⟨g, 0, none⟩) l) (k : Nat) : Its W (some ⟨g, k * 3, none⟩) (l.drop k) := fun h0 => by
  rw [List.length_drop] at h0
  obtain ⟨a, e, hb, hc⟩ := h (by omega)
  cases e
  refine ⟨_, rfl, hb, fun i hi => ?_⟩
  rw [List.length_drop] at hi
  have := hc (k + i) (by omega)
  have e : ∀ n, (⟨g, k * 3, none⟩ : Addr).add n = ⟨g, k * 3 + n, none⟩ := fun n => by unfold Addr.add; split <;> simp_all
  rw [List.getElem_drop, e, e, e]
  rw [addr3, addr3, addr3] at this
  rw [show k * 3 + (i * 3) = (k + i) * 3 by omega, show k * 3 + (i * 3 + 1) = (k + i) * 3 + 1 by omega, show k * 3 + (i * 3 + 2) = (k + i) * 3 + 2 by omega]
  exact this
theorem its_set3 {p : Option Addr} {l : List It} (h : Its W p l) (B : Nat) (hp : ∀ a, p = some a → a.block ≠ B) (a' b' c' : Value) : Its (((W.setCell ⟨B, 0, none⟩ a').setCell ⟨B, 1, none⟩ b').setCell ⟨B, 2, none⟩ c') p l :=
  h.keep (by rw [set3_size]; exact Nat.le_refl _) (fun a ha => by
    have := hp a ha
    rw [Below.heap_setCell _ _ _ _ this, Below.heap_setCell _ _ _ _ this, Below.heap_setCell _ _ _ _ this])
theorem own_ne {go n c B : Nat} (h : (Value.slice (some ⟨go, 0, none⟩) n c).ownBlock ≠ some B) : ∀ a, some (⟨go, 0, none⟩ : Addr) = some a → a.block ≠ B := fun a e e2 => by
  cases e; exact h (by simpa [Value.ownBlock] using e2)
theorem Its.two {p : Option Addr} {l : List It} (h : Its W p l) : Its W.drew.drew p l := h
theorem its_empty {p : Option Addr} {l : List It} (h : l.length = 0) : Its W p l := fun h0 => by omega
/-- The open tags have been made anew. -/
theorem GRel.madeO (h : GRel b pn cn L w f o m vf vo W) {o' : List It} {v : Value} (hA : AccI W o' v W') : GRel b pn cn L w f o' m vf v W' := by
  have hw := h.chg.size
  have h' := h.call hA.below
  refine ⟨h'.base, h'.chg, h'.nums, h'.f, ownsRow_base hA.own hw, fun k hk e => ?_, h'.nums_lo⟩
  have h1 := (hA.own.lt k e).1
  have h2 := (h.f.lt k hk).2
  omega
/-- append of a whole slice of items at a step of a region that draws its order. -/
theorem step_cat {ops : Array Oper} {o : Oper} {a : Act} {K : Act → World → Prop} {Q : Exit → Act → World → Prop} {EE : Prop} (w : World) (hgd : o.guard = none) (s x : Operand) (ho : o.op = .call { callee := .builtin .append, args := #[s, x], argTypes := #[24, 24] })
    (w0 : World) (L M : List It) (v : Value) (hs : a.eval s = v) (h : AccI w0 L v w) (p : Option Addr) (m c : Nat) (hx : a.eval x = .slice p m c) (hm : m = M.length) (hM : Its w p M) (hl : (L.length + M.length) * 32 ≤ 140737488355328)
    (hK : ∀ v' w', AccI w0 (L ++ M) v' w' → K (a.put o.dst v') w') : if Region.wanted o (yielded ops a.tmps) = true then Oper.wp Tryz.prog o a w K Q else EE := by
  subst hm
  obtain ⟨v', w', hr, h1, h2⟩ := append_its w o.type w0.heap.size L M v p c h.own hM h.below.size hl
  have hw : Region.wanted o (yielded ops a.tmps) = true := by simp [Region.wanted, hgd]
  rw [if_pos hw]
  exact Lib.wp_append_run w s x 24 24 ho v _ hs hx v' w' hr (hK v' w' (h.more h2 h1))
/-- The fragment behind the closing tags of the last open ones. -/
def closeF (f o : List It) (i : Nat) : List It := f ++ (o.drop i).reverse.map closeI
theorem its_held2 {W : World} {g a b : Nat} {t : ByteArray} {id : Int} (h : W.cell? ⟨g, a, none⟩ = some (.string t) ∧ W.cell? ⟨g, b, none⟩ = some (.int .i64 id)) (ob : Obj) : (W.alloc ob).cell? ⟨g, a, none⟩ = some (.string t) ∧ (W.alloc ob).cell? ⟨g, b, none⟩ = some (.int .i64 id) := by
  have hb := blw (Below.refl _ W) ob
  exact ⟨by rw [hb.cell (p := ⟨g, a, none⟩) (World.block_lt_of_cell? W _ h.1)]; exact h.1, by rw [hb.cell (p := ⟨g, b, none⟩) (World.block_lt_of_cell? W _ h.2)]; exact h.2⟩
theorem closeF_all (f o : List It) : closeF f o o.length = f := by unfold closeF; simp
theorem closeF_none (f o : List It) : closeF f o 0 = f ++ o.reverse.map closeI := by unfold closeF; simp
theorem closeF_next (f o : List It) (j : Nat) (h : j < o.length) : closeF f o j = closeF f o (j + 1) ++ [closeI (o[j]'h)] := by
  unfold closeF
  rw [List.drop_eq_getElem_cons h, List.reverse_cons, List.map_append, List.append_assoc]; rfl
theorem closeF_len (f o : List It) (i : Nat) : (closeF f o i).length ≤ f.length + o.length := by unfold closeF; rw [List.length_append, List.length_map, List.length_reverse, List.length_drop]; omega
end
end Go.Proofs.YtphkpokoeaagfaaGreatDoor
