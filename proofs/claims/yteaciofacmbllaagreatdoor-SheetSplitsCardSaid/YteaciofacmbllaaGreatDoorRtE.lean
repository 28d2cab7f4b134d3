/- A call that leaves the world alone may be taken first in a region that draws its order. Parts in memory; what Split needs of strconv.Itoa. The contract of Split. The contract of known, the fixed example of the laws. -/
import Derived.Test.YteaciofacmbllaaGreatDoorFrg
import Derived.Deep.RegionHeld3
import Derived.Test.YteaciofacmbllaaGreatDoorRtD
import Derived.Test.YteaciofacmbllaaGreatDoorRtC
import Derived.Test.YteaciofacmbllaaGreatDoorShelfI
import Derived.Test.YteaciofacmbllaaGreatDoorFst
import Derived.Handy
import Derived.WalkMore
import Derived.Test.YteaciofacmbllaaGreatDoorPrt
namespace Go.Proofs.YteaciofacmbllaaGreatDoor
set_option linter.unusedVariables false

section
variable {P : Program} {ops : Array Oper} {Q : Exit → Act → World → Prop} {md : Region.Mode} {S : World → Prop}
/-- In this state the operation calls a function that answers v and leaves every world that meets S as it was. -/
def QuietAt (P : Program) (ops : Array Oper) (S : World → Prop) (o : Oper) (v : Value) (a : Act) : Prop :=
  Region.wanted o (yielded ops a.tmps) = true ∧ ∀ w, S w → ∃ f args, (execOp a.eval o).run P w = .ok (.enter f args) w ∧ Calls P f args w (fun e w' => e = .returned v ∧ w' = w)
theorem eval_of_tmps {a b : Act} (h : a.tmps = b.tmps) : a.eval = b.eval := by
  funext x
  cases x <;> simp [Act.eval, h]
/-- Behind an operation the state has turned in its own temporary alone. -/
theorem wpOp_shape {j : Nat} {oj : Oper} (hj : ops[j]? = some oj) {K : Act → World → Prop} {a : Act} {w : World} (h : wpOp P ops Q j K a w) : wpOp P ops Q j (fun a' w' => (∃ u, a'.tmps = (a.put oj.dst u).tmps) ∧ K a' w') a w := by
  unfold wpOp at h ⊢
  simp only [hj] at h ⊢
  by_cases hw : Region.wanted oj (yielded ops a.tmps) = true
  · rw [if_pos hw] at h ⊢
    refine h.imp (fun h => ?_) id
    unfold Oper.wp at h ⊢
    generalize (execOp a.eval oj).run P w = r at h ⊢
    cases r with
    | halt x w' => cases x <;> simp only [Oper.upon] at h ⊢ <;> exact h
    | ok n w' =>
      cases n <;> simp only [Oper.upon] at h ⊢
      case value u => exact ⟨⟨u, rfl⟩, h⟩
      case skip => exact ⟨⟨undef, rfl⟩, h⟩
      case defer d => exact ⟨⟨undef, by cases hd : oj.dst <;> simp [Act.put]⟩, h⟩
      case enter f args =>
        refine Calls.mono h fun e w'' he => ?_
        cases e with
        | returned u => exact ⟨⟨u, rfl⟩, he⟩
        | panicked c => exact he
        | outgrown => exact he
      case row r args => exact Rows.mono h fun u w'' he => ⟨⟨u, rfl⟩, he⟩
  · rw [if_neg hw] at h ⊢
    exact ⟨⟨undef, rfl⟩, h⟩
theorem QuietAt.run {i : Nat} {o : Oper} {v : Value} {a : Act} (hi : ops[i]? = some o) (hy : QuietAt P ops S o v a) {K : Act → World → Prop} {w : World} (hS : S w) (h : K (a.put o.dst v) w) : wpOp P ops Q i K a w := by
  obtain ⟨hw, hv⟩ := hy
  obtain ⟨f, args, hr, hc⟩ := hv w hS
  unfold wpOp
  simp only [hi]
  rw [if_pos hw]
  refine .inl ?_
  unfold Oper.wp
  rw [hr]
  exact Calls.mono hc fun e w' ⟨he, hw'⟩ => by subst he; subst hw'; exact h
theorem wpAnyH_quiet0 {i : Nat} {oi : Oper} {v : Value} (hi : ops[i]? = some oi) (hsel : ∀ (j : Nat) (o : Oper) cs b, ops[j]? = some o → o.op ≠ .select cs b) (hQ : ∀ c a w, Q (.panic c) (a.put oi.dst v) w → Q (.panic c) a w) :
    ∀ (fuel : Nat) (listed : Array Bool) (a : Act) (w : World), (∀ j oj, ops[j]? = some oj → j ≠ i → listed.getD j true = false → (∀ e ∈ oj.after, Region.binds md e = true → e.on ≠ i) → oi.apart ops oj = true) →
      i ∈ Region.ready md ops listed → QuietAt P ops S oi v a → S w → wpAnyH P md ops Q S fuel (listed.setIfInBounds i true) (a.put oi.dst v) w → wpAnyH P md ops Q S (fuel + 1) listed a w := by
  intro fuel
  induction fuel with
  | zero =>
    intro listed a w _ hr hy hS H
    refine ⟨fun h => by rw [h] at hr; (cases hr), fun j hj => ?_⟩
    by_cases e : j = i
    · subst e; exact hy.run hi hS ⟨hS, H⟩
    · have hj' := ready_mono hj e
      rw [H.1] at hj'; cases hj'
  | succ fuel ih =>
    intro listed a w hfree hr hy hS H
    refine ⟨fun h => by rw [h] at hr; (cases hr), fun j hj => ?_⟩
    by_cases e : j = i
    · subst e; exact hy.run hi hS ⟨hS, H⟩
    obtain ⟨hun, oj, hoj, hall⟩ := mem_ready.1 hj
    have hno : ∀ e ∈ oj.after, Region.binds md e = true → e.on ≠ i := fun x hx hb he => by
      have h1 := hall x hx hb
      have h0 := (mem_ready.1 hr).1
      rw [he] at h1
      rcases Nat.lt_or_ge i listed.size with hlt | hge
      · simp [hlt] at h0 h1; rw [h0] at h1; cases h1
      · simp [Array.getElem?_eq_none hge] at h1
    have hap := hfree j oj hoj e hun hno
    obtain ⟨_, _, h3⟩ := Oper.apart_spec hap
    have h1 := wpOp_putIf (S := fun _ => False) hoj hap (fun cs b => hsel i oi cs b hi) (fun cs b => hsel j oj cs b hoj) hQ (.inl ⟨hy.1, fun _ h => h.elim⟩) (H.2 j (ready_mono hj e))
    refine wpOp_mono (fun a' w' h => ?_) (wpOp_shape hoj h1)
    obtain ⟨⟨u, hu⟩, _, hS', hW⟩ := h
    have hq : QuietAt P ops S oi v a' := by
      unfold QuietAt at hy ⊢
      rw [hu, wanted_put oi a oj.dst u h3, eval_of_tmps hu, execOp_put oi (fun cs b => hsel i oi cs b hi) a oj.dst u h3]
      exact hy
    refine ⟨hS', ih (listed.setIfInBounds j true) a' w' (fun k ok hk hki hku hkn => hfree k ok hk hki ?_ hkn) (ready_mono hr (Ne.symm e)) hq hS' ?_⟩
    · by_cases hjk : j = k
      · subst hjk; exact hun
      · rw [getD_set_ne true hjk] at hku; exact hku
    · rw [Array.setIfInBounds_comm _ _ e]; exact hW
/-- Take a quiet call first. -/
theorem wpAnyH_quiet {i : Nat} {oi : Oper} {v : Value} {fuel : Nat} {listed : Array Bool} {a : Act} {w : World} (hi : ops[i]? = some oi) (hs : Region.noSelect ops = true) (hf : Region.free md ops listed i = true) (hr : (Region.ready md ops listed).contains i = true)
    (hQ : ∀ c a w, Q (.panic c) (a.put oi.dst v) w → Q (.panic c) a w) (hy : QuietAt P ops S oi v a) (hS : S w) (h : wpAnyH P md ops Q S fuel (listed.setIfInBounds i true) (a.put oi.dst v) w) : wpAnyH P md ops Q S (fuel + 1) listed a w :=
  wpAnyH_quiet0 hi (Region.noSelect_spec hs) hQ fuel listed a w (Region.free_spec hi hf) (by simpa using hr) hy hS h
end
open Go.ChangeShapes Go.WideShapes Go.ChangeAt Go.RowKit
theorem wpAnyH_mono {P : Program} {md : Region.Mode} {ops : Array Oper} {Q : Exit → Act → World → Prop} {S S' : World → Prop} (hS : ∀ w, S' w → S w) : ∀ (fuel : Nat) (listed : Array Bool) (a : Act) (w : World), wpAnyH P md ops Q S' fuel listed a w → wpAnyH P md ops Q S fuel listed a w
  | 0, _, _, _, h => h
  | fuel + 1, _, _, _, h => ⟨h.1, fun i hi => wpOp_mono (fun a' w' h' => ⟨hS _ h'.1, wpAnyH_mono hS fuel _ a' w' h'.2⟩) (h.2 i hi)⟩
theorem carry_next {W W' : World} {a b : Nat} {o : Obj} (h : W.heap[a]? = some o) (hg : W.grownBy W' (some b)) (hne : a ≠ b) : W'.heap[a]? = some o := (hg.block a (Array.getElem?_eq_some_iff.1 h).1 (fun e => hne (Option.some.inj e))).trans h
theorem carry_alloc {W : World} {a : Nat} {o : Obj} (h : W.heap[a]? = some o) (o' : Obj) : (W.alloc o').heap[a]? = some o := (Lib.alloc_old W o' a (Array.getElem?_eq_some_iff.1 h).1).trans h
theorem heap_at {W : World} {n : Nat} (h : W.heap.size = n) (o : Obj) : (W.alloc o).heap[n]? = some o := by rw [← h]; exact heap_alloc_new W o
end Go.Proofs.YteaciofacmbllaaGreatDoor
namespace Go.Proofs.YteaciofacmbllaaGreatDoor
open Go.ChangeShapes Go.WideShapes Go.ChangeAt Go.RowKit
set_option linter.unusedVariables false
set_option linter.unusedSimpArgs false
set_option maxRecDepth 100000

def penc (x : Pt) : List Value := [.bool x.u, .string x.key, .string x.raw]
theorem infoP : (Tryz.prog.info? 56).map (fun i => (i.zero, i.size, i.bytes)) = some (some (.agg #[.bool false, .string .empty, .string .empty]), 3, 40) := by kernel_rfl
theorem eP : El 47 56 3 40 (.agg #[.bool false, .string .empty, .string .empty]) penc :=
  ⟨Tryz.underlying47, info_parts infoP, rfl, by omega, fun _ => rfl, fun x u hu => by simp [penc] at hu; rcases hu with rfl | rfl | rfl <;> rfl⟩
def Pts (W : World) (p : Option Addr) (l : List Pt) : Prop :=
  0 < l.length → ∃ a, p = some a ∧ a.block < W.heap.size ∧ ∀ i (h : i < l.length), W.cell? (a.add (i * 3)) = some (.bool (l[i]'h).u) ∧ W.cell? (a.add (i * 3 + 1)) = some (.string (l[i]'h).key) ∧ W.cell? (a.add (i * 3 + 2)) = some (.string (l[i]'h).raw)
theorem Pts.call {W w1 : World} {p : Option Addr} {l : List Pt} (h : Pts W p l) (hb : Below W.heap.size W w1) : Pts w1 p l := fun h0 => by
  obtain ⟨a, hp, hlt, hc⟩ := h h0
  refine ⟨a, hp, Nat.lt_of_lt_of_le hlt hb.size, fun i hi => ?_⟩
  obtain ⟨c0, c1, c2⟩ := hc i hi
  exact ⟨by rw [hb.cell (p := a.add (i * 3)) (by rw [add_block]; exact hlt)]; exact c0, by rw [hb.cell (p := a.add (i * 3 + 1)) (by rw [add_block]; exact hlt)]; exact c1, by rw [hb.cell (p := a.add (i * 3 + 2)) (by rw [add_block]; exact hlt)]; exact c2⟩
theorem Pts.nil (W : World) (p : Option Addr) : Pts W p [] := fun h => by cases h
theorem Pts.row {W : World} {p : Option Addr} {l : List Pt} (h : Pts W p l) (i : Nat) (hi : i < l.length) : ∃ a, p = some a ∧ a.block < W.heap.size ∧
    W.cell? (a.add (i * 3)) = some (.bool (l[i]'hi).u) ∧ W.cell? ⟨(a.add (i * 3)).block, (a.add (i * 3)).off + 1, none⟩ = some (.string (l[i]'hi).key) ∧ W.cell? ⟨(a.add (i * 3)).block, (a.add (i * 3)).off + 2, none⟩ = some (.string (l[i]'hi).raw) := by
  obtain ⟨a, hp, hlt, hc⟩ := h (by omega)
  obtain ⟨c0, c1, c2⟩ := hc i hi
  exact ⟨a, hp, hlt, c0, by rw [add_next _ _ _ (by omega)]; exact c1, by rw [add_next _ _ _ (by omega)]; exact c2⟩
theorem pcells_at (l : List Pt) : ∀ i (h : i < l.length), (cellsOf penc l)[i * 3]? = some (.bool (l[i]'h).u) ∧ (cellsOf penc l)[i * 3 + 1]? = some (.string (l[i]'h).key) ∧ (cellsOf penc l)[i * 3 + 2]? = some (.string (l[i]'h).raw) := by
  induction l with
  | nil => intro i h; cases h
  | cons x t ih =>
    intro i h
    have e : cellsOf penc (x :: t) = .bool x.u :: .string x.key :: .string x.raw :: cellsOf penc t := rfl
    rw [e]
    cases i with
    | zero => exact ⟨rfl, rfl, rfl⟩
    | succ j =>
      have := ih j (by simp at h; omega)
      rw [show (j + 1) * 3 = j * 3 + 1 + 1 + 1 from by omega]
      exact this
theorem OwnL.pts {base : Nat} {L : List Pt} {v : Value} {wr : World} (h : OwnL 56 3 penc base L v wr) : ∃ p cap, v = .slice p L.length cap ∧ L.length ≤ cap ∧ cap ≤ maxLen ∧ Pts wr p L := by
  rcases h.2 with ⟨hv, h0⟩ | ⟨g, cap, cur, hv, hg, hh, hn, hm, hs, ht⟩
  · have : L = [] := List.length_eq_zero_iff.1 h0
    subst this
    exact ⟨none, 0, hv, Nat.le_refl _, Nat.zero_le _, Pts.nil _ _⟩
  · refine ⟨some ⟨g, 0, none⟩, cap, hv, hn, hm, fun _ => ⟨_, rfl, ?_, fun i hi => ?_⟩⟩
    · rcases Nat.lt_or_ge g wr.heap.size with hlt | hge
      · exact hlt
      · rw [Array.getElem?_eq_none hge] at hh; cases hh
    · have hc := World.ownsRow.cells h (g := g) (by rw [hv]; rfl)
      obtain ⟨c0, c1, c2⟩ := pcells_at L i hi
      exact ⟨hc _ _ c0, hc _ _ c1, hc _ _ c2⟩
/-- append of elements that lie in a block of their own. -/
theorem wpl_appm {α : Type} {t e size bytes : Nat} {z : Value} {enc : α → List Value} (E : El t e size bytes z enc) (w : World) {ops : Array Oper} {rest : List Oper} {o : Oper} {a : Act} {Q : Exit → Act → World → Prop} (hg : o.guard = none) (s x : Operand)
    (ho : o.op = .call { callee := .builtin .append, args := #[s, x], argTypes := #[t, t] }) (base : Nat) (L : List α) (v : Value) (hs : a.eval s = v) (h : OwnL e size enc base L v w) (hbase : base ≤ w.heap.size) (ys : List α) (m B : Nat) (cs : Array Value) (hm : ys.length = m) (hm0 : 0 < m)
    (hx : a.eval x = .slice (some ⟨B, 0, none⟩) m m) (hB : w.heap[B]? = some (.cells cs e (0, 0))) (hcs : cs.toList = cellsOf enc ys) (hlen : (L.length + m) * bytes ≤ 140737488355328) (hlen' : L.length + m ≤ maxLen)
    (hK : ∀ g cap w', OwnL e size enc base (L ++ ys) (.slice (some ⟨g, 0, none⟩) (L.length + m) cap) w' → w.grownBy w' v.ownBlock → wpList Tryz.prog ops Q rest (a.put o.dst (.slice (some ⟨g, 0, none⟩) (L.length + m) cap)) w') : wpList Tryz.prog ops Q (o :: rest) a w := by
  obtain ⟨i, hi, hz0, hz1, hz2⟩ := E.hi
  refine wpList_append_lies w hg s x t ho base e i z size bytes E.ht hi hz0 hz1 hz2 E.hzs E.hsz v L.length (cellsOf enc L) hs h ⟨B, 0, none⟩ m m (cellsOf enc ys) hx (by rw [cellsOf_len E, hm]) ?_ (fun u hu => ?_) hm0 hlen' hlen hbase _ rfl ?_
  · rw [← hcs]; exact World.news_of_block hB
  · unfold cellsOf at hu; rw [List.mem_flatMap] at hu; obtain ⟨y, _, hy⟩ := hu; exact E.one y u hy
  · intro g cap w' h2 h3 h4 h5
    refine hK _ _ _ ?_ h3
    unfold OwnL; rw [List.length_append, hm, show cellsOf enc (L ++ ys) = cellsOf enc L ++ cellsOf enc ys from by unfold cellsOf; rw [List.flatMap_append]]; exact h2
/-- What Split answers. -/
def EndS (R : List Pt × Nat × Int) (w : World) (e : Ending) (w' : World) : Prop := ∃ p c, e = .returned (.tuple #[.slice p R.1.length c, .int .i64 (R.2.1 : Nat), .int .i64 R.2.2]) ∧ R.1.length ≤ c ∧ c ≤ maxLen ∧ Pts w' p R.1 ∧ Below w.heap.size w w'
theorem decP_at {el : ElF} (h : ElOk el) : ∀ m f cs p d s, (decP el m f cs p d s).2.2.1 ≤ p + s.length := by
  intro m
  induction m with
  | zero => intro f cs p d s; exact Nat.zero_le _
  | succ m ih =>
    intro f cs p d s
    unfold decP
    by_cases hs : s = []
    · rw [if_pos hs]; exact Nat.zero_le _
    · rw [if_neg hs]
      cases he : el s with
      | none => show p ≤ _; omega
      | some y =>
        obtain ⟨o, k⟩ := y
        have hk := h.take s o k he
        cases o with
        | none =>
          have := ih f cs (p + k) d (s.drop k)
          rw [List.length_drop] at this
          exact Nat.le_trans this (by omega)
        | some x =>
          dsimp only
          split
          · show p ≤ _; omega
          · have := ih (normS f x) (cs ++ [d]) (p + k) (p + k) (s.drop k)
            rw [List.length_drop] at this
            exact Nat.le_trans this (by omega)
theorem dec_at {el : ElF} (h : ElOk el) (s : List UInt8) : (dec el s).2.2.1 ≤ s.length := by
  have := decP_at h s.length [] [] 0 0 s
  rw [Nat.zero_add] at this; exact this
theorem step_appm {α : Type} {t e size bytes : Nat} {z : Value} {enc : α → List Value} (E : El t e size bytes z enc) (w : World) {ops : Array Oper} {o : Oper} {a : Act} {K : Act → World → Prop} {Q : Exit → Act → World → Prop} {EE : Prop} (hg : o.guard = none) (s x : Operand)
    (ho : o.op = .call { callee := .builtin .append, args := #[s, x], argTypes := #[t, t] }) (base : Nat) (L : List α) (v : Value) (hs : a.eval s = v) (h : OwnL e size enc base L v w) (hbase : base ≤ w.heap.size) (ys : List α) (m B : Nat) (cs : Array Value) (hm : ys.length = m) (hm0 : 0 < m)
    (hx : a.eval x = .slice (some ⟨B, 0, none⟩) m m) (hB : w.heap[B]? = some (.cells cs e (0, 0))) (hcs : cs.toList = cellsOf enc ys) (hlen : (L.length + m) * bytes ≤ 140737488355328) (hlen' : L.length + m ≤ maxLen)
    (hK : ∀ g cap w', OwnL e size enc base (L ++ ys) (.slice (some ⟨g, 0, none⟩) (L.length + m) cap) w' → w.grownBy w' v.ownBlock → (v.ownBlock = some g ∨ g = w.heap.size) → K (a.put o.dst (.slice (some ⟨g, 0, none⟩) (L.length + m) cap)) w') :
    if Region.wanted o (yielded ops a.tmps) = true then Oper.wp Tryz.prog o a w K Q else EE := by
  obtain ⟨i, hi, hz0, hz1, hz2⟩ := E.hi
  refine step_append_lies w hg s x t ho base e i z size bytes E.ht hi hz0 hz1 hz2 E.hzs E.hsz v L.length (cellsOf enc L) hs h ⟨B, 0, none⟩ m m (cellsOf enc ys) hx (by rw [cellsOf_len E, hm]) ?_ (fun u hu => ?_) hm0 hlen' hlen hbase _ rfl ?_
  · rw [← hcs]; exact World.news_of_block hB
  · unfold cellsOf at hu; rw [List.mem_flatMap] at hu; obtain ⟨y, _, hy⟩ := hu; exact E.one y u hy
  · intro g cap w' h2 h3 h4 h5
    refine hK _ _ _ ?_ h3 h4
    unfold OwnL; rw [List.length_append, hm, show cellsOf enc (L ++ ys) = cellsOf enc L ++ cellsOf enc ys from by unfold cellsOf; rw [List.flatMap_append]]; exact h2
/-- strconv.Itoa writes the numbers up to N, wherever only newer blocks have turned. -/
def ItoaOk (N : Nat) (w : World) : Prop := ∀ (r : Nat) (W : World), r ≤ N → Below w.heap.size w W → Calls Tryz.prog 32 #[.int .i64 (r : Int)] W fun e w' => e = .returned (.string (keyR r)) ∧ Below W.heap.size W w'
theorem ItoaOk.small {N : Nat} (h : N < 100) (w : World) : ItoaOk N w := fun r W hr _ => by
  refine (Tryz.strconv_Itoa_small r (by omega) W).mono ?_
  rintro e w' ⟨rfl, rfl⟩
  exact ⟨rfl, Below.refl _ _⟩
theorem below_grow9 (w : World) (k : Nat) (os : Array Obj) : Below w.heap.size w (Go.Sort.grow (w.drewN k) os) :=
  ⟨rfl, rfl, rfl, by simp [Go.Sort.grow], fun i hi => by simp [Go.Sort.grow, Array.getElem?_append, hi]⟩
theorem itoa_nat (r : Nat) : (⟨(Lib.itoa (r : Int)).toArray⟩ : ByteArray) = keyR r := by
  unfold Lib.itoa keyR bsL
  rw [if_neg (by omega), Int.toNat_natCast]
theorem ItoaOk.of {N : Nat} {w : World} (h : ∀ W, Below w.heap.size w W → Lib.TabIs Tryz.prog W "internal/strconv.uint64pow10" .u64 Lib.pow10Tab) (hN : N ≤ 1000000000000) : ItoaOk N w := fun r W hr hb => by
  refine (Tryz.strconv_Itoa (r : Int) (by omega) (by omega) W (h W hb)).mono ?_
  rintro e w' ⟨rfl, k, os, rfl⟩
  exact ⟨by rw [itoa_nat], below_grow9 W k os⟩
theorem dec_zero {el : ElF} (h : ElOk el) (s : List UInt8) (hz : (dec el s).2.2.2 = 0) : (dec el s).2.2.1 = 0 := by
  obtain ⟨ws, t, _, _, _, e, _⟩ := words_dec h s.length [] [] 0 0 s (Nat.le_refl _) hz
  unfold dec; rw [e]
end Go.Proofs.YteaciofacmbllaaGreatDoor
namespace Go.Proofs.YteaciofacmbllaaGreatDoor
open Go.ChangeShapes Go.WideShapes Go.ChangeAt Go.RowKit
set_option linter.unusedVariables false
set_option linter.unusedSimpArgs false
set_option maxRecDepth 100000

/-- What the call holds, wherever it is. -/
structure SpW (s : ByteArray) (w : World) (B f c q : Nat) (ps : List Pt) (vp : Value) (W : World) : Prop where
  own : OwnL 56 3 penc (B + 1) ps vp W
  scn : Scn W w.heap.size s q
  hdr : hV W B f c
  bel : Below w.heap.size w W
  sep : w.heap.size < B
section
variable {s : ByteArray} {w W W' : World} {B f c q : Nat} {ps : List Pt} {vp : Value}
theorem SpW.call (h : SpW s w B f c q ps vp W) (hb : Below W.heap.size W W') : SpW s w B f c q ps vp W' := ⟨h.own.call hb, h.scn.call hb, h.hdr.call hb, BelowOn h.bel hb, h.sep⟩
theorem SpW.sc (h : SpW s w B f c q ps vp W) {q' : Nat} (ho : Only (fun i => i = w.heap.size) W W') (hs : Scn W' w.heap.size s q') : SpW s w B f c q' ps vp W' :=
  ⟨h.own.keep ho.size (fun j hj hjl => ho.block j hjl (fun e => by have e : j = w.heap.size := e; have := h.sep; omega)), hs, h.hdr.only ho (fun e => by have e : B = w.heap.size := e; have := h.sep; omega), only_sc ho h.bel (Nat.le_refl _), h.sep⟩
theorem SpW.app (h : SpW s w B f c q ps vp W) {ps' : List Pt} {vp' : Value} (hg : W.grownBy W' vp.ownBlock) (ho : OwnL 56 3 penc (B + 1) ps' vp' W') : SpW s w B f c q ps' vp' W' :=
  ⟨ho, h.scn.same (hg.block _ h.scn.lt (fun e => by have := (h.own.lt _ e.symm).1; have := h.sep; omega)), (hg.block _ h.hdr.lt (fun e => by have := (h.own.lt _ e.symm).1; omega)).trans h.hdr, h.bel.grown hg h.bel.size (fun j hj => by have := (h.own.lt _ hj).1; have := h.sep; omega), h.sep⟩
end
theorem SpW.drew {s : ByteArray} {w : World} {B f c q : Nat} {ps : List Pt} {vp : Value} {W : World} (h : SpW s w B f c q ps vp W) : SpW s w B f c q ps vp W.drew := h.call (Below.refl _ _).drew
theorem fV.drew {W : World} {B : Nat} {q : Bool} {a : Int} {r : ByteArray} (h : fV W B q a r) : fV W.drew B q a r := h
/-- What holds at the head of a record. -/
structure SpO (s : ByteArray) (R : List Pt × Nat × Int) (w : World) (B f c p a r : Nat) (ps : List Pt) (vp : Value) (W : World) : Prop where
  st : SpW s w B f c p ps vp W
  eqn : recH s f c ps a p r = R
  le : p ≤ s.size
  fa : a ≤ p
  cnt : r ≤ p + 1
  few : ps.length ≤ 2 * p
/-- What holds at the head of a field. -/
structure SpI (s : ByteArray) (R : List Pt × Nat × Int) (w : World) (B f c p a start n r : Nat) (ps : List Pt) (vp : Value) (W : World) : Prop where
  st : SpW s w B f c p ps vp W
  eqn : recS s f c ps a p start n r = R
  le : p ≤ s.size
  fa : a ≤ p
  cnt : r ≤ start + 1
  few : ps.length ≤ 2 * p
  sm : start < s.size ∧ n ≤ p
theorem noGoto_exit (Q : Exit → Act → World → Prop) (i : Nat) (a : Act) (w : World) : Exit.noGoto Q (Exit.exit i) a w = Q (Exit.exit i) a w := rfl
theorem EndS.no {R : List Pt × Nat × Int} {w w' : World} {q : Nat} {z : Int} (h : R = ([], q, z)) (hb : Below w.heap.size w w') : EndS R w (.returned (.tuple #[.slice none 0 0, .int .i64 q, .int .i64 z])) w' :=
  ⟨none, 0, by rw [h]; rfl, by rw [h]; exact Nat.le_refl _, Nat.zero_le _, by rw [h]; exact Pts.nil _ _, hb⟩
theorem EndS.no' {R : List Pt × Nat × Int} {w w' : World} {q : Nat} {z q' : Int} (h : R = ([], q, z)) (hq : q' = (q : Int)) (hb : Below w.heap.size w w') : EndS R w (.returned (.tuple #[.slice none 0 0, .int .i64 q', .int .i64 z])) w' := by
  subst hq; exact EndS.no h hb
theorem hdr_small {s : ByteArray} : ∀ (m p n t col : Nat) (f tx c nx : Nat), s.size - p < m → p ≤ s.size → n ≤ p → col ≤ n → hdrS s p n t col = .ok f tx c nx → f ≤ s.size + 1 ∧ c ≤ s.size + 1 := by
  intro m
  induction m with
  | zero => intro p n t col f tx c nx h; omega
  | succ m ih =>
    intro p n t col f tx c nx h hp hn hc he
    cases hf : fldS (restD s p) with
    | none => rw [hdr_bad hp hf] at he; cases he
    | some x =>
      have hx := fld_at hf hp
      cases hr : endsR s (p + x.size)
      · rw [hdr_more hp hf hr] at he
        have hlt := endsR_lt hr
        exact ih _ _ _ _ _ _ _ _ (by omega) (by omega) (by omega) (by split <;> omega) he
      · rw [hdr_end hp hf hr] at he
        injection he with e1 e2 e3 e4
        exact ⟨by omega, by rw [← e3]; split <;> omega⟩
set_option maxHeartbeats 6400000 in
theorem split_any (s : ByteArray) (w : World) (hs : s.size ≤ 999999999) (hIt : ItoaOk (s.size + 1) w) : Calls Tryz.prog 16 #[.string s] w (EndS (splS s) w) := by
  by_cases hbig : 65536 < s.size
  case pos =>
    have HX := Lib.hid (splS_long hbig)
    have hbI : (65536 : Int) < (s.size : Int) := by omega
    go_enter Tryz.func16, Tryz.ntmps16
    go_wp2_with fail
    go_step3
    go_wp2_with fail
    rw [Exit.noGoto_ret]
    go_ret3
    exact EndS.no HX.out (Below.refl _ _)
  obtain ⟨R, hR⟩ : ∃ R, splS s = R := ⟨_, rfl⟩
  have hsp := splS_of (D := s) (by omega)
  have hsz : s.size ≤ 65536 := by omega
  have hsm := fun f tx c nx => hdr_small (s := s) (s.size + 1) 0 0 0 0 f tx c nx (by omega) (Nat.zero_le _) (Nat.le_refl _) (Nat.le_refl _)
  rw [hR] at hsp ⊢
  clear hR hs
  have HSC := Lib.hid (heap_alloc_new w (.cells #[.string s, .int .i64 ((0 : Nat) : Int)] 72))
  have hB0 := blw (Below.refl w.heap.size w) (.cells #[.string s, .int .i64 ((0 : Nat) : Int)] 72)
  have HH := Lib.hid (fun W (hS : Scn W w.heap.size s 0) => readheader_any w.heap.size s W hS (by omega))
  have HIT := Lib.hid hIt
  have HM := Lib.hid (fun q W (h : Scn W w.heap.size s q) (hq : q ≤ s.size) => more_any w.heap.size q s W h (by omega) (by omega))
  have HF := Lib.hid (fun p W (hS : Scn W w.heap.size s p) (hp : p ≤ s.size) => readfield_any w.heap.size p s W hS (by omega) hp)
  have HE := Lib.hid (fun p W (hS : Scn W w.heap.size s p) (hp : p ≤ s.size) => readend_any w.heap.size p s W hS (by omega) hp)
  have hbig' : ¬ (65536 : Int) < (s.size : Int) := by omega
  have hsz1 : (s.size : Int) ≤ 65536 := by omega
  clear hIt
  generalize hdrS s 0 0 0 0 = H at *
  have HSP := Lib.hid hsp; have HSM := Lib.hid hsm
  clear hsp hsm
  go_enter Tryz.func16, Tryz.ntmps16
  go_wp2_with fail
  go_step3
  go_upto_region 4 with fail
  change Code.wp _ _ _ _ (w.alloc (.cells #[.string s, .int .i64 ((0 : Nat) : Int)] 72))
  generalize w.alloc (.cells #[.string s, .int .i64 ((0 : Nat) : Int)] 72) = w1 at *
  go_wp2_with fail
  refine (HH.out w1 HSC.out).mono ?_
  rintro e w2 ⟨rfl, q0, hS2, hq0, hO2⟩
  cases H with
  | bad p =>
    rw [show hdR (.bad p) = ((0, 0), p, 2) from rfl]
    have HX := Lib.hid (show R = ([], p, 2) from HSP.out)
    have hB2 := blw (only_sc hO2 hB0 (Nat.le_refl _)) (.cells #[.int .i64 ((0 : Nat) : Int), .int .i64 ((0 : Nat) : Int)] 74)
    clear hO2 hS2 hq0
    go_wp2_with fail
    rw [Exit.noGoto_ret]
    go_ret3
    exact EndS.no HX.out hB2
  | ok f t c nx =>
    have hsp := HSP.out
    dsimp only at hsp
    by_cases t0 : t = 0
    · rw [show hdR (.ok f t c nx) = ((0, 0), 0, 6) from if_pos t0]
      rw [if_pos t0] at hsp
      have HX := Lib.hid (show R = ([], 0, 6) from hsp)
      have hB2 := blw (only_sc hO2 hB0 (Nat.le_refl _)) (.cells #[.int .i64 ((0 : Nat) : Int), .int .i64 ((0 : Nat) : Int)] 74)
      clear hO2 hS2 hq0
      go_wp2_with fail
      rw [Exit.noGoto_ret]
      go_ret3
      exact EndS.no HX.out hB2
    by_cases t1 : t = 1
    case neg =>
      rw [show hdR (.ok f t c nx) = ((0, 0), 0, 5) from by show (if t = 0 then _ else _) = _; rw [if_neg t0, if_neg t1]]
      rw [if_neg t0, if_neg t1] at hsp
      have HX := Lib.hid (show R = ([], 0, 5) from hsp)
      have hB2 := blw (only_sc hO2 hB0 (Nat.le_refl _)) (.cells #[.int .i64 ((0 : Nat) : Int), .int .i64 ((0 : Nat) : Int)] 74)
      clear hO2 hS2 hq0
      go_wp2_with fail
      rw [Exit.noGoto_ret]
      go_ret3
      exact EndS.no HX.out hB2
    rw [show hdR (.ok f t c nx) = ((f, c), 0, 0) from by show (if t = 0 then _ else _) = _; rw [if_neg t0, if_pos t1]]
    rw [if_neg t0, if_pos t1, ← recH_min] at hsp
    have hq := hq0 f t c nx rfl
    rw [← hq] at hsp
    have hfc := HSM.out f t c nx rfl
    have hqs : q0 ≤ s.size := by omega
    have hlt2 := hS2.lt
    have hb2 := only_sc hO2 hB0 (Nat.le_refl _)
    have hrel : SpO s R w w2.heap.size f c q0 0 1 [] (.slice none 0 0) (w2.alloc (.cells #[.int .i64 ((f : Nat) : Int), .int .i64 ((c : Nat) : Int)] 74)) :=
      ⟨⟨OwnL.nil _ _, hS2.call (blw (Below.refl _ _) (.cells #[.int .i64 ((f : Nat) : Int), .int .i64 ((c : Nat) : Int)] 74)), hV.new w2 f c, blw hb2 (.cells #[.int .i64 ((f : Nat) : Int), .int .i64 ((c : Nat) : Int)] 74), hlt2⟩, hsp.symm, hqs, Nat.zero_le _, by omega, Nat.zero_le _⟩
    have HREL := Lib.hid hrel
    have hf1 : (f : Int) ≤ 65537 := by omega
    have hc1 : (c : Int) ≤ 65537 := by omega
    clear hO2 hS2 hq0 hsp hq hfc hrel t0 t1 HSM HSP hlt2 hb2
    go_upto_region 8 with fail
    change Code.wp _ _ _ _ (w2.alloc (.cells #[.int .i64 ((f : Nat) : Int), .int .i64 ((c : Nat) : Int)] 74))
    generalize w2.heap.size = B at *
    generalize w2.alloc (.cells #[.int .i64 ((f : Nat) : Int), .int .i64 ((c : Nat) : Int)] 74) = w3 at *
    go_step3
    go_wp2_with fail
    go_loopw [2, 3, 4, 7, 8] (fun vp va ve vk vr wr => ∃ (p a r : Nat) (ps : List Pt), vk = .int .i64 a ∧ vr = .int .i64 r ∧ Hid (SpO s R w B f c p a r ps vp wr)) (fun _ _ _ _ _ wr => s.size - (intOf ((wr.cell? ⟨w.heap.size, 1, none⟩).getD (.int .i64 0))).toNat)
    case atStart => exact ⟨q0, 0, 1, [], rfl, rfl, HREL⟩
    case round =>
      obtain ⟨st, a0, r, ps0, rfl, rfl, HR⟩ := hrel
      have HM0 := Lib.hid HR.out.st.scn.cells.2.1
      obtain ⟨pv, mv, cv, rfl⟩ : ∃ pv m c, u2 = .slice pv m c := by obtain ⟨x, y, h, _⟩ := HR.out.st.own.pts; exact ⟨_, _, _, h⟩
      have hle := HR.out.le
      by_cases hlt : st < s.size
      · have hm := HM.out st wr HR.out.st.scn hle
        rw [decide_eq_true hlt] at hm
        have HMX := Lib.hid hm
        clear hm
        go_wp2_with fail
        refine HMX.out.mono ?_; rintro e w4 ⟨rfl, hb4⟩
        have hS4 := HR.out.st.call hb4
        have x1 := hS4.scn.cells.2.1
        go_wp2_with fail
        go_step3
        go_wp2_with fail
        go_step3
        go_wp2_with fail
        have hrel : SpI s R w B f c st a0 st 0 r ps0 (.slice pv mv cv) w4 :=
          ⟨hS4, by rw [← HR.out.eqn]; exact (recH_go hlt).symm, hle, HR.out.fa, HR.out.cnt, HR.out.few, hlt, Nat.zero_le _⟩
        have HREL2 := Lib.hid hrel
        clear hS4 x1 hb4 HMX HR hrel
        go_loopw [2, 3, 4, 7, 10] (fun vp va ve vk vn wi => ∃ (p a n : Nat) (ps : List Pt), vk = .int .i64 a ∧ vn = .int .i64 n ∧ st ≤ p ∧ Hid (SpI s R w B f c p a st n r ps vp wi)) (fun _ _ _ _ _ wi => s.size + 1 - (intOf ((wi.cell? ⟨w.heap.size, 1, none⟩).getD (.int .i64 0))).toNat)
        case atStart => exact ⟨st, a0, 0, ps0, rfl, rfl, Nat.le_refl _, HREL2⟩
        case round =>
          clear HREL2 HREL
          obtain ⟨q, a, n, ps, rfl, rfl, hsq, HI⟩ := hrel
          obtain ⟨pv, mv, cv, rfl⟩ : ∃ pv m c, u2 = .slice pv m c := by obtain ⟨x, y, h, _⟩ := HI.out.st.own.pts; exact ⟨_, _, _, h⟩
          have x1 := HI.out.st.scn.cells.2.1
          obtain ⟨hv0, hv1, _, _⟩ := HI.out.st.hdr.cells
          have hqle := HI.out.le
          have hstl := HI.out.sm.1
          have hnq : (n : Int) ≤ 65537 := by have := HI.out.sm.2; omega
          have hrq : (r : Int) ≤ 65537 := by have := HI.out.cnt; have := HI.out.sm; omega
          have haq : (a : Int) ≤ 65537 := by have := HI.out.fa; omega
          have hrf := HF.out q wr HI.out.st.scn hqle
          unfold EndFd at hrf
          cases hf : fldS (restD s q) with
          | none =>
            rw [hf] at hrf
            have HX := Lib.hid (show R = ([], q, 2) from HI.out.eqn.symm.trans (rec_bad hqle hf))
            have HRF2 := Lib.hid hrf
            clear hrf hf
            go_wp2_with fail
            refine HRF2.out.mono ?_; rintro e w5 ⟨rfl, hS5, hO5⟩
            have hB5 := blw (only_sc hO5 HI.out.st.bel (Nat.le_refl _)) (.cells #[.bool false, .int .i64 0, .string ByteArray.empty] 78)
            clear x1 hv0 hv1
            have hF5 := fV.new w5 false 0 ByteArray.empty
            obtain ⟨y0, y1, y2, _⟩ := hF5.cells
            have hh5 := (HI.out.st.sc hO5 hS5).hdr.call (blw (Below.refl _ _) (.cells #[.bool false, .int .i64 0, .string ByteArray.empty] 78))
            obtain ⟨hv0, hv1, _, _⟩ := hh5.cells
            go_wp2_with fail
            rw [Exit.noGoto_ret]
            simp only [Exit.inBlock, Exit.then]
            change (Exit.noGoto _) Exit.ret _ _
            rw [Exit.noGoto_ret]
            go_ret3
            exact EndS.no HX.out hB5
          | some x =>
            rw [hf] at hrf
            dsimp only at hrf
            obtain ⟨X, hX⟩ : ∃ X, bsL (rawF s q x) = X := ⟨_, rfl⟩
            obtain ⟨A, hA⟩ : ∃ A : Int, ((q + (if x.quoted = true then 1 else 0) : Nat) : Int) = A := ⟨_, rfl⟩
            have hfa := fld_at hf hqle
            have hfl := fldS_le hf
            rw [hX, hA] at hrf
            have HRF2 := Lib.hid hrf
            have HX0 := Lib.hid hX
            have HFF := Lib.hid hf
            have HEQ := Lib.hid HI.out.eqn
            clear hrf hX hf
            by_cases hnf : n = f
            · have HX := Lib.hid (show R = ([], q, 2) from HEQ.out.symm.trans (rec_many hqle HFF.out (.inl hnf)))
              have qf : ((n : Int) == (f : Int)) = true := by rw [hnf]; simp
              obtain ⟨Q, hQ⟩ : ∃ Q, x.quoted = Q := ⟨_, rfl⟩
              rw [hQ] at HRF2
              clear hnf hQ hA
              go_wp2_with fail
              refine HRF2.out.mono ?_; rintro e w5 ⟨rfl, hS5, hO5⟩
              have hW5 := (HI.out.st.sc hO5 hS5).call (blw (Below.refl _ _) (.cells #[.bool Q, .int .i64 A, .string X] 78))
              have hF5 := fV.new w5 Q A X
              clear x1 hv0 hv1
              obtain ⟨y0, y1, y2, _⟩ := hF5.cells
              obtain ⟨hv0, hv1, _, _⟩ := hW5.hdr.cells
              go_wp2_with fail
              rw [Exit.noGoto_ret]
              simp only [Exit.inBlock, Exit.then]
              change (Exit.noGoto _) Exit.ret _ _
              rw [Exit.noGoto_ret]
              go_ret3
              exact EndS.no HX.out hW5.bel
            have qf : ((n : Int) == (f : Int)) = false := by rw [beq_eq_false_iff_ne]; omega
            by_cases hnc : n = c
            · have qc : ((n : Int) == (c : Int)) = true := by rw [hnc]; simp
              cases hQ : x.quoted
              · have HX := Lib.hid (show R = ([], q, 2) from HEQ.out.symm.trans (rec_many hqle HFF.out (.inr ⟨hnc, hQ⟩)))
                rw [hQ] at HRF2
                clear hnf hnc hA
                go_wp2_with fail
                refine HRF2.out.mono ?_; rintro e w5 ⟨rfl, hS5, hO5⟩
                have hW5 := (HI.out.st.sc hO5 hS5).call (blw (Below.refl _ _) (.cells #[.bool false, .int .i64 A, .string X] 78))
                have hF5 := fV.new w5 false A X
                clear x1 hv0 hv1
                obtain ⟨y0, y1, y2, _⟩ := hF5.cells
                obtain ⟨hv0, hv1, _, _⟩ := hW5.hdr.cells
                go_wp2_with fail
                rw [Exit.noGoto_ret]
                simp only [Exit.inBlock, Exit.then]
                change (Exit.noGoto _) Exit.ret _ _
                rw [Exit.noGoto_ret]
                go_ret3
                exact EndS.no HX.out hW5.bel
              · have hbad : ¬ (n = f ∨ (n = c ∧ x.quoted = false)) := by rintro (e | ⟨_, e⟩); exact hnf e; rw [hQ] at e; cases e
                rw [hQ, if_pos rfl] at hA
                rw [hQ] at HRF2
                have hxl : X.data.toList = rawF s q x := by rw [← HX0.out, bsL_list]
                have hxz : X.size ≤ 65536 := by
                  rw [← HX0.out, bsL_size]; unfold rawF; rw [List.length_take, restD_len]; omega
                have hdc := fun W => decode_any X W (by omega)
                rw [hxl] at hdc
                unfold EndD at hdc
                have hdat := dec_at elS_ok (rawF s q x)
                have hrl : (rawF s q x).length ≤ 65536 := by rw [← hxl]; simpa using hxz
                by_cases hz : (dec elS (rawF s q x)).2.2.2 = 0
                case neg =>
                  have HX := Lib.hid (show R = _ from HEQ.out.symm.trans (rec_dec hqle HFF.out hbad ⟨hnc, hz⟩))
                  have hne : ((dec elS (rawF s q x)).2.2.2 == 0) = false := by simpa using hz
                  generalize dec elS (rawF s q x) = D at *
                  have hdI : (D.2.2.1 : Int) ≤ 65536 := by omega
                  have HD := Lib.hid hdc
                  have hAI : A ≤ 65537 := by omega
                  have hA0 : 0 ≤ A := by omega
                  have HAE := Lib.hid (show A + (D.2.2.1 : Int) = ((q + 1 + D.2.2.1 : Nat) : Int) by omega)
                  have hwr : IntKind.i64.wrap (A + (D.2.2.1 : Int)) = A + (D.2.2.1 : Int) := IntWalk.i64_in _ ⟨by omega, by omega⟩
                  clear hnf hnc hA hdc hz hxl hdat
                  go_wp2_with fail
                  refine HRF2.out.mono ?_; rintro e w5 ⟨rfl, hS5, hO5⟩
                  have hW5 := (HI.out.st.sc hO5 hS5).call (blw (Below.refl _ _) (.cells #[.bool true, .int .i64 A, .string X] 78))
                  have hF5 := fV.new w5 true A X
                  clear x1 hv0 hv1
                  obtain ⟨y0, y1, y2, _⟩ := hF5.cells
                  obtain ⟨hv0, hv1, _, _⟩ := hW5.hdr.cells
                  go_wp2_with fail
                  refine (HD.out _).mono ?_; rintro e w6 ⟨pd, cd, rfl, _, _, _, hb6⟩
                  have hW6 := hW5.call hb6
                  have hF6 := hF5.call hb6
                  clear y0 y1 y2 hv0 hv1
                  obtain ⟨y0, y1, y2, _⟩ := hF6.cells
                  go_wp2_with fail
                  go_quiet (fail)
                  go_wp2_with fail
                  rw [Exit.noGoto_ret]
                  simp only [Exit.inBlock, Exit.then]
                  change (Exit.noGoto _) Exit.ret _ _
                  rw [Exit.noGoto_ret]
                  go_ret3
                  exact EndS.no' HX.out HAE.out (hW6.call (below_qN _ _)).bel
                case pos =>
                  have hzz := hfl.2.1 hQ
                  have hdz := dec_zero elS_ok (rawF s q x) hz
                  have hps : psN s c ps a q n r x = ps ++ [skel s a (q + 1), ⟨true, keyR r, X⟩] := by
                    unfold psN
                    rw [if_pos hnc, ← HX0.out]
                    congr 4
                    unfold rawF
                    rw [hQ, if_pos rfl]
                    have : (s.extract (q + 1) (q + 1 + x.raw)).data.toList = ((s.data.toList.drop (q + 1)).take (q + 1 + x.raw - (q + 1))) := by simp [ByteArray.extract, ByteArray.copySlice]
                    rw [← bsL_of (s.extract (q + 1) (q + 1 + x.raw)), this, show q + 1 + x.raw - (q + 1) = x.raw by omega]; rfl
                  have han : aN c a q n x = q + 1 + x.raw := if_pos hnc
                  have hXs : X.size = x.raw := by
                    rw [← HX0.out, bsL_size]; unfold rawF; rw [List.length_take, restD_len, hQ, if_pos rfl]; omega
                  have HND := Lib.hid (show ¬ (n = c ∧ (dec elS (rawF s q x)).2.2.2 ≠ 0) from fun e => e.2 hz)
                  have HBAD := Lib.hid hbad
                  rw [hdz, hz] at hdc
                  obtain ⟨k, hk⟩ : ∃ k, q + 1 = k := ⟨_, rfl⟩
                  rw [hk] at hps han hA
                  subst hA
                  have HPS := Lib.hid hps; have HAN := Lib.hid han
                  have HD := Lib.hid hdc
                  have HM1 := Lib.hid x1
                  have hks : k ≤ s.size := by omega
                  have hak : a ≤ k := by have := HI.out.fa; omega
                  have j0 : (0 : Int) ≤ (a : Int) := by omega
                  have j1 : (a : Int) ≤ (k : Int) := by omega
                  have j2 : (k : Int) ≤ (s.size : Int) := by omega
                  have j3 : (k : Int) ≤ 65537 := by omega
                  have hxr : (x.raw : Int) ≤ 65537 := by omega
                  have hr8 : r ≤ s.size + 1 := by have := HI.out.cnt; have := HI.out.sm; omega
                  have HXS := Lib.hid (show ((k : Int) + (X.size : Int)) = ((k + x.raw : Nat) : Int) by rw [hXs]; omega)
                  have HKQ := Lib.hid hk
                  have HZZ := Lib.hid hzz
                  have hxI : (X.size : Int) ≤ 65537 := by omega
                  generalize dec elS (rawF s q x) = D at HD
                  clear hnf hnc hps han hdc hz hdz hxl hdat hbad hfl hk hzz hXs hQ
                  go_wp2_with fail
                  refine HRF2.out.mono ?_; rintro e w5 ⟨rfl, hS5, hO5⟩
                  have hW5 := (HI.out.st.sc hO5 hS5).call (blw (Below.refl _ _) (.cells #[.bool true, .int .i64 (k : Int), .string X] 78))
                  have hF5 := fV.new w5 true (k : Int) X
                  clear x1 hv0 hv1
                  obtain ⟨y0, y1, y2, _⟩ := hF5.cells
                  obtain ⟨hv0, hv1, _, _⟩ := hW5.hdr.cells
                  go_wp2_with fail
                  refine (HD.out _).mono ?_; rintro e w6 ⟨pd, cd, rfl, _, _, _, hb6⟩
                  have hW6 := hW5.call hb6
                  have hF6 := hF5.call hb6
                  have HNE : Hid ((Value.slice pv mv cv).ownBlock ≠ some w5.heap.size) := Lib.hid (fun e => by
                    have := ((HI.out.st.sc hO5 hS5).own.lt _ e).2; omega)
                  have HW6 := Lib.hid hW6; have HF6 := Lib.hid hF6
                  have HB6 := Lib.hid (show Below w.heap.size w w6.drew from (hW6.call (Below.refl _ _).drew).bel)
                  clear y0 y1 y2 hv0 hv1 hW5 hF5 hS5 hO5 hb6
                  obtain ⟨y0, y1, y2, _⟩ := hF6.cells
                  obtain ⟨hv0, hv1, _, _⟩ := hW6.hdr.cells
                  clear hW6 hF6
                  go_upto_region 22 with fail
                  refine wp_region_held_drew (S := fun W => W.cell? ⟨w5.heap.size, 1, none⟩ = some (.int .i64 (k : Int)) ∧ W.cell? ⟨w5.heap.size, 2, none⟩ = some (.string X)) (by kernel_rfl) ⟨HF6.out.drew.cells.2.1, HF6.out.drew.cells.2.2.1⟩ (fun hHeld => ?_)
                  refine wpAnyH_take (i := 0) (v := ?_) rfl (by kernel_rfl) (by kernel_rfl) (by kernel_rfl) (fun _ _ _ h => h) (Or.inl ⟨by rfl, ?_⟩) hHeld ?_
                  rotate_left
                  · (intro w hSw; (try dsimp only at hSw); go_simp; try with_reducible rfl)
                  try simp only [Act.put, List.getElem_toArray, List.getElem_cons_zero, List.getElem_cons_succ, List.setIfInBounds_toArray, List.set_cons_zero, List.set_cons_succ]
                  refine wpAnyH_take (i := 1) (v := ?_) rfl (by kernel_rfl) (by kernel_rfl) (by kernel_rfl) (fun _ _ _ h => h) (Or.inl ⟨by rfl, ?_⟩) hHeld ?_
                  rotate_left
                  · (intro w hSw; (try dsimp only at hSw); go_simp; try with_reducible rfl)
                  try simp only [Act.put, List.getElem_toArray, List.getElem_cons_zero, List.getElem_cons_succ, List.setIfInBounds_toArray, List.set_cons_zero, List.set_cons_succ]
                  refine wpAnyH_take (i := 2) (v := ?_) rfl (by kernel_rfl) (by kernel_rfl) (by kernel_rfl) (fun _ _ _ h => h) (Or.inl ⟨by rfl, ?_⟩) hHeld ?_
                  rotate_left
                  · (intro w hSw; (try dsimp only at hSw); go_simp; try with_reducible rfl)
                  try simp only [Act.put, List.getElem_toArray, List.getElem_cons_zero, List.getElem_cons_succ, List.setIfInBounds_toArray, List.set_cons_zero, List.set_cons_succ]
                  refine wpAnyH_take (i := 3) (v := ?_) rfl (by kernel_rfl) (by kernel_rfl) (by kernel_rfl) (fun _ _ _ h => h) (Or.inl ⟨by rfl, ?_⟩) hHeld ?_
                  rotate_left
                  · (intro w hSw; (try dsimp only at hSw); go_simp; try with_reducible rfl)
                  try simp only [Act.put, List.getElem_toArray, List.getElem_cons_zero, List.getElem_cons_succ, List.setIfInBounds_toArray, List.set_cons_zero, List.set_cons_succ]
                  refine wpAnyH_take (i := 4) (v := ?_) rfl (by kernel_rfl) (by kernel_rfl) (by kernel_rfl) (fun _ _ _ h => h) (Or.inl ⟨by rfl, ?_⟩) hHeld ?_
                  rotate_left
                  · (intro w hSw; have hc := hSw.1; go_simp; try with_reducible rfl)
                  try simp only [Act.put, List.getElem_toArray, List.getElem_cons_zero, List.getElem_cons_succ, List.setIfInBounds_toArray, List.set_cons_zero, List.set_cons_succ]
                  refine wpAnyH_take (i := 5) (v := ?_) rfl (by kernel_rfl) (by kernel_rfl) (by kernel_rfl) (fun _ _ _ h => h) (Or.inl ⟨by rfl, ?_⟩) hHeld ?_
                  rotate_left
                  · (intro w hSw; (try dsimp only at hSw); go_simp; try with_reducible rfl)
                  try simp only [Act.put, List.getElem_toArray, List.getElem_cons_zero, List.getElem_cons_succ, List.setIfInBounds_toArray, List.set_cons_zero, List.set_cons_succ]
                  refine wpAnyH_take (i := 6) (v := ?_) rfl (by kernel_rfl) (by kernel_rfl) (by kernel_rfl) (fun _ _ _ h => h) (Or.inl ⟨by rfl, ?_⟩) hHeld ?_
                  rotate_left
                  · (intro w hSw; (try dsimp only at hSw); go_simp; try with_reducible rfl)
                  try simp only [Act.put, List.getElem_toArray, List.getElem_cons_zero, List.getElem_cons_succ, List.setIfInBounds_toArray, List.set_cons_zero, List.set_cons_succ]
                  refine wpAnyH_take (i := 7) (v := ?_) rfl (by kernel_rfl) (by kernel_rfl) (by kernel_rfl) (fun _ _ _ h => h) (Or.inl ⟨by rfl, ?_⟩) hHeld ?_
                  rotate_left
                  · (intro w hSw; (try dsimp only at hSw); go_simp; try with_reducible rfl)
                  try simp only [Act.put, List.getElem_toArray, List.getElem_cons_zero, List.getElem_cons_succ, List.setIfInBounds_toArray, List.set_cons_zero, List.set_cons_succ]
                  refine wpAnyH_take (i := 9) (v := ?_) rfl (by kernel_rfl) (by kernel_rfl) (by kernel_rfl) (fun _ _ _ h => h) (Or.inl ⟨by rfl, ?_⟩) hHeld ?_
                  rotate_left
                  · (intro w hSw; (try dsimp only at hSw); go_simp; try with_reducible rfl)
                  try simp only [Act.put, List.getElem_toArray, List.getElem_cons_zero, List.getElem_cons_succ, List.setIfInBounds_toArray, List.set_cons_zero, List.set_cons_succ]
                  refine wpAnyH_take (i := 10) (v := ?_) rfl (by kernel_rfl) (by kernel_rfl) (by kernel_rfl) (fun _ _ _ h => h) (Or.inl ⟨by rfl, ?_⟩) hHeld ?_
                  rotate_left
                  · (intro w hSw; have hc := hSw.2; go_simp; try with_reducible rfl)
                  try simp only [Act.put, List.getElem_toArray, List.getElem_cons_zero, List.getElem_cons_succ, List.setIfInBounds_toArray, List.set_cons_zero, List.set_cons_succ]
                  refine wpAnyH_ready (rs := [8]) (by kernel_rfl) (by simp) ?_
                  refine AllReadyH.cons rfl (fun K hK => ?_) AllReadyH.nil
                  go_simp
                  refine (HIT.out r _ hr8 HB6.out).mono ?_; rintro e w8 ⟨rfl, hb8⟩
                  have hW8 := HW6.out.drew.call hb8
                  have hF8 := HF6.out.drew.call hb8
                  go_wp2_with fail
                  refine hK.out _ _ ⟨hF8.cells.2.1, hF8.cells.2.2.1⟩ (fun hHeld => ?_)
                  clear hK K
                  try simp only [Act.put, List.getElem_toArray, List.getElem_cons_zero, List.getElem_cons_succ, List.setIfInBounds_toArray, List.set_cons_zero, List.set_cons_succ]
                  refine wpAnyH_take (i := 11) (v := ?_) rfl (by kernel_rfl) (by kernel_rfl) (by kernel_rfl) (fun _ _ _ h => h) (Or.inl ⟨by rfl, ?_⟩) hHeld ?_
                  rotate_left
                  · (intro w hSw; (try dsimp only at hSw); go_simp; try with_reducible rfl)
                  try simp only [Act.put, List.getElem_toArray, List.getElem_cons_zero, List.getElem_cons_succ, List.setIfInBounds_toArray, List.set_cons_zero, List.set_cons_succ]
                  have hW9 := hW8.call (blw (Below.refl _ _) (.cells #[.bool false, .string ⟨#[]⟩, .string (s.extract a k), .bool true, .string (keyR r), .string X] 56))
                  have hF9 := hF8.call (blw (Below.refl _ _) (.cells #[.bool false, .string ⟨#[]⟩, .string (s.extract a k), .bool true, .string (keyR r), .string X] 56))
                  have HNW := Lib.hid (heap_alloc_new w8 (.cells #[.bool false, .string ⟨#[]⟩, .string (s.extract a k), .bool true, .string (keyR r), .string X] 56))
                  have HOW := Lib.hid hW9.own
                  have hsz9 : B + 1 ≤ (w8.alloc (.cells #[.bool false, .string ⟨#[]⟩, .string (s.extract a k), .bool true, .string (keyR r), .string X] 56)).heap.size := by have := hW9.hdr.lt; omega
                  refine wpAnyH_ready (rs := [12]) (by kernel_rfl) (by simp) ?_
                  refine AllReadyH.cons rfl (fun K hK => ?_) AllReadyH.nil
                  go_simp
                  refine hK.out _ _ ⟨hF9.cells.2.1, hF9.cells.2.2.1⟩ (fun hHeld => ?_)
                  clear hK K
                  try simp only [Act.put, List.getElem_toArray, List.getElem_cons_zero, List.getElem_cons_succ, List.setIfInBounds_toArray, List.set_cons_zero, List.set_cons_succ]
                  refine wpAnyH_ready (rs := [13]) (by kernel_rfl) (by simp) ?_
                  refine AllReadyH.cons rfl (fun K hK => ?_) AllReadyH.nil
                  refine step_appm eP _ (by rfl) _ _ (by rfl) (B + 1) ps (.slice pv mv cv) (by rfl) HOW.out hsz9 [skel s a k, ⟨true, keyR r, X⟩] 2 w8.heap.size _ rfl (by omega) (by rfl) HNW.out (by rfl) (by have := HI.out.few; omega) (by have := HI.out.few; unfold maxLen; omega) ?_
                  intro g cap w10 hO10 hg10 hl10
                  have hW10 := hW9.app hg10 hO10
                  have hF10 : fV w10 w5.heap.size true (k : Int) X := (hg10.block _ hF9.lt (fun e => HNE.out e.symm)).trans hF9
                  try go_simp
                  refine hK.out _ _ ⟨hF10.cells.2.1, hF10.cells.2.2.1⟩ (fun hHeld => ?_)
                  clear hK K
                  try simp only [Act.put, List.getElem_toArray, List.getElem_cons_zero, List.getElem_cons_succ, List.setIfInBounds_toArray, List.set_cons_zero, List.set_cons_succ]
                  refine wpAnyH_take (i := 14) (v := ?_) rfl (by kernel_rfl) (by kernel_rfl) (by kernel_rfl) (fun _ _ _ h => h) (Or.inl ⟨by rfl, ?_⟩) hHeld ?_
                  rotate_left
                  · (intro w hSw; (try dsimp only at hSw); go_simp; try with_reducible rfl)
                  try simp only [Act.put, List.getElem_toArray, List.getElem_cons_zero, List.getElem_cons_succ, List.setIfInBounds_toArray, List.set_cons_zero, List.set_cons_succ]
                  refine wpAnyH_done (by kernel_rfl) ?_ _
                  have hW11 := hW10
                  clear y0 y1 y2 hv0 hv1 hW8 hF8 hW9 hF9 hW10 hO10 hg10 hl10
                  obtain ⟨y0, y1, y2, _⟩ := hF10.cells
                  obtain ⟨hv0, hv1, _, _⟩ := hW11.hdr.cells
                  go_wp2_with fail
                  refine (HE.out (q + x.size) _ hW11.scn hfa).mono ?_; rintro e w7 ⟨rfl, hS7, hO7⟩
                  have hW7 := hW11.sc hO7 hS7
                  clear y0 y1 y2 hv0 hv1
                  obtain ⟨hv0, hv1, _, _⟩ := hW7.hdr.cells
                  have hi := HI.out
                  cases he : endsR s (q + x.size)
                  · have hlt2 := endsR_lt he
                    have hst : recS s f c (ps ++ [skel s a k, ⟨true, keyR r, X⟩]) (k + x.raw) (q + x.size + 1) st (n + 1) r = R := by
                      rw [← HEQ.out, rec_more hqle HFF.out HBAD.out HND.out he, HPS.out, HAN.out]
                    rw [show min (q + x.size + 1) s.size = q + x.size + 1 by omega] at hS7 hW7
                    have hrel : SpI s R w B f c (q + x.size + 1) (k + x.raw) st (n + 1) r (ps ++ [skel s a k, ⟨true, keyR r, X⟩]) _ w7 :=
                      ⟨hW7, hst, by omega, by have := hi.fa; have := HZZ.out; have := HKQ.out; omega, by have := hi.cnt; omega, by have := hi.few; have := HZZ.out; simp; omega, ⟨hi.sm.1, by have := hi.sm.2; omega⟩⟩
                    have HREL := Lib.hid hrel
                    have hm1 := hS7.cells.2.1
                    clear hrel hst hW7 hS7 hO7 hi he
                    go_wp2_with fail
                    go_roundw
                    case rel => exact ⟨q + x.size + 1, k + x.raw, n + 1, _, by rw [HXS.out], by go_num, by omega, HREL⟩
                    case measure =>
                      rw [HM1.out, hm1]; simp [intOf]; omega
                  · by_cases hnf1 : n + 1 < f
                    · have HX := Lib.hid (show R = ([], st, 2) from HEQ.out.symm.trans (rec_few hqle HFF.out HBAD.out HND.out he hnf1))
                      have qlt : (n : Int) + 1 < (f : Int) := by omega
                      clear hnf1 hi he
                      go_wp2_with fail
                      rw [Exit.noGoto_ret]
                      simp only [Exit.inBlock, Exit.then]
                      change (Exit.noGoto _) Exit.ret _ _
                      rw [Exit.noGoto_ret]
                      go_ret3
                      exact EndS.no HX.out hW7.bel
                    · have hst : recH s f c (ps ++ [skel s a k, ⟨true, keyR r, X⟩]) (k + x.raw) (min (q + x.size + 1) s.size) (r + 1) = R := by
                        rw [recH_min, ← HEQ.out, rec_next hqle HFF.out HBAD.out HND.out he hnf1, HPS.out, HAN.out]
                      have hrel : SpO s R w B f c (min (q + x.size + 1) s.size) (k + x.raw) (r + 1) (ps ++ [skel s a k, ⟨true, keyR r, X⟩]) _ w7 :=
                        ⟨hW7, hst, by omega, by have := hi.fa; have := HZZ.out; have := HKQ.out; omega, by have := hi.cnt; omega, by have := hi.few; have := HZZ.out; simp; omega⟩
                      have HREL := Lib.hid hrel
                      have hm1 := hS7.cells.2.1
                      have qlt : ¬ (n : Int) + 1 < (f : Int) := by omega
                      clear hrel hst hW7 hS7 hO7 hi he hnf1
                      go_wp2_with fail
                      rw [noGoto_exit]
                      simp only [Exit.inBlock, Exit.then]
                      go_wp2_with fail
                      exact ⟨⟨_, _, r + 1, _, by rw [HXS.out], by go_num, HREL⟩, by rw [hm1, HM0.out]; simp [intOf]; omega⟩
            · have qc : ((n : Int) == (c : Int)) = false := by rw [beq_eq_false_iff_ne]; omega
              obtain ⟨Q, hQ⟩ : ∃ Q, x.quoted = Q := ⟨_, rfl⟩
              rw [hQ] at HRF2
              have HBAD := Lib.hid (show ¬ (n = f ∨ (n = c ∧ x.quoted = false)) from by rintro (e | ⟨e, _⟩); exact hnf e; exact hnc e)
              have HND := Lib.hid (show ¬ (n = c ∧ (dec elS (rawF s q x)).2.2.2 ≠ 0) from fun e => hnc e.1)
              have HPS := Lib.hid (show psN s c ps a q n r x = ps from if_neg hnc)
              have HAN := Lib.hid (show aN c a q n x = a from if_neg hnc)
              have HM1 := Lib.hid x1
              clear hnf hnc hQ hA
              go_wp2_with fail
              refine HRF2.out.mono ?_; rintro e w5 ⟨rfl, hS5, hO5⟩
              have hW5 := (HI.out.st.sc hO5 hS5).call (blw (Below.refl _ _) (.cells #[.bool Q, .int .i64 A, .string X] 78))
              have hF5 := fV.new w5 Q A X
              clear x1 hv0 hv1
              obtain ⟨y0, y1, y2, _⟩ := hF5.cells
              obtain ⟨hv0, hv1, _, _⟩ := hW5.hdr.cells
              go_wp2_with fail
              refine (HE.out (q + x.size) _ hW5.scn hfa).mono ?_; rintro e w7 ⟨rfl, hS7, hO7⟩
              have hW7 := hW5.sc hO7 hS7
              clear hv0 hv1 y0 y1 y2
              obtain ⟨hv0, hv1, _, _⟩ := hW7.hdr.cells
              have hi := HI.out
              cases he : endsR s (q + x.size)
              · have hlt2 := endsR_lt he
                have hst : recS s f c ps a (q + x.size + 1) st (n + 1) r = R := by
                  rw [← HEQ.out, rec_more hqle HFF.out HBAD.out HND.out he, HPS.out, HAN.out]
                rw [show min (q + x.size + 1) s.size = q + x.size + 1 by omega] at hS7 hW7
                have hrel : SpI s R w B f c (q + x.size + 1) a st (n + 1) r ps _ w7 :=
                  ⟨hW7, hst, by omega, by have := hi.fa; omega, by have := hi.cnt; omega, by have := hi.few; simp; omega, ⟨hi.sm.1, by have := hi.sm.2; omega⟩⟩
                have HREL := Lib.hid hrel
                have hm1 := hS7.cells.2.1
                clear hrel hst hW7 hS7 hO7 hi he
                go_wp2_with fail
                go_roundw
                case rel => exact ⟨q + x.size + 1, a, n + 1, ps, rfl, by go_num, by omega, HREL⟩
                case measure =>
                  rw [HM1.out, hm1]; simp [intOf]; omega
              · by_cases hnf1 : n + 1 < f
                · have HX := Lib.hid (show R = ([], st, 2) from HEQ.out.symm.trans (rec_few hqle HFF.out HBAD.out HND.out he hnf1))
                  have qlt : (n : Int) + 1 < (f : Int) := by omega
                  clear hnf1 hi he
                  go_wp2_with fail
                  rw [Exit.noGoto_ret]
                  simp only [Exit.inBlock, Exit.then]
                  change (Exit.noGoto _) Exit.ret _ _
                  rw [Exit.noGoto_ret]
                  go_ret3
                  exact EndS.no HX.out hW7.bel
                · have hst : recH s f c ps a (min (q + x.size + 1) s.size) (r + 1) = R := by
                    rw [recH_min, ← HEQ.out, rec_next hqle HFF.out HBAD.out HND.out he hnf1, HPS.out, HAN.out]
                  have hrel : SpO s R w B f c (min (q + x.size + 1) s.size) a (r + 1) ps _ w7 :=
                    ⟨hW7, hst, by omega, by have := hi.fa; omega, by have := hi.cnt; omega, by have := hi.few; simp; omega⟩
                  have HREL := Lib.hid hrel
                  have hm1 := hS7.cells.2.1
                  have qlt : ¬ (n : Int) + 1 < (f : Int) := by omega
                  clear hrel hst hW7 hS7 hO7 hi he hnf1
                  go_wp2_with fail
                  rw [noGoto_exit]
                  simp only [Exit.inBlock, Exit.then]
                  go_wp2_with fail
                  exact ⟨⟨_, _, r + 1, _, rfl, by go_num, HREL⟩, by rw [hm1, HM0.out]; simp [intOf]; omega⟩
      · obtain rfl : st = s.size := by omega
        have hm := HM.out s.size wr HR.out.st.scn (Nat.le_refl _)
        rw [decide_eq_false (Nat.lt_irrefl _)] at hm
        have HMX := Lib.hid hm
        have HX := Lib.hid (show R = (ps0 ++ [skel s a0 s.size], 0, 0) from HR.out.eqn.symm.trans (recH_end (Nat.le_refl _)))
        have j0 : (0 : Int) ≤ (a0 : Int) := by omega
        have j1 : (a0 : Int) ≤ (s.size : Int) := by have := HR.out.fa; omega
        have hfew := HR.out.few
        clear hm hlt hle HREL
        go_wp2_with fail
        refine HMX.out.mono ?_; rintro e w4 ⟨rfl, hb4⟩
        have hS4 := HR.out.st.call hb4
        have hS5 := hS4.call (blw (Below.refl _ _) (.cells #[.bool false, .string ⟨#[]⟩, .string (s.extract a0 s.size)] 56))
        have HOW := Lib.hid hS5.own
        have hsz5 : B + 1 ≤ (w4.alloc (.cells #[.bool false, .string ⟨#[]⟩, .string (s.extract a0 s.size)] 56)).heap.size := by have := hS5.hdr.lt; omega
        have HB5 := Lib.hid hS5
        clear hS4 hS5 hb4
        go_wp2_with (at_builtin; refine wpl_appm eP _ rfl _ _ rfl (B + 1) ps0 _ rfl HOW.out hsz5 [skel s a0 s.size] 1 w4.heap.size _ rfl (by omega) rfl (heap_alloc_new w4 _) rfl (by omega) (by unfold maxLen; omega) ?_; intro g cap w6 hown hgr)
        rw [Exit.noGoto_ret]
        go_ret3
        have hb6 := (HB5.out.app hgr hown).bel
        obtain ⟨p6, c6, e6, h6a, h6b, h6p⟩ := hown.pts
        injection e6 with e7 e8 e9
        subst e7; subst e9
        exact ⟨some ⟨g, 0, none⟩, cap, by rw [HX.out, List.length_append]; rfl, by rw [HX.out]; exact h6a, h6b, by rw [HX.out]; exact h6p, hb6⟩
end Go.Proofs.YteaciofacmbllaaGreatDoor
namespace Go.Proofs.YteaciofacmbllaaGreatDoor
open Go.ChangeShapes Go.WideShapes Go.ChangeAt Go.RowKit
set_option linter.unusedVariables false
set_option linter.unusedSimpArgs false
set_option maxRecDepth 100000

def xA : ByteArray := ⟨#[97, 34, 34, 98, 123, 123, 99, 123, 110, 125]⟩
def xB : ByteArray := ⟨#[105, 100, 44, 116, 101, 120, 116, 10, 55, 44, 34, 97, 34]⟩
def xC : ByteArray := ⟨#[105, 100, 10, 55]⟩
theorem decA : dec elS xA.data.toList = ([⟨1, ⟨#[97, 34, 98, 123, 99]⟩, 0⟩, ⟨5, ⟨#[110]⟩, 0⟩], [0, 1, 3, 4, 6, 7, 10], 0, 0) := by kernel_rfl
theorem key1 : keyR 1 = ⟨#[49]⟩ := by unfold keyR; rw [Lib.decDigits_one (by omega)]; rfl
theorem splB : splS xB = ([⟨false, .empty, ⟨#[105, 100, 44, 116, 101, 120, 116, 10, 55, 44, 34]⟩⟩, ⟨true, keyR 1, ⟨#[97]⟩⟩, ⟨false, .empty, ⟨#[34]⟩⟩], 0, 0) := by kernel_rfl
theorem splC : splS xC = ([], 0, 6) := by kernel_rfl
set_option maxHeartbeats 1600000 in
theorem known_any (w : World) : Calls Tryz.prog 5 #[] w fun e w' => e = .returned (.bool true) ∧ Below w.heap.size w w' := by
  have hA := fun W => decode_any xA W (by decide)
  have hB := fun W => split_any xB W (by decide) (ItoaOk.small (by decide) W)
  have hC := fun W => split_any xC W (by decide) (ItoaOk.small (by decide) W)
  rw [decA] at hA
  rw [splB, key1] at hB
  rw [splC] at hC
  unfold EndD at hA
  unfold EndS at hB hC
  dsimp only at hA hB hC
  have HA := Lib.hid hA; have HB := Lib.hid hB; have HC := Lib.hid hC
  clear hA hB hC
  go_enter Tryz.func5, Tryz.ntmps5
  go_wp2_with fail
  refine (HA.out _).mono ?_; rintro e w1 ⟨pA, cA, rfl, a1, a2, iA, hb1⟩
  go_wp2_with fail
  refine (HB.out _).mono ?_; rintro e w2 ⟨pB, cB, rfl, b1, b2, iB, hb2⟩
  go_wp2_with fail
  refine (HC.out _).mono ?_; rintro e w3 ⟨pC, cC, rfl, c1, c2, iC, hb3⟩
  have iA3 := (iA.call hb2).call hb3
  have iB3 := iB.call hb3
  obtain ⟨a, rfl, hlt, k0, k1, k2⟩ := iA3.row 0 (by decide)
  have k1' : w3.cell? ⟨a.block, a.off + 1, none⟩ = some (.string ⟨#[97, 34, 98, 123, 99]⟩) := by
    have := k1
    rw [add_next _ _ _ (by omega)] at this
    unfold Addr.add at this; simpa using this
  clear k0 k1 k2
  obtain ⟨b, rfl, hltb, m0, m1, m2⟩ := iB3.row 1 (show 1 < 3 by omega)
  have g1 : w3.cell? ⟨b.block, b.off + 3 + 1, none⟩ = some (.string ⟨#[49]⟩) := by
    have := m1
    unfold Addr.add at this; simpa using this
  have g2 : w3.cell? ⟨b.block, b.off + 3 + 2, none⟩ = some (.string ⟨#[97]⟩) := by
    have := m2
    unfold Addr.add at this; simpa using this
  clear m0 m1 m2
  have hbl := BelowOn (BelowOn hb1 hb2) hb3
  go_wp2_with fail
  go_ret
  exact ⟨rfl, hbl⟩
end Go.Proofs.YteaciofacmbllaaGreatDoor
