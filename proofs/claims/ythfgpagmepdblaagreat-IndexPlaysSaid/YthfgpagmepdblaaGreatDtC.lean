/- A call that leaves the world alone may be taken first in a region that draws its order. Contract of Cost. Contract of newParts. Contract of newParts. Cells of the table; contracts of after and begin. -/
import Derived.Test.YthfgpagmepdblaaGreatItD
import Derived.Deep.RegionHeld3
import Derived.Test.YthfgpagmepdblaaGreatDtB
import Derived.Laws.MakeOwn
namespace Go.Proofs.YthfgpagmepdblaaGreat
set_option linter.unusedVariables false

section
variable {P : Program} {ops : Array Oper} {Q : Exit → Act → World → Prop} {md : Region.Mode} {S : World → Prop}
/-- In this state the operation calls a function that answers v and leaves every world that meets S as it was. -/
def QuietAt (P : Program) (ops : Array Oper) (S : World → Prop) (o : Oper) (v : Value) (a : Act) : Prop :=
  Region.wanted o (yielded ops a.tmps) = true ∧ ∀ w, S w → ∃ f args, (execOp a.eval o).run P w = .ok (.enter f args) w ∧ Calls P f args w (fun e w' => e = .returned v ∧ w' = w)
theorem eval_of_tmps {a b : Act} (h : a.tmps = b.tmps) : a.eval = b.eval := by
  funext x
  cases x <;> simp [Act.eval, h]
/-- Behind an operation the state has turned in its own temporary alone. -/
theorem wpOp_shape {j : Nat} {oj : Oper} (hj : ops[j]? = some oj) {K : Act → World → Prop} {a : Act} {w : World} (h : wpOp P ops Q j K a w) : wpOp P ops Q j (fun a' w' => (∃ u, a'.tmps = (a.put oj.dst u).tmps) ∧ K a' w') a w := by
  unfold wpOp at h ⊢
  simp only [hj] at h ⊢
  by_cases hw : Region.wanted oj (yielded ops a.tmps) = true
  · rw [if_pos hw] at h ⊢
    refine h.imp (fun h => ?_) id
    unfold Oper.wp at h ⊢
    generalize (execOp a.eval oj).run P w = r at h ⊢
    cases r with
    | halt x w' => cases x <;> simp only [Oper.upon] at h ⊢ <;> exact h
    | ok n w' =>
      cases n <;> simp only [Oper.upon] at h ⊢
      case value u => exact ⟨⟨u, rfl⟩, h⟩
      case skip => exact ⟨⟨undef, rfl⟩, h⟩
      case defer d => exact ⟨⟨undef, by cases hd : oj.dst <;> simp [Act.put]⟩, h⟩
      case enter f args =>
        refine Calls.mono h fun e w'' he => ?_
        cases e with
        | returned u => exact ⟨⟨u, rfl⟩, he⟩
        | panicked c => exact he
        | outgrown => exact he
      case row r args => exact Rows.mono h fun u w'' he => ⟨⟨u, rfl⟩, he⟩
  · rw [if_neg hw] at h ⊢
    exact ⟨⟨undef, rfl⟩, h⟩
theorem QuietAt.run {i : Nat} {o : Oper} {v : Value} {a : Act} (hi : ops[i]? = some o) (hy : QuietAt P ops S o v a) {K : Act → World → Prop} {w : World} (hS : S w) (h : K (a.put o.dst v) w) : wpOp P ops Q i K a w := by
  obtain ⟨hw, hv⟩ := hy
  obtain ⟨f, args, hr, hc⟩ := hv w hS
  unfold wpOp
  simp only [hi]
  rw [if_pos hw]
  refine .inl ?_
  unfold Oper.wp
  rw [hr]
  exact Calls.mono hc fun e w' ⟨he, hw'⟩ => by subst he; subst hw'; exact h
theorem wpAnyH_quiet0 {i : Nat} {oi : Oper} {v : Value} (hi : ops[i]? = some oi) (hsel : ∀ (j : Nat) (o : Oper) cs b, ops[j]? = some o → o.op ≠ .select cs b) (hQ : ∀ c a w, Q (.panic c) (a.put oi.dst v) w → Q (.panic c) a w) :
    ∀ (fuel : Nat) (listed : Array Bool) (a : Act) (w : World), (∀ j oj, ops[j]? = some oj → j ≠ i → listed.getD j true = false → (∀ e ∈ oj.after, Region.binds md e = true → e.on ≠ i) → oi.apart ops oj = true) →
      i ∈ Region.ready md ops listed → QuietAt P ops S oi v a → S w → wpAnyH P md ops Q S fuel (listed.setIfInBounds i true) (a.put oi.dst v) w → wpAnyH P md ops Q S (fuel + 1) listed a w := by
  intro fuel
  induction fuel with
  | zero =>
    intro listed a w _ hr hy hS H
    refine ⟨fun h => by rw [h] at hr; (cases hr), fun j hj => ?_⟩
    by_cases e : j = i
    · subst e; exact hy.run hi hS ⟨hS, H⟩
    · have hj' := ready_mono hj e
      rw [H.1] at hj'; cases hj'
  | succ fuel ih =>
    intro listed a w hfree hr hy hS H
    refine ⟨fun h => by rw [h] at hr; (cases hr), fun j hj => ?_⟩
    by_cases e : j = i
    · subst e; exact hy.run hi hS ⟨hS, H⟩
    obtain ⟨hun, oj, hoj, hall⟩ := mem_ready.1 hj
    have hno : ∀ e ∈ oj.after, Region.binds md e = true → e.on ≠ i := fun x hx hb he => by
      have h1 := hall x hx hb
      have h0 := (mem_ready.1 hr).1
      rw [he] at h1
      rcases Nat.lt_or_ge i listed.size with hlt | hge
      · simp [hlt] at h0 h1; rw [h0] at h1; cases h1
      · simp [Array.getElem?_eq_none hge] at h1
    have hap := hfree j oj hoj e hun hno
    obtain ⟨_, _, h3⟩ := Oper.apart_spec hap
    have h1 := wpOp_putIf (S := fun _ => False) hoj hap (fun cs b => hsel i oi cs b hi) (fun cs b => hsel j oj cs b hoj) hQ (.inl ⟨hy.1, fun _ h => h.elim⟩) (H.2 j (ready_mono hj e))
    refine wpOp_mono (fun a' w' h => ?_) (wpOp_shape hoj h1)
    obtain ⟨⟨u, hu⟩, _, hS', hW⟩ := h
    have hq : QuietAt P ops S oi v a' := by
      unfold QuietAt at hy ⊢
      rw [hu, wanted_put oi a oj.dst u h3, eval_of_tmps hu, execOp_put oi (fun cs b => hsel i oi cs b hi) a oj.dst u h3]
      exact hy
    refine ⟨hS', ih (listed.setIfInBounds j true) a' w' (fun k ok hk hki hku hkn => hfree k ok hk hki ?_ hkn) (ready_mono hr (Ne.symm e)) hq hS' ?_⟩
    · by_cases hjk : j = k
      · subst hjk; exact hun
      · rw [getD_set_ne true hjk] at hku; exact hku
    · rw [Array.setIfInBounds_comm _ _ e]; exact hW
/-- Take a quiet call first. -/
theorem wpAnyH_quiet {i : Nat} {oi : Oper} {v : Value} {fuel : Nat} {listed : Array Bool} {a : Act} {w : World} (hi : ops[i]? = some oi) (hs : Region.noSelect ops = true) (hf : Region.free md ops listed i = true) (hr : (Region.ready md ops listed).contains i = true)
    (hQ : ∀ c a w, Q (.panic c) (a.put oi.dst v) w → Q (.panic c) a w) (hy : QuietAt P ops S oi v a) (hS : S w) (h : wpAnyH P md ops Q S fuel (listed.setIfInBounds i true) (a.put oi.dst v) w) : wpAnyH P md ops Q S (fuel + 1) listed a w :=
  wpAnyH_quiet0 hi (Region.noSelect_spec hs) hQ fuel listed a w (Region.free_spec hi hf) (by simpa using hr) hy hS h
end
open Go.ChangeShapes Go.WideShapes Go.ChangeAt Go.RowKit
theorem wpAnyH_mono {P : Program} {md : Region.Mode} {ops : Array Oper} {Q : Exit → Act → World → Prop} {S S' : World → Prop} (hS : ∀ w, S' w → S w) : ∀ (fuel : Nat) (listed : Array Bool) (a : Act) (w : World), wpAnyH P md ops Q S' fuel listed a w → wpAnyH P md ops Q S fuel listed a w
  | 0, _, _, _, h => h
  | fuel + 1, _, _, _, h => ⟨h.1, fun i hi => wpOp_mono (fun a' w' h' => ⟨hS _ h'.1, wpAnyH_mono hS fuel _ a' w' h'.2⟩) (h.2 i hi)⟩
theorem carry_next {W W' : World} {a b : Nat} {o : Obj} (h : W.heap[a]? = some o) (hg : W.grownBy W' (some b)) (hne : a ≠ b) : W'.heap[a]? = some o := (hg.block a (Array.getElem?_eq_some_iff.1 h).1 (fun e => hne (Option.some.inj e))).trans h
theorem carry_alloc {W : World} {a : Nat} {o : Obj} (h : W.heap[a]? = some o) (o' : Obj) : (W.alloc o').heap[a]? = some o := (Lib.alloc_old W o' a (Array.getElem?_eq_some_iff.1 h).1).trans h
theorem heap_at {W : World} {n : Nat} (h : W.heap.size = n) (o : Obj) : (W.alloc o).heap[n]? = some o := by rw [← h]; exact heap_alloc_new W o
end Go.Proofs.YthfgpagmepdblaaGreat
namespace Go.Proofs.YthfgpagmepdblaaGreat
open Go.ChangeShapes Go.WideShapes Go.ChangeAt Go.RowKit Go.Sort
set_option linter.unusedVariables false
set_option linter.unusedSimpArgs false
set_option maxRecDepth 100000

theorem block_of_range {W : World} {b o : Nat} {cs : List Value} (h : W.rangeAt b o cs) (j : Nat) {v : Value} (hj : cs[j]? = some v) : b < W.heap.size := block_lt_of_cell (h j v hj)
theorem PtA.of_range {W : World} {b o : Nat} {x : It} {i : Int} (h : W.rangeAt b o (penc x i)) (hb : b < W.heap.size) : PtA W ⟨b, o, none⟩ x i :=
  ⟨hb, h 0 _ rfl, h 1 _ rfl, h 2 _ rfl, h 3 _ rfl, h 4 _ rfl, h 5 _ rfl, h 6 _ rfl⟩
theorem Var3.keepG {W W' : World} {b g : Nat} {k id : Int} {t : ByteArray} (h : Var3 W b k t id) (hg : W.grownBy W' (some g)) (hne : b ≠ g) : Var3 W' b k t id := by
  have hb : W'.heap[b]? = W.heap[b]? := hg.block b h.lt (fun e => hne (by injection e))
  exact ⟨by rw [World.cell?_of_block (w := W) (a := ⟨b, 0, none⟩) hb]; exact h.c0, by rw [World.cell?_of_block (w := W) (a := ⟨b, 1, none⟩) hb]; exact h.c1, by rw [World.cell?_of_block (w := W) (a := ⟨b, 2, none⟩) hb]; exact h.c2, Nat.lt_of_lt_of_le h.lt hg.size⟩
end Go.Proofs.YthfgpagmepdblaaGreat
namespace Go.Proofs.YthfgpagmepdblaaGreat
open Go.ChangeShapes Go.WideShapes Go.ChangeAt Go.RowKit Go.Sort
set_option linter.unusedVariables false
set_option linter.unusedSimpArgs false
set_option maxRecDepth 100000

theorem RowG.made {α : Type} {enc : α → List Value} {t sz : Nat} (hlen : ∀ x, (enc x).length = sz) (W : World) (n : Nat) (z : α) (zc : Array Value) (hz : zc.toList = enc z) :
    RowG enc t sz W.heap.size (List.replicate n z) (W.alloc (.cells (madeCells zc (n * sz)) t)) := by
  have hh := heap_alloc_new W (.cells (madeCells zc (n * sz)) t)
  refine ⟨⟨_, hh⟩, fun i hi j v hv => ?_, hlen⟩
  rw [List.length_replicate] at hi
  rw [List.getElem_replicate, ← hz] at hv
  have hs : zc.size = sz := by have := congrArg List.length hz; rw [hlen] at this; simpa using this
  have hj : j < sz := by have := (List.getElem?_eq_some_iff.1 hv).1; simp at this; omega
  have hlt : i * sz + j < n * sz := by
    have := Nat.mul_le_mul_right sz (show i + 1 ≤ n from hi); rw [Nat.add_mul, Nat.one_mul] at this; omega
  rw [Lib.cell_of_heap hh]
  have hm : (i * sz + j) % zc.size = j := by rw [hs, Nat.add_comm, Nat.add_mul_mod_self_right, Nat.mod_eq_of_lt hj]
  unfold madeCells
  simp [hlt, hm]
  have hv2 : zc[j]? = some v := by simpa using hv
  rw [getElem!_def, hv2]
/-- A part: a token and its index. -/
structure Pa where
  x : It
  i : Int
def paenc (a : Pa) : List Value := penc a.x a.i
theorem paenc_len (a : Pa) : (paenc a).length = 7 := rfl
abbrev Pas := Rw paenc 7
/-- The parts of a list whose first token has the index i. -/
def parts : Nat → List It → List Pa
  | _, [] => []
  | i, x :: l => ⟨x, (i : Int)⟩ :: parts (i + 1) l
theorem parts_len (l : List It) : ∀ i, (parts i l).length = l.length := by
  induction l with
  | nil => intro i; rfl
  | cons x l ih => intro i; simp [parts, ih]
theorem parts_at (l : List It) : ∀ i j (h : j < l.length), (parts i l)[j]'(by rw [parts_len]; exact h) = ⟨l[j], ((i + j : Nat) : Int)⟩ := by
  induction l with
  | nil => intro i j h; cases h
  | cons x l ih =>
    intro i j h
    cases j with
    | zero => rfl
    | succ j => simp only [parts, List.getElem_cons_succ]; rw [ih (i + 1) j (by simpa using h)]; rw [show i + 1 + j = i + (j + 1) by omega]
def zpa : Pa := ⟨⟨0, ⟨#[]⟩, 0⟩, 0⟩
end Go.Proofs.YthfgpagmepdblaaGreat
namespace Go.Proofs.YthfgpagmepdblaaGreat
open Go.ChangeShapes Go.WideShapes Go.ChangeAt Go.RowKit Go.Sort
set_option linter.unusedVariables false
set_option linter.unusedSimpArgs false
set_option maxRecDepth 100000

theorem fill_next {α : Type} (P : List α) (z : α) (k : Nat) (hk : k < P.length) : (P.take k ++ List.replicate (P.length - k) z).set k (P[k]'hk) = P.take (k + 1) ++ List.replicate (P.length - (k + 1)) z := by
  have hl : (P.take k).length = k := by simp; omega
  rw [List.set_append_right _ _ (by omega), hl, Nat.sub_self, show P.length - k = (P.length - (k + 1)) + 1 by omega, List.replicate_succ, List.set_cons_zero, List.take_succ_eq_append_getElem hk, List.append_assoc]
  rfl
theorem fill_len {α : Type} (P : List α) (z : α) (k : Nat) (hk : k ≤ P.length) : (P.take k ++ List.replicate (P.length - k) z).length = P.length := by simp; omega
theorem hpa {w : World} {p : Option Addr} {l : List It} (h : Its w p l) (h0 : 0 < l.length) : ∀ a, p = some a → a.block ≠ w.heap.size := fun a ha => by
  obtain ⟨b, e, hlt, _⟩ := h h0
  rw [ha] at e; injection e with e; subst e; omega
def txtsB (l : List It) : Prop := ∀ x ∈ l, x.t.size ≤ 1000
end Go.Proofs.YthfgpagmepdblaaGreat
namespace Go.Proofs.YthfgpagmepdblaaGreat
open Go.ChangeShapes Go.WideShapes Go.ChangeAt Go.RowKit Go.Sort
set_option linter.unusedVariables false
set_option linter.unusedSimpArgs false
set_option maxRecDepth 100000

/-- A cell of the table: a price and a column. -/
structure Ce where
  p : Nat
  c : Nat
def cenc (x : Ce) : List Value := [.int .i64 x.p, .int .i64 x.c]
theorem cenc_len (x : Ce) : (cenc x).length = 2 := rfl
theorem cenc_one (x : Ce) : (cenc x).toArray.all (·.oneCell') = true := all_oneCell_toArray fun v hv => by
  simp [cenc] at hv; rcases hv with rfl | rfl <;> rfl
theorem mix_next {α : Type} (A B : List α) (k : Nat) (hk : k < A.length) (hl : A.length = B.length) : (A.take k ++ B.drop k).set k (A[k]'hk) = A.take (k + 1) ++ B.drop (k + 1) := by
  have h1 : (A.take k).length = k := by simp; omega
  rw [List.set_append_right _ _ (by omega), h1, Nat.sub_self, List.drop_eq_getElem_cons (show k < B.length by omega), List.set_cons_zero, List.take_succ_eq_append_getElem hk, List.append_assoc]
  rfl
theorem mix_len {α : Type} (A B : List α) (k : Nat) (hk : k ≤ A.length) (hl : A.length = B.length) : (A.take k ++ B.drop k).length = A.length := by simp; omega
theorem mix_at {α : Type} (A B : List α) (k : Nat) (hk : k < A.length) (hl : A.length = B.length) : (A.take k ++ B.drop k)[k]'(by rw [mix_len A B k (by omega) hl]; exact hk) = B[k]'(by omega) := by
  have h1 : (A.take k).length = k := by simp; omega
  rw [List.getElem_append_right (by omega)]
  simp [h1]
/-- Every cell with its own column. -/
def begL : Nat → List Ce → List Ce
  | _, [] => []
  | i, x :: l => ⟨x.p, i⟩ :: begL (i + 1) l
theorem begL_len (l : List Ce) : ∀ i, (begL i l).length = l.length := by
  induction l with
  | nil => intro i; rfl
  | cons x l ih => intro i; simp [begL, ih]
theorem begL_at (l : List Ce) : ∀ i j (h : j < l.length), (begL i l)[j]'(by rw [begL_len]; exact h) = ⟨(l[j]).p, i + j⟩ := by
  induction l with
  | nil => intro i j h; cases h
  | cons x l ih =>
    intro i j h
    cases j with
    | zero => rfl
    | succ j => simp only [begL, List.getElem_cons_succ]; rw [ih (i + 1) j (by simpa using h)]; rw [show i + 1 + j = i + (j + 1) by omega]
end Go.Proofs.YthfgpagmepdblaaGreat
