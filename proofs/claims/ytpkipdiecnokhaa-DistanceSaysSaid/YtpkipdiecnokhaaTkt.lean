/- Contract of Tokens; SameTokens; appending tokens. -/
import Derived.Test.YtpkipdiecnokhaaTkf
import Derived.Test.YtpkipdiecnokhaaSam
namespace Go.Proofs.Ytpkipdiecnokhaa
open Go.ChangeShapes Go.WideShapes Go.ChangeAt Go.RowKit
set_option linter.unusedVariables false
set_option linter.unusedSimpArgs false
set_option maxRecDepth 100000


/-- What word and number answer. -/
def wN (l : List UInt8) : Nat := match l with | [] => 0 | b :: t => if cb b = 4 then runL fW jW t + 1 else 0
def nN (l : List UInt8) : Nat := match l with | [] => 0 | b :: t => if cb b = 3 then runL fD jD t + 1 else 0
theorem runL_hd (f j : UInt8 → Bool) (l : List UInt8) (h : hdF f l = true) : runL f j l = runL f j (l.drop 1) + 1 := by
  cases l with
  | nil => cases h
  | cons b t => rw [runL_yes _ _ _ _ h]; rfl
theorem fW_eq (b : UInt8) : fW b = (cls (b.toNat : Int) == 4 || cls (b.toNat : Int) == 3) := by unfold fW cb; rw [Bool.eq_iff_iff]; simp
theorem fD_eq (b : UInt8) : fD b = (cls (b.toNat : Int) == 3) := by unfold fD cb; rw [Bool.eq_iff_iff]; simp
theorem fS_eq (b : UInt8) : fS b = (cls (b.toNat : Int) == 2) := by unfold fS cb; rw [Bool.eq_iff_iff]; simp
theorem u39 (b : UInt8) : b = 39 ↔ (b.toNat : Int) = 39 := ⟨fun h => by subst h; rfl, fun h => UInt8.toNat_inj.1 (by show b.toNat = 39; omega)⟩
theorem u45 (b : UInt8) : b = 45 ↔ (b.toNat : Int) = 45 := ⟨fun h => by subst h; rfl, fun h => UInt8.toNat_inj.1 (by show b.toNat = 45; omega)⟩
theorem u46 (b : UInt8) : b = 46 ↔ (b.toNat : Int) = 46 := ⟨fun h => by subst h; rfl, fun h => UInt8.toNat_inj.1 (by show b.toNat = 46; omega)⟩
theorem u44 (b : UInt8) : b = 44 ↔ (b.toNat : Int) = 44 := ⟨fun h => by subst h; rfl, fun h => UInt8.toNat_inj.1 (by show b.toNat = 44; omega)⟩
theorem jW_eq (b : UInt8) : jW b = (((b.toNat : Int) == 39) || ((b.toNat : Int) == 45)) := by
  unfold jW; rw [Bool.eq_iff_iff, decide_eq_true_iff, u39, u45]; simp
theorem jD_eq (b : UInt8) : jD b = (((b.toNat : Int) == 46) || ((b.toNat : Int) == 44)) := by
  unfold jD; rw [Bool.eq_iff_iff, decide_eq_true_iff, u46, u44]; simp

/-- Appending a slice of tokens, whatever it is, to one that the call owns. -/
theorem append_toks (w : World) (ty : TypeId) (base : Nat) (L M : List It) (v : Value) (p : Option Addr) (c : Nat) (h : OwnT base L v w) (hM : Its w p M) (hbase : base ≤ w.heap.size) (hl : (L.length + M.length) * 32 ≤ 140737488355328) :
    ∃ v' w', (Builtin.append_ #[22, 22] ty #[v, .slice p M.length c]).run Try.prog w = .ok v' w' ∧ OwnT base (L ++ M) v' w' ∧ w.grownBy w' v.ownBlock := by
  obtain ⟨i, hi, hz0, hz1, hz2⟩ := eT.hi
  by_cases h0 : M.length = 0
  · have hM0 : M = [] := List.length_eq_zero_iff.1 h0
    subst hM0
    rw [List.append_nil]
    refine ⟨v, w, ?_, h, World.grownBy.refl _ _⟩
    obtain ⟨p1, c1, rfl, hle, _⟩ := OwnT.its h
    refine run_append_nothing w 22 22 ty 57 i eT.ht hi p1 L.length c1 hle _ ?_
    cases p with
    | none => exact Src.ofNil w eT.ht c
    | some a => exact Src.ofSlice w eT.ht a 0 c [] (by simp) (fun j u hj => by simp at hj) (fun u hu => by cases hu)
  · obtain ⟨a, rfl, hlt, _⟩ := hM (by omega)
    have hm3 := icells_length M
    obtain ⟨g, cap, w', hr, h2, h3, h4, h5⟩ := run_append_lies (P := Try.prog) w 22 ty base 57 i _ 3 32 eT.ht hi hz0 hz1 hz2 eT.hzs eT.hsz v L.length (cellsOf ienc L) h a M.length c (icells M) hm3 hM.news (icells_one M) (by omega) (by unfold maxLen; omega) hl hbase _ rfl
    refine ⟨_, w', hr, ?_, h3⟩
    unfold OwnT OwnL
    rw [List.length_append, show cellsOf ienc (L ++ M) = cellsOf ienc L ++ icells M from by unfold cellsOf icells; rw [List.flatMap_append]; rfl]
    exact h2
theorem wpl_catT {w : World} {ops : Array Oper} {rest : List Oper} {o : Oper} {a : Act} {Q : Exit → Act → World → Prop} (hgd : o.guard = none) (s x : Operand) (ho : o.op = .call { callee := .builtin .append, args := #[s, x], argTypes := #[22, 22] })
    (w0 : World) (L M : List It) (v : Value) (hs : a.eval s = v) (h : AccT w0 L v w) (p : Option Addr) (m c : Nat) (hx : a.eval x = .slice p m c) (hm : m = M.length) (hM : Its w p M) (hl : (L.length + M.length) * 32 ≤ 140737488355328)
    (hK : ∀ v' w', AccT w0 (L ++ M) v' w' → wpList Try.prog ops Q rest (a.put o.dst v') w') : wpList Try.prog ops Q (o :: rest) a w := by
  subst hm
  obtain ⟨v', w', hr, h1, h2⟩ := append_toks w o.type w0.heap.size L M v p c h.own hM h.below.size hl
  exact Lib.wpList_append_run w hgd s x 22 22 ho v _ hs hx v' w' hr (hK v' w' (h.more h2 h1))


theorem heap_newT (w : World) (a b : Obj) : ((w.alloc a).alloc b).heap[w.heap.size + 1]? = some b := by
  have h := heap_alloc_new (w.alloc a) b
  rwa [show (w.alloc a).heap.size = w.heap.size + 1 by simp] at h
theorem tokI_one (k : Int) (t : ByteArray) (id : Int) (h : 2 ≤ k ∧ k ≤ 5) : tokI ⟨k, t, id⟩ = [⟨k, t, id⟩] := by unfold tokI; rw [if_neg (by show ¬ k = 1; omega), if_pos (by exact h)]
theorem tokI_none (k : Int) (t : ByteArray) (id : Int) (h1 : ¬ k = 1) (h : ¬ (2 ≤ k ∧ k ≤ 5)) : tokI ⟨k, t, id⟩ = [] := by unfold tokI; rw [if_neg (by show ¬ k = 1; omega), if_neg (by exact h)]
end Go.Proofs.Ytpkipdiecnokhaa
