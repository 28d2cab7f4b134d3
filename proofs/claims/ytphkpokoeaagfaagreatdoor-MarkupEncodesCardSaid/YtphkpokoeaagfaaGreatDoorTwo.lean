/- Two slices of numbers that a call makes side by side; what Shape answers. -/
import Derived.Test.YtphkpokoeaagfaaGreatDoorFst
import Derived.Test.YtphkpokoeaagfaaGreatDoorNrm
namespace Go.Proofs.YtphkpokoeaagfaaGreatDoor
open Go.ChangeShapes Go.WideShapes Go.ChangeAt Go.RowKit
set_option linter.unusedVariables false
set_option maxRecDepth 100000

theorem OwnL.keepAt {α : Type} {e size : Nat} {enc : α → List Value} {base : Nat} {L : List α} {v : Value} {w w1 : World} (h : OwnL e size enc base L v w) (hb : ∀ k, v.ownBlock = some k → w1.heap[k]? = w.heap[k]?) : OwnL e size enc base L v w1 := by
  obtain ⟨h1, h2⟩ := h
  refine ⟨h1, ?_⟩
  rcases h2 with h2 | ⟨g, cap, cur, hv, hg, hh, r⟩
  · exact .inl h2
  · refine .inr ⟨g, cap, cur, hv, hg, ?_, r⟩
    rw [hb g (by rw [hv]; rfl)]; exact hh
abbrev OwnN := OwnL 3 1 nenc
structure Two (w : World) (Lc Lo : List Int) (vc vo : Value) (wr : World) : Prop where
  below : Below w.heap.size w wr
  c : OwnN w.heap.size Lc vc wr
  o : OwnN w.heap.size Lo vo wr
  ne : ∀ k, vc.ownBlock = some k → vo.ownBlock ≠ some k
theorem Two.start (w : World) : Two w [] [] (.slice none 0 0) (.slice none 0 0) w := ⟨Below.refl _ _, OwnL.nil _ _, OwnL.nil _ _, fun k h => by simp [Value.ownBlock] at h⟩
theorem Two.swap {w : World} {Lc Lo : List Int} {vc vo : Value} {wr : World} (h : Two w Lc Lo vc vo wr) : Two w Lo Lc vo vc wr := ⟨h.below, h.o, h.c, fun k h1 h2 => h.ne k h2 h1⟩
theorem Two.alloc {w : World} {Lc Lo : List Int} {vc vo : Value} {wr : World} (h : Two w Lc Lo vc vo wr) (ob : Obj) : Two w Lc Lo vc vo (wr.alloc ob) := ⟨blw h.below ob, World.ownsRow.alloc h.c ob, World.ownsRow.alloc h.o ob, h.ne⟩
theorem Two.drewN {w : World} {Lc Lo : List Int} {vc vo : Value} {wr : World} (h : Two w Lc Lo vc vo wr) (n : Nat) : Two w Lc Lo vc vo (wr.drewN n) := ⟨⟨h.below.os, h.below.tape, h.below.output, h.below.size, h.below.block⟩, h.c, h.o, h.ne⟩
theorem Two.push {w : World} {Lc Lo : List Int} {vc vo : Value} {W w' : World} (h : Two w Lc Lo vc vo W) {y : Int} {g n cap : Nat} (hown : OwnN w.heap.size (Lo ++ [y]) (.slice (some ⟨g, 0, none⟩) n cap) w') (hgr : W.grownBy w' vo.ownBlock) (hloc : vo.ownBlock = some g ∨ g = W.heap.size) :
    Two w Lc (Lo ++ [y]) vc (.slice (some ⟨g, 0, none⟩) n cap) w' := by
  refine ⟨h.below.grown hgr h.below.size (fun k hk => (h.o.lt k hk).1), h.c.keepAt (fun k hk => hgr.block k (h.c.lt k hk).2 (fun e => h.ne k hk e.symm)), hown, fun k hk e => ?_⟩
  have e' : g = k := by simpa [Value.ownBlock] using e
  subst e'
  rcases hloc with h1 | h1
  · exact h.ne _ hk h1
  · have := (h.c.lt _ hk).2; omega
theorem OwnN.pop {base : Nat} {L : List Int} {y : Int} {g n cap : Nat} {w : World} (h : OwnN base (L ++ [y]) (.slice (some ⟨g, 0, none⟩) n cap) w) : OwnN base L (.slice (some ⟨g, 0, none⟩) L.length cap) w := by
  obtain ⟨h1, h2⟩ := h
  have hcl : ∀ M : List Int, (cellsOf nenc M).length = M.length * 1 := cellsOf_len eN
  refine ⟨hcl L, ?_⟩
  rcases h2 with ⟨h2, _⟩ | ⟨g', cap', cur, hv, hg, hh, hl, hm, hs, ht⟩
  · cases h2
  · injection hv with e1 e2 e3
    injection e1 with e1; injection e1 with e1; subst e1; subst e3
    rw [List.length_append] at hl ht
    refine .inr ⟨g, cap, cur, rfl, hg, hh, by omega, hm, hs, ?_⟩
    have := congrArg (List.take (L.length * 1)) ht
    rw [List.take_take, Nat.min_eq_left (by simp)] at this
    rw [this, show cellsOf nenc (L ++ [y]) = cellsOf nenc L ++ nenc y from by unfold cellsOf; rw [List.flatMap_append]; simp, ← hcl L, List.take_left]
theorem Two.pop {w : World} {Lc L : List Int} {y : Int} {vc : Value} {g n cap : Nat} {W : World} (h : Two w Lc (L ++ [y]) vc (.slice (some ⟨g, 0, none⟩) n cap) W) : Two w Lc L vc (.slice (some ⟨g, 0, none⟩) L.length cap) W :=
  ⟨h.below, h.c, h.o.pop, fun k hk e => h.ne k hk (by simpa [Value.ownBlock] using e)⟩

def shS (st : Option (List Int × List Int)) (x : It) : Option (List Int × List Int) := match st with
  | none => none
  | some (c, o) => if x.k = 2 then some (c, o ++ [x.id]) else if x.k = 3 then (match o.getLast? with | none => some (c ++ [x.id], o) | some y => if y = x.id then some (c, o.dropLast) else none) else some (c, o)
def shL (l : List It) : Option (List Int × List Int) := l.foldl shS (some ([], []))
theorem sh_next (l : List It) (k : Nat) (h : k < l.length) : shL (l.take (k + 1)) = shS (shL (l.take k)) (l[k]'h) := by
  rw [List.take_succ_eq_append_getElem h]; unfold shL; rw [List.foldl_append]; rfl
theorem sh_stuck (l : List It) : l.foldl shS none = none := by
  induction l with
  | nil => rfl
  | cons x t ih => exact ih
theorem sh_bad (l : List It) (k : Nat) (h : shL (l.take k) = none) : shL l = none := by
  rw [← List.take_append_drop k l]; unfold shL at *; rw [List.foldl_append, h]; exact sh_stuck _
theorem sh_len (l : List It) : ∀ k, k ≤ l.length → ∀ c o, shL (l.take k) = some (c, o) → c.length + o.length ≤ k := by
  intro k
  induction k with
  | zero => intro _ c o h; simp [shL] at h; obtain ⟨rfl, rfl⟩ := h; simp
  | succ j ih =>
    intro hj c o h
    rw [sh_next l j hj] at h
    cases hp : shL (l.take j) with
    | none => rw [hp] at h; cases h
    | some st =>
      obtain ⟨c1, o1⟩ := st
      have := ih (by omega) c1 o1 hp
      rw [hp] at h
      unfold shS at h
      dsimp only at h
      split at h
      · cases h; simp; omega
      · split at h
        · cases hl : o1.getLast? with
          | none => rw [hl] at h; cases h; simp; omega
          | some y =>
            rw [hl] at h; dsimp only at h
            split at h
            · cases h; simp; omega
            · cases h
        · cases h; omega
/-- What Shape answers. -/
def EndSh (st : Option (List Int × List Int)) (w : World) (e : Ending) (w' : World) : Prop := match st with
  | none => e = .returned (.tuple #[.slice none 0 0, .slice none 0 0, .bool false]) ∧ Below w.heap.size w w'
  | some (c, o) => ∃ vc vo, e = .returned (.tuple #[vc, vo, .bool true]) ∧ Two w c o vc vo w'
end Go.Proofs.YtphkpokoeaagfaaGreatDoor
