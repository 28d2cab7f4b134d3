/- Sizes of what the generator makes. -/
import Derived.Test.YtphkpokoeaagfaaGreatDoorGnm
import Derived.Test.YtphkpokoeaagfaaGreatDoorCcW
namespace Go.Proofs.YtphkpokoeaagfaaGreatDoor
set_option linter.unusedVariables false

structure Sz (M : Nat) (s : St) (n : Nat) : Prop where
  fl : s.f.length ≤ n
  ft : txtI s.f ≤ 18 * n
  ol : s.o.length ≤ n
  ot : ∀ y ∈ s.o, y.t.size ≤ 5
  id : s.id ≤ n
  lo : M ≤ s.m
  m : s.m ≤ M + 10 * n
theorem name_size (t : ByteArray) : (nameB t).size ≤ t.size := by unfold nameB; rw [ByteArray.size_extract]; omega
structure NextOk (o : List It) (id m : Nat) (r : It × List It × Nat × Nat) : Prop where
  x : r.1.t.size ≤ 18
  ol : r.2.1.length ≤ o.length + 1
  ot : (∀ y ∈ o, y.t.size ≤ 5) → ∀ y ∈ r.2.1, y.t.size ≤ 5
  id : r.2.2.1 ≤ id + 1
  lo : m ≤ r.2.2.2
  m : r.2.2.2 ≤ m + 10
theorem next_ok (L : List Int) (tags nested : Bool) (o : List It) (id m : Nat) (ho : ∀ y ∈ o, y.t.size ≤ 5) : NextOk o id m (nextG L tags nested o id m) := by
  obtain ⟨l1, l2, l3⟩ := lineF_size L m 3
  have sl : ∀ k, (pickB slotL (nx L k 3)).size ≤ 5 := fun k => pickB_all (P := fun s => s.size ≤ 5) slotL (by decide) _ (nx_lt L k 3 (by decide))
  have se : ∀ k, (pickB emptyL (nx L k 2)).size ≤ 5 := fun k => pickB_all (P := fun s => s.size ≤ 5) emptyL (by decide) _ (nx_lt L k 2 (by decide))
  have so : ∀ k, (pickB openL (nx L k 3)).size ≤ 5 := fun k => pickB_all (P := fun s => s.size ≤ 5) openL (by decide) _ (nx_lt L k 3 (by decide))
  unfold nextG
  dsimp only
  generalize lineF L m 3 = F at *
  have ht : NextOk o id m (⟨1, F.1, 0⟩, o, id, F.2 + 1) := ⟨by show F.1.size ≤ _; omega, by show o.length ≤ _; omega, fun h => h, by show id ≤ _; omega, by show m ≤ F.2 + 1; omega, by show F.2 + 1 ≤ _; omega⟩
  split
  · exact ⟨by show (pickB _ _).size ≤ _; have := sl (F.2 + 1); omega, by show o.length ≤ _; omega, fun h => h, by show id ≤ _; omega, by show m ≤ F.2 + 1 + 1; omega, by show F.2 + 1 + 1 ≤ _; omega⟩
  split
  · split
    · exact ⟨by show (pickB _ _).size ≤ _; have := se (F.2 + 1); omega, by show o.length ≤ _; omega, fun h => h, by show id + 1 ≤ _; omega, by show m ≤ F.2 + 1 + 1; omega, by show F.2 + 1 + 1 ≤ _; omega⟩
    · exact ht
  split
  · split
    · have := so (F.2 + 1)
      refine ⟨by show (pickB _ _).size ≤ _; omega, by show (o ++ _).length ≤ _; simp, fun h y hy => ?_, by show id + 1 ≤ _; omega, by show m ≤ F.2 + 1 + 1; omega, by show F.2 + 1 + 1 ≤ _; omega⟩
      rcases List.mem_append.1 hy with hy | hy
      · exact h y hy
      · rw [List.mem_singleton] at hy; rw [hy]; exact this
    · exact ht
  split
  · split
    · rename_i hpos
      have hk : (pickK L nested o.length (F.2 + 1)).1 < o.length ∧ F.2 + 1 ≤ (pickK L nested o.length (F.2 + 1)).2 ∧ (pickK L nested o.length (F.2 + 1)).2 ≤ F.2 + 2 := by
        unfold pickK
        split
        · exact ⟨by show o.length - 1 < _; omega, by show F.2 + 1 ≤ F.2 + 1; omega, by show F.2 + 1 ≤ _; omega⟩
        · exact ⟨nx_lt _ _ _ hpos, by show F.2 + 1 ≤ F.2 + 2; omega, by show F.2 + 2 ≤ _; omega⟩
      generalize pickK L nested o.length (F.2 + 1) = K at *
      obtain ⟨k1, k2, k3⟩ := hk
      refine ⟨?_, by show (List.take _ o ++ List.drop _ o).length ≤ _; rw [List.length_append, List.length_take, List.length_drop]; omega, fun h y hy => ?_, by show id ≤ _; omega, by show m ≤ K.2; omega, by show K.2 ≤ _; omega⟩
      · show (nameB (o.getD K.1 _).t).size ≤ _
        rw [List.getD_eq_getElem?_getD, List.getElem?_eq_getElem k1]
        have h1 := ho _ (List.getElem_mem k1)
        have h2 := name_size (o[K.1]'k1).t
        show (nameB (o[K.1]'k1).t).size ≤ _
        omega
      · rcases List.mem_append.1 hy with hy | hy
        · exact h y (List.mem_of_mem_take hy)
        · exact h y (List.mem_of_mem_drop hy)
    · split
      · exact ⟨by show (1 : Nat) ≤ _; omega, by show o.length ≤ _; omega, fun h => h, by show id + 1 ≤ _; omega, by show m ≤ F.2 + 1; omega, by show F.2 + 1 ≤ _; omega⟩
      · exact ht
  · exact ht
theorem Sz.step {M n : Nat} {s : St} (h : Sz M s n) (L : List Int) (tags nested : Bool) : Sz M (stepG L tags nested s) (n + 1) := by
  have k := next_ok L tags nested s.o s.id s.m h.ot
  unfold stepG
  generalize nextG L tags nested s.o s.id s.m = r at *
  have a := norm_len (s.f ++ [r.1]); have b := txt_normed (s.f ++ [r.1])
  rw [List.length_append] at a; rw [txtI_snoc] at b
  simp at a
  have h1 := h.fl; have h2 := h.ft; have h3 := h.ol; have h4 := h.id; have h5 := h.m
  have k1 := k.x; have k2 := k.ol; have k3 := k.id; have k4 := k.m; have k5 := k.lo; have h6 := h.lo
  exact ⟨by show (norm _).length ≤ _; omega, by show txtI (norm _) ≤ _; omega, by show r.2.1.length ≤ _; omega, k.ot h.ot, by show r.2.2.1 ≤ _; omega, by show M ≤ r.2.2.2; omega, by show r.2.2.2 ≤ _; omega⟩
end Go.Proofs.YtphkpokoeaagfaaGreatDoor
