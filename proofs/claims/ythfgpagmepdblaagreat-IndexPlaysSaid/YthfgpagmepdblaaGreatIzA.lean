/- Index: rows of any elements: appended, cut; rows of stored lists. Index: contract of the reference's Candidates. -/
import Derived.Test.YthfgpagmepdblaaGreatIyA
import Derived.Test.YthfgpagmepdblaaGreatSgE
import Derived.Test.YthfgpagmepdblaaGreatScA
import Derived.BigQuiet
import Derived.Deep.QuietTactic
import Derived.Deep.Cut
namespace Go.Proofs.YthfgpagmepdblaaGreat
open Go.ChangeShapes Go.WideShapes Go.ChangeAt Go.RowKit Go.Maps
set_option linter.unusedVariables false
set_option linter.unusedSimpArgs false
set_option linter.unusedSectionVars false
set_option maxRecDepth 100000

theorem add_add (a : Addr) (n m : Nat) : (a.add n).add m = a.add (n + m) := by
  unfold Addr.add
  by_cases h1 : n = 0
  · rw [if_pos h1, h1]; simp
  · rw [if_neg h1]
    by_cases h2 : m = 0
    · rw [if_pos h2, h2, if_neg (by omega)]; rfl
    · rw [if_neg h2, if_neg (by omega)]; simp; omega
section
variable {α : Type} {t e size bytes : Nat} {z : Value} {enc : α → List Value}
/-- A row that can be read. -/
def RwO (enc : α → List Value) (W : World) (p : Option Addr) (L : List α) : Prop := 0 < L.length → ∃ a, p = some a ∧ a.block < W.heap.size ∧ ∀ j u, (cellsOf enc L)[j]? = some u → W.cell? (a.add j) = some u
theorem RwO.nil (W : World) (p : Option Addr) : RwO enc W p [] := fun h => by cases h
theorem RwO.kept {F : Nat → Prop} {W W' : World} {p : Option Addr} {L : List α} (h : RwO enc W p L) (k : Kept F W W') (hn : 0 < L.length → ∀ a, p = some a → ¬ F a.block) : RwO enc W' p L := fun h0 => by
  obtain ⟨a, e1, h1, h2⟩ := h h0
  exact ⟨a, e1, Nat.lt_of_lt_of_le h1 k.size, fun j u hj => k.cell (h2 j u hj) (by rw [add_block]; exact hn h0 a e1)⟩
theorem RwO.call {W W' : World} {p : Option Addr} {L : List α} (h : RwO enc W p L) (hb : Below W.heap.size W W') : RwO enc W' p L := h.kept (F := fun _ => False) (Kept.below hb) (fun _ _ _ => id)
theorem cells_app (L M : List α) : cellsOf enc (L ++ M) = cellsOf enc L ++ cellsOf enc M := by unfold cellsOf; rw [List.flatMap_append]
theorem RwO.take {W : World} {p : Option Addr} {L : List α} (h : RwO enc W p L) (k : Nat) : RwO enc W p (L.take k) := fun h0 => by
  obtain ⟨a, e1, h1, h2⟩ := h (by simp at h0; omega)
  refine ⟨a, e1, h1, fun j u hj => h2 j u ?_⟩
  rw [← List.take_append_drop k L, cells_app, List.getElem?_append_left (List.getElem?_eq_some_iff.1 hj).1]
  exact hj
theorem RwO.drop (E : El t e size bytes z enc) {W : World} {p : Option Addr} {L : List α} (h : RwO enc W p L) (k : Nat) (hk : k ≤ L.length) (q : Option Addr) (hq : ∀ a, p = some a → k < L.length → q = some (a.add (k * size))) : RwO enc W q (L.drop k) := fun h0 => by
  have hk2 : k < L.length := by simp at h0; omega
  obtain ⟨a, e1, h1, h2⟩ := h (by omega)
  refine ⟨a.add (k * size), hq a e1 hk2, by rw [add_block]; exact h1, fun j u hj => ?_⟩
  rw [add_add]
  refine h2 _ u ?_
  have hl : (cellsOf enc (L.take k)).length = k * size := by rw [cellsOf_len E, List.length_take, Nat.min_eq_left hk]
  rw [← List.take_append_drop k L, cells_app, List.getElem?_append_right (by omega), hl]
  simpa using hj
theorem own_rwo (E : El t e size bytes z enc) {base : Nat} {L : List α} {v : Value} {W : World} (h : OwnL e size enc base L v W) : ∃ p c, v = .slice p L.length c ∧ L.length ≤ c ∧ c ≤ maxLen ∧ RwO enc W p L ∧ ∀ a, p = some a → base ≤ a.block ∧ a.block < W.heap.size := by
  have hlt := World.ownsRow.lt h
  rcases id h.2 with ⟨hv, h0⟩ | ⟨g, cap, cur, hv, hg, hh, hn, hm, hs, ht⟩
  · have : L = [] := List.length_eq_zero_iff.1 h0
    subst this
    exact ⟨none, 0, hv, Nat.le_refl _, Nat.zero_le _, RwO.nil _ _, fun a ha => by cases ha⟩
  · have hl := hlt g (by rw [hv]; rfl)
    refine ⟨some ⟨g, 0, none⟩, cap, hv, hn, hm, fun _ => ⟨_, rfl, hl.2, fun j u hj => ?_⟩, fun a ha => by injection ha with ha; subst ha; exact hl⟩
    exact World.ownsRow.cells h (g := g) (by rw [hv]; rfl) j u hj
theorem RwO.news {W : World} {p : Option Addr} {L : List α} (h : RwO enc W p L) (h0 : 0 < L.length) : ∃ a, p = some a ∧ ∀ j u, (cellsOf enc L)[j]? = some u → W.cell? (a.add j) = some u := by
  obtain ⟨a, e1, _, h2⟩ := h h0; exact ⟨a, e1, h2⟩
theorem cells_one (E : El t e size bytes z enc) (L : List α) : ∀ u ∈ cellsOf enc L, u.oneCell' = true := fun u hu => by
  unfold cellsOf at hu
  rw [List.mem_flatMap] at hu
  obtain ⟨x, _, hx⟩ := hu
  exact E.one x u hx
/-- Appending a row, whatever it is, to one that the call owns. -/
theorem append_el (E : El t e size bytes z enc) (w : World) (ty : TypeId) (base : Nat) (L M : List α) (v : Value) (p : Option Addr) (c : Nat) (h : OwnL e size enc base L v w) (hM : RwO enc w p M) (hbase : base ≤ w.heap.size) (hl : L.length + M.length ≤ 1000000) (hby : bytes ≤ 100) :
    ∃ v' w', (Builtin.append_ #[t, t] ty #[v, .slice p M.length c]).run Tryz.prog w = .ok v' w' ∧ OwnL e size enc base (L ++ M) v' w' ∧ w.grownBy w' v.ownBlock := by
  obtain ⟨i, hi, hz0, hz1, hz2⟩ := E.hi
  have hmul : (L.length + M.length) * bytes ≤ 140737488355328 := Nat.le_trans (Nat.mul_le_mul hl hby) (by omega)
  by_cases h0 : M.length = 0
  · have hM0 : M = [] := List.length_eq_zero_iff.1 h0
    subst hM0
    rw [List.append_nil]
    refine ⟨v, w, ?_, h, World.grownBy.refl _ _⟩
    obtain ⟨p1, c1, rfl, hle, _⟩ := own_rwo E h
    refine run_append_nothing w t t ty e i E.ht hi p1 L.length c1 hle _ ?_
    cases p with
    | none => exact Src.ofNil w E.ht c
    | some a => exact Src.ofSlice w E.ht a 0 c [] (by simp) (fun j u hj => by simp at hj) (fun u hu => by cases hu)
  · obtain ⟨a, rfl, hnews⟩ := hM.news (by omega)
    obtain ⟨g, cap, w', hr, h2, h3, h4, h5⟩ := run_append_lies (P := Tryz.prog) w t ty base e i z size bytes E.ht hi hz0 hz1 hz2 E.hzs E.hsz v L.length (cellsOf enc L) h a M.length c (cellsOf enc M) (cellsOf_len E M) hnews (cells_one E M) (by omega) (by unfold maxLen; omega) hmul hbase _ rfl
    refine ⟨_, w', hr, ?_, h3⟩
    unfold OwnL
    rw [List.length_append, cells_app]
    exact h2
theorem own_litG2 (E : El t e size bytes z enc) {W : World} {g base : Nat} {cur : Array Value} {L : List α} (h : W.heap[g]? = some (.cells cur e (0, 0))) (hb : base ≤ g) (hc : cur.toList = cellsOf enc L) (hl : L.length ≤ maxLen) : OwnL e size enc base L (.slice (some ⟨g, 0, none⟩) L.length L.length) W := by
  have hs : cur.size = L.length * size := by have := congrArg List.length hc; rw [cellsOf_len E] at this; simpa using this
  refine ⟨by rw [cellsOf_len E], .inr ⟨g, L.length, cur, rfl, hb, h, Nat.le_refl _, hl, hs, ?_⟩⟩
  rw [hc, List.take_of_length_le (by rw [cellsOf_len E]; exact Nat.le_refl _)]
end
theorem rwo_ones {W : World} {p : Option Addr} {L : List Int} (h : RwO nenc W p L) : Ones W (Value.int .i64) p L := fun h0 => by
  obtain ⟨a, e1, h1, h2⟩ := h h0
  refine ⟨a, e1, h1, fun i hi => h2 i _ ?_⟩
  have e : ∀ l : List Int, cellsOf nenc l = l.map (Value.int .i64) := fun l => by
    unfold cellsOf
    induction l with
    | nil => rfl
    | cons x l ih => rw [List.flatMap_cons, ih]; rfl
  rw [e, List.getElem?_map, List.getElem?_eq_getElem hi]; rfl

/-! ### stored lists -/
/-- A stored list of the reference, as it lies. -/
structure SV where
  id : Int
  x : LV
def svenc (s : SV) : List Value := [.int .i64 s.id, lvS s.x]
def SV.sto (s : SV) : Sto := ⟨s.id, s.x.l⟩
theorem infoSV : (Tryz.prog.info? 56).map (fun i => (i.zero, i.size, i.bytes)) = some (some (.agg #[.int .i64 0, .slice none 0 0]), 2, 32) := by kernel_rfl
theorem eSV : El 30 56 2 32 (.agg #[.int .i64 0, .slice none 0 0]) svenc :=
  ⟨Tryz.underlying30, info_parts infoSV, rfl, by omega, fun _ => rfl, fun x u hu => by simp [svenc] at hu; rcases hu with rfl | rfl <;> rfl⟩
theorem sv_cells (L : List SV) : ∀ i (h : i < L.length), (cellsOf svenc L)[i * 2]? = some (.int .i64 (L[i]'h).id) ∧ (cellsOf svenc L)[i * 2 + 1]? = some (lvS (L[i]'h).x) := by
  induction L with
  | nil => intro i h; cases h
  | cons s L ih =>
    intro i h
    have e : cellsOf svenc (s :: L) = .int .i64 s.id :: lvS s.x :: cellsOf svenc L := rfl
    rw [e]
    cases i with
    | zero => exact ⟨rfl, rfl⟩
    | succ j =>
      have := ih j (by simp at h; omega)
      rw [show (j + 1) * 2 = j * 2 + 1 + 1 by omega]
      exact this
theorem sv_row {W : World} {p : Option Addr} {L : List SV} (h : RwO svenc W p L) (i : Nat) (hi : i < L.length) : ∃ a, p = some a ∧ a.block < W.heap.size ∧ W.cell? (a.add (i * 2)) = some (.int .i64 (L[i]'hi).id) ∧ W.cell? ⟨(a.add (i * 2)).block, (a.add (i * 2)).off + 1, none⟩ = some (lvS (L[i]'hi).x) := by
  obtain ⟨a, e1, h1, h2⟩ := h (by omega)
  obtain ⟨c0, c1⟩ := sv_cells L i hi
  exact ⟨a, e1, h1, h2 _ _ c0, by rw [add_next _ _ _ (by omega)]; exact h2 _ _ c1⟩
/-- What the lists of stored rows have. -/
structure SVs (W : World) (L : List SV) : Prop where
  its : ∀ s ∈ L, Its W s.x.p s.x.l ∧ s.x.l.length ≤ s.x.c ∧ s.x.c ≤ maxLen
  ok : ∀ s ∈ L, LOk s.x.l ∧ (Lit.int .i64 s.id).wf = true
theorem SVs.call {W W' : World} {L : List SV} (h : SVs W L) (hb : Below W.heap.size W W') : SVs W' L := ⟨fun s hs => ⟨(h.its s hs).1.call hb, (h.its s hs).2⟩, h.ok⟩
end Go.Proofs.YthfgpagmepdblaaGreat
namespace Go.Proofs.YthfgpagmepdblaaGreat
open Go.ChangeShapes Go.WideShapes Go.ChangeAt Go.RowKit Go.Maps Go.Sort
set_option linter.unusedVariables false
set_option linter.unusedSimpArgs false
set_option maxRecDepth 100000

theorem below_qI (w : World) (n : Nat) : RowKit.Below w.heap.size w (w.drewN n) := ⟨rfl, rfl, rfl, Nat.le_refl _, fun _ _ => rfl⟩
theorem posI_next (x : Int) (L : List Int) (j : Nat) (h : j < posI x L) (hj : j < L.length) : (L[j]'hj) < x := posI_below x L j hj h
set_option maxHeartbeats 25600000 in
theorem rcand_any (ps pq : Option Addr) (cs cq : Nat) (SS : List SV) (Q : List It) (w : World) (hS : RwO svenc w ps SS) (hV : SVs w SS) (hcs : SS.length ≤ cs) (hms : cs ≤ maxLen) (hQ : Its w pq Q) (hcq : Q.length ≤ cq) (hmq : cq ≤ maxLen) (lq : LOk Q) (pc : Int) (hn : SS.length ≤ 1000) :
    Calls Tryz.prog 13 #[.slice ps SS.length cs, .slice pq Q.length cq, .int .i64 pc] w (EndN (cand (isCand Q pc) (SS.map SV.sto)) w) := by
  have HB := Lib.hid (fun W (s : SV) (h1 : Its W pq Q) (h2 : Its W s.x.p s.x.l) h3 h4 (h5 : LOk s.x.l) => rbound_any pq s.x.p cq s.x.c Q s.x.l W h1 h2 hcq h3 hmq h4 (Nat.le_trans lq.len (by omega)) (Nat.le_trans h5.len (by omega)) lq.ok h5.ok)
  have HT := Lib.hid (fun W (s : SV) (h1 : Its W pq Q) (h2 : Its W s.x.p s.x.l) h3 h4 (h5 : LOk s.x.l) => rboth_any pq s.x.p cq s.x.c Q s.x.l W h1 h2 hcq h3 hmq h4 (Nat.le_trans lq.len (by omega)) (Nat.le_trans h5.len (by omega)))
  have HS := Lib.hid hS; have HV := Lib.hid hV; have HQ := Lib.hid hQ
  have HNX := Lib.hid (fun k (h : k < SS.length) => by
    have := cand_next (isCand Q pc) (SS.map SV.sto) k (by simpa using h)
    simpa [SV.sto] using this)
  have HLN := Lib.hid (fun k => by
    have := cand_len (isCand Q pc) ((SS.map SV.sto).take k)
    rw [List.length_take, List.length_map] at this
    exact (show (cand (isCand Q pc) ((SS.map SV.sto).take k)).length ≤ 1000 by omega))
  have hmb := hms; unfold maxLen at hmb
  clear hS hV hQ hms lq
  go_enter Tryz.func13, Tryz.ntmps13
  go_wp2_with fail
  go_loopw [7, 14] (fun v i wr => ∃ k : Nat, k ≤ SS.length ∧ i = .int .i64 k ∧ AccN w (cand (isCand Q pc) ((SS.map SV.sto).take k)) v wr) (fun _ i _ => SS.length - (intOf i).toNat)
  case atStart => exact ⟨0, Nat.zero_le _, rfl, Acc.start _⟩
  case round =>
    obtain ⟨k, hk, rfl, hA⟩ := hrel
    by_cases hlt : k < SS.length
    · have hnx := HNX.out k hlt
      have hln := HLN.out k
      obtain ⟨a, rfl, ha, c0, c1⟩ := sv_row (HS.out.call hA.below) k hlt
      obtain ⟨i1, i2, i3⟩ := HV.out.its _ (List.getElem_mem hlt)
      obtain ⟨k1, k2⟩ := HV.out.ok _ (List.getElem_mem hlt)
      have ik : (k : Int) < (SS.length : Int) := by omega
      have c1' : wr.cell? ⟨(a.add (k * 2)).block, (a.add (k * 2)).off + 1, none⟩ = some (.slice (SS[k]).x.p (SS[k]).x.l.length (SS[k]).x.c) := c1
      generalize SS[k] = s at *
      generalize cand (isCand Q pc) ((SS.map SV.sto).take k) = L at *
      have HN := Lib.hid hnx; have HK2 := Lib.hid k2
      have hvn := heap_alloc_new wr (.cells #[.int .i64 s.id, .slice s.x.p s.x.l.length s.x.c] 56)
      have hbv : RowKit.Below wr.heap.size wr (wr.alloc (.cells #[.int .i64 s.id, .slice s.x.p s.x.l.length s.x.c] 56)) := blw (RowKit.Below.refl _ _) _
      have hA1 := hA.call hbv
      have hI1 := i1.call hA1.below
      have hQ1 := HQ.out.call hA1.below
      have HA1 := Lib.hid hA1; have HI1 := Lib.hid hI1; have HQ1 := Lib.hid hQ1; have HVN := Lib.hid hvn
      have HOK := Lib.hid k1
      have hgl : wr.heap.size < (wr.alloc (.cells #[.int .i64 s.id, .slice s.x.p s.x.l.length s.x.c] 56)).heap.size := by simp
      clear hnx hvn hbv hA1 hI1 hQ1 c1 k1 k2 i1 hA
      go_wp2_with fail
      generalize (wr.alloc (.cells #[.int .i64 s.id, .slice s.x.p s.x.l.length s.x.c] 56)) = w1 at *
      have z0 : w1.cell? ⟨wr.heap.size, 0, none⟩ = some (.int .i64 s.id) := by rw [Lib.cell_of_heap HVN.out]; rfl
      have z1 : w1.cell? ⟨wr.heap.size, 1, none⟩ = some (.slice s.x.p s.x.l.length s.x.c) := by rw [Lib.cell_of_heap HVN.out]; rfl
      clear c0 c1' HVN ha
      generalize wr.heap.size = nv at *
      refine wp_region_held_drew (S := fun W => W.cell? ⟨nv, 0, none⟩ = some (.int .i64 s.id) ∧ W.cell? ⟨nv, 1, none⟩ = some (.slice s.x.p s.x.l.length s.x.c)) (by kernel_rfl) (⟨z0, z1⟩) (fun hHeld => ?_)
      have hA2 := HA1.out.call (drew_below w1); have hI2 := HI1.out.call (drew_below w1); have hQ2 := HQ1.out.call (drew_below w1)
      have y0 : w1.drew.cell? ⟨nv, 0, none⟩ = some (.int .i64 s.id) := z0; have y1 : w1.drew.cell? ⟨nv, 1, none⟩ = some (.slice s.x.p s.x.l.length s.x.c) := z1
      generalize w1.drew = w2 at *
      clear z0 z1 HA1 HI1 HQ1
      refine wpAnyH_take (i := 0) (v := ?_) rfl (by kernel_rfl) (by kernel_rfl) (by kernel_rfl) (fun _ _ _ h => h) (Or.inl ⟨by rfl, ?_⟩) hHeld ?_
      rotate_left
      · (intro w hSw; skip; go_simp; try with_reducible rfl)
      try simp only [Act.put, List.getElem_toArray, List.getElem_cons_zero, List.getElem_cons_succ, List.setIfInBounds_toArray, List.set_cons_zero, List.set_cons_succ]
      refine wpAnyH_take (i := 1) (v := ?_) rfl (by kernel_rfl) (by kernel_rfl) (by kernel_rfl) (fun _ _ _ h => h) (Or.inl ⟨by rfl, ?_⟩) hHeld ?_
      rotate_left
      · (intro w hSw; skip; go_simp; try with_reducible rfl)
      try simp only [Act.put, List.getElem_toArray, List.getElem_cons_zero, List.getElem_cons_succ, List.setIfInBounds_toArray, List.set_cons_zero, List.set_cons_succ]
      refine wpAnyH_take (i := 2) (v := ?_) rfl (by kernel_rfl) (by kernel_rfl) (by kernel_rfl) (fun _ _ _ h => h) (Or.inl ⟨by rfl, ?_⟩) hHeld ?_
      rotate_left
      · (intro w hSw; obtain ⟨c0, c1⟩ := hSw; go_simp; try with_reducible rfl)
      try simp only [Act.put, List.getElem_toArray, List.getElem_cons_zero, List.getElem_cons_succ, List.setIfInBounds_toArray, List.set_cons_zero, List.set_cons_succ]
      refine wpAnyH_take (i := 4) (v := ?_) rfl (by kernel_rfl) (by kernel_rfl) (by kernel_rfl) (fun _ _ _ h => h) (Or.inl ⟨by rfl, ?_⟩) hHeld ?_
      rotate_left
      · (intro w hSw; skip; go_simp; try with_reducible rfl)
      try simp only [Act.put, List.getElem_toArray, List.getElem_cons_zero, List.getElem_cons_succ, List.setIfInBounds_toArray, List.set_cons_zero, List.set_cons_succ]
      refine wpAnyH_take (i := 5) (v := ?_) rfl (by kernel_rfl) (by kernel_rfl) (by kernel_rfl) (fun _ _ _ h => h) (Or.inl ⟨by rfl, ?_⟩) hHeld ?_
      rotate_left
      · (intro w hSw; skip; go_simp; try with_reducible rfl)
      try simp only [Act.put, List.getElem_toArray, List.getElem_cons_zero, List.getElem_cons_succ, List.setIfInBounds_toArray, List.set_cons_zero, List.set_cons_succ]
      refine wpAnyH_take (i := 6) (v := ?_) rfl (by kernel_rfl) (by kernel_rfl) (by kernel_rfl) (fun _ _ _ h => h) (Or.inl ⟨by rfl, ?_⟩) hHeld ?_
      rotate_left
      · (intro w hSw; obtain ⟨c0, c1⟩ := hSw; go_simp; try with_reducible rfl)
      try simp only [Act.put, List.getElem_toArray, List.getElem_cons_zero, List.getElem_cons_succ, List.setIfInBounds_toArray, List.set_cons_zero, List.set_cons_succ]
      refine wpAnyH_take (i := 8) (v := ?_) rfl (by kernel_rfl) (by kernel_rfl) (by kernel_rfl) (fun _ _ _ h => h) (Or.inl ⟨by rfl, ?_⟩) hHeld ?_
      rotate_left
      · (intro w hSw; skip; go_simp; try with_reducible rfl)
      try simp only [Act.put, List.getElem_toArray, List.getElem_cons_zero, List.getElem_cons_succ, List.setIfInBounds_toArray, List.set_cons_zero, List.set_cons_succ]
      refine wpAnyH_ready (rs := [3]) (by kernel_rfl) (by simp) ?_
      refine (AllReadyH.cons rfl (fun K hK => ?_) AllReadyH.nil)
      go_simp
      refine (HB.out w2 s hQ2 hI2 i2 i3 HOK.out).mono ?_; rintro e w3 ⟨rfl, hb3⟩
      have hA3 := hA2.call hb3; have hI3 := hI2.call hb3; have hQ3 := hQ2.call hb3
      refine hK.out _ _ ((fun (kk : Kept (fun _ => False) w2 w3) => ⟨kk.cell y0 id, kk.cell y1 id⟩) (Kept.below hb3)) (fun hHeld => ?_)
      clear hK K
      try simp only [Act.put, List.getElem_toArray, List.getElem_cons_zero, List.getElem_cons_succ, List.setIfInBounds_toArray, List.set_cons_zero, List.set_cons_succ]
      refine wpAnyH_ready (rs := [7]) (by kernel_rfl) (by simp) ?_
      refine (AllReadyH.cons rfl (fun K hK => ?_) AllReadyH.nil)
      go_simp
      refine (HT.out w3 s hQ3 hI3 i2 i3 HOK.out).mono ?_; rintro e w4 ⟨rfl, hb4⟩
      have hA4 := hA3.call hb4
      refine hK.out _ _ ((fun (kk : Kept (fun _ => False) w3 w4) => ⟨kk.cell hHeld.1 id, kk.cell hHeld.2 id⟩) (Kept.below hb4)) (fun hHeld => ?_)
      clear hK K
      try simp only [Act.put, List.getElem_toArray, List.getElem_cons_zero, List.getElem_cons_succ, List.setIfInBounds_toArray, List.set_cons_zero, List.set_cons_succ]
      refine wpAnyH_ready (rs := [9]) (by kernel_rfl) (by simp) ?_
      refine (AllReadyH.cons rfl (fun K hK => ?_) AllReadyH.nil)
      go_simp
      refine (rallowed_any _ _ _).mono ?_; rintro e w5 ⟨rfl, rfl⟩
      refine hK.out _ _ (hHeld) (fun hHeld => ?_)
      clear hK K
      try simp only [Act.put, List.getElem_toArray, List.getElem_cons_zero, List.getElem_cons_succ, List.setIfInBounds_toArray, List.set_cons_zero, List.set_cons_succ]
      refine wpAnyH_take (i := 10) (v := ?_) rfl (by kernel_rfl) (by kernel_rfl) (by kernel_rfl) (fun _ _ _ h => h) (Or.inl ⟨by rfl, ?_⟩) hHeld ?_
      rotate_left
      · (intro w hSw; skip; go_simp; try with_reducible rfl)
      try simp only [Act.put, List.getElem_toArray, List.getElem_cons_zero, List.getElem_cons_succ, List.setIfInBounds_toArray, List.set_cons_zero, List.set_cons_succ]
      refine wpAnyH_done (by kernel_rfl) ?_ _
      obtain ⟨z0, z1⟩ := hHeld
      have HA4 := Lib.hid hA4
      have hcd : isCand Q pc s.x.l = decide (((bouN Q s.x.l : Nat) : Int) ≤ alw ((tot Q s.x.l : Nat) : Int) pc) := rfl
      clear hA2 hA3 hA4 hI2 hI3 hQ2 hQ3 y0 y1 hb3 hb4
      generalize ((bouN Q s.x.l : Nat) : Int) = BO at *
      generalize alw ((tot Q s.x.l : Nat) : Int) pc = AL at *
      by_cases hle : BO ≤ AL
      · have hgt : ¬ BO > AL := by omega
        have hq : isCand Q pc s.x.l = true := by rw [hcd]; simpa using hle
        have hnx2 := HN.out
        rw [hq, if_pos rfl] at hnx2
        have HN2 := Lib.hid hnx2
        clear hnx2 HN hcd hq
        go_wp2_with fail
        obtain ⟨pv, cv, hv, hv1, hv2, -⟩ := OwnL.ints HA4.out.own
        have hv1' := hv1
        unfold maxLen at hv2
        subst hv
        go_loopw [10] (fun j wr2 => ∃ jj : Nat, jj ≤ posI s.id L ∧ j = .int .i64 jj ∧ AccN w L (.slice pv L.length cv) wr2 ∧ wr2.cell? ⟨nv, 0, none⟩ = some (.int .i64 s.id)) (fun j _ => posI s.id L - (intOf j).toNat)
        case atStart => exact ⟨0, Nat.zero_le _, rfl, HA4.out, z0⟩
        case round =>
          clear z0 z1
          obtain ⟨jj, hjj, rfl, hA, z0⟩ := hrel
          obtain ⟨p6, c6, e6, -, -, hO⟩ := OwnL.ints hA.own
          injection e6 with e61 _ e63
          subst e61; subst e63
          have hpl := posI_le s.id L
          by_cases hlt2 : jj < posI s.id L
          · have hjl : jj < L.length := by omega
            have hless := posI_below s.id L jj hjl hlt2
            obtain ⟨ao, rfl, hao, x0⟩ := one_row hO jj hjl
            have j1 : (jj : Int) < (L.length : Int) := by omega
            generalize L[jj] = y at *
            have HA := Lib.hid hA
            clear hA hO
            go_upto_region 7 with fail
            go_quiet (fail)
            have hA6 := HA.out.call (below_qI _ nq)
            have z6 : (World.drewN _ nq).cell? ⟨nv, 0, none⟩ = some (.int .i64 s.id) := z0
            have HF := Lib.hid (And.intro hA6 z6)
            clear hA6 z6 x0 z0
            go_wp2_with fail
            go_roundw
            case rel =>
              obtain ⟨f1, f2⟩ := HF.out
              exact ⟨jj + 1, hlt2, by go_num, f1, f2⟩
            case measure => simp [intOf] <;> omega
          · have hjp : jj = posI s.id L := by omega
            by_cases hje : jj < L.length
            · have hst := posI_stop s.id L (by rw [← hjp]; exact hje)
              have hst2 : ¬ L[jj] < s.id := by
                have : ∀ (a b : Nat) (e : a = b) (ha : a < L.length) (hb : b < L.length), L[a] = L[b] := fun a b e ha hb => by subst e; rfl
                rw [this jj (posI s.id L) hjp hje (by rw [← hjp]; exact hje)]; exact hst
              obtain ⟨ao, rfl, hao, x0⟩ := one_row hO jj hje
              have j1 : (jj : Int) < (L.length : Int) := by omega
              generalize L[jj] = y at *
              have hst3 : s.id ≤ y := by omega
              have HJP := Lib.hid hjp
              clear hst hjp hjj hlt2
              have HA := Lib.hid hA
              clear hA hO
              go_upto_region 7 with fail
              go_quiet (fail)
              have hA6 := HA.out.call (below_qI _ nq)
              have z6 : (World.drewN _ nq).cell? ⟨nv, 0, none⟩ = some (.int .i64 s.id) := z0
              generalize World.drewN _ nq = w6 at *
              have HA6 := Lib.hid hA6
              clear hA6 z0 x0
              go_wp2_with fail
              refine wp_region_held_drew (S := fun W => W.cell? ⟨nv, 0, none⟩ = some (.int .i64 s.id)) (by kernel_rfl) (z6) (fun hHeld => ?_)
              have hA7 := HA6.out.call (drew_below w6)
              have z7 : w6.drew.cell? ⟨nv, 0, none⟩ = some (.int .i64 s.id) := z6
              generalize w6.drew = w7 at *
              clear z6 HA6
              have j0 : (0 : Int) ≤ (jj : Int) := by omega
              have jn : (jj : Int) ≤ (L.length : Int) := by omega
              have jc : (jj : Int) ≤ (cv : Int) := by omega
              have hne : ¬ cv = jj := by omega
              refine wpAnyH_take (i := 0) (v := ?_) rfl (by kernel_rfl) (by kernel_rfl) (by kernel_rfl) (fun _ _ _ h => h) (Or.inl ⟨by rfl, ?_⟩) hHeld ?_
              rotate_left
              · (intro w hSw; skip; go_simp; try with_reducible rfl)
              try simp only [Act.put, List.getElem_toArray, List.getElem_cons_zero, List.getElem_cons_succ, List.setIfInBounds_toArray, List.set_cons_zero, List.set_cons_succ]
              refine wpAnyH_take (i := 1) (v := ?_) rfl (by kernel_rfl) (by kernel_rfl) (by kernel_rfl) (fun _ _ _ h => h) (Or.inl ⟨by rfl, ?_⟩) hHeld ?_
              rotate_left
              · (intro w hSw; skip; go_simp; try with_reducible rfl)
              try simp only [Act.put, List.getElem_toArray, List.getElem_cons_zero, List.getElem_cons_succ, List.setIfInBounds_toArray, List.set_cons_zero, List.set_cons_succ]
              refine wpAnyH_take (i := 3) (v := ?_) rfl (by kernel_rfl) (by kernel_rfl) (by kernel_rfl) (fun _ _ _ h => h) (Or.inl ⟨by rfl, ?_⟩) hHeld ?_
              rotate_left
              · (intro w hSw; skip; go_simp; try with_reducible rfl)
              try simp only [Act.put, List.getElem_toArray, List.getElem_cons_zero, List.getElem_cons_succ, List.setIfInBounds_toArray, List.set_cons_zero, List.set_cons_succ]
              refine wpAnyH_take (i := 4) (v := ?_) rfl (by kernel_rfl) (by kernel_rfl) (by kernel_rfl) (fun _ _ _ h => h) (Or.inl ⟨by rfl, ?_⟩) hHeld ?_
              rotate_left
              · (intro w hSw; skip; go_simp; try with_reducible rfl)
              try simp only [Act.put, List.getElem_toArray, List.getElem_cons_zero, List.getElem_cons_succ, List.setIfInBounds_toArray, List.set_cons_zero, List.set_cons_succ]
              refine wpAnyH_take (i := 5) (v := ?_) rfl (by kernel_rfl) (by kernel_rfl) (by kernel_rfl) (fun _ _ _ h => h) (Or.inl ⟨by rfl, ?_⟩) hHeld ?_
              rotate_left
              · (intro w hSw; skip; go_simp; try with_reducible rfl)
              try simp only [Act.put, List.getElem_toArray, List.getElem_cons_zero, List.getElem_cons_succ, List.setIfInBounds_toArray, List.set_cons_zero, List.set_cons_succ]
              have hb8 : RowKit.Below w7.heap.size w7 (w7.alloc (.cells #[.int .i64 s.id] 3)) := blw (RowKit.Below.refl _ _) _
              have z8 : (w7.alloc (.cells #[.int .i64 s.id] 3)).cell? ⟨nv, 0, none⟩ = some (.int .i64 s.id) := (Kept.below (F := fun _ => False) hb8).cell z7 id
              have hlit := own_litG2 eN (L := [s.id]) (base := w7.heap.size) (heap_alloc_new w7 (.cells #[.int .i64 s.id] 3)) (Nat.le_refl _) rfl (by unfold maxLen; simp)
              obtain ⟨pr, cr, er, -, -, hrow, -⟩ := own_rwo eN hA7.own
              injection er with er1 _ er3
              subst er1; subst er3
              have hel : (L.drop jj).length = L.length - jj := List.length_drop
              have het : (L.take jj).length = jj := by rw [List.length_take]; omega
              obtain ⟨vt, w9, hrunA, hownT, hgA⟩ := append_el eN _ 22 w7.heap.size [s.id] (L.drop jj) (.slice (some ⟨w7.heap.size, 0, none⟩) 1 1) (some (ao.add jj)) (cv - jj) hlit (RwO.drop eN (hrow.call hb8) jj (by omega) _ (fun a2 ha2 hlt3 => by injection ha2 with ha2; rw [ha2, Nat.mul_one])) hb8.size (by first | (simp; omega) | simp) (by omega)
              have hb9 : RowKit.Below w7.heap.size w7 w9 := hb8.grown hgA hb8.size (fun j2 hj2 => (hlit.lt j2 hj2).1)
              have z9 : w9.cell? ⟨nv, 0, none⟩ = some (.int .i64 s.id) := (Kept.below (F := fun _ => False) hb9).cell z7 id
              rw [hel] at hrunA
              obtain ⟨pt, ct, rfl, ht1, ht2, ht3, -⟩ := own_rwo eN hownT
              obtain ⟨nt, hnt⟩ : ∃ nt, nt = ([s.id] ++ L.drop jj).length := ⟨_, rfl⟩
              obtain ⟨v1, w10, hrunB, hown1, hgB⟩ := append_el eN w9 22 w9.heap.size [] (L.take jj) (.slice none 0 0) (some ao) cv (OwnL.nil _ _) ((hrow.call hb9).take jj) (Nat.le_refl _) (by first | (simp; omega) | simp) (by omega)
              rw [het] at hrunB
              have hb10 : RowKit.Below w9.heap.size w9 w10 := (RowKit.Below.refl _ _).grown hgB (Nat.le_refl _) (fun j2 hj2 => by cases hj2)
              obtain ⟨v2, w11, hrunC, hown2, hgC⟩ := append_el eN w10 22 w9.heap.size ([] ++ L.take jj) ([s.id] ++ L.drop jj) v1 pt ct hown1 (ht3.call hb10) hb10.size (by first | (simp; omega) | simp) (by omega)
              have hb11 : RowKit.Below w9.heap.size w9 w11 := hb10.grown hgC hb10.size (fun j2 hj2 => (hown1.lt j2 hj2).1)
              rw [← hnt] at hrunA hrunC
              have hins : ([] ++ L.take jj) ++ ([s.id] ++ L.drop jj) = insI s.id L := by unfold insI; rw [← HJP.out]; rfl
              rw [hins] at hown2
              have hAf : AccN w (insI s.id L) v2 w11 := ⟨(hA7.below.trans (hb9.mono hA7.below.size)).trans (hb11.mono (Nat.le_trans hA7.below.size hb9.size)), ownsRow_base hown2 (Nat.le_trans hA7.below.size hb9.size)⟩
              have HAF := Lib.hid hAf
              clear hlit hrow hel het hownT hgA hb9 ht1 ht2 ht3 hnt hown1 hgB hb10 hown2 hgC hb11 hins hAf hA7 hb8
              refine wpAnyH_ready (rs := [2]) (by kernel_rfl) (by simp) ?_
              refine (AllReadyH.cons rfl (fun K hK => ?_) AllReadyH.nil)
              go_simp
              refine hK.out _ _ z8 (fun hHeld => ?_)
              clear hK K
              try simp only [Act.put, List.getElem_toArray, List.getElem_cons_zero, List.getElem_cons_succ, List.setIfInBounds_toArray, List.set_cons_zero, List.set_cons_succ]
              refine wpAnyH_ready (rs := [6]) (by kernel_rfl) (by simp) ?_
              refine (AllReadyH.cons rfl (fun K hK => ?_) AllReadyH.nil)
              refine step_of_wp rfl ?_
              refine Lib.wp_append_run _ _ _ 22 22 rfl _ _ rfl rfl _ w9 hrunA ?_
              refine hK.out _ _ z9 (fun hHeld => ?_)
              clear hK K
              try simp only [Act.put, List.getElem_toArray, List.getElem_cons_zero, List.getElem_cons_succ, List.setIfInBounds_toArray, List.set_cons_zero, List.set_cons_succ]
              refine wpAnyH_take (i := 7) (v := ?_) rfl (by kernel_rfl) (by kernel_rfl) (by kernel_rfl) (fun _ _ _ h => h) (Or.inl ⟨by rfl, ?_⟩) hHeld ?_
              rotate_left
              · (intro w hSw; skip; go_simp; try with_reducible rfl)
              try simp only [Act.put, List.getElem_toArray, List.getElem_cons_zero, List.getElem_cons_succ, List.setIfInBounds_toArray, List.set_cons_zero, List.set_cons_succ]
              refine wpAnyH_done (by kernel_rfl) ?_ _
              clear hrunA z7 z8 z9 hHeld
              go_wp2_with (first
                | (at_builtin; refine Lib.wpList_append_run _ rfl _ _ 22 22 rfl _ _ rfl rfl v1 w10 hrunB ?_)
                | (at_builtin; refine Lib.wpList_append_run _ rfl _ _ 22 22 rfl _ _ rfl rfl v2 w11 hrunC ?_))
              go_roundw
              case rel => exact ⟨k + 1, hlt, by go_num, by rw [HN2.out]; exact HAF.out⟩
              case measure => simp [intOf] <;> omega
            · have j1 : ¬ (jj : Int) < (L.length : Int) := by omega
              obtain rfl : jj = L.length := by omega
              have HJP := Lib.hid hjp
              clear hjp hjj hlt2 hje j1
              have HA := Lib.hid hA
              clear hA hO
              go_upto_region 7 with fail
              go_quiet (fail)
              have hA6 := HA.out.call (below_qI _ nq)
              have z6 : (World.drewN _ nq).cell? ⟨nv, 0, none⟩ = some (.int .i64 s.id) := z0
              generalize World.drewN _ nq = w6 at *
              have HA6 := Lib.hid hA6
              clear hA6 z0 
              go_wp2_with fail
              refine wp_region_held_drew (S := fun W => W.cell? ⟨nv, 0, none⟩ = some (.int .i64 s.id)) (by kernel_rfl) (z6) (fun hHeld => ?_)
              have hA7 := HA6.out.call (drew_below w6)
              have z7 : w6.drew.cell? ⟨nv, 0, none⟩ = some (.int .i64 s.id) := z6
              generalize w6.drew = w7 at *
              clear z6 HA6
              have j0 : (0 : Int) ≤ (L.length : Int) := by omega
              have jn : (L.length : Int) ≤ (L.length : Int) := by omega
              have jc : (L.length : Int) ≤ (cv : Int) := by omega
              refine wpAnyH_take (i := 0) (v := ?_) rfl (by kernel_rfl) (by kernel_rfl) (by kernel_rfl) (fun _ _ _ h => h) (Or.inl ⟨by rfl, ?_⟩) hHeld ?_
              rotate_left
              · (intro w hSw; skip; go_simp; try with_reducible rfl)
              try simp only [Act.put, List.getElem_toArray, List.getElem_cons_zero, List.getElem_cons_succ, List.setIfInBounds_toArray, List.set_cons_zero, List.set_cons_succ]
              refine wpAnyH_take (i := 1) (v := ?_) rfl (by kernel_rfl) (by kernel_rfl) (by kernel_rfl) (fun _ _ _ h => h) (Or.inl ⟨by rfl, ?_⟩) hHeld ?_
              rotate_left
              · (intro w hSw; skip; go_simp; try with_reducible rfl)
              try simp only [Act.put, List.getElem_toArray, List.getElem_cons_zero, List.getElem_cons_succ, List.setIfInBounds_toArray, List.set_cons_zero, List.set_cons_succ]
              refine wpAnyH_take (i := 3) (v := ?_) rfl (by kernel_rfl) (by kernel_rfl) (by kernel_rfl) (fun _ _ _ h => h) (Or.inl ⟨by rfl, ?_⟩) hHeld ?_
              rotate_left
              · (intro w hSw; skip; go_simp; try with_reducible rfl)
              try simp only [Act.put, List.getElem_toArray, List.getElem_cons_zero, List.getElem_cons_succ, List.setIfInBounds_toArray, List.set_cons_zero, List.set_cons_succ]
              refine wpAnyH_take (i := 4) (v := ?_) rfl (by kernel_rfl) (by kernel_rfl) (by kernel_rfl) (fun _ _ _ h => h) (Or.inl ⟨by rfl, ?_⟩) hHeld ?_
              rotate_left
              · (intro w hSw; skip; go_simp; try with_reducible rfl)
              try simp only [Act.put, List.getElem_toArray, List.getElem_cons_zero, List.getElem_cons_succ, List.setIfInBounds_toArray, List.set_cons_zero, List.set_cons_succ]
              refine wpAnyH_take (i := 5) (v := ?_) rfl (by kernel_rfl) (by kernel_rfl) (by kernel_rfl) (fun _ _ _ h => h) (Or.inl ⟨by rfl, ?_⟩) hHeld ?_
              rotate_left
              · (intro w hSw; skip; go_simp; try with_reducible rfl)
              try simp only [Act.put, List.getElem_toArray, List.getElem_cons_zero, List.getElem_cons_succ, List.setIfInBounds_toArray, List.set_cons_zero, List.set_cons_succ]
              generalize (if cv = L.length then pv else Option.map (fun x => x.add L.length) pv) = qq
              have hb8 : RowKit.Below w7.heap.size w7 (w7.alloc (.cells #[.int .i64 s.id] 3)) := blw (RowKit.Below.refl _ _) _
              have z8 : (w7.alloc (.cells #[.int .i64 s.id] 3)).cell? ⟨nv, 0, none⟩ = some (.int .i64 s.id) := (Kept.below (F := fun _ => False) hb8).cell z7 id
              have hlit := own_litG2 eN (L := [s.id]) (base := w7.heap.size) (heap_alloc_new w7 (.cells #[.int .i64 s.id] 3)) (Nat.le_refl _) rfl (by unfold maxLen; simp)
              obtain ⟨pr, cr, er, -, -, hrow, -⟩ := own_rwo eN hA7.own
              injection er with er1 _ er3
              subst er1; subst er3
              have hel : (L.drop L.length).length = 0 := by simp
              have het : (L.take L.length).length = L.length := by rw [List.length_take]; omega
              obtain ⟨vt, w9, hrunA, hownT, hgA⟩ := append_el eN _ 22 w7.heap.size [s.id] (L.drop L.length) (.slice (some ⟨w7.heap.size, 0, none⟩) 1 1) qq (cv - L.length) hlit (RwO.drop eN (hrow.call hb8) L.length (by omega) _ (fun a2 ha2 hlt3 => absurd hlt3 (by omega))) hb8.size (by first | (simp; omega) | simp) (by omega)
              have hb9 : RowKit.Below w7.heap.size w7 w9 := hb8.grown hgA hb8.size (fun j2 hj2 => (hlit.lt j2 hj2).1)
              have z9 : w9.cell? ⟨nv, 0, none⟩ = some (.int .i64 s.id) := (Kept.below (F := fun _ => False) hb9).cell z7 id
              rw [hel] at hrunA
              obtain ⟨pt, ct, rfl, ht1, ht2, ht3, -⟩ := own_rwo eN hownT
              obtain ⟨nt, hnt⟩ : ∃ nt, nt = ([s.id] ++ L.drop L.length).length := ⟨_, rfl⟩
              obtain ⟨v1, w10, hrunB, hown1, hgB⟩ := append_el eN w9 22 w9.heap.size [] (L.take L.length) (.slice none 0 0) pv cv (OwnL.nil _ _) ((hrow.call hb9).take L.length) (Nat.le_refl _) (by first | (simp; omega) | simp) (by omega)
              rw [het] at hrunB
              have hb10 : RowKit.Below w9.heap.size w9 w10 := (RowKit.Below.refl _ _).grown hgB (Nat.le_refl _) (fun j2 hj2 => by cases hj2)
              obtain ⟨v2, w11, hrunC, hown2, hgC⟩ := append_el eN w10 22 w9.heap.size ([] ++ L.take L.length) ([s.id] ++ L.drop L.length) v1 pt ct hown1 (ht3.call hb10) hb10.size (by first | (simp; omega) | simp) (by omega)
              have hb11 : RowKit.Below w9.heap.size w9 w11 := hb10.grown hgC hb10.size (fun j2 hj2 => (hown1.lt j2 hj2).1)
              rw [← hnt] at hrunA hrunC
              have hins : ([] ++ L.take L.length) ++ ([s.id] ++ L.drop L.length) = insI s.id L := by unfold insI; rw [← HJP.out]; rfl
              rw [hins] at hown2
              have hAf : AccN w (insI s.id L) v2 w11 := ⟨(hA7.below.trans (hb9.mono hA7.below.size)).trans (hb11.mono (Nat.le_trans hA7.below.size hb9.size)), ownsRow_base hown2 (Nat.le_trans hA7.below.size hb9.size)⟩
              have HAF := Lib.hid hAf
              clear hlit hrow hel het hownT hgA hb9 ht1 ht2 ht3 hnt hown1 hgB hb10 hown2 hgC hb11 hins hAf hA7 hb8
              refine wpAnyH_ready (rs := [2]) (by kernel_rfl) (by simp) ?_
              refine (AllReadyH.cons rfl (fun K hK => ?_) AllReadyH.nil)
              go_simp
              refine hK.out _ _ z8 (fun hHeld => ?_)
              clear hK K
              try simp only [Act.put, List.getElem_toArray, List.getElem_cons_zero, List.getElem_cons_succ, List.setIfInBounds_toArray, List.set_cons_zero, List.set_cons_succ]
              refine wpAnyH_ready (rs := [6]) (by kernel_rfl) (by simp) ?_
              refine (AllReadyH.cons rfl (fun K hK => ?_) AllReadyH.nil)
              refine step_of_wp rfl ?_
              refine Lib.wp_append_run _ _ _ 22 22 rfl _ _ rfl rfl _ w9 hrunA ?_
              refine hK.out _ _ z9 (fun hHeld => ?_)
              clear hK K
              try simp only [Act.put, List.getElem_toArray, List.getElem_cons_zero, List.getElem_cons_succ, List.setIfInBounds_toArray, List.set_cons_zero, List.set_cons_succ]
              refine wpAnyH_take (i := 7) (v := ?_) rfl (by kernel_rfl) (by kernel_rfl) (by kernel_rfl) (fun _ _ _ h => h) (Or.inl ⟨by rfl, ?_⟩) hHeld ?_
              rotate_left
              · (intro w hSw; skip; go_simp; try with_reducible rfl)
              try simp only [Act.put, List.getElem_toArray, List.getElem_cons_zero, List.getElem_cons_succ, List.setIfInBounds_toArray, List.set_cons_zero, List.set_cons_succ]
              refine wpAnyH_done (by kernel_rfl) ?_ _
              clear hrunA z7 z8 z9 hHeld
              go_wp2_with (first
                | (at_builtin; refine Lib.wpList_append_run _ rfl _ _ 22 22 rfl _ _ rfl rfl v1 w10 hrunB ?_)
                | (at_builtin; refine Lib.wpList_append_run _ rfl _ _ 22 22 rfl _ _ rfl rfl v2 w11 hrunC ?_))
              go_roundw
              case rel => exact ⟨k + 1, hlt, by go_num, by rw [HN2.out]; exact HAF.out⟩
              case measure => simp [intOf] <;> omega
      · have hgt : BO > AL := by omega
        have hq : isCand Q pc s.x.l = false := by rw [hcd]; simpa using hle
        have hnx2 := HN.out
        rw [hq, if_neg (by simp)] at hnx2
        have HN2 := Lib.hid hnx2
        clear hnx2 HN hcd hq z0 z1
        go_wp2_with fail
        go_roundw
        case rel => exact ⟨k + 1, hlt, by go_num, by rw [HN2.out]; exact HA4.out⟩
        case measure => simp [intOf] <;> omega
    · obtain rfl : k = SS.length := by omega
      have e : (SS.map SV.sto).take SS.length = SS.map SV.sto := List.take_of_length_le (by simp)
      rw [e] at hA
      go_wp2_with fail
      go_ret
      exact ⟨_, rfl, hA⟩
end Go.Proofs.YthfgpagmepdblaaGreat
