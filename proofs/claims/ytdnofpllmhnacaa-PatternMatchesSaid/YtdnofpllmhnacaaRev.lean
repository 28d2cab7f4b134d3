/- Reverse: Clone, slices.Reverse, Reverse; the reference's Reverse. -/
import Derived.Test.YtdnofpllmhnacaaApp
import Derived.Lib.SliceRun
namespace Go.Proofs.Ytdnofpllmhnacaa
open Go.ChangeShapes Go.WideShapes Go.ChangeAt Go.RowKit Go.Sort
set_option linter.unusedVariables false
set_option linter.unusedSimpArgs false
set_option maxRecDepth 100000

section
variable {P : Program}
theorem step_load_mid {ops : Array Oper} {o : Oper} {a : Act} {w : World} {K : Act → World → Prop} {Q : Exit → Act → World → Prop} {E : Prop} (hgd : o.guard = none) (ty : TypeId) (x : Operand) (ho : o.op = .load ty x)
    (b off : Nat) (hx : a.eval x = .pointer (some ⟨b, off, none⟩)) (cs : List Value) (d : TypeDesc) (hc : w.rangeAt b off cs) (hu : P.underlying ty = some d) (hd : d.isRow = true) (hi : (P.info? ty).map (·.size) = some cs.length)
    (h : K (a.put o.dst (.agg cs.toArray)) w) : if Region.wanted o (yielded ops a.tmps) = true then Oper.wp P o a w K Q else E := by
  have hw : Region.wanted o (yielded ops a.tmps) = true := by simp [Region.wanted, hgd]
  rw [if_pos hw]
  exact wp_load_mid ty x ho b off hx cs d hc hu hd hi h
theorem step_store_mid {ops : Array Oper} {o : Oper} {a : Act} {w : World} {K : Act → World → Prop} {Q : Exit → Act → World → Prop} {E : Prop} (hgd : o.guard = none) (ty : TypeId) (x y : Operand) (ho : o.op = .store ty x y)
    (b off : Nat) (cells : Array Value) (hx : a.eval x = .pointer (some ⟨b, off, none⟩)) (hy : a.eval y = .agg cells) (ht : w.there b off cells.size) (hi : (P.info? ty).map (·.size) = some cells.size) (h1 : cells.all (·.oneCell') = true)
    (h : K (a.put o.dst undef) (w.setCells b off cells.toList)) : if Region.wanted o (yielded ops a.tmps) = true then Oper.wp P o a w K Q else E := by
  have hw : Region.wanted o (yielded ops a.tmps) = true := by simp [Region.wanted, hgd]
  rw [if_pos hw]
  exact wp_store_mid ty x y ho b off cells hx hy ht hi h1 h
end

/-- A row of atoms, element by element. -/
structure RowA (g cap : Nat) (P : List At) (W : World) : Prop where
  row : ∃ cur, W.heap[g]? = some (.cells cur 37 (0, 0)) ∧ cur.size = cap * 34
  each : ∀ i (h : i < P.length), W.rangeAt g (i * 34) (P[i]'h).cs
  le : P.length ≤ cap
theorem RowA.lt {g cap : Nat} {P : List At} {W : World} (h : RowA g cap P W) : g < W.heap.size := by
  obtain ⟨cur, hc, _⟩ := h.row; exact (Array.getElem?_eq_some_iff.1 hc).1
theorem RowA.at_there {g cap : Nat} {P : List At} {W : World} (h : RowA g cap P W) (i : Nat) (hi : i < P.length) : W.there g (i * 34) 34 := fun j hj => by
  obtain ⟨cur, hc, hs⟩ := h.row
  refine ⟨?_, Lib.frozen_of_heap hc _⟩
  have := (h.each i hi).isSome j (by rw [At.cs_length]; exact hj)
  exact this
theorem RowA.set {g cap : Nat} {P : List At} {W : World} (h : RowA g cap P W) (i : Nat) (hi : i < P.length) (x : At) : RowA g cap (P.set i x) (W.setCells g (i * 34) x.cs) := by
  obtain ⟨cur, hc, hs⟩ := h.row
  refine ⟨⟨_, setCells_row x.cs W g (i * 34) cur 37 hc, by rw [wrA_size]; exact hs⟩, fun j hj => ?_, by rw [List.length_set]; exact h.le⟩
  rw [List.length_set] at hj
  by_cases e : i = j
  · subst e
    rw [List.getElem_set_self]
    exact World.rangeAt_setCells_same W g (i * 34) x.cs (by rw [At.cs_length]; exact h.at_there i hi)
  · rw [List.getElem_set_ne e]
    exact World.rangeAt_setCells_apart (h.each j hj) g (i * 34) x.cs (by rw [At.cs_length, At.cs_length]; omega)
theorem RowA.drew {g cap : Nat} {P : List At} {W : World} (h : RowA g cap P W) : RowA g cap P W.drew := ⟨h.row, h.each, h.le⟩
theorem OwA.row {base g cap n : Nat} {P : List At} {W : World} (h : OwA base P (.slice (some ⟨g, 0, none⟩) n cap) W) : RowA g cap P W ∧ base ≤ g ∧ n = P.length ∧ cap ≤ maxLen := by
  rcases h.2 with ⟨hv, h0⟩ | ⟨g', cap', cur, hv, hg, hh, hn, hm, hs, ht⟩
  · cases hv
  · injection hv with hv1 hv2 hv3
    injection hv1 with hv1
    injection hv1 with hv1 _ _
    subst hv1; subst hv2; subst hv3
    refine ⟨⟨⟨cur, hh, hs⟩, fun i hi j u hu => ?_, hn⟩, hg, rfl, hm⟩
    have hc := World.ownsRow.cells h (g := g) rfl (i * 34 + j) u (ca_at P i hi j u hu)
    rwa [add_flat, Nat.zero_add] at hc
theorem RowA.own {base g cap : Nat} {P : List At} {W : World} (h : RowA g cap P W) (hb : base ≤ g) (hm : cap ≤ maxLen) : OwA base P (.slice (some ⟨g, 0, none⟩) P.length cap) W := by
  obtain ⟨cur, hc, hs⟩ := h.row
  refine ⟨ca_len P, .inr ⟨g, cap, cur, rfl, hb, hc, h.le, hm, hs, ?_⟩⟩
  apply List.ext_getElem?
  intro j
  by_cases hj : j < P.length * 34
  · rw [List.getElem?_take_of_lt hj]
    have hl : j < (ca P).length := by rw [ca_len]; exact hj
    obtain ⟨i, k, hi, rfl, hu⟩ := ca_get P j _ (List.getElem?_eq_getElem hl)
    have := h.each i hi k _ hu
    rw [cell_of_row _ _ _ _ _ _ hc] at this
    rw [List.getElem?_eq_getElem hl, ← this]; simp
  · rw [List.getElem?_eq_none (by rw [List.length_take]; omega), List.getElem?_eq_none (by rw [ca_len]; omega)]
/-- The list behind k swaps. -/
def swK (P : List At) : Nat → List At
  | 0 => P
  | k + 1 => ((swK P k).set k ((swK P k)[P.length - 1 - k]!)).set (P.length - 1 - k) ((swK P k)[k]!)
theorem swK_len (P : List At) (k : Nat) : (swK P k).length = P.length := by
  induction k with
  | zero => rfl
  | succ k ih => simp [swK, ih]
theorem swK_at (P : List At) (k : Nat) (hk : 2 * k ≤ P.length) : ∀ t, t < P.length → (swK P k)[t]? = if t < k ∨ P.length - 1 - t < k then P[P.length - 1 - t]? else P[t]? := by
  induction k with
  | zero => intro t ht; rw [if_neg (by omega)]; rfl
  | succ k ih =>
    intro t ht
    have ih' := ih (by omega)
    have hl := swK_len P k
    have e1 : (swK P k)[P.length - 1 - k]! = P[P.length - 1 - k]! := by
      have h1 := ih' (P.length - 1 - k) (by omega)
      rw [if_neg (by omega)] at h1
      rw [List.getElem!_eq_getElem?_getD, List.getElem!_eq_getElem?_getD, h1]
    have e2 : (swK P k)[k]! = P[k]! := by
      have h1 := ih' k (by omega)
      rw [if_neg (by omega)] at h1
      rw [List.getElem!_eq_getElem?_getD, List.getElem!_eq_getElem?_getD, h1]
    rw [swK, e1, e2, List.getElem?_set, List.length_set, hl]
    by_cases h1 : P.length - 1 - k = t
    · rw [if_pos h1, if_pos (show P.length - 1 - k < P.length by omega), if_pos (by omega), show P.length - 1 - t = k by omega, List.getElem?_eq_getElem (by omega), getElem!_pos P k (by omega)]
    · rw [if_neg h1, List.getElem?_set, hl]
      by_cases h2 : k = t
      · subst h2
        rw [if_pos rfl, if_pos ht, if_pos (by omega), List.getElem?_eq_getElem (by omega), getElem!_pos P _ (by omega)]
      · rw [if_neg h2, ih' t ht]
        by_cases h3 : t < k ∨ P.length - 1 - t < k
        · rw [if_pos h3, if_pos (by omega)]
        · rw [if_neg h3, if_neg (by omega)]
theorem swK_all (P : List At) (k : Nat) (h1 : 2 * k ≤ P.length) (h2 : P.length ≤ 2 * k + 1) : swK P k = P.reverse := by
  apply List.ext_getElem?
  intro t
  by_cases ht : t < P.length
  · rw [swK_at P k h1 t ht, List.getElem?_reverse ht]
    by_cases h3 : t < k ∨ P.length - 1 - t < k
    · rw [if_pos h3]
    · rw [if_neg h3, show P.length - 1 - t = t by omega]
  · rw [List.getElem?_eq_none (by rw [swK_len]; omega), List.getElem?_eq_none (by rw [List.length_reverse]; omega)]

def RvR (w : World) (g cap : Nat) (P : List At) (i j : Value) (wr : World) : Prop :=
  ∃ k : Nat, 2 * k ≤ P.length ∧ i = .int .i64 k ∧ j = .int .i64 ((P.length : Int) - 1 - k) ∧ RowA g cap (swK P k) wr ∧ w.grownBy wr (some g)
set_option maxHeartbeats 6400000 in
theorem srev_any (g cap : Nat) (P : List At) (w : World) (h : RowA g cap P w) (hm : cap ≤ maxLen) (hn : P.length ≤ 1000000) :
    Calls Try.prog 44 #[.slice (some ⟨g, 0, none⟩) P.length cap] w fun e w' => e = .returned (.tuple #[]) ∧ RowA g cap P.reverse w' ∧ w.grownBy w' (some g) := by
  have hle := h.le
  unfold maxLen at hm
  have H0 := Lib.hid h; clear h
  have mixed : Try.prog.follows .mixedOrders = true := by kernel_rfl
  go_enter Try.func44, Try.ntmps44
  go_wp2_with fail
  go_loopw [2, 3] (fun i j wr => RvR w g cap P i j wr) (fun _ j _ => (intOf j + 1).toNat)
  case atStart => exact ⟨0, by omega, rfl, by simp, H0.out, World.grownBy.refl _ _⟩
  case round =>
    obtain ⟨k, hk, rfl, rfl, hM, hG⟩ := hrel
    by_cases hlt : 2 * k + 1 < P.length
    · have q0 : decide ((k : Int) < (P.length : Int) - 1 - k) = true := by simp; omega
      obtain ⟨j, hj⟩ : ∃ j : Nat, j = P.length - 1 - k := ⟨_, rfl⟩
      have hji : (P.length : Int) - 1 - k = (j : Int) := by omega
      have hlen := swK_len P k
      have hnx : swK P (k + 1) = ((swK P k).set k ((swK P k)[P.length - 1 - k]!)).set (P.length - 1 - k) ((swK P k)[k]!) := rfl
      rw [← hj, getElem!_pos (swK P k) j (by omega), getElem!_pos (swK P k) k (by omega)] at hnx
      have hk1 : k < (swK P k).length := by omega
      have hj1 : j < (swK P k).length := by omega
      have hM := hM.drew
      have hG := grow_drew hG 1
      have hrk := hM.each k hk1
      have hrj := hM.each j hj1
      rw [hji] at q0 ⊢
      generalize (swK P k)[k] = x at *
      generalize (swK P k)[j] = y at *
      generalize swK P k = F at *
      obtain ⟨d, hu, hd⟩ := und37
      have hinx : (Try.prog.info? 37).map (·.size) = some x.cs.length := by rw [At.cs_length]; exact size37
      have hiny : (Try.prog.info? 37).map (·.size) = some y.cs.length := by rw [At.cs_length]; exact size37
      have hx34 : x.cs.toArray.size = 34 := by simp [At.cs_length]
      have hy34 : y.cs.toArray.size = 34 := by simp [At.cs_length]
      have HALL := Lib.hid (And.intro hnx (And.intro hM (And.intro hG (And.intro hrk (And.intro hrj (And.intro hu (And.intro hd (And.intro hinx (And.intro hiny (And.intro hx34 hy34))))))))))
      clear hnx hM hG hrk hrj hu hd hinx hiny hx34 hy34
      have i0 : (0 : Int) ≤ (k : Int) := by omega
      have i1 : (k : Int) < (P.length : Int) := by omega
      have i2 : (0 : Int) ≤ (j : Int) := by omega
      have i3 : (j : Int) < (P.length : Int) := by omega
      have hja : j + k + 1 ≤ P.length := by omega
      have hjb : P.length ≤ j + k + 1 := by omega
      clear hj hji
      go_upto_region 3 with fail
      obtain ⟨hnx, hM, hG, hrk, hrj, hu, hd, hinx, hiny, hx34, hy34⟩ := HALL.out

      refine wp_region_any (by kernel_rfl) ?_
      try (change wpAny _ _ _ _ _ _ _ (World.drew _))
      refine wpAny_take (i := 0) (v := ?_) rfl (by kernel_rfl) (by kernel_rfl) (by kernel_rfl) (fun _ _ _ h => h) (Or.inl ⟨by rfl, ?_⟩) ?_
      rotate_left
      · (intro w; go_simp; try with_reducible rfl)
      try simp only [Act.put, List.getElem_toArray, List.getElem_cons_zero, List.getElem_cons_succ, List.setIfInBounds_toArray, List.set_cons_zero, List.set_cons_succ]
      refine wpAny_take (i := 1) (v := ?_) rfl (by kernel_rfl) (by kernel_rfl) (by kernel_rfl) (fun _ _ _ h => h) (Or.inl ⟨by rfl, ?_⟩) ?_
      rotate_left
      · (intro w; go_simp; try with_reducible rfl)
      try simp only [Act.put, List.getElem_toArray, List.getElem_cons_zero, List.getElem_cons_succ, List.setIfInBounds_toArray, List.set_cons_zero, List.set_cons_succ]
      refine wpAny_take (i := 2) (v := ?_) rfl (by kernel_rfl) (by kernel_rfl) (by kernel_rfl) (fun _ _ _ h => h) (Or.inl ⟨by rfl, ?_⟩) ?_
      rotate_left
      · (intro w; go_simp; try with_reducible rfl)
      try simp only [Act.put, List.getElem_toArray, List.getElem_cons_zero, List.getElem_cons_succ, List.setIfInBounds_toArray, List.set_cons_zero, List.set_cons_succ]
      refine wpAny_take (i := 3) (v := ?_) rfl (by kernel_rfl) (by kernel_rfl) (by kernel_rfl) (fun _ _ _ h => h) (Or.inl ⟨by rfl, ?_⟩) ?_
      rotate_left
      · (intro w; go_simp; try with_reducible rfl)
      try simp only [Act.put, List.getElem_toArray, List.getElem_cons_zero, List.getElem_cons_succ, List.setIfInBounds_toArray, List.set_cons_zero, List.set_cons_succ]
      refine wpAny_take (i := 4) (v := ?_) rfl (by kernel_rfl) (by kernel_rfl) (by kernel_rfl) (fun _ _ _ h => h) (Or.inl ⟨by rfl, ?_⟩) ?_
      rotate_left
      · (intro w; go_simp; try with_reducible rfl)
      try simp only [Act.put, List.getElem_toArray, List.getElem_cons_zero, List.getElem_cons_succ, List.setIfInBounds_toArray, List.set_cons_zero, List.set_cons_succ]
      refine wpAny_take (i := 5) (v := ?_) rfl (by kernel_rfl) (by kernel_rfl) (by kernel_rfl) (fun _ _ _ h => h) (Or.inl ⟨by rfl, ?_⟩) ?_
      rotate_left
      · (intro w; go_simp; try with_reducible rfl)
      try simp only [Act.put, List.getElem_toArray, List.getElem_cons_zero, List.getElem_cons_succ, List.setIfInBounds_toArray, List.set_cons_zero, List.set_cons_succ]
      refine wpAny_take (i := 6) (v := ?_) rfl (by kernel_rfl) (by kernel_rfl) (by kernel_rfl) (fun _ _ _ h => h) (Or.inl ⟨by rfl, ?_⟩) ?_
      rotate_left
      · (intro w; go_simp; try with_reducible rfl)
      try simp only [Act.put, List.getElem_toArray, List.getElem_cons_zero, List.getElem_cons_succ, List.setIfInBounds_toArray, List.set_cons_zero, List.set_cons_succ]
      refine wpAny_take (i := 8) (v := ?_) rfl (by kernel_rfl) (by kernel_rfl) (by kernel_rfl) (fun _ _ _ h => h) (Or.inl ⟨by rfl, ?_⟩) ?_
      rotate_left
      · (intro w; go_simp; try with_reducible rfl)
      try simp only [Act.put, List.getElem_toArray, List.getElem_cons_zero, List.getElem_cons_succ, List.setIfInBounds_toArray, List.set_cons_zero, List.set_cons_succ]
      refine wpAny_take (i := 9) (v := ?_) rfl (by kernel_rfl) (by kernel_rfl) (by kernel_rfl) (fun _ _ _ h => h) (Or.inl ⟨by rfl, ?_⟩) ?_
      rotate_left
      · (intro w; go_simp; try with_reducible rfl)
      try simp only [Act.put, List.getElem_toArray, List.getElem_cons_zero, List.getElem_cons_succ, List.setIfInBounds_toArray, List.set_cons_zero, List.set_cons_succ]
      refine wpAny_take (i := 10) (v := ?_) rfl (by kernel_rfl) (by kernel_rfl) (by kernel_rfl) (fun _ _ _ h => h) (Or.inl ⟨by rfl, ?_⟩) ?_
      rotate_left
      · (intro w; go_simp; try with_reducible rfl)
      try simp only [Act.put, List.getElem_toArray, List.getElem_cons_zero, List.getElem_cons_succ, List.setIfInBounds_toArray, List.set_cons_zero, List.set_cons_succ]
      refine wpAny_ready (rs := [7, 11]) (by kernel_rfl) (by simp) ?_
      refine AllReady.cons rfl (fun K hK => ?_) (AllReady.cons rfl (fun K hK => ?_) (AllReady.nil))
      · skip
        refine step_load_mid (by rfl) 37 _ (by rfl) g (j * 34) (by rfl) y.cs d hrj hu hd (hiny) ?_
        refine hK _ _ ?_; clear hK K
        try simp only [Act.put, List.getElem_toArray, List.getElem_cons_zero, List.getElem_cons_succ, List.setIfInBounds_toArray, List.set_cons_zero, List.set_cons_succ]
        refine wpAny_ready (rs := [11]) (by kernel_rfl) (by simp) ?_
        refine AllReady.cons rfl (fun K hK => ?_) (AllReady.nil)
        refine step_load_mid (by rfl) 37 _ (by rfl) g (k * 34) (by rfl) x.cs d hrk hu hd (hinx) ?_
        refine hK _ _ ?_; clear hK K
        try simp only [Act.put, List.getElem_toArray, List.getElem_cons_zero, List.getElem_cons_succ, List.setIfInBounds_toArray, List.set_cons_zero, List.set_cons_succ]
        refine wpAny_take (i := 12) (v := ?_) rfl (by kernel_rfl) (by kernel_rfl) (by kernel_rfl) (fun _ _ _ h => h) (Or.inl ⟨by rfl, ?_⟩) ?_
        rotate_left
        · (intro w; go_simp; try with_reducible rfl)
        try simp only [Act.put, List.getElem_toArray, List.getElem_cons_zero, List.getElem_cons_succ, List.setIfInBounds_toArray, List.set_cons_zero, List.set_cons_succ]
        refine wpAny_ready (rs := [13]) (by kernel_rfl) (by simp) ?_
        refine AllReady.cons rfl (fun K hK => ?_) (AllReady.nil)
        refine step_store_mid (by rfl) 37 _ _ (by rfl) g (k * 34) y.cs.toArray (by rfl) (by rfl) (by rw [hy34]; exact hM.at_there k hk1) (by simpa [At.cs_length] using size37) (at_one y) ?_
        refine hK _ _ ?_; clear hK K
        try simp only [Act.put, List.getElem_toArray, List.getElem_cons_zero, List.getElem_cons_succ, List.setIfInBounds_toArray, List.set_cons_zero, List.set_cons_succ]
        have hM1 := hM.set k hk1 y
        have hG1 := setCells_grow y.cs wr.drew g (k * 34)
        have hy2 : y.cs.toArray.toList = y.cs := by simp
        (try rw [hy2])
        generalize wr.drew.setCells g (k * 34) y.cs = w2 at *
        refine wpAny_take (i := 14) (v := ?_) rfl (by kernel_rfl) (by kernel_rfl) (by kernel_rfl) (fun _ _ _ h => h) (Or.inl ⟨by rfl, ?_⟩) ?_
        rotate_left
        · (intro w; go_simp; try with_reducible rfl)
        try simp only [Act.put, List.getElem_toArray, List.getElem_cons_zero, List.getElem_cons_succ, List.setIfInBounds_toArray, List.set_cons_zero, List.set_cons_succ]
        refine wpAny_ready (rs := [15]) (by kernel_rfl) (by simp) ?_
        refine AllReady.cons rfl (fun K hK => ?_) (AllReady.nil)
        refine step_store_mid (by rfl) 37 _ _ (by rfl) g (j * 34) x.cs.toArray (by rfl) (by rfl) (by rw [hx34]; exact hM1.at_there j (by rw [List.length_set]; exact hj1)) (by simpa [At.cs_length] using size37) (at_one x) ?_
        refine hK _ _ ?_; clear hK K
        try simp only [Act.put, List.getElem_toArray, List.getElem_cons_zero, List.getElem_cons_succ, List.setIfInBounds_toArray, List.set_cons_zero, List.set_cons_succ]
        have hM2 := hM1.set j (by rw [List.length_set]; exact hj1) x
        have hx2 : x.cs.toArray.toList = x.cs := by simp
        (try rw [hx2])
        have hG2 := grow_then hG1 (setCells_grow x.cs w2 g (j * 34))
        generalize w2.setCells g (j * 34) x.cs = w3 at *
        refine wpAny_done (by kernel_rfl) ?_ _
        have HZ := Lib.hid (And.intro hM2 (grow_then hG hG2)); clear hM hM1 hM2 hG hG2 hrk hrj hnx hu hd hinx hiny hx34 hy34 hx2 hy2
        go_wp2_with fail
        go_roundw
        case rel => exact ⟨k + 1, by omega, by go_num, by (congr 1; omega), by rw [HALL.out.1]; exact HZ.out.1, HZ.out.2⟩
        case measure => (simp [intOf] <;> omega)
      · skip
        refine step_load_mid (by rfl) 37 _ (by rfl) g (k * 34) (by rfl) x.cs d hrk hu hd (hinx) ?_
        refine hK _ _ ?_; clear hK K
        try simp only [Act.put, List.getElem_toArray, List.getElem_cons_zero, List.getElem_cons_succ, List.setIfInBounds_toArray, List.set_cons_zero, List.set_cons_succ]
        refine wpAny_ready (rs := [7]) (by kernel_rfl) (by simp) ?_
        refine AllReady.cons rfl (fun K hK => ?_) (AllReady.nil)
        refine step_load_mid (by rfl) 37 _ (by rfl) g (j * 34) (by rfl) y.cs d hrj hu hd (hiny) ?_
        refine hK _ _ ?_; clear hK K
        try simp only [Act.put, List.getElem_toArray, List.getElem_cons_zero, List.getElem_cons_succ, List.setIfInBounds_toArray, List.set_cons_zero, List.set_cons_succ]
        refine wpAny_take (i := 12) (v := ?_) rfl (by kernel_rfl) (by kernel_rfl) (by kernel_rfl) (fun _ _ _ h => h) (Or.inl ⟨by rfl, ?_⟩) ?_
        rotate_left
        · (intro w; go_simp; try with_reducible rfl)
        try simp only [Act.put, List.getElem_toArray, List.getElem_cons_zero, List.getElem_cons_succ, List.setIfInBounds_toArray, List.set_cons_zero, List.set_cons_succ]
        refine wpAny_ready (rs := [13]) (by kernel_rfl) (by simp) ?_
        refine AllReady.cons rfl (fun K hK => ?_) (AllReady.nil)
        refine step_store_mid (by rfl) 37 _ _ (by rfl) g (k * 34) y.cs.toArray (by rfl) (by rfl) (by rw [hy34]; exact hM.at_there k hk1) (by simpa [At.cs_length] using size37) (at_one y) ?_
        refine hK _ _ ?_; clear hK K
        try simp only [Act.put, List.getElem_toArray, List.getElem_cons_zero, List.getElem_cons_succ, List.setIfInBounds_toArray, List.set_cons_zero, List.set_cons_succ]
        have hM1 := hM.set k hk1 y
        have hG1 := setCells_grow y.cs wr.drew g (k * 34)
        have hy2 : y.cs.toArray.toList = y.cs := by simp
        (try rw [hy2])
        generalize wr.drew.setCells g (k * 34) y.cs = w2 at *
        refine wpAny_take (i := 14) (v := ?_) rfl (by kernel_rfl) (by kernel_rfl) (by kernel_rfl) (fun _ _ _ h => h) (Or.inl ⟨by rfl, ?_⟩) ?_
        rotate_left
        · (intro w; go_simp; try with_reducible rfl)
        try simp only [Act.put, List.getElem_toArray, List.getElem_cons_zero, List.getElem_cons_succ, List.setIfInBounds_toArray, List.set_cons_zero, List.set_cons_succ]
        refine wpAny_ready (rs := [15]) (by kernel_rfl) (by simp) ?_
        refine AllReady.cons rfl (fun K hK => ?_) (AllReady.nil)
        refine step_store_mid (by rfl) 37 _ _ (by rfl) g (j * 34) x.cs.toArray (by rfl) (by rfl) (by rw [hx34]; exact hM1.at_there j (by rw [List.length_set]; exact hj1)) (by simpa [At.cs_length] using size37) (at_one x) ?_
        refine hK _ _ ?_; clear hK K
        try simp only [Act.put, List.getElem_toArray, List.getElem_cons_zero, List.getElem_cons_succ, List.setIfInBounds_toArray, List.set_cons_zero, List.set_cons_succ]
        have hM2 := hM1.set j (by rw [List.length_set]; exact hj1) x
        have hx2 : x.cs.toArray.toList = x.cs := by simp
        (try rw [hx2])
        have hG2 := grow_then hG1 (setCells_grow x.cs w2 g (j * 34))
        generalize w2.setCells g (j * 34) x.cs = w3 at *
        refine wpAny_done (by kernel_rfl) ?_ _
        have HZ := Lib.hid (And.intro hM2 (grow_then hG hG2)); clear hM hM1 hM2 hG hG2 hrk hrj hnx hu hd hinx hiny hx34 hy34 hx2 hy2
        go_wp2_with fail
        go_roundw
        case rel => exact ⟨k + 1, by omega, by go_num, by (congr 1; omega), by rw [HALL.out.1]; exact HZ.out.1, HZ.out.2⟩
        case measure => (simp [intOf] <;> omega)
    · have q0 : decide ((k : Int) < (P.length : Int) - 1 - k) = false := by simp; omega
      have hr := swK_all P k hk (by omega)
      rw [hr] at hM
      have HZ := Lib.hid (And.intro hM hG); clear hM hG hr
      go_wp2_with fail
      go_returns
      exact ⟨rfl, HZ.out.1, HZ.out.2⟩

theorem none_ne (a : Addr) : ((some a : Option Addr) == none) = false := by rfl
set_option maxHeartbeats 1600000 in
theorem clone_any (p : Option Addr) (c : Nat) (P : List At) (w : World) (hP : Ats w p P) (hc : P.length ≤ c) (hm : c ≤ maxLen) (hn : P.length ≤ 1000) :
    Calls Try.prog 43 #[.slice p P.length c] w (MkEnd P w) := by
  unfold maxLen at hm
  cases p with
  | none =>
    have h0 : P.length = 0 := by
      rcases Nat.eq_zero_or_pos P.length with h | h
      · exact h
      · obtain ⟨b, o, e, _⟩ := hP h; cases e
    obtain rfl : P = [] := List.length_eq_zero_iff.1 h0
    have hnil := Lib.run_eql_slice_nil (P := Try.prog) w 26 37 none 0 c 0 0 Try.underlying26
    go_enter Try.func43, Try.ntmps43
    go_wp2_with fail
    go_ret
    exact ⟨_, rfl, OwA.nil _ _, Below.refl _ _⟩
  | some a =>
    have hh := heap_alloc_new w (.cells #[] 37)
    have hb := blw (Below.refl w.heap.size w) (.cells #[] 37)
    have h0 : OwA w.heap.size [] (.slice (some ⟨w.heap.size, 0, none⟩) 0 0) (w.alloc (.cells #[] 37)) :=
      ⟨rfl, .inr ⟨w.heap.size, 0, #[], rfl, Nat.le_refl _, hh, Nat.le_refl _, Nat.zero_le _, rfl, rfl⟩⟩
    have hP1 := hP.call hb
    have hz : w.heap.size ≤ (w.alloc (.cells #[] 37)).heap.size := by simp
    have H := Lib.hid (And.intro h0 (And.intro hP1 hb)); clear h0 hP1 hb hh hP
    have hnil := Lib.run_eql_slice_nil (P := Try.prog) w 26 37 (some a) P.length c 0 0 Try.underlying26
    go_enter Try.func43, Try.ntmps43
    go_wp2_with (at_builtin; refine wpl_catA (by rfl) _ _ (by rfl) w.heap.size [] P _ (by rfl) H.out.1 (some a) _ c (by rfl) (by rfl) H.out.2.1 hz (by simp; omega) ?_; intro v5 w5 o5 g5)
    have b5 := OwA.below H.out.1 H.out.2.2 hz g5
    have H5 := Lib.hid (And.intro (show OwA w.heap.size P v5 w5 from o5) b5); clear o5 g5 b5
    go_wp2_with fail
    go_ret
    exact ⟨_, rfl, H5.out.1, H5.out.2⟩
theorem grow_nil {w w' : World} {g : Nat} (h : w.grownBy w' (some g)) (hb : w.heap.size ≤ g) : Below w.heap.size w w' := ⟨h.os, h.tape, h.output, h.size, fun {i} hi => h.block i hi (fun e => by injection e with e; omega)⟩
/-- Reversing a pattern that the call owns. -/
theorem srev_own {base : Nat} {P : List At} {v : Value} {w : World} (h : OwA base P v w) (hn : P.length ≤ 1000) :
    Calls Try.prog 44 #[v] w fun e w' => e = .returned (.tuple #[]) ∧ OwA base P.reverse v w' ∧ w.grownBy w' v.ownBlock := by
  rcases h.2 with ⟨rfl, h0⟩ | ⟨g, cap, cur, rfl, hg, hh, hle, hm, hs, ht⟩
  · obtain rfl : P = [] := List.length_eq_zero_iff.1 h0
    go_enter Try.func44, Try.ntmps44
    go_wp2_with fail
    go_loopw [2, 3] (fun i j wr => i = .int .i64 0 ∧ j = .int .i64 (-1) ∧ w = wr) (fun _ j _ => (intOf j + 1).toNat)
    case atStart => exact ⟨rfl, rfl, rfl⟩
    case round =>
      obtain ⟨rfl, rfl, rfl⟩ := hrel
      go_wp2_with fail
      go_returns
      exact ⟨rfl, h, World.grownBy.refl _ _⟩
  · have hr := h.row
    refine (srev_any g cap P w hr.1 hm (by omega)).mono ?_
    rintro e w' ⟨rfl, h1, h2⟩
    refine ⟨rfl, ?_, h2⟩
    have := h1.own (base := base) hg hm
    rwa [List.length_reverse] at this
set_option maxHeartbeats 1600000 in
theorem rev_any (p : Option Addr) (c : Nat) (P : List At) (w : World) (hP : Ats w p P) (hc : P.length ≤ c) (hm : c ≤ maxLen) (hn : P.length ≤ 1000) :
    Calls Try.prog 31 #[.slice p P.length c] w (MkEnd P.reverse w) := by
  have hk := clone_any p c P w hP hc hm hn
  have HK := Lib.hid hk; clear hk hP
  go_enter Try.func31, Try.ntmps31
  go_wp2_with fail
  refine HK.out.mono ?_; rintro e w1 ⟨v, rfl, o1, b1⟩
  have O := Lib.hid (And.intro o1 b1); clear o1 b1
  go_wp2_with fail
  refine (srev_own O.out.1 hn).mono ?_; rintro e w2 ⟨rfl, o2, g2⟩
  have b2 := OwA.below O.out.1 O.out.2 O.out.2.size g2
  have O2 := Lib.hid (And.intro o2 b2); clear o2 g2 b2
  go_wp2_with fail
  go_ret
  exact ⟨_, rfl, O2.out.1, O2.out.2⟩
end Go.Proofs.Ytdnofpllmhnacaa
