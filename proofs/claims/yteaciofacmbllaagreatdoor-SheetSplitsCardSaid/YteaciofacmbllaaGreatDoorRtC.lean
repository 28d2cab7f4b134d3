/- The value that is read: what it holds, where it lies; whether it ends with a text. The contract of the value's add. The contract of readContent. Contracts of Decode and Cuts. -/
import Derived.Test.YteaciofacmbllaaGreatDoorRtB
import Derived.Test.YteaciofacmbllaaGreatDoorNrm
import Derived.Test.YteaciofacmbllaaGreatDoorFrg
import Derived.Deep.RegionLaw
import Derived.Test.YteaciofacmbllaaGreatDoorNrw
namespace Go.Proofs.YteaciofacmbllaaGreatDoor
open Go.ChangeShapes Go.WideShapes Go.ChangeAt Go.RowKit
set_option linter.unusedVariables false
set_option linter.unusedSimpArgs false
set_option maxRecDepth 100000

def nI (cs : List Nat) : List Int := cs.map fun (n : Nat) => (n : Int)
theorem nI_len (cs : List Nat) : (nI cs).length = cs.length := by unfold nI; simp
theorem nI_snoc (cs : List Nat) (n : Nat) : nI (cs ++ [n]) = nI cs ++ [(n : Int)] := by unfold nI; simp
theorem OwnL.obj {α : Type} {e size : Nat} {enc : α → List Value} {base : Nat} {L : List α} {v : Value} {w : World} (h : OwnL e size enc base L v w) {g : Nat} (hg : v.ownBlock = some g) : ∃ cur, w.heap[g]? = some (.cells cur e (0, 0)) := by
  rcases h.2 with ⟨hv, _⟩ | ⟨g', cap, cur, hv, _, hh, _⟩
  · rw [hv] at hg; cases hg
  · rw [hv] at hg; injection hg with hg; subst hg; exact ⟨cur, hh⟩
/-- Two blocks of different kinds are two. -/
theorem apart {w : World} {i j : Nat} {a b : Obj} (ha : w.heap[i]? = some a) (hb : w.heap[j]? = some b) (h : a ≠ b) : i ≠ j := fun e => by subst e; rw [ha] at hb; injection hb with hb; exact h hb
/-- The value in block V: its elements, its cuts, how many items. -/
structure Val (base V : Nat) (xs : List It) (cs : List Nat) (n : Nat) (vi vc : Value) (w : World) : Prop where
  var : w.heap[V]? = some (.cells #[vi, vc, .int .i64 n] 60 (0, 0))
  own : OwnL 54 3 ienc base xs vi w
  cut : OwnL 3 1 nenc base (nI cs) vc w
  bV : base ≤ V
def vS (V : Nat) (vi vc : Value) (i : Nat) : Prop := i = V ∨ vi.ownBlock = some i ∨ vc.ownBlock = some i
section
variable {base V n : Nat} {xs : List It} {cs : List Nat} {vi vc : Value} {w w' : World}
theorem Val.lt (h : Val base V xs cs n vi vc w) : ∀ i, vS V vi vc i → base ≤ i ∧ i < w.heap.size := by
  intro i hi
  rcases hi with rfl | hi | hi
  · exact ⟨h.bV, (Array.getElem?_eq_some_iff.1 h.var).1⟩
  · exact World.ownsRow.lt h.own i hi
  · exact World.ownsRow.lt h.cut i hi
theorem Val.same (h : Val base V xs cs n vi vc w) (hb : ∀ i, vS V vi vc i → w'.heap[i]? = w.heap[i]?) : Val base V xs cs n vi vc w' :=
  ⟨(hb V (.inl rfl)).trans h.var, ownsRow_same h.own (fun i hi => hb i (.inr (.inl hi))), ownsRow_same h.cut (fun i hi => hb i (.inr (.inr hi))), h.bV⟩
theorem Val.call (h : Val base V xs cs n vi vc w) (hb : Below w.heap.size w w') : Val base V xs cs n vi vc w' := h.same fun i hi => hb.block i (h.lt i hi).2
theorem Val.only {S : Nat → Prop} (h : Val base V xs cs n vi vc w) (hb : Only S w w') (hn : ∀ i, S i → ¬ vS V vi vc i) : Val base V xs cs n vi vc w' := h.same fun i hi => hb.block i (h.lt i hi).2 (fun hs => hn i hs hi)
theorem Val.alloc (h : Val base V xs cs n vi vc w) (o : Obj) : Val base V xs cs n vi vc (w.alloc o) := h.call (blw (Below.refl _ _) o)
theorem Val.drew (h : Val base V xs cs n vi vc w) : Val base V xs cs n vi vc w.drew := h.call (Below.refl _ _).drew
theorem Val.di (h : Val base V xs cs n vi vc w) : vi.ownBlock ≠ some V := fun e => by
  obtain ⟨cur, hc⟩ := h.own.obj e
  exact apart hc h.var (fun e => by simp at e) rfl
theorem Val.dc (h : Val base V xs cs n vi vc w) : vc.ownBlock ≠ some V := fun e => by
  obtain ⟨cur, hc⟩ := h.cut.obj e
  exact apart hc h.var (fun e => by simp at e) rfl
theorem Val.ic (h : Val base V xs cs n vi vc w) : ∀ i, vi.ownBlock = some i → vc.ownBlock ≠ some i := fun i h1 h2 => by
  obtain ⟨c1, hc⟩ := h.own.obj h1
  obtain ⟨c2, hd⟩ := h.cut.obj h2
  exact apart hc hd (fun e => by simp at e) rfl
theorem Val.cells (h : Val base V xs cs n vi vc w) : w.cell? ⟨V, 0, none⟩ = some vi ∧ w.cell? ⟨V, 1, none⟩ = some vc ∧ w.cell? ⟨V, 2, none⟩ = some (.int .i64 n) ∧ w.frozen? ⟨V, 0, none⟩ = false ∧ w.frozen? ⟨V, 1, none⟩ = false ∧ w.frozen? ⟨V, 2, none⟩ = false :=
  ⟨by rw [Lib.cell_of_heap h.var]; rfl, by rw [Lib.cell_of_heap h.var]; rfl, by rw [Lib.cell_of_heap h.var]; rfl, Lib.frozen_of_heap h.var 0, Lib.frozen_of_heap h.var 1, Lib.frozen_of_heap h.var 2⟩
/-- The cells stay, where another row grows. -/
theorem Val.past (h : Val base V xs cs n vi vc w) {row : Option Nat} (hg : w.grownBy w' row) (hr : row ≠ some V) : w'.cell? ⟨V, 0, none⟩ = some vi ∧ w'.cell? ⟨V, 1, none⟩ = some vc ∧ w'.cell? ⟨V, 2, none⟩ = some (.int .i64 n) ∧ w'.frozen? ⟨V, 0, none⟩ = false ∧ w'.frozen? ⟨V, 1, none⟩ = false ∧ w'.frozen? ⟨V, 2, none⟩ = false := by
  have hv : w'.heap[V]? = some (.cells #[vi, vc, .int .i64 n] 60 (0, 0)) := (hg.block V (h.lt V (.inl rfl)).2 (fun e => hr e.symm)).trans h.var
  exact ⟨by rw [Lib.cell_of_heap hv]; rfl, by rw [Lib.cell_of_heap hv]; rfl, by rw [Lib.cell_of_heap hv]; rfl, Lib.frozen_of_heap hv 0, Lib.frozen_of_heap hv 1, Lib.frozen_of_heap hv 2⟩
theorem Val.setItems (h : Val base V xs cs n vi vc w) {xs' : List It} {vi' : Value} {w1 : World} (hg : w.grownBy w1 vi.ownBlock) (hown : OwnL 54 3 ienc base xs' vi' w1) (hloc : ∀ i, vi'.ownBlock = some i → vi.ownBlock = some i ∨ w.heap.size ≤ i) :
    Val base V xs' cs n vi' vc (w1.setCell ⟨V, 0, none⟩ vi') ∧ Only (vS V vi vc) w (w1.setCell ⟨V, 0, none⟩ vi') := by
  have hlt := h.lt
  have hD1 : w1.heap[V]? = some (.cells #[vi, vc, .int .i64 n] 60 (0, 0)) := (hg.block V (hlt V (.inl rfl)).2 (fun e => h.di e.symm)).trans h.var
  have hold : ∀ i, vS V vi vc i → i ≠ V → vi.ownBlock ≠ some i → (w1.setCell ⟨V, 0, none⟩ vi').heap[i]? = w.heap[i]? := fun i hi h1 h2 => by
    rw [Below.heap_setCell _ _ _ _ h1]; exact hg.block i (hlt i hi).2 (fun e => h2 e.symm)
  have hiD : vi'.ownBlock ≠ some V := fun e => by
    rcases hloc V e with h1 | h1
    · exact h.di h1
    · have := (hlt V (.inl rfl)).2; omega
  refine ⟨⟨?_, ?_, ?_, h.bV⟩, ?_⟩
  · have := setCell_heap w1 V 0 _ _ vi' hD1
    simpa using this
  · exact ownsRow_same hown (fun i hi => Below.heap_setCell _ _ _ _ (fun e => hiD (by have e' : i = V := e; rw [← e']; exact hi)))
  · exact ownsRow_same h.cut (fun i hi => hold i (.inr (.inr hi)) (fun e => h.dc (by rw [← e]; exact hi)) (fun e => h.ic i e hi))
  · exact (Only.of_grown hg (fun i hi => .inr (.inl hi))).setCell _ _ (.inl rfl)
theorem Val.setCuts (h : Val base V xs cs n vi vc w) {cs' : List Nat} {vc' : Value} {w1 : World} (hg : w.grownBy w1 vc.ownBlock) (hown : OwnL 3 1 nenc base (nI cs') vc' w1) (hloc : ∀ i, vc'.ownBlock = some i → vc.ownBlock = some i ∨ w.heap.size ≤ i) :
    Val base V xs cs' n vi vc' (w1.setCell ⟨V, 1, none⟩ vc') ∧ Only (vS V vi vc) w (w1.setCell ⟨V, 1, none⟩ vc') := by
  have hlt := h.lt
  have hD1 : w1.heap[V]? = some (.cells #[vi, vc, .int .i64 n] 60 (0, 0)) := (hg.block V (hlt V (.inl rfl)).2 (fun e => h.dc e.symm)).trans h.var
  have hold : ∀ i, vS V vi vc i → i ≠ V → vc.ownBlock ≠ some i → (w1.setCell ⟨V, 1, none⟩ vc').heap[i]? = w.heap[i]? := fun i hi h1 h2 => by
    rw [Below.heap_setCell _ _ _ _ h1]; exact hg.block i (hlt i hi).2 (fun e => h2 e.symm)
  have hiD : vc'.ownBlock ≠ some V := fun e => by
    rcases hloc V e with h1 | h1
    · exact h.dc h1
    · have := (hlt V (.inl rfl)).2; omega
  refine ⟨⟨?_, ?_, ?_, h.bV⟩, ?_⟩
  · have := setCell_heap w1 V 1 _ _ vc' hD1
    simpa using this
  · exact ownsRow_same h.own (fun i hi => hold i (.inr (.inl hi)) (fun e => h.di (by rw [← e]; exact hi)) (fun e => h.ic i hi e))
  · exact ownsRow_same hown (fun i hi => Below.heap_setCell _ _ _ _ (fun e => hiD (by have e' : i = V := e; rw [← e']; exact hi)))
  · exact (Only.of_grown hg (fun i hi => .inr (.inr hi))).setCell _ _ (.inl rfl)
theorem Val.setN (h : Val base V xs cs n vi vc w) (n' : Nat) : Val base V xs cs n' vi vc (w.setCell ⟨V, 2, none⟩ (.int .i64 n')) ∧ Only (vS V vi vc) w (w.setCell ⟨V, 2, none⟩ (.int .i64 n')) := by
  have hold : ∀ i, i ≠ V → (w.setCell ⟨V, 2, none⟩ (.int .i64 n')).heap[i]? = w.heap[i]? := fun i h1 => Below.heap_setCell _ _ _ _ h1
  refine ⟨⟨?_, ?_, ?_, h.bV⟩, ?_⟩
  · have := setCell_heap w V 2 _ _ (.int .i64 n') h.var
    simpa using this
  · exact ownsRow_same h.own (fun i hi => hold i (fun e => h.di (by rw [← e]; exact hi)))
  · exact ownsRow_same h.cut (fun i hi => hold i (fun e => h.dc (by rw [← e]; exact hi)))
  · exact (Only.refl _ _).setCell _ _ (.inl rfl)
end
theorem Only.next {S S' : Nat → Prop} {a b c : World} (h : Only S a b) (k : Only S' b c) (hs : ∀ i, i < a.heap.size → S' i → S i) : Only S a c :=
  ⟨k.os.trans h.os, k.tape.trans h.tape, k.output.trans h.output, Nat.le_trans h.size k.size, fun i hi hS => (k.block i (Nat.lt_of_lt_of_le hi h.size) (fun hS' => hS (hs i hi hS'))).trans (h.block i hi hS)⟩
set_option maxHeartbeats 800000 in
theorem ends_any (base V n : Nat) (xs : List It) (cs : List Nat) (vi vc : Value) (w : World) (h : Val base V xs cs n vi vc w) (hl : xs.length ≤ 1000000) :
    Calls Tryz.prog 76 #[.pointer (some ⟨V, 0, none⟩)] w fun e w' => e = .returned (.bool (lastText xs)) ∧ w' = w := by
  obtain ⟨p, c, rfl, h1, h2, hI⟩ := h.own.its
  have x0 := h.cells.1
  rcases Nat.lt_or_ge 0 xs.length with hlo | hlo
  · obtain ⟨L, z, ho, hz⟩ := out_last xs hlo
    have hm : xs.length = L.length + 1 := by rw [ho]; simp
    have hg : xs[L.length]'(by omega) = z := by simp only [ho]; simp
    obtain ⟨a, rfl, hlt, hk, hk1, hk2⟩ := hI.row L.length (by omega)
    rw [hg] at hk
    clear hk1 hk2
    rw [hz]
    have hl2 : (L.length : Int) ≤ 1000000 := by omega
    have hc2 : (L.length : Int) < (xs.length : Int) := by omega
    rw [hm] at x0 hl h1
    clear hm ho hz hg hI h hlo
    obtain ⟨m, rfl⟩ : ∃ m, m = L.length := ⟨_, rfl⟩
    go_enter Tryz.func76, Tryz.ntmps76
    go_wp2
    all_goals go_ret
    all_goals exact ⟨ret_bool (by rw [Bool.eq_iff_iff]; simp), rfl⟩
  · have ho : xs = [] := List.length_eq_zero_iff.1 (by omega)
    subst ho
    go_enter Tryz.func76, Tryz.ntmps76
    go_wp2
    all_goals go_ret
    all_goals exact ⟨rfl, rfl⟩
end Go.Proofs.YteaciofacmbllaaGreatDoor
namespace Go.Proofs.YteaciofacmbllaaGreatDoor
open Go.ChangeShapes Go.WideShapes Go.ChangeAt Go.RowKit
set_option linter.unusedVariables false
set_option linter.unusedSimpArgs false
set_option maxRecDepth 100000

theorem last_normS (f : List It) (x : It) (h : One x) : lastText (normS f x) = decide (x.k = 1) := by
  by_cases hk : x.k = 1
  · have h1 : x.t.size ≠ 0 := by rcases h with ⟨_, h2, _⟩ | ⟨h1, _⟩; omega; exact absurd hk h1
    rw [decide_eq_true hk]
    rcases Nat.lt_or_ge 0 f.length with hlo | hlo
    · obtain ⟨L, z, ho, hl⟩ := out_last f hlo
      by_cases hz : z.k = 1
      · rw [norm_last f x hk h1 L z ho hz]; unfold lastText; simp
      · rw [norm_fresh f x hk h1 (by rw [hl]; simpa using hz)]; unfold lastText; simp
    · have ho : f = [] := List.length_eq_zero_iff.1 (by omega)
      subst ho
      rw [norm_fresh [] x hk h1 rfl]; unfold lastText; simp
  · rw [norm_other f x hk, lastText_one f x hk, decide_eq_false hk]
theorem last_norm (xs : List It) (h : ∀ x ∈ xs, One x) : lastText (norm xs) = lastText xs := by
  refine list_rev (P := fun xs => (∀ x ∈ xs, One x) → lastText (norm xs) = lastText xs) (fun _ => rfl) ?_ xs h
  intro l x _ hx
  rw [norm_snoc, last_normS _ _ (hx x (by simp))]
  unfold lastText; simp
/-- How many items there are with one position more. -/
theorem len_more (xs : List It) (x : It) (h : ∀ y ∈ xs, One y) (hx : One x) : (norm (xs ++ [x])).length = if x.k = 1 ∧ lastText xs = true then (norm xs).length else (norm xs).length + 1 := by
  rw [norm_snoc]
  by_cases hk : x.k = 1
  · have h1 : x.t.size ≠ 0 := by rcases hx with ⟨_, h2, _⟩ | ⟨h1, _⟩; omega; exact absurd hk h1
    cases hl : lastText xs
    · rw [if_neg (by simp), norm_fresh _ x hk h1 (by rw [last_norm xs h, hl])]; simp
    · rw [if_pos ⟨hk, rfl⟩]
      rw [← last_norm xs h] at hl
      have hlo : 0 < (norm xs).length := by
        rcases Nat.lt_or_ge 0 (norm xs).length with h | h
        · exact h
        · rw [List.length_eq_zero_iff.1 (Nat.le_zero.1 h)] at hl; cases hl
      obtain ⟨L, z, ho, hz⟩ := out_last _ hlo
      rw [hl] at hz
      rw [norm_last _ x hk h1 L z ho (by simpa using hz.symm), ho]; simp
  · rw [if_neg (fun h => hk h.1), norm_other _ x hk]; simp
/-- What add leaves. -/
def EndAdd (base V : Nat) (xs : List It) (cs : List Nat) (vi vc : Value) (x : It) (q : Nat) (w : World) (e : Ending) (w' : World) : Prop :=
  e = .returned (.bool (decide ((norm (xs ++ [x])).length ≤ 512) && decide (xs.length + 1 ≤ 1024))) ∧ ∃ vi' vc', Val base V (xs ++ [x]) (cs ++ [q]) (norm (xs ++ [x])).length vi' vc' w' ∧ Only (vS V vi vc) w w' ∧ ∀ i, vS V vi' vc' i → vS V vi vc i ∨ w.heap.size ≤ i
set_option maxHeartbeats 3200000 in
theorem vadd_any (base V n : Nat) (xs : List It) (cs : List Nat) (vi vc : Value) (x : It) (q : Nat) (w : World) (h : Val base V xs cs n vi vc w) (hbw : base ≤ w.heap.size) (hx : One x) (hxs : ∀ y ∈ xs, One y) (hn : n = (norm xs).length) (hl : xs.length ≤ 1024) (hc : cs.length ≤ 1025) (hn5 : n ≤ 512) :
    Calls Tryz.prog 40 #[.pointer (some ⟨V, 0, none⟩), .agg #[.int .i64 x.k, .string x.t, .int .i64 x.id], .int .i64 (q : Int)] w (EndAdd base V xs cs vi vc x q w) := by
  have hlm := len_more xs x hxs hx
  rw [← hn] at hlm
  clear hn
  unfold EndAdd
  generalize (norm (xs ++ [x])).length = n1 at *
  obtain ⟨pi, ci, rfl, hi1, hi2, _⟩ := h.own.its
  obtain ⟨pc, cc, rfl, hc1, hc2, _⟩ := h.cut.ints
  have hml := nI_len cs
  have hbV := (h.lt V (.inl rfl)).2
  have hBn : V ≠ w.heap.size := by omega
  have hV0 := h.alloc (.cells #[.int .i64 x.k, .string x.t, .int .i64 x.id] 54)
  have hO0 : Only (vS V (.slice pi xs.length ci) (.slice pc (nI cs).length cc)) w (w.alloc (.cells #[.int .i64 x.k, .string x.t, .int .i64 x.id] 54)) := Only.of_below (blw (Below.refl _ _) _)
  have hX0 := heap_alloc_new w (.cells #[.int .i64 x.k, .string x.t, .int .i64 x.id] 54)
  have hEn := fun W (hW : Val base V xs cs n (.slice pi xs.length ci) (.slice pc (nI cs).length cc) W) => ends_any base V n xs cs _ _ W hW (by omega)
  have hms : nI (cs ++ [q]) = nI cs ++ [(q : Int)] := nI_snoc cs q
  generalize hmm : nI cs = ms at *
  have HE := Lib.hid hEn; have HMS := Lib.hid hms
  have hm5 : ms.length ≤ 1025 := by omega
  have HMM := Lib.hid hmm
  clear hEn hms hml hmm
  have hn9 : (n : Int) ≤ 512 := by omega
  by_cases hk : x.k = 1
  · have hk1 : (x.k != 1) = false := by simpa using hk
    cases hlt : lastText xs
    · rw [hlt] at HE
      rw [if_neg (fun h => by rw [hlt] at h; cases h.2)] at hlm
      clear hlt hk
      have HLM := Lib.hid hlm
      clear hlm
      obtain ⟨a0, a1, a2, _, _, _⟩ := h.cells
      obtain ⟨b0, b1, b2, bf0, bf1, bf2⟩ := hV0.cells
      go_enter Tryz.func40, Tryz.ntmps40
      go_wp2_with fail
      refine (HE.out _ hV0).mono ?_; rintro e w1 ⟨rfl, rfl⟩
      go_upto_region 3 with fail
      clear a0 a1 a2 b0 b1 b2 bf0 bf1 bf2
      have hz2 : (w.setCell ⟨V, 2, none⟩ (.int .i64 ((n + 1 : Nat) : Int))).heap.size = w.heap.size := by simp [World.setCell]
      have hV2 := (h.setN (n + 1)).1.alloc (.cells #[.int .i64 x.k, .string x.t, .int .i64 x.id] 54)
      have hO2 := (h.setN (n + 1)).2.alloc (.cells #[.int .i64 x.k, .string x.t, .int .i64 x.id] 54)
      have hX2 := heap_alloc_new (w.setCell ⟨V, 2, none⟩ (.int .i64 ((n + 1 : Nat) : Int))) (.cells #[.int .i64 x.k, .string x.t, .int .i64 x.id] 54)
      rw [hz2] at hX2
      change Code.wp _ _ _ _ ((w.setCell ⟨V, 2, none⟩ (.int .i64 ((n + 1 : Nat) : Int))).alloc (.cells #[.int .i64 x.k, .string x.t, .int .i64 x.id] 54))
      generalize (w.setCell ⟨V, 2, none⟩ (.int .i64 ((n + 1 : Nat) : Int))).alloc (.cells #[.int .i64 x.k, .string x.t, .int .i64 x.id] 54) = W2 at *
      clear hz2
      rw [← HLM.out] at hV2
      have hVA := (hV2.alloc (.cells #[.int .i64 x.k, .string x.t, .int .i64 x.id] 54)).drew
      have HV := Lib.hid hVA; have HX := Lib.hid hX2; have HO := Lib.hid hO2
      have hsz6 : base ≤ ((W2.alloc (.cells #[.int .i64 x.k, .string x.t, .int .i64 x.id] 54)).drew).heap.size := by have := hO2.size; simp [World.drew]; omega
      have hown6 := hVA.own
      obtain ⟨y0, y1, y2, yf0, yf1, yf2⟩ := hVA.cells
      obtain ⟨z0, z1, z2, zf0, zf1, zf2⟩ := hV2.cells
      obtain ⟨t0, t1, t2, _, _, _⟩ := cells_item hX2
      have hXA : ((W2.alloc (.cells #[.int .i64 x.k, .string x.t, .int .i64 x.id] 54))).heap[w.heap.size]? = some (.cells #[.int .i64 x.k, .string x.t, .int .i64 x.id] 54 (0, 0)) := (Lib.alloc_old W2 _ _ (Array.getElem?_eq_some_iff.1 hX2).1).trans hX2
      obtain ⟨s0, s1, s2, _, _, _⟩ := cells_item hXA
      have HO6 := Lib.hid hown6
      clear hVA hown6 hXA
      go_upto_region 3 with fail
      go_region_law (refine step_app eI _ (by rfl) _ _ (by rfl) base xs _ (by rfl) HO6.out hsz6 x _ _ (by rfl) (heap_alloc_new W2 (.cells #[.int .i64 x.k, .string x.t, .int .i64 x.id] 54)) (by rfl) (by omega) (by unfold maxLen; omega) ?_; intro g cap w5 hO5 hg5 hl5; obtain ⟨d0, d1, d2, k0, k1, k2⟩ := HV.out.past hg5 HV.out.di)
      all_goals
        (have hs5 := HV.out.setItems (xs' := xs ++ [x]) hg5 hO5 (fun i hi => by injection hi with hi; subst hi; rcases hl5 with e | e; exact .inl e; exact .inr (Nat.le_of_eq e.symm))
         have HS := Lib.hid hs5.1
         have HB := Lib.hid (HO.out.trans ((Only.of_below ((blw (Below.refl _ W2) (.cells #[.int .i64 x.k, .string x.t, .int .i64 x.id] 54)).drew)).trans hs5.2))
         have hloc5 : Hid (∀ i, (Value.slice (some ⟨g, 0, none⟩) (xs.length + 1) cap).ownBlock = some i → vS V (.slice pi xs.length ci) (.slice pc ms.length cc) i ∨ w.heap.size ≤ i) := Lib.hid (fun i hi => by injection hi with hi; subst hi; rcases hl5 with e | e; exact .inl (.inr (.inl e)); exact .inr (by rw [e]; have := HO.out.size; simp [World.drew]; omega))
         clear hs5 hO5 hg5 hl5 d0 d1 d2 k0 k1 k2 y0 y1 y2 yf0 yf1 yf2 z0 z1 z2 zf0 zf1 zf2 t0 t1 t2 s0 s1 s2
         generalize hw6 : World.setCell _ ⟨V, 0, none⟩ _ = w6 at *
         clear hw6
         have hq6 := HS.out.cells
         obtain ⟨c0, c1, c2, cf0, cf1, cf2⟩ := hq6
         have hV7 := HS.out.alloc (.cells #[.int .i64 (q : Int)] 3)
         obtain ⟨e0, e1, e2, ef0, ef1, ef2⟩ := hV7.cells
         have HV7 := Lib.hid hV7
         have hsz7 : base ≤ (w6.alloc (.cells #[.int .i64 (q : Int)] 3)).heap.size := by have := HB.out.size; simp; omega
         have hcut7 := hV7.cut
         rw [HMM.out] at hcut7
         have HC7 := Lib.hid hcut7
         clear hV7 hcut7
         go_upto_region 4 with fail
         go_upto_region 5 with (at_builtin; refine wpl_app eN _ rfl _ _ rfl base ms _ rfl HC7.out hsz7 (q : Int) w6.heap.size _ rfl (heap_alloc_new w6 _) rfl (by omega) (by unfold maxLen; omega) ?_; intro g2 CP w8 hown8 hgr8 hloc8; obtain ⟨d0, d1, d2, k0, k1, k2⟩ := HV7.out.past hgr8 HV7.out.dc)
         have hs8 := HV7.out.setCuts (cs' := cs ++ [q]) hgr8 (by rw [HMS.out]; exact hown8) (fun i hi => by injection hi with hi; subst hi; rcases hloc8 with e | e; exact .inl e; exact .inr (Nat.le_of_eq e.symm))
         have HS8 := Lib.hid hs8.1
         have HB8 := Lib.hid ((HB.out.alloc (.cells #[.int .i64 (q : Int)] 3)).next hs8.2 (fun i hi hS => by
           rcases hS with rfl | hS | hS
           · exact .inl rfl
           · rcases hloc5.out i hS with h | h
             · exact h
             · omega
           · exact .inr (.inr hS)))
         have HL8 : Hid (∀ i, vS V (.slice (some ⟨g, 0, none⟩) (xs.length + 1) cap) (.slice (some ⟨g2, 0, none⟩) (ms.length + 1) CP) i → vS V (.slice pi xs.length ci) (.slice pc ms.length cc) i ∨ w.heap.size ≤ i) := Lib.hid (fun i hi => by
           rcases hi with rfl | hi | hi
           · exact .inl (.inl rfl)
           · exact hloc5.out i hi
           · injection hi with hi; subst hi
             rcases hloc8 with e | e
             · exact .inl (.inr (.inr e))
             · exact .inr (by rw [e]; have := HB.out.size; simp; omega))
         clear hs8 hown8 hgr8 hloc8 d0 d1 d2 k0 k1 k2 c0 c1 c2 cf0 cf1 cf2 e0 e1 e2 ef0 ef1 ef2 hsz7
         generalize hw9 : World.setCell _ ⟨V, 1, none⟩ _ = w9 at *
         clear hw9
         obtain ⟨c0, c1, c2, cf0, cf1, cf2⟩ := HS8.out.cells
         by_cases c5 : n1 ≤ 512
         · have q5 : (n1 : Int) ≤ 512 := by omega
           go_wp2_with fail
           go_ret
           exact ⟨ret_bool (by rw [decide_eq_true c5, Bool.true_and]; exact decide_eq_decide.2 (by omega)), _, _, HS8.out, HB8.out, HL8.out⟩
         · have q5 : ¬ (n1 : Int) ≤ 512 := by omega
           go_wp2_with fail
           go_ret
           exact ⟨ret_bool (by first | rfl | (rw [decide_eq_false c5]; rfl)), _, _, HS8.out, HB8.out, HL8.out⟩)
    · rw [hlt] at HE
      rw [if_pos ⟨hk, hlt⟩] at hlm
      clear hlt hk
      have HLM := Lib.hid hlm
      clear hlm
      obtain ⟨a0, a1, a2, _, _, _⟩ := h.cells
      obtain ⟨b0, b1, b2, bf0, bf1, bf2⟩ := hV0.cells
      go_enter Tryz.func40, Tryz.ntmps40
      go_wp2_with fail
      refine (HE.out _ hV0).mono ?_; rintro e w1 ⟨rfl, rfl⟩
      go_upto_region 3 with fail
      clear a0 a1 a2 b0 b1 b2 bf0 bf1 bf2
      have hV2 := hV0
      have hO2 := hO0
      have hX2 := hX0
      change Code.wp _ _ _ _ (w.alloc (.cells #[.int .i64 x.k, .string x.t, .int .i64 x.id] 54))
      generalize w.alloc (.cells #[.int .i64 x.k, .string x.t, .int .i64 x.id] 54) = W2 at *
      rw [← HLM.out] at hV2
      have hVA := (hV2.alloc (.cells #[.int .i64 x.k, .string x.t, .int .i64 x.id] 54)).drew
      have HV := Lib.hid hVA; have HX := Lib.hid hX2; have HO := Lib.hid hO2
      have hsz6 : base ≤ ((W2.alloc (.cells #[.int .i64 x.k, .string x.t, .int .i64 x.id] 54)).drew).heap.size := by have := hO2.size; simp [World.drew]; omega
      have hown6 := hVA.own
      obtain ⟨y0, y1, y2, yf0, yf1, yf2⟩ := hVA.cells
      obtain ⟨z0, z1, z2, zf0, zf1, zf2⟩ := hV2.cells
      obtain ⟨t0, t1, t2, _, _, _⟩ := cells_item hX2
      have hXA : ((W2.alloc (.cells #[.int .i64 x.k, .string x.t, .int .i64 x.id] 54))).heap[w.heap.size]? = some (.cells #[.int .i64 x.k, .string x.t, .int .i64 x.id] 54 (0, 0)) := (Lib.alloc_old W2 _ _ (Array.getElem?_eq_some_iff.1 hX2).1).trans hX2
      obtain ⟨s0, s1, s2, _, _, _⟩ := cells_item hXA
      have HO6 := Lib.hid hown6
      clear hVA hown6 hXA
      go_upto_region 3 with fail
      go_region_law (refine step_app eI _ (by rfl) _ _ (by rfl) base xs _ (by rfl) HO6.out hsz6 x _ _ (by rfl) (heap_alloc_new W2 (.cells #[.int .i64 x.k, .string x.t, .int .i64 x.id] 54)) (by rfl) (by omega) (by unfold maxLen; omega) ?_; intro g cap w5 hO5 hg5 hl5; obtain ⟨d0, d1, d2, k0, k1, k2⟩ := HV.out.past hg5 HV.out.di)
      all_goals
        (have hs5 := HV.out.setItems (xs' := xs ++ [x]) hg5 hO5 (fun i hi => by injection hi with hi; subst hi; rcases hl5 with e | e; exact .inl e; exact .inr (Nat.le_of_eq e.symm))
         have HS := Lib.hid hs5.1
         have HB := Lib.hid (HO.out.trans ((Only.of_below ((blw (Below.refl _ W2) (.cells #[.int .i64 x.k, .string x.t, .int .i64 x.id] 54)).drew)).trans hs5.2))
         have hloc5 : Hid (∀ i, (Value.slice (some ⟨g, 0, none⟩) (xs.length + 1) cap).ownBlock = some i → vS V (.slice pi xs.length ci) (.slice pc ms.length cc) i ∨ w.heap.size ≤ i) := Lib.hid (fun i hi => by injection hi with hi; subst hi; rcases hl5 with e | e; exact .inl (.inr (.inl e)); exact .inr (by rw [e]; have := HO.out.size; simp [World.drew]; omega))
         clear hs5 hO5 hg5 hl5 d0 d1 d2 k0 k1 k2 y0 y1 y2 yf0 yf1 yf2 z0 z1 z2 zf0 zf1 zf2 t0 t1 t2 s0 s1 s2
         generalize hw6 : World.setCell _ ⟨V, 0, none⟩ _ = w6 at *
         clear hw6
         have hq6 := HS.out.cells
         obtain ⟨c0, c1, c2, cf0, cf1, cf2⟩ := hq6
         have hV7 := HS.out.alloc (.cells #[.int .i64 (q : Int)] 3)
         obtain ⟨e0, e1, e2, ef0, ef1, ef2⟩ := hV7.cells
         have HV7 := Lib.hid hV7
         have hsz7 : base ≤ (w6.alloc (.cells #[.int .i64 (q : Int)] 3)).heap.size := by have := HB.out.size; simp; omega
         have hcut7 := hV7.cut
         rw [HMM.out] at hcut7
         have HC7 := Lib.hid hcut7
         clear hV7 hcut7
         go_upto_region 4 with fail
         go_upto_region 5 with (at_builtin; refine wpl_app eN _ rfl _ _ rfl base ms _ rfl HC7.out hsz7 (q : Int) w6.heap.size _ rfl (heap_alloc_new w6 _) rfl (by omega) (by unfold maxLen; omega) ?_; intro g2 CP w8 hown8 hgr8 hloc8; obtain ⟨d0, d1, d2, k0, k1, k2⟩ := HV7.out.past hgr8 HV7.out.dc)
         have hs8 := HV7.out.setCuts (cs' := cs ++ [q]) hgr8 (by rw [HMS.out]; exact hown8) (fun i hi => by injection hi with hi; subst hi; rcases hloc8 with e | e; exact .inl e; exact .inr (Nat.le_of_eq e.symm))
         have HS8 := Lib.hid hs8.1
         have HB8 := Lib.hid ((HB.out.alloc (.cells #[.int .i64 (q : Int)] 3)).next hs8.2 (fun i hi hS => by
           rcases hS with rfl | hS | hS
           · exact .inl rfl
           · rcases hloc5.out i hS with h | h
             · exact h
             · omega
           · exact .inr (.inr hS)))
         have HL8 : Hid (∀ i, vS V (.slice (some ⟨g, 0, none⟩) (xs.length + 1) cap) (.slice (some ⟨g2, 0, none⟩) (ms.length + 1) CP) i → vS V (.slice pi xs.length ci) (.slice pc ms.length cc) i ∨ w.heap.size ≤ i) := Lib.hid (fun i hi => by
           rcases hi with rfl | hi | hi
           · exact .inl (.inl rfl)
           · exact hloc5.out i hi
           · injection hi with hi; subst hi
             rcases hloc8 with e | e
             · exact .inl (.inr (.inr e))
             · exact .inr (by rw [e]; have := HB.out.size; simp; omega))
         clear hs8 hown8 hgr8 hloc8 d0 d1 d2 k0 k1 k2 c0 c1 c2 cf0 cf1 cf2 e0 e1 e2 ef0 ef1 ef2 hsz7
         generalize hw9 : World.setCell _ ⟨V, 1, none⟩ _ = w9 at *
         clear hw9
         obtain ⟨c0, c1, c2, cf0, cf1, cf2⟩ := HS8.out.cells
         by_cases c5 : n1 ≤ 512
         · have q5 : (n1 : Int) ≤ 512 := by omega
           go_wp2_with fail
           go_ret
           exact ⟨ret_bool (by rw [decide_eq_true c5, Bool.true_and]; exact decide_eq_decide.2 (by omega)), _, _, HS8.out, HB8.out, HL8.out⟩
         · have q5 : ¬ (n1 : Int) ≤ 512 := by omega
           go_wp2_with fail
           go_ret
           exact ⟨ret_bool (by first | rfl | (rw [decide_eq_false c5]; rfl)), _, _, HS8.out, HB8.out, HL8.out⟩)
  · have hk1 : (x.k != 1) = true := by simpa using hk
    rw [if_neg (fun h => hk h.1)] at hlm
    have HLM := Lib.hid hlm
    clear hlm
    obtain ⟨a0, a1, a2, _, _, _⟩ := h.cells
    obtain ⟨b0, b1, b2, bf0, bf1, bf2⟩ := hV0.cells
    go_enter Tryz.func40, Tryz.ntmps40
    go_upto_region 3 with fail
    clear a0 a1 a2 b0 b1 b2 bf0 bf1 bf2
    have hz2 : (w.setCell ⟨V, 2, none⟩ (.int .i64 ((n + 1 : Nat) : Int))).heap.size = w.heap.size := by simp [World.setCell]
    have hV2 := (h.setN (n + 1)).1.alloc (.cells #[.int .i64 x.k, .string x.t, .int .i64 x.id] 54)
    have hO2 := (h.setN (n + 1)).2.alloc (.cells #[.int .i64 x.k, .string x.t, .int .i64 x.id] 54)
    have hX2 := heap_alloc_new (w.setCell ⟨V, 2, none⟩ (.int .i64 ((n + 1 : Nat) : Int))) (.cells #[.int .i64 x.k, .string x.t, .int .i64 x.id] 54)
    rw [hz2] at hX2
    change Code.wp _ _ _ _ ((w.setCell ⟨V, 2, none⟩ (.int .i64 ((n + 1 : Nat) : Int))).alloc (.cells #[.int .i64 x.k, .string x.t, .int .i64 x.id] 54))
    generalize (w.setCell ⟨V, 2, none⟩ (.int .i64 ((n + 1 : Nat) : Int))).alloc (.cells #[.int .i64 x.k, .string x.t, .int .i64 x.id] 54) = W2 at *
    clear hz2
    rw [← HLM.out] at hV2
    have hVA := (hV2.alloc (.cells #[.int .i64 x.k, .string x.t, .int .i64 x.id] 54)).drew
    have HV := Lib.hid hVA; have HX := Lib.hid hX2; have HO := Lib.hid hO2
    have hsz6 : base ≤ ((W2.alloc (.cells #[.int .i64 x.k, .string x.t, .int .i64 x.id] 54)).drew).heap.size := by have := hO2.size; simp [World.drew]; omega
    have hown6 := hVA.own
    obtain ⟨y0, y1, y2, yf0, yf1, yf2⟩ := hVA.cells
    obtain ⟨z0, z1, z2, zf0, zf1, zf2⟩ := hV2.cells
    obtain ⟨t0, t1, t2, _, _, _⟩ := cells_item hX2
    have hXA : ((W2.alloc (.cells #[.int .i64 x.k, .string x.t, .int .i64 x.id] 54))).heap[w.heap.size]? = some (.cells #[.int .i64 x.k, .string x.t, .int .i64 x.id] 54 (0, 0)) := (Lib.alloc_old W2 _ _ (Array.getElem?_eq_some_iff.1 hX2).1).trans hX2
    obtain ⟨s0, s1, s2, _, _, _⟩ := cells_item hXA
    have HO6 := Lib.hid hown6
    clear hVA hown6 hXA
    go_upto_region 3 with fail
    go_region_law (refine step_app eI _ (by rfl) _ _ (by rfl) base xs _ (by rfl) HO6.out hsz6 x _ _ (by rfl) (heap_alloc_new W2 (.cells #[.int .i64 x.k, .string x.t, .int .i64 x.id] 54)) (by rfl) (by omega) (by unfold maxLen; omega) ?_; intro g cap w5 hO5 hg5 hl5; obtain ⟨d0, d1, d2, k0, k1, k2⟩ := HV.out.past hg5 HV.out.di)
    all_goals
      (have hs5 := HV.out.setItems (xs' := xs ++ [x]) hg5 hO5 (fun i hi => by injection hi with hi; subst hi; rcases hl5 with e | e; exact .inl e; exact .inr (Nat.le_of_eq e.symm))
       have HS := Lib.hid hs5.1
       have HB := Lib.hid (HO.out.trans ((Only.of_below ((blw (Below.refl _ W2) (.cells #[.int .i64 x.k, .string x.t, .int .i64 x.id] 54)).drew)).trans hs5.2))
       have hloc5 : Hid (∀ i, (Value.slice (some ⟨g, 0, none⟩) (xs.length + 1) cap).ownBlock = some i → vS V (.slice pi xs.length ci) (.slice pc ms.length cc) i ∨ w.heap.size ≤ i) := Lib.hid (fun i hi => by injection hi with hi; subst hi; rcases hl5 with e | e; exact .inl (.inr (.inl e)); exact .inr (by rw [e]; have := HO.out.size; simp [World.drew]; omega))
       clear hs5 hO5 hg5 hl5 d0 d1 d2 k0 k1 k2 y0 y1 y2 yf0 yf1 yf2 z0 z1 z2 zf0 zf1 zf2 t0 t1 t2 s0 s1 s2
       generalize hw6 : World.setCell _ ⟨V, 0, none⟩ _ = w6 at *
       clear hw6
       have hq6 := HS.out.cells
       obtain ⟨c0, c1, c2, cf0, cf1, cf2⟩ := hq6
       have hV7 := HS.out.alloc (.cells #[.int .i64 (q : Int)] 3)
       obtain ⟨e0, e1, e2, ef0, ef1, ef2⟩ := hV7.cells
       have HV7 := Lib.hid hV7
       have hsz7 : base ≤ (w6.alloc (.cells #[.int .i64 (q : Int)] 3)).heap.size := by have := HB.out.size; simp; omega
       have hcut7 := hV7.cut
       rw [HMM.out] at hcut7
       have HC7 := Lib.hid hcut7
       clear hV7 hcut7
       go_upto_region 4 with fail
       go_upto_region 5 with (at_builtin; refine wpl_app eN _ rfl _ _ rfl base ms _ rfl HC7.out hsz7 (q : Int) w6.heap.size _ rfl (heap_alloc_new w6 _) rfl (by omega) (by unfold maxLen; omega) ?_; intro g2 CP w8 hown8 hgr8 hloc8; obtain ⟨d0, d1, d2, k0, k1, k2⟩ := HV7.out.past hgr8 HV7.out.dc)
       have hs8 := HV7.out.setCuts (cs' := cs ++ [q]) hgr8 (by rw [HMS.out]; exact hown8) (fun i hi => by injection hi with hi; subst hi; rcases hloc8 with e | e; exact .inl e; exact .inr (Nat.le_of_eq e.symm))
       have HS8 := Lib.hid hs8.1
       have HB8 := Lib.hid ((HB.out.alloc (.cells #[.int .i64 (q : Int)] 3)).next hs8.2 (fun i hi hS => by
         rcases hS with rfl | hS | hS
         · exact .inl rfl
         · rcases hloc5.out i hS with h | h
           · exact h
           · omega
         · exact .inr (.inr hS)))
       have HL8 : Hid (∀ i, vS V (.slice (some ⟨g, 0, none⟩) (xs.length + 1) cap) (.slice (some ⟨g2, 0, none⟩) (ms.length + 1) CP) i → vS V (.slice pi xs.length ci) (.slice pc ms.length cc) i ∨ w.heap.size ≤ i) := Lib.hid (fun i hi => by
         rcases hi with rfl | hi | hi
         · exact .inl (.inl rfl)
         · exact hloc5.out i hi
         · injection hi with hi; subst hi
           rcases hloc8 with e | e
           · exact .inl (.inr (.inr e))
           · exact .inr (by rw [e]; have := HB.out.size; simp; omega))
       clear hs8 hown8 hgr8 hloc8 d0 d1 d2 k0 k1 k2 c0 c1 c2 cf0 cf1 cf2 e0 e1 e2 ef0 ef1 ef2 hsz7
       generalize hw9 : World.setCell _ ⟨V, 1, none⟩ _ = w9 at *
       clear hw9
       obtain ⟨c0, c1, c2, cf0, cf1, cf2⟩ := HS8.out.cells
       by_cases c5 : n1 ≤ 512
       · have q5 : (n1 : Int) ≤ 512 := by omega
         go_wp2_with fail
         go_ret
         exact ⟨ret_bool (by rw [decide_eq_true c5, Bool.true_and]; exact decide_eq_decide.2 (by omega)), _, _, HS8.out, HB8.out, HL8.out⟩
       · have q5 : ¬ (n1 : Int) ≤ 512 := by omega
         go_wp2_with fail
         go_ret
         exact ⟨ret_bool (by first | rfl | (rw [decide_eq_false c5]; rfl)), _, _, HS8.out, HB8.out, HL8.out⟩)
end Go.Proofs.YteaciofacmbllaaGreatDoor
namespace Go.Proofs.YteaciofacmbllaaGreatDoor
open Go.ChangeShapes Go.WideShapes Go.ChangeAt Go.RowKit
set_option linter.unusedVariables false
set_option linter.unusedSimpArgs false
set_option maxRecDepth 100000

theorem Val.set3 {base V n : Nat} {xs : List It} {cs : List Nat} {vi vc : Value} {w : World} (h : Val base V xs cs n vi vc w) {xs' : List It} {cs' : List Nat} {vi' vc' : Value} (n' : Nat) (h1 : OwnL 54 3 ienc base xs' vi' w) (h2 : OwnL 3 1 nenc base (nI cs') vc' w) :
    Val base V xs' cs' n' vi' vc' (((w.setCell ⟨V, 0, none⟩ vi').setCell ⟨V, 1, none⟩ vc').setCell ⟨V, 2, none⟩ (.int .i64 (n' : Int))) ∧ Only (fun i => i = V) w (((w.setCell ⟨V, 0, none⟩ vi').setCell ⟨V, 1, none⟩ vc').setCell ⟨V, 2, none⟩ (.int .i64 (n' : Int))) := by
  have hV := h.var
  have hold : ∀ i, i ≠ V → (((w.setCell ⟨V, 0, none⟩ vi').setCell ⟨V, 1, none⟩ vc').setCell ⟨V, 2, none⟩ (.int .i64 (n' : Int))).heap[i]? = w.heap[i]? := fun i h1 => by
    rw [Below.heap_setCell _ _ _ _ h1, Below.heap_setCell _ _ _ _ h1, Below.heap_setCell _ _ _ _ h1]
  refine ⟨⟨?_, ?_, ?_, h.bV⟩, ?_⟩
  · have a1 := setCell_heap w V 0 _ _ vi' hV
    have a2 := setCell_heap _ V 1 _ _ vc' a1
    have a3 := setCell_heap _ V 2 _ _ (.int .i64 (n' : Int)) a2
    exact a3
  · exact ownsRow_same h1 (fun i hi => hold i (fun e => by
      subst e
      obtain ⟨cur, hc⟩ := h1.obj hi
      exact apart hc hV (fun e => by simp at e) rfl))
  · exact ownsRow_same h2 (fun i hi => hold i (fun e => by
      subst e
      obtain ⟨cur, hc⟩ := h2.obj hi
      exact apart hc hV (fun e => by simp at e) rfl))
  · have o0 := (Only.refl (fun i => i = V) w).setCell ⟨V, 0, none⟩ vi' rfl
    have o1 := o0.setCell ⟨V, 1, none⟩ vc' rfl
    exact o1.setCell ⟨V, 2, none⟩ (.int .i64 (n' : Int)) rfl
/-- What readContent answers: elements with their offsets, and an error. -/
def EndV (R : List It × List Nat × Nat × Int) (s : ByteArray) (w : World) (e : Ending) (w' : World) : Prop :=
  ∃ (xs : List It) (cs : List Nat) (vi vc : Value) (n : Nat), e = .returned (.tuple #[.agg #[vi, vc, .int .i64 n], .int .i64 R.2.2.1, .int .i64 R.2.2.2]) ∧ norm xs = R.1 ∧ (∀ x ∈ xs, One x) ∧ xs.length ≤ 1024 ∧ cs.length = xs.length ∧ R.2.1 = (if R.2.2.2 = 0 then cs ++ [s.size] else []) ∧ OwnL 54 3 ienc w.heap.size xs vi w' ∧ OwnL 3 1 nenc w.heap.size (nI cs) vc w' ∧ Below w.heap.size w w'
/-- What holds at each round's head. -/
structure VvR (s : ByteArray) (R : List It × List Nat × Nat × Int) (w : World) (p : Nat) (xs : List It) (cs : List Nat) (n : Nat) (vi vc : Value) (wr : World) : Prop where
  val : Val w.heap.size w.heap.size xs cs n vi vc wr
  scn : Scn wr (w.heap.size + 1) s p
  sep : ¬ vS w.heap.size vi vc (w.heap.size + 1)
  dec : decG elS (norm xs) cs p p (s.data.toList.drop p) = R
  one : ∀ x ∈ xs, One x
  len : n = (norm xs).length
  five : n ≤ 512
  cnt : cs.length = xs.length
  four : xs.length ≤ 1024
  le : p ≤ s.size
  bel : Below w.heap.size w wr
theorem only_sc {w a b : World} {q : Nat} (h : Only (fun i => i = q) a b) (hb : Below w.heap.size w a) (hq : w.heap.size ≤ q) : Below w.heap.size w b := hb.trans (h.below w.heap.size hb.size (fun i hi => by have hi : i = q := hi; omega))
theorem elX_none {l : List UInt8} (h : elX l = none) : elS l = none := by
  unfold elX at h
  cases he : elS l with
  | none => rfl
  | some y =>
    obtain ⟨o, k⟩ := y
    cases o with
    | none =>
      rcases elS_some he with ⟨u, v, _, _, _, e, _⟩ | ⟨c, t, _, _, e, _⟩ | ⟨c, t, _, _, _, e, _⟩ <;> cases e
    | some x => rw [he] at h; cases h
theorem elX_some {l : List UInt8} {x : It} {k : Nat} (h : elX l = some (x, k)) : elS l = some (some x, k) := by
  unfold elX at h
  cases he : elS l with
  | none => rw [he] at h; cases h
  | some y =>
    obtain ⟨o, k⟩ := y
    cases o with
    | none => rw [he] at h; cases h
    | some x => rw [he] at h; injection h with h; injection h with h1 h2; subst h1; subst h2; rfl
set_option maxHeartbeats 3200000 in
theorem readval_any (s : ByteArray) (w : World) (hs : s.size ≤ 1000000000000) : Calls Tryz.prog 21 #[.string s] w (EndV (dec elS s.data.toList) s w) := by
  have hlen : s.data.toList.length = s.size := by simp
  obtain ⟨R, hR⟩ : ∃ R, dec elS s.data.toList = R := ⟨_, rfl⟩
  have hR0 : decG elS [] [] 0 0 (s.data.toList.drop 0) = R := hR
  rw [hR]
  have hmo := fun p W (h : Scn W (w.heap.size + 1) s p) (hp : p ≤ s.size) => more_any (w.heap.size + 1) p s W h hs (by omega)
  have hre := fun p W (h : Scn W (w.heap.size + 1) s p) (hp : p < s.size) => rdelem_any (w.heap.size + 1) p s W h hs hp
  have HMO := Lib.hid hmo; have HRE := Lib.hid hre; have HR0 := Lib.hid hR0
  clear hmo hre hR hR0
  go_enter Tryz.func21, Tryz.ntmps21
  go_upto_region 2 with fail
  have hV := heap_alloc_new w (.cells #[.slice none 0 0, .slice none 0 0, .int .i64 0] 60)
  have hA1 : (w.alloc (.cells #[.slice none 0 0, .slice none 0 0, .int .i64 0] 60)).heap.size = w.heap.size + 1 := by simp
  have hB1 := blw (blw (Below.refl w.heap.size w) (.cells #[.slice none 0 0, .slice none 0 0, .int .i64 0] 60)) (.cells #[.string s, .int .i64 0] 72)
  change Code.wp _ _ _ _ ((w.alloc (.cells #[.slice none 0 0, .slice none 0 0, .int .i64 0] 60)).alloc (.cells #[.string s, .int .i64 0] 72))
  generalize hW2 : w.alloc (.cells #[.slice none 0 0, .slice none 0 0, .int .i64 0] 60) = W2 at *
  have hS3 := Scn.new W2 s 0
  have hVal2 : Val w.heap.size w.heap.size [] [] 0 (.slice none 0 0) (.slice none 0 0) W2 := ⟨hV, OwnL.nil _ _, OwnL.nil _ _, Nat.le_refl _⟩
  have hVal3 := hVal2.alloc (.cells #[.string s, .int .i64 0] 72)
  rw [hA1] at hS3
  clear hV hA1 hW2 hVal2
  generalize W2.alloc (.cells #[.string s, .int .i64 0] 72) = W3 at *
  have hnb : w.heap.size + 1 < W3.heap.size := hS3.lt
  have hnv : ¬ vS w.heap.size (.slice none 0 0) (.slice none 0 0) (w.heap.size + 1) := fun hv => by
    rcases hv with h | h | h
    · omega
    · cases h
    · cases h
  have hrel : VvR s R w 0 [] [] 0 (.slice none 0 0) (.slice none 0 0) W3 :=
    ⟨hVal3, hS3, hnv, HR0.out, (fun x hx => by cases hx), rfl, (by omega), rfl, (by simp), Nat.zero_le _, hB1⟩
  have HREL := Lib.hid hrel
  clear hrel hnv hVal3 hS3 hnb HR0 hB1
  go_loopw [] (fun wr => ∃ p xs cs n vi vc, VvR s R w p xs cs n vi vc wr) (fun wr => s.size - (intOf ((wr.cell? ⟨w.heap.size + 1, 1, none⟩).getD (.int .i64 0))).toNat)
  case atStart => exact ⟨0, [], [], 0, _, _, HREL.out⟩
  case round =>
    obtain ⟨p, xs, cs, n, vi, vc, hr⟩ := hrel
    have HR := Lib.hid hr
    have hm0 := hr.scn.cells.2.1
    have hle := hr.le
    obtain ⟨pi, mi, ci, rfl⟩ : ∃ p m c, vi = .slice p m c := by obtain ⟨a, c, h, _⟩ := hr.val.own.its; exact ⟨_, _, _, h⟩
    obtain ⟨pc, mc, cc, rfl⟩ : ∃ p m c, vc = .slice p m c := by obtain ⟨a, c, h, _⟩ := hr.val.cut.ints; exact ⟨_, _, _, h⟩
    clear hr HREL
    by_cases hlt : p < s.size
    case neg =>
      obtain rfl : p = s.size := by omega
      have hd : s.data.toList.drop s.size = [] := List.drop_of_length_le (by omega)
      have hdec := HR.out.dec
      rw [hd, decG_nil] at hdec
      have HD := Lib.hid hdec
      have HM := Lib.hid (HMO.out s.size wr HR.out.scn (Nat.le_refl _))
      have q : decide (s.size < s.size) = false := decide_eq_false (by omega)
      rw [q] at HM
      clear hd hdec q
      go_wp2_with fail
      refine HM.out.mono ?_; rintro e w2 ⟨rfl, hb⟩
      have HV := Lib.hid (HR.out.val.call hb)
      have HB := Lib.hid (BelowOn HR.out.bel hb)
      obtain ⟨c0, c1, c2, f0, f1, f2⟩ := HV.out.cells
      clear hm0
      go_wp2_with fail
      (try simp only [Exit.inBlock, Exit.then])
      have hz := HV.out.set3 (xs' := xs) (cs' := cs) n HV.out.own HV.out.cut
      have HZ := Lib.hid hz
      clear hz
      change bodyPost _ _ _ _ _ (((w2.setCell ⟨w.heap.size, 0, none⟩ (.slice pi mi ci)).setCell ⟨w.heap.size, 1, none⟩ (.slice pc mc cc)).setCell ⟨w.heap.size, 2, none⟩ (.int .i64 ((n : Nat) : Int)))
      generalize ((w2.setCell ⟨w.heap.size, 0, none⟩ (.slice pi mi ci)).setCell ⟨w.heap.size, 1, none⟩ (.slice pc mc cc)).setCell ⟨w.heap.size, 2, none⟩ (.int .i64 ((n : Nat) : Int)) = wz at *
      obtain ⟨z0, z1, z2, _⟩ := HZ.out.1.cells
      refine bodyPost_ret (v := .tuple #[.agg #[(.slice pi mi ci), (.slice pc mc cc), .int .i64 ((n : Nat) : Int)], .int .i64 0, .int .i64 0]) (by simp [results, Tryz.results21, go_sem, z0, z1, z2]; try rfl) rfl ⟨xs, cs, _, _, n, (by rw [← HD.out]; rfl), (by rw [← HD.out]), HR.out.one, HR.out.four, HR.out.cnt, (by rw [← HD.out]; rfl), HZ.out.1.own, HZ.out.1.cut, HB.out.trans (HZ.out.2.below w.heap.size HB.out.size (fun i hi => by have hi : i = w.heap.size := hi; omega))⟩
    have HM := Lib.hid (HMO.out p wr HR.out.scn hle)
    have q : decide (p < s.size) = true := decide_eq_true hlt
    rw [q] at HM
    clear q
    go_wp2_with fail
    refine HM.out.mono ?_; rintro e w2 ⟨rfl, hb⟩
    have HV := Lib.hid (HR.out.val.call hb)
    have HS := Lib.hid (HR.out.scn.call hb)
    have HB := Lib.hid (BelowOn HR.out.bel hb)
    have x1 := HS.out.cells.2.1
    clear hb
    go_wp2_with fail
    refine (HRE.out p _ HS.out hlt).mono ?_; rintro e w3 ⟨x, ok, q, rfl, hx, hS3, hO3⟩
    have hns : ∀ i, (fun i => i = w.heap.size + 1) i → ¬ vS w.heap.size (.slice pi mi ci) (.slice pc mc cc) i := fun i hi => by have hi : i = w.heap.size + 1 := hi; subst hi; exact HR.out.sep
    have HV3 := Lib.hid ((HV.out.only hO3 hns).alloc (.cells #[.int .i64 x.k, .string x.t, .int .i64 x.id] 54))
    have HB3 := Lib.hid (blw (only_sc hO3 HB.out (by omega)) (.cells #[.int .i64 x.k, .string x.t, .int .i64 x.id] 54))
    have HS3 := Lib.hid (hS3.call (blw (Below.refl _ _) (.cells #[.int .i64 x.k, .string x.t, .int .i64 x.id] 54)))
    have hX3 := heap_alloc_new w3 (.cells #[.int .i64 x.k, .string x.t, .int .i64 x.id] 54)
    clear hS3 hO3 x1 hns
    go_upto_region 5 with fail
    change Code.wp _ _ _ _ (w3.alloc (.cells #[.int .i64 x.k, .string x.t, .int .i64 x.id] 54))
    generalize w3.heap.size = BX at *
    generalize w3.alloc (.cells #[.int .i64 x.k, .string x.t, .int .i64 x.id] 54) = w4 at *
    cases he : elX (s.data.toList.drop p) with
    | none =>
      rw [he] at hx
      obtain ⟨rfl, rfl, hq⟩ : x = zI ∧ ok = false ∧ q = p := hx
      rw [hq] at HS3
      have hdec := HR.out.dec
      have hne : s.data.toList.drop p ≠ [] := fun e => by have := congrArg List.length e; rw [List.length_drop, hlen] at this; simp at this; omega
      rw [decG_none elS_ok _ _ _ _ _ hne (elX_none he)] at hdec
      have HD := Lib.hid hdec
      clear hdec hne he hq
      obtain ⟨c0, c1, c2, f0, f1, f2⟩ := HV3.out.cells
      go_wp2_with fail
      (try simp only [Exit.inBlock, Exit.then])
      have hz := HV3.out.set3 (xs' := []) (cs' := []) 0 (OwnL.nil _ _) (OwnL.nil _ _)
      have HZ := Lib.hid hz
      clear hz
      change bodyPost _ _ _ _ _ (((w4.setCell ⟨w.heap.size, 0, none⟩ (.slice none 0 0)).setCell ⟨w.heap.size, 1, none⟩ (.slice none 0 0)).setCell ⟨w.heap.size, 2, none⟩ (.int .i64 ((0 : Nat) : Int)))
      generalize ((w4.setCell ⟨w.heap.size, 0, none⟩ (.slice none 0 0)).setCell ⟨w.heap.size, 1, none⟩ (.slice none 0 0)).setCell ⟨w.heap.size, 2, none⟩ (.int .i64 ((0 : Nat) : Int)) = wz at *
      obtain ⟨z0, z1, z2, _⟩ := HZ.out.1.cells
      refine bodyPost_ret (v := .tuple #[.agg #[(.slice none 0 0), (.slice none 0 0), .int .i64 ((0 : Nat) : Int)], .int .i64 ((p : Nat) : Int), .int .i64 2]) (by simp [results, Tryz.results21, go_sem, z0, z1, z2]; try rfl) rfl ⟨[], [], _, _, 0, (by rw [← HD.out]), (by rw [← HD.out]; rfl), (fun x hx => by cases hx), (by simp), rfl, (by rw [← HD.out]; rfl), HZ.out.1.own, HZ.out.1.cut, HB3.out.trans (HZ.out.2.below w.heap.size HB3.out.size (fun i hi => by have hi : i = w.heap.size := hi; omega))⟩
    | some y =>
      obtain ⟨y, k⟩ := y
      rw [he] at hx
      obtain ⟨rfl, rfl, hq⟩ : x = y ∧ ok = true ∧ q = p + k := hx
      rw [hq] at HS3
      clear hq
      have hone := elS_ok.one _ _ _ (elX_some he)
      have hadd := vadd_any w.heap.size w.heap.size n xs cs (.slice pi mi ci) (.slice pc mc cc) x p w4 HV3.out HB3.out.size hone HR.out.one HR.out.len HR.out.four (by rw [HR.out.cnt]; have := HR.out.four; omega) HR.out.five
      have hkl := elS_ok.take _ _ _ (elX_some he)
      rw [List.length_drop, hlen] at hkl
      unfold EndAdd at hadd
      have HADD := Lib.hid hadd
      have HE := Lib.hid (elX_some he)
      obtain ⟨x2, x3, x4, _, _, _⟩ := cells_item hX3
      clear hadd he
      go_wp2_with fail
      refine (HADD.out).mono ?_
      rintro e w5 ⟨rfl, vi', vc', hv5, ho5, hl5⟩
      have HV5 := Lib.hid hv5
      have HO5 := Lib.hid (HB3.out.trans (ho5.below w.heap.size HB3.out.size (fun i hi => (HV3.out.lt i hi).1)))
      have HS5 := Lib.hid (HS3.out.only ho5 HR.out.sep)
      have hsep5 : ¬ vS w.heap.size vi' vc' (w.heap.size + 1) := fun hv => by
        rcases hl5 _ hv with h | h
        · exact HR.out.sep h
        · have := HS3.out.lt; omega
      have HSEP := Lib.hid hsep5
      clear hv5 ho5 hl5 hsep5 x2 x3 x4 hX3
      have hdec := HR.out.dec
      by_cases hfull : 512 < (norm (xs ++ [x])).length ∨ 1024 ≤ cs.length
      · rw [decG_full elS_ok _ _ _ _ _ HE.out (by rw [← norm_snoc]; exact hfull)] at hdec
        have HD := Lib.hid hdec
        have qf : (decide ((norm (xs ++ [x])).length ≤ 512) && decide (xs.length + 1 ≤ 1024)) = false := by
          have := HR.out.cnt
          rcases hfull with h | h
          · rw [decide_eq_false (by omega)]; rfl
          · rw [decide_eq_false (show ¬ xs.length + 1 ≤ 1024 by omega)]; simp
        rw [qf]
        obtain ⟨c0, c1, c2, f0, f1, f2⟩ := HV5.out.cells
        clear hdec hfull qf
        go_wp2_with fail
        (try simp only [Exit.inBlock, Exit.then])
        have hz := HV5.out.set3 (xs' := []) (cs' := []) 0 (OwnL.nil _ _) (OwnL.nil _ _)
        have HZ := Lib.hid hz
        clear hz
        change bodyPost _ _ _ _ _ (((w5.setCell ⟨w.heap.size, 0, none⟩ (.slice none 0 0)).setCell ⟨w.heap.size, 1, none⟩ (.slice none 0 0)).setCell ⟨w.heap.size, 2, none⟩ (.int .i64 ((0 : Nat) : Int)))
        generalize ((w5.setCell ⟨w.heap.size, 0, none⟩ (.slice none 0 0)).setCell ⟨w.heap.size, 1, none⟩ (.slice none 0 0)).setCell ⟨w.heap.size, 2, none⟩ (.int .i64 ((0 : Nat) : Int)) = wz at *
        obtain ⟨z0, z1, z2, _⟩ := HZ.out.1.cells
        refine bodyPost_ret (v := .tuple #[.agg #[(.slice none 0 0), (.slice none 0 0), .int .i64 ((0 : Nat) : Int)], .int .i64 ((p : Nat) : Int), .int .i64 3]) (by simp [results, Tryz.results21, go_sem, z0, z1, z2]; try rfl) rfl ⟨[], [], _, _, 0, (by rw [← HD.out]), (by rw [← HD.out]; rfl), (fun x hx => by cases hx), (by simp), rfl, (by rw [← HD.out]; rfl), HZ.out.1.own, HZ.out.1.cut, HO5.out.trans (HZ.out.2.below w.heap.size HO5.out.size (fun i hi => by have hi : i = w.heap.size := hi; omega))⟩
      · have h1 : (norm (xs ++ [x])).length ≤ 512 := by omega
        have h2 : cs.length < 1024 := by omega
        rw [decG_more elS_ok _ _ _ _ _ HE.out (by rw [← norm_snoc]; exact h1) h2, ← norm_snoc, List.drop_drop] at hdec
        have HD := Lib.hid hdec
        have hcn := HR.out.cnt
        have qf : (decide ((norm (xs ++ [x])).length ≤ 512) && decide (xs.length + 1 ≤ 1024)) = true := by
          rw [decide_eq_true h1, decide_eq_true (by omega)]; rfl
        rw [qf]
        have hone2 : ∀ y ∈ xs ++ [x], One y := fun y hy => by
          rcases List.mem_append.1 hy with h | h
          · exact HR.out.one y h
          · rw [List.mem_singleton.1 h]; exact hone
        have hx4 : (xs ++ [x]).length ≤ 1024 := by rw [List.length_append]; simp; omega
        have hc4 : (cs ++ [p]).length = (xs ++ [x]).length := by rw [List.length_append, List.length_append, hcn]; rfl
        have hrel : VvR s R w (p + k) (xs ++ [x]) (cs ++ [p]) _ vi' vc' w5 :=
          ⟨HV5.out, HS5.out, HSEP.out, HD.out, hone2, rfl, h1, hc4, hx4, (by omega), HO5.out⟩
        have HREL := Lib.hid hrel
        have hk1 := hkl.1
        have hk2 : p + k ≤ s.size := by omega
        clear hdec hfull qf h1 h2 hcn hone2 hx4 hc4 hone hrel hkl
        go_wp2_with fail
        go_roundw
        case rel => exact ⟨p + k, _, _, _, _, _, HREL.out⟩
        case measure =>
          rw [hm0, HREL.out.scn.cells.2.1]
          simp [intOf]; omega
end Go.Proofs.YteaciofacmbllaaGreatDoor
namespace Go.Proofs.YteaciofacmbllaaGreatDoor
open Go.ChangeShapes Go.WideShapes Go.ChangeAt Go.RowKit
set_option linter.unusedVariables false
set_option linter.unusedSimpArgs false
set_option maxRecDepth 100000

/-- What Decode answers, and what Cuts. -/
def EndD (R : List It × List Nat × Nat × Int) (w : World) (e : Ending) (w' : World) : Prop := ∃ p c, e = .returned (.tuple #[.slice p R.1.length c, .int .i64 (R.2.2.1 : Nat), .int .i64 R.2.2.2]) ∧ R.1.length ≤ c ∧ c ≤ maxLen ∧ Its w' p R.1 ∧ Below w.heap.size w w'
def EndC (cs : List Nat) (z : Int) (w : World) (e : Ending) (w' : World) : Prop := ∃ p c, e = .returned (.tuple #[.slice p (nI cs).length c, .int .i64 z]) ∧ (nI cs).length ≤ c ∧ c ≤ maxLen ∧ Ones w' (Value.int .i64) p (nI cs) ∧ Below w.heap.size w w'
theorem txt_small {x : It} (hp : properB x = true) (hw : wid x ≤ 1024) : x.t.size ≤ 1024 := by
  rcases proper_kinds hp with h | h | h
  · have : wid x = x.t.size := if_pos h
    omega
  · obtain ⟨_, _, h3, h4⟩ := isT_proper h hp
    unfold isT at h; simp at h
    by_cases hk : x.k = 3
    · have := (isNm_bytes _ (h3 hk)).2.1; omega
    · have := ((isCon_iff _).1 (h4 (by omega))).size; omega
  · rw [slot_proper h] at hp
    simp at hp
    have := (isNm_bytes _ hp.1).2.1; omega
theorem One.small {x : It} (h : One x) : x.t.size ≤ 1024 := by
  rcases h with ⟨_, h2, _⟩ | ⟨h1, h2⟩
  · omega
  · exact txt_small h2 (by rw [wid_other h1]; omega)
theorem ones_txt (xs : List It) (h : ∀ x ∈ xs, One x) : txtI xs ≤ 1024 * xs.length := by
  induction xs with
  | nil => exact Nat.le_refl _
  | cons x t ih =>
    have h1 := (h x (by simp)).small
    have h2 := ih (fun y hy => h y (by simp [hy]))
    have h3 : txtI (x :: t) = x.t.size + txtI t := by unfold txtI; simp
    rw [h3]; simp; omega
theorem OwnL.lt' {α : Type} {e size : Nat} {enc : α → List Value} {base : Nat} {L : List α} {v : Value} {w : World} (h : OwnL e size enc base L v w) {k : Nat} (hk : v.ownBlock = some k) : base ≤ k ∧ k < w.heap.size := World.ownsRow.lt h k hk
theorem ones_tails {xs : List It} (h : ∀ x ∈ xs, One x) (hl : xs.length ≤ 1024) : txtI xs ≤ 140737488355328 := by have := ones_txt xs h; omega
set_option maxHeartbeats 1600000 in
theorem decode_any (s : ByteArray) (w : World) (hs : s.size ≤ 1000000000000) : Calls Tryz.prog 12 #[.string s] w (EndD (dec elS s.data.toList) w) := by
  have hv := readval_any s w hs
  have hn := fun p c xs W (h : ∀ x ∈ xs, One x) (hl : xs.length ≤ 1024) (i : Its W p xs) (a : xs.length ≤ c) (b : c ≤ maxLen) => normalize_any p c xs W i a b (by omega) (ones_tails h hl)
  generalize dec elS s.data.toList = R at *
  have HN := Lib.hid hn
  clear hn
  go_enter Tryz.func12, Tryz.ntmps12
  go_wp2_with fail
  refine hv.mono ?_
  rintro e w1 ⟨xs, cs, vi, vc, n, rfl, h1, h2, h3, h4, h4b, h5, h6, hb⟩
  obtain ⟨pi, ci, rfl, hi1, hi2, hI⟩ := h5.its
  obtain ⟨pc, mc, cc, rfl⟩ : ∃ p m c, vc = .slice p m c := by obtain ⟨a, c, h, _⟩ := h6.ints; exact ⟨_, _, _, h⟩
  have H1 := Lib.hid h1
  clear hv h5 h6 h1 h4b
  have hb1 := blw hb (.cells #[.slice pi xs.length ci, .slice pc mc cc, .int .i64 n] 60)
  have hI1 := hI.call (blw (Below.refl _ _) (.cells #[.slice pi xs.length ci, .slice pc mc cc, .int .i64 n] 60))
  go_wp2_with fail
  refine (HN.out _ _ _ _ h2 h3 hI1 hi1 hi2).mono ?_
  rintro e w2 ⟨v, rfl, hA⟩
  obtain ⟨p2, c2, rfl, j1, j2, hI2⟩ := hA.own.its
  have hb2 := BelowOn hb1 hA.below
  clear hA hI1 hb1
  go_wp2_with fail
  go_ret3
  refine ⟨p2, c2, by rw [← H1.out]; rfl, by rw [← H1.out]; exact j1, j2, by rw [← H1.out]; exact hI2, hb2⟩
set_option maxHeartbeats 1600000 in
theorem cuts_any (s : ByteArray) (w : World) (hs : s.size ≤ 1000000000000) : Calls Tryz.prog 7 #[.string s] w (EndC (dec elS s.data.toList).2.1 (dec elS s.data.toList).2.2.2 w) := by
  have hv := readval_any s w hs
  generalize dec elS s.data.toList = R at *
  by_cases hz : R.2.2.2 = 0
  · have HZ := Lib.hid hz
    go_enter Tryz.func7, Tryz.ntmps7
    go_wp2_with fail
    refine hv.mono ?_
    rintro e w1 ⟨xs, cs, vi, vc, n, rfl, h1, h2, h3, h4, h4b, h5, h6, hb⟩
    rw [if_pos hz] at h4b
    obtain ⟨pi, mi, ci, rfl⟩ : ∃ p m c, vi = .slice p m c := by obtain ⟨a, c, h, _⟩ := h5.its; exact ⟨_, _, _, h⟩
    obtain ⟨pc, cc, rfl, hi1, hi2, hI⟩ := h6.ints
    have hb1 := blw hb (.cells #[.slice pi mi ci, .slice pc (nI cs).length cc, .int .i64 n] 60)
    have hO := OwnL.call h6 (blw (Below.refl _ _) (.cells #[.slice pi mi ci, .slice pc (nI cs).length cc, .int .i64 n] 60))
    have HB1 := Lib.hid hb1
    have hl : (nI cs).length ≤ 1024 := by rw [nI_len]; omega
    have hm : cs.length ≤ 1024 := by omega
    have q : (R.2.2.2 != 0) = false := by rw [hz]; rfl
    have H4 := Lib.hid h4b
    have hV := heap_alloc_new w1 (.cells #[.slice pi mi ci, .slice pc (nI cs).length cc, .int .i64 n] 60)
    clear hv h5 h6 h1 h2 h3 h4 h4b hb hI hi1 hi2 hb1 hz
    go_upto_region 4 with fail
    change Code.wp _ _ _ _ (w1.alloc (.cells #[.slice pi mi ci, .slice pc (nI cs).length cc, .int .i64 n] 60))
    generalize w1.heap.size = BX at *
    generalize w1.alloc (.cells #[.slice pi mi ci, .slice pc (nI cs).length cc, .int .i64 n] 60) = W2 at *
    have c1 : W2.cell? ⟨BX, 1, none⟩ = some (.slice pc (nI cs).length cc) := by rw [Lib.cell_of_heap hV]; rfl
    have hO3 := OwnL.call hO (blw (Below.refl _ _) (.cells #[.int .i64 (s.size : Int)] 3))
    have HO3 := Lib.hid hO3
    have hsz3 : w.heap.size ≤ (W2.alloc (.cells #[.int .i64 (s.size : Int)] 3)).heap.size := by have := HB1.out.size; simp at this ⊢; omega
    have HS3 := Lib.hid hsz3
    have c2 : (W2.alloc (.cells #[.int .i64 (s.size : Int)] 3)).cell? ⟨BX, 1, none⟩ = some (.slice pc (nI cs).length cc) := by
      rw [Lib.cell_of_heap ((Lib.alloc_old W2 _ BX (Array.getElem?_eq_some_iff.1 hV).1).trans hV)]; rfl
    clear hO3 hsz3 hO hV
    go_wp2_with (at_builtin; refine wpl_app eN _ rfl _ _ rfl w.heap.size (nI cs) _ rfl HO3.out HS3.out (s.size : Int) W2.heap.size _ rfl (heap_alloc_new W2 _) rfl (by omega) (by unfold maxLen; omega) ?_; intro g cap w3 hown hgr hloc)
    go_ret2
    have hb3 : Below w.heap.size w w3 := (blw HB1.out (.cells #[.int .i64 (s.size : Int)] 3)).trans ((Below.refl w.heap.size _).grown hgr HS3.out (fun k hk => (OwnL.lt' HO3.out hk).1))
    rw [← nI_snoc] at hown
    obtain ⟨p6, c6, e6, h6a, h6b, h6i⟩ := hown.ints
    injection e6 with e7 e8 e9
    subst e7; subst e9
    refine ⟨some ⟨g, 0, none⟩, cap, ?_, ?_, h6b, ?_, hb3⟩
    · rw [H4.out, HZ.out, nI_snoc, List.length_append]; rfl
    · rw [H4.out]; exact h6a
    · rw [H4.out]; exact h6i
  · have q : (R.2.2.2 != 0) = true := by simpa using hz
    go_enter Tryz.func7, Tryz.ntmps7
    go_wp2_with fail
    refine hv.mono ?_
    rintro e w1 ⟨xs, cs, vi, vc, n, rfl, h1, h2, h3, h4, h4b, h5, h6, hb⟩
    rw [if_neg hz] at h4b
    obtain ⟨pi, mi, ci, rfl⟩ : ∃ p m c, vi = .slice p m c := by obtain ⟨a, c, h, _⟩ := h5.its; exact ⟨_, _, _, h⟩
    obtain ⟨pc, cc, rfl, hi1, hi2, hI⟩ := h6.ints
    have H4 := Lib.hid h4b
    have HB1 := Lib.hid (blw hb (.cells #[.slice pi mi ci, .slice pc (nI cs).length cc, .int .i64 n] 60))
    clear hv h5 h6 h1 h2 h3 h4 h4b hb hI hi1 hi2 hz
    go_wp2_with fail
    go_ret2
    exact ⟨none, 0, by rw [H4.out]; rfl, by rw [H4.out]; exact Nat.le_refl _, Nat.zero_le _, by rw [H4.out]; exact fun h0 => (by cases h0), HB1.out⟩
end Go.Proofs.YteaciofacmbllaaGreatDoor
