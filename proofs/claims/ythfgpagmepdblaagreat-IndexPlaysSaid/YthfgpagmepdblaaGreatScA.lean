/- Score: totals, percentages, allowed distances. Score: the reference's Percent, Allowed, Context, the fixed example, the laws' lists. Score: the fixed example; Context. Score: the walks of ScoreAllows and ScoreMonotone. Score: lists that differ in a few tokens (near): the model, and what a round has in hand. Score: contract of near. Score: small; what a law's lists bear; mathematics of the thresholds. -/
import Derived.Test.YthfgpagmepdblaaGreatDtK
import Derived.Test.YthfgpagmepdblaaGreatSgR
namespace Go.Proofs.YthfgpagmepdblaaGreat
open Go.ChangeShapes Go.WideShapes Go.ChangeAt Go.RowKit Go.Sort
set_option linter.unusedVariables false
set_option linter.unusedSimpArgs false
set_option maxRecDepth 100000

/-- The weight of the heavier list. -/
def tot (a b : List It) : Nat := max (wtL a) (wtL b)
theorem tot_comm (a b : List It) : tot a b = tot b a := Nat.max_comm _ _
theorem tot_le (a b : List It) (ha : a.length ≤ 100000) (hb : b.length ≤ 100000) : tot a b ≤ 400000 := by
  have := wtL_le a; have := wtL_le b; unfold tot; omega
/-- What of a total and a distance is shared, in percent. -/
def pcN (t d : Nat) : Nat := if t = 0 then 100 else 100 * (t - d) / t
def pct (a b : List It) : Nat := pcN (tot a b) (dis a b)
theorem pcN_le (t d : Nat) : pcN t d ≤ 100 := by
  unfold pcN
  split
  · exact Nat.le_refl _
  · rename_i h
    refine Nat.le_trans (Nat.div_le_div_right (Nat.mul_le_mul_left 100 (Nat.sub_le t d))) ?_
    rw [Nat.mul_div_cancel _ (by omega)]; exact Nat.le_refl _
theorem pct_comm (a b : List It) : pct a b = pct b a := by unfold pct; rw [tot_comm, dis_comm]
theorem rboth_any (p q : Option Addr) (c d : Nat) (a b : List It) (w : World) (hA : Its w p a) (hB : Its w q b) (hc : a.length ≤ c) (hd : b.length ≤ d) (hcm : c ≤ maxLen) (hdm : d ≤ maxLen) (ha : a.length ≤ 100000) (hb : b.length ≤ 100000) :
    Calls Tryz.prog 28 #[.slice p a.length c, .slice q b.length d] w fun e w' => e = .returned (.int .i64 (tot a b : Nat)) ∧ Below w.heap.size w w' := by
  have h1 := fun W h => rtotal_any p c a W h hc hcm (by omega)
  have h2 := fun W h => rtotal_any q d b W h hd hdm (by omega)
  have hl := wtL_le a; have hm := wtL_le b
  have H1 := Lib.hid h1; have H2 := Lib.hid h2
  have HT := Lib.hid (show tot a b = max (wtL a) (wtL b) from rfl)
  clear h1 h2
  generalize wtL a = A at *
  generalize wtL b = B at *
  have em : max (A : Int) (B : Int) = ((max A B : Nat) : Int) := by omega
  go_enter Tryz.func28, Tryz.ntmps28
  go_wp2_with fail
  refine (H1.out _ hA).mono ?_; rintro e w1 ⟨rfl, hb1⟩
  go_wp2_with fail
  refine (H2.out _ (hB.call hb1)).mono ?_; rintro e w2 ⟨rfl, hb2⟩
  have HB := Lib.hid (BelowOn hb1 hb2)
  clear hb1 hb2
  go_wp2_with fail
  go_ret
  exact ⟨by rw [HT.out, ← em]; rfl, HB.out⟩
end Go.Proofs.YthfgpagmepdblaaGreat
namespace Go.Proofs.YthfgpagmepdblaaGreat
open Go.ChangeShapes Go.WideShapes Go.ChangeAt Go.RowKit Go.Sort
set_option linter.unusedVariables false
set_option linter.unusedSimpArgs false
set_option maxRecDepth 100000

/-- The greatest distance with which lists of a total have a percentage. -/
def alw (t p : Int) : Int := if 100 < p then -1 else if p < 1 ∨ t < 1 then 1073741824 else min t 1073741824 * (100 - p) / 100
theorem allow_div (m k : Int) (hm : 0 ≤ m) (hk : 0 ≤ k) : (m * k).tdiv 100 = m * k / 100 := Int.tdiv_eq_ediv_of_nonneg (Int.mul_nonneg hm hk)
theorem allow_bound (m k : Int) (h0 : 1 ≤ m) (h1 : m ≤ 1073741824) (k0 : 0 ≤ k) (k1 : k ≤ 99) : 0 ≤ m * k ∧ m * k ≤ 106300440576 := by
  refine ⟨Int.mul_nonneg (by omega) k0, ?_⟩
  have h2 : m * k ≤ 1073741824 * k := Int.mul_le_mul_of_nonneg_right h1 k0
  have h3 : 1073741824 * k ≤ 1073741824 * 99 := Int.mul_le_mul_of_nonneg_left k1 (by omega)
  omega
theorem allowed_any (t p : Int) (w : World) :
    Calls Tryz.prog 23 #[.int .i64 t, .int .i64 p] w fun e w' => e = .returned (.int .i64 (alw t p)) ∧ w = w' := by
  by_cases h1 : 100 < p
  · have HA := Lib.hid (show alw t p = -1 by unfold alw; rw [if_pos h1])
    go_enter Tryz.func23, Tryz.ntmps23
    go_wp2_with fail
    go_ret
    exact ⟨by rw [HA.out]; rfl, rfl⟩
  by_cases h2 : p < 1
  · have HA := Lib.hid (show alw t p = 1073741824 by unfold alw; rw [if_neg h1, if_pos (.inl h2)])
    go_enter Tryz.func23, Tryz.ntmps23
    go_wp2_with fail
    go_ret
    exact ⟨by rw [HA.out]; rfl, rfl⟩
  by_cases h3 : t < 1
  · have HA := Lib.hid (show alw t p = 1073741824 by unfold alw; rw [if_neg h1, if_pos (.inr h3)])
    go_enter Tryz.func23, Tryz.ntmps23
    go_wp2_with fail
    go_ret
    exact ⟨by rw [HA.out]; rfl, rfl⟩
  have HA := Lib.hid (show alw t p = min t 1073741824 * (100 - p) / 100 by unfold alw; rw [if_neg h1, if_neg (by omega)])
  obtain ⟨M, hM⟩ : ∃ M, min t 1073741824 = M := ⟨_, rfl⟩
  obtain ⟨K, hK⟩ : ∃ K, 100 - p = K := ⟨_, rfl⟩
  have hb := allow_bound M K (by omega) (by omega) (by omega) (by omega)
  have hd := allow_div M K (by omega) (by omega)
  have hMh := Lib.hid hM; have hKh := Lib.hid hK
  rw [hM, hK] at HA
  have hwK : IntKind.i64.wrap (100 - p) = 100 - p := IntWalk.i64_in _ ⟨by omega, by omega⟩
  have hwP : IntKind.i64.wrap (M * K) = M * K := IntWalk.i64_in _ ⟨by omega, by omega⟩
  have hq0 : 0 ≤ M * K / 100 := by omega
  have hq1 : M * K / 100 ≤ 1063004406 := by omega
  have hwQ : IntKind.i64.wrap (M * K / 100) = M * K / 100 := IntWalk.i64_in _ ⟨by omega, by omega⟩
  rw [hK] at hwK
  go_enter Tryz.func23, Tryz.ntmps23
  go_wp2_with fail
  go_ret
  exact ⟨by rw [HA.out]; rfl, rfl⟩
theorem rallowed_any (t p : Int) (w : World) :
    Calls Tryz.prog 27 #[.int .i64 t, .int .i64 p] w fun e w' => e = .returned (.int .i64 (alw t p)) ∧ w = w' := by
  by_cases h1 : 100 < p
  · have HA := Lib.hid (show alw t p = -1 by unfold alw; rw [if_pos h1])
    go_enter Tryz.func27, Tryz.ntmps27
    go_wp2_with fail
    go_ret
    exact ⟨by rw [HA.out]; rfl, rfl⟩
  by_cases h2 : p < 1
  · have HA := Lib.hid (show alw t p = 1073741824 by unfold alw; rw [if_neg h1, if_pos (.inl h2)])
    go_enter Tryz.func27, Tryz.ntmps27
    go_wp2_with fail
    go_ret
    exact ⟨by rw [HA.out]; rfl, rfl⟩
  by_cases h3 : t < 1
  · have HA := Lib.hid (show alw t p = 1073741824 by unfold alw; rw [if_neg h1, if_pos (.inr h3)])
    go_enter Tryz.func27, Tryz.ntmps27
    go_wp2_with fail
    go_ret
    exact ⟨by rw [HA.out]; rfl, rfl⟩
  have HA := Lib.hid (show alw t p = min t 1073741824 * (100 - p) / 100 by unfold alw; rw [if_neg h1, if_neg (by omega)])
  obtain ⟨M, hM⟩ : ∃ M, min t 1073741824 = M := ⟨_, rfl⟩
  obtain ⟨K, hK⟩ : ∃ K, 100 - p = K := ⟨_, rfl⟩
  have hb := allow_bound M K (by omega) (by omega) (by omega) (by omega)
  have hd := allow_div M K (by omega) (by omega)
  have hMh := Lib.hid hM; have hKh := Lib.hid hK
  rw [hM, hK] at HA
  have hwK : IntKind.i64.wrap (100 - p) = 100 - p := IntWalk.i64_in _ ⟨by omega, by omega⟩
  have hwP : IntKind.i64.wrap (M * K) = M * K := IntWalk.i64_in _ ⟨by omega, by omega⟩
  have hq0 : 0 ≤ M * K / 100 := by omega
  have hq1 : M * K / 100 ≤ 1063004406 := by omega
  have hwQ : IntKind.i64.wrap (M * K / 100) = M * K / 100 := IntWalk.i64_in _ ⟨by omega, by omega⟩
  rw [hK] at hwK
  go_enter Tryz.func27, Tryz.ntmps27
  go_wp2_with fail
  go_ret
  exact ⟨by rw [HA.out]; rfl, rfl⟩
end Go.Proofs.YthfgpagmepdblaaGreat
namespace Go.Proofs.YthfgpagmepdblaaGreat
open Go.ChangeShapes Go.WideShapes Go.ChangeAt Go.RowKit Go.Sort
set_option linter.unusedVariables false
set_option linter.unusedSimpArgs false
set_option maxRecDepth 100000

theorem pct44 : pct rcT rcsT = 44 := by decide +kernel
theorem pct100 : pct [] [] = 100 := by decide +kernel
theorem alw5 : alw 9 44 = 5 := by decide +kernel
theorem alw4 : alw 9 45 = 4 := by decide +kernel
end Go.Proofs.YthfgpagmepdblaaGreat
namespace Go.Proofs.YthfgpagmepdblaaGreat
open Go.ChangeShapes Go.WideShapes Go.ChangeAt Go.RowKit Go.Sort
set_option linter.unusedVariables false
set_option linter.unusedSimpArgs false
set_option maxRecDepth 100000

theorem alw_in (t p : Int) (h1 : 1 ≤ t) (h2 : t ≤ 1073741824) (h3 : 1 ≤ p) (h4 : p ≤ 100) : alw t p = t * (100 - p) / 100 := by
  unfold alw; rw [if_neg (by omega), if_neg (by omega), show min t 1073741824 = t by omega]
theorem alw_over (t p : Int) (h : 100 < p) : alw t p = -1 := if_pos h
theorem mono_facts (t p k : Int) (h1 : 1 ≤ t) (h2 : t ≤ 5000) (h3 : 1 ≤ p) (h4 : p ≤ 100) (h5 : 0 ≤ k) (h6 : k ≤ 99) : alw t (p + k) ≤ alw t p ∧ alw t p ≤ alw (t + k) p ∧ alw t 100 = 0 ∧ alw t p ≤ t ∧ 0 ≤ alw t p := by
  have e1 := alw_in t p h1 (by omega) h3 h4
  have b1 : 0 ≤ t * (100 - p) := Int.mul_nonneg (by omega) (by omega)
  refine ⟨?_, ?_, ?_, ?_, ?_⟩
  · by_cases h : 100 < p + k
    · rw [alw_over t _ h, e1]; omega
    · rw [alw_in t (p + k) h1 (by omega) (by omega) (by omega), e1]
      have : t * (100 - (p + k)) ≤ t * (100 - p) := Int.mul_le_mul_of_nonneg_left (by omega) (by omega)
      omega
  · rw [e1, alw_in (t + k) p (by omega) (by omega) h3 h4]
    have : t * (100 - p) ≤ (t + k) * (100 - p) := Int.mul_le_mul_of_nonneg_right (by omega) (by omega)
    omega
  · rw [alw_in t 100 h1 (by omega) (by omega) (by omega)]; simp
  · rw [e1]
    have : t * (100 - p) ≤ t * 100 := Int.mul_le_mul_of_nonneg_left (by omega) (by omega)
    omega
  · rw [e1]; omega
end Go.Proofs.YthfgpagmepdblaaGreat
namespace Go.Proofs.YthfgpagmepdblaaGreat
open Go.ChangeShapes Go.WideShapes Go.ChangeAt Go.RowKit Go.Sort
set_option linter.unusedVariables false
set_option linter.unusedSimpArgs false
set_option maxRecDepth 100000

def blueT : It := ⟨6, ⟨#[98, 108, 117, 101]⟩, 0⟩
def sfxT (x : It) : It := if x.k = 6 then ⟨6, x.t ++ ⟨#[115]⟩, x.id⟩ else x
def nearS (M : List Int) (i : Nat) (x : It) : List It :=
  if nx M i 12 = 0 then [] else if nx M i 12 = 1 then [blueT, x] else if nx M i 12 = 2 then [sfxT x] else if nx M i 12 = 3 then [x, x] else [x]
def nearK (M : List Int) : Nat → List It → List It
  | _, [] => []
  | i, x :: l => nearS M i x ++ nearK M (i + 1) l
def nearL (M : List Int) (l : List It) : List It := nearK M 0 l
theorem nearK_snoc (M : List Int) (l : List It) (x : It) : ∀ i, nearK M i (l ++ [x]) = nearK M i l ++ nearS M (i + l.length) x := by
  induction l with
  | nil => intro i; simp [nearK]
  | cons y l ih => intro i; rw [List.cons_append, nearK, nearK, ih, List.append_assoc, List.length_cons, show i + 1 + l.length = i + (l.length + 1) by omega]
theorem nearL_next (M : List Int) (l : List It) (k : Nat) (h : k < l.length) : nearL M (l.take (k + 1)) = nearL M (l.take k) ++ nearS M k (l[k]'h) := by
  unfold nearL
  rw [List.take_succ_eq_append_getElem h, nearK_snoc, Nat.zero_add, List.length_take, Nat.min_eq_left (Nat.le_of_lt h)]
theorem nearS_len (M : List Int) (i : Nat) (x : It) : (nearS M i x).length ≤ 2 := by
  unfold nearS; repeat' split
  all_goals simp
theorem nearK_len (M : List Int) (l : List It) : ∀ i, (nearK M i l).length ≤ 2 * l.length := by
  induction l with
  | nil => intro i; exact Nat.le_refl _
  | cons x l ih => intro i; rw [nearK, List.length_append, List.length_cons]; have := ih (i + 1); have := nearS_len M i x; omega
theorem nearL_len (M : List Int) (l : List It) : (nearL M l).length ≤ 2 * l.length := nearK_len M l 0
theorem nearK_all {P : It → Prop} (M : List Int) (l : List It) (hb : P blueT) (hx : ∀ x ∈ l, P x) (hs : ∀ x ∈ l, P (sfxT x)) : ∀ i, ∀ y ∈ nearK M i l, P y := by
  induction l with
  | nil => intro i y hy; cases hy
  | cons x l ih =>
    intro i y hy
    rw [nearK, List.mem_append] at hy
    rcases hy with hy | hy
    · have h1 := hx x (List.mem_cons_self ..)
      have h2 := hs x (List.mem_cons_self ..)
      unfold nearS at hy
      split at hy
      · cases hy
      · split at hy
        · simp at hy; rcases hy with rfl | rfl <;> assumption
        · split at hy
          · simp at hy; subst hy; exact h2
          · split at hy
            · simp at hy; subst hy; exact h1
            · simp at hy; subst hy; exact h1
    · exact ih (fun z hz => hx z (List.mem_cons_of_mem _ hz)) (fun z hz => hs z (List.mem_cons_of_mem _ hz)) (i + 1) y hy
theorem nearL_kind (M : List Int) (l : List It) (h : kindV l) : kindV (nearL M l) :=
  nearK_all (P := fun x => 2 ≤ x.k ∧ x.k ≤ 9) M l (by decide) h (fun x hx => by
    unfold sfxT; split
    · exact ⟨show (2 : Int) ≤ 6 by decide, show (6 : Int) ≤ 9 by decide⟩
    · exact h x hx) 0
theorem nearL_txt (M : List Int) (l : List It) (h : ∀ x ∈ l, x.t.size ≤ 900) : txtsB (nearL M l) :=
  nearK_all (P := fun x => x.t.size ≤ 1000) M l (by decide) (fun x hx => by have := h x hx; omega) (fun x hx => by
    have := h x hx
    unfold sfxT; split
    · show (x.t ++ ⟨#[115]⟩).size ≤ 1000
      rw [ByteArray.size_append]; show x.t.size + 1 ≤ 1000; omega
    · omega) 0
theorem mkD_txt9 (L : List Int) (n : Nat) : ∀ x ∈ mkD L n, x.t.size ≤ 900 := fun x hx => by
  have h1 := toks_txt (mk L true false)
  have h2 := (mk_ok L true false).txt
  have := txt_mem _ x (show x ∈ toks (mk L true false) from List.mem_of_mem_take hx)
  omega
/-- What a round of near has in hand. -/
structure NrR (w : World) (pn : Option Addr) (cn : Nat) (M : List Int) (p : Option Addr) (l : List It) (out : List It) (v : Value) (m : Nat) (W : World) : Prop where
  below : Below w.heap.size w W
  nums : NumsAt W w.heap.size pn cn M m
  own : OwnT (w.heap.size + 1) out v W
  its : Its W p l
  plo : 0 < M.length → ∀ a, pn = some a → a.block < w.heap.size
  ilo : 0 < l.length → ∀ a, p = some a → a.block < w.heap.size
section
variable {w W W' : World} {pn p : Option Addr} {cn m : Nat} {M : List Int} {l out : List It} {v : Value}
theorem NrR.lt (h : NrR w pn cn M p l out v m W) : w.heap.size < W.heap.size := h.nums.lt
theorem NrR.call (h : NrR w pn cn M p l out v m W) (hb : Below W.heap.size W W') : NrR w pn cn M p l out v m W' :=
  ⟨BelowOn h.below hb, h.nums.call hb, h.own.call hb, h.its.call hb, h.plo, h.ilo⟩
theorem NrR.alloc (h : NrR w pn cn M p l out v m W) (o : Obj) : NrR w pn cn M p l out v m (W.alloc o) := h.call (blw (Below.refl _ _) o)
theorem its_keepB {W W' : World} {p : Option Addr} {l : List It} {B : Nat} (h : Its W p l) (hlo : 0 < l.length → ∀ a, p = some a → a.block < B) (hs : W.heap.size ≤ W'.heap.size) (hb : ∀ k, k < B → W'.heap[k]? = W.heap[k]?) : Its W' p l := fun h0 => by
  obtain ⟨a, hp, hlt, hc⟩ := h h0
  have hk := hb _ (hlo h0 a hp)
  refine ⟨a, hp, Nat.lt_of_lt_of_le hlt hs, fun i hi => ?_⟩
  obtain ⟨c0, c1, c2⟩ := hc i hi
  refine ⟨?_, ?_, ?_⟩
  · rw [World.cell?_of_block (w := W) (w' := W') (a := a.add (i * 3)) (by rw [add_block]; exact hk)]; exact c0
  · rw [World.cell?_of_block (w := W) (w' := W') (a := a.add (i * 3 + 1)) (by rw [add_block]; exact hk)]; exact c1
  · rw [World.cell?_of_block (w := W) (w' := W') (a := a.add (i * 3 + 2)) (by rw [add_block]; exact hk)]; exact c2
theorem NrR.next (h : NrR w pn cn M p l out v m W) {m' : Nat} (hg : W.grownBy W' (some w.heap.size)) (hN : NumsAt W' w.heap.size pn cn M m') : NrR w pn cn M p l out v m' W' :=
  ⟨below_of_grow h.below hg h.below.size (Nat.le_refl _), hN, h.own.other hg (by omega),
    its_keepB h.its h.ilo hg.size (fun k hk => hg.block k (by have := h.lt; omega) (fun e => by injection e; omega)), h.plo, h.ilo⟩
theorem NrR.push (h : NrR w pn cn M p l out v m W) {out' : List It} {v' : Value} (hown : OwnT (w.heap.size + 1) out' v' W') (hb : Below (w.heap.size + 1) W W') : NrR w pn cn M p l out' v' m W' :=
  ⟨h.below.trans (hb.mono (by omega)), h.nums.keep hb.size (hb.block _ (by omega)) (fun h0 a ha => hb.block _ (by have := h.plo h0 a ha; omega)), hown,
    its_keepB h.its h.ilo hb.size (fun k hk => hb.block k (by omega)), h.plo, h.ilo⟩
theorem NrR.set (h : NrR w pn cn M p l out v m W) {g : Nat} (hg : w.heap.size < g) (hv : v.ownBlock ≠ some g) (i : Nat) (x : Value) : NrR w pn cn M p l out v m (W.setCell ⟨g, i, none⟩ x) := by
  have hgr := grow_cell W g i x
  have hk : ∀ k, k ≠ g → (W.setCell ⟨g, i, none⟩ x).heap[k]? = W.heap[k]? := fun k hk => Below.heap_setCell W ⟨g, i, none⟩ _ k hk
  have hs : (W.setCell ⟨g, i, none⟩ x).heap.size = W.heap.size := by simp [World.setCell]
  exact ⟨below_of_grow h.below hgr h.below.size (by omega), h.nums.keep (by omega) (hk _ (by omega)) (fun h0 a ha => hk _ (by have := h.plo h0 a ha; omega)),
    h.own.keepAt (fun k e => hk k (fun e2 => hv (by rw [← e2]; exact e))), its_keepB h.its h.ilo (by omega) (fun k hkk => hk k (by omega)), h.plo, h.ilo⟩
theorem NrR.start (pn : Option Addr) (cn : Nat) (M : List Int) (p : Option Addr) (l : List It) (w : World) (hM : Ones w (Value.int .i64) pn M) (wM : ∀ i (h : i < M.length), (Lit.int .i64 (M[i]'h)).wf = true) (hc : M.length ≤ cn) (hm : cn ≤ maxLen) (hl : Its w p l) :
    NrR w pn cn M p l [] (.slice none 0 0) 0 (w.alloc (.cells #[.slice pn M.length cn, .int .i64 0] 33)) := by
  have hb : Below w.heap.size w (w.alloc (.cells #[.slice pn M.length cn, .int .i64 0] 33)) := blw (Below.refl _ _) _
  exact ⟨hb, NumsAt.made hM wM hc hm, OwnL.nil _ _, hl.call hb, fun h0 => ones_any hM h0, fun h0 a ha => by
    obtain ⟨b, e, hlt, _⟩ := hl h0
    rw [ha] at e; injection e with e; subst e; exact hlt⟩
end
/-- A round's token lies in a variable. -/
structure NrV (w : World) (pn : Option Addr) (cn : Nat) (M : List Int) (p : Option Addr) (l : List It) (out : List It) (v : Value) (m g : Nat) (x : It) (W : World) : Prop where
  r : NrR w pn cn M p l out v m W
  va : Var3 W g x.k x.t x.id
  ne : v.ownBlock ≠ some g
  gl : w.heap.size < g
  fz : ∃ cur, W.heap[g]? = some (.cells cur 43 (0, 0))
section
variable {w W W' : World} {pn p : Option Addr} {cn m g : Nat} {M : List Int} {l out : List It} {v : Value} {x : It}
theorem NrR.vars (h : NrR w pn cn M p l out v m W) (x : It) : NrV w pn cn M p l out v m W.heap.size x (W.alloc (.cells #[.int .i64 x.k, .string x.t, .int .i64 x.id] 43)) :=
  ⟨h.alloc _, Var3.newT W x.k x.t x.id, fun e => by have := (h.own.lt _ e).2; omega, h.lt, ⟨_, heap_alloc_new W _⟩⟩
theorem NrV.call (h : NrV w pn cn M p l out v m g x W) (hb : Below W.heap.size W W') : NrV w pn cn M p l out v m g x W' := ⟨h.r.call hb, h.va.call hb, h.ne, h.gl, by obtain ⟨cur, hc⟩ := h.fz; exact ⟨cur, keep_heap hc hb⟩⟩
theorem NrV.next (h : NrV w pn cn M p l out v m g x W) {m' : Nat} (hg : W.grownBy W' (some w.heap.size)) (hN : NumsAt W' w.heap.size pn cn M m') : NrV w pn cn M p l out v m' g x W' :=
  ⟨h.r.next hg hN, h.va.other hg (by have := h.gl; omega), h.ne, h.gl, by obtain ⟨cur, hc⟩ := h.fz; exact ⟨cur, (hg.block g (heap_lt hc) (fun e => by injection e with e; have := h.gl; omega)).trans hc⟩⟩
theorem NrV.push (h : NrV w pn cn M p l out v m g x W) {out' : List It} {g' n c : Nat} (hown : OwnT (w.heap.size + 1) out' (.slice (some ⟨g', 0, none⟩) n c) W') (hgr : W.grownBy W' v.ownBlock) (hloc : v.ownBlock = some g' ∨ g' = W.heap.size) : NrV w pn cn M p l out' (.slice (some ⟨g', 0, none⟩) n c) m g x W' := by
  have hlt := h.va.lt
  have hb : Below (w.heap.size + 1) W W' := ⟨hgr.os, hgr.tape, hgr.output, hgr.size, fun k hk => hgr.block k (by have := h.r.lt; omega) (fun e => by have := (h.r.own.lt k e.symm).1; omega)⟩
  refine ⟨h.r.push hown hb, h.va.same (hgr.block g hlt (fun e => h.ne e.symm)) hgr.size, fun e => ?_, h.gl, by obtain ⟨cur, hc⟩ := h.fz; exact ⟨cur, (hgr.block g hlt (fun e => h.ne e.symm)).trans hc⟩⟩
  have e' : g' = g := by simpa [Value.ownBlock] using e
  subst e'
  rcases hloc with h1 | h1
  · exact h.ne h1
  · omega
theorem NrV.text (h : NrV w pn cn M p l out v m g x W) (s : ByteArray) : NrV w pn cn M p l out v m g ⟨x.k, s, x.id⟩ (W.setCell ⟨g, 1, none⟩ (.string s)) := by
  refine ⟨h.r.set h.gl h.ne 1 _, ⟨?_, ?_, ?_, ?_⟩, h.ne, h.gl, by obtain ⟨cur, hc⟩ := h.fz; exact ⟨_, setCell_at W g 1 cur _ _ hc⟩⟩
  · rw [World.cell?_setCell_other _ _ _ _ (fun e => by injection e with e1 e2; omega)]; exact h.va.c0
  · exact World.cell?_setCell_same _ _ _ h.va.c1
  · rw [World.cell?_setCell_other _ _ _ _ (fun e => by injection e with e1 e2; omega)]; exact h.va.c2
  · have := h.va.lt; simpa [World.setCell] using this
end
end Go.Proofs.YthfgpagmepdblaaGreat
namespace Go.Proofs.YthfgpagmepdblaaGreat
open Go.ChangeShapes Go.WideShapes Go.ChangeAt Go.RowKit Go.Sort
set_option linter.unusedVariables false
set_option linter.unusedSimpArgs false
set_option maxRecDepth 100000

set_option maxHeartbeats 6400000 in
theorem near_any (p pn : Option Addr) (c cn : Nat) (l : List It) (M : List Int) (w : World) (hR : Its w p l) (hc : l.length ≤ c) (hcm : c ≤ maxLen) (hM : Ones w (Value.int .i64) pn M) (wM : ∀ i (h : i < M.length), (Lit.int .i64 (M[i]'h)).wf = true) (hcn : M.length ≤ cn) (hcnm : cn ≤ maxLen) (hl : l.length ≤ 1000) (hx : ∀ x ∈ l, x.t.size ≤ 900) :
    Calls Tryz.prog 17 #[.slice p l.length c, .slice pn M.length cn] w (EndT (nearL M l) w) := by
  have hS := NrR.start pn cn M p l w hM wM hcn hcnm hR
  have HL := Lib.hid (nearL_len M)
  have HX := Lib.hid hx
  have HNX := Lib.hid (fun W k h hk => next_any w.heap.size pn cn M k 12 12 rfl W h hk (by omega) (by omega))
  clear hM wM hR hx
  unfold maxLen at hcm
  go_enter Tryz.func17, Tryz.ntmps17
  go_wp2_with fail
  generalize (w.alloc (.cells #[.slice pn M.length cn, .int .i64 0] 33)) = w1 at *
  go_loopw [6, 14] (fun v i wr => ∃ k : Nat, k ≤ l.length ∧ i = .int .i64 k ∧ NrR w pn cn M p l (nearL M (l.take k)) v k wr) (fun _ i _ => l.length - (intOf i).toNat)
  case atStart => exact ⟨0, Nat.zero_le _, rfl, by simpa [nearL, nearK] using hS⟩
  case round =>
    clear hS
    obtain ⟨k, hk, rfl, hN⟩ := hrel
    by_cases hlt : k < l.length
    · obtain ⟨ad, rfl, had, x0, x1, x2⟩ := hN.its.row k hlt
      have hnx := nearL_next M l k hlt
      have hol := HL.out (l.take k)
      have hxs := HX.out _ (List.getElem_mem hlt)
      have hV := hN.vars l[k]
      rw [List.length_take] at hol
      have hol2 : (nearL M (l.take k)).length ≤ 2000 := by omega
      have ik : (k : Int) < (l.length : Int) := by omega
      have hg : (nearS M k l[k]) = (if nx M k 12 = 0 then [] else if nx M k 12 = 1 then [blueT, l[k]] else if nx M k 12 = 2 then [sfxT l[k]] else if nx M k 12 = 3 then [l[k], l[k]] else [l[k]]) := rfl
      have HG := Lib.hid hg; have HO := Lib.hid hnx
      have hN3 := HNX.out _ k hV.r.nums (by omega)
      generalize nearL M (l.take k) = out at *
      generalize l[k] = X at *
      generalize nx M k 12 = N at *
      have HV := Lib.hid hV; have HN3 := Lib.hid hN3
      clear hN hg hnx hV hN3 hol
      go_wp2_with fail
      refine HN3.out.mono ?_; rintro e w2 ⟨rfl, hgr, hNu⟩
      have HV2 := Lib.hid (HV.out.next hgr hNu)
      clear HV HN3 hgr hNu x0 x1 x2 had
      generalize wr.heap.size = g at *
      by_cases z0 : N = 0
      · have q0 : ((N : Int) == 0) = true := by simp; omega
        have hv := HV2.out
        go_wp2_with fail
        go_roundw
        case rel => exact ⟨k + 1, hlt, by go_num, by rw [HO.out, HG.out]; rw [if_pos z0, List.append_nil]; exact hv.r⟩
        case measure => simp [intOf] <;> omega
      have q0 : ((N : Int) == 0) = false := by simp; omega
      by_cases z1 : N = 1
      · have q1 : ((N : Int) == 1) = true := by simp; omega
        have hv1 := HV2.out
        obtain ⟨c0, c1, c2, clt⟩ := id hv1.va
        have hnew := heap_alloc_new w2 (.cells #[.int .i64 6, .string ⟨#[98, 108, 117, 101]⟩, .int .i64 0] 43)
        have hbn : Below w2.heap.size w2 (w2.alloc (.cells #[.int .i64 6, .string ⟨#[98, 108, 117, 101]⟩, .int .i64 0] 43)) := blw (Below.refl _ _) _
        have hv1' := hv1.call hbn
        go_wp2_with (first
          | (at_builtin; refine wpl_app eT _ rfl _ _ rfl (w.heap.size + 1) out _ rfl hv1'.r.own (by have := hv1'.r.lt; omega) blueT _ _ rfl hnew rfl (by (try simp only [List.length_append, List.length_cons, List.length_nil]); omega) (by unfold maxLen; (try simp only [List.length_append, List.length_cons, List.length_nil]); omega) ?_; intro g1 cap1 w3 hown hgr hloc; have hv2 := hv1'.push hown hgr hloc; clear hown hgr hloc hnew hbn hv1' hv1 c0 c1 c2 clt; obtain ⟨c0, c1, c2, clt⟩ := id hv2.va; have hnew2 := heap_alloc_new w3 (.cells #[.int .i64 X.k, .string X.t, .int .i64 X.id] 43); have hbn2 : Below w3.heap.size w3 (w3.alloc (.cells #[.int .i64 X.k, .string X.t, .int .i64 X.id] 43)) := blw (Below.refl _ _) _; have hv2' := hv2.call hbn2)
          | (at_builtin; refine wpl_app eT _ rfl _ _ rfl (w.heap.size + 1) (out ++ [blueT]) _ rfl hv2'.r.own (by have := hv2'.r.lt; omega) X _ _ rfl hnew2 rfl (by (try simp only [List.length_append, List.length_cons, List.length_nil]); omega) (by unfold maxLen; (try simp only [List.length_append, List.length_cons, List.length_nil]); omega) ?_; intro g2 cap2 w4 hown hgr hloc))
        have HV4 := Lib.hid (hv2'.push hown hgr hloc)
        clear hown hgr hloc hv2' hbn2 hnew2 hv2 c0 c1 c2 clt
        have hv := HV4.out
        go_wp2_with fail
        go_roundw
        case rel => exact ⟨k + 1, hlt, by go_num, by rw [HO.out, HG.out]; rw [if_neg z0, if_pos z1]; exact (by simpa using hv.r)⟩
        case measure => simp [intOf] <;> omega
      have q1 : ((N : Int) == 1) = false := by simp; omega
      by_cases z2 : N = 2
      · have q2 : ((N : Int) == 2) = true := by simp; omega
        by_cases y : X.k = 6
        · have qk : (X.k == 6) = true := by simp [y]
          have hsz : ¬ 9223372036854775807 < X.t.size + 1 := by omega
          have hsx : sfxT X = ⟨X.k, X.t ++ ⟨#[115]⟩, X.id⟩ := by unfold sfxT; rw [if_pos y, y]
          have HSX := Lib.hid hsx
          clear hsx y
          have hv := HV2.out
          obtain ⟨d0, d1, d2, dl⟩ := id hv.va
          have fz : w2.frozen? ⟨g, 1, none⟩ = false := by obtain ⟨cur, hc⟩ := hv.fz; exact Lib.frozen_of_heap hc _
          have HV3 := Lib.hid (hv.text (X.t ++ ⟨#[115]⟩))
          clear hv
          go_upto_region 15 with (fail)
          generalize w2.setCell ⟨g, 1, none⟩ (.string (X.t ++ ⟨#[115]⟩)) = w3 at *
          clear d0 d1 d2 dl fz
          have hv2 := HV3.out
          obtain ⟨c0, c1, c2, cl⟩ := id hv2.va
          have hnew := heap_alloc_new w3 (.cells #[.int .i64 X.k, .string (X.t ++ ⟨#[115]⟩), .int .i64 X.id] 43)
          have hbn : Below w3.heap.size w3 (w3.alloc (.cells #[.int .i64 X.k, .string (X.t ++ ⟨#[115]⟩), .int .i64 X.id] 43)) := blw (Below.refl _ _) _
          have hv2' := hv2.call hbn
          go_wp2_with (at_builtin; refine wpl_app eT _ rfl _ _ rfl (w.heap.size + 1) out _ rfl hv2'.r.own (by have := hv2'.r.lt; omega) (⟨X.k, X.t ++ ⟨#[115]⟩, X.id⟩ : It) _ _ rfl hnew rfl (by (try simp only [List.length_append, List.length_cons, List.length_nil]); omega) (by unfold maxLen; (try simp only [List.length_append, List.length_cons, List.length_nil]); omega) ?_; intro g2 cap2 w4 hown hgr hloc)
          have HV4 := Lib.hid (hv2'.push hown hgr hloc)
          clear hown hgr hloc hv2' hbn hnew hv2 c0 c1 c2 cl
          have hv := HV4.out
          go_wp2_with fail
          go_roundw
          case rel => exact ⟨k + 1, hlt, by go_num, by rw [HO.out, HG.out]; rw [if_neg z0, if_neg z1, if_pos z2, HSX.out]; exact hv.r⟩
          case measure => simp [intOf] <;> omega
        · have qk : (X.k == 6) = false := by simp [y]
          have HSX := Lib.hid (show sfxT X = X by unfold sfxT; rw [if_neg y])
          clear y
          have hv2 := HV2.out
          obtain ⟨c0, c1, c2, cl⟩ := id hv2.va
          have hnew := heap_alloc_new w2 (.cells #[.int .i64 X.k, .string X.t, .int .i64 X.id] 43)
          have hbn : Below w2.heap.size w2 (w2.alloc (.cells #[.int .i64 X.k, .string X.t, .int .i64 X.id] 43)) := blw (Below.refl _ _) _
          have hv2' := hv2.call hbn
          go_wp2_with (at_builtin; refine wpl_app eT _ rfl _ _ rfl (w.heap.size + 1) out _ rfl hv2'.r.own (by have := hv2'.r.lt; omega) X _ _ rfl hnew rfl (by (try simp only [List.length_append, List.length_cons, List.length_nil]); omega) (by unfold maxLen; (try simp only [List.length_append, List.length_cons, List.length_nil]); omega) ?_; intro g2 cap2 w4 hown hgr hloc)
          have HV4 := Lib.hid (hv2'.push hown hgr hloc)
          clear hown hgr hloc hv2' hbn hnew hv2 c0 c1 c2 cl
          have hv := HV4.out
          go_wp2_with fail
          go_roundw
          case rel => exact ⟨k + 1, hlt, by go_num, by rw [HO.out, HG.out]; rw [if_neg z0, if_neg z1, if_pos z2, HSX.out]; exact hv.r⟩
          case measure => simp [intOf] <;> omega
      have q2 : ((N : Int) == 2) = false := by simp; omega
      by_cases z3 : N = 3
      · have q3 : ((N : Int) == 3) = true := by simp; omega
        have hv1 := HV2.out
        obtain ⟨c0, c1, c2, clt⟩ := id hv1.va
        have hnew := heap_alloc_new w2 (.cells #[.int .i64 X.k, .string X.t, .int .i64 X.id] 43)
        have hbn : Below w2.heap.size w2 (w2.alloc (.cells #[.int .i64 X.k, .string X.t, .int .i64 X.id] 43)) := blw (Below.refl _ _) _
        have hv1' := hv1.call hbn
        go_wp2_with (first
          | (at_builtin; refine wpl_app eT _ rfl _ _ rfl (w.heap.size + 1) out _ rfl hv1'.r.own (by have := hv1'.r.lt; omega) X _ _ rfl hnew rfl (by (try simp only [List.length_append, List.length_cons, List.length_nil]); omega) (by unfold maxLen; (try simp only [List.length_append, List.length_cons, List.length_nil]); omega) ?_; intro g1 cap1 w3 hown hgr hloc; have hv2 := hv1'.push hown hgr hloc; clear hown hgr hloc hnew hbn hv1' hv1 c0 c1 c2 clt; obtain ⟨c0, c1, c2, clt⟩ := id hv2.va; have hnew2 := heap_alloc_new w3 (.cells #[.int .i64 X.k, .string X.t, .int .i64 X.id] 43); have hbn2 : Below w3.heap.size w3 (w3.alloc (.cells #[.int .i64 X.k, .string X.t, .int .i64 X.id] 43)) := blw (Below.refl _ _) _; have hv2' := hv2.call hbn2)
          | (at_builtin; refine wpl_app eT _ rfl _ _ rfl (w.heap.size + 1) (out ++ [X]) _ rfl hv2'.r.own (by have := hv2'.r.lt; omega) X _ _ rfl hnew2 rfl (by (try simp only [List.length_append, List.length_cons, List.length_nil]); omega) (by unfold maxLen; (try simp only [List.length_append, List.length_cons, List.length_nil]); omega) ?_; intro g2 cap2 w4 hown hgr hloc))
        have HV4 := Lib.hid (hv2'.push hown hgr hloc)
        clear hown hgr hloc hv2' hbn2 hnew2 hv2 c0 c1 c2 clt
        have hv := HV4.out
        go_wp2_with fail
        go_roundw
        case rel => exact ⟨k + 1, hlt, by go_num, by rw [HO.out, HG.out]; rw [if_neg z0, if_neg z1, if_neg z2, if_pos z3]; exact (by simpa using hv.r)⟩
        case measure => simp [intOf] <;> omega
      have q3 : ((N : Int) == 3) = false := by simp; omega
      have hv2 := HV2.out
      obtain ⟨c0, c1, c2, cl⟩ := id hv2.va
      have hnew := heap_alloc_new w2 (.cells #[.int .i64 X.k, .string X.t, .int .i64 X.id] 43)
      have hbn : Below w2.heap.size w2 (w2.alloc (.cells #[.int .i64 X.k, .string X.t, .int .i64 X.id] 43)) := blw (Below.refl _ _) _
      have hv2' := hv2.call hbn
      go_wp2_with (at_builtin; refine wpl_app eT _ rfl _ _ rfl (w.heap.size + 1) out _ rfl hv2'.r.own (by have := hv2'.r.lt; omega) X _ _ rfl hnew rfl (by (try simp only [List.length_append, List.length_cons, List.length_nil]); omega) (by unfold maxLen; (try simp only [List.length_append, List.length_cons, List.length_nil]); omega) ?_; intro g2 cap2 w4 hown hgr hloc)
      have HV4 := Lib.hid (hv2'.push hown hgr hloc)
      clear hown hgr hloc hv2' hbn hnew hv2 c0 c1 c2 cl
      have hv := HV4.out
      go_wp2_with fail
      go_roundw
      case rel => exact ⟨k + 1, hlt, by go_num, by rw [HO.out, HG.out]; rw [if_neg z0, if_neg z1, if_neg z2, if_neg z3]; exact hv.r⟩
      case measure => simp [intOf] <;> omega
    · obtain rfl : k = l.length := by omega
      rw [List.take_length] at hN
      go_wp2_with fail
      go_ret
      exact ⟨_, rfl, ⟨hN.below, ownsRow_base hN.own (by omega)⟩⟩
end Go.Proofs.YthfgpagmepdblaaGreat
namespace Go.Proofs.YthfgpagmepdblaaGreat
open Go.ChangeShapes Go.WideShapes Go.ChangeAt Go.RowKit Go.Sort
set_option linter.unusedVariables false
set_option linter.unusedSimpArgs false
set_option maxRecDepth 100000

def smlB (l : List It) : Bool := decide (l.length ≤ 12) && decide (txtI l ≤ 300)
theorem small15_any (p : Option Addr) (cap : Nat) (l : List It) (w : World) (hR : Its w p l) (hO : Oks l) (hc : l.length ≤ cap) (hm : cap ≤ maxLen) :
    Calls Tryz.prog 4 #[.slice p l.length cap, .int .i64 12] w fun e w' => e = .returned (.bool (smlB l)) ∧ w = w' := by
  unfold maxLen at hm
  have hsum : l.length ≤ 12 → ∀ k, k ≤ l.length → txtI (l.take k) ≤ k * 140737488355328 := fun h60 k => by
    intro hk
    induction k with
    | zero => simp [txtI]
    | succ j ih =>
      rw [txtI_next l j (by omega)]
      have := ih (by omega)
      have h1 := (hO j (by omega)).t
      omega
  have HS := Lib.hid hsum; clear hsum
  go_enter Tryz.func4, Tryz.ntmps4
  go_wp2_with fail
  go_loop [5, 9] (fun v i => ∃ k : Nat, ∃ z : Int, k ≤ l.length ∧ i = .int .i64 k ∧ v = .int .i64 z ∧ Hid (l.length ≤ 12 → z = txtI (l.take k))) (fun _ i => l.length - (intOf i).toNat)
  case atStart => exact ⟨0, 0, Nat.zero_le _, rfl, rfl, Lib.hid (fun _ => rfl)⟩
  case round =>
    obtain ⟨k, z, hk, rfl, rfl, HZ⟩ := hrel
    by_cases hlt : k < l.length
    · obtain ⟨a, rfl, ha, c0, c1, c2⟩ := hR.row k hlt
      have hn := txtI_next l k hlt
      have HN := Lib.hid hn; clear hn
      have ik : (k : Int) < (l.length : Int) := by omega
      go_wp2_with fail
      go_round
      case rel =>
        refine ⟨k + 1, _, hlt, by go_num, rfl, Lib.hid (fun h60 => ?_)⟩
        have b := HS.out h60 (k + 1) hlt
        rw [HN.out] at b ⊢
        rw [HZ.out h60]
        unfold wrap64
        omega
      case measure => simp [intOf] <;> omega
    · obtain rfl : k = l.length := by omega
      rw [List.take_length] at HZ
      by_cases h60 : l.length ≤ 12
      · have hz := HZ.out h60
        go_wp2_with fail
        go_ret
        exact ⟨ret_bool (by unfold smlB; rw [Bool.eq_iff_iff]; simp [h60]; omega), rfl⟩
      · go_wp2_with fail
        go_ret
        exact ⟨ret_bool (by unfold smlB; simp [h60]), rfl⟩
theorem dr_small {W : World} {p : Option Addr} {c : Nat} {A : List It} (hI : Its W p A) (hc : A.length ≤ c) (hm : c ≤ maxLen) (hs : smlB A = true) : Dr W p c A := by
  unfold smlB at hs
  rw [Bool.and_eq_true, decide_eq_true_eq, decide_eq_true_eq] at hs
  exact ⟨hI, hc, hm, by omega, fun x hx => by have := txt_mem _ x hx; omega⟩
theorem Dr.rboth {W : World} {p q : Option Addr} {c d : Nat} {A B : List It} (h : Dr W p c A) (k : Dr W q d B) : Calls Tryz.prog 28 #[.slice p A.length c, .slice q B.length d] W fun e w' => e = .returned (.int .i64 (tot A B : Nat)) ∧ Below W.heap.size W w' :=
  rboth_any p q c d A B W h.its k.its h.le k.le h.cm k.cm (Nat.le_trans h.len (by omega)) (Nat.le_trans k.len (by omega))
theorem dr_near {w w' : World} {M : List Int} {l : List It} (hl : l.length ≤ 16) (hx : ∀ x ∈ l, x.t.size ≤ 900) {e : Ending} (h : EndT (nearL M l) w e w') : ∃ p c, e = .returned (.slice p (nearL M l).length c) ∧ Dr w' p c (nearL M l) ∧ Below w.heap.size w w' := by
  obtain ⟨p, c, he, h1, h2, h3, h4⟩ := h.f
  exact ⟨p, c, he, ⟨h3, h1, h2, Nat.le_trans (nearL_len M l) (by omega), nearL_txt M l hx⟩, h4⟩
theorem wtL_zero (l : List It) (h : kindV l) (hz : wtL l = 0) : l = [] := by
  cases l with
  | nil => rfl
  | cons x l =>
    have hx := h x (List.mem_cons_self ..)
    have e : wtL (x :: l) = wtT x.k + wtL l := by unfold wtL; simp
    have : 0 < wtT x.k := by
      unfold wtT; obtain ⟨h1, h2⟩ := hx
      repeat' split
      all_goals omega
    omega
theorem tot_zero (a b : List It) (ha : kindV a) (hb : kindV b) (h : tot a b = 0) : a = [] ∧ b = [] := by
  unfold tot at h
  exact ⟨wtL_zero a ha (by omega), wtL_zero b hb (by omega)⟩
theorem dis_empty : dis [] [] = 0 := by decide +kernel
theorem pct_whole (a b : List It) (ha : kindV a) (hb : kindV b) : pct a b = 100 ↔ dis a b = 0 := by
  unfold pct pcN
  by_cases hz : tot a b = 0
  · obtain ⟨rfl, rfl⟩ := tot_zero a b ha hb hz
    rw [if_pos hz, dis_empty]; simp
  · rw [if_neg hz]
    generalize tot a b = T at *
    generalize dis a b = D at *
    constructor
    · intro h
      rcases Nat.eq_zero_or_pos D with h0 | h0
      · exact h0
      · have h1 : 100 * (T - D) < 100 * T := by omega
        have h2 := Nat.div_lt_of_lt_mul (show 100 * (T - D) < T * 100 by omega)
        omega
    · intro h; subst h; rw [Nat.sub_zero, Nat.mul_div_cancel _ (by omega)]
theorem pct_reach (a b : List It) (ha : kindV a) (hb : kindV b) (hT : tot a b ≤ 400000) (p : Int) (h1 : 1 ≤ p) (h2 : p ≤ 100) : decide (p ≤ ((pct a b : Nat) : Int)) = decide (((dis a b : Nat) : Int) ≤ alw ((tot a b : Nat) : Int) p) := by
  rw [Bool.eq_iff_iff, decide_eq_true_eq, decide_eq_true_eq]
  unfold pct pcN
  by_cases hz : tot a b = 0
  · obtain ⟨rfl, rfl⟩ := tot_zero a b ha hb hz
    rw [if_pos hz, dis_empty]
    have : alw ((tot [] [] : Nat) : Int) p = 1073741824 := by unfold alw; rw [if_neg (by omega), if_pos (.inr (by rw [hz]; decide))]
    rw [this]; omega
  · rw [if_neg hz]
    generalize tot a b = T at *
    generalize dis a b = D at *
    have e := alw_in (T : Int) p (by omega) (by omega) h1 h2
    rw [e]
    obtain ⟨q, rfl⟩ : ∃ q : Nat, p = q := ⟨p.toNat, by omega⟩
    have e1 : ((T : Int) * (100 - (q : Int))) = ((T * (100 - q) : Nat) : Int) := by push_cast; rw [Int.natCast_sub (by omega)]; rfl
    rw [e1]
    have e2 : (q : Int) ≤ ((100 * (T - D) / T : Nat) : Int) ↔ q * T ≤ 100 * (T - D) := by
      rw [Int.ofNat_le]; exact Nat.le_div_iff_mul_le (by omega)
    have e3 : (D : Int) ≤ ((T * (100 - q) : Nat) : Int) / 100 ↔ D * 100 ≤ T * (100 - q) := by
      have : ((T * (100 - q) : Nat) : Int) / 100 = ((T * (100 - q) / 100 : Nat) : Int) := by push_cast; rfl
      rw [this, Int.ofNat_le]; exact Nat.le_div_iff_mul_le (by omega)
    rw [e2, e3]
    have e4 : T * (100 - q) = 100 * T - q * T := by rw [Nat.mul_sub, Nat.mul_comm T 100, Nat.mul_comm T q]
    have e5 : q * T ≤ 100 * T := Nat.mul_le_mul_right T (by omega)
    have e6 : T ≤ q * T := Nat.le_mul_of_pos_left T (by omega)
    rw [e4]
    omega
end Go.Proofs.YthfgpagmepdblaaGreat
