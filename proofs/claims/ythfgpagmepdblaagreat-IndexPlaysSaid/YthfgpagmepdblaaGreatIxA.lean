/- Index: a list that differs in a few tokens is short where the numbers are few. Index: the candidates as a list of numbers in ascending order. Index: who is a candidate. Index: pairs that two lists share; what the program compares is the bound. Index: its state as it lies: the lists by their numbers, and for each pair of words the numbers of the lists that have it. -/
import Derived.Test.YthfgpagmepdblaaGreatScA
import Derived.Test.YthfgpagmepdblaaGreatSgA
namespace Go.Proofs.YthfgpagmepdblaaGreat
open Go.ChangeShapes Go.WideShapes Go.ChangeAt Go.RowKit
set_option linter.unusedVariables false

theorem nearS_out (M : List Int) (i : Nat) (x : It) (h : M.length ≤ i) : nearS M i x = [] := by
  have e : nx M i 12 = 0 := by unfold nx; rw [List.getD_eq_getElem?_getD, List.getElem?_eq_none h]; rfl
  unfold nearS; simp [e]
theorem nearK_few (M : List Int) (l : List It) : ∀ i, (nearK M i l).length ≤ 2 * (M.length - i) := by
  induction l with
  | nil => intro i; exact Nat.zero_le _
  | cons x l ih =>
    intro i
    rw [nearK, List.length_append]
    have h1 := ih (i + 1)
    rcases Nat.lt_or_ge i M.length with h | h
    · have := nearS_len M i x; omega
    · rw [nearS_out M i x h]; simp; omega
/-- Each number keeps two tokens at the most; without a number a token is left out. -/
theorem nearL_few (M : List Int) (l : List It) : (nearL M l).length ≤ 2 * M.length := nearK_few M l 0
end Go.Proofs.YthfgpagmepdblaaGreat
namespace Go.Proofs.YthfgpagmepdblaaGreat
open Go.ChangeShapes Go.WideShapes Go.ChangeAt Go.RowKit
set_option linter.unusedVariables false

/-- A list of tokens with its number. -/
structure Sto where
  id : Int
  l : List It
/-- Where a number is put in: behind the first ones that are smaller. -/
def posI (x : Int) : List Int → Nat
  | [] => 0
  | y :: r => if y < x then posI x r + 1 else 0
def insI (x : Int) (L : List Int) : List Int := L.take (posI x L) ++ x :: L.drop (posI x L)
theorem posI_le (x : Int) (L : List Int) : posI x L ≤ L.length := by
  induction L with
  | nil => exact Nat.le_refl _
  | cons y r ih => unfold posI; split <;> simp; omega
theorem posI_below (x : Int) (L : List Int) : ∀ k, (h : k < L.length) → k < posI x L → L[k] < x := by
  induction L with
  | nil => intro k h; cases h
  | cons y r ih =>
    intro k h hk
    unfold posI at hk
    split at hk
    · rename_i hy
      cases k with
      | zero => exact hy
      | succ j => exact ih j (by simpa using h) (by omega)
    · omega
theorem posI_stop (x : Int) (L : List Int) (h : posI x L < L.length) : ¬ L[posI x L] < x := by
  induction L with
  | nil => cases h
  | cons y r ih =>
    rcases Decidable.em (y < x) with hy | hy
    · have e : posI x (y :: r) = posI x r + 1 := by rw [posI, if_pos hy]
      simp only [e, List.getElem_cons_succ]
      exact ih (by rw [e] at h; simpa using h)
    · have e : posI x (y :: r) = 0 := by rw [posI, if_neg hy]
      simp only [e, List.getElem_cons_zero]
      exact hy
/-- What the loop that looks for the place finds. -/
theorem posI_of (x : Int) (L : List Int) (k : Nat) (hk : k ≤ L.length) (hb : ∀ j, (h : j < L.length) → j < k → L[j] < x) (hs : (h : k < L.length) → ¬ L[k] < x) : posI x L = k := by
  rcases Nat.lt_trichotomy (posI x L) k with h | h | h
  · exact absurd (hb _ (by omega) h) (posI_stop x L (by omega))
  · exact h
  · exact absurd (posI_below x L k (by have := posI_le x L; omega) h) (hs (by have := posI_le x L; omega))
theorem insI_perm (x : Int) (L : List Int) : (insI x L).Perm (x :: L) := by
  unfold insI
  have h : (L.take (posI x L) ++ x :: L.drop (posI x L)).Perm (x :: (L.take (posI x L) ++ L.drop (posI x L))) := List.perm_middle
  rwa [List.take_append_drop] at h
theorem insI_asc (x : Int) (L : List Int) (h : L.Pairwise (· ≤ ·)) : (insI x L).Pairwise (· ≤ ·) := by
  unfold insI
  have h0 := h
  rw [← List.take_append_drop (posI x L) L, List.pairwise_append] at h0
  obtain ⟨h1, h2, h3⟩ := h0
  have hlow : ∀ a ∈ L.take (posI x L), a < x := fun a ha => by
    obtain ⟨i, hi, rfl⟩ := List.getElem_of_mem ha
    rw [List.getElem_take]
    rw [List.length_take] at hi
    exact posI_below x L i (by omega) (by omega)
  have hup : ∀ b ∈ L.drop (posI x L), x ≤ b := fun b hb => by
    obtain ⟨i, hi, rfl⟩ := List.getElem_of_mem hb
    rw [List.getElem_drop]
    rw [List.length_drop] at hi
    have hc : posI x L < L.length := by omega
    have hs := posI_stop x L hc
    have hle : L[posI x L] ≤ L[posI x L + i]'(by omega) := by
      rcases Nat.eq_zero_or_pos i with rfl | hp
      · exact Int.le_refl _
      · exact List.pairwise_iff_getElem.1 h _ _ hc (by omega) (by omega)
    omega
  rw [List.pairwise_append, List.pairwise_cons]
  exact ⟨h1, ⟨hup, h2⟩, fun a ha b hb => by
    rcases List.mem_cons.1 hb with rfl | hb
    · have := hlow a ha; omega
    · exact h3 a ha b hb⟩
/-- The candidates among the stored lists, as the reference collects them. -/
def cand (P : List It → Bool) (S : List Sto) : List Int := S.foldl (fun out s => if P s.l then insI s.id out else out) []
theorem cand_snoc (P : List It → Bool) (S : List Sto) (s : Sto) : cand P (S ++ [s]) = if P s.l then insI s.id (cand P S) else cand P S := by unfold cand; rw [List.foldl_append]; rfl
theorem cand_next (P : List It → Bool) (S : List Sto) (k : Nat) (h : k < S.length) : cand P (S.take (k + 1)) = if P (S[k]'h).l then insI (S[k]'h).id (cand P (S.take k)) else cand P (S.take k) := by
  rw [List.take_succ_eq_append_getElem h, cand_snoc]
theorem fold_snoc {Q : List Sto → Prop} (h0 : Q []) (h1 : ∀ S s, Q S → Q (S ++ [s])) (S : List Sto) : Q S := by
  have : ∀ n, n ≤ S.length → Q (S.take n) := fun n => by
    induction n with
    | zero => intro _; simpa using h0
    | succ m ih => intro hm; rw [List.take_succ_eq_append_getElem (by omega)]; exact h1 _ _ (ih (by omega))
  simpa using this S.length (Nat.le_refl _)
theorem cand_asc (P : List It → Bool) (S : List Sto) : (cand P S).Pairwise (· ≤ ·) :=
  fold_snoc (Q := fun S => (cand P S).Pairwise (· ≤ ·)) List.Pairwise.nil (fun S s ih => by
    rw [cand_snoc]; split
    · exact insI_asc _ _ ih
    · exact ih) S
theorem cand_perm (P : List It → Bool) (S : List Sto) : (cand P S).Perm ((S.filter fun s => P s.l).map (·.id)) :=
  fold_snoc (Q := fun S => (cand P S).Perm ((S.filter fun s => P s.l).map (·.id))) (List.Perm.refl _) (fun S s ih => by
    rw [cand_snoc, List.filter_append, List.map_append]
    cases h : P s.l with
    | false => rw [if_neg (by simp)]; simpa [h] using ih
    | true =>
      rw [if_pos rfl]
      have e : ([s].filter fun s => P s.l).map (·.id) = [s.id] := by simp [h]
      rw [e]
      exact (insI_perm _ _).trans (((List.perm_cons s.id).2 ih).trans (List.perm_append_singleton s.id _).symm)) S
/-- Two lists in ascending order with the same members, as often, are one. -/
theorem asc_unique {A B : List Int} (ha : A.Pairwise (· ≤ ·)) (hb : B.Pairwise (· ≤ ·)) (h : A.Perm B) : A = B :=
  List.Perm.eq_of_pairwise (le := (· ≤ ·)) (fun a b _ _ h1 h2 => Int.le_antisymm h1 h2) ha hb h
/-- Whatever collects and sorts the numbers of the candidates has the same list. -/
theorem cand_unique (P : List It → Bool) (S : List Sto) (L : List Int) (hs : L.Pairwise (· ≤ ·)) (hp : L.Perm ((S.filter fun s => P s.l).map (·.id))) : L = cand P S :=
  asc_unique hs (cand_asc P S) (hp.trans (cand_perm P S).symm)
theorem cand_order (P : List It → Bool) {S T : List Sto} (h : S.Perm T) : cand P S = cand P T :=
  cand_unique P T _ (cand_asc P S) ((cand_perm P S).trans ((h.filter _).map _))
theorem cand_mem (P : List It → Bool) (S : List Sto) (i : Int) : i ∈ cand P S ↔ ∃ s ∈ S, P s.l = true ∧ s.id = i := by
  rw [(cand_perm P S).mem_iff]
  simp [List.mem_map, List.mem_filter, and_assoc]
theorem cand_len (P : List It → Bool) (S : List Sto) : (cand P S).length ≤ S.length := by
  rw [(cand_perm P S).length_eq, List.length_map]; exact List.length_filter_le _ _
end Go.Proofs.YthfgpagmepdblaaGreat
namespace Go.Proofs.YthfgpagmepdblaaGreat
open Go.ChangeShapes Go.WideShapes Go.ChangeAt Go.RowKit
set_option linter.unusedVariables false

/-- The bound of a stored list is allowed. -/
def isCand (q : List It) (p : Int) (s : List It) : Bool := decide (((bouN q s : Nat) : Int) ≤ alw ((tot q s : Nat) : Int) p)
theorem alw_low (t p : Int) (ht : 0 ≤ t) : -1 ≤ alw t p := by
  unfold alw
  split
  · exact Int.le_refl _
  split
  · omega
  · have h1 : 0 ≤ min t 1073741824 * (100 - p) := Int.mul_nonneg (by omega) (by omega)
    have h2 := Int.ediv_nonneg h1 (show (0 : Int) ≤ 100 by omega)
    omega
theorem alw_falls (t p r : Int) (ht : 0 ≤ t) (h : p ≤ r) : alw t r ≤ alw t p := by
  rcases Decidable.em (100 < r) with h1 | h1
  · have : alw t r = -1 := by unfold alw; rw [if_pos h1]
    rw [this]; exact alw_low t p ht
  rcases Decidable.em (r < 1 ∨ t < 1) with h2 | h2
  · have e1 : alw t r = 1073741824 := by unfold alw; rw [if_neg h1, if_pos h2]
    have e2 : alw t p = 1073741824 := by unfold alw; rw [if_neg (by omega), if_pos (by omega)]
    rw [e1, e2]; exact Int.le_refl _
  have e1 : alw t r = min t 1073741824 * (100 - r) / 100 := by unfold alw; rw [if_neg h1, if_neg h2]
  rw [e1]
  rcases Decidable.em (p < 1) with h3 | h3
  · have e2 : alw t p = 1073741824 := by unfold alw; rw [if_neg (by omega), if_pos (.inl h3)]
    rw [e2]
    have h4 : min t 1073741824 * (100 - r) ≤ 1073741824 * 99 := Int.mul_le_mul (by omega) (by omega) (by omega) (by omega)
    omega
  · have e2 : alw t p = min t 1073741824 * (100 - p) / 100 := by unfold alw; rw [if_neg (by omega), if_neg (by omega)]
    rw [e2]
    have h4 : min t 1073741824 * (100 - r) ≤ min t 1073741824 * (100 - p) := Int.mul_le_mul_of_nonneg_left (by omega) (by omega)
    exact Int.ediv_le_ediv (by omega) h4
theorem isCand_falls (q s : List It) (p r : Int) (h : p ≤ r) (hc : isCand q r s = true) : isCand q p s = true := by
  unfold isCand at *
  rw [decide_eq_true_eq] at *
  exact Int.le_trans hc (alw_falls _ p r (Int.natCast_nonneg _) h)
/-- A greater percentage has no more candidates. -/
theorem cand_falls (q : List It) (p r : Int) (h : p ≤ r) (S : List Sto) (i : Int) (hi : i ∈ cand (isCand q r) S) : i ∈ cand (isCand q p) S := by
  rw [cand_mem] at *
  obtain ⟨s, h1, h2, h3⟩ := hi
  exact ⟨s, h1, isCand_falls q s.l p r h h2, h3⟩
theorem isCand_over (q s : List It) (p : Int) (h : 100 < p) : isCand q p s = false := by
  unfold isCand
  have : alw ((tot q s : Nat) : Int) p = -1 := by unfold alw; rw [if_pos h]
  rw [this, decide_eq_false_iff_not]; omega
theorem isCand_zero (q s : List It) (p : Int) (h : p < 1) (hb : bouN q s ≤ 1073741824) : isCand q p s = true := by
  unfold isCand
  have : alw ((tot q s : Nat) : Int) p = 1073741824 := by unfold alw; rw [if_neg (by omega), if_pos (.inl h)]
  rw [this, decide_eq_true_eq]; omega
theorem cand_over (q : List It) (p : Int) (h : 100 < p) (S : List Sto) : cand (isCand q p) S = [] := by
  rw [List.eq_nil_iff_forall_not_mem]
  intro i hi
  obtain ⟨s, _, h2, _⟩ := (cand_mem _ _ _).1 hi
  rw [isCand_over q s.l p h] at h2; cases h2
theorem cand_zero (q : List It) (p : Int) (h : p < 1) (S : List Sto) (hb : ∀ s ∈ S, bouN q s.l ≤ 1073741824) : (cand (isCand q p) S).length = S.length := by
  have e : (S.filter fun s => isCand q p s.l) = S := by
    rw [List.filter_eq_self]
    intro s hs
    exact isCand_zero q s.l p h (hb s hs)
  rw [(cand_perm (isCand q p) S).length_eq, List.length_map, e]
/-- A list that reaches the percentage is a candidate. -/
theorem isCand_reach (q s : List It) (hq : kindV q) (hs : kindV s) (lq : q.length ≤ 100000) (ls : s.length ≤ 100000) (p : Int) (h1 : 1 ≤ p) (h2 : p ≤ 100) (h : p ≤ ((pct q s : Nat) : Int)) : isCand q p s = true := by
  have e := pct_reach q s hq hs (tot_le q s lq ls) p h1 h2
  rw [decide_eq_true h] at e
  have hd := of_decide_eq_true e.symm
  have hb := bou_le q s lq ls
  unfold isCand
  rw [decide_eq_true_eq]
  omega
end Go.Proofs.YthfgpagmepdblaaGreat
namespace Go.Proofs.YthfgpagmepdblaaGreat
open Go.ChangeShapes Go.WideShapes Go.ChangeAt Go.RowKit
set_option linter.unusedVariables false

/-! ### the difference of the totals is at most the bag bound -/
theorem gsum_add {κ : Type} [DecidableEq κ] (K : List κ) (f g : κ → Nat) : gsum K (fun y => f y + g y) = gsum K f + gsum K g := by
  induction K with
  | nil => rfl
  | cons x K ih => rw [gsum_cons, gsum_cons, gsum_cons, ih]; omega
theorem gsum_at {κ : Type} [DecidableEq κ] (K : List κ) (x : κ) (n : κ → Nat) (hK : K.Nodup) (hx : x ∈ K) : gsum K (fun y => if x = y then n y else 0) = n x := by
  rw [gsum_erase K x hx, if_pos rfl, gsum_zero _ _ fun y hy => ?_, Nat.add_zero]
  exact if_neg fun e => ((hK.mem_erase_iff).1 hy).1 e.symm
theorem wt_sum (K : List Tg) (hK : K.Nodup) (a : List It) (h : ∀ x ∈ a, clT x ∈ K) : wtL a = gsum K (fun c => cC a c * wtT c.k) := by
  induction a with
  | nil => rw [gsum_zero]; · rfl
           intro y _; show List.count _ [] * _ = 0; simp
  | cons x a ih =>
    have e : gsum K (fun c => cC (x :: a) c * wtT c.k) = gsum K (fun c => cC a c * wtT c.k) + gsum K (fun c => if clT x = c then wtT c.k else 0) := by
      rw [← gsum_add]
      refine gsum_congr _ _ _ fun c _ => ?_
      rw [cC_cons, Nat.add_mul]; split <;> simp
    rw [e, gsum_at K (clT x) (fun c => wtT c.k) hK (h x (List.mem_cons_self ..)), ← ih fun y hy => h y (List.mem_cons_of_mem _ hy)]
    unfold wtL; rw [List.map_cons, List.sum_cons]; show wtT x.k + _ = _ + wtT x.k; omega
theorem wt_bag (a b : List It) : wtL a ≤ wtL b + (surC a b + 3 * sur a b) := by
  have hK := nodup_uniqG (clsL a ++ clsL b)
  have ha : ∀ x ∈ a, clT x ∈ uniqG (clsL a ++ clsL b) := fun x hx => (mem_uniqG _ _).2 (List.mem_append_left _ (List.mem_map_of_mem hx))
  have hb : ∀ x ∈ b, clT x ∈ uniqG (clsL a ++ clsL b) := fun x hx => (mem_uniqG _ _).2 (List.mem_append_right _ (List.mem_map_of_mem hx))
  have e1 := wt_sum _ hK a ha
  have e2 := wt_sum _ hK b hb
  have e3 := surC_any _ a b hK fun c hc => (mem_uniqG _ _).2 (List.mem_append_left _ hc)
  have e4 := surT_any _ a b hK fun c hc => (mem_uniqG _ _).2 (List.mem_append.2 hc)
  have e5 : gsum (uniqG (clsL a ++ clsL b)) (fun c => 3 * exT a b c) = 3 * sur a b := by
    rw [← e4]
    generalize uniqG (clsL a ++ clsL b) = K
    induction K with
    | nil => rfl
    | cons x K ih => rw [gsum_cons, gsum_cons, ih]; omega
  rw [e1, e2, ← e3, ← e5, ← gsum_add, ← gsum_add]
  refine gsum_mono _ _ _ fun c _ => ?_
  unfold exS exT
  cases h : isT c.k with
  | true =>
    rw [if_pos rfl, if_pos rfl]
    have hw : wtT c.k = 3 := by
      unfold isT at h; simp at h
      rcases h with h | h | h <;> (rw [h]; rfl)
    have := cntN_cls a c h; have := cntN_cls b c h
    unfold dif
    rw [hw]; omega
  | false =>
    rw [if_neg (by simp), if_neg (by simp), Nat.mul_zero, Nat.add_zero, ← Nat.add_mul]
    exact Nat.mul_le_mul_right _ (by omega)
theorem diff_bag (a b : List It) : wtL a ≤ wtL b + bagN a b ∧ wtL b ≤ wtL a + bagN a b := by
  have h1 := wt_bag a b
  have h2 := wt_bag b a
  rw [sur_comm b a] at h2
  unfold bagN
  omega

/-! ### the pairs that two lists share -/
def shN (P Q : List Pr) : Nat := gsum (uniqG P) fun y => min (P.count y) (Q.count y)
theorem shN_any (K : List Pr) (P Q : List Pr) (hK : K.Nodup) (h : ∀ p, p ∈ P → p ∈ Q → p ∈ K) : gsum K (fun y => min (P.count y) (Q.count y)) = shN P Q :=
  gsum_any K _ _ hK (nodup_uniqG _) (fun y _ hg => (mem_uniqG _ _).2 (by
    rcases Decidable.em (y ∈ P) with c | c
    · exact c
    · rw [List.count_eq_zero_of_not_mem c] at hg; omega)) (fun y hy hg => h y ((mem_uniqG _ _).1 hy) (by
    rcases Decidable.em (y ∈ Q) with c | c
    · exact c
    · rw [List.count_eq_zero_of_not_mem c] at hg; omega))
theorem shN_comm (P Q : List Pr) : shN P Q = shN Q P := by
  rw [← shN_any (uniqG (P ++ Q)) P Q (nodup_uniqG _) fun p h _ => (mem_uniqG _ _).2 (List.mem_append_left _ h), ← shN_any (uniqG (P ++ Q)) Q P (nodup_uniqG _) fun p h _ => (mem_uniqG _ _).2 (List.mem_append_right _ h)]
  exact gsum_congr _ _ _ fun y _ => Nat.min_comm _ _
theorem count_sum {κ : Type} [DecidableEq κ] (K : List κ) (hK : K.Nodup) (P : List κ) (h : ∀ x ∈ P, x ∈ K) : P.length = gsum K (fun c => P.count c) := by
  induction P with
  | nil => rw [gsum_zero]; · rfl
           intro y _; simp
  | cons x P ih =>
    have e : gsum K (fun c => (x :: P).count c) = gsum K (fun c => P.count c) + gsum K (fun c => if x = c then 1 else 0) := by
      rw [← gsum_add]
      refine gsum_congr _ _ _ fun c _ => ?_
      rw [List.count_cons]; simp
    rw [e, gsum_at K x (fun _ => 1) hK (h x (List.mem_cons_self ..)), ← ih fun y hy => h y (List.mem_cons_of_mem _ hy), List.length_cons]
theorem mis_sh (P Q : List Pr) : mis P Q + shN P Q = P.length := by
  rw [count_sum (uniqG P) (nodup_uniqG P) P fun x hx => (mem_uniqG _ _).2 hx]
  unfold mis shN
  rw [← gsum_add]
  exact gsum_congr _ _ _ fun y _ => by omega
theorem mis_gramsE (v w : List ByteArray) (hv : v.length ≤ 1000000) (hw : w.length ≤ 1000000) : misL (gramsL v) (gramsL w) = mis (prs v) (prs w) := by
  have e1 := occ_grams (prs v) (by rw [prs_len]; omega)
  have e2 := occ_grams (prs w) (by rw [prs_len]; omega)
  have hm : mis (prs v) (prs w) ≤ 1073741824 := by have := mis_sh (prs v) (prs w); rw [prs_len] at this; omega
  unfold misL gramsL
  rw [← misN_any (uniqG (prs v)) _ _ (nodup_uniqG _) fun p hp => ?_]
  · rw [show gsum (uniqG (prs v)) (misD (gramsP (prs v)) (gramsP (prs w))) = mis (prs v) (prs w) from gsum_congr _ _ _ fun y _ => by unfold misD; rw [e1, e2]]
    omega
  · rw [mem_uniqG]
    unfold misD at hp; rw [e1] at hp
    rcases Decidable.em (p ∈ prs v) with c | c
    · exact c
    · rw [List.count_eq_zero_of_not_mem c] at hp; omega
/-- The pairs of a list of tokens. -/
def pw (l : List It) : List Pr := prs (wds l)
theorem misW_sh (a b : List It) (ha : a.length ≤ 100000) (hb : b.length ≤ 100000) : misW a b + shN (pw a) (pw b) = max (pw a).length (pw b).length := by
  have h1 := wds_len a; have h2 := wds_len b
  unfold misW pw
  rw [mis_gramsE _ _ (by omega) (by omega), mis_gramsE _ _ (by omega) (by omega)]
  have h3 := mis_sh (prs (wds a)) (prs (wds b))
  have h4 := mis_sh (prs (wds b)) (prs (wds a))
  rw [shN_comm] at h4
  omega
/-- What the program compares, one after the other. -/
theorem within_iff (q s : List It) (lq : q.length ≤ 100000) (ls : s.length ≤ 100000) (al : Int) :
    (decide (4 * (((max (pw q).length (pw s).length - shN (pw q) (pw s) + 1) / 2 : Nat) : Int) ≤ al) && (decide (max ((wtL q : Int) - (wtL s : Int)) ((wtL s : Int) - (wtL q : Int)) ≤ al) && decide (((bagN q s : Nat) : Int) ≤ al))) = decide (((bouN q s : Nat) : Int) ≤ al) := by
  have h1 := misW_sh q s lq ls
  obtain ⟨h2, h3⟩ := diff_bag q s
  have e : misW q s = max (pw q).length (pw s).length - shN (pw q) (pw s) := by omega
  unfold bouN
  rw [e]
  generalize (max (pw q).length (pw s).length - shN (pw q) (pw s) + 1) / 2 = E at *
  rw [Bool.eq_iff_iff]
  simp only [Bool.and_eq_true, decide_eq_true_eq]
  omega
end Go.Proofs.YthfgpagmepdblaaGreat
namespace Go.Proofs.YthfgpagmepdblaaGreat
open Go.ChangeShapes Go.WideShapes Go.ChangeAt Go.RowKit Go.Maps
set_option linter.unusedVariables false
set_option linter.unusedSectionVars false
set_option linter.unusedSimpArgs false
set_option maxRecDepth 100000

/-! ### keys: the index's own pairs -/
theorem rowIp : (74 : TypeId) < Tryz.prog.types.size := of_decide_eq_true (by kernel_rfl)
theorem wideIp : (match Tryz.prog.underlying 74 with | some (.array _ _) | some (.struct _) => true | _ => false) = true := by kernel_rfl
theorem lawIp : WideMaps.KeyLaw Tryz.prog 74 := deep_law_laid laidOut (m := 2) (by omega) rowIp (by kernel_rfl) wideIp
theorem kIp : Keyed Tryz.prog 74 := Keyed.of_law lawIp
theorem deepIp : Tryz.prog.keyType 74 = true := by kernel_rfl
theorem undIp : ∃ f0 f1 : Field, Tryz.prog.underlying 74 = some (.struct #[f0, f1]) ∧ f0.type = 9 ∧ f1.type = 9 ∧ f0.offset = 0 ∧ f1.offset = 1 := ⟨_, _, Tryz.underlying74, rfl, rfl, rfl, rfl⟩
theorem cellsIp : Tryz.prog.cellsOf 74 = 2 := by kernel_rfl
theorem key_ip (x : Pr) (hf0 : x.f.size ≤ maxLen) (ht : x.s.size ≤ maxLen) : ∃ l, keyOf Tryz.prog 74 x.v = some l := by
  obtain ⟨m, hm⟩ : ∃ m, Tryz.prog.types.size + 1 = m + 1 + 1 := ⟨Tryz.prog.types.size - 1, by have h : 74 < Tryz.prog.types.size := rowIp; omega⟩
  obtain ⟨f0, f1, hu, t0, t1, o0, o1⟩ := undIp
  have hf : x.v.formed Tryz.prog 74 = true := by unfold Pr.v; simp [Value.formed, hu, cellsIp]
  have hn : (#[f0, f1] : Array Field).all (fun f => f.name != "_") = true := by
    have h := deepIp
    unfold Program.keyType at h
    rw [hm, Program.keyTypeAt, hu] at h
    simp only [Bool.and_eq_true] at h
    have h1 := h.1.1
    rw [Array.all_eq_true_iff_forall_mem] at h1 ⊢
    intro f hf
    have := h1 f hf
    simp only [Bool.and_eq_true] at this
    exact this.1
  have hc : x.v.cells.toList = [.string x.f, .string x.s] := rfl
  have hl : ∃ ls, Tryz.prog.keyLits (Tryz.prog.types.size + 1) 74 [.string x.f, .string x.s] = some ls := by
    rw [hm]
    unfold Program.keyLits
    simp only [hu, cellsIp, hn]
    refine ⟨[.string x.f.data.toList, .string x.s.data.toList], ?_⟩
    rw [if_pos ⟨rfl, trivial⟩]
    have e0 : Tryz.prog.keyLits (m + 1) 9 [.string x.f] = some [.string x.f.data.toList] := by unfold Program.keyLits; simp [Tryz.underlying9, hf0]
    have e1 : Tryz.prog.keyLits (m + 1) 9 [.string x.s] = some [.string x.s.data.toList] := by unfold Program.keyLits; simp [Tryz.underlying9, ht]
    simp [t0, t1, o0, o1, cells9, e0, e1]
  obtain ⟨ls, hls⟩ := hl
  unfold keyOf
  rw [hu]
  simp only [deepIp, hf, Bool.and_self, if_true]
  rw [hc, hls]
  exact ⟨_, rfl⟩


/-! ### what a change may touch -/
/-- Nothing that was there has turned but blocks of F. -/
structure Kept (F : Nat → Prop) (w w' : World) : Prop where
  os : w'.os = w.os
  tape : w'.tape = w.tape
  output : w'.output = w.output
  size : w.heap.size ≤ w'.heap.size
  block : ∀ k, k < w.heap.size → ¬ F k → w'.heap[k]? = w.heap[k]?
theorem Kept.refl (F : Nat → Prop) (w : World) : Kept F w w := ⟨rfl, rfl, rfl, Nat.le_refl _, fun _ _ _ => rfl⟩
theorem Kept.trans {F : Nat → Prop} {a b c : World} (h : Kept F a b) (k : Kept F b c) : Kept F a c :=
  ⟨k.os.trans h.os, k.tape.trans h.tape, k.output.trans h.output, Nat.le_trans h.size k.size, fun i hi hf => (k.block i (Nat.lt_of_lt_of_le hi h.size) hf).trans (h.block i hi hf)⟩
theorem Kept.weaken {F F' : Nat → Prop} {a b : World} (h : Kept F a b) (hf : ∀ k, k < a.heap.size → F k → F' k) : Kept F' a b := ⟨h.os, h.tape, h.output, h.size, fun k hk hn => h.block k hk fun c => hn (hf k hk c)⟩
theorem Kept.on {F F' : Nat → Prop} {a b c : World} (h : Kept F a b) (k : Kept F' b c) (hf : ∀ i, F' i → F i ∨ a.heap.size ≤ i) : Kept F a c :=
  ⟨k.os.trans h.os, k.tape.trans h.tape, k.output.trans h.output, Nat.le_trans h.size k.size, fun i hi hn => (k.block i (Nat.lt_of_lt_of_le hi h.size) (fun c => (hf i c).elim hn (fun c => by omega))).trans (h.block i hi hn)⟩
theorem Kept.grown {F : Nat → Prop} {w w' : World} {row : Option Nat} (h : w.grownBy w' row) (hf : ∀ k, row = some k → k < w.heap.size → F k) : Kept F w w' :=
  ⟨h.os, h.tape, h.output, h.size, fun k hk hn => h.block k hk fun e => hn (hf k e.symm hk)⟩
theorem Kept.below {F : Nat → Prop} {w w' : World} (h : Below w.heap.size w w') : Kept F w w' := ⟨h.os, h.tape, h.output, h.size, fun k hk _ => h.block k hk⟩
theorem Kept.toBelow {F : Nat → Prop} {w w' : World} {B : Nat} (h : Kept F w w') (hB : B ≤ w.heap.size) (hf : ∀ k, F k → B ≤ k) : Below B w w' :=
  ⟨h.os, h.tape, h.output, h.size, fun k hk => h.block k (by omega) fun c => by have := hf k c; omega⟩
theorem Kept.drew {F : Nat → Prop} {a w : World} (h : Kept F a w) : Kept F a w.drew := ⟨h.os, h.tape, h.output, h.size, h.block⟩
theorem Kept.cell {F : Nat → Prop} {w w' : World} (h : Kept F w w') {a : Addr} {v : Value} (hc : w.cell? a = some v) (hn : ¬ F a.block) : w'.cell? a = some v :=
  (World.cell?_of_block (h.block a.block (World.block_lt_of_cell? w a hc) hn)).trans hc
theorem Its.kept {F : Nat → Prop} {w w' : World} {p : Option Addr} {l : List It} (h : Its w p l) (k : Kept F w w') (hn : 0 < l.length → ∀ a, p = some a → ¬ F a.block) : Its w' p l := fun h0 => by
  obtain ⟨a, e, h1, h2⟩ := h h0
  have hf := hn h0 a e
  refine ⟨a, e, Nat.lt_of_lt_of_le h1 k.size, fun i hi => ?_⟩
  obtain ⟨c0, c1, c2⟩ := h2 i hi
  exact ⟨k.cell c0 (by rwa [add_block]), k.cell c1 (by rwa [add_block]), k.cell c2 (by rwa [add_block])⟩
section
variable {κ β : Type} [DecidableEq κ] {kt et T : TypeId} {kv : κ → Value} {enc : β → Value}
theorem MapAt.kept {F : Nat → Prop} {w w' : World} {b n : Nat} {f : κ → Option β} (h : MapAt kt kv enc w b n f) (k : Kept F w w') (hn : ¬ F b) : MapAt kt kv enc w' b n f := h.block (k.block b h.lt hn)

/-! ### a map with its size -/
/-- Block b is a map of exactly m entries that holds just what f says. -/
def MapN (kt : TypeId) (kv : κ → Value) (enc : β → Value) (w : World) (b m : Nat) (f : κ → Option β) : Prop :=
  ∃ D : DataW Value, (w.ownsMap Tryz.prog kt rawE b m D ∧ (∀ k l, keyOf Tryz.prog kt (kv k) = some l → Says enc D l (f k)) ∧ ∀ l, Maps.has D l = true → ∃ k, keyOf Tryz.prog kt (kv k) = some l) ∧ Maps.size D = m
theorem MapN.at {w : World} {b m : Nat} {f : κ → Option β} (h : MapN kt kv enc w b m f) : MapAt kt kv enc w b m f := by obtain ⟨D, h, _⟩ := h; exact ⟨D, h⟩
theorem MapN.lt {w : World} {b m : Nat} {f : κ → Option β} (h : MapN kt kv enc w b m f) : b < w.heap.size := h.at.lt
theorem MapN.made (w : World) : MapN kt kv enc (w.alloc (.map #[] 0)) w.heap.size 0 (fun _ => none) :=
  ⟨_, ⟨World.ownsMap_made w Tryz.prog kt rawE, fun k l _ => ⟨rfl, fun z => rfl⟩, fun l h => by cases h⟩, rfl⟩
theorem MapN.block {w w' : World} {b m : Nat} {f : κ → Option β} (h : MapN kt kv enc w b m f) (hb : w'.heap[b]? = w.heap[b]?) : MapN kt kv enc w' b m f := by
  obtain ⟨D, ⟨⟨es, clock, h1, r1⟩, r⟩, s⟩ := h
  exact ⟨D, ⟨⟨es, clock, hb.trans h1, r1⟩, r⟩, s⟩
theorem MapN.call {w w' : World} {b m : Nat} {f : κ → Option β} (h : MapN kt kv enc w b m f) (hb : Below w.heap.size w w') : MapN kt kv enc w' b m f := h.block (hb.block b h.lt)
theorem MapN.kept {F : Nat → Prop} {w w' : World} {b m : Nat} {f : κ → Option β} (h : MapN kt kv enc w b m f) (k : Kept F w w') (hn : ¬ F b) : MapN kt kv enc w' b m f := h.block (k.block b h.lt hn)
theorem MapN.ext {w : World} {b m : Nat} {f g : κ → Option β} (h : MapN kt kv enc w b m f) (e : ∀ k, f k = g k) : MapN kt kv enc w b m g := by rw [← funext e]; exact h
theorem MapN.len {w : World} {b m : Nat} {f : κ → Option β} (h : MapN kt kv enc w b m f) (ht : Tryz.prog.underlying T = some (.map kt et)) (ty : TypeId) : (Builtin.len_ #[T] ty #[.map (some b)]).run Tryz.prog w = .ok (.int .i64 (m : Nat)) w := by
  obtain ⟨D, ⟨h, _⟩, rfl⟩ := h; exact h.len ht ty
theorem MapN.put {w : World} {b m : Nat} {f : κ → Option β} (h : MapN kt kv enc w b m f) (K : Keyed Tryz.prog kt) (hinj : ∀ a b : κ, kv a = kv b → a = b) (ht : Tryz.prog.underlying T = some (.map kt et)) (hn : m < maxLen)
    {k : κ} {l : Lit} (hkey : keyOf Tryz.prog kt (kv k) = some l) (v : β) (hnew : f k = none) : ∃ w', (Instr.mapUpdate T (.map (some b)) (kv k) (enc v)).run Tryz.prog w = .ok () w' ∧ MapN kt kv enc w' b (m + 1) (fun k' => if k' = k then some v else f k') ∧ w.grownBy w' (some b) := by
  obtain ⟨D, ⟨h1, h2, h3⟩, h4⟩ := h
  have h5 := h2 k l hkey
  rw [hnew] at h5
  obtain ⟨w', hr, ho, hg⟩ := h1.update K ht hn hkey (val := enc v) (d := .held (enc v)) (ps := []) rfl
  refine ⟨w', hr, ⟨_, ⟨ho, fun k' l' hk' => ?_, fun l' hl' => ?_⟩, by rw [size_put (h1.tidy K), show has D l = false from h5.1, h4]; rfl⟩, hg⟩
  · show Says enc _ l' (if k' = k then _ else f k')
    by_cases he : k' = k
    · subst he
      have : l' = l := Option.some.inj (hk'.symm.trans hkey)
      subst this
      rw [if_pos rfl]
      exact ⟨has_put_same h1.isMap (K.key hkey) _, fun z => atKey_put_same h1.isMap (K.key hkey) _ z⟩
    · rw [if_neg he]
      have hne : l' ≠ l := fun e => he (hinj _ _ (K.inj hk' (by rw [e]; exact hkey)))
      have := h2 k' l' hk'
      cases hf : f k' with
      | some u => rw [hf] at this; exact ⟨by rw [has_put_other hne]; exact this.1, fun z => by rw [atKey_put_other hne]; exact this.2 z⟩
      | none => rw [hf] at this; exact ⟨by rw [has_put_other hne]; exact this.1, fun z => by rw [atKey_put_other hne]; exact this.2 z⟩
  · by_cases he : l' = l
    · exact ⟨k, by rw [he]; exact hkey⟩
    · rw [has_put_other he] at hl'; exact h3 l' hl'
theorem MapN.del {w : World} {b m : Nat} {f : κ → Option β} (h : MapN kt kv enc w b m f) (K : Keyed Tryz.prog kt) (hinj : ∀ a b : κ, kv a = kv b → a = b) (ht : Tryz.prog.underlying T = some (.map kt et))
    {k : κ} {l : Lit} (hkey : keyOf Tryz.prog kt (kv k) = some l) (ty : TypeId) (hold : f k ≠ none) : ∃ w', (Builtin.delete_ #[T, kt] ty #[.map (some b), kv k]).run Tryz.prog w = .ok (.tuple #[]) w' ∧ MapN kt kv enc w' b (m - 1) (fun k' => if k' = k then none else f k') ∧ w.grownBy w' (some b) := by
  obtain ⟨D, ⟨h1, h2, h3⟩, h4⟩ := h
  have h5 := h2 k l hkey
  have h6 : has D l = true := by
    cases hf : f k with
    | none => exact absurd hf hold
    | some u => rw [hf] at h5; exact h5.1
  obtain ⟨w', hr, ho, hg⟩ := h1.drop K ht hkey ty
  have hz := size_del (k := l) (h1.tidy K)
  rw [h6, if_pos rfl, h4] at hz
  obtain ⟨es, clock, e1, F, e2, e3⟩ := ho
  have hz2 : Maps.size (D.del l) = es.size := by rw [e3]; exact length_read (P := Tryz.prog) (k := kt) (R0 := rawE) es
  refine ⟨w', hr, ⟨_, ⟨⟨es, clock, e1, F, by omega, e3⟩, fun k' l' hk' => ?_, fun l' hl' => ?_⟩, by omega⟩, hg.grown⟩
  · show Says enc _ l' (if k' = k then none else f k')
    by_cases he : k' = k
    · subst he
      have : l' = l := Option.some.inj (hk'.symm.trans hkey)
      subst this
      rw [if_pos rfl]
      exact ⟨has_del_same, fun z => atKey_del_same z⟩
    · rw [if_neg he]
      have hne : l' ≠ l := fun e => he (hinj _ _ (K.inj hk' (by rw [e]; exact hkey)))
      have := h2 k' l' hk'
      cases hf : f k' with
      | some u => rw [hf] at this; exact ⟨by rw [has_del_other hne]; exact this.1, fun z => by rw [atKey_del_other hne]; exact this.2 z⟩
      | none => rw [hf] at this; exact ⟨by rw [has_del_other hne]; exact this.1, fun z => by rw [atKey_del_other hne]; exact this.2 z⟩
  · by_cases he : l' = l
    · rw [he, has_del_same] at hl'; cases hl'
    · rw [has_del_other he] at hl'; exact h3 l' hl'
/-- How many entries a map has, and that it has none only if it says none. -/
theorem MapAt.length {w : World} {b n : Nat} {f : κ → Option β} (h : MapAt kt kv enc w b n f) (K : Keyed Tryz.prog kt) (ht : Tryz.prog.underlying T = some (.map kt et)) (ty : TypeId) (hk : ∀ k v, f k = some v → ∃ l, keyOf Tryz.prog kt (kv k) = some l) : ∃ z : Nat, (Builtin.len_ #[T] ty #[.map (some b)]).run Tryz.prog w = .ok (.int .i64 (z : Nat)) w ∧ z ≤ n ∧ (z = 0 → ∀ k, f k = none) := by
  obtain ⟨D, h1, h2, h3⟩ := h
  refine ⟨Maps.size D, h1.len ht ty, h1.size_le, fun hz k => ?_⟩
  cases hf : f k with
  | none => rfl
  | some v =>
    obtain ⟨l, hl⟩ := hk k v hf
    have h4 := h2 k l hl
    rw [hf] at h4
    have h5 := size_del (k := l) (h1.tidy K)
    rw [h4.1, if_pos rfl] at h5
    omega
end

/-! ### an index -/
/-- A stored list as it lies. -/
structure LV where
  p : Option Addr
  c : Nat
  l : List It
def LV.v (x : LV) : Value := .agg #[.slice x.p x.l.length x.c, .int .i64 (wtL x.l : Nat), .int .i64 ((pw x.l).length : Nat)]
def vMp (b : Nat) : Value := .map (some b)
/-- The list under a number. -/
def lkS (S : List Sto) (i : Int) : Option (List It) := (S.find? fun s => decide (s.id = i)).map (·.l)
theorem lkS_none (S : List Sto) (i : Int) : lkS S i = none ↔ ∀ s ∈ S, s.id ≠ i := by
  unfold lkS; rw [Option.map_eq_none_iff, List.find?_eq_none]; simp
theorem lkS_mem {S : List Sto} {i : Int} {l : List It} (h : lkS S i = some l) : ⟨i, l⟩ ∈ S := by
  unfold lkS at h
  rw [Option.map_eq_some_iff] at h
  obtain ⟨s, h1, rfl⟩ := h
  have h2 := List.mem_of_find?_eq_some h1
  have h3 := List.find?_some h1
  simp at h3
  subst h3; exact h2
theorem lkS_of {S : List Sto} (hn : (S.map (·.id)).Nodup) {s : Sto} (h : s ∈ S) : lkS S s.id = some s.l := by
  induction S with
  | nil => cases h
  | cons x S ih =>
    rw [List.map_cons, List.nodup_cons] at hn
    unfold lkS at *
    rw [List.find?_cons]
    rcases List.mem_cons.1 h with rfl | h
    · simp
    · have hne : x.id ≠ s.id := fun e => hn.1 (e ▸ List.mem_map_of_mem h)
      simp only [hne, decide_false]
      exact ih hn.2 h
theorem lkS_add (S : List Sto) (i : Int) (l : List It) (h : lkS S i = none) (j : Int) : lkS (S ++ [⟨i, l⟩]) j = if j = i then some l else lkS S j := by
  unfold lkS at *
  rw [List.find?_append]
  by_cases e : j = i
  · subst e
    rw [Option.map_eq_none_iff] at h
    rw [h]; simp
  · rw [if_neg e, List.find?_singleton]
    simp only [show ¬ i = j from fun c => e c.symm, decide_false]
    simp
def dlS (S : List Sto) (i : Int) : List Sto := S.filter fun s => decide (s.id ≠ i)
theorem lkS_del (S : List Sto) (i j : Int) : lkS (dlS S i) j = if j = i then none else lkS S j := by
  by_cases e : j = i
  · subst e
    rw [if_pos rfl, lkS_none]
    intro s hs
    unfold dlS at hs
    simpa using (List.mem_filter.1 hs).2
  · rw [if_neg e]
    unfold lkS dlS
    congr 1
    induction S with
    | nil => rfl
    | cons x S ih =>
      rw [List.filter_cons]
      by_cases hx : x.id = i
      · rw [if_neg (by simpa using hx), ih, List.find?_cons]
        simp only [show ¬ x.id = j from fun c => e (by rw [← c, hx]), decide_false]
      · rw [if_pos (by simpa using hx), List.find?_cons, List.find?_cons, ih]
theorem del_nodup {S : List Sto} (h : (S.map (·.id)).Nodup) (i : Int) : ((dlS S i).map (·.id)).Nodup := h.sublist ((List.filter_sublist (l := S)).map _)
theorem del_len {S : List Sto} (h : (S.map (·.id)).Nodup) (i : Int) (hs : lkS S i ≠ none) : (dlS S i).length = S.length - 1 := by
  induction S with
  | nil => exact absurd rfl hs
  | cons x S ih =>
    rw [List.map_cons, List.nodup_cons] at h
    unfold dlS at *
    rw [List.filter_cons]
    by_cases hx : x.id = i
    · rw [if_neg (by simpa using hx)]
      have : S.filter (fun s => decide (s.id ≠ i)) = S := by
        rw [List.filter_eq_self]
        intro s hs2
        simp only [decide_eq_true_eq]
        exact fun c => h.1 (by rw [hx, ← c]; exact List.mem_map_of_mem hs2)
      rw [this]; simp
    · rw [if_pos (by simpa using hx)]
      have h1 : lkS S i ≠ none := by
        unfold lkS at hs ⊢
        rw [List.find?_cons] at hs
        simpa only [hx, decide_false] using hs
      have h2 := ih h.2 h1
      have h3 : 0 < S.length := by
        cases S with
        | nil => exact absurd rfl h1
        | cons _ _ => simp
      rw [List.length_cons, h2, List.length_cons]; omega
/-- How often the list under a number has a pair. -/
def pC (l : List It) (y : Pr) : Option Int := if y ∈ pw l then some ((pw l).count y : Nat) else none
def hC (S : List Sto) (y : Pr) (i : Int) : Option Int := (lkS S i).bind fun l => pC l y
/-- A list that is short enough. -/
structure LOk (l : List It) : Prop where
  len : l.length ≤ 100
  ok : ∀ x ∈ l, (Lit.int .i64 x.k).wf = true ∧ x.t.size ≤ 1000
/-- The numbers of the lists that have a pair, for each pair. -/
structure HoldH (w : World) (G : Nat → Prop) (b1 b2 N : Nat) (C : Pr → Int → Option Int) (H : Pr → Option Nat) : Prop where
  top : MapAt 74 Pr.v vMp w b2 N H
  g2 : G b2
  n1 : ¬ G b1
  lt : ∀ b, G b → b < w.heap.size
  inn : ∀ y b, H y = some b → G b ∧ b ≠ b2 ∧ MapAt 3 vInt vInt w b N (C y)
  out : ∀ y, H y = none → ∀ i, C y i = none
  sep : ∀ y z b, H y = some b → H z = some b → y = z
theorem HoldH.call {w w' : World} {G : Nat → Prop} {b1 b2 N : Nat} {C : Pr → Int → Option Int} {H : Pr → Option Nat} (h : HoldH w G b1 b2 N C H) (hb : Below w.heap.size w w') : HoldH w' G b1 b2 N C H :=
  ⟨h.top.call hb, h.g2, h.n1, fun b hg => Nat.lt_of_lt_of_le (h.lt b hg) hb.size, fun y b e => ⟨(h.inn y b e).1, (h.inn y b e).2.1, (h.inn y b e).2.2.call hb⟩, h.out, h.sep⟩
theorem HoldH.kept {F : Nat → Prop} {w w' : World} {G : Nat → Prop} {b1 b2 N : Nat} {C : Pr → Int → Option Int} {H : Pr → Option Nat} (h : HoldH w G b1 b2 N C H) (k : Kept F w w') (hf : ∀ b, G b → ¬ F b) : HoldH w' G b1 b2 N C H :=
  ⟨h.top.kept k (hf _ h.g2), h.g2, h.n1, fun b hg => Nat.lt_of_lt_of_le (h.lt b hg) k.size, fun y b e => ⟨(h.inn y b e).1, (h.inn y b e).2.1, (h.inn y b e).2.2.kept k (hf _ (h.inn y b e).1)⟩, h.out, h.sep⟩
theorem HoldH.mono {w : World} {G : Nat → Prop} {b1 b2 N M : Nat} {C : Pr → Int → Option Int} {H : Pr → Option Nat} (h : HoldH w G b1 b2 N C H) (hn : N ≤ M) : HoldH w G b1 b2 M C H :=
  ⟨h.top.mono hn, h.g2, h.n1, h.lt, fun y b e => ⟨(h.inn y b e).1, (h.inn y b e).2.1, (h.inn y b e).2.2.mono hn⟩, h.out, h.sep⟩
theorem HoldH.ext {w : World} {G : Nat → Prop} {b1 b2 N : Nat} {C C' : Pr → Int → Option Int} {H : Pr → Option Nat} (h : HoldH w G b1 b2 N C H) (e : ∀ y i, C y i = C' y i) : HoldH w G b1 b2 N C' H := by
  have : C = C' := funext fun y => funext fun i => e y i
  rw [← this]; exact h
def fp (G : Nat → Prop) (b1 : Nat) (k : Nat) : Prop := G k ∨ k = b1
/-- What the index at X is made of: G the blocks of its pairs, b1 that of its lists; R all of its blocks. -/
structure IxL (w : World) (X b1 b2 : Nat) (G R : Nat → Prop) (S : List Sto) (LS : Int → Option LV) : Prop where
  x0 : w.cell? ⟨X, 0, none⟩ = some (.map (some b1))
  x1 : w.cell? ⟨X, 1, none⟩ = some (.map (some b2))
  xn : ¬ fp G b1 X
  map : MapN 3 vInt LV.v w b1 S.length LS
  eq : ∀ i, (LS i).map (·.l) = lkS S i
  its : ∀ i e, LS i = some e → Its w e.p e.l ∧ e.l.length ≤ e.c ∧ e.c ≤ maxLen ∧ (0 < e.l.length → ∀ a, e.p = some a → ¬ fp G b1 a.block ∧ R a.block)
  ok : ∀ s ∈ S, LOk s.l ∧ (Lit.int .i64 s.id).wf = true
  nd : (S.map (·.id)).Nodup
  rx : R X
  rg : ∀ k, fp G b1 k → R k
  rl : ∀ k, R k → k < w.heap.size
/-- The index at X, in blocks R, stores S. -/
def Ix (w : World) (X : Nat) (R : Nat → Prop) (N : Nat) (S : List Sto) : Prop :=
  ∃ b1 b2 G LS H, IxL w X b1 b2 G R S LS ∧ HoldH w G b1 b2 N (hC S) H
theorem IxL.keptBy {F : Nat → Prop} {w w' : World} {X b1 b2 : Nat} {G R : Nat → Prop} {S : List Sto} {LS : Int → Option LV} (h : IxL w X b1 b2 G R S LS) (k : Kept F w w') (hx : ¬ F X) (hb : ¬ F b1) (ht : ∀ i e, LS i = some e → 0 < e.l.length → ∀ a, e.p = some a → ¬ F a.block) : IxL w' X b1 b2 G R S LS :=
  ⟨k.cell h.x0 hx, k.cell h.x1 hx, h.xn, h.map.kept k hb, h.eq, fun i e he => ⟨(h.its i e he).1.kept k (ht i e he), (h.its i e he).2⟩, h.ok, h.nd, h.rx, h.rg, fun j hj => Nat.lt_of_lt_of_le (h.rl j hj) k.size⟩
theorem IxL.call {w w' : World} {X b1 b2 : Nat} {G R : Nat → Prop} {S : List Sto} {LS : Int → Option LV} (h : IxL w X b1 b2 G R S LS) (hb : Below w.heap.size w w') : IxL w' X b1 b2 G R S LS :=
  h.keptBy (F := fun _ => False) (Kept.below hb) id id fun _ _ _ _ _ _ => id
theorem Ix.call {w w' : World} {X N : Nat} {R : Nat → Prop} {S : List Sto} (h : Ix w X R N S) (hb : Below w.heap.size w w') : Ix w' X R N S := by
  obtain ⟨b1, b2, G, LS, H, h1, h2⟩ := h; exact ⟨b1, b2, G, LS, H, h1.call hb, h2.call hb⟩
theorem Ix.mono {w : World} {X N M : Nat} {R : Nat → Prop} {S : List Sto} (h : Ix w X R N S) (hn : N ≤ M) : Ix w X R M S := by
  obtain ⟨b1, b2, G, LS, H, h1, h2⟩ := h; exact ⟨b1, b2, G, LS, H, h1, h2.mono hn⟩
theorem Ix.lt {w : World} {X N : Nat} {R : Nat → Prop} {S : List Sto} (h : Ix w X R N S) : ∀ k, R k → k < w.heap.size := by
  obtain ⟨b1, b2, G, LS, H, h1, h2⟩ := h; exact h1.rl
/-- What is turned elsewhere does not touch the index. -/
theorem Ix.apart {F : Nat → Prop} {w w' : World} {X N : Nat} {R : Nat → Prop} {S : List Sto} (h : Ix w X R N S) (k : Kept F w w') (hg : ∀ k, R k → ¬ F k) : Ix w' X R N S := by
  obtain ⟨b1, b2, G, LS, H, h1, h2⟩ := h
  exact ⟨b1, b2, G, LS, H, h1.keptBy k (hg _ h1.rx) (hg _ (h1.rg _ (.inr rfl))) fun i e he h0 a ha => hg _ ((h1.its i e he).2.2.2 h0 a ha).2, h2.kept k fun b hb => hg b (h1.rg _ (.inl hb))⟩
end Go.Proofs.YthfgpagmepdblaaGreat
