/- The mathematics of the edit distance: what a pair costs, the least price without the surplus, a metric. The canonical script, and the columns at which it crosses a row. The surplus: how much more often one of two lists has a tag than the other. -/
import Derived.Test.YthfgpagmepdblaaGreatTkA
namespace Go.Proofs.YthfgpagmepdblaaGreat
open Go.ChangeShapes Go.WideShapes Go.ChangeAt Go.RowKit
set_option linter.unusedVariables false
set_option linter.unusedSimpArgs false
set_option maxRecDepth 100000

def sm (x y : It) : Bool := decide (x.k = y.k ∧ x.t = y.t)
def okP (x y : It) : Bool := sm x y || (decide (x.k = y.k) && decide (5 ≤ x.k ∧ x.k ≤ 9))
def cst (x y : It) : Nat := if sm x y = true then 0 else if x.k = 6 ∧ keyT x.k x.t = keyT y.k y.t then 1 else wtT x.k
def stp (x : It) : Nat := if isT x.k = true then 1 else wtT x.k
theorem sm_iff (x y : It) : sm x y = true ↔ x.k = y.k ∧ x.t = y.t := by unfold sm; simp
theorem okP_kind {x y : It} (h : okP x y = true) : x.k = y.k := by
  unfold okP sm at h; simp at h; rcases h with h | h
  · exact h.1
  · exact h.1
theorem stp_kind {x y : It} (h : x.k = y.k) : stp x = stp y := by unfold stp; rw [h]
theorem sm_self (x : It) : sm x x = true := (sm_iff _ _).2 ⟨rfl, rfl⟩
theorem sm_comm (x y : It) : sm x y = sm y x := by rw [Bool.eq_iff_iff, sm_iff, sm_iff]; exact ⟨fun h => ⟨h.1.symm, h.2.symm⟩, fun h => ⟨h.1.symm, h.2.symm⟩⟩
theorem ok_self (x : It) : okP x x = true := by unfold okP; rw [sm_self]; rfl
theorem okP_iff (x y : It) : okP x y = true ↔ (x.k = y.k ∧ x.t = y.t) ∨ (x.k = y.k ∧ 5 ≤ x.k ∧ x.k ≤ 9) := by unfold okP; rw [Bool.or_eq_true, sm_iff]; simp
theorem ok_comm (x y : It) : okP x y = okP y x := by
  rw [Bool.eq_iff_iff, okP_iff, okP_iff]
  constructor
  · rintro (⟨h1, h2⟩ | ⟨h1, h2, h3⟩)
    · exact .inl ⟨h1.symm, h2.symm⟩
    · exact .inr ⟨h1.symm, by omega, by omega⟩
  · rintro (⟨h1, h2⟩ | ⟨h1, h2, h3⟩)
    · exact .inl ⟨h1.symm, h2.symm⟩
    · exact .inr ⟨h1.symm, by omega, by omega⟩
theorem ok_trans {x y z : It} (h : okP x y = true) (g : okP y z = true) : okP x z = true := by
  rw [okP_iff] at *
  rcases h with ⟨h1, h2⟩ | ⟨h1, h2, h3⟩ <;> rcases g with ⟨g1, g2⟩ | ⟨g1, g2, g3⟩
  · exact .inl ⟨h1.trans g1, h2.trans g2⟩
  · exact .inr ⟨h1.trans g1, by omega, by omega⟩
  · exact .inr ⟨h1.trans g1, by omega, by omega⟩
  · exact .inr ⟨h1.trans g1, by omega, by omega⟩
theorem cst_self (x : It) : cst x x = 0 := if_pos (sm_self x)
theorem cst_comm (x y : It) (h : okP x y = true) : cst x y = cst y x := by
  have hk := okP_kind h
  unfold cst; rw [sm_comm x y, hk]
  by_cases h1 : sm y x = true
  · rw [if_pos h1, if_pos h1]
  · rw [if_neg h1, if_neg h1]
    by_cases h2 : y.k = 6 ∧ keyT y.k x.t = keyT y.k y.t
    · rw [if_pos h2, if_pos ⟨h2.1, h2.2.symm⟩]
    · rw [if_neg h2, if_neg (fun c => h2 ⟨c.1, c.2.symm⟩)]
theorem cst_le (x y : It) : cst x y ≤ wtT x.k := by
  unfold cst
  split
  · omega
  · split
    · rename_i h; unfold wtT; rw [if_pos (.inl h.1)]; omega
    · omega
theorem stp_le4 (x : It) : stp x ≤ 4 := by
  unfold stp wtT; repeat' split
  all_goals omega
theorem cst_le4 (x y : It) : cst x y ≤ 4 := by
  have := cst_le x y; have h : wtT x.k ≤ 4 := by unfold wtT; repeat' split
                                                 all_goals omega
  omega
theorem cst_stp {x y : It} (h : okP x y = true) : cst x y ≤ stp x := by
  unfold stp
  split
  · rename_i ht
    rcases (okP_iff _ _).1 h with g | g
    · unfold cst; rw [if_pos ((sm_iff _ _).2 g)]; omega
    · unfold isT at ht; simp at ht; omega
  · exact cst_le x y
theorem cst_tri {x y z : It} (h : okP x y = true) (g : okP y z = true) : cst x z ≤ cst x y + cst y z := by
  have h1 := okP_kind h
  have g1 := okP_kind g
  by_cases a : sm x y = true
  · have e := (sm_iff _ _).1 a
    have : cst x z = cst y z := by unfold cst sm; rw [e.1, e.2]
    omega
  by_cases b : sm y z = true
  · have e := (sm_iff _ _).1 b
    have : cst x z = cst x y := by unfold cst sm; rw [← e.1, ← e.2]
    omega
  have hz := cst_le x z
  by_cases c : x.k = 6 ∧ keyT x.k x.t = keyT y.k y.t
  · by_cases d : y.k = 6 ∧ keyT y.k y.t = keyT z.k z.t
    · have : cst x z ≤ 1 := by
        unfold cst; split
        · omega
        · rw [if_pos ⟨c.1, c.2.trans d.2⟩]; omega
      have : cst x y = 1 := by unfold cst; rw [if_neg a, if_pos c]
      omega
    · have : cst y z = wtT y.k := by unfold cst; rw [if_neg b, if_neg d]
      rw [h1] at hz; omega
  · have : cst x y = wtT x.k := by unfold cst; rw [if_neg a, if_neg c]
    omega

/-! ### the least price without the surplus -/
def rowD (x : It) (f : List It → Nat) : List It → Nat
  | [] => stp x + f []
  | y :: b => if okP x y = true then min (cst x y + f b) (min (stp x + f (y :: b)) (stp y + rowD x f b)) else min (stp x + f (y :: b)) (stp y + rowD x f b)
def stL : List It → Nat
  | [] => 0
  | y :: b => stp y + stL b
def dst : List It → List It → Nat
  | [], b => stL b
  | x :: a, b => rowD x (dst a) b
theorem dst_nil (b : List It) : dst [] b = stL b := rfl
theorem dst_end (x : It) (a : List It) : dst (x :: a) [] = stp x + dst a [] := rfl
theorem dst_ok {x y : It} (a b : List It) (h : okP x y = true) : dst (x :: a) (y :: b) = min (cst x y + dst a b) (min (stp x + dst a (y :: b)) (stp y + dst (x :: a) b)) := by
  show rowD x (dst a) (y :: b) = _; rw [rowD, if_pos h]; rfl
theorem dst_no {x y : It} (a b : List It) (h : okP x y = false) : dst (x :: a) (y :: b) = min (stp x + dst a (y :: b)) (stp y + dst (x :: a) b) := by
  show rowD x (dst a) (y :: b) = _; rw [rowD, if_neg (by rw [h]; simp)]; rfl
inductive Al : List It → List It → Nat → Prop
  | nil : Al [] [] 0
  | del (x : It) {a b : List It} {n : Nat} : Al a b n → Al (x :: a) b (stp x + n)
  | ins (y : It) {a b : List It} {n : Nat} : Al a b n → Al a (y :: b) (stp y + n)
  | pair {x y : It} {a b : List It} {n : Nat} : okP x y = true → Al a b n → Al (x :: a) (y :: b) (cst x y + n)
theorem al_ins (b : List It) : Al [] b (stL b) := by
  induction b with
  | nil => exact .nil
  | cons y b ih => exact .ins y ih
theorem al_dst (a : List It) : ∀ b, Al a b (dst a b) := by
  induction a with
  | nil => exact al_ins
  | cons x a ih =>
    intro b
    induction b with
    | nil => exact .del x (ih [])
    | cons y b ihb =>
      have h2 : Al (x :: a) (y :: b) (min (stp x + dst a (y :: b)) (stp y + dst (x :: a) b)) := by
        rcases Nat.le_total (stp x + dst a (y :: b)) (stp y + dst (x :: a) b) with h | h
        · rw [Nat.min_eq_left h]; exact .del x (ih _)
        · rw [Nat.min_eq_right h]; exact .ins y ihb
      cases hp : okP x y
      · rw [dst_no _ _ hp]; exact h2
      · rw [dst_ok _ _ hp]
        rcases Nat.le_total (cst x y + dst a b) (min (stp x + dst a (y :: b)) (stp y + dst (x :: a) b)) with h | h
        · rw [Nat.min_eq_left h]; exact .pair hp (ih _)
        · rw [Nat.min_eq_right h]; exact h2
theorem dst_del (x : It) (a b : List It) : dst (x :: a) b ≤ stp x + dst a b := by
  cases b with
  | nil => exact Nat.le_refl _
  | cons y b =>
    cases hp : okP x y
    · rw [dst_no _ _ hp]; omega
    · rw [dst_ok _ _ hp]; omega
theorem dst_ins (y : It) (a b : List It) : dst a (y :: b) ≤ stp y + dst a b := by
  cases a with
  | nil => exact Nat.le_refl _
  | cons x a =>
    cases hp : okP x y
    · rw [dst_no _ _ hp]; omega
    · rw [dst_ok _ _ hp]; omega
theorem dst_pair {x y : It} (h : okP x y = true) (a b : List It) : dst (x :: a) (y :: b) ≤ cst x y + dst a b := by rw [dst_ok _ _ h]; omega
theorem dst_al {a b : List It} {n : Nat} (h : Al a b n) : dst a b ≤ n := by
  induction h with
  | nil => exact Nat.le_refl _
  | del x h ih => rename_i a b n; have := dst_del x a b; omega
  | ins y h ih => rename_i a b n; have := dst_ins y a b; omega
  | pair hp h ih => rename_i x y a b n; have := dst_pair hp a b; omega
theorem Al.symm {a b : List It} {n : Nat} (h : Al a b n) : Al b a n := by
  induction h with
  | nil => exact .nil
  | del x h ih => exact .ins x ih
  | ins y h ih => exact .del y ih
  | pair hp h ih => rw [cst_comm _ _ hp]; exact .pair (by rw [ok_comm]; exact hp) ih
theorem dst_comm (a b : List It) : dst a b = dst b a := Nat.le_antisymm (dst_al (al_dst b a).symm) (dst_al (al_dst a b).symm)
theorem Al.refl (a : List It) : Al a a 0 := by
  induction a with
  | nil => exact .nil
  | cons x a ih => have := Al.pair (ok_self x) ih; rwa [cst_self] at this
theorem dst_self (a : List It) : dst a a = 0 := Nat.le_zero.1 (dst_al (Al.refl a))
theorem Al.trans {a b : List It} {n : Nat} (h : Al a b n) : ∀ {c : List It} {m : Nat}, Al b c m → ∃ p, p ≤ n + m ∧ Al a c p := by
  induction h with
  | nil => intro c m g; exact ⟨m, by omega, g⟩
  | del x h ih => intro c m g; obtain ⟨p, hp, hA⟩ := ih g; exact ⟨stp x + p, by omega, .del x hA⟩
  | @ins y a b n h ih =>
    intro c m g
    generalize hB : y :: b = B at g
    induction g with
    | nil => cases hB
    | del z g _ => injection hB with e1 e2; subst e1; subst e2; obtain ⟨p, hp, hA⟩ := ih g; exact ⟨p, by omega, hA⟩
    | ins z g ih2 => obtain ⟨p, hp, hA⟩ := ih2 hB; exact ⟨stp z + p, by omega, .ins z hA⟩
    | pair hok g _ =>
      injection hB with e1 e2; subst e1; subst e2
      obtain ⟨p, hp, hA⟩ := ih g
      rename_i z _ _ _
      have hs := stp_kind (okP_kind hok)
      exact ⟨stp z + p, by omega, .ins z hA⟩
  | @pair x y a b n hxy h ih =>
    intro c m g
    generalize hB : y :: b = B at g
    induction g with
    | nil => cases hB
    | del z g _ =>
      injection hB with e1 e2; subst e1; subst e2
      obtain ⟨p, hp, hA⟩ := ih g
      have hs := stp_kind (okP_kind hxy)
      exact ⟨stp x + p, by omega, .del x hA⟩
    | ins z g ih2 => obtain ⟨p, hp, hA⟩ := ih2 hB; exact ⟨stp z + p, by omega, .ins z hA⟩
    | pair hok g _ =>
      injection hB with e1 e2; subst e1; subst e2
      obtain ⟨p, hp, hA⟩ := ih g
      rename_i z _ _ _
      have ht := cst_tri hxy hok
      exact ⟨cst x z + p, by omega, .pair (ok_trans hxy hok) hA⟩
theorem dst_tri (a b c : List It) : dst a c ≤ dst a b + dst b c := by
  obtain ⟨p, hp, hA⟩ := (al_dst a b).trans (al_dst b c)
  have := dst_al hA; omega
theorem dst_drop1 (x : It) (a : List It) : dst (x :: a) a ≤ stp x := by have := dst_del x a a; rw [dst_self] at this; omega
/-- What two lists have in front does not count. -/
theorem dst_cons (x : It) (a b : List It) : dst (x :: a) (x :: b) = dst a b := by
  refine Nat.le_antisymm ?_ ?_
  · have := dst_pair (ok_self x) a b; rw [cst_self] at this; omega
  · have hA := al_dst (x :: a) (x :: b)
    generalize dst (x :: a) (x :: b) = n at hA
    generalize hX : x :: a = X at hA
    generalize hY : x :: b = Y at hA
    cases hA with
    | nil => cases hX
    | del z h =>
      injection hX with e1 e2; subst e1; subst e2; subst hY
      have h1 := dst_al h
      have h2 := dst_tri a (x :: b) b
      have h3 := dst_drop1 x b
      omega
    | ins z h =>
      injection hY with e1 e2; subst e1; subst e2; subst hX
      have h1 := dst_al h
      have h2 := dst_tri a (x :: a) b
      have h3 := dst_drop1 x a
      rw [dst_comm] at h3
      omega
    | pair hok h =>
      injection hX with e1 e2; subst e1; subst e2; injection hY with e1 e2; subst e1; subst e2
      have := dst_al h; omega
theorem dst_front (c a b : List It) : dst (c ++ a) (c ++ b) = dst a b := by
  induction c with
  | nil => rfl
  | cons x c ih => rw [List.cons_append, List.cons_append, dst_cons, ih]
theorem Al.snoc_del {a b : List It} {n : Nat} (x : It) (h : Al a b n) : Al (a ++ [x]) b (stp x + n) := by
  induction h with
  | nil => exact .del x .nil
  | del z h ih => have := Al.del z ih; rw [Nat.add_left_comm] at this; exact this
  | ins z h ih => have := Al.ins z ih; rw [Nat.add_left_comm] at this; exact this
  | pair hp h ih => have := Al.pair hp ih; rw [Nat.add_left_comm] at this; exact this
theorem Al.snoc_ins {a b : List It} {n : Nat} (x : It) (h : Al a b n) : Al a (b ++ [x]) (stp x + n) := (h.symm.snoc_del x).symm
theorem Al.snoc_pair {a b : List It} {n : Nat} {x y : It} (hok : okP x y = true) (h : Al a b n) : Al (a ++ [x]) (b ++ [y]) (cst x y + n) := by
  induction h with
  | nil => exact .pair hok .nil
  | del z h ih => have := Al.del z ih; rw [Nat.add_left_comm] at this; exact this
  | ins z h ih => have := Al.ins z ih; rw [Nat.add_left_comm] at this; exact this
  | pair hp h ih => have := Al.pair hp ih; rw [Nat.add_left_comm] at this; exact this
theorem Al.rev {a b : List It} {n : Nat} (h : Al a b n) : Al a.reverse b.reverse n := by
  induction h with
  | nil => exact .nil
  | del z h ih => rw [List.reverse_cons]; exact ih.snoc_del z
  | ins z h ih => rw [List.reverse_cons]; exact ih.snoc_ins z
  | pair hp h ih => rw [List.reverse_cons, List.reverse_cons]; exact ih.snoc_pair hp
theorem dst_rev (a b : List It) : dst a.reverse b.reverse = dst a b := by
  refine Nat.le_antisymm (dst_al (al_dst a b).rev) ?_
  have := dst_al (al_dst a.reverse b.reverse).rev
  rwa [List.reverse_reverse, List.reverse_reverse] at this
theorem dst_back (c a b : List It) : dst (a ++ c) (b ++ c) = dst a b := by
  rw [← dst_rev, List.reverse_append, List.reverse_append, dst_front, dst_rev]
def kindV (l : List It) : Prop := ∀ x ∈ l, 2 ≤ x.k ∧ x.k ≤ 9
theorem stp_pos {x : It} (h : 2 ≤ x.k ∧ x.k ≤ 9) : 0 < stp x := by
  unfold stp wtT isT; obtain ⟨h1, h2⟩ := h
  split
  · omega
  · rename_i h3; simp at h3
    repeat' split
    all_goals omega
theorem cst_zero {x y : It} (h : 2 ≤ x.k ∧ x.k ≤ 9) (hok : okP x y = true) (hc : cst x y = 0) : sm x y = true := by
  unfold cst at hc
  split at hc
  · assumption
  · split at hc
    · cases hc
    · unfold wtT at hc; repeat' split at hc
      all_goals omega
/-- Lists that are the same token by token. -/
def smL : List It → List It → Bool
  | [], [] => true
  | x :: a, y :: b => sm x y && smL a b
  | _, _ => false
theorem smL_al {a b : List It} (h : smL a b = true) : Al a b 0 := by
  induction a generalizing b with
  | nil => cases b with
    | nil => exact .nil
    | cons y b => cases h
  | cons x a ih => cases b with
    | nil => cases h
    | cons y b =>
      rw [smL, Bool.and_eq_true] at h
      have h1 : okP x y = true := by unfold okP; rw [h.1]; rfl
      have := Al.pair h1 (ih h.2)
      rwa [show cst x y = 0 from if_pos h.1] at this
theorem al_zero {a b : List It} {n : Nat} (h : Al a b n) (hn : n = 0) (ha : kindV a) (hb : kindV b) : smL a b = true := by
  induction h with
  | nil => rfl
  | del x h ih => have := stp_pos (ha x (List.mem_cons_self ..)); omega
  | ins x h ih => have := stp_pos (hb x (List.mem_cons_self ..)); omega
  | @pair x y a b n hok h ih =>
    rw [smL, Bool.and_eq_true]
    exact ⟨cst_zero (ha _ (List.mem_cons_self ..)) hok (by omega), ih (by omega) (fun z hz => ha z (List.mem_cons_of_mem _ hz)) (fun z hz => hb z (List.mem_cons_of_mem _ hz))⟩
theorem dst_zero {a b : List It} (ha : kindV a) (hb : kindV b) : dst a b = 0 ↔ smL a b = true :=
  ⟨fun h => al_zero (al_dst a b) h ha hb, fun h => Nat.le_zero.1 (dst_al (smL_al h))⟩
theorem stL_le (b : List It) : stL b ≤ 4 * b.length := by
  induction b with
  | nil => exact Nat.le_refl _
  | cons y b ih => have := stp_le4 y; rw [stL, List.length_cons]; omega
theorem dst_le (a : List It) : ∀ b : List It, dst a b ≤ 4 * (a.length + b.length) := by
  induction a with
  | nil => intro b; have := stL_le b; rw [dst_nil]; simp; omega
  | cons x a ih => intro b; have := dst_del x a b; have := ih b; have := stp_le4 x; rw [List.length_cons]; omega
end Go.Proofs.YthfgpagmepdblaaGreat
namespace Go.Proofs.YthfgpagmepdblaaGreat
open Go.ChangeShapes Go.WideShapes Go.ChangeAt Go.RowKit
set_option linter.unusedVariables false
set_option linter.unusedSimpArgs false
set_option maxRecDepth 100000

inductive Mv | P | X | I
  deriving DecidableEq
/-- The first move of the canonical script. -/
def mv (x : It) (a : List It) (y : It) (b : List It) : Mv :=
  if okP x y = true ∧ cst x y + dst a b = dst (x :: a) (y :: b) then .P else if stp x + dst a (y :: b) = dst (x :: a) (y :: b) then .X else .I
def rowC (x : It) (a : List It) (g : List It → List Mv) : List It → List Mv
  | [] => .X :: g []
  | y :: b => match mv x a y b with
    | .P => .P :: g b
    | .X => .X :: g (y :: b)
    | .I => .I :: rowC x a g b
def can : List It → List It → List Mv
  | [], b => b.map fun _ => .I
  | x :: a, b => rowC x a (can a) b
def rowX (x : It) (a : List It) (g : List It → Nat) : List It → Nat
  | [] => g []
  | y :: b => match mv x a y b with
    | .P => 1 + g b
    | .X => g (y :: b)
    | .I => 1 + rowX x a g b
/-- How many tokens of b are treated when the script has treated m tokens of a. -/
def crs : Nat → List It → List It → Nat
  | 0, _, _ => 0
  | _ + 1, [], _ => 0
  | m + 1, x :: a, b => rowX x a (crs m a) b
/-- The columns of a row, from those of the row below. -/
def rowK (x : It) (a : List It) (cF : Nat → Nat) : List It → Nat → Nat
  | [], j => cF j
  | y :: b, j => match mv x a y b with
    | .P => cF (j + 1)
    | .X => cF j
    | .I => rowK x a cF b (j + 1)
theorem rowK_crs (x : It) (a b0 : List It) (m : Nat) : ∀ (b : List It) (j : Nat), b0.drop j = b → rowK x a (fun j => j + crs m a (b0.drop j)) b j = j + crs (m + 1) (x :: a) b := by
  intro b
  induction b with
  | nil => intro j h; show j + crs m a (b0.drop j) = j + crs m a []; rw [h]
  | cons y b ih =>
    intro j h
    have h2 : b0.drop (j + 1) = b := by rw [← List.drop_drop, h]; rfl
    show (match mv x a y b with | .P => j + 1 + crs m a (b0.drop (j + 1)) | .X => j + crs m a (b0.drop j) | .I => rowK x a _ b (j + 1)) = j + rowX x a (crs m a) (y :: b)
    rw [rowX]
    cases mv x a y b with
    | P => simp only [h2]; omega
    | X => simp only [h]
    | I => rw [ih (j + 1) h2]; show j + 1 + rowX x a (crs m a) b = _; simp only []; omega
theorem rowK_zero (x : It) (a : List It) (cF : Nat → Nat) (h : ∀ j, cF j = 0) : ∀ (b : List It) (j : Nat), rowK x a cF b j = 0 := by
  intro b
  induction b with
  | nil => intro j; exact h j
  | cons y b ih => intro j; rw [rowK]; split
                   · exact h _
                   · exact h _
                   · exact ih _
/-- What the three tests of a round find. -/
theorem mv_P {x y : It} (a b : List It) (h : okP x y = true) (h1 : dst a b + cst x y ≤ dst a (y :: b) + stp x) (h2 : ¬ dst (x :: a) b + stp y < dst a b + cst x y) : dst (x :: a) (y :: b) = dst a b + cst x y ∧ mv x a y b = .P := by
  have := dst_ok a b h
  refine ⟨by omega, ?_⟩
  unfold mv; rw [if_pos ⟨h, by omega⟩]
theorem mv_PI {x y : It} (a b : List It) (h : okP x y = true) (h1 : dst a b + cst x y ≤ dst a (y :: b) + stp x) (h2 : dst (x :: a) b + stp y < dst a b + cst x y) : dst (x :: a) (y :: b) = dst (x :: a) b + stp y ∧ mv x a y b = .I := by
  have := dst_ok a b h
  refine ⟨by omega, ?_⟩
  unfold mv; rw [if_neg (fun c => by have := c.2; omega), if_neg (by omega)]
theorem mv_X {x y : It} (a b : List It) (h : okP x y = true → ¬ dst a b + cst x y ≤ dst a (y :: b) + stp x) (h2 : ¬ dst (x :: a) b + stp y < dst a (y :: b) + stp x) : dst (x :: a) (y :: b) = dst a (y :: b) + stp x ∧ mv x a y b = .X := by
  cases hq : okP x y with
  | false =>
    have := dst_no a b hq
    refine ⟨by omega, ?_⟩
    unfold mv; rw [if_neg (fun c => by rw [hq] at c; cases c.1), if_pos (by omega)]
  | true =>
    have := dst_ok a b hq
    have := h hq
    refine ⟨by omega, ?_⟩
    unfold mv; rw [if_neg (fun c => by have := c.2; omega), if_pos (by omega)]
theorem mv_I {x y : It} (a b : List It) (h : okP x y = true → ¬ dst a b + cst x y ≤ dst a (y :: b) + stp x) (h2 : dst (x :: a) b + stp y < dst a (y :: b) + stp x) : dst (x :: a) (y :: b) = dst (x :: a) b + stp y ∧ mv x a y b = .I := by
  cases hq : okP x y with
  | false =>
    have := dst_no a b hq
    refine ⟨by omega, ?_⟩
    unfold mv; rw [if_neg (fun c => by rw [hq] at c; cases c.1), if_neg (by omega)]
  | true =>
    have := dst_ok a b hq
    have := h hq
    refine ⟨by omega, ?_⟩
    unfold mv; rw [if_neg (fun c => by have := c.2; omega), if_neg (by omega)]
end Go.Proofs.YthfgpagmepdblaaGreat
namespace Go.Proofs.YthfgpagmepdblaaGreat
open Go.ChangeShapes Go.WideShapes Go.ChangeAt Go.RowKit
set_option linter.unusedVariables false
set_option linter.unusedSimpArgs false
set_option maxRecDepth 100000

/-- What tags have in common. -/
structure Tg where
  k : Int
  t : ByteArray
  deriving DecidableEq
def Tg.v (x : Tg) : Value := .agg #[.int .i64 x.k, .string x.t]
def tkey (x : It) : Tg := ⟨x.k, x.t⟩
def tkeys (l : List It) : List Tg := (l.filter fun x => isT x.k).map tkey
def cntN (l : List It) (y : Tg) : Nat := (tkeys l).count y
theorem tkeys_append (a b : List It) : tkeys (a ++ b) = tkeys a ++ tkeys b := by unfold tkeys; rw [List.filter_append, List.map_append]
theorem cntN_append (a b : List It) (y : Tg) : cntN (a ++ b) y = cntN a y + cntN b y := by unfold cntN; rw [tkeys_append, List.count_append]
theorem cntN_le (l : List It) (y : Tg) : cntN l y ≤ l.length := by
  unfold cntN tkeys
  refine Nat.le_trans List.count_le_length ?_
  rw [List.length_map]; exact List.length_filter_le _ _
theorem tkeys_one (x : It) (h : isT x.k = true) : tkeys [x] = [tkey x] := by unfold tkeys; rw [List.filter_cons, if_pos h]; rfl
theorem tkeys_none (x : It) (h : isT x.k = false) : tkeys [x] = [] := by unfold tkeys; rw [List.filter_cons, if_neg (by rw [h]; simp)]; rfl
def uniq : List Tg → List Tg
  | [] => []
  | x :: l => if x ∈ l then uniq l else x :: uniq l
theorem mem_uniq (l : List Tg) (y : Tg) : y ∈ uniq l ↔ y ∈ l := by
  induction l with
  | nil => exact Iff.rfl
  | cons x l ih =>
    rw [uniq]
    by_cases h : x ∈ l
    · rw [if_pos h, ih, List.mem_cons]
      exact ⟨.inr, fun c => c.elim (fun e => by rw [e]; exact h) id⟩
    · rw [if_neg h, List.mem_cons, List.mem_cons, ih]
theorem nodup_uniq (l : List Tg) : (uniq l).Nodup := by
  induction l with
  | nil => exact List.nodup_nil
  | cons x l ih =>
    rw [uniq]
    by_cases h : x ∈ l
    · rw [if_pos h]; exact ih
    · rw [if_neg h]; exact List.nodup_cons.2 ⟨fun c => h ((mem_uniq l x).1 c), ih⟩
def dif (a b : List It) (y : Tg) : Nat := ((cntN a y : Int) - (cntN b y : Int)).natAbs
def sumT (K : List Tg) (g : Tg → Nat) : Nat := (K.map g).sum
theorem sumT_nil (g : Tg → Nat) : sumT [] g = 0 := rfl
theorem sumT_cons (x : Tg) (K : List Tg) (g : Tg → Nat) : sumT (x :: K) g = g x + sumT K g := by unfold sumT; rw [List.map_cons, List.sum_cons]
theorem sumT_erase (K : List Tg) (x : Tg) (h : x ∈ K) (g : Tg → Nat) : sumT K g = g x + sumT (K.erase x) g := by
  induction K with
  | nil => cases h
  | cons y K ih =>
    by_cases e : y = x
    · subst e; rw [List.erase_cons_head, sumT_cons]
    · rw [List.erase_cons_tail (by simpa using e), sumT_cons, sumT_cons, ih (by simpa [Ne.symm e] using h)]; omega
theorem sumT_zero (K : List Tg) (g : Tg → Nat) (h : ∀ y ∈ K, g y = 0) : sumT K g = 0 := by
  induction K with
  | nil => rfl
  | cons x K ih => rw [sumT_cons, h x (List.mem_cons_self ..), ih fun y hy => h y (List.mem_cons_of_mem _ hy)]
/-- A sum over keys does not depend on the list of keys. -/
theorem sumT_any (K : List Tg) : ∀ (L : List Tg) (g : Tg → Nat), K.Nodup → L.Nodup → (∀ y ∈ K, g y ≠ 0 → y ∈ L) → (∀ y ∈ L, g y ≠ 0 → y ∈ K) → sumT K g = sumT L g := by
  induction K with
  | nil => intro L g _ _ _ h2; rw [sumT_nil, sumT_zero L g fun y hy => by
      rcases Nat.eq_zero_or_pos (g y) with h | h
      · exact h
      · exact absurd (h2 y hy (by omega)) (by simp)]
  | cons x K ih =>
    intro L g hK hL h1 h2
    rw [List.nodup_cons] at hK
    rw [sumT_cons]
    by_cases hx : x ∈ L
    · rw [sumT_erase L x hx g, ih (L.erase x) g hK.2 (hL.erase x)]
      · intro y hy hg
        have hne : y ≠ x := fun e => hK.1 (e ▸ hy)
        exact (List.mem_erase_of_ne hne).2 (h1 y (List.mem_cons_of_mem _ hy) hg)
      · intro y hy hg
        have hy2 := (hL.mem_erase_iff).1 hy
        rcases List.mem_cons.1 (h2 y hy2.2 hg) with e | h
        · exact absurd e hy2.1
        · exact h
    · have hz : g x = 0 := by
        rcases Nat.eq_zero_or_pos (g x) with h | h
        · exact h
        · exact absurd (h1 x (List.mem_cons_self ..) (by omega)) hx
      rw [hz, Nat.zero_add, ih L g hK.2 hL (fun y hy hg => h1 y (List.mem_cons_of_mem _ hy) hg)]
      intro y hy hg
      rcases List.mem_cons.1 (h2 y hy hg) with e | h
      · rw [e] at hy; exact absurd hy hx
      · exact h
def surK (a b : List It) : List Tg := uniq (tkeys a ++ tkeys b)
def sur (a b : List It) : Nat := sumT (surK a b) (dif a b)
theorem dif_in (a b : List It) (y : Tg) (h : dif a b y ≠ 0) : y ∈ surK a b := by
  unfold surK; rw [mem_uniq, List.mem_append]
  unfold dif cntN at h
  by_cases h1 : y ∈ tkeys a
  · exact .inl h1
  · by_cases h2 : y ∈ tkeys b
    · exact .inr h2
    · rw [List.count_eq_zero_of_not_mem h1, List.count_eq_zero_of_not_mem h2] at h; exact absurd rfl h
theorem sur_any (K : List Tg) (a b : List It) (hK : K.Nodup) (h : ∀ y, dif a b y ≠ 0 → y ∈ K) : sumT K (dif a b) = sur a b :=
  sumT_any K _ _ hK (nodup_uniq _) (fun y _ hg => dif_in a b y hg) (fun y _ hg => h y hg)
theorem sumT_congr (K : List Tg) (g f : Tg → Nat) (h : ∀ y ∈ K, g y = f y) : sumT K g = sumT K f := by unfold sumT; rw [List.map_congr_left h]
theorem sumT_add (K : List Tg) (g f : Tg → Nat) : sumT K (fun y => g y + f y) = sumT K g + sumT K f := by
  induction K with
  | nil => rfl
  | cons x K ih => rw [sumT_cons, sumT_cons, sumT_cons, ih]; omega
theorem sumT_mono (K : List Tg) (g f : Tg → Nat) (h : ∀ y, g y ≤ f y) : sumT K g ≤ sumT K f := by
  induction K with
  | nil => exact Nat.le_refl _
  | cons x K ih => rw [sumT_cons, sumT_cons]; have := h x; omega
theorem sur_comm (a b : List It) : sur a b = sur b a := by
  have h : ∀ y, dif a b y = dif b a y := fun y => by unfold dif; omega
  rw [← sur_any (surK a b) b a (nodup_uniq _) (fun y hy => dif_in a b y (by rw [h]; exact hy))]
  exact sumT_congr _ _ _ fun y _ => h y
theorem sur_tri (a b c : List It) : sur a c ≤ sur a b + sur b c := by
  have hK := nodup_uniq (surK a c ++ surK a b ++ surK b c)
  have hin : ∀ y, y ∈ uniq (surK a c ++ surK a b ++ surK b c) ↔ (y ∈ surK a c ∨ y ∈ surK a b) ∨ y ∈ surK b c := fun y => by rw [mem_uniq, List.mem_append, List.mem_append]
  rw [← sur_any _ a c hK fun y hy => (hin y).2 (.inl (.inl (dif_in a c y hy))), ← sur_any _ a b hK fun y hy => (hin y).2 (.inl (.inr (dif_in a b y hy))), ← sur_any _ b c hK fun y hy => (hin y).2 (.inr (dif_in b c y hy)), ← sumT_add]
  exact sumT_mono _ _ _ fun y => by unfold dif; omega
theorem sur_self (a : List It) : sur a a = 0 := sumT_zero _ _ fun y _ => by unfold dif; omega
theorem sur_dif (a b c d : List It) (h : ∀ y, dif a b y = dif c d y) : sur a b = sur c d := by
  rw [← sur_any (surK a b) c d (nodup_uniq _) (fun y hy => dif_in a b y (by rw [h]; exact hy))]
  exact sumT_congr _ _ _ fun y _ => h y
theorem sur_front (c a b : List It) : sur (c ++ a) (c ++ b) = sur a b := sur_dif _ _ _ _ fun y => by unfold dif; rw [cntN_append, cntN_append]; omega
theorem sur_back (c a b : List It) : sur (a ++ c) (b ++ c) = sur a b := sur_dif _ _ _ _ fun y => by unfold dif; rw [cntN_append, cntN_append]; omega
theorem tkeys_smL {a b : List It} (h : smL a b = true) : tkeys a = tkeys b := by
  induction a generalizing b with
  | nil => cases b with
    | nil => rfl
    | cons y b => cases h
  | cons x a ih => cases b with
    | nil => cases h
    | cons y b =>
      rw [smL, Bool.and_eq_true] at h
      have e := (sm_iff _ _).1 h.1
      have i := ih h.2
      rw [show x :: a = [x] ++ a from rfl, show y :: b = [y] ++ b from rfl, tkeys_append, tkeys_append, i]
      cases q : isT x.k
      · rw [tkeys_none x q, tkeys_none y (by rw [← e.1]; exact q)]
      · rw [tkeys_one x q, tkeys_one y (by rw [← e.1]; exact q)]
        unfold tkey; rw [e.1, e.2]
theorem sur_smL {a b : List It} (h : smL a b = true) : sur a b = 0 := sumT_zero _ _ fun y _ => by unfold dif cntN; rw [tkeys_smL h]; omega
theorem uniq_len (l : List Tg) : (uniq l).length ≤ l.length := by
  induction l with
  | nil => exact Nat.le_refl _
  | cons x l ih => rw [uniq]; split
                   · rw [List.length_cons]; omega
                   · rw [List.length_cons, List.length_cons]; omega
/-- The distance. -/
def dis (a b : List It) : Nat := dst a b + 2 * sur a b
theorem dis_comm (a b : List It) : dis a b = dis b a := by unfold dis; rw [dst_comm, sur_comm]
theorem dis_tri (a b c : List It) : dis a c ≤ dis a b + dis b c := by unfold dis; have := dst_tri a b c; have := sur_tri a b c; omega
theorem dis_self (a : List It) : dis a a = 0 := by unfold dis; rw [dst_self, sur_self]
theorem dis_front (c a b : List It) : dis (c ++ a) (c ++ b) = dis a b := by unfold dis; rw [dst_front, sur_front]
theorem dis_back (c a b : List It) : dis (a ++ c) (b ++ c) = dis a b := by unfold dis; rw [dst_back, sur_back]
theorem dis_zero {a b : List It} (ha : kindV a) (hb : kindV b) : dis a b = 0 ↔ smL a b = true := by
  unfold dis
  constructor
  · intro h; exact (dst_zero ha hb).1 (by omega)
  · intro h; rw [(dst_zero ha hb).2 h, sur_smL h]
/-- What the map of the counts says, when A and B are counted. -/
def gM (A B : List It) (y : Tg) : Option Int := if y ∈ tkeys A ∨ y ∈ tkeys B then some ((cntN A y : Int) - (cntN B y : Int)) else none
def numT : Option Int → Int
  | some n => n
  | none => 0
theorem gM_num (A B : List It) (y : Tg) : numT (gM A B y) = (cntN A y : Int) - (cntN B y : Int) := by
  unfold gM
  split
  · rfl
  · rename_i h
    have h1 : y ∉ tkeys A := fun c => h (.inl c)
    have h2 : y ∉ tkeys B := fun c => h (.inr c)
    unfold cntN; rw [List.count_eq_zero_of_not_mem h1, List.count_eq_zero_of_not_mem h2]; rfl
theorem gM_A (A B : List It) (x : It) (h : isT x.k = true) : ∀ y, (if y = tkey x then some (numT (gM A B (tkey x)) + 1) else gM A B y) = gM (A ++ [x]) B y := fun y => by
  have ht : tkeys (A ++ [x]) = tkeys A ++ [tkey x] := by rw [tkeys_append, tkeys_one x h]
  by_cases e : y = tkey x
  · subst e
    rw [if_pos rfl, gM_num]
    unfold gM cntN; rw [ht, if_pos (.inl (by simp)), List.count_append, List.count_singleton_self]
    congr 1; omega
  · rw [if_neg e]
    unfold gM cntN; rw [ht, List.count_append, List.count_eq_zero_of_not_mem (show y ∉ [tkey x] by simp [e]), Nat.add_zero]
    have : (y ∈ tkeys A ++ [tkey x] ∨ y ∈ tkeys B) ↔ (y ∈ tkeys A ∨ y ∈ tkeys B) := by simp [e]
    simp only [this]
theorem gM_A0 (A B : List It) (x : It) (h : isT x.k = false) : gM (A ++ [x]) B = gM A B := by
  funext y; unfold gM cntN; rw [tkeys_append, tkeys_none x h, List.append_nil]
theorem gM_B (A B : List It) (x : It) (h : isT x.k = true) : ∀ y, (if y = tkey x then some (numT (gM A B (tkey x)) + -1) else gM A B y) = gM A (B ++ [x]) y := fun y => by
  have ht : tkeys (B ++ [x]) = tkeys B ++ [tkey x] := by rw [tkeys_append, tkeys_one x h]
  by_cases e : y = tkey x
  · subst e
    rw [if_pos rfl, gM_num]
    unfold gM cntN; rw [ht, if_pos (.inr (by simp)), List.count_append, List.count_singleton_self]
    congr 1; omega
  · rw [if_neg e]
    unfold gM cntN; rw [ht, List.count_append, List.count_eq_zero_of_not_mem (show y ∉ [tkey x] by simp [e]), Nat.add_zero]
    have : (y ∈ tkeys A ∨ y ∈ tkeys B ++ [tkey x]) ↔ (y ∈ tkeys A ∨ y ∈ tkeys B) := by simp [e]
    simp only [this]
theorem gM_B0 (A B : List It) (x : It) (h : isT x.k = false) : gM A (B ++ [x]) = gM A B := by
  funext y; unfold gM cntN; rw [tkeys_append, tkeys_none x h, List.append_nil]
end Go.Proofs.YthfgpagmepdblaaGreat
