/- The canonical script of two halves. Scripts as lists of edits; contract of appendInsertions. Contract of with. Contract of appendOne. Contract of appendScript. Contract of Align. What Price answers, as a function. Contract of the reference's SameEdits, where both scripts are the same. Contract of the reference's times. The reference's surplus: the sum over first occurrences. Contract of the reference's surplus. Contract of the reference's Cost. Tables of numbers: a slice of rows, each in a block of its own. Contract of the reference's table. Contract of the reference's Distance. Contract of the reference's Align. Score: totals, percentages, allowed distances. Score: the reference's Percent, Allowed, Context, the fixed example, the laws' lists. Score: the fixed example; Context. -/
import Derived.Test.YtpkipdiecnokhaaDtA
import Derived.Test.YtpkipdiecnokhaaDtD
import Derived.Test.YtpkipdiecnokhaaDtK
import Derived.Deep.Upon
import Derived.Test.YtpkipdiecnokhaaDtC
import Derived.Test.YtpkipdiecnokhaaDtB
namespace Go.Proofs.Ytpkipdiecnokhaa
open Go.ChangeShapes Go.WideShapes Go.ChangeAt Go.RowKit
set_option linter.unusedVariables false
set_option linter.unusedSimpArgs false
set_option maxRecDepth 100000

inductive Pth : List Mv → List It → List It → Nat → Prop
  | nil : Pth [] [] [] 0
  | X (x : It) {p : List Mv} {a b : List It} {n : Nat} : Pth p a b n → Pth (.X :: p) (x :: a) b (stp x + n)
  | I (y : It) {p : List Mv} {a b : List It} {n : Nat} : Pth p a b n → Pth (.I :: p) a (y :: b) (stp y + n)
  | P {x y : It} {p : List Mv} {a b : List It} {n : Nat} : okP x y = true → Pth p a b n → Pth (.P :: p) (x :: a) (y :: b) (cst x y + n)
theorem Pth.al {p : List Mv} {a b : List It} {n : Nat} (h : Pth p a b n) : Al a b n := by
  induction h with
  | nil => exact .nil
  | X x _ ih => exact .del x ih
  | I y _ ih => exact .ins y ih
  | P hok _ ih => exact .pair hok ih
theorem Al.app {a1 b1 a2 b2 : List It} {n m : Nat} (h : Al a1 b1 n) (k : Al a2 b2 m) : Al (a1 ++ a2) (b1 ++ b2) (n + m) := by
  induction h with
  | nil => rw [Nat.zero_add]; exact k
  | del x _ ih => rw [Nat.add_assoc]; exact .del x ih
  | ins y _ ih => rw [Nat.add_assoc]; exact .ins y ih
  | pair hok _ ih => rw [Nat.add_assoc]; exact .pair hok ih
theorem dst_app (a1 b1 a2 b2 : List It) : dst (a1 ++ a2) (b1 ++ b2) ≤ dst a1 b1 + dst a2 b2 := dst_al ((al_dst a1 b1).app (al_dst a2 b2))
theorem mv_ok {x y : It} {a b : List It} (h : mv x a y b = .P) : okP x y = true ∧ cst x y + dst a b = dst (x :: a) (y :: b) := by
  unfold mv at h
  split at h
  · assumption
  · split at h <;> cases h
theorem mv_x {x y : It} {a b : List It} (h : mv x a y b = .X) : ¬ (okP x y = true ∧ cst x y + dst a b = dst (x :: a) (y :: b)) ∧ stp x + dst a (y :: b) = dst (x :: a) (y :: b) := by
  unfold mv at h
  split at h
  · cases h
  · rename_i h1
    split at h
    · rename_i h2; exact ⟨h1, h2⟩
    · cases h
theorem mv_i {x y : It} {a b : List It} (h : mv x a y b = .I) : (¬ (okP x y = true ∧ cst x y + dst a b = dst (x :: a) (y :: b)) ∧ ¬ stp x + dst a (y :: b) = dst (x :: a) (y :: b)) ∧ stp y + dst (x :: a) b = dst (x :: a) (y :: b) := by
  unfold mv at h
  split at h
  · cases h
  · rename_i h1
    split at h
    · cases h
    · rename_i h2
      refine ⟨⟨h1, h2⟩, ?_⟩
      cases hq : okP x y with
      | false => have := dst_no a b hq; omega
      | true =>
        have := dst_ok a b hq
        have h3 : ¬ cst x y + dst a b = dst (x :: a) (y :: b) := fun c => h1 ⟨hq, c⟩
        omega
theorem can_nil (b : List It) : can [] b = b.map fun _ => .I := rfl
theorem can_end (x : It) (a : List It) : can (x :: a) [] = .X :: can a [] := rfl
theorem can_cons (x y : It) (a b : List It) : can (x :: a) (y :: b) = match mv x a y b with | .P => .P :: can a b | .X => .X :: can a (y :: b) | .I => .I :: can (x :: a) b := rfl
theorem pth_ins (b : List It) : Pth (can [] b) [] b (stL b) := by
  induction b with
  | nil => exact .nil
  | cons y b ih => exact .I y ih
theorem can_pth (a : List It) : ∀ b, Pth (can a b) a b (dst a b) := by
  induction a with
  | nil => exact pth_ins
  | cons x a ih =>
    intro b
    induction b with
    | nil => exact .X x (ih [])
    | cons y b ihb =>
      rw [can_cons]
      cases h : mv x a y b with
      | P => have e := mv_ok h; rw [← e.2]; exact .P e.1 (ih b)
      | X => have e := mv_x h; rw [← e.2]; exact .X x (ih (y :: b))
      | I => have e := mv_i h; rw [← e.2]; exact .I y ihb
theorem pth_split {p1 : List Mv} {a1 b1 : List It} {n1 : Nat} (h : Pth p1 a1 b1 n1) : ∀ {p2 : List Mv} {a2 b2 : List It} {N : Nat}, Pth (p1 ++ p2) (a1 ++ a2) (b1 ++ b2) N → ∃ n2, Pth p2 a2 b2 n2 ∧ N = n1 + n2 := by
  induction h with
  | nil => intro p2 a2 b2 N k; exact ⟨N, k, by omega⟩
  | @X x p a b n h ih =>
    intro p2 a2 b2 N k
    generalize hp : Mv.X :: p ++ p2 = pp at k
    generalize ha : x :: a ++ a2 = aa at k
    generalize hbb : b ++ b2 = bb at k
    cases k with
    | X z k => injection hp with _ hp; injection ha with e1 e2; subst e1; subst hp; subst e2; subst hbb; obtain ⟨n2, k2, e⟩ := ih k; exact ⟨n2, k2, by omega⟩
    | nil => cases hp
    | I => cases hp
    | P => cases hp
  | @I y p a b n h ih =>
    intro p2 a2 b2 N k
    generalize hp : Mv.I :: p ++ p2 = pp at k
    generalize hb : y :: b ++ b2 = bb at k
    generalize haa : a ++ a2 = aa at k
    cases k with
    | I z k => injection hp with _ hp; injection hb with e1 e2; subst e1; subst hp; subst e2; subst haa; obtain ⟨n2, k2, e⟩ := ih k; exact ⟨n2, k2, by omega⟩
    | nil => cases hp
    | X => cases hp
    | P => cases hp
  | @P x y p a b n hok h ih =>
    intro p2 a2 b2 N k
    generalize hp : Mv.P :: p ++ p2 = pp at k
    generalize ha : x :: a ++ a2 = aa at k
    generalize hb : y :: b ++ b2 = bb at k
    cases k with
    | P hok2 k => injection hp with _ hp; injection ha with e1 e2; subst e1; subst e2; injection hb with e1 e2; subst e1; subst hp; subst e2; obtain ⟨n2, k2, e⟩ := ih k; exact ⟨n2, k2, by omega⟩
    | nil => cases hp
    | X => cases hp
    | I => cases hp
theorem pth_unique {p : List Mv} {a b : List It} {n m : Nat} (h : Pth p a b n) (k : Pth p a b m) : n = m := by
  have k2 : Pth (p ++ []) (a ++ []) (b ++ []) m := by simpa using k
  obtain ⟨n2, k3, e⟩ := pth_split h k2
  cases k3; omega
/-- A beginning of a canonical script is canonical for what it treats, and so is the rest. -/
theorem can_pre {p1 : List Mv} {a1 b1 : List It} {n1 : Nat} (h : Pth p1 a1 b1 n1) : ∀ (p2 : List Mv) (a2 b2 : List It), can (a1 ++ a2) (b1 ++ b2) = p1 ++ p2 → can a1 b1 = p1 ∧ p2 = can a2 b2 ∧ n1 = dst a1 b1 ∧ dst (a1 ++ a2) (b1 ++ b2) = dst a1 b1 + dst a2 b2 := by
  induction h with
  | nil => intro p2 a2 b2 e; exact ⟨rfl, e.symm, rfl, by show dst a2 b2 = 0 + dst a2 b2; omega⟩
  | @X x p a b n h ih =>
    intro p2 a2 b2 e
    have hT := can_pth (x :: a ++ a2) (b ++ b2)
    rw [e] at hT
    have key : can (a ++ a2) (b ++ b2) = p ++ p2 ∧ ∀ y b', b = y :: b' → mv x (a ++ a2) y (b' ++ b2) = .X := by
      cases hb : b ++ b2 with
      | nil =>
        rw [hb] at e
        rw [List.cons_append, can_end] at e
        injection e with _ e
        exact ⟨e, fun y b' hh => by rw [hh] at hb; cases hb⟩
      | cons y B =>
        rw [hb] at e
        rw [List.cons_append, can_cons] at e
        cases hm : mv x (a ++ a2) y B with
        | P => rw [hm] at e; cases e
        | I => rw [hm] at e; cases e
        | X =>
          rw [hm] at e
          injection e with _ e
          refine ⟨e, fun y' b' hh => ?_⟩
          rw [hh] at hb; injection hb with e1 e2; subst e1; subst e2; exact hm
    obtain ⟨i1, i2, i3, i4⟩ := ih p2 a2 b2 key.1
    obtain ⟨n2, k2, eN⟩ := pth_split (Pth.X x h) hT
    rw [i2] at k2
    have e2 := pth_unique k2 (can_pth a2 b2)
    have s1 := dst_app (x :: a) b a2 b2
    have s2 := dst_al (Pth.X x h).al
    have hn : stp x + n = dst (x :: a) b := by omega
    refine ⟨?_, i2, hn, by omega⟩
    cases b with
    | nil => rw [can_end, i1]
    | cons y b' =>
      have hx := mv_x (key.2 y b' rfl)
      rw [can_cons]
      have : mv x a y b' = .X := by
        unfold mv
        rw [if_neg, if_pos]
        · omega
        · rintro ⟨c1, c2⟩
          have s3 := dst_app a b' a2 b2
          have s4 := dst_pair c1 (a ++ a2) (b' ++ b2)
          refine hx.1 ⟨c1, ?_⟩
          have hTT : dst (x :: (a ++ a2)) (y :: (b' ++ b2)) = dst (x :: a ++ a2) (y :: b' ++ b2) := rfl
          omega
      rw [this, i1]
  | @I y p a b n h ih =>
    intro p2 a2 b2 e
    have hT := can_pth (a ++ a2) (y :: b ++ b2)
    rw [e] at hT
    have key : can (a ++ a2) (b ++ b2) = p ++ p2 ∧ ∀ x a', a = x :: a' → mv x (a' ++ a2) y (b ++ b2) = .I := by
      cases hb : a ++ a2 with
      | nil =>
        rw [hb] at e
        rw [List.cons_append, can_nil, List.map_cons] at e
        injection e with _ e
        exact ⟨e, fun y b' hh => by rw [hh] at hb; cases hb⟩
      | cons x A =>
        rw [hb] at e
        rw [List.cons_append, can_cons] at e
        cases hm : mv x A y (b ++ b2) with
        | P => rw [hm] at e; cases e
        | X => rw [hm] at e; cases e
        | I =>
          rw [hm] at e
          injection e with _ e
          refine ⟨e, fun x' a' hh => ?_⟩
          rw [hh] at hb; injection hb with e1 e2; subst e1; subst e2; exact hm
    obtain ⟨i1, i2, i3, i4⟩ := ih p2 a2 b2 key.1
    obtain ⟨n2, k2, eN⟩ := pth_split (Pth.I y h) hT
    rw [i2] at k2
    have e2 := pth_unique k2 (can_pth a2 b2)
    have s1 := dst_app a (y :: b) a2 b2
    have s2 := dst_al (Pth.I y h).al
    have hn : stp y + n = dst a (y :: b) := by omega
    refine ⟨?_, i2, hn, by omega⟩
    cases a with
    | nil => rw [can_nil, List.map_cons]; rw [can_nil] at i1; rw [i1]
    | cons x a' =>
      have hx := mv_i (key.2 x a' rfl)
      rw [can_cons]
      have hTT : dst (x :: (a' ++ a2)) (y :: (b ++ b2)) = dst (x :: a' ++ a2) (y :: b ++ b2) := rfl
      have : mv x a' y b = .I := by
        unfold mv
        rw [if_neg, if_neg]
        · intro c
          have s3 := dst_app a' (y :: b) a2 b2
          have s4 := dst_del x (a' ++ a2) (y :: (b ++ b2))
          have s5 : dst (a' ++ a2) (y :: b ++ b2) = dst (a' ++ a2) (y :: (b ++ b2)) := rfl
          refine hx.1.2 ?_
          omega
        · rintro ⟨c1, c2⟩
          have s3 := dst_app a' b a2 b2
          have s4 := dst_pair c1 (a' ++ a2) (b ++ b2)
          refine hx.1.1 ⟨c1, ?_⟩
          omega
      rw [this, i1]
  | @P x y p a b n hok h ih =>
    intro p2 a2 b2 e
    have hT := can_pth (x :: a ++ a2) (y :: b ++ b2)
    rw [e] at hT
    have key : can (a ++ a2) (b ++ b2) = p ++ p2 := by
      rw [List.cons_append, List.cons_append, can_cons] at e
      cases hm : mv x (a ++ a2) y (b ++ b2) with
      | X => rw [hm] at e; cases e
      | I => rw [hm] at e; cases e
      | P => rw [hm] at e; injection e with _ e
    obtain ⟨i1, i2, i3, i4⟩ := ih p2 a2 b2 key
    obtain ⟨n2, k2, eN⟩ := pth_split (Pth.P hok h) hT
    rw [i2] at k2
    have e2 := pth_unique k2 (can_pth a2 b2)
    have s1 := dst_app (x :: a) (y :: b) a2 b2
    have s2 := dst_al (Pth.P hok h).al
    have hn : cst x y + n = dst (x :: a) (y :: b) := by omega
    refine ⟨?_, i2, hn, by omega⟩
    rw [can_cons]
    have : mv x a y b = .P := by
      unfold mv; rw [if_pos ⟨hok, by omega⟩]
    rw [this, i1]
theorem crs_pth (m : Nat) : ∀ (a b : List It), m ≤ a.length → crs m a b ≤ b.length ∧ ∃ p1 p2 n1, can a b = p1 ++ p2 ∧ Pth p1 (a.take m) (b.take (crs m a b)) n1 := by
  induction m with
  | zero => intro a b _; exact ⟨Nat.zero_le _, [], can a b, 0, rfl, .nil⟩
  | succ m ih =>
    intro a b hm
    cases a with
    | nil => cases hm
    | cons x a =>
      have hm2 : m ≤ a.length := by simpa using hm
      induction b with
      | nil =>
        obtain ⟨h1, p1, p2, n1, e, h2⟩ := ih a [] hm2
        refine ⟨h1, .X :: p1, p2, stp x + n1, by rw [can_end, e]; rfl, ?_⟩
        show Pth _ (x :: a.take m) (([] : List It).take (crs m a [])) _
        exact .X x h2
      | cons y b ihb =>
        show rowX x a (crs m a) (y :: b) ≤ _ ∧ ∃ p1 p2 n1, _ ∧ Pth p1 (x :: a.take m) ((y :: b).take (rowX x a (crs m a) (y :: b))) n1
        rw [rowX, can_cons]
        cases hq : mv x a y b with
        | P =>
          obtain ⟨h1, p1, p2, n1, e, h2⟩ := ih a b hm2
          refine ⟨by simp only [List.length_cons]; omega, .P :: p1, p2, cst x y + n1, by simp only []; rw [e]; rfl, ?_⟩
          show Pth _ _ ((y :: b).take (1 + crs m a b)) _
          rw [Nat.add_comm 1, List.take_succ_cons]
          exact .P (mv_ok hq).1 h2
        | X =>
          obtain ⟨h1, p1, p2, n1, e, h2⟩ := ih a (y :: b) hm2
          exact ⟨h1, .X :: p1, p2, stp x + n1, by simp only []; rw [e]; rfl, .X x h2⟩
        | I =>
          obtain ⟨h1, p1, p2, n1, e, h2⟩ := ihb
          have h1' : rowX x a (crs m a) b ≤ b.length := h1
          refine ⟨by simp only [List.length_cons]; omega, .I :: p1, p2, stp y + n1, by simp only []; rw [e]; rfl, ?_⟩
          show Pth _ _ ((y :: b).take (1 + rowX x a (crs m a) b)) _
          rw [Nat.add_comm 1, List.take_succ_cons]
          exact .I y h2
theorem can_split (m : Nat) (a b : List It) (hm : m ≤ a.length) : crs m a b ≤ b.length ∧ can a b = can (a.take m) (b.take (crs m a b)) ++ can (a.drop m) (b.drop (crs m a b)) := by
  obtain ⟨h1, p1, p2, n1, e, h2⟩ := crs_pth m a b hm
  refine ⟨h1, ?_⟩
  have e2 : can (a.take m ++ a.drop m) (b.take (crs m a b) ++ b.drop (crs m a b)) = p1 ++ p2 := by rw [List.take_append_drop, List.take_append_drop]; exact e
  obtain ⟨i1, i2, _, _⟩ := can_pre h2 p2 _ _ e2
  rw [e, i1, i2]
theorem can_one (x : It) (b : List It) : (crs 1 [x] b = 0 → can [x] b = .X :: can [] b) ∧ ∀ k, crs 1 [x] b = k + 1 → k < b.length ∧ can [x] b = (can [] (b.take k)) ++ .P :: can [] (b.drop (k + 1)) := by
  induction b with
  | nil => exact ⟨fun _ => rfl, fun k h => by cases h⟩
  | cons y b ih =>
    have ec : crs 1 [x] (y :: b) = match mv x [] y b with | .P => 1 + crs 0 [] b | .X => crs 0 [] (y :: b) | .I => 1 + crs 1 [x] b := rfl
    rw [ec, can_cons]
    cases hq : mv x [] y b with
    | P =>
      refine ⟨fun h => by simp only [] at h; omega, fun k h => ?_⟩
      obtain rfl : k = 0 := by simp only [crs] at h; omega
      exact ⟨by simp, rfl⟩
    | X => exact ⟨fun _ => rfl, fun k h => by cases h⟩
    | I =>
      refine ⟨fun h => by simp only [] at h; omega, fun k h => ?_⟩
      have h' : crs 1 [x] b = k := by simp only [] at h; omega
      cases k with
      | zero =>
        exfalso
        have e1 := ih.1 h'
        have c1 := can_pth [x] b
        rw [e1] at c1
        have c2 := pth_unique c1 (Pth.X x (pth_ins b))
        have hi := mv_i hq
        refine hi.1.2 ?_
        rw [← hi.2, c2, dst_nil, stL]; omega
      | succ k =>
        obtain ⟨h1, h2⟩ := ih.2 k h'
        refine ⟨by simp; omega, ?_⟩
        simp only []
        rw [h2, List.take_succ_cons, List.drop_succ_cons]; rfl
end Go.Proofs.Ytpkipdiecnokhaa
namespace Go.Proofs.Ytpkipdiecnokhaa
open Go.ChangeShapes Go.WideShapes Go.ChangeAt Go.RowKit Go.Sort
set_option linter.unusedVariables false
set_option linter.unusedSimpArgs false
set_option maxRecDepth 100000

structure Ed where
  a : Int
  b : Int
  deriving DecidableEq
def eenc (x : Ed) : List Value := [.int .i64 x.a, .int .i64 x.b]
theorem infoE : (Try.prog.info? 45).map (fun i => (i.zero, i.size, i.bytes)) = some (some (.agg #[.int .i64 0, .int .i64 0]), 2, 16) := by kernel_rfl
theorem eE : El 43 45 2 16 (.agg #[.int .i64 0, .int .i64 0]) eenc :=
  ⟨Try.underlying43, info_parts infoE, rfl, by omega, fun _ => rfl, fun x u hu => by simp [eenc] at hu; rcases hu with rfl | rfl <;> rfl⟩
abbrev OwnE := OwnL 45 2 eenc
def edM : List Mv → Nat → Nat → List Ed
  | [], _, _ => []
  | .P :: p, i, k => ⟨i, k⟩ :: edM p (i + 1) (k + 1)
  | .X :: p, i, k => ⟨i, -1⟩ :: edM p (i + 1) k
  | .I :: p, i, k => ⟨-1, k⟩ :: edM p i (k + 1)
theorem edM_app {p : List Mv} {a b : List It} {n : Nat} (h : Pth p a b n) (q : List Mv) : ∀ i k, edM (p ++ q) i k = edM p i k ++ edM q (i + a.length) (k + b.length) := by
  induction h with
  | nil => intro i k; rfl
  | X x _ ih => intro i k; rw [List.cons_append, edM, edM, ih, List.cons_append, List.length_cons, Nat.add_right_comm, Nat.add_assoc]
  | I y _ ih => intro i k; rw [List.cons_append, edM, edM, ih, List.cons_append, List.length_cons, Nat.add_right_comm k, Nat.add_assoc k]
  | P _ _ ih => intro i k; rw [List.cons_append, edM, edM, ih, List.cons_append, List.length_cons, List.length_cons, Nat.add_right_comm i, Nat.add_assoc i, Nat.add_right_comm k, Nat.add_assoc k]
/-- The script of Align from a to b, whose first tokens have the indexes i and k. -/
def scr (i k : Nat) (a b : List It) : List Ed := edM (can a b) i k
theorem scr_split (i k m : Nat) (a b : List It) (hm : m ≤ a.length) : scr i k a b = scr i k (a.take m) (b.take (crs m a b)) ++ scr (i + m) (k + crs m a b) (a.drop m) (b.drop (crs m a b)) := by
  obtain ⟨h1, h2⟩ := can_split m a b hm
  unfold scr
  conv => lhs; rw [h2]
  rw [edM_app (can_pth (a.take m) (b.take (crs m a b)))]
  simp [Nat.min_eq_left hm, Nat.min_eq_left h1]
theorem scr_ins_next (i k : Nat) (b : List It) (j : Nat) (hj : j < b.length) : scr i k [] (b.take (j + 1)) = scr i k [] (b.take j) ++ [⟨-1, ((k + j : Nat) : Int)⟩] := by
  unfold scr
  have e : can [] (b.take (j + 1)) = can [] (b.take j) ++ [.I] := by rw [can_nil, can_nil, List.take_succ_eq_append_getElem hj, List.map_append]; rfl
  rw [e, edM_app (pth_ins (b.take j))]
  simp [edM, Nat.min_eq_left (Nat.le_of_lt hj)]
theorem scr_len (i k : Nat) (a b : List It) : (scr i k a b).length ≤ a.length + b.length := by
  unfold scr
  have : ∀ {p : List Mv} {a b : List It} {n : Nat}, Pth p a b n → ∀ i k, (edM p i k).length ≤ a.length + b.length := by
    intro p a b n h
    induction h with
    | nil => intro i k; exact Nat.zero_le _
    | X x _ ih => intro i k; have := ih (i + 1) k; rw [edM, List.length_cons, List.length_cons]; omega
    | I y _ ih => intro i k; have := ih i (k + 1); rw [edM, List.length_cons, List.length_cons]; omega
    | P _ _ ih => intro i k; have := ih (i + 1) (k + 1); rw [edM, List.length_cons, List.length_cons, List.length_cons]; omega
  exact this (can_pth a b) i k
theorem scr_one0 (i k : Nat) (x : It) (b : List It) (h : crs 1 [x] b = 0) : scr i k [x] b = ⟨i, -1⟩ :: scr (i + 1) k [] b := by unfold scr; rw [(can_one x b).1 h]; rfl
theorem scr_ins_any (i j k : Nat) (b : List It) : scr i k [] b = scr j k [] b := by
  unfold scr
  rw [can_nil]
  induction b generalizing k with
  | nil => rfl
  | cons y b ih => rw [List.map_cons, edM, edM, ih]
theorem scr_one1 (i k : Nat) (x : It) (b : List It) (c : Nat) (h : crs 1 [x] b = c + 1) : c < b.length ∧ scr i k [x] b = scr i k [] (b.take c) ++ ⟨i, ((k + c : Nat) : Int)⟩ :: scr (i + 1) (k + c + 1) [] (b.drop (c + 1)) := by
  obtain ⟨h1, h2⟩ := (can_one x b).2 c h
  refine ⟨h1, ?_⟩
  unfold scr
  rw [h2, edM_app (pth_ins (b.take c))]
  simp [edM, Nat.min_eq_left (Nat.le_of_lt h1)]
theorem parts_take (l : List It) : ∀ i m, parts i (l.take m) = (parts i l).take m := by
  induction l with
  | nil => intro i m; simp [parts]
  | cons x l ih =>
    intro i m
    cases m with
    | zero => rfl
    | succ m => rw [List.take_succ_cons, parts, parts, List.take_succ_cons, ih]
theorem parts_drop (l : List It) : ∀ i m, m ≤ l.length → parts (i + m) (l.drop m) = (parts i l).drop m := by
  induction l with
  | nil => intro i m h; simp [parts]
  | cons x l ih =>
    intro i m h
    cases m with
    | zero => rfl
    | succ m => rw [List.drop_succ_cons, parts, List.drop_succ_cons, ← ih (i + 1) m (by simpa using h), show i + 1 + m = i + (m + 1) by omega]
theorem Rw.take {W : World} {p : Option Addr} {l : List Pa} (h : Pas W p l) (m : Nat) : Pas W p (l.take m) := fun h0 => by
  obtain ⟨b, o, e, hl, hc⟩ := h (by simp at h0; omega)
  exact ⟨b, o, e, hl, fun i hi => by rw [List.getElem_take]; exact hc i (by simp at hi; omega)⟩
theorem Rw.drop {W : World} {p q : Option Addr} {l : List Pa} (h : Pas W p l) (m : Nat) (hq : ∀ b o, p = some ⟨b, o, none⟩ → m < l.length → q = some ⟨b, o + m * 7, none⟩) : Pas W q (l.drop m) := fun h0 => by
  have hm : m < l.length := by simp at h0; omega
  obtain ⟨b, o, e, hl, hc⟩ := h (by omega)
  refine ⟨b, o + m * 7, hq b o e hm, hl, fun i hi => ?_⟩
  rw [List.getElem_drop]
  have := hc (m + i) (by simp at hi; omega)
  rwa [show o + (m + i) * 7 = o + m * 7 + i * 7 by omega] at this
/-- Parts that lie below the script's base. -/
structure PB (base : Nat) (W : World) (p : Option Addr) (c : Nat) (i : Nat) (l : List It) : Prop where
  ps : Pas W p (parts i l)
  lo : 0 < l.length → ∀ x, p = some x → x.block < base
  le : l.length ≤ c
  cm : c ≤ maxLen
theorem PB.call {base : Nat} {W W' : World} {p : Option Addr} {c i : Nat} {l : List It} (h : PB base W p c i l) (hb : Below base W W') : PB base W' p c i l :=
  ⟨fun h0 => (h.ps.keep hb.size (fun a ha hlt => hb.block _ (h.lo (by rw [parts_len] at h0; exact h0) a ha))) h0, h.lo, h.le, h.cm⟩
theorem PB.take {base : Nat} {W : World} {p : Option Addr} {c i : Nat} {l : List It} (h : PB base W p c i l) (m : Nat) : PB base W p c i (l.take m) :=
  ⟨by rw [parts_take]; exact h.ps.take m, fun h0 => h.lo (by simp at h0; omega), by have := h.le; simp; omega, h.cm⟩
theorem PB.drop {base : Nat} {W : World} {p : Option Addr} {c i : Nat} {l : List It} (h : PB base W p c i l) (m : Nat) (hm : m ≤ l.length) : PB base W (if c = m then p else Option.map (fun x => x.add (m * 7)) p) (c - m) (i + m) (l.drop m) := by
  have hq : ∀ b o, p = some ⟨b, o, none⟩ → m < l.length → (if c = m then p else Option.map (fun x => x.add (m * 7)) p) = some ⟨b, o + m * 7, none⟩ := fun b o e hlt => by
    have := h.le
    rw [if_neg (by omega), e]
    simp [Addr.add]
  refine ⟨by rw [parts_drop l i m hm]; exact h.ps.drop m (fun b o e hlt => hq b o e (by rw [parts_len] at hlt; exact hlt)), fun h0 x hx => ?_, by have := h.le; simp; omega, by have := h.cm; omega⟩
  have h0' : 0 < l.length := by simp at h0; omega
  obtain ⟨b, o, e, hl, _⟩ := h.ps (by rw [parts_len]; exact h0')
  rw [hq b o e (by simp at h0; omega)] at hx
  injection hx with hx; subst hx
  have := h.lo h0' ⟨b, o, none⟩ e
  exact this
set_option maxHeartbeats 3200000 in
theorem appins_any (base : Nat) (S : List Ed) (v : Value) (pb : Option Addr) (cb ib : Nat) (b : List It) (w : World) (hO : OwnE base S v w) (hbase : base ≤ w.heap.size) (hB : PB base w pb cb ib b) (hn : S.length + b.length ≤ 1000000) :
    Calls Try.prog 70 #[v, .slice pb b.length cb] w fun e w' => ∃ v', e = .returned v' ∧ OwnE base (S ++ scr 0 ib [] b) v' w' ∧ Below base w w' := by
  have cm := hB.cm; have cl := hB.le
  unfold maxLen at cm
  go_enter Try.func70, Try.ntmps70
  go_wp2_with fail
  go_loopw [0, 8] (fun v i wr => ∃ k : Nat, k ≤ b.length ∧ i = .int .i64 k ∧ OwnE base (S ++ scr 0 ib [] (b.take k)) v wr ∧ Below base w wr) (fun _ i _ => b.length - (intOf i).toNat)
  case atStart => exact ⟨0, Nat.zero_le _, rfl, by simpa [scr, can_nil, edM] using hO, Below.refl _ _⟩
  case round =>
    obtain ⟨k, hk, rfl, hOr, hBr⟩ := hrel
    by_cases hlt : k < b.length
    · have hP := hB.call hBr
      obtain ⟨bp, op, rfl, hbp, hps⟩ := hP.ps (by rw [parts_len]; omega)
      have q3 := (hps k (by rw [parts_len]; omega)) 3
      rw [parts_at b ib k hlt] at q3
      have c3 := q3 _ rfl
      have hnx := scr_ins_next 0 ib b k hlt
      have hln := scr_len 0 ib [] (b.take k)
      have hls : (S ++ scr 0 ib [] (b.take k)).length ≤ 1000000 := by
        rw [List.length_append]; simp at hln; omega
      have hls2 : (S ++ scr 0 ib [] (b.take k)).length + 1 ≤ 1000001 := by omega
      have c3' : wr.cell? ⟨bp, op + k * 7 + 3, none⟩ = some (.int .i64 ((ib + k : Nat) : Int)) := c3
      have hO2 : OwnE base (S ++ scr 0 ib [] (b.take k)) u0 (wr.alloc (.cells #[.int .i64 (-1), .int .i64 ((ib + k : Nat) : Int)] 45)) := World.ownsRow.alloc hOr _
      have hnew := heap_alloc_new wr (.cells #[.int .i64 (-1), .int .i64 ((ib + k : Nat) : Int)] 45)
      have hB2 : Below base w (wr.alloc (.cells #[.int .i64 (-1), .int .i64 ((ib + k : Nat) : Int)] 45)) := hBr.alloc (Nat.le_trans hbase hBr.size) _
      have hsz2 : base ≤ (wr.alloc (.cells #[.int .i64 (-1), .int .i64 ((ib + k : Nat) : Int)] 45)).heap.size := Nat.le_trans hbase hB2.size
      have hnx2 : (S ++ scr 0 ib [] (b.take k)) ++ [⟨-1, ((ib + k : Nat) : Int)⟩] = S ++ scr 0 ib [] (b.take (k + 1)) := by rw [hnx, List.append_assoc]
      have HNX := Lib.hid hnx2; have HB2 := Lib.hid hB2
      generalize S ++ scr 0 ib [] (b.take k) = T at *
      clear hnx hln q3 c3 hps hbp hP hOr hBr hnx2 hB2
      have i3 : (k : Int) < (b.length : Int) := by omega
      go_wp2_with (at_builtin; refine wpl_append2 eE _ rfl _ _ rfl base hsz2 T u0 rfl hO2 ⟨-1, ((ib + k : Nat) : Int)⟩ wr.heap.size _ rfl hnew rfl (by omega) (by unfold maxLen; omega) ?_; intro v' w5 hO5 hb5)
      rw [HNX.out] at hO5
      go_roundw
      case rel => exact ⟨k + 1, hlt, by go_num, hO5, HB2.out.trans hb5⟩
      case measure => simp [intOf] <;> omega
    · obtain rfl : k = b.length := by omega
      rw [List.take_length] at hOr
      go_wp2_with fail
      go_ret
      exact ⟨_, rfl, hOr, hBr⟩
end Go.Proofs.Ytpkipdiecnokhaa
namespace Go.Proofs.Ytpkipdiecnokhaa
open Go.ChangeShapes Go.WideShapes Go.ChangeAt Go.RowKit Go.Sort
set_option linter.unusedVariables false
set_option linter.unusedSimpArgs false
set_option maxRecDepth 100000

theorem its_row (W : World) (p : Option Addr) (l : List It) (h : Its W p l) (k : Nat) (hk : k ≤ l.length) (q : Option Addr) (hq : ∀ a, p = some a → k < l.length → q = some (a.add (k * 3))) : Its W q (l.drop k) := fun h0 => by
  have hk2 : k < l.length := by simp at h0; omega
  obtain ⟨a, ha, hlt, hc⟩ := h (by omega)
  refine ⟨a.add (k * 3), hq a ha hk2, by rw [add_block]; exact hlt, fun i hi => ?_⟩
  have hi2 : k + i < l.length := by simp at hi; omega
  obtain ⟨c0, c1, c2⟩ := hc (k + i) hi2
  have add_add : ∀ n m : Nat, (a.add n).add m = a.add (n + m) := fun n m => by
    unfold Addr.add
    by_cases h1 : n = 0
    · rw [if_pos h1, h1]; simp
    · rw [if_neg h1]
      by_cases h2 : m = 0
      · rw [if_pos h2, h2, if_neg (by omega)]; rfl
      · rw [if_neg h2, if_neg (by omega)]; simp; omega
  rw [List.getElem_drop]
  rw [add_add, add_add, add_add, show k * 3 + i * 3 = (k + i) * 3 by omega, show k * 3 + (i * 3 + 1) = (k + i) * 3 + 1 by omega, show k * 3 + (i * 3 + 2) = (k + i) * 3 + 2 by omega]
  exact ⟨c0, c1, c2⟩
theorem step_of_wp {P : Program} {ops : Array Oper} {o : Oper} {a : Act} {w : World} {K : Act → World → Prop} {Q : Exit → Act → World → Prop} {E : Prop} (hgd : o.guard = none) (h : Oper.wp P o a w K Q) : if Region.wanted o (yielded ops a.tmps) = true then Oper.wp P o a w K Q else E := by
  have hw : Region.wanted o (yielded ops a.tmps) = true := by simp [Region.wanted, hgd]
  rw [if_pos hw]; exact h
def Held (b : Nat) (t : It) (W : World) : Prop := W.cell? ⟨b, 0, none⟩ = some (.int .i64 t.k) ∧ W.cell? ⟨b, 1, none⟩ = some (.string t.t) ∧ W.cell? ⟨b, 2, none⟩ = some (.int .i64 t.id)
theorem held_call {b : Nat} {t : It} {W W' : World} (h : W.cell? ⟨b, 0, none⟩ = some (.int .i64 t.k) ∧ W.cell? ⟨b, 1, none⟩ = some (.string t.t) ∧ W.cell? ⟨b, 2, none⟩ = some (.int .i64 t.id)) (hb : Below W.heap.size W W') : W'.cell? ⟨b, 0, none⟩ = some (.int .i64 t.k) ∧ W'.cell? ⟨b, 1, none⟩ = some (.string t.t) ∧ W'.cell? ⟨b, 2, none⟩ = some (.int .i64 t.id) := by
  have hl := block_lt_of_cell h.1
  exact ⟨by rw [hb.cell (p := ⟨b, 0, none⟩) hl]; exact h.1, by rw [hb.cell (p := ⟨b, 1, none⟩) hl]; exact h.2.1, by rw [hb.cell (p := ⟨b, 2, none⟩) hl]; exact h.2.2⟩
theorem held_grow {b g : Nat} {t : It} {W W' : World} (h : W.cell? ⟨b, 0, none⟩ = some (.int .i64 t.k) ∧ W.cell? ⟨b, 1, none⟩ = some (.string t.t) ∧ W.cell? ⟨b, 2, none⟩ = some (.int .i64 t.id)) (hg : W.grownBy W' (some g)) (hne : b ≠ g) : W'.cell? ⟨b, 0, none⟩ = some (.int .i64 t.k) ∧ W'.cell? ⟨b, 1, none⟩ = some (.string t.t) ∧ W'.cell? ⟨b, 2, none⟩ = some (.int .i64 t.id) := by
  have hb : W'.heap[b]? = W.heap[b]? := hg.block b (block_lt_of_cell h.1) (fun e => hne (by injection e))
  exact ⟨by rw [World.cell?_of_block (w := W) (a := ⟨b, 0, none⟩) hb]; exact h.1, by rw [World.cell?_of_block (w := W) (a := ⟨b, 1, none⟩) hb]; exact h.2.1, by rw [World.cell?_of_block (w := W) (a := ⟨b, 2, none⟩) hb]; exact h.2.2⟩
theorem own_lit {W : World} {g base : Nat} {cur : Array Value} {L : List It} (h : W.heap[g]? = some (.cells cur 57 (0, 0))) (hb : base ≤ g) (hc : cur.toList = icells L) (hl : L.length ≤ maxLen) : OwnT base L (.slice (some ⟨g, 0, none⟩) L.length L.length) W := by
  have e : cellsOf ienc L = icells L := rfl
  have hs : cur.size = L.length * 3 := by have := congrArg List.length hc; rw [icells_length] at this; simpa using this
  refine ⟨by rw [cellsOf_len eT], .inr ⟨g, L.length, cur, rfl, hb, h, Nat.le_refl _, hl, hs, ?_⟩⟩
  rw [hc, e, List.take_of_length_le (by rw [icells_length]; omega)]
theorem its_takeD {W : World} {p : Option Addr} {l : List It} (h : Its W p l) (k : Nat) : Its W p (l.take k) := fun h0 => by
  have h1 : 0 < l.length := by simp at h0; omega
  obtain ⟨a, ha, hlt, hc⟩ := h h1
  refine ⟨a, ha, hlt, fun i hi => ?_⟩
  rw [List.getElem_take]; exact hc i (by simp at hi; omega)
end Go.Proofs.Ytpkipdiecnokhaa
namespace Go.Proofs.Ytpkipdiecnokhaa
open Go.ChangeShapes Go.WideShapes Go.ChangeAt Go.RowKit Go.Sort
set_option linter.unusedVariables false
set_option linter.unusedSimpArgs false
set_option maxRecDepth 100000

theorem append_one {α : Type} {t e size bytes : Nat} {z : Value} {enc : α → List Value} (E : El t e size bytes z enc) (base : Nat) (w : World) (L : List α) (v : Value) (h : OwnL e size enc base L v w) (hbase : base ≤ w.heap.size) (y : α) (B : Nat) (cs : Array Value)
    (hB : w.heap[B]? = some (.cells cs e (0, 0))) (hcs : cs.toList = enc y) (hb1 : 1 ≤ bytes) (hl : (L.length + 1) * bytes ≤ 140737488355328) :
    ∃ v' w', (Builtin.append_ #[t, t] t #[v, .slice (some ⟨B, 0, none⟩) 1 1]).run Try.prog w = .ok v' w' ∧ OwnL e size enc base (L ++ [y]) v' w' ∧ Below base w w' := by
  obtain ⟨i, hi, hz0, hz1, hz2⟩ := E.hi
  obtain ⟨g, cap, w', hr, h2, h3, h4, h5⟩ := run_append_lies (P := Try.prog) w t t base e i z size bytes E.ht hi hz0 hz1 hz2 E.hzs E.hsz v L.length (cellsOf enc L) h ⟨B, 0, none⟩ 1 1 (enc y) (by rw [E.len]; omega) (by rw [← hcs]; exact World.news_of_block hB) (E.one y) (by omega) (by have := Nat.le_mul_of_pos_right (L.length + 1) hb1; unfold maxLen; omega) hl hbase _ rfl
  refine ⟨_, w', hr, ?_, (Below.refl base w).grown h3 hbase (fun k hk => (h.lt k hk).1)⟩
  unfold OwnL; rw [List.length_append, show cellsOf enc (L ++ [y]) = cellsOf enc L ++ enc y from by unfold cellsOf; rw [List.flatMap_append]; simp]; exact h2
theorem PB.own {base : Nat} {W W' : World} {p : Option Addr} {c i : Nat} {l : List It} (h : PB base W p c i l) (hb : Below W.heap.size W W') : PB base W' p c i l :=
  ⟨h.ps.call hb, h.lo, h.le, h.cm⟩
set_option maxHeartbeats 3200000 in
theorem appone_any (base : Nat) (S : List Ed) (v : Value) (pa pb : Option Addr) (ca cb ia ib : Nat) (x : It) (b : List It) (w : World) (hO : OwnE base S v w) (hbase : base ≤ w.heap.size) (hA : PB base w pa ca ia [x]) (hB : PB base w pb cb ib b) (lb : b.length ≤ 100000) (hn : S.length + b.length + 1 ≤ 1000000) :
    Calls Try.prog 71 #[v, .slice pa 1 ca, .slice pb b.length cb] w fun e w' => ∃ v', e = .returned v' ∧ OwnE base (S ++ scr ia ib [x] b) v' w' ∧ Below base w w' := by
  have h1 : Calls Try.prog 53 #[.slice pa 1 ca, .slice pb b.length cb, .int .i64 1] w fun e w' => e = .returned (.agg #[.int .i64 (dst [x] b), .int .i64 (crs 1 [x] b)]) ∧ Below w.heap.size w w' :=
    firstcell_any [x] b ia ib pa pb ca cb 1 w hA.ps hB.ps hA.le hB.le hA.cm hB.cm (by simp) lb (by simp)
  have hac := hA.cm; have hbc := hB.cm; have hbl := hB.le
  have ha1 : 1 ≤ ca := hA.le
  unfold maxLen at hac hbc
  have hdl := dst_le [x] b
  rw [List.length_singleton] at hdl
  have hdl2 : dst [x] b ≤ 800000 := by omega
  generalize dst [x] b = D at *
  clear hdl
  rcases hC : crs 1 [x] b with _ | c
  · have hs := scr_one0 ia ib x b hC
    rw [hC] at h1
    go_enter Try.func71, Try.ntmps71
    go_wp2_with fail
    refine h1.mono ?_; rintro e w1 ⟨rfl, hb1⟩
    have hf := fld1 D 0 w1
    have hb1' := hb1.mono hbase
    have hO1 := OwnL.call hO hb1
    have hA1 := hA.own hb1
    have hB1 := hB.own hb1
    clear hA hB hO h1
    obtain ⟨ba, oa, rfl, hba, hpa⟩ := hA1.ps (by rw [parts_len]; simp)
    have q3 := (hpa 0 (by rw [parts_len]; simp)) 3
    have c3 : w1.cell? ⟨ba, oa + 3, none⟩ = some (.int .i64 (ia : Nat)) := by have := q3 _ rfl; simpa [parts] using this
    clear hpa q3 hA1
    have hsz1 : base ≤ w1.heap.size := Nat.le_trans hbase hb1'.size
    have E0 := heap_alloc_new w1 (.cells #[.int .i64 (ia : Nat), .int .i64 (-1)] 45)
    have hO2 : OwnE base S v (w1.alloc (.cells #[.int .i64 (ia : Nat), .int .i64 (-1)] 45)) := World.ownsRow.alloc hO1 _
    have hb2 := (Below.refl w1.heap.size w1).alloc (Nat.le_refl _) (.cells #[.int .i64 (ia : Nat), .int .i64 (-1)] 45)
    have hB2 := hB1.own hb2
    have hsz2 : base ≤ (w1.alloc (.cells #[.int .i64 (ia : Nat), .int .i64 (-1)] 45)).heap.size := Nat.le_trans hsz1 hb2.size
    have hBb := hb1'.trans (hb2.mono hsz1)
    have HX := Lib.hid (And.intro hB2 (And.intro hBb (And.intro hs hsz2)))
    clear hB2 hB1 hBb hs hb2 hb1' hb1 hO1 hC
    go_wp2_with (at_builtin; refine wpl_append2 eE _ rfl _ _ rfl base hsz2 S v rfl hO2 ⟨(ia : Nat), -1⟩ w1.heap.size _ rfl E0 rfl (by omega) (by unfold maxLen; omega) ?_; intro v' w5 hO5 hb5)
    obtain ⟨hB2, hBb, hs, _⟩ := HX.out
    refine (appins_any base _ _ pb cb ib b w5 hO5 (Nat.le_trans hsz2 hb5.size) (hB2.call hb5) (by simp; omega)).mono ?_; rintro e w6 ⟨v6, rfl, hO6, hb6⟩
    go_wp2_with fail
    go_ret
    exact ⟨_, rfl, by rw [hs, scr_ins_any (ia + 1) 0 ib b, ← List.singleton_append, ← List.append_assoc]; exact hO6, (hBb.trans hb5).trans hb6⟩
  · obtain ⟨hcl, hs⟩ := scr_one1 ia ib x b c hC
    have i0 : ¬ (((c + 1 : Nat) : Int) = 0) := by omega
    have i1 : ((c + 1 : Nat) : Int) - 1 = (c : Int) := by omega
    have hcc : ib + c + 1 = ib + (c + 1) := by omega
    rw [hC] at h1
    rw [hcc] at hs
    have hC1 : 0 < c + 1 ∧ c < c + 1 ∧ c + 1 ≤ b.length := by omega
    generalize c + 1 = C at *
    obtain ⟨hC0, hCc, hCl⟩ := hC1
    have cw : IntKind.i64.wrap (c : Int) = (c : Int) := IntWalk.i64_in _ ⟨by omega, by omega⟩
    have j0 : (C : Int) ≤ (b.length : Int) := by omega
    have j1 : (C : Int) ≤ (cb : Int) := by omega
    have j2 : (c : Int) ≤ (cb : Int) := by omega
    have j3 : (c : Int) < (b.length : Int) := by omega
    have hln := scr_len 0 ib [] (b.take c)
    have hln2 : (scr 0 ib [] (b.take c)).length ≤ c := by simp at hln; omega
    have htl : (b.take c).length = c := by simp; omega
    have hdr : (b.drop C).length = b.length - C := by simp
    have hs' : S ++ scr ia ib [x] b = (S ++ scr 0 ib [] (b.take c)) ++ [⟨ia, ((ib + c : Nat) : Int)⟩] ++ scr 0 (ib + C) [] (b.drop C) := by
      rw [hs, scr_ins_any ia 0, scr_ins_any (ia + 1) 0]; simp
    have HS := Lib.hid hs'; have HDR := Lib.hid hdr; have HN2 := Lib.hid hln2
    clear hs hs' hdr hln hln2 hC hcc
    go_enter Try.func71, Try.ntmps71
    go_wp2_with fail
    refine h1.mono ?_; rintro e w1 ⟨rfl, hb1⟩
    have hf := fld1 D C w1
    have hb1' := hb1.mono hbase
    have hO1 := OwnL.call hO hb1
    have hA1 := hA.own hb1
    have hB1 := hB.own hb1
    have h2 := appins_any base S v pb cb ib (b.take c) w1 hO1 (Nat.le_trans hbase hb1'.size) (hB1.take c) (by rw [htl]; omega)
    rw [htl] at h2
    have H2 := Lib.hid h2
    have HB := Lib.hid hb1'
    have HP := Lib.hid hB
    clear hA hB hO h1 h2 hb1 hb1' hO1 htl
    go_wp2_with fail
    refine H2.out.mono ?_; rintro e w5 ⟨v5, rfl, hO5, hb5⟩
    have hB5 := HB.out.trans hb5
    have hA5 := hA1.call hb5
    have hP5 := hB1.call hb5
    clear H2 HB hA1 hB1 hb5
    obtain ⟨ba, oa, rfl, _, hpa⟩ := hA5.ps (by rw [parts_len]; simp)
    have hba : ba < base := hA5.lo (by simp) _ rfl
    obtain ⟨bb, ob, rfl, _, hpb⟩ := hP5.ps (by rw [parts_len]; omega)
    have hbb : bb < base := hP5.lo (by omega) _ rfl
    have c3 : w5.cell? ⟨ba, oa + 3, none⟩ = some (.int .i64 (ia : Nat)) := by have := (hpa 0 (by rw [parts_len]; simp)) 3 _ rfl; simpa [parts] using this
    have d3 : w5.cell? ⟨bb, ob + c * 7 + 3, none⟩ = some (.int .i64 ((ib + c : Nat) : Int)) := by
      have q3 := (hpb c (by rw [parts_len]; omega)) 3
      rw [parts_at b ib c (by omega)] at q3
      exact q3 _ rfl
    have hS6 := And.intro c3 d3
    clear hpa hpb hA5 hP5 c3 d3
    go_wp2_with fail
    refine wp_region_held_drew (S := fun W => W.cell? ⟨ba, oa + 3, none⟩ = some (.int .i64 (ia : Nat)) ∧ W.cell? ⟨bb, ob + c * 7 + 3, none⟩ = some (.int .i64 ((ib + c : Nat) : Int))) (by kernel_rfl) hS6 (fun hHeld => ?_)
    have hB6 := hB5.drew; have hO6 : OwnE base _ v5 w5.drew := hO5
    have hsz6 : base ≤ w5.drew.heap.size := Nat.le_trans hbase hB5.size
    generalize w5.drew = v0 at *
    refine wpAnyH_take (i := 0) (v := ?_) rfl (by kernel_rfl) (by kernel_rfl) (by kernel_rfl) (fun _ _ _ h => h) (Or.inl ⟨by rfl, ?_⟩) hHeld ?_
    rotate_left
    · (intro w hSw; skip; go_simp; try with_reducible rfl)
    try simp only [Act.put, List.getElem_toArray, List.getElem_cons_zero, List.getElem_cons_succ, List.setIfInBounds_toArray, List.set_cons_zero, List.set_cons_succ]
    refine wpAnyH_take (i := 1) (v := ?_) rfl (by kernel_rfl) (by kernel_rfl) (by kernel_rfl) (fun _ _ _ h => h) (Or.inl ⟨by rfl, ?_⟩) hHeld ?_
    rotate_left
    · (intro w hSw; skip; go_simp; try with_reducible rfl)
    try simp only [Act.put, List.getElem_toArray, List.getElem_cons_zero, List.getElem_cons_succ, List.setIfInBounds_toArray, List.set_cons_zero, List.set_cons_succ]
    refine wpAnyH_take (i := 2) (v := ?_) rfl (by kernel_rfl) (by kernel_rfl) (by kernel_rfl) (fun _ _ _ h => h) (Or.inl ⟨by rfl, ?_⟩) hHeld ?_
    rotate_left
    · (intro w hSw; skip; go_simp; try with_reducible rfl)
    try simp only [Act.put, List.getElem_toArray, List.getElem_cons_zero, List.getElem_cons_succ, List.setIfInBounds_toArray, List.set_cons_zero, List.set_cons_succ]
    refine wpAnyH_take (i := 3) (v := ?_) rfl (by kernel_rfl) (by kernel_rfl) (by kernel_rfl) (fun _ _ _ h => h) (Or.inl ⟨by rfl, ?_⟩) hHeld ?_
    rotate_left
    · (intro w hSw; skip; go_simp; try with_reducible rfl)
    try simp only [Act.put, List.getElem_toArray, List.getElem_cons_zero, List.getElem_cons_succ, List.setIfInBounds_toArray, List.set_cons_zero, List.set_cons_succ]
    refine wpAnyH_take (i := 4) (v := ?_) rfl (by kernel_rfl) (by kernel_rfl) (by kernel_rfl) (fun _ _ _ h => h) (Or.inl ⟨by rfl, ?_⟩) hHeld ?_
    rotate_left
    · (intro w hSw; obtain ⟨c0, c1⟩ := hSw; go_simp; try with_reducible rfl)
    try simp only [Act.put, List.getElem_toArray, List.getElem_cons_zero, List.getElem_cons_succ, List.setIfInBounds_toArray, List.set_cons_zero, List.set_cons_succ]
    refine wpAnyH_take (i := 5) (v := ?_) rfl (by kernel_rfl) (by kernel_rfl) (by kernel_rfl) (fun _ _ _ h => h) (Or.inl ⟨by rfl, ?_⟩) hHeld ?_
    rotate_left
    · (intro w hSw; skip; go_simp; try with_reducible rfl)
    try simp only [Act.put, List.getElem_toArray, List.getElem_cons_zero, List.getElem_cons_succ, List.setIfInBounds_toArray, List.set_cons_zero, List.set_cons_succ]
    refine wpAnyH_take (i := 6) (v := ?_) rfl (by kernel_rfl) (by kernel_rfl) (by kernel_rfl) (fun _ _ _ h => h) (Or.inl ⟨by rfl, ?_⟩) hHeld ?_
    rotate_left
    · (intro w hSw; skip; go_simp; try with_reducible rfl)
    try simp only [Act.put, List.getElem_toArray, List.getElem_cons_zero, List.getElem_cons_succ, List.setIfInBounds_toArray, List.set_cons_zero, List.set_cons_succ]
    refine wpAnyH_take (i := 7) (v := ?_) rfl (by kernel_rfl) (by kernel_rfl) (by kernel_rfl) (fun _ _ _ h => h) (Or.inl ⟨by rfl, ?_⟩) hHeld ?_
    rotate_left
    · (intro w hSw; skip; go_simp; try with_reducible rfl)
    try simp only [Act.put, List.getElem_toArray, List.getElem_cons_zero, List.getElem_cons_succ, List.setIfInBounds_toArray, List.set_cons_zero, List.set_cons_succ]
    refine wpAnyH_take (i := 8) (v := ?_) rfl (by kernel_rfl) (by kernel_rfl) (by kernel_rfl) (fun _ _ _ h => h) (Or.inl ⟨by rfl, ?_⟩) hHeld ?_
    rotate_left
    · (intro w hSw; skip; go_simp; try with_reducible rfl)
    try simp only [Act.put, List.getElem_toArray, List.getElem_cons_zero, List.getElem_cons_succ, List.setIfInBounds_toArray, List.set_cons_zero, List.set_cons_succ]
    refine wpAnyH_take (i := 9) (v := ?_) rfl (by kernel_rfl) (by kernel_rfl) (by kernel_rfl) (fun _ _ _ h => h) (Or.inl ⟨by rfl, ?_⟩) hHeld ?_
    rotate_left
    · (intro w hSw; skip; go_simp; try with_reducible rfl)
    try simp only [Act.put, List.getElem_toArray, List.getElem_cons_zero, List.getElem_cons_succ, List.setIfInBounds_toArray, List.set_cons_zero, List.set_cons_succ]
    refine wpAnyH_take (i := 10) (v := ?_) rfl (by kernel_rfl) (by kernel_rfl) (by kernel_rfl) (fun _ _ _ h => h) (Or.inl ⟨by rfl, ?_⟩) hHeld ?_
    rotate_left
    · (intro w hSw; obtain ⟨c0, c1⟩ := hSw; go_simp; try with_reducible rfl)
    try simp only [Act.put, List.getElem_toArray, List.getElem_cons_zero, List.getElem_cons_succ, List.setIfInBounds_toArray, List.set_cons_zero, List.set_cons_succ]
    refine wpAnyH_take (i := 11) (v := ?_) rfl (by kernel_rfl) (by kernel_rfl) (by kernel_rfl) (fun _ _ _ h => h) (Or.inl ⟨by rfl, ?_⟩) hHeld ?_
    rotate_left
    · (intro w hSw; skip; go_simp; try with_reducible rfl)
    try simp only [Act.put, List.getElem_toArray, List.getElem_cons_zero, List.getElem_cons_succ, List.setIfInBounds_toArray, List.set_cons_zero, List.set_cons_succ]
    refine wpAnyH_ready (rs := [12]) (by kernel_rfl) (by simp) ?_
    refine AllReadyH.cons rfl (fun K hK => ?_) AllReadyH.nil
    have hO7 : OwnE base _ v5 (v0.alloc (.cells #[.int .i64 (ia : Nat), .int .i64 ((ib : Int) + (c : Int))] 45)) := World.ownsRow.alloc hO6 _
    have hnew := heap_alloc_new v0 (.cells #[.int .i64 (ia : Nat), .int .i64 ((ib : Int) + (c : Int))] 45)
    have hb7 := (Below.refl v0.heap.size v0).alloc (Nat.le_refl _) (.cells #[.int .i64 (ia : Nat), .int .i64 ((ib : Int) + (c : Int))] 45)
    have hB7 := hB6.alloc hsz6 (.cells #[.int .i64 (ia : Nat), .int .i64 ((ib : Int) + (c : Int))] 45)
    have hH7 : _ ∧ _ := ⟨(hb7.cell (p := ⟨ba, oa + 3, none⟩) (block_lt_of_cell hHeld.1)).trans hHeld.1, (hb7.cell (p := ⟨bb, ob + c * 7 + 3, none⟩) (block_lt_of_cell hHeld.2)).trans hHeld.2⟩
    have hsz7 := Nat.le_trans hsz6 hb7.size
    have HX := Lib.hid (And.intro hO7 (And.intro hnew (And.intro hB7 hsz7)))
    clear hO6 hO7 hnew hb7 hB6 hB7 hsz6 hsz7
    go_simp
    refine hK.out _ _ hH7 (fun hHeld => ?_)
    clear hK K hH7
    try simp only [Act.put, List.getElem_toArray, List.getElem_cons_zero, List.getElem_cons_succ, List.setIfInBounds_toArray, List.set_cons_zero, List.set_cons_succ]
    obtain ⟨hO7, hnew, hB7, hsz7⟩ := HX.out
    clear HX
    generalize v0.alloc (.cells #[.int .i64 (ia : Nat), .int .i64 ((ib : Int) + (c : Int))] 45) = v1 at *
    generalize v0.heap.size = g0 at *
    refine wpAnyH_ready (rs := [13]) (by kernel_rfl) (by simp) ?_
    refine AllReadyH.cons rfl (fun K hK => ?_) AllReadyH.nil
    obtain ⟨v8, w8, hrun, hO8, hg8⟩ := append_one eE base v1 _ v5 hO7 hsz7 ⟨(ia : Nat), (ib : Int) + (c : Int)⟩ g0 _ hnew rfl (by omega) (by rw [List.length_append]; have := HN2.out; omega)
    have hH8 : _ ∧ _ := ⟨(World.cell?_of_block (w := v1) (a := ⟨ba, oa + 3, none⟩) (hg8.block _ (by omega))).trans hHeld.1, (World.cell?_of_block (w := v1) (a := ⟨bb, ob + c * 7 + 3, none⟩) (hg8.block _ (by omega))).trans hHeld.2⟩
    have hB8 := hB7.trans hg8
    refine step_of_wp rfl ?_
    refine Lib.wp_append_run v1 _ _ 43 43 rfl _ _ rfl rfl v8 w8 hrun ?_
    refine hK.out _ _ hH8 (fun hHeld => ?_)
    clear hK K hH8 hO7 hnew hB7 hsz7 hg8 hrun
    try simp only [Act.put, List.getElem_toArray, List.getElem_cons_zero, List.getElem_cons_succ, List.setIfInBounds_toArray, List.set_cons_zero, List.set_cons_succ]
    refine wpAnyH_take (i := 14) (v := ?_) rfl (by kernel_rfl) (by kernel_rfl) (by kernel_rfl) (fun _ _ _ h => h) (Or.inl ⟨by rfl, ?_⟩) hHeld ?_
    rotate_left
    · (intro w hSw; skip; go_simp; try with_reducible rfl)
    try simp only [Act.put, List.getElem_toArray, List.getElem_cons_zero, List.getElem_cons_succ, List.setIfInBounds_toArray, List.set_cons_zero, List.set_cons_succ]
    refine wpAnyH_done (by kernel_rfl) ?_ _
    have hsz8 := Nat.le_trans hbase hB8.size
    have H9 : ∀ q d, PB base w q d (ib + C) (b.drop C) → Calls Try.prog 70 #[v8, .slice q (b.length - C) d] w8 fun e w' => ∃ v', e = .returned v' ∧ OwnE base (S ++ scr ia ib [x] b) v' w' ∧ Below base w w' := fun q d hq => by
      have h := appins_any base _ v8 q d (ib + C) (b.drop C) w8 hO8 hsz8 (hq.call hB8) (by rw [List.length_append, List.length_append, HDR.out]; have := HN2.out; simp; omega)
      rw [HDR.out] at h
      refine h.mono ?_; rintro e w9 ⟨v9, rfl, hO9, hb9⟩
      refine ⟨_, rfl, ?_, hB8.trans hb9⟩
      rw [HS.out, scr_ins_any 0 0, Int.natCast_add]; exact hO9
    have HH := Lib.hid H9
    clear H9 hO8 hB8 hHeld hsz8
    go_wp2_with fail
    · have hq : PB base w (some ⟨bb, ob, none⟩) 0 (ib + C) (b.drop C) := by have := HP.out.drop C hCl; rw [if_pos (by assumption), show cb - C = 0 by omega] at this; exact this
      refine (HH.out _ _ hq).mono ?_; rintro e w9 ⟨v9, rfl, hO9, hB9⟩
      go_wp2_with fail
      go_ret
      exact ⟨_, rfl, hO9, hB9⟩
    · have hq : PB base w (some ⟨bb, ob + C * 7, none⟩) (cb - C) (ib + C) (b.drop C) := by
        have := HP.out.drop C hCl; rw [if_neg (by assumption)] at this
        have hz : ¬ (C * 7 = 0) := by omega
        simpa only [Addr.add, Option.map_some, if_neg hz] using this
      refine (HH.out _ _ hq).mono ?_; rintro e w9 ⟨v9, rfl, hO9, hB9⟩
      go_wp2_with fail
      go_ret
      exact ⟨_, rfl, hO9, hB9⟩
end Go.Proofs.Ytpkipdiecnokhaa
namespace Go.Proofs.Ytpkipdiecnokhaa
open Go.ChangeShapes Go.WideShapes Go.ChangeAt Go.RowKit Go.Sort
set_option linter.unusedVariables false
set_option linter.unusedSimpArgs false
set_option maxRecDepth 100000

set_option maxHeartbeats 3200000 in
theorem appscript_any (n : Nat) : ∀ (base : Nat) (S : List Ed) (v : Value) (pa pb : Option Addr) (ca cb ia ib : Nat) (a b : List It) (w : World), a.length = n → OwnE base S v w → base ≤ w.heap.size → PB base w pa ca ia a → PB base w pb cb ib b → n ≤ 100000 → b.length ≤ 100000 → S.length + n + b.length ≤ 900000 →
    Calls Try.prog 55 #[v, .slice pa n ca, .slice pb b.length cb] w fun e w' => ∃ v', e = .returned v' ∧ OwnE base (S ++ scr ia ib a b) v' w' ∧ Below base w w' := by
  induction n using Nat.strongRecOn with
  | _ n ih =>
  intro base S v pa pb ca cb ia ib a b w hlen hO hbase hA hB la lb hn
  have hac := hA.cm; have hbc := hB.cm; have hal := hA.le; have hbl := hB.le
  rw [hlen] at hal
  unfold maxLen at hac hbc
  rcases Nat.lt_or_ge n 2 with hn2 | hn2
  · rcases Nat.lt_or_ge n 1 with hn1 | hn1
    · obtain rfl : n = 0 := by omega
      obtain rfl : a = [] := List.length_eq_zero_iff.1 hlen
      have h1 := appins_any base S v pb cb ib b w hO hbase hB (by omega)
      rw [scr_ins_any ia 0]
      go_enter Try.func55, Try.ntmps55
      go_wp2_with fail
      refine h1.mono ?_; rintro e w1 ⟨v1, rfl, hO1, hb1⟩
      go_wp2_with fail
      go_ret
      exact ⟨_, rfl, hO1, hb1⟩
    · obtain rfl : n = 1 := by omega
      obtain ⟨x, rfl⟩ := List.length_eq_one_iff.1 hlen
      have h1 := appone_any base S v pa pb ca cb ia ib x b w hO hbase hA hB lb (by omega)
      go_enter Try.func55, Try.ntmps55
      go_wp2_with fail
      refine h1.mono ?_; rintro e w1 ⟨v1, rfl, hO1, hb1⟩
      go_wp2_with fail
      go_ret
      exact ⟨_, rfl, hO1, hb1⟩
  · have i0 : ¬ ((n : Int) = 0) := by omega
    have i1 : ¬ ((n : Int) = 1) := by omega
    obtain ⟨m, hm⟩ : ∃ m, m = n / 2 := ⟨_, rfl⟩
    have im : (n : Int) / 2 = (m : Int) := by omega
    have hm1 : 1 ≤ m := by omega
    have hmn : m < n := by omega
    clear hm
    have h1 := firstcell_any a b ia ib pa pb ca cb m w hA.ps hB.ps hA.le hB.le hA.cm hB.cm (by rw [hlen]; exact la) lb (by rw [hlen]; omega)
    have hsp := scr_split ia ib m a b (by rw [hlen]; omega)
    have hcb := (can_split m a b (by rw [hlen]; omega)).1
    have hln := scr_len ia ib (a.take m) (b.take (crs m a b))
    have hta : (a.take m).length = m := by simp; omega
    have htb : (b.take (crs m a b)).length = crs m a b := by simp; omega
    have hda : (a.drop m).length = n - m := by simp; omega
    have hdb : (b.drop (crs m a b)).length = b.length - crs m a b := by simp
    rw [hta, htb] at hln
    rw [hlen] at h1
    generalize dst a b = D at *
    generalize crs m a b = C at *
    have hne : ¬ (ca = m) := by omega
    have j0 : (m : Int) ≤ (n : Int) := by omega
    have j1 : (m : Int) ≤ (ca : Int) := by omega
    have j2 : (C : Int) ≤ (b.length : Int) := by omega
    have j3 : (C : Int) ≤ (cb : Int) := by omega
    have H1 := Lib.hid h1; have HSP := Lib.hid hsp; have HL := Lib.hid (And.intro hta (And.intro htb (And.intro hda hdb)))
    have HIH := Lib.hid ih
    clear h1 hsp hta htb hda hdb ih
    go_enter Try.func55, Try.ntmps55
    go_wp2_with fail
    refine H1.out.mono ?_; rintro e w1 ⟨rfl, hb1⟩
    have hf := fld1 D C w1
    have hO1 := OwnL.call hO hb1
    have hA1 := hA.own hb1
    have hB1 := hB.own hb1
    have hBw := Lib.hid (hb1.mono hbase)
    have hsz1 := Nat.le_trans hbase hb1.size
    clear hO hA hB hb1 H1 im i0 i1
    go_wp2_with fail
    refine wp_region_quiet_tail 7 (by kernel_rfl) (by kernel_rfl) ?_
    simp only [List.take_succ_cons, List.take_zero, List.drop_succ_cons, List.drop_zero]
    repeat (go_big_quiet_step (fail))
    refine wpQuiet_nil ?_
    intro _ hw'
    obtain ⟨⟨dq, osq⟩, hw''⟩ := hw'
    subst hw''
    have hb2 := below_regrown w1 dq osq
    generalize grow (redrawn w1 dq) osq = w2 at *
    have hO2 := OwnL.call hO1 hb2
    have hA2 := hA1.own hb2
    have hB2 := hB1.own hb2
    have hBw2 := Lib.hid (hBw.out.trans (hb2.mono hsz1))
    have hsz2 := Nat.le_trans hsz1 hb2.size
    have h2 := HIH.out m hmn base S v pa pb ca cb ia ib (a.take m) (b.take C) w2 HL.out.1 hO2 hsz2 (hA2.take m) (hB2.take C) (by omega) (by rw [HL.out.2.1]; omega) (by rw [HL.out.2.1]; omega)
    rw [HL.out.2.1] at h2
    have H2 := Lib.hid h2
    clear h2 hO1 hA1 hB1 hb2 hBw hsz1 hf
    go_wp2_with fail
    refine H2.out.mono ?_; rintro e w3 ⟨v3, rfl, hO3, hb3⟩
    have hA3 := hA2.call hb3
    have hB3 := hB2.call hb3
    have hBw3 := Lib.hid (hBw2.out.trans hb3)
    have hsz3 := Nat.le_trans hsz2 hb3.size
    clear H2 hO2 hA2 hB2 hb3 hBw2 hsz2
    go_wp2_with fail
    refine wp_region_quiet_tail 7 (by kernel_rfl) (by kernel_rfl) ?_
    simp only [List.take_succ_cons, List.take_zero, List.drop_succ_cons, List.drop_zero]
    repeat (go_big_quiet_step (fail))
    have hA4 := hA3.drop m (by rw [hlen]; omega)
    have hB4 := hB3.drop C hcb
    rw [if_neg hne] at hA4
    generalize Option.map (fun x => x.add (m * 7)) pa = qa at *
    generalize (if cb = C then pb else Option.map (fun x => x.add (C * 7)) pb) = qb at *
    refine wpQuiet_nil ?_
    intro _ hw'
    obtain ⟨⟨dq, osq⟩, hw''⟩ := hw'
    subst hw''
    have hb4 := below_regrown w3 dq osq
    generalize grow (redrawn w3 dq) osq = w4 at *
    have h4 := HIH.out (n - m) (by omega) base (S ++ scr ia ib (a.take m) (b.take C)) v3 qa qb (ca - m) (cb - C) (ia + m) (ib + C) (a.drop m) (b.drop C) w4 HL.out.2.2.1 (OwnL.call hO3 hb4) (Nat.le_trans hsz3 hb4.size) (hA4.own hb4) (hB4.own hb4) (by omega) (by rw [HL.out.2.2.2]; omega) (by rw [HL.out.2.2.2, List.length_append]; omega)
    rw [HL.out.2.2.2, List.append_assoc, ← HSP.out] at h4
    have hBw4 := Lib.hid (hBw3.out.trans (hb4.mono hsz3))
    have H4 := Lib.hid h4
    clear h4 hA3 hB3 hA4 hB4 hO3 hb4 hBw3 hsz3
    go_wp2_with fail
    refine H4.out.mono ?_; rintro e w5 ⟨v5, rfl, hO5, hb5⟩
    go_wp2_with fail
    go_ret
    exact ⟨_, rfl, hO5, hBw4.out.trans hb5⟩
end Go.Proofs.Ytpkipdiecnokhaa
namespace Go.Proofs.Ytpkipdiecnokhaa
open Go.ChangeShapes Go.WideShapes Go.ChangeAt Go.RowKit Go.Sort
set_option linter.unusedVariables false
set_option linter.unusedSimpArgs false
set_option maxRecDepth 100000

set_option maxHeartbeats 3200000 in
theorem align_any (p q : Option Addr) (c d : Nat) (a b : List It) (w : World) (hA : Its w p a) (hB : Its w q b) (hc : a.length ≤ c) (hd : b.length ≤ d) (hcm : c ≤ maxLen) (hdm : d ≤ maxLen) (ha : a.length ≤ 100000) (hb : b.length ≤ 100000) (ta : txtsB a) (tb : txtsB b) :
    Calls Try.prog 34 #[.slice p a.length c, .slice q b.length d] w fun e w' => ∃ v, e = .returned v ∧ OwnE w.heap.size (scr 0 0 a b) v w' ∧ Below w.heap.size w w' := by
  have h1 := fun W h => newparts_any p c a W h hc hcm ha ta
  have h2 := fun W h => newparts_any q d b W h hd hdm hb tb
  have h3 := fun base W g1 g2 hb' hO h h' => appscript_any a.length base [] (.slice none 0 0) (some ⟨g1, 0, none⟩) (some ⟨g2, 0, none⟩) a.length b.length 0 0 a b W rfl hO hb' h h' ha hb (by simp; omega)
  have H1 := Lib.hid h1; have H2 := Lib.hid h2; have H3 := Lib.hid h3
  clear h1 h2 h3
  go_enter Try.func34, Try.ntmps34
  go_wp2_with fail
  refine (H1.out _ hA).mono ?_; rintro e w1 ⟨g1, rfl, hb1, hg1, hP1⟩
  go_wp2_with fail
  refine (H2.out _ (hB.call hb1)).mono ?_; rintro e w2 ⟨g2, rfl, hb2, hg2, hP2⟩
  have hb3 := BelowOn hb1 hb2
  have q1 : PB w2.heap.size w2 (some ⟨g1, 0, none⟩) a.length 0 a := ⟨(hP1.call hb2).rw, fun h0 x hx => by injection hx with hx; subst hx; exact Rw.blk ((hP1.call hb2).rw) (by rw [parts_len]; exact h0) _ rfl, Nat.le_refl _, by unfold maxLen; omega⟩
  have q2 : PB w2.heap.size w2 (some ⟨g2, 0, none⟩) b.length 0 b := ⟨hP2.rw, fun h0 x hx => by injection hx with hx; subst hx; exact Rw.blk hP2.rw (by rw [parts_len]; exact h0) _ rfl, Nat.le_refl _, by unfold maxLen; omega⟩
  have h3 := H3.out w2.heap.size w2 g1 g2 (Nat.le_refl _) (OwnL.nil _ _) q1 q2
  clear q1 q2 hP1 hP2
  go_wp2_with fail
  refine h3.mono ?_; rintro e w3 ⟨v3, rfl, hO3, hb4⟩
  clear h3 H1 H2 H3
  go_wp2_with fail
  go_ret
  exact ⟨_, rfl, ownsRow_base hO3 hb3.size, BelowOn hb3 hb4⟩
end Go.Proofs.Ytpkipdiecnokhaa
namespace Go.Proofs.Ytpkipdiecnokhaa
open Go.ChangeShapes Go.WideShapes Go.ChangeAt Go.RowKit Go.Sort
set_option linter.unusedVariables false
set_option linter.unusedSimpArgs false
set_option maxRecDepth 100000

abbrev Eds (W : World) (p : Option Addr) (S : List Ed) : Prop := Rw eenc 2 W p S
def prStep (a b : List It) (e : Ed) (i j u : Nat) : Option (Nat × Nat × Nat) :=
  if hA : i < a.length ∧ e.a = (i : Int) then
    if hB : j < b.length ∧ e.b = (j : Int) then
      if okP (a[i]'hA.1) (b[j]'hB.1) = true then some (i + 1, j + 1, u + cst (a[i]'hA.1) (b[j]'hB.1)) else none
    else if e.b = -1 then some (i + 1, j, u + stp (a[i]'hA.1)) else none
  else if hB : j < b.length ∧ e.b = (j : Int) then
    if e.a = -1 then some (i, j + 1, u + stp (b[j]'hB.1)) else none
  else none
def prRun (a b : List It) : List Ed → Nat → Nat → Nat → Option (Nat × Nat × Nat)
  | [], i, j, u => some (i, j, u)
  | e :: S, i, j, u => match prStep a b e i j u with
    | some (i', j', u') => prRun a b S i' j' u'
    | none => none
def prc (a b : List It) (S : List Ed) : Option Nat := match prRun a b S 0 0 0 with
  | some (i, j, u) => if i < a.length ∨ j < b.length then none else some (2 * sur a b + u)
  | none => none
def prO (a b : List It) (S : List Ed) : Nat := (prc a b S).getD 0
def prB (a b : List It) (S : List Ed) : Bool := (prc a b S).isSome
theorem prRun_drop (a b : List It) (S : List Ed) (k i j u : Nat) (h : k < S.length) : prRun a b (S.drop k) i j u = match prStep a b (S[k]'h) i j u with
    | some (i', j', u') => prRun a b (S.drop (k + 1)) i' j' u'
    | none => none := by rw [List.drop_eq_getElem_cons h]; rfl
theorem prc_none {a b : List It} {S : List Ed} (h : prRun a b S 0 0 0 = none) : prO a b S = 0 ∧ prB a b S = false := by unfold prO prB prc; rw [h]; exact ⟨rfl, rfl⟩
theorem prc_short {a b : List It} {S : List Ed} {i j u : Nat} (h : prRun a b S 0 0 0 = some (i, j, u)) (hs : i < a.length ∨ j < b.length) : prO a b S = 0 ∧ prB a b S = false := by
  unfold prO prB prc; rw [h]; simp only; rw [if_pos hs]; exact ⟨rfl, rfl⟩
theorem prc_some {a b : List It} {S : List Ed} {i j u : Nat} (h : prRun a b S 0 0 0 = some (i, j, u)) (hs : ¬ (i < a.length ∨ j < b.length)) : prO a b S = 2 * sur a b + u ∧ prB a b S = true := by
  unfold prO prB prc; rw [h]; simp only; rw [if_neg hs]; exact ⟨rfl, rfl⟩
theorem pr_pair {a b : List It} {e : Ed} {i j u : Nat} (ha : i < a.length) (ea : e.a = (i : Int)) (hb : j < b.length) (eb : e.b = (j : Int)) : prStep a b e i j u = if okP a[i] b[j] = true then some (i + 1, j + 1, u + cst a[i] b[j]) else none := by
  unfold prStep; rw [dif_pos ⟨ha, ea⟩, dif_pos ⟨hb, eb⟩]
theorem pr_del {a b : List It} {e : Ed} {i j u : Nat} (ha : i < a.length) (ea : e.a = (i : Int)) (hb : ¬ (j < b.length ∧ e.b = (j : Int))) : prStep a b e i j u = if e.b = -1 then some (i + 1, j, u + stp a[i]) else none := by
  unfold prStep; rw [dif_pos ⟨ha, ea⟩, dif_neg hb]
theorem pr_ins {a b : List It} {e : Ed} {i j u : Nat} (ha : ¬ (i < a.length ∧ e.a = (i : Int))) (hb : j < b.length) (eb : e.b = (j : Int)) : prStep a b e i j u = if e.a = -1 then some (i, j + 1, u + stp b[j]) else none := by
  unfold prStep; rw [dif_neg ha, dif_pos ⟨hb, eb⟩]
theorem pr_no {a b : List It} {e : Ed} {i j u : Nat} (ha : ¬ (i < a.length ∧ e.a = (i : Int))) (hb : ¬ (j < b.length ∧ e.b = (j : Int))) : prStep a b e i j u = none := by
  unfold prStep; rw [dif_neg ha, dif_neg hb]
theorem drop_at {α : Type} {l r : List α} {i : Nat} {x : α} (h : l.drop i = x :: r) : ∃ hi : i < l.length, l[i]'hi = x ∧ l.drop (i + 1) = r := by
  have hi : i < l.length := by
    rcases Nat.lt_or_ge i l.length with h1 | h1
    · exact h1
    · rw [List.drop_eq_nil_of_le h1] at h; cases h
  rw [List.drop_eq_getElem_cons hi] at h
  injection h with h1 h2
  exact ⟨hi, h1, h2⟩
/-- A path's script is a script, and costs what the path costs. -/
theorem prRun_path {p : List Mv} {a2 b2 : List It} {n : Nat} (h : Pth p a2 b2 n) : ∀ (a b : List It) (i j u : Nat), a.drop i = a2 → b.drop j = b2 → prRun a b (edM p i j) i j u = some (i + a2.length, j + b2.length, u + n) := by
  induction h with
  | nil => intro a b i j u _ _; rfl
  | X x _ ih =>
    intro a b i j u ha hb
    obtain ⟨hi, hx, hr⟩ := drop_at ha
    rw [edM, prRun, pr_del hi rfl (fun h => by have := h.2; simp at this), if_pos rfl]
    simp only
    rw [ih a b (i + 1) j _ hr hb, hx, List.length_cons, Nat.add_assoc u, Nat.add_assoc i, Nat.add_comm 1]
  | I y _ ih =>
    intro a b i j u ha hb
    obtain ⟨hj, hy, hr⟩ := drop_at hb
    rw [edM, prRun, pr_ins (fun h => by have := h.2; simp at this) hj rfl, if_pos rfl]
    simp only
    rw [ih a b i (j + 1) _ ha hr, hy, List.length_cons, Nat.add_assoc u, Nat.add_assoc j, Nat.add_comm 1]
  | P hok _ ih =>
    intro a b i j u ha hb
    obtain ⟨hi, hx, hr⟩ := drop_at ha
    obtain ⟨hj, hy, hs⟩ := drop_at hb
    rw [edM, prRun, pr_pair hi rfl hj rfl, hx, hy, if_pos hok]
    simp only
    rw [ih a b (i + 1) (j + 1) _ hr hs, List.length_cons, List.length_cons, Nat.add_assoc u, Nat.add_assoc i, Nat.add_assoc j, Nat.add_comm 1, Nat.add_comm 1]
theorem prc_path {p : List Mv} {a b : List It} {n : Nat} (h : Pth p a b n) : prO a b (edM p 0 0) = 2 * sur a b + n ∧ prB a b (edM p 0 0) = true := by
  have h1 := prRun_path h a b 0 0 0 rfl rfl
  have h2 := prc_some h1 (by omega)
  rw [Nat.zero_add] at h2
  exact h2
end Go.Proofs.Ytpkipdiecnokhaa
namespace Go.Proofs.Ytpkipdiecnokhaa
open Go.ChangeShapes Go.WideShapes Go.ChangeAt Go.RowKit Go.Sort
set_option linter.unusedVariables false
set_option linter.unusedSimpArgs false
set_option maxRecDepth 100000

set_option maxHeartbeats 3200000 in
theorem sameedits_any (p q : Option Addr) (c d : Nat) (S : List Ed) (w : World) (hA : Eds w p S) (hB : Eds w q S) (hc : S.length ≤ c) (hd : S.length ≤ d) (hcm : c ≤ maxLen) (hdm : d ≤ maxLen) :
    Calls Try.prog 33 #[.slice p S.length c, .slice q S.length d] w fun e w' => e = .returned (.bool true) ∧ Below w.heap.size w w' := by
  unfold maxLen at hcm hdm
  go_enter Try.func33, Try.ntmps33
  go_wp2_with fail
  go_loopw [13] (fun i wr => ∃ k : Nat, k ≤ S.length ∧ i = .int .i64 k ∧ Below w.heap.size w wr) (fun i _ => S.length - (intOf i).toNat)
  case atStart => exact ⟨0, Nat.zero_le _, rfl, Below.refl _ _⟩
  case round =>
    obtain ⟨k, hk, rfl, hB1⟩ := hrel
    by_cases hlt : k < S.length
    · obtain ⟨b1, o1, rfl, hb1, hp1⟩ := (hA.call hB1) (by omega)
      obtain ⟨b2, o2, rfl, hb2, hp2⟩ := (hB.call hB1) (by omega)
      have x0 : wr.cell? ⟨b1, o1 + k * 2, none⟩ = some (.int .i64 (S[k]).a) := (hp1 k hlt) 0 _ rfl
      have x1 : wr.cell? ⟨b1, o1 + k * 2 + 1, none⟩ = some (.int .i64 (S[k]).b) := (hp1 k hlt) 1 _ rfl
      have y0 : wr.cell? ⟨b2, o2 + k * 2, none⟩ = some (.int .i64 (S[k]).a) := (hp2 k hlt) 0 _ rfl
      have y1 : wr.cell? ⟨b2, o2 + k * 2 + 1, none⟩ = some (.int .i64 (S[k]).b) := (hp2 k hlt) 1 _ rfl
      generalize S[k] = E at *
      have ik : (k : Int) < (S.length : Int) := by omega
      have HB := Lib.hid hB1
      clear hp1 hp2 hB1
      go_wp2_with fail
      have q0 := cell_regrown x0; have q1 := cell_regrown x1; have q2 := cell_regrown y0; have q3 := cell_regrown y1
      refine wp_region_quiet_below (by kernel_rfl) (by kernel_rfl) ?_
      repeat (go_big_quiet_step (fail))
      refine wpQuiet_nil ?_
      intro _ hw'
      obtain ⟨⟨dq, osq⟩, hw''⟩ := hw'
      subst hw''
      have hb2 := below_regrown wr dq osq
      generalize grow (redrawn wr dq) osq = v1 at *
      clear q0 q1 q2 q3 x0 x1 y0 y1
      have HW := Lib.hid (BelowOn HB.out hb2)
      clear hb2 HB
      go_wp2_with fail
      go_roundw
      case rel => exact ⟨k + 1, hlt, by go_num, HW.out⟩
      case measure => simp [intOf]; omega
    · obtain rfl : k = S.length := by omega
      go_wp2_with fail
      go_ret
      exact ⟨rfl, hB1⟩
end Go.Proofs.Ytpkipdiecnokhaa
namespace Go.Proofs.Ytpkipdiecnokhaa
open Go.ChangeShapes Go.WideShapes Go.ChangeAt Go.RowKit Go.Sort
set_option linter.unusedVariables false
set_option linter.unusedSimpArgs false
set_option maxRecDepth 100000

/-- How often a list has a token that is the same. -/
def tmsR (l : List It) (t : It) : Nat := l.countP (fun x => sm x t)
theorem tmsR_next (l : List It) (t : It) (k : Nat) (h : k < l.length) : tmsR (l.take (k + 1)) t = tmsR (l.take k) t + (if sm (l[k]'h) t = true then 1 else 0) := by
  unfold tmsR; rw [List.take_succ_eq_append_getElem h, List.countP_append, List.countP_singleton]
theorem tmsR_le (l : List It) (t : It) : tmsR l t ≤ l.length := List.countP_le_length
set_option maxHeartbeats 3200000 in
theorem times_any (p : Option Addr) (c : Nat) (l : List It) (t : It) (w : World) (hA : Its w p l) (hc : l.length ≤ c) (hcm : c ≤ maxLen) :
    Calls Try.prog 52 #[.slice p l.length c, .agg #[.int .i64 t.k, .string t.t, .int .i64 t.id]] w fun e w' => e = .returned (.int .i64 (tmsR l t : Nat)) ∧ Below w.heap.size w w' := by
  unfold maxLen at hcm
  have hv := Var3.newT w t.k t.t t.id
  have hb0 : Below w.heap.size w (w.alloc (.cells #[.int .i64 t.k, .string t.t, .int .i64 t.id] 57)) := blw (Below.refl _ _) _
  have hA1 := hA.call hb0
  have HS := Lib.hid (fun k1 t1 i1 W => rtsame_any k1 t1 i1 t.k t.t t.id W)
  go_enter Try.func52, Try.ntmps52
  go_wp2_with fail
  generalize (w.alloc (.cells #[.int .i64 t.k, .string t.t, .int .i64 t.id] 57)) = w1 at *
  obtain ⟨v0, v1, v2, vl⟩ := hv
  have HV := Lib.hid (And.intro v0 (And.intro v1 v2))
  have HB0 := Lib.hid hb0
  generalize hgg : w.heap.size = g at *
  have HG := Lib.hid hgg
  clear hgg
  clear v0 v1 v2 hb0 hA
  go_loopw [5, 9] (fun n i wr => ∃ k : Nat, k ≤ l.length ∧ i = .int .i64 k ∧ n = .int .i64 (tmsR (l.take k) t : Nat) ∧ Below w1.heap.size w1 wr) (fun _ i _ => l.length - (intOf i).toNat)
  case atStart => exact ⟨0, Nat.zero_le _, rfl, rfl, Below.refl _ _⟩
  case round =>
    obtain ⟨k, hk, rfl, rfl, hB1⟩ := hrel
    by_cases hlt : k < l.length
    · obtain ⟨ad, rfl, had, x0, x1, x2⟩ := (hA1.call hB1).row k hlt
      obtain ⟨a0, a1, a2⟩ := HV.out
      have y0 := (hB1.cell (p := ⟨g, 0, none⟩) vl).trans a0
      have y1 := (hB1.cell (p := ⟨g, 1, none⟩) vl).trans a1
      have y2 := (hB1.cell (p := ⟨g, 2, none⟩) vl).trans a2
      have hnx := tmsR_next l t k hlt
      have hle := tmsR_le (l.take k) t
      simp only [List.length_take] at hle
      have hle2 : tmsR (l.take k) t ≤ k := by omega
      have hcc := fun W => HS.out (l[k]).k (l[k]).t (l[k]).id W
      have hsm : decide ((l[k]).k = t.k ∧ (l[k]).t = t.t) = sm l[k] t := rfl
      rw [hsm] at hcc
      have HC := Lib.hid hcc; have HB := Lib.hid hB1; have HNX := Lib.hid hnx
      generalize tmsR (l.take k) t = T at *
      generalize sm l[k] t = sb at *
      generalize l[k] = X at *
      have ik : (k : Int) < (l.length : Int) := by omega
      clear hcc hsm hnx hB1 a0 a1 a2 hle
      go_wp2_with fail
      have q0 := cell_regrown x0; have q1 := cell_regrown x1; have q2 := cell_regrown x2; have q3 := cell_regrown y0; have q4 := cell_regrown y1; have q5 := cell_regrown y2
      have e1 := fun d os => Calls.regrown_of (HC.out (grow (redrawn wr d) os))
      refine wp_region_quiet_below (by kernel_rfl) (by kernel_rfl) ?_
      repeat (go_big_quiet_step (exact e1 _ _))
      refine wpQuiet_nil ?_
      intro _ hw'
      obtain ⟨⟨dq, osq⟩, hw''⟩ := hw'
      subst hw''
      have hb2 := below_regrown wr dq osq
      generalize grow (redrawn wr dq) osq = v1 at *
      clear q0 q1 q2 q3 q4 q5 x0 x1 x2 y0 y1 y2 e1 HC
      have HW := Lib.hid (BelowOn HB.out hb2)
      clear hb2 HB
      cases sb with
      | false =>
        go_wp2_with fail
        go_roundw
        case rel => exact ⟨k + 1, hlt, by go_num, by rw [HNX.out]; simp, HW.out⟩
        case measure => simp [intOf]; omega
      | true =>
        go_wp2_with fail
        go_roundw
        case rel => exact ⟨k + 1, hlt, by go_num, by rw [HNX.out]; simp, HW.out⟩
        case measure => simp [intOf]; omega
    · obtain rfl : k = l.length := by omega
      rw [List.take_length]
      have HW := Lib.hid hB1
      clear hB1
      go_wp2_with fail
      go_ret
      exact ⟨rfl, by rw [HG.out]; exact HB0.out.trans (HW.out.mono (Nat.le_of_lt vl))⟩
end Go.Proofs.Ytpkipdiecnokhaa
namespace Go.Proofs.Ytpkipdiecnokhaa
open Go.ChangeShapes Go.WideShapes Go.ChangeAt Go.RowKit Go.Sort
set_option linter.unusedVariables false
set_option linter.unusedSimpArgs false
set_option maxRecDepth 100000

theorem tkey_sm (x t : It) : tkey x = tkey t ↔ sm x t = true := by
  rw [sm_iff]; unfold tkey
  constructor
  · intro h; injection h with h1 h2; exact ⟨h1, h2⟩
  · rintro ⟨h1, h2⟩; rw [h1, h2]
theorem tmsR_cnt (l : List It) (t : It) (ht : isT t.k = true) : tmsR l t = cntN l (tkey t) := by
  induction l with
  | nil => rfl
  | cons x l ih =>
    have e1 : tmsR (x :: l) t = tmsR l t + if sm x t = true then 1 else 0 := by unfold tmsR; rw [List.countP_cons]
    have e2 : cntN (x :: l) (tkey t) = cntN [x] (tkey t) + cntN l (tkey t) := cntN_append [x] l _
    rw [e1, e2, ih]
    cases q : isT x.k with
    | false =>
      have h0 : cntN [x] (tkey t) = 0 := by unfold cntN; rw [tkeys_none x q]; rfl
      have h1 : ¬ sm x t = true := fun h => by rw [((sm_iff _ _).1 h).1, ht] at q; cases q
      rw [h0, if_neg h1]; omega
    | true =>
      have h0 : cntN [x] (tkey t) = if sm x t = true then 1 else 0 := by
        unfold cntN; rw [tkeys_one x q]
        by_cases h : sm x t = true
        · rw [if_pos h, (tkey_sm x t).2 h, List.count_singleton_self]
        · rw [if_neg h, List.count_eq_zero_of_not_mem]
          intro c; exact h ((tkey_sm x t).1 (List.mem_singleton.1 c).symm)
      rw [h0]; omega
/-- The tags of a list, each at its first occurrence. -/
def uK (K : List Tg) (x : It) : List Tg := if isT x.k = true ∧ tkey x ∉ K then K ++ [tkey x] else K
def uL (l : List It) : List Tg := l.foldl uK []
theorem uL_next (l : List It) (k : Nat) (h : k < l.length) : uL (l.take (k + 1)) = uK (uL (l.take k)) (l[k]'h) := by
  unfold uL; rw [List.take_succ_eq_append_getElem h, List.foldl_append]; rfl
theorem uK_mem (K : List Tg) (x : It) (y : Tg) : y ∈ uK K x ↔ y ∈ K ∨ (isT x.k = true ∧ y = tkey x) := by
  unfold uK
  split
  · rename_i h; rw [List.mem_append, List.mem_singleton]
    exact ⟨fun c => c.elim .inl (fun e => .inr ⟨h.1, e⟩), fun c => c.elim .inl (fun e => .inr e.2)⟩
  · rename_i h
    refine ⟨.inl, fun c => c.elim id (fun e => ?_)⟩
    rcases Classical.em (y ∈ K) with g | g
    · exact g
    · exact absurd ⟨e.1, e.2 ▸ g⟩ h
theorem uL_memG (l : List It) : ∀ (K : List Tg) (y : Tg), y ∈ l.foldl uK K ↔ y ∈ K ∨ y ∈ tkeys l := by
  induction l with
  | nil => intro K y; simp [tkeys]
  | cons x l ih =>
    intro K y
    rw [List.foldl_cons, ih, uK_mem, show x :: l = [x] ++ l from rfl, tkeys_append, List.mem_append]
    cases q : isT x.k with
    | false => rw [tkeys_none x q]; simp
    | true => rw [tkeys_one x q]; simp [or_assoc]
theorem uL_mem (l : List It) (y : Tg) : y ∈ uL l ↔ y ∈ tkeys l := by unfold uL; rw [uL_memG]; simp
theorem uK_nodup {K : List Tg} (x : It) (h : K.Nodup) : (uK K x).Nodup := by
  unfold uK
  split
  · rename_i g
    rw [List.nodup_append]
    refine ⟨h, by simp, fun a ha b hb e => ?_⟩
    simp at hb; subst hb; subst e; exact g.2 ha
  · exact h
theorem uL_nodup (l : List It) : (uL l).Nodup := by
  unfold uL
  have : ∀ (l : List It) (K : List Tg), K.Nodup → (l.foldl uK K).Nodup := by
    intro l
    induction l with
    | nil => intro K h; exact h
    | cons x l ih => intro K h; exact ih _ (uK_nodup x h)
  exact this l [] List.nodup_nil
theorem uL_len (l : List It) : (uL l).length ≤ l.length := by
  unfold uL
  have : ∀ (l : List It) (K : List Tg), (l.foldl uK K).length ≤ K.length + l.length := by
    intro l
    induction l with
    | nil => intro K; exact Nat.le_refl _
    | cons x l ih =>
      intro K
      have h1 := ih (uK K x)
      have h2 : (uK K x).length ≤ K.length + 1 := by unfold uK; split <;> simp
      rw [List.foldl_cons, List.length_cons]; omega
  simpa using this l []
theorem tms_zero (l : List It) (t : It) (ht : isT t.k = true) : tmsR l t = 0 ↔ tkey t ∉ tkeys l := by
  rw [tmsR_cnt l t ht]; unfold cntN
  exact List.count_eq_zero
theorem sumT_app (K L : List Tg) (g : Tg → Nat) : sumT (K ++ L) g = sumT K g + sumT L g := by unfold sumT; rw [List.map_append, List.sum_append]
theorem sumT_bd (K : List Tg) (g : Tg → Nat) (M : Nat) (h : ∀ y, g y ≤ M) : sumT K g ≤ K.length * M := by
  induction K with
  | nil => exact Nat.zero_le _
  | cons x K ih => rw [sumT_cons, List.length_cons, Nat.add_mul]; have := h x; omega
theorem dif_le (a b : List It) (y : Tg) : dif a b y ≤ a.length + b.length := by
  have h1 := cntN_le a y; have h2 := cntN_le b y
  unfold dif; omega
def sOne (a b : List It) (i : Nat) : Nat := sumT (uL (a.take i)) (dif a b)
theorem sOne_next (a b : List It) (i : Nat) (h : i < a.length) : sOne a b (i + 1) = sOne a b i + (if isT (a[i]'h).k = true ∧ tmsR (a.take i) (a[i]'h) = 0 then ((tmsR a (a[i]'h) : Int) - (tmsR b (a[i]'h) : Int)).natAbs else 0) := by
  unfold sOne; rw [uL_next a i h]
  unfold uK
  by_cases ht : isT (a[i]'h).k = true
  · have e : tmsR (a.take i) a[i] = 0 ↔ tkey a[i] ∉ uL (a.take i) := by rw [tms_zero _ _ ht, uL_mem]
    by_cases hz : tmsR (a.take i) a[i] = 0
    · rw [if_pos ⟨ht, e.1 hz⟩, if_pos ⟨ht, hz⟩, sumT_app, sumT_cons, sumT_nil, tmsR_cnt _ _ ht, tmsR_cnt _ _ ht]; rfl
    · rw [if_neg (fun c => hz (e.2 c.2)), if_neg (fun c => hz c.2)]; rfl
  · rw [if_neg (fun c => ht c.1), if_neg (fun c => ht c.1)]; rfl
theorem sOne_le (a b : List It) (i : Nat) : sOne a b i ≤ i * (a.length + b.length) := by
  unfold sOne
  refine Nat.le_trans (sumT_bd _ _ _ (dif_le a b)) (Nat.mul_le_mul_right _ (Nat.le_trans (uL_len _) ?_))
  simp; omega
def vL (a l : List It) : List Tg := (uL l).filter fun y => decide (y ∉ tkeys a)
def sTwo (a b : List It) (j : Nat) : Nat := sumT (vL a (b.take j)) (dif a b)
theorem sTwo_next (a b : List It) (j : Nat) (h : j < b.length) : sTwo a b (j + 1) = sTwo a b j + (if isT (b[j]'h).k = true ∧ tmsR (b.take j) (b[j]'h) = 0 ∧ tmsR a (b[j]'h) = 0 then tmsR b (b[j]'h) else 0) := by
  unfold sTwo vL; rw [uL_next b j h]
  unfold uK
  by_cases ht : isT (b[j]'h).k = true
  · have e : tmsR (b.take j) b[j] = 0 ↔ tkey b[j] ∉ uL (b.take j) := by rw [tms_zero _ _ ht, uL_mem]
    by_cases hz : tmsR (b.take j) b[j] = 0
    · rw [if_pos ⟨ht, e.1 hz⟩, List.filter_append, sumT_app]
      have e2 := tms_zero a b[j] ht
      by_cases hy : tmsR a b[j] = 0
      · rw [if_pos ⟨ht, hz, hy⟩, List.filter_cons, if_pos (by simpa using e2.1 hy), List.filter_nil, sumT_cons, sumT_nil]
        have : dif a b (tkey b[j]) = tmsR b b[j] := by
          rw [tmsR_cnt _ _ ht] at hy
          rw [tmsR_cnt _ _ ht]; unfold dif; rw [hy]; omega
        rw [this]; rfl
      · rw [if_neg (fun c => hy c.2.2), List.filter_cons, if_neg (by simpa using fun c => hy (e2.2 c)), List.filter_nil, sumT_nil]
    · rw [if_neg (fun c => hz (e.2 c.2)), if_neg (fun c => hz c.2.1)]; rfl
  · rw [if_neg (fun c => ht c.1), if_neg (fun c => ht c.1)]; rfl
theorem sTwo_le (a b : List It) (j : Nat) : sTwo a b j ≤ j * (a.length + b.length) := by
  unfold sTwo vL
  refine Nat.le_trans (sumT_bd _ _ _ (dif_le a b)) (Nat.mul_le_mul_right _ (Nat.le_trans (List.length_filter_le _ _) (Nat.le_trans (uL_len _) ?_)))
  simp; omega
theorem sur_sums (a b : List It) : sOne a b a.length + sTwo a b b.length = sur a b := by
  unfold sOne sTwo; rw [List.take_length, List.take_length, ← sumT_app]
  refine sur_any _ a b ?_ ?_
  · rw [List.nodup_append]
    refine ⟨uL_nodup a, (uL_nodup b).filter _, fun x hx y hy e => ?_⟩
    subst e
    unfold vL at hy
    have := (List.mem_filter.1 hy).2
    have h2 : x ∉ tkeys a := by simpa using this
    exact h2 ((uL_mem a x).1 hx)
  · intro y hy
    have := dif_in a b y hy
    unfold surK at this
    rw [mem_uniq, List.mem_append] at this
    rw [List.mem_append]
    by_cases h : y ∈ tkeys a
    · exact .inl ((uL_mem a y).2 h)
    · refine .inr (List.mem_filter.2 ⟨(uL_mem b y).2 (this.resolve_left h), by simpa using h⟩)
end Go.Proofs.Ytpkipdiecnokhaa
namespace Go.Proofs.Ytpkipdiecnokhaa
open Go.ChangeShapes Go.WideShapes Go.ChangeAt Go.RowKit Go.Sort
set_option linter.unusedVariables false
set_option linter.unusedSimpArgs false
set_option maxRecDepth 100000

theorem times_take (p : Option Addr) (c : Nat) (l : List It) (t : It) (k : Nat) (hk : k ≤ l.length) (w : World) (hA : Its w p l) (hc : l.length ≤ c) (hcm : c ≤ maxLen) :
    Calls Try.prog 52 #[.slice p k c, .agg #[.int .i64 t.k, .string t.t, .int .i64 t.id]] w fun e w' => e = .returned (.int .i64 (tmsR (l.take k) t : Nat)) ∧ Below w.heap.size w w' := by
  have h := times_any p c (l.take k) t w (its_takeD hA k) (by simp; omega) hcm
  have e : (l.take k).length = k := by simp; omega
  rw [e] at h; exact h
set_option maxHeartbeats 6400000 in
theorem rsurplus_any (p q : Option Addr) (c d : Nat) (a b : List It) (w : World) (hA : Its w p a) (hB : Its w q b) (hc : a.length ≤ c) (hd : b.length ≤ d) (hcm : c ≤ maxLen) (hdm : d ≤ maxLen) (ha : a.length ≤ 1000) (hb : b.length ≤ 1000) :
    Calls Try.prog 43 #[.slice p a.length c, .slice q b.length d] w fun e w' => e = .returned (.int .i64 (sur a b : Nat)) ∧ Below w.heap.size w w' := by
  have HSUM := Lib.hid (sur_sums a b)
  have HO := Lib.hid (fun i h => sOne_next a b i h); have HOL := Lib.hid (fun i => sOne_le a b i)
  have HT := Lib.hid (fun i h => sTwo_next a b i h); have HTL := Lib.hid (fun i => sTwo_le a b i)
  have HTA := Lib.hid (fun t W h => times_any p c a t W h hc hcm)
  have HTB := Lib.hid (fun t W h => times_any q d b t W h hd hdm)
  have HTAk := Lib.hid (fun t k hk W h => times_take p c a t k hk W h hc hcm)
  have HTBk := Lib.hid (fun t k hk W h => times_take q d b t k hk W h hd hdm)
  have hz1 : sOne a b 0 = 0 := rfl
  have hz2 : sTwo a b 0 = 0 := rfl
  have HTG := Lib.hid (fun k t id W => drtag_any k t id W)
  have hM : a.length + b.length ≤ 2000 := by omega
  generalize hMM : a.length + b.length = M at *
  have HMM := Lib.hid hMM
  clear hMM
  have HS1 := Lib.hid hz1; have HS2 := Lib.hid hz2
  clear hz1 hz2
  have hcm' := hcm; have hdm' := hdm
  unfold maxLen at hcm' hdm'
  go_enter Try.func43, Try.ntmps43
  go_wp2_with fail
  go_loopw [5, 13] (fun n i wr => ∃ k : Nat, k ≤ a.length ∧ i = .int .i64 k ∧ n = .int .i64 (sOne a b k : Nat) ∧ Below w.heap.size w wr) (fun _ i _ => a.length - (intOf i).toNat)
  case atStart => exact ⟨0, Nat.zero_le _, rfl, by rw [HS1.out]; rfl, Below.refl _ _⟩
  case round =>
    obtain ⟨k, hk, rfl, rfl, hB1⟩ := hrel
    by_cases hlt : k < a.length
    · obtain ⟨ad, rfl, had, x0, x1, x2⟩ := (hA.call hB1).row k hlt
      have hnx := HO.out k hlt
      have hol := HOL.out k
      have hol2 : sOne a b k ≤ 2000000 := Nat.le_trans hol (Nat.le_trans (Nat.mul_le_mul (show k ≤ 1000 by omega) hM) (by omega))
      have hv0 := heap_alloc_new wr (.cells #[.int .i64 a[k].k, .string a[k].t, .int .i64 a[k].id] 57)
      have hbv : Below wr.heap.size wr (wr.alloc (.cells #[.int .i64 a[k].k, .string a[k].t, .int .i64 a[k].id] 57)) := blw (Below.refl _ _) _
      have ik : (k : Int) < (a.length : Int) := by omega
      have tl1 : tmsR (a.take k) a[k] ≤ 1000 := Nat.le_trans (tmsR_le _ _) (by simp; omega)
      have tl2 : tmsR a a[k] ≤ 1000 := Nat.le_trans (tmsR_le _ _) ha
      have tl3 : tmsR b a[k] ≤ 1000 := Nat.le_trans (tmsR_le _ _) hb
      have ctk := HTAk.out a[k] k hk
      have ca := HTA.out a[k]
      have cb := HTB.out a[k]
      have cg := HTG.out a[k].k a[k].t a[k].id
      have HNX := Lib.hid hnx
      have HC := Lib.hid (And.intro ctk (And.intro ca (And.intro cb cg)))
      clear hnx hol ctk ca cb cg
      generalize tmsR (a.take k) a[k] = T0 at *
      generalize tmsR a a[k] = TA at *
      generalize tmsR b a[k] = TB at *
      generalize a[k] = X at *
      have HB := Lib.hid (BelowOn hB1 hbv)
      have hAr := Lib.hid ((hA.call hB1).call hbv); have hBr := Lib.hid ((hB.call hB1).call hbv)
      clear hB1 hbv
      go_wp2_with fail
      generalize (wr.alloc (.cells #[.int .i64 X.k, .string X.t, .int .i64 X.id] 57)) = v1 at *
      have d0 : v1.cell? ⟨wr.heap.size, 0, none⟩ = some (.int .i64 X.k) := by rw [Lib.cell_of_heap hv0]; rfl
      have d1 : v1.cell? ⟨wr.heap.size, 1, none⟩ = some (.string X.t) := by rw [Lib.cell_of_heap hv0]; rfl
      have d2 : v1.cell? ⟨wr.heap.size, 2, none⟩ = some (.int .i64 X.id) := by rw [Lib.cell_of_heap hv0]; rfl
      have hgl : wr.heap.size < v1.heap.size := heap_lt hv0
      generalize wr.heap.size = g at *
      clear x0 x1 x2 hv0 had
      obtain ⟨ctk, ca, cb, cg⟩ := HC.out
      have q0 := cell_regrown d0; have q1 := cell_regrown d1; have q2 := cell_regrown d2
      have e1 := fun d os => Calls.regrown_of (cg (grow (redrawn v1 d) os))
      have e2 := fun d os => Calls.regrown_of (ctk (grow (redrawn v1 d) os) (hAr.out.call (below_regrown v1 d os)))
      have kc : (k : Int) ≤ (c : Int) := by omega
      have k0 : (0 : Int) ≤ (k : Int) := by omega
      cases q : isT X.k with
      | false =>
        rw [q] at e1
        clear e2
        refine wp_region_quiet_below (by kernel_rfl) (by kernel_rfl) ?_
        repeat (go_big_quiet_step (exact e1 _ _))
        refine wpQuiet_nil ?_
        intro _ hw'
        obtain ⟨⟨dq, osq⟩, hw''⟩ := hw'
        subst hw''
        have hb2 := below_regrown v1 dq osq
        generalize grow (redrawn v1 dq) osq = v2 at *
        have HW := Lib.hid ((HB.out.trans (hb2.mono (Nat.le_trans (by have := HB.out.size; exact this) (Nat.le_refl _)))))
        clear q0 q1 q2 e1 d0 d1 d2 hb2
        go_wp2_with fail
        go_roundw
        case rel => exact ⟨k + 1, hlt, by go_num, by rw [HNX.out, if_neg (fun h => by rw [q] at h; cases h.1)]; rfl, HW.out⟩
        case measure => simp [intOf]; omega
      | true =>
        rw [q] at e1
        by_cases z : T0 = 0
        · have zq : ((T0 : Int) == 0) = true := by simp; omega
          refine wp_region_quiet_below (by kernel_rfl) (by kernel_rfl) ?_
          repeat (go_big_quiet_step (first | exact e1 _ _ | exact e2 _ _))
          refine wpQuiet_nil ?_
          intro _ hw'
          obtain ⟨⟨dq, osq⟩, hw''⟩ := hw'
          subst hw''
          have hb2 := below_regrown v1 dq osq
          have k0 := q0 dq osq; have k1 := q1 dq osq; have k2 := q2 dq osq
          generalize grow (redrawn v1 dq) osq = v2 at *
          have HW := Lib.hid (BelowOn HB.out hb2)
          have hA2 := Lib.hid (hAr.out.call hb2); have hB2 := Lib.hid (hBr.out.call hb2)
          clear q0 q1 q2 e1 e2 d0 d1 d2 hb2
          have hwr : IntKind.i64.wrap ((TA : Int) - (TB : Int)) = (TA : Int) - (TB : Int) := IntWalk.i64_in _ ⟨by omega, by omega⟩
          go_wp2_with fail
          have q0 := cell_regrown k0; have q1 := cell_regrown k1; have q2 := cell_regrown k2
          have e1 := fun d os => Calls.regrown_of (ca (grow (redrawn v2 d) os) (hA2.out.call (below_regrown v2 d os)))
          have e2 := fun d os => Calls.regrown_of (cb (grow (redrawn v2 d) os) (hB2.out.call (below_regrown v2 d os)))
          refine wp_region_quiet_below (by kernel_rfl) (by kernel_rfl) ?_
          iterate 3 (go_big_quiet_step (exact e1 _ _))
          repeat (go_big_quiet_step (exact e2 _ _))
          refine wpQuiet_nil ?_
          intro _ hw'
          obtain ⟨⟨dq2, osq2⟩, hw''⟩ := hw'
          subst hw''
          have hb2 := below_regrown v2 dq2 osq2
          generalize grow (redrawn v2 dq2) osq2 = v3 at *
          replace HW := Lib.hid (BelowOn HW.out hb2)
          clear q0 q1 q2 e1 e2 k0 k1 k2 hb2 hA2 hB2 hwr
          have hDb : (TA : Int) - (TB : Int) ≤ 1000 ∧ -1000 ≤ (TA : Int) - (TB : Int) := by omega
          have HNX2 := Lib.hid (HNX.out.trans (by rw [if_pos ⟨q, z⟩]))
          clear HNX
          generalize (TA : Int) - (TB : Int) = D at *
          have hwn : IntKind.i64.wrap (-D) = -D := IntWalk.i64_in _ ⟨by omega, by omega⟩
          have em : max D (-D) = (D.natAbs : Int) := by omega
          have hN : D.natAbs ≤ 1000 := by omega
          generalize D.natAbs = N at *
          go_wp2_with fail
          go_roundw
          case rel => exact ⟨k + 1, hlt, by go_num, by rw [HNX2.out]; simp, HW.out⟩
          case measure => simp [intOf]; omega
        · have zq : ((T0 : Int) == 0) = false := by simp; omega
          refine wp_region_quiet_below (by kernel_rfl) (by kernel_rfl) ?_
          repeat (go_big_quiet_step (first | exact e1 _ _ | exact e2 _ _))
          refine wpQuiet_nil ?_
          intro _ hw'
          obtain ⟨⟨dq, osq⟩, hw''⟩ := hw'
          subst hw''
          have hb2 := below_regrown v1 dq osq
          generalize grow (redrawn v1 dq) osq = v2 at *
          have HW := Lib.hid (BelowOn HB.out hb2)
          clear q0 q1 q2 e1 e2 d0 d1 d2 hb2
          go_wp2_with fail
          go_roundw
          case rel => exact ⟨k + 1, hlt, by go_num, by rw [HNX.out, if_neg (fun h => z h.2)]; rfl, HW.out⟩
          case measure => simp [intOf]; omega
    · obtain rfl : k = a.length := by omega
      have HB := Lib.hid hB1
      have hol := HOL.out a.length
      have hol2 : sOne a b a.length ≤ 2000000 := Nat.le_trans hol (Nat.le_trans (Nat.mul_le_mul (show a.length ≤ 1000 by omega) hM) (by omega))
      clear hB1 hol
      generalize hS : sOne a b a.length = S at *
      have HSS := Lib.hid hS
      clear hS
      go_wp2_with fail
      clear HO HOL HTAk HS1
      go_loopw [5, 44] (fun n i wr => ∃ k : Nat, k ≤ b.length ∧ i = .int .i64 k ∧ n = .int .i64 ((S : Int) + (sTwo a b k : Nat)) ∧ Below w.heap.size w wr) (fun _ i _ => b.length - (intOf i).toNat)
      case atStart => exact ⟨0, Nat.zero_le _, rfl, by rw [HS2.out]; simp, HB.out⟩
      case round =>
        obtain ⟨k, hk, rfl, rfl, hB1⟩ := hrel
        clear HB
        have hol := HTL.out k
        have hol2b : sTwo a b k ≤ 2000000 := Nat.le_trans hol (Nat.le_trans (Nat.mul_le_mul (show k ≤ 1000 by omega) hM) (by omega))
        clear hol
        by_cases hlt : k < b.length
        · obtain ⟨ad, rfl, had, x0, x1, x2⟩ := (hB.call hB1).row k hlt
          have hnx := HT.out k hlt
          have hv0 := heap_alloc_new wr (.cells #[.int .i64 b[k].k, .string b[k].t, .int .i64 b[k].id] 57)
          have hbv : Below wr.heap.size wr (wr.alloc (.cells #[.int .i64 b[k].k, .string b[k].t, .int .i64 b[k].id] 57)) := blw (Below.refl _ _) _
          have ik : (k : Int) < (b.length : Int) := by omega
          have tl1 : tmsR (b.take k) b[k] ≤ 1000 := Nat.le_trans (tmsR_le _ _) (by simp; omega)
          have tl2 : tmsR a b[k] ≤ 1000 := Nat.le_trans (tmsR_le _ _) ha
          have tl3 : tmsR b b[k] ≤ 1000 := Nat.le_trans (tmsR_le _ _) hb
          have ctk := HTBk.out b[k] k hk
          have ca := HTA.out b[k]
          have cb := HTB.out b[k]
          have cg := HTG.out b[k].k b[k].t b[k].id
          have HNX := Lib.hid hnx
          have HC := Lib.hid (And.intro ctk (And.intro ca (And.intro cb cg)))
          clear hnx ctk ca cb cg
          generalize tmsR (b.take k) b[k] = T0 at *
          generalize tmsR a b[k] = TA at *
          generalize tmsR b b[k] = TB at *
          generalize b[k] = X at *
          generalize sTwo a b k = U at *
          have HB := Lib.hid (BelowOn hB1 hbv)
          have hAr := Lib.hid ((hA.call hB1).call hbv); have hBr := Lib.hid ((hB.call hB1).call hbv)
          clear hB1 hbv
          go_wp2_with fail
          generalize (wr.alloc (.cells #[.int .i64 X.k, .string X.t, .int .i64 X.id] 57)) = v1 at *
          have d0 : v1.cell? ⟨wr.heap.size, 0, none⟩ = some (.int .i64 X.k) := by rw [Lib.cell_of_heap hv0]; rfl
          have d1 : v1.cell? ⟨wr.heap.size, 1, none⟩ = some (.string X.t) := by rw [Lib.cell_of_heap hv0]; rfl
          have d2 : v1.cell? ⟨wr.heap.size, 2, none⟩ = some (.int .i64 X.id) := by rw [Lib.cell_of_heap hv0]; rfl
          generalize wr.heap.size = g at *
          clear x0 x1 x2 hv0 had
          obtain ⟨ctk, ca, cb, cg⟩ := HC.out
          have q0 := cell_regrown d0; have q1 := cell_regrown d1; have q2 := cell_regrown d2
          have e1 := fun d os => Calls.regrown_of (cg (grow (redrawn v1 d) os))
          have e2 := fun d os => Calls.regrown_of (ctk (grow (redrawn v1 d) os) (hBr.out.call (below_regrown v1 d os)))
          have e3 := fun d os => Calls.regrown_of (ca (grow (redrawn v1 d) os) (hAr.out.call (below_regrown v1 d os)))
          have kc : (k : Int) ≤ (d : Int) := by omega
          have k0 : (0 : Int) ≤ (k : Int) := by omega
          cases q : isT X.k with
          | false =>
            rw [q] at e1
            refine wp_region_quiet_below (by kernel_rfl) (by kernel_rfl) ?_
            repeat (go_big_quiet_step (exact e1 _ _))
            refine wpQuiet_nil ?_
            intro _ hw'
            obtain ⟨⟨dq, osq⟩, hw''⟩ := hw'
            subst hw''
            have hb2 := below_regrown v1 dq osq
            generalize grow (redrawn v1 dq) osq = v2 at *
            have HW := Lib.hid (BelowOn HB.out hb2)
            clear q0 q1 q2 e1 e2 e3 d0 d1 d2 hb2
            go_wp2_with fail
            go_roundw
            case rel => exact ⟨k + 1, hlt, by go_num, by rw [HNX.out, if_neg (fun h => by rw [q] at h; cases h.1)]; rfl, HW.out⟩
            case measure => simp [intOf]; omega
          | true =>
            rw [q] at e1
            by_cases z : T0 = 0
            · have zq : ((T0 : Int) == 0) = true := by simp; omega
              by_cases y : TA = 0
              · have yq : ((TA : Int) == 0) = true := by simp; omega
                refine wp_region_quiet_below (by kernel_rfl) (by kernel_rfl) ?_
                iterate 8 (go_big_quiet_step (first | exact e1 _ _ | exact e2 _ _))
                repeat (go_big_quiet_step (exact e3 _ _))
                refine wpQuiet_nil ?_
                intro _ hw'
                obtain ⟨⟨dq, osq⟩, hw''⟩ := hw'
                subst hw''
                have hb2 := below_regrown v1 dq osq
                have k0 := q0 dq osq; have k1 := q1 dq osq; have k2 := q2 dq osq
                generalize grow (redrawn v1 dq) osq = v2 at *
                have HW := Lib.hid (BelowOn HB.out hb2)
                have hcb := cb v2 (hBr.out.call hb2)
                have HNX2 := Lib.hid (HNX.out.trans (by rw [if_pos ⟨q, z, y⟩]))
                clear q0 q1 q2 e1 e2 e3 d0 d1 d2 hb2 HNX
                go_wp2_with fail
                refine hcb.mono ?_; rintro e v3 ⟨rfl, hb3⟩
                replace HW := Lib.hid (BelowOn HW.out hb3)
                clear hb3 hcb
                go_wp2_with fail
                go_roundw
                case rel => exact ⟨k + 1, hlt, by go_num, by rw [HNX2.out]; simp; omega, HW.out⟩
                case measure => simp [intOf]; omega
              · have yq : ((TA : Int) == 0) = false := by simp; omega
                refine wp_region_quiet_below (by kernel_rfl) (by kernel_rfl) ?_
                iterate 8 (go_big_quiet_step (first | exact e1 _ _ | exact e2 _ _))
                repeat (go_big_quiet_step (exact e3 _ _))
                refine wpQuiet_nil ?_
                intro _ hw'
                obtain ⟨⟨dq, osq⟩, hw''⟩ := hw'
                subst hw''
                have hb2 := below_regrown v1 dq osq
                generalize grow (redrawn v1 dq) osq = v2 at *
                have HW := Lib.hid (BelowOn HB.out hb2)
                clear q0 q1 q2 e1 e2 e3 d0 d1 d2 hb2
                go_wp2_with fail
                go_roundw
                case rel => exact ⟨k + 1, hlt, by go_num, by rw [HNX.out, if_neg (fun h => y h.2.2)]; rfl, HW.out⟩
                case measure => simp [intOf]; omega
            · have zq : ((T0 : Int) == 0) = false := by simp; omega
              refine wp_region_quiet_below (by kernel_rfl) (by kernel_rfl) ?_
              repeat (go_big_quiet_step (first | exact e1 _ _ | exact e2 _ _))
              refine wpQuiet_nil ?_
              intro _ hw'
              obtain ⟨⟨dq, osq⟩, hw''⟩ := hw'
              subst hw''
              have hb2 := below_regrown v1 dq osq
              generalize grow (redrawn v1 dq) osq = v2 at *
              have HW := Lib.hid (BelowOn HB.out hb2)
              clear q0 q1 q2 e1 e2 e3 d0 d1 d2 hb2
              go_wp2_with fail
              go_roundw
              case rel => exact ⟨k + 1, hlt, by go_num, by rw [HNX.out, if_neg (fun h => z h.2.1)]; rfl, HW.out⟩
              case measure => simp [intOf]; omega
        · obtain rfl : k = b.length := by omega
          have HB := Lib.hid hB1
          clear hB1
          have hs := HSUM.out
          generalize sTwo a b b.length = U at *
          have HF := Lib.hid (show ((sur a b : Nat) : Int) = (S : Int) + (U : Int) by omega)
          clear hs
          go_wp2_with fail
          go_ret
          exact ⟨by rw [HF.out]; rfl, HB.out⟩
end Go.Proofs.Ytpkipdiecnokhaa
namespace Go.Proofs.Ytpkipdiecnokhaa
open Go.ChangeShapes Go.WideShapes Go.ChangeAt Go.RowKit Go.Sort
set_option linter.unusedVariables false
set_option linter.unusedSimpArgs false
set_option maxRecDepth 100000

set_option maxHeartbeats 6400000 in
theorem rcost_any (x y : It) (w : World) (hx : x.t.size ≤ 1000) (hy : y.t.size ≤ 1000) :
    Calls Try.prog 45 #[.agg #[.int .i64 x.k, .string x.t, .int .i64 x.id], .agg #[.int .i64 y.k, .string y.t, .int .i64 y.id]] w fun e w' => e = .returned (.tuple #[.int .i64 (cO x y), .bool (okP x y)]) ∧ Below w.heap.size w w' := by
  obtain ⟨k1, t1, i1⟩ := x
  obtain ⟨k2, t2, i2⟩ := y
  dsimp only at hx hy ⊢
  have hs := fun W => rtsame_any k1 t1 i1 k2 t2 i2 W
  have hk1 := fun W => rkey_any k1 t1 i1 W hx
  have hk2 := fun W => rkey_any k2 t2 i2 W hy
  have hw := fun W => rweight_any k1 t1 i1 W
  have HK1 := Lib.hid hk1; have HK2 := Lib.hid hk2; have HW := Lib.hid hw
  clear hk1 hk2 hw
  have hv1 := (Var3.newT w k1 t1 i1).alloc (.cells #[.int .i64 k2, .string t2, .int .i64 i2] 57)
  have hv2 := Var3.newT (w.alloc (.cells #[.int .i64 k1, .string t1, .int .i64 i1] 57)) k2 t2 i2
  rw [show (w.alloc (.cells #[.int .i64 k1, .string t1, .int .i64 i1] 57)).heap.size = w.heap.size + 1 by simp] at hv2
  have hb0 : Below w.heap.size w ((w.alloc (.cells #[.int .i64 k1, .string t1, .int .i64 i1] 57)).alloc (.cells #[.int .i64 k2, .string t2, .int .i64 i2] 57)) := blw (blw (Below.refl _ _) _) _
  have HX := Lib.hid hv1; have HY := Lib.hid hv2
  clear hv1 hv2 hx hy
  by_cases q : k1 = k2 ∧ t1 = t2
  · have HQ := Lib.hid (show cO ⟨k1, t1, i1⟩ ⟨k2, t2, i2⟩ = 0 by unfold cO cst; rw [if_pos ((sm_iff _ _).2 q)]; split <;> rfl)
    have HP := Lib.hid (show okP ⟨k1, t1, i1⟩ ⟨k2, t2, i2⟩ = true by unfold okP; rw [(sm_iff _ _).2 q]; rfl)
    rw [decide_eq_true q] at hs
    have HS := Lib.hid hs
    clear hs q
    go_enter Try.func45, Try.ntmps45
    go_wp2_with fail
    refine (HS.out _).mono ?_; rintro e w1 ⟨rfl, hb⟩
    have hb1 := BelowOn hb0 hb
    have HX := Lib.hid (HX.out.call hb); have HY := Lib.hid (HY.out.call hb)
    clear hb
    obtain ⟨x0, x1, x2, _⟩ := HX.out
    obtain ⟨y0, y1, y2, _⟩ := HY.out
    go_wp2_with fail
    go_ret2
    exact ⟨by rw [HQ.out, HP.out]; rfl, hb1⟩
  rw [decide_eq_false q] at hs
  have HS := Lib.hid hs
  have hsm : sm ⟨k1, t1, i1⟩ ⟨k2, t2, i2⟩ = false := by cases h : sm ⟨k1, t1, i1⟩ ⟨k2, t2, i2⟩; rfl; exact absurd ((sm_iff _ _).1 h) q
  clear hs
  by_cases e : k1 = k2
  case neg =>
    have HQ := Lib.hid (show cO ⟨k1, t1, i1⟩ ⟨k2, t2, i2⟩ = 0 by unfold cO; rw [if_neg]; intro h; exact e (okP_kind h))
    have HP := Lib.hid (show okP ⟨k1, t1, i1⟩ ⟨k2, t2, i2⟩ = false by cases h : okP ⟨k1, t1, i1⟩ ⟨k2, t2, i2⟩; rfl; exact absurd (okP_kind h) e)
    have e1 : (k1 == k2) = false := by simpa using e
    have e2 : (k1 != k2) = true := by simpa using e
    clear q hsm
    go_enter Try.func45, Try.ntmps45
    go_wp2_with fail
    refine (HS.out _).mono ?_; rintro e w1 ⟨rfl, hb⟩
    have hb1 := BelowOn hb0 hb
    have HX := Lib.hid (HX.out.call hb); have HY := Lib.hid (HY.out.call hb)
    clear hb
    obtain ⟨x0, x1, x2, _⟩ := HX.out
    obtain ⟨y0, y1, y2, _⟩ := HY.out
    go_wp2_with fail
    go_ret2
    exact ⟨by rw [HQ.out, HP.out]; rfl, hb1⟩
  subst e
  by_cases lo : k1 < 5
  · have HP := Lib.hid (show okP ⟨k1, t1, i1⟩ ⟨k1, t2, i2⟩ = false by unfold okP; rw [hsm]; simp; omega)
    have HQ := Lib.hid (show cO ⟨k1, t1, i1⟩ ⟨k1, t2, i2⟩ = 0 by unfold cO; rw [HP.out]; rfl)
    clear q hsm
    go_enter Try.func45, Try.ntmps45
    go_wp2_with fail
    refine (HS.out _).mono ?_; rintro e w1 ⟨rfl, hb⟩
    have hb1 := BelowOn hb0 hb
    have HX := Lib.hid (HX.out.call hb); have HY := Lib.hid (HY.out.call hb)
    clear hb
    obtain ⟨x0, x1, x2, _⟩ := HX.out
    obtain ⟨y0, y1, y2, _⟩ := HY.out
    go_wp2_with fail
    go_ret2
    exact ⟨by rw [HQ.out, HP.out]; rfl, hb1⟩
  by_cases hi : 9 < k1
  · have HP := Lib.hid (show okP ⟨k1, t1, i1⟩ ⟨k1, t2, i2⟩ = false by unfold okP; rw [hsm]; simp; omega)
    have HQ := Lib.hid (show cO ⟨k1, t1, i1⟩ ⟨k1, t2, i2⟩ = 0 by unfold cO; rw [HP.out]; rfl)
    clear q hsm
    go_enter Try.func45, Try.ntmps45
    go_wp2_with fail
    refine (HS.out _).mono ?_; rintro e w1 ⟨rfl, hb⟩
    have hb1 := BelowOn hb0 hb
    have HX := Lib.hid (HX.out.call hb); have HY := Lib.hid (HY.out.call hb)
    clear hb
    obtain ⟨x0, x1, x2, _⟩ := HX.out
    obtain ⟨y0, y1, y2, _⟩ := HY.out
    go_wp2_with fail
    go_ret2
    exact ⟨by rw [HQ.out, HP.out]; rfl, hb1⟩
  have HP := Lib.hid (show okP ⟨k1, t1, i1⟩ ⟨k1, t2, i2⟩ = true by unfold okP; simp; exact .inr ⟨by omega, by omega⟩)
  by_cases k6 : k1 = 6
  · have e6 : (k1 == 6) = true := by simpa using k6
    by_cases kk : keyT k1 t1 = keyT k1 t2
    · have HQ := Lib.hid (show cO ⟨k1, t1, i1⟩ ⟨k1, t2, i2⟩ = 1 by unfold cO cst; rw [HP.out, hsm]; simp [k6, k6 ▸ kk])
      have hk1 := HK1.out; rw [kk] at hk1; have HK3 := Lib.hid hk1; clear hk1
      clear q hsm kk k6
      go_enter Try.func45, Try.ntmps45
      go_wp2_with fail
      refine (HS.out _).mono ?_; rintro e w1 ⟨rfl, hb⟩
      have hb1 := BelowOn hb0 hb
      have HX := Lib.hid (HX.out.call hb); have HY := Lib.hid (HY.out.call hb)
      clear hb
      obtain ⟨x0, x1, x2, _⟩ := HX.out
      obtain ⟨y0, y1, y2, _⟩ := HY.out
      go_wp2_with fail
      have rx0 := cell_regrown x0
      have rx1 := cell_regrown x1
      have rx2 := cell_regrown x2
      have ry0 := cell_regrown y0
      have ry1 := cell_regrown y1
      have ry2 := cell_regrown y2
      have c1 := fun d os => Calls.regrown_of (HK3.out (grow (redrawn w1 d) os))
      have c2 := fun d os => Calls.regrown_of (HK2.out (grow (redrawn w1 d) os))
      refine wp_region_quiet_below (by kernel_rfl) (by kernel_rfl) ?_
      iterate 6 (go_big_quiet_step (exact c1 _ _))
      iterate 2 (go_big_quiet_step (exact c2 _ _))
      repeat (go_big_quiet_step (fail))
      refine wpQuiet_nil ?_
      intro _ hw'
      obtain ⟨⟨dq, osq⟩, hw''⟩ := hw'
      subst hw''
      have hb := below_regrown w1 dq osq
      generalize grow (redrawn w1 dq) osq = w2 at *
      clear rx0 rx1 rx2 ry0 ry1 ry2 c1 c2
      clear x0 x1 x2 y0 y1 y2
      have hb2 := BelowOn hb1 hb
      have HX := Lib.hid (HX.out.call hb); have HY := Lib.hid (HY.out.call hb)
      clear hb
      obtain ⟨x0, x1, x2, _⟩ := HX.out
      obtain ⟨y0, y1, y2, _⟩ := HY.out
      go_wp2_with fail
      go_ret2
      exact ⟨by rw [HQ.out, HP.out]; rfl, hb2⟩
    · have HQ := Lib.hid (show cO ⟨k1, t1, i1⟩ ⟨k1, t2, i2⟩ = wtT k1 by unfold cO cst; rw [HP.out, hsm]; simp [k6, k6 ▸ kk])
      have kr := strl_ne kk
      have kr2 := str_ne kk
      clear q hsm kk k6
      go_enter Try.func45, Try.ntmps45
      go_wp2_with fail
      refine (HS.out _).mono ?_; rintro e w1 ⟨rfl, hb⟩
      have hb1 := BelowOn hb0 hb
      have HX := Lib.hid (HX.out.call hb); have HY := Lib.hid (HY.out.call hb)
      clear hb
      obtain ⟨x0, x1, x2, _⟩ := HX.out
      obtain ⟨y0, y1, y2, _⟩ := HY.out
      go_wp2_with fail
      have rx0 := cell_regrown x0
      have rx1 := cell_regrown x1
      have rx2 := cell_regrown x2
      have ry0 := cell_regrown y0
      have ry1 := cell_regrown y1
      have ry2 := cell_regrown y2
      have c1 := fun d os => Calls.regrown_of (HK1.out (grow (redrawn w1 d) os))
      have c2 := fun d os => Calls.regrown_of (HK2.out (grow (redrawn w1 d) os))
      refine wp_region_quiet_below (by kernel_rfl) (by kernel_rfl) ?_
      iterate 6 (go_big_quiet_step (exact c1 _ _))
      iterate 2 (go_big_quiet_step (exact c2 _ _))
      repeat (go_big_quiet_step (fail))
      refine wpQuiet_nil ?_
      intro _ hw'
      obtain ⟨⟨dq, osq⟩, hw''⟩ := hw'
      subst hw''
      have hb := below_regrown w1 dq osq
      generalize grow (redrawn w1 dq) osq = w2 at *
      clear rx0 rx1 rx2 ry0 ry1 ry2 c1 c2
      clear x0 x1 x2 y0 y1 y2
      have hb2 := BelowOn hb1 hb
      have HX := Lib.hid (HX.out.call hb); have HY := Lib.hid (HY.out.call hb)
      clear hb
      obtain ⟨x0, x1, x2, _⟩ := HX.out
      obtain ⟨y0, y1, y2, _⟩ := HY.out
      go_wp2_with fail
      refine (HW.out _).mono ?_; rintro e w3 ⟨rfl, hb⟩
      clear x0 x1 x2 y0 y1 y2
      have hb3 := BelowOn hb2 hb
      have HX := Lib.hid (HX.out.call hb); have HY := Lib.hid (HY.out.call hb)
      clear hb
      obtain ⟨x0, x1, x2, _⟩ := HX.out
      obtain ⟨y0, y1, y2, _⟩ := HY.out
      go_wp2_with fail
      go_ret2
      exact ⟨by rw [HQ.out, HP.out]; rfl, hb3⟩
  · have e6 : (k1 == 6) = false := by simpa using k6
    have HQ := Lib.hid (show cO ⟨k1, t1, i1⟩ ⟨k1, t2, i2⟩ = wtT k1 by unfold cO cst; rw [HP.out, hsm]; simp [k6])
    clear q hsm k6
    go_enter Try.func45, Try.ntmps45
    go_wp2_with fail
    refine (HS.out _).mono ?_; rintro e w1 ⟨rfl, hb⟩
    have hb1 := BelowOn hb0 hb
    have HX := Lib.hid (HX.out.call hb); have HY := Lib.hid (HY.out.call hb)
    clear hb
    obtain ⟨x0, x1, x2, _⟩ := HX.out
    obtain ⟨y0, y1, y2, _⟩ := HY.out
    go_wp2_with fail
    have rx0 := cell_regrown x0
    have rx1 := cell_regrown x1
    have rx2 := cell_regrown x2
    have ry0 := cell_regrown y0
    have ry1 := cell_regrown y1
    have ry2 := cell_regrown y2
    refine wp_region_quiet_below (by kernel_rfl) (by kernel_rfl) ?_
    repeat (go_big_quiet_step (fail))
    refine wpQuiet_nil ?_
    intro _ hw'
    obtain ⟨⟨dq, osq⟩, hw''⟩ := hw'
    subst hw''
    have hb := below_regrown w1 dq osq
    generalize grow (redrawn w1 dq) osq = w2 at *
    clear rx0 rx1 rx2 ry0 ry1 ry2 
    clear x0 x1 x2 y0 y1 y2
    have hb2 := BelowOn hb1 hb
    have HX := Lib.hid (HX.out.call hb); have HY := Lib.hid (HY.out.call hb)
    clear hb
    obtain ⟨x0, x1, x2, _⟩ := HX.out
    obtain ⟨y0, y1, y2, _⟩ := HY.out
    go_wp2_with fail
    refine (HW.out _).mono ?_; rintro e w3 ⟨rfl, hb⟩
    clear x0 x1 x2 y0 y1 y2
    have hb3 := BelowOn hb2 hb
    have HX := Lib.hid (HX.out.call hb); have HY := Lib.hid (HY.out.call hb)
    clear hb
    obtain ⟨x0, x1, x2, _⟩ := HX.out
    obtain ⟨y0, y1, y2, _⟩ := HY.out
    go_wp2_with fail
    go_ret2
    exact ⟨by rw [HQ.out, HP.out]; rfl, hb3⟩
end Go.Proofs.Ytpkipdiecnokhaa
namespace Go.Proofs.Ytpkipdiecnokhaa
open Go.ChangeShapes Go.WideShapes Go.ChangeAt Go.RowKit Go.Sort
set_option linter.unusedVariables false
set_option linter.unusedSimpArgs false
set_option maxRecDepth 100000

/-- A row of m numbers that fills block B; known from lo on. -/
structure NumR (B m lo : Nat) (f : Nat → Nat) (W : World) : Prop where
  row : ∃ cur : Array Value, W.heap[B]? = some (.cells cur 3 (0, 0)) ∧ cur.size = m ∧ ∀ j, lo ≤ j → j < m → cur[j]? = some (.int .i64 (f j : Nat))
section
variable {B m lo : Nat} {f : Nat → Nat} {W W' : World}
theorem NumR.keep (h : NumR B m lo f W) (hb : W'.heap[B]? = W.heap[B]?) : NumR B m lo f W' := by
  obtain ⟨cur, h1, h2⟩ := h.row; exact ⟨cur, hb.trans h1, h2⟩
theorem NumR.lt (h : NumR B m lo f W) : B < W.heap.size := by
  obtain ⟨cur, h1, h2⟩ := h.row; exact heap_lt h1
theorem NumR.cell (h : NumR B m lo f W) (j : Nat) (h1 : lo ≤ j) (h2 : j < m) : W.cell? ⟨B, j, none⟩ = some (.int .i64 (f j : Nat)) := by
  obtain ⟨cur, h3, h4, h5⟩ := h.row; rw [Lib.cell_of_heap h3]; exact h5 j h1 h2
theorem NumR.any (h : NumR B m lo f W) (j : Nat) (h2 : j < m) : ∃ v, W.cell? ⟨B, j, none⟩ = some v := by
  obtain ⟨cur, h3, h4, h5⟩ := h.row; rw [Lib.cell_of_heap h3]; exact ⟨_, Array.getElem?_eq_getElem (by omega)⟩
theorem NumR.frozen (h : NumR B m lo f W) (j : Nat) : W.frozen? ⟨B, j, none⟩ = false := by
  obtain ⟨cur, h3, h4, h5⟩ := h.row; exact Lib.frozen_of_heap h3 _
theorem NumR.put {j : Nat} (h : NumR B m (j + 1) f W) (hj : j < m) : NumR B m j f (W.setCell ⟨B, j, none⟩ (.int .i64 (f j : Nat))) := by
  obtain ⟨cur, h3, h4, h5⟩ := h.row
  refine ⟨_, setCell_at W B j cur 3 _ h3, by simp [h4], fun i h1 h2 => ?_⟩
  by_cases e : j = i
  · subst e; rw [Array.getElem?_setIfInBounds]; simp [h4, hj]
  · rw [Array.getElem?_setIfInBounds, if_neg e]; exact h5 i (by omega) h2
end
/-- The rows from lo on; the row lo itself is known from k on. -/
structure Tab (base G n m lo k : Nat) (Bk : Nat → Nat) (f : Nat → Nat → Nat) (W : World) : Prop where
  gb : base ≤ G
  tab : ∃ cur : Array Value, W.heap[G]? = some (.cells cur 23 (0, 0)) ∧ cur.size = n ∧ ∀ i, lo ≤ i → i < n → cur[i]? = some (.slice (some ⟨Bk i, 0, none⟩) m m)
  bb : ∀ i, lo ≤ i → i < n → base ≤ Bk i ∧ Bk i ≠ G
  nn : ∀ i j, lo ≤ i → i < j → j < n → Bk i ≠ Bk j
  rows : ∀ i, lo ≤ i → i < n → NumR (Bk i) m (if i = lo then k else 0) (f i) W
section
variable {base G n m lo k : Nat} {Bk : Nat → Nat} {f : Nat → Nat → Nat} {W W' : World}
theorem Tab.call (h : Tab base G n m lo k Bk f W) (hb : Below W.heap.size W W') : Tab base G n m lo k Bk f W' := by
  obtain ⟨cur, h1, h2⟩ := h.tab
  exact ⟨h.gb, ⟨cur, (hb.block G (heap_lt h1)).trans h1, h2⟩, h.bb, h.nn, fun i a b => (h.rows i a b).keep (hb.block _ (h.rows i a b).lt)⟩
theorem Tab.cellG (h : Tab base G n m lo k Bk f W) (i : Nat) (h1 : lo ≤ i) (h2 : i < n) : W.cell? ⟨G, i, none⟩ = some (.slice (some ⟨Bk i, 0, none⟩) m m) := by
  obtain ⟨cur, h3, h4, h5⟩ := h.tab; rw [Lib.cell_of_heap h3]; exact h5 i h1 h2
theorem Tab.anyG (h : Tab base G n m lo k Bk f W) (i : Nat) (h2 : i < n) : ∃ v, W.cell? ⟨G, i, none⟩ = some v := by
  obtain ⟨cur, h3, h4, h5⟩ := h.tab; rw [Lib.cell_of_heap h3]; exact ⟨_, Array.getElem?_eq_getElem (by omega)⟩
theorem Tab.frozenG (h : Tab base G n m lo k Bk f W) (i : Nat) : W.frozen? ⟨G, i, none⟩ = false := by
  obtain ⟨cur, h3, h4, h5⟩ := h.tab; exact Lib.frozen_of_heap h3 _
theorem Tab.ltG (h : Tab base G n m lo k Bk f W) : G < W.heap.size := by
  obtain ⟨cur, h3, h4, h5⟩ := h.tab; exact heap_lt h3
theorem Tab.up (h : Tab base G n m lo k Bk f W) (i j : Nat) (h1 : lo < i) (h2 : i < n) (h3 : j < m) : W.cell? ⟨Bk i, j, none⟩ = some (.int .i64 (f i j : Nat)) := by
  have := h.rows i (by omega) h2; rw [if_neg (by omega)] at this; exact this.cell j (Nat.zero_le _) h3
theorem Tab.cur (h : Tab base G n m lo k Bk f W) (j : Nat) (h1 : lo < n) (h2 : k ≤ j) (h3 : j < m) : W.cell? ⟨Bk lo, j, none⟩ = some (.int .i64 (f lo j : Nat)) := by
  have := h.rows lo (Nat.le_refl _) h1; rw [if_pos rfl] at this; exact this.cell j h2 h3
theorem Tab.put {j : Nat} (h : Tab base G n m lo (j + 1) Bk f W) (h1 : lo < n) (hj : j < m) : Tab base G n m lo j Bk f (W.setCell ⟨Bk lo, j, none⟩ (.int .i64 (f lo j : Nat))) := by
  obtain ⟨cur, h2, h3⟩ := h.tab
  have hg := grow_cell W (Bk lo) j (.int .i64 (f lo j : Nat))
  refine ⟨h.gb, ⟨cur, (hg.block G (heap_lt h2) (fun e => (h.bb lo (Nat.le_refl _) h1).2 (Option.some.inj e).symm)).trans h2, h3⟩, h.bb, h.nn, fun i a b => ?_⟩
  by_cases e : i = lo
  · subst e
    have := h.rows i a b
    rw [if_pos rfl] at this ⊢
    exact this.put hj
  · have := h.rows i a b
    rw [if_neg e] at this ⊢
    exact this.keep (hg.block _ this.lt (fun c => h.nn lo i (Nat.le_refl _) (by omega) b (Option.some.inj c).symm))
theorem Tab.putB {j : Nat} (h : Tab base G n m lo (j + 1) Bk f W) (h1 : lo < n) {a : World} (hb : Below base a W) (v : Value) : Below base a (W.setCell ⟨Bk lo, j, none⟩ v) := by
  obtain ⟨cur, h2, h3⟩ := h.tab
  exact below_of_grow hb (grow_cell W (Bk lo) j v) (Nat.le_trans h.gb (Nat.le_of_lt (heap_lt h2))) (h.bb lo (Nat.le_refl _) h1).1
/-- The next row is laid. -/
theorem Tab.next {i : Nat} {B : Nat} {cs : Array Value} (h : Tab base G n m (i + 1) 0 Bk f W) (hi : i < n) (hB : W.heap.size = B) (hm : cs.size = m) : Tab base G n m i m (fun r => if r = i then B else Bk r) f ((W.setCell ⟨G, i, none⟩ (.slice (some ⟨B, 0, none⟩) m m)).alloc (.cells cs 3)) := by
  obtain ⟨cur, h2, h3, h4⟩ := h.tab
  have hlt := heap_lt h2
  have hs : (W.setCell ⟨G, i, none⟩ (.slice (some ⟨B, 0, none⟩) m m)).heap.size = B := by simp [hB]
  have hb : Below B (W.setCell ⟨G, i, none⟩ (.slice (some ⟨B, 0, none⟩) m m)) ((W.setCell ⟨G, i, none⟩ (.slice (some ⟨B, 0, none⟩) m m)).alloc (.cells cs 3)) := by
    have := blw (Below.refl (W.setCell ⟨G, i, none⟩ (.slice (some ⟨B, 0, none⟩) m m)).heap.size (W.setCell ⟨G, i, none⟩ (.slice (some ⟨B, 0, none⟩) m m))) (.cells cs 3)
    rw [hs] at this; exact this
  have hg := grow_cell W G i (.slice (some ⟨B, 0, none⟩) m m)
  refine ⟨h.gb, ⟨_, (hb.block G (by omega)).trans (setCell_at W G i cur _ _ h2), by simp [h3], fun r a b => ?_⟩, fun r a b => ?_, fun r s a b c => ?_, fun r a b => ?_⟩
  · rw [Array.getElem?_setIfInBounds]
    by_cases e : i = r
    · subst e; rw [if_pos rfl, if_pos rfl, if_pos (by omega)]
    · rw [if_neg e, if_neg (fun c => e c.symm)]; exact h4 r (by omega) b
  · have hgb := h.gb
    by_cases e : r = i
    · simp only [e, if_true]; exact ⟨by omega, by omega⟩
    · simp only [e, if_false]; exact h.bb r (by omega) b
  · by_cases e : r = i
    · have := (h.rows s (by omega) c).lt
      simp only [e, if_true, show ¬ s = i by omega, if_false]; omega
    · simp only [e, if_false, show ¬ s = i by omega]; exact h.nn r s (by omega) b c
  · by_cases e : r = i
    · subst e
      simp only [if_true]
      have hh := heap_alloc_new (W.setCell ⟨G, r, none⟩ (.slice (some ⟨B, 0, none⟩) m m)) (.cells cs 3)
      rw [hs] at hh
      exact ⟨cs, hh, hm, fun j a b => by omega⟩
    · simp only [e, if_false]
      have := h.rows r (by omega) b
      have h0 : (if r = i + 1 then 0 else 0) = 0 := by split <;> rfl
      rw [h0] at this
      have hlt2 := this.lt
      refine (this.keep (hg.block _ this.lt (fun c => (h.bb r (by omega) b).2 (Option.some.inj c)))).keep (hb.block _ (by omega))
theorem Tab.nextB {i : Nat} {cs : Array Value} (h : Tab base G n m (i + 1) 0 Bk f W) {a : World} (hb : Below base a W) (v : Value) : Below base a ((W.setCell ⟨G, i, none⟩ v).alloc (.cells cs 3)) := by
  obtain ⟨cur, h2, h3⟩ := h.tab
  have hlt := heap_lt h2
  have hgb := h.gb
  have := below_of_grow hb (grow_cell W G i v) (by omega) h.gb
  exact this.trans ((blw (Below.refl _ _) _).mono (by simp; omega))
/-- Row lo is whole. -/
theorem Tab.whole (h : Tab base G n m lo 0 Bk f W) (h1 : lo < n) (i j : Nat) (h2 : lo ≤ i) (h3 : i < n) (h4 : j < m) : W.cell? ⟨Bk i, j, none⟩ = some (.int .i64 (f i j : Nat)) := by
  rcases Nat.lt_or_ge lo i with e | e
  · exact h.up i j e h3 h4
  · have : i = lo := by omega
    subst this; exact h.cur j h1 (Nat.zero_le _) h4
end
theorem Tab.start {base n m : Nat} {Bk : Nat → Nat} {f : Nat → Nat → Nat} {W : World} {cs : Array Value} (hb : base ≤ W.heap.size) (hn : cs.size = n) : Tab base W.heap.size n m n 0 Bk f (W.alloc (.cells cs 23)) :=
  ⟨hb, ⟨cs, heap_alloc_new W _, hn, fun i a b => by omega⟩, fun i a b => by omega, fun i j a b c => by omega, fun i a b => by omega⟩
theorem made_size (zc : Array Value) (n : Nat) : (madeCells zc n).size = n := by unfold madeCells; simp
theorem infoN : (Try.prog.info? 3).map (fun i => (i.zero, i.size, i.bytes)) = some (some (.int .i64 0), 1, 8) := by kernel_rfl
theorem infoR : (Try.prog.info? 23).map (fun i => (i.zero, i.size, i.bytes)) = some (some (.slice none 0 0), 1, 24) := by kernel_rfl
theorem make_ints (w : World) (n : Nat) (hn : n ≤ 1000000) : ∃ cs, (Instr.makeSlice 23 (.int .i64 (n : Int)) (.int .i64 (n : Int))).run Try.prog w = .ok (.slice (some ⟨w.heap.size, 0, none⟩) n n) (w.alloc (.cells cs 3)) ∧ cs.size = n := by
  cases hi : Try.prog.info? 3 with
  | none => have := infoN; rw [hi] at this; cases this
  | some i =>
    have h4 := infoN
    rw [hi] at h4
    simp only [Option.map_some, Option.some.injEq, Prod.mk.injEq] at h4
    obtain ⟨hz, hs, hb⟩ := h4
    have := run_make (P := Try.prog) w 23 3 i _ Try.underlying23 hi hz .i64 .i64 (n : Int) (n : Int) (by omega) (by omega) (by rw [hb]; omega) (by omega)
    refine ⟨madeCells (Value.int .i64 0).cells n, ?_, made_size _ _⟩
    rw [this, hs, show ((n : Int)).toNat = n by omega, Nat.mul_one]
theorem make_tab (w : World) (n : Nat) (hn : n ≤ 1000000) : ∃ cs, (Instr.makeSlice 66 (.int .i64 (n : Int)) (.int .i64 (n : Int))).run Try.prog w = .ok (.slice (some ⟨w.heap.size, 0, none⟩) n n) (w.alloc (.cells cs 23)) ∧ cs.size = n := by
  cases hi : Try.prog.info? 23 with
  | none => have := infoR; rw [hi] at this; cases this
  | some i =>
    have h4 := infoR
    rw [hi] at h4
    simp only [Option.map_some, Option.some.injEq, Prod.mk.injEq] at h4
    obtain ⟨hz, hs, hb⟩ := h4
    have := run_make (P := Try.prog) w 66 23 i _ Try.underlying66 hi hz .i64 .i64 (n : Int) (n : Int) (by omega) (by omega) (by rw [hb]; omega) (by omega)
    refine ⟨madeCells (Value.slice none 0 0).cells n, ?_, made_size _ _⟩
    rw [this, hs, show ((n : Int)).toNat = n by omega, Nat.mul_one]
/-- The least sums for the last tokens of both lists. -/
def dT (a b : List It) (i k : Nat) : Nat := dst (a.drop i) (b.drop k)
theorem dT_end (a b : List It) : dT a b a.length b.length = 0 := by unfold dT; rw [List.drop_length, List.drop_length]; rfl
theorem dT_del (a b : List It) (i : Nat) (h : i < a.length) : dT a b i b.length = stp (a[i]'h) + dT a b (i + 1) b.length := by
  unfold dT; rw [List.drop_length, List.drop_eq_getElem_cons h]; rfl
theorem dT_ins (a b : List It) (k : Nat) (h : k < b.length) : dT a b a.length k = stp (b[k]'h) + dT a b a.length (k + 1) := by
  unfold dT; rw [List.drop_length, List.drop_eq_getElem_cons h]; rfl
theorem dT_ok (a b : List It) (i k : Nat) (h : i < a.length) (g : k < b.length) (ho : okP (a[i]'h) (b[k]'g) = true) : dT a b i k = min (cst (a[i]'h) (b[k]'g) + dT a b (i + 1) (k + 1)) (min (stp (a[i]'h) + dT a b (i + 1) k) (stp (b[k]'g) + dT a b i (k + 1))) := by
  unfold dT; rw [List.drop_eq_getElem_cons h, List.drop_eq_getElem_cons g]; exact dst_ok _ _ ho
theorem dT_no (a b : List It) (i k : Nat) (h : i < a.length) (g : k < b.length) (ho : okP (a[i]'h) (b[k]'g) = false) : dT a b i k = min (stp (a[i]'h) + dT a b (i + 1) k) (stp (b[k]'g) + dT a b i (k + 1)) := by
  unfold dT; rw [List.drop_eq_getElem_cons h, List.drop_eq_getElem_cons g]; exact dst_no _ _ ho
theorem dT_le (a b : List It) (i k : Nat) : dT a b i k ≤ 4 * (a.length + b.length) := by
  unfold dT
  have : ∀ (a b : List It), dst a b ≤ stL a + stL b := by
    intro a b
    induction a with
    | nil => rw [dst_nil]; exact Nat.le_add_left _ _
    | cons x a ih => have := dst_del x a b; rw [stL]; omega
  have h1 := this (a.drop i) (b.drop k)
  have h2 := stL_le (a.drop i); have h3 := stL_le (b.drop k)
  simp only [List.length_drop] at h2 h3
  omega
end Go.Proofs.Ytpkipdiecnokhaa
namespace Go.Proofs.Ytpkipdiecnokhaa
open Go.ChangeShapes Go.WideShapes Go.ChangeAt Go.RowKit Go.Sort
set_option linter.unusedVariables false
set_option linter.unusedSimpArgs false
set_option maxRecDepth 100000

set_option maxHeartbeats 12800000 in
theorem rtable_any (p q : Option Addr) (c d : Nat) (a b : List It) (w : World) (hA : Its w p a) (hB : Its w q b) (hc : a.length ≤ c) (hd : b.length ≤ d) (hcm : c ≤ maxLen) (hdm : d ≤ maxLen) (ha : a.length ≤ 1000) (hb : b.length ≤ 1000) (ta : txtsB a) (tb : txtsB b) :
    Calls Try.prog 42 #[.slice p a.length c, .slice q b.length d] w fun e w' => ∃ G Bk, e = .returned (.slice (some ⟨G, 0, none⟩) (a.length + 1) (a.length + 1)) ∧ Below w.heap.size w w' ∧ Tab w.heap.size G (a.length + 1) (b.length + 1) 0 0 Bk (dT a b) w' := by
  obtain ⟨n1, hn1⟩ : ∃ n1, n1 = a.length + 1 := ⟨_, rfl⟩
  obtain ⟨m1, hm1⟩ : ∃ m1, m1 = b.length + 1 := ⟨_, rfl⟩
  rw [← hn1, ← hm1]
  obtain ⟨cs, hmk, hcs⟩ := make_tab w n1 (by omega)
  rw [show (n1 : Int) = (a.length : Int) + 1 by omega] at hmk
  have hT0 : Tab w.heap.size w.heap.size n1 m1 n1 0 (fun _ => 0) (dT a b) (w.alloc (.cells cs 23)) := Tab.start (Nat.le_refl _) hcs
  have hB0 : Below w.heap.size w (w.alloc (.cells cs 23)) := blw (Below.refl _ _) _
  have hMK := fun W => make_ints W m1 (by omega)
  rw [show (m1 : Int) = (b.length : Int) + 1 by omega] at hMK
  have HMK := Lib.hid hMK
  have HCO := Lib.hid (fun x y W hx hy => rcost_any x y W hx hy)
  have HAL := Lib.hid (fun k t id W => alone_any k t id W)
  have HDE := Lib.hid (dT_end a b)
  have HDD := Lib.hid (fun i h => dT_del a b i h)
  have HDI := Lib.hid (fun k h => dT_ins a b k h)
  have HDO := Lib.hid (fun i k h g ho => dT_ok a b i k h g ho)
  have HDN := Lib.hid (fun i k h g ho => dT_no a b i k h g ho)
  have HDL := Lib.hid (fun i k => dT_le a b i k)
  have HTA := Lib.hid ta; have HTB := Lib.hid tb
  have hwa : IntKind.i64.wrap ((a.length : Int) + 1) = (a.length : Int) + 1 := IntWalk.i64_in _ ⟨by omega, by omega⟩
  have hwb : IntKind.i64.wrap ((b.length : Int) + 1) = (b.length : Int) + 1 := IntWalk.i64_in _ ⟨by omega, by omega⟩
  have HN1 := Lib.hid hn1; have HM1 := Lib.hid hm1
  clear hMK ta tb hcs
  unfold maxLen at hcm hdm
  have hn1' : (n1 : Int) ≤ 1001 := by omega
  have hm1' : (m1 : Int) ≤ 1001 := by omega
  clear hn1 hm1
  go_enter Try.func42, Try.ntmps42
  go_wp2_with fail
  generalize (w.alloc (.cells cs 23)) = w1 at *
  clear hmk hwa
  go_loopw [6] (fun i wr => ∃ (z : Int) (r : Nat) (Bk : Nat → Nat), r ≤ n1 ∧ i = .int .i64 z ∧ z = (r : Int) - 1 ∧ Below w.heap.size w wr ∧ Tab w.heap.size w.heap.size n1 m1 r 0 Bk (dT a b) wr) (fun i _ => (intOf i + 1).toNat)
  case atStart => exact ⟨_, n1, _, Nat.le_refl _, rfl, by have := HN1.out; omega, hB0, hT0⟩
  case round =>
    obtain ⟨z, r, Bk, hr, rfl, hz, hBw, hT⟩ := hrel
    clear hB0 hT0
    cases r with
    | zero =>
      have hzn : ¬ (0 : Int) ≤ z := by omega
      clear hz
      have HX := Lib.hid (And.intro hBw hT)
      clear hBw hT hwb
      go_wp2_with fail
      obtain ⟨hBw, hT⟩ := HX.out
      go_ret
      exact ⟨w.heap.size, rfl, hBw, Bk, hT⟩
    | succ s =>
      obtain rfl : z = (s : Int) := by omega
      clear hz
      obtain ⟨cs2, hmk2, hcs2⟩ := HMK.out wr
      have hs1 : s < n1 := by omega
      have hT2 := hT.next (cs := cs2) hs1 rfl hcs2
      have hB2 := hT.nextB (i := s) (cs := cs2) hBw (.slice (some ⟨wr.heap.size, 0, none⟩) m1 m1)
      obtain ⟨v0, c0⟩ := hT.anyG s hs1
      have f0 := hT.frozenG s
      have hlt := hT.ltG
      have i1 : (s : Int) < (n1 : Int) := by omega
      have HX := Lib.hid (And.intro hT2 hB2)
      clear hT2 hB2 hT hBw hcs2
      go_wp2_with fail
      obtain ⟨hT2, hB2⟩ := HX.out
      clear HX c0 f0 hmk2
      obtain ⟨Bk2, hT3⟩ : ∃ Bk2, Tab w.heap.size w.heap.size n1 m1 s m1 Bk2 (dT a b) ((wr.setCell ⟨w.heap.size, s, none⟩ (.slice (some ⟨wr.heap.size, 0, none⟩) m1 m1)).alloc (.cells cs2 3)) := ⟨_, hT2⟩
      clear hT2 hlt
      generalize ((wr.setCell ⟨w.heap.size, s, none⟩ (.slice (some ⟨wr.heap.size, 0, none⟩) m1 m1)).alloc (.cells cs2 3)) = w2 at *
      clear hwb
      go_loopw [7] (fun j wr => ∃ (y : Int) (k : Nat), k ≤ m1 ∧ j = .int .i64 y ∧ y = (k : Int) - 1 ∧ Below w.heap.size w wr ∧ Tab w.heap.size w.heap.size n1 m1 s k Bk2 (dT a b) wr) (fun j _ => (intOf j + 1).toNat)
      case atStart => exact ⟨_, m1, Nat.le_refl _, rfl, by have := HM1.out; omega, hB2, hT3⟩
      case round =>
        obtain ⟨y, k, hk, rfl, hy, hBw, hT⟩ := hrel
        clear hB2 hT3
        cases k with
        | zero =>
          have hyn : ¬ (0 : Int) ≤ y := by omega
          clear hy
          have HX := Lib.hid (And.intro hBw hT)
          clear hBw hT
          go_wp2_with fail
          obtain ⟨hBw, hT⟩ := HX.out
          go_roundw
          case rel => exact ⟨_, s, Bk2, by omega, rfl, rfl, hBw, hT⟩
          case measure => simp [intOf] <;> omega
        | succ t =>
          obtain rfl : y = (t : Int) := by omega
          clear hy
          have ht1 : t < m1 := by omega
          have j1 : (t : Int) < (m1 : Int) := by omega
          have hput := fun W (h : Tab w.heap.size w.heap.size n1 m1 s (t + 1) Bk2 (dT a b) W) (hb : Below w.heap.size w W) => And.intro (h.put hs1 ht1) (h.putB hs1 hb (.int .i64 (dT a b s t : Nat)))
          have hst := fun W (h : Tab w.heap.size w.heap.size n1 m1 s (t + 1) Bk2 (dT a b) W) => And.intro (h.cellG s (Nat.le_refl _) hs1) (And.intro ((h.rows s (Nat.le_refl _) hs1).any t ht1) ((h.rows s (Nat.le_refl _) hs1).frozen t))
          have HR := Lib.hid (And.intro hBw hT)
          have n1e := HN1.out; have m1e := HM1.out
          have hAr := Lib.hid (hA.call hBw); have hBr := Lib.hid (hB.call hBw)
          clear hBw hT
          rcases Nat.lt_or_ge s a.length with hsA | hsA
          · skip
            have sA : (s : Int) < (a.length : Int) := by omega
            have hts : ((s : Int) + 1).toNat = s + 1 := by omega
            have hws : IntKind.i64.wrap ((s : Int) + 1) = (s : Int) + 1 := IntWalk.i64_in _ ⟨by omega, by omega⟩
            have i2 : (s : Int) + 1 < (n1 : Int) := by omega
            have i0 : (0 : Int) ≤ (s : Int) + 1 := by omega
            rcases Nat.lt_or_ge t b.length with htB | htB
            · skip
              have tB : (t : Int) < (b.length : Int) := by omega
              have htt : ((t : Int) + 1).toNat = t + 1 := by omega
              have hwt : IntKind.i64.wrap ((t : Int) + 1) = (t : Int) + 1 := IntWalk.i64_in _ ⟨by omega, by omega⟩
              have j2 : (t : Int) + 1 < (m1 : Int) := by omega
              have j0 : (0 : Int) ≤ (t : Int) + 1 := by omega
              have hDo := HDO.out s t hsA htB
              have hDn := HDN.out s t hsA htB
              have hcO : okP a[s] b[t] = true → cO a[s] b[t] = cst a[s] b[t] := fun h => by unfold cO; rw [if_pos h]
              have l1 := HDL.out (s + 1) (t + 1); have l2 := HDL.out (s + 1) t; have l3 := HDL.out s (t + 1)
              have c4 := cO_le a[s] b[t]; have s4 := stp_le4 a[s]; have u4 := stp_le4 b[t]
              have hco := fun W => HCO.out a[s] b[t] W (HTA.out _ (List.getElem_mem hsA)) (HTB.out _ (List.getElem_mem htB))
              have hal : ∀ W, Calls Try.prog 46 #[.agg #[.int .i64 a[s].k, .string a[s].t, .int .i64 a[s].id]] W fun e w' => e = .returned (.int .i64 (stp a[s] : Nat)) ∧ Below W.heap.size W w' := fun W => HAL.out a[s].k a[s].t a[s].id W
              have hbl : ∀ W, Calls Try.prog 46 #[.agg #[.int .i64 b[t].k, .string b[t].t, .int .i64 b[t].id]] W fun e w' => e = .returned (.int .i64 (stp b[t] : Nat)) ∧ Below W.heap.size W w' := fun W => HAL.out b[t].k b[t].t b[t].id W
              obtain ⟨ad, rfl, had, x0, x1, x2⟩ := hAr.out.row s hsA
              obtain ⟨bd, rfl, hbd, y0, y1, y2⟩ := hBr.out.row t htB
              generalize a[s] = X at *
              generalize b[t] = Y at *
              have hDo2 : okP X Y = true → dT a b s t = min (cO X Y + dT a b (s + 1) (t + 1)) (min (stp X + dT a b (s + 1) t) (stp Y + dT a b s (t + 1))) := fun h => by rw [hcO h]; exact hDo h
              obtain ⟨D1, E1⟩ : ∃ D, D = dT a b (s + 1) (t + 1) := ⟨_, rfl⟩
              obtain ⟨D2, E2⟩ : ∃ D, D = dT a b (s + 1) t := ⟨_, rfl⟩
              obtain ⟨D3, E3⟩ : ∃ D, D = dT a b s (t + 1) := ⟨_, rfl⟩
              rw [← E1, ← E2, ← E3] at hDo2
              rw [← E2, ← E3] at hDn
              rw [← E1] at l1; rw [← E2] at l2; rw [← E3] at l3
              replace E1 := Lib.hid E1; replace E2 := Lib.hid E2; replace E3 := Lib.hid E3
              clear hDo hcO
              generalize cO X Y = C at *
              generalize stp X = S1 at *
              generalize stp Y = S2 at *
              have HDO2 := Lib.hid hDo2; have HDN2 := Lib.hid hDn
              have hwC : IntKind.i64.wrap ((C : Int) + (D1 : Int)) = (C : Int) + (D1 : Int) := IntWalk.i64_in _ ⟨by omega, by omega⟩
              have hw1 : IntKind.i64.wrap ((S1 : Int) + (D2 : Int)) = (S1 : Int) + (D2 : Int) := IntWalk.i64_in _ ⟨by omega, by omega⟩
              have hw2 : IntKind.i64.wrap ((S2 : Int) + (D3 : Int)) = (S2 : Int) + (D3 : Int) := IntWalk.i64_in _ ⟨by omega, by omega⟩
              clear hDo2 hDn n1e m1e had hbd
              go_wp2_with fail
              have qx0 := cell_regrown x0; have qx1 := cell_regrown x1; have qx2 := cell_regrown x2; have qy0 := cell_regrown y0; have qy1 := cell_regrown y1; have qy2 := cell_regrown y2
              have e1 := fun d os => Calls.regrown_of (hco (grow (redrawn wr d) os))
              refine wp_region_quiet_below (by kernel_rfl) (by kernel_rfl) ?_
              repeat (go_big_quiet_step (exact e1 _ _))
              refine wpQuiet_nil ?_
              intro _ hw'
              obtain ⟨⟨dq, osq⟩, hw''⟩ := hw'
              subst hw''
              have hb2 := below_regrown wr dq osq
              replace x0 := qx0 dq osq; replace x1 := qx1 dq osq; replace x2 := qx2 dq osq; replace y0 := qy0 dq osq; replace y1 := qy1 dq osq; replace y2 := qy2 dq osq
              generalize grow (redrawn wr dq) osq = v1 at *
              replace HR := Lib.hid (And.intro (BelowOn HR.out.1 hb2) (HR.out.2.call hb2))
              clear hb2 e1 qx0 qx1 qx2 qy0 qy1 qy2
              cases ho : okP X Y with
              | true =>
                have HD := Lib.hid (HDO2.out ho)
                clear HDO2 HDN2
                have g0 := HR.out.2.cellG (s + 1) (by omega) (by omega)
                have g1 := HR.out.2.up (s + 1) (t + 1) (by omega) (by omega) (by omega)
                rw [← E1.out] at g1
                go_wp2_with fail
                clear g0 g1 ho
                have g0 := HR.out.2.cellG (s + 1) (by omega) (by omega)
                have g1 := HR.out.2.up (s + 1) t (by omega) (by omega) (by omega)
                rw [← E2.out] at g1
                have qx0 := cell_regrown x0; have qx1 := cell_regrown x1; have qx2 := cell_regrown x2; have qg0 := cell_regrown g0; have qg1 := cell_regrown g1; have qy0 := cell_regrown y0; have qy1 := cell_regrown y1; have qy2 := cell_regrown y2
                have e1 := fun d os => Calls.regrown_of (hal (grow (redrawn v1 d) os))
                refine wp_region_quiet_below (by kernel_rfl) (by kernel_rfl) ?_
                repeat (go_big_quiet_step (exact e1 _ _))
                refine wpQuiet_nil ?_
                intro _ hw'
                obtain ⟨⟨dq, osq⟩, hw''⟩ := hw'
                subst hw''
                have hb2 := below_regrown v1 dq osq
                replace y0 := qy0 dq osq; replace y1 := qy1 dq osq; replace y2 := qy2 dq osq
                generalize grow (redrawn v1 dq) osq = v2 at *
                replace HR := Lib.hid (And.intro (BelowOn HR.out.1 hb2) (HR.out.2.call hb2))
                clear hb2 e1 g0 g1 qx0 qx1 qx2 qg0 qg1 qy0 qy1 qy2 x0 x1 x2
                by_cases p2 : (S1 : Int) + (D2 : Int) < ((C : Int) + (D1 : Int))
                · skip
                  by_cases p3 : (S2 : Int) + (D3 : Int) < ((S1 : Int) + (D2 : Int))
                  · skip
                    go_wp2_with fail
                    have g0 := HR.out.2.cellG s (Nat.le_refl _) hs1
                    have g1 := HR.out.2.cur (t + 1) hs1 (Nat.le_refl _) (by omega)
                    rw [← E3.out] at g1
                    have qy0 := cell_regrown y0; have qy1 := cell_regrown y1; have qy2 := cell_regrown y2; have qg0 := cell_regrown g0; have qg1 := cell_regrown g1
                    have e1 := fun d os => Calls.regrown_of (hbl (grow (redrawn v2 d) os))
                    refine wp_region_quiet_below (by kernel_rfl) (by kernel_rfl) ?_
                    repeat (go_big_quiet_step (exact e1 _ _))
                    refine wpQuiet_nil ?_
                    intro _ hw'
                    obtain ⟨⟨dq, osq⟩, hw''⟩ := hw'
                    subst hw''
                    have hb2 := below_regrown v2 dq osq
                    generalize grow (redrawn v2 dq) osq = v3 at *
                    replace HR := Lib.hid (And.intro (BelowOn HR.out.1 hb2) (HR.out.2.call hb2))
                    clear hb2 e1 g0 g1 qy0 qy1 qy2 qg0 qg1 y0 y1 y2
                    obtain ⟨g0, ⟨vv, g1⟩, g2⟩ := hst _ HR.out.2
                    have hpp := hput _ HR.out.2 HR.out.1
                    rw [show ((dT a b s t : Nat) : Int) = (S2 : Int) + (D3 : Int) by have := HD.out; omega] at hpp
                    have HP := Lib.hid hpp
                    clear hpp hput hst HR hAr hBr
                    go_wp2_with fail
                    obtain ⟨hT, hBw⟩ := HP.out
                    go_roundw
                    case rel => exact ⟨_, t, by omega, rfl, rfl, hBw, hT⟩
                    case measure => simp [intOf] <;> omega
                  · skip
                    go_wp2_with fail
                    have g0 := HR.out.2.cellG s (Nat.le_refl _) hs1
                    have g1 := HR.out.2.cur (t + 1) hs1 (Nat.le_refl _) (by omega)
                    rw [← E3.out] at g1
                    have qy0 := cell_regrown y0; have qy1 := cell_regrown y1; have qy2 := cell_regrown y2; have qg0 := cell_regrown g0; have qg1 := cell_regrown g1
                    have e1 := fun d os => Calls.regrown_of (hbl (grow (redrawn v2 d) os))
                    refine wp_region_quiet_below (by kernel_rfl) (by kernel_rfl) ?_
                    repeat (go_big_quiet_step (exact e1 _ _))
                    refine wpQuiet_nil ?_
                    intro _ hw'
                    obtain ⟨⟨dq, osq⟩, hw''⟩ := hw'
                    subst hw''
                    have hb2 := below_regrown v2 dq osq
                    generalize grow (redrawn v2 dq) osq = v3 at *
                    replace HR := Lib.hid (And.intro (BelowOn HR.out.1 hb2) (HR.out.2.call hb2))
                    clear hb2 e1 g0 g1 qy0 qy1 qy2 qg0 qg1 y0 y1 y2
                    obtain ⟨g0, ⟨vv, g1⟩, g2⟩ := hst _ HR.out.2
                    have hpp := hput _ HR.out.2 HR.out.1
                    rw [show ((dT a b s t : Nat) : Int) = ((S1 : Int) + (D2 : Int)) by have := HD.out; omega] at hpp
                    have HP := Lib.hid hpp
                    clear hpp hput hst HR hAr hBr
                    go_wp2_with fail
                    obtain ⟨hT, hBw⟩ := HP.out
                    go_roundw
                    case rel => exact ⟨_, t, by omega, rfl, rfl, hBw, hT⟩
                    case measure => simp [intOf] <;> omega
                · skip
                  by_cases p3 : (S2 : Int) + (D3 : Int) < ((C : Int) + (D1 : Int))
                  · skip
                    go_wp2_with fail
                    have g0 := HR.out.2.cellG s (Nat.le_refl _) hs1
                    have g1 := HR.out.2.cur (t + 1) hs1 (Nat.le_refl _) (by omega)
                    rw [← E3.out] at g1
                    have qy0 := cell_regrown y0; have qy1 := cell_regrown y1; have qy2 := cell_regrown y2; have qg0 := cell_regrown g0; have qg1 := cell_regrown g1
                    have e1 := fun d os => Calls.regrown_of (hbl (grow (redrawn v2 d) os))
                    refine wp_region_quiet_below (by kernel_rfl) (by kernel_rfl) ?_
                    repeat (go_big_quiet_step (exact e1 _ _))
                    refine wpQuiet_nil ?_
                    intro _ hw'
                    obtain ⟨⟨dq, osq⟩, hw''⟩ := hw'
                    subst hw''
                    have hb2 := below_regrown v2 dq osq
                    generalize grow (redrawn v2 dq) osq = v3 at *
                    replace HR := Lib.hid (And.intro (BelowOn HR.out.1 hb2) (HR.out.2.call hb2))
                    clear hb2 e1 g0 g1 qy0 qy1 qy2 qg0 qg1 y0 y1 y2
                    obtain ⟨g0, ⟨vv, g1⟩, g2⟩ := hst _ HR.out.2
                    have hpp := hput _ HR.out.2 HR.out.1
                    rw [show ((dT a b s t : Nat) : Int) = (S2 : Int) + (D3 : Int) by have := HD.out; omega] at hpp
                    have HP := Lib.hid hpp
                    clear hpp hput hst HR hAr hBr
                    go_wp2_with fail
                    obtain ⟨hT, hBw⟩ := HP.out
                    go_roundw
                    case rel => exact ⟨_, t, by omega, rfl, rfl, hBw, hT⟩
                    case measure => simp [intOf] <;> omega
                  · skip
                    go_wp2_with fail
                    have g0 := HR.out.2.cellG s (Nat.le_refl _) hs1
                    have g1 := HR.out.2.cur (t + 1) hs1 (Nat.le_refl _) (by omega)
                    rw [← E3.out] at g1
                    have qy0 := cell_regrown y0; have qy1 := cell_regrown y1; have qy2 := cell_regrown y2; have qg0 := cell_regrown g0; have qg1 := cell_regrown g1
                    have e1 := fun d os => Calls.regrown_of (hbl (grow (redrawn v2 d) os))
                    refine wp_region_quiet_below (by kernel_rfl) (by kernel_rfl) ?_
                    repeat (go_big_quiet_step (exact e1 _ _))
                    refine wpQuiet_nil ?_
                    intro _ hw'
                    obtain ⟨⟨dq, osq⟩, hw''⟩ := hw'
                    subst hw''
                    have hb2 := below_regrown v2 dq osq
                    generalize grow (redrawn v2 dq) osq = v3 at *
                    replace HR := Lib.hid (And.intro (BelowOn HR.out.1 hb2) (HR.out.2.call hb2))
                    clear hb2 e1 g0 g1 qy0 qy1 qy2 qg0 qg1 y0 y1 y2
                    obtain ⟨g0, ⟨vv, g1⟩, g2⟩ := hst _ HR.out.2
                    have hpp := hput _ HR.out.2 HR.out.1
                    rw [show ((dT a b s t : Nat) : Int) = ((C : Int) + (D1 : Int)) by have := HD.out; omega] at hpp
                    have HP := Lib.hid hpp
                    clear hpp hput hst HR hAr hBr
                    go_wp2_with fail
                    obtain ⟨hT, hBw⟩ := HP.out
                    go_roundw
                    case rel => exact ⟨_, t, by omega, rfl, rfl, hBw, hT⟩
                    case measure => simp [intOf] <;> omega
              | false =>
                have HD := Lib.hid (HDN2.out ho)
                clear HDO2 HDN2
                go_wp2_with fail
                clear ho
                have g0 := HR.out.2.cellG (s + 1) (by omega) (by omega)
                have g1 := HR.out.2.up (s + 1) t (by omega) (by omega) (by omega)
                rw [← E2.out] at g1
                have qx0 := cell_regrown x0; have qx1 := cell_regrown x1; have qx2 := cell_regrown x2; have qg0 := cell_regrown g0; have qg1 := cell_regrown g1; have qy0 := cell_regrown y0; have qy1 := cell_regrown y1; have qy2 := cell_regrown y2
                have e1 := fun d os => Calls.regrown_of (hal (grow (redrawn v1 d) os))
                refine wp_region_quiet_below (by kernel_rfl) (by kernel_rfl) ?_
                repeat (go_big_quiet_step (exact e1 _ _))
                refine wpQuiet_nil ?_
                intro _ hw'
                obtain ⟨⟨dq, osq⟩, hw''⟩ := hw'
                subst hw''
                have hb2 := below_regrown v1 dq osq
                replace y0 := qy0 dq osq; replace y1 := qy1 dq osq; replace y2 := qy2 dq osq
                generalize grow (redrawn v1 dq) osq = v2 at *
                replace HR := Lib.hid (And.intro (BelowOn HR.out.1 hb2) (HR.out.2.call hb2))
                clear hb2 e1 g0 g1 qx0 qx1 qx2 qg0 qg1 qy0 qy1 qy2 x0 x1 x2
                by_cases p3 : (S2 : Int) + (D3 : Int) < ((S1 : Int) + (D2 : Int))
                · skip
                  go_wp2_with fail
                  have g0 := HR.out.2.cellG s (Nat.le_refl _) hs1
                  have g1 := HR.out.2.cur (t + 1) hs1 (Nat.le_refl _) (by omega)
                  rw [← E3.out] at g1
                  have qy0 := cell_regrown y0; have qy1 := cell_regrown y1; have qy2 := cell_regrown y2; have qg0 := cell_regrown g0; have qg1 := cell_regrown g1
                  have e1 := fun d os => Calls.regrown_of (hbl (grow (redrawn v2 d) os))
                  refine wp_region_quiet_below (by kernel_rfl) (by kernel_rfl) ?_
                  repeat (go_big_quiet_step (exact e1 _ _))
                  refine wpQuiet_nil ?_
                  intro _ hw'
                  obtain ⟨⟨dq, osq⟩, hw''⟩ := hw'
                  subst hw''
                  have hb2 := below_regrown v2 dq osq
                  generalize grow (redrawn v2 dq) osq = v3 at *
                  replace HR := Lib.hid (And.intro (BelowOn HR.out.1 hb2) (HR.out.2.call hb2))
                  clear hb2 e1 g0 g1 qy0 qy1 qy2 qg0 qg1 y0 y1 y2
                  obtain ⟨g0, ⟨vv, g1⟩, g2⟩ := hst _ HR.out.2
                  have hpp := hput _ HR.out.2 HR.out.1
                  rw [show ((dT a b s t : Nat) : Int) = (S2 : Int) + (D3 : Int) by have := HD.out; omega] at hpp
                  have HP := Lib.hid hpp
                  clear hpp hput hst HR hAr hBr
                  go_wp2_with fail
                  obtain ⟨hT, hBw⟩ := HP.out
                  go_roundw
                  case rel => exact ⟨_, t, by omega, rfl, rfl, hBw, hT⟩
                  case measure => simp [intOf] <;> omega
                · skip
                  go_wp2_with fail
                  have g0 := HR.out.2.cellG s (Nat.le_refl _) hs1
                  have g1 := HR.out.2.cur (t + 1) hs1 (Nat.le_refl _) (by omega)
                  rw [← E3.out] at g1
                  have qy0 := cell_regrown y0; have qy1 := cell_regrown y1; have qy2 := cell_regrown y2; have qg0 := cell_regrown g0; have qg1 := cell_regrown g1
                  have e1 := fun d os => Calls.regrown_of (hbl (grow (redrawn v2 d) os))
                  refine wp_region_quiet_below (by kernel_rfl) (by kernel_rfl) ?_
                  repeat (go_big_quiet_step (exact e1 _ _))
                  refine wpQuiet_nil ?_
                  intro _ hw'
                  obtain ⟨⟨dq, osq⟩, hw''⟩ := hw'
                  subst hw''
                  have hb2 := below_regrown v2 dq osq
                  generalize grow (redrawn v2 dq) osq = v3 at *
                  replace HR := Lib.hid (And.intro (BelowOn HR.out.1 hb2) (HR.out.2.call hb2))
                  clear hb2 e1 g0 g1 qy0 qy1 qy2 qg0 qg1 y0 y1 y2
                  obtain ⟨g0, ⟨vv, g1⟩, g2⟩ := hst _ HR.out.2
                  have hpp := hput _ HR.out.2 HR.out.1
                  rw [show ((dT a b s t : Nat) : Int) = ((S1 : Int) + (D2 : Int)) by have := HD.out; omega] at hpp
                  have HP := Lib.hid hpp
                  clear hpp hput hst HR hAr hBr
                  go_wp2_with fail
                  obtain ⟨hT, hBw⟩ := HP.out
                  go_roundw
                  case rel => exact ⟨_, t, by omega, rfl, rfl, hBw, hT⟩
                  case measure => simp [intOf] <;> omega
            · skip
              obtain rfl : t = b.length := by omega
              have tB : ¬ ((b.length : Int) < (b.length : Int)) := by omega
              have hDd := HDD.out s hsA
              have l2 := HDL.out (s + 1) b.length
              have s4 := stp_le4 a[s]
              have hal : ∀ W, Calls Try.prog 46 #[.agg #[.int .i64 a[s].k, .string a[s].t, .int .i64 a[s].id]] W fun e w' => e = .returned (.int .i64 (stp a[s] : Nat)) ∧ Below W.heap.size W w' := fun W => HAL.out a[s].k a[s].t a[s].id W
              obtain ⟨ad, rfl, had, x0, x1, x2⟩ := hAr.out.row s hsA
              generalize a[s] = X at *
              obtain ⟨D2, E2⟩ : ∃ D, D = dT a b (s + 1) b.length := ⟨_, rfl⟩
              rw [← E2] at hDd l2
              replace E2 := Lib.hid E2
              generalize stp X = S1 at *
              have HD := Lib.hid hDd
              have hw1 : IntKind.i64.wrap ((S1 : Int) + (D2 : Int)) = (S1 : Int) + (D2 : Int) := IntWalk.i64_in _ ⟨by omega, by omega⟩
              clear hDd n1e m1e had
              go_wp2_with fail
              have g0 := HR.out.2.cellG (s + 1) (by omega) (by omega)
              have g1 := HR.out.2.up (s + 1) b.length (by omega) (by omega) (by omega)
              rw [← E2.out] at g1
              have qx0 := cell_regrown x0; have qx1 := cell_regrown x1; have qx2 := cell_regrown x2; have qg0 := cell_regrown g0; have qg1 := cell_regrown g1
              have e1 := fun d os => Calls.regrown_of (hal (grow (redrawn wr d) os))
              refine wp_region_quiet_below (by kernel_rfl) (by kernel_rfl) ?_
              repeat (go_big_quiet_step (exact e1 _ _))
              refine wpQuiet_nil ?_
              intro _ hw'
              obtain ⟨⟨dq, osq⟩, hw''⟩ := hw'
              subst hw''
              have hb2 := below_regrown wr dq osq
              generalize grow (redrawn wr dq) osq = v2 at *
              replace HR := Lib.hid (And.intro (BelowOn HR.out.1 hb2) (HR.out.2.call hb2))
              clear hb2 e1 g0 g1 qx0 qx1 qx2 qg0 qg1 x0 x1 x2
              obtain ⟨g0, ⟨vv, g1⟩, g2⟩ := hst _ HR.out.2
              have hpp := hput _ HR.out.2 HR.out.1
              rw [show ((dT a b s b.length : Nat) : Int) = (S1 : Int) + (D2 : Int) by have := HD.out; omega] at hpp
              have HP := Lib.hid hpp
              clear hpp hput hst HR hAr hBr
              go_wp2_with fail
              obtain ⟨hT, hBw⟩ := HP.out
              go_roundw
              case rel => exact ⟨_, b.length, by omega, rfl, rfl, hBw, hT⟩
              case measure => simp [intOf] <;> omega
          · skip
            obtain rfl : s = a.length := by omega
            have sA : ¬ ((a.length : Int) < (a.length : Int)) := by omega
            rcases Nat.lt_or_ge t b.length with htB | htB
            · skip
              have tB : (t : Int) < (b.length : Int) := by omega
              have htt : ((t : Int) + 1).toNat = t + 1 := by omega
              have hwt : IntKind.i64.wrap ((t : Int) + 1) = (t : Int) + 1 := IntWalk.i64_in _ ⟨by omega, by omega⟩
              have j2 : (t : Int) + 1 < (m1 : Int) := by omega
              have j0 : (0 : Int) ≤ (t : Int) + 1 := by omega
              have hDd := HDI.out t htB
              have l3 := HDL.out a.length (t + 1)
              have u4 := stp_le4 b[t]
              have hbl : ∀ W, Calls Try.prog 46 #[.agg #[.int .i64 b[t].k, .string b[t].t, .int .i64 b[t].id]] W fun e w' => e = .returned (.int .i64 (stp b[t] : Nat)) ∧ Below W.heap.size W w' := fun W => HAL.out b[t].k b[t].t b[t].id W
              obtain ⟨bd, rfl, hbd, y0, y1, y2⟩ := hBr.out.row t htB
              generalize b[t] = Y at *
              obtain ⟨D3, E3⟩ : ∃ D, D = dT a b a.length (t + 1) := ⟨_, rfl⟩
              rw [← E3] at hDd l3
              replace E3 := Lib.hid E3
              generalize stp Y = S2 at *
              have HD := Lib.hid hDd
              have hw2 : IntKind.i64.wrap ((S2 : Int) + (D3 : Int)) = (S2 : Int) + (D3 : Int) := IntWalk.i64_in _ ⟨by omega, by omega⟩
              clear hDd n1e m1e hbd
              go_wp2_with fail
              have g0 := HR.out.2.cellG a.length (Nat.le_refl _) hs1
              have g1 := HR.out.2.cur (t + 1) hs1 (Nat.le_refl _) (by omega)
              rw [← E3.out] at g1
              have qy0 := cell_regrown y0; have qy1 := cell_regrown y1; have qy2 := cell_regrown y2; have qg0 := cell_regrown g0; have qg1 := cell_regrown g1
              have e1 := fun d os => Calls.regrown_of (hbl (grow (redrawn wr d) os))
              refine wp_region_quiet_below (by kernel_rfl) (by kernel_rfl) ?_
              repeat (go_big_quiet_step (exact e1 _ _))
              refine wpQuiet_nil ?_
              intro _ hw'
              obtain ⟨⟨dq, osq⟩, hw''⟩ := hw'
              subst hw''
              have hb2 := below_regrown wr dq osq
              generalize grow (redrawn wr dq) osq = v2 at *
              replace HR := Lib.hid (And.intro (BelowOn HR.out.1 hb2) (HR.out.2.call hb2))
              clear hb2 e1 g0 g1 qy0 qy1 qy2 qg0 qg1 y0 y1 y2
              obtain ⟨g0, ⟨vv, g1⟩, g2⟩ := hst _ HR.out.2
              have hpp := hput _ HR.out.2 HR.out.1
              rw [show ((dT a b a.length t : Nat) : Int) = (S2 : Int) + (D3 : Int) by have := HD.out; omega] at hpp
              have HP := Lib.hid hpp
              clear hpp hput hst HR hAr hBr
              go_wp2_with fail
              obtain ⟨hT, hBw⟩ := HP.out
              go_roundw
              case rel => exact ⟨_, t, by omega, rfl, rfl, hBw, hT⟩
              case measure => simp [intOf] <;> omega
            · skip
              obtain rfl : t = b.length := by omega
              have tB : ¬ ((b.length : Int) < (b.length : Int)) := by omega
              have HD := Lib.hid HDE.out
              clear n1e m1e
              obtain ⟨g0, ⟨vv, g1⟩, g2⟩ := hst _ HR.out.2
              have hpp := hput _ HR.out.2 HR.out.1
              rw [show ((dT a b a.length b.length : Nat) : Int) = 0 by have := HD.out; omega] at hpp
              have HP := Lib.hid hpp
              clear hpp hput hst HR hAr hBr
              go_wp2_with fail
              obtain ⟨hT, hBw⟩ := HP.out
              go_roundw
              case rel => exact ⟨_, b.length, by omega, rfl, rfl, hBw, hT⟩
              case measure => simp [intOf] <;> omega
end Go.Proofs.Ytpkipdiecnokhaa
namespace Go.Proofs.Ytpkipdiecnokhaa
open Go.ChangeShapes Go.WideShapes Go.ChangeAt Go.RowKit Go.Sort
set_option linter.unusedVariables false
set_option linter.unusedSimpArgs false
set_option maxRecDepth 100000

set_option maxHeartbeats 6400000 in
theorem rdistance_any (p q : Option Addr) (c d : Nat) (a b : List It) (w : World) (hA : Its w p a) (hB : Its w q b) (hc : a.length ≤ c) (hd : b.length ≤ d) (hcm : c ≤ maxLen) (hdm : d ≤ maxLen) (ha : a.length ≤ 1000) (hb : b.length ≤ 1000) (ta : txtsB a) (tb : txtsB b) :
    Calls Try.prog 24 #[.slice p a.length c, .slice q b.length d] w fun e w' => e = .returned (.int .i64 (dis a b : Nat)) ∧ Below w.heap.size w w' := by
  have HT := Lib.hid (fun W h k => rtable_any p q c d a b W h k hc hd hcm hdm ha hb ta tb)
  have HS := Lib.hid (fun W h k => rsurplus_any p q c d a b W h k hc hd hcm hdm ha hb)
  have hdl := dst_le a b
  have hsl := sur_le a b
  have hsl2 : 2 * sur a b ≤ 80000000000 := by
    have : (a.length + b.length) * (a.length + b.length) ≤ 200000 * 200000 := Nat.mul_le_mul (by omega) (by omega)
    omega
  have hdl2 : dst a b ≤ 800000 := by omega
  have hdd : dst a b + 2 * sur a b = dis a b := rfl
  have hd0 : dT a b 0 0 = dst a b := rfl
  have HD := Lib.hid hdd; have HD0 := Lib.hid hd0
  clear hdl hsl hdd hd0
  have hw1 : IntKind.i64.wrap (2 * ((sur a b : Nat) : Int)) = 2 * ((sur a b : Nat) : Int) := IntWalk.i64_in _ ⟨by omega, by omega⟩
  have hw2 : IntKind.i64.wrap (((dst a b : Nat) : Int) + 2 * ((sur a b : Nat) : Int)) = ((dst a b : Nat) : Int) + 2 * ((sur a b : Nat) : Int) := IntWalk.i64_in _ ⟨by omega, by omega⟩
  generalize hsur : sur a b = S at *
  generalize hdst : dst a b = D at *
  have n0 : (0 : Int) < ((a.length + 1 : Nat) : Int) := by omega
  have m0 : (0 : Int) < ((b.length + 1 : Nat) : Int) := by omega
  have n0' : (0 : Int) < (a.length : Int) + 1 := by omega
  have m0' : (0 : Int) < (b.length : Int) + 1 := by omega
  clear hsur hdst
  go_enter Try.func24, Try.ntmps24
  go_wp2_with fail
  refine wp_region_held_drew (S := fun W => True) (by kernel_rfl) (trivial) (fun hHeld => ?_)
  have hA0 := hA.call (drew_below w); have hB0 := hB.call (drew_below w); have hb0 := drew_below w
  generalize w.drew = v0 at *
  refine wpAnyH_take (i := 0) (v := ?_) rfl (by kernel_rfl) (by kernel_rfl) (by kernel_rfl) (fun _ _ _ h => h) (Or.inl ⟨by rfl, ?_⟩) hHeld ?_
  rotate_left
  · (intro w hSw; skip; go_simp; try with_reducible rfl)
  try simp only [Act.put, List.getElem_toArray, List.getElem_cons_zero, List.getElem_cons_succ, List.setIfInBounds_toArray, List.set_cons_zero, List.set_cons_succ]
  refine wpAnyH_take (i := 1) (v := ?_) rfl (by kernel_rfl) (by kernel_rfl) (by kernel_rfl) (fun _ _ _ h => h) (Or.inl ⟨by rfl, ?_⟩) hHeld ?_
  rotate_left
  · (intro w hSw; skip; go_simp; try with_reducible rfl)
  try simp only [Act.put, List.getElem_toArray, List.getElem_cons_zero, List.getElem_cons_succ, List.setIfInBounds_toArray, List.set_cons_zero, List.set_cons_succ]
  refine wpAnyH_take (i := 7) (v := ?_) rfl (by kernel_rfl) (by kernel_rfl) (by kernel_rfl) (fun _ _ _ h => h) (Or.inl ⟨by rfl, ?_⟩) hHeld ?_
  rotate_left
  · (intro w hSw; skip; go_simp; try with_reducible rfl)
  try simp only [Act.put, List.getElem_toArray, List.getElem_cons_zero, List.getElem_cons_succ, List.setIfInBounds_toArray, List.set_cons_zero, List.set_cons_succ]
  refine wpAnyH_take (i := 8) (v := ?_) rfl (by kernel_rfl) (by kernel_rfl) (by kernel_rfl) (fun _ _ _ h => h) (Or.inl ⟨by rfl, ?_⟩) hHeld ?_
  rotate_left
  · (intro w hSw; skip; go_simp; try with_reducible rfl)
  try simp only [Act.put, List.getElem_toArray, List.getElem_cons_zero, List.getElem_cons_succ, List.setIfInBounds_toArray, List.set_cons_zero, List.set_cons_succ]
  refine wpAnyH_ready (rs := [2]) (by kernel_rfl) (by simp) ?_
  refine (AllReadyH.cons rfl (fun K hK => ?_) AllReadyH.nil)
  · skip
    go_simp
    refine (HT.out v0 hA0 hB0).mono ?_; rintro e v1 ⟨G, Bk, rfl, hb1, hTab⟩
    refine hK.out _ _ (trivial) (fun hHeld => ?_)
    clear hK K
    try simp only [Act.put, List.getElem_toArray, List.getElem_cons_zero, List.getElem_cons_succ, List.setIfInBounds_toArray, List.set_cons_zero, List.set_cons_succ]
    have g0 := hTab.cellG 0 (Nat.le_refl _) (by omega)
    have g1 := hTab.cur 0 (by omega) (Nat.le_refl _) (by omega)
    rw [HD0.out] at g1
    refine wpAnyH_mono (S' := fun W => W.cell? ⟨G, 0, none⟩ = some (.slice (some ⟨Bk 0, 0, none⟩) (b.length + 1) (b.length + 1)) ∧ W.cell? ⟨Bk 0, 0, none⟩ = some (.int .i64 (D : Nat))) (fun _ _ => trivial) _ _ _ _ ?_
    have hHeld := And.intro g0 g1
    refine wpAnyH_take (i := 3) (v := ?_) rfl (by kernel_rfl) (by kernel_rfl) (by kernel_rfl) (fun _ _ _ h => h) (Or.inl ⟨by rfl, ?_⟩) hHeld ?_
    rotate_left
    · (intro w hSw; skip; go_simp; try with_reducible rfl)
    try simp only [Act.put, List.getElem_toArray, List.getElem_cons_zero, List.getElem_cons_succ, List.setIfInBounds_toArray, List.set_cons_zero, List.set_cons_succ]
    refine wpAnyH_take (i := 4) (v := ?_) rfl (by kernel_rfl) (by kernel_rfl) (by kernel_rfl) (fun _ _ _ h => h) (Or.inl ⟨by rfl, ?_⟩) hHeld ?_
    rotate_left
    · (intro w hSw; obtain ⟨c0, c1⟩ := hSw; go_simp; try with_reducible rfl)
    try simp only [Act.put, List.getElem_toArray, List.getElem_cons_zero, List.getElem_cons_succ, List.setIfInBounds_toArray, List.set_cons_zero, List.set_cons_succ]
    refine wpAnyH_take (i := 5) (v := ?_) rfl (by kernel_rfl) (by kernel_rfl) (by kernel_rfl) (fun _ _ _ h => h) (Or.inl ⟨by rfl, ?_⟩) hHeld ?_
    rotate_left
    · (intro w hSw; skip; go_simp; try with_reducible rfl)
    try simp only [Act.put, List.getElem_toArray, List.getElem_cons_zero, List.getElem_cons_succ, List.setIfInBounds_toArray, List.set_cons_zero, List.set_cons_succ]
    refine wpAnyH_take (i := 6) (v := ?_) rfl (by kernel_rfl) (by kernel_rfl) (by kernel_rfl) (fun _ _ _ h => h) (Or.inl ⟨by rfl, ?_⟩) hHeld ?_
    rotate_left
    · (intro w hSw; obtain ⟨c0, c1⟩ := hSw; go_simp; try with_reducible rfl)
    try simp only [Act.put, List.getElem_toArray, List.getElem_cons_zero, List.getElem_cons_succ, List.setIfInBounds_toArray, List.set_cons_zero, List.set_cons_succ]
    refine wpAnyH_ready (rs := [9]) (by kernel_rfl) (by simp) ?_
    refine (AllReadyH.cons rfl (fun K hK => ?_) AllReadyH.nil)
    have hA1 := hA0.call hb1; have hB1 := hB0.call hb1
    go_simp
    refine (HS.out v1 hA1 hB1).mono ?_; rintro e v2 ⟨rfl, hb2⟩
    replace hTab := hTab.call hb2
    clear g0 g1
    have g0 := hTab.cellG 0 (Nat.le_refl _) (by omega)
    have g1 := hTab.cur 0 (by omega) (Nat.le_refl _) (by omega)
    rw [HD0.out] at g1
    refine hK.out _ _ (⟨g0, g1⟩) (fun hHeld => ?_)
    clear hK K
    try simp only [Act.put, List.getElem_toArray, List.getElem_cons_zero, List.getElem_cons_succ, List.setIfInBounds_toArray, List.set_cons_zero, List.set_cons_succ]
    refine wpAnyH_take (i := 10) (v := ?_) rfl (by kernel_rfl) (by kernel_rfl) (by kernel_rfl) (fun _ _ _ h => h) (Or.inl ⟨by rfl, ?_⟩) hHeld ?_
    rotate_left
    · (intro w hSw; skip; go_simp; try with_reducible rfl)
    try simp only [Act.put, List.getElem_toArray, List.getElem_cons_zero, List.getElem_cons_succ, List.setIfInBounds_toArray, List.set_cons_zero, List.set_cons_succ]
    refine wpAnyH_take (i := 11) (v := ?_) rfl (by kernel_rfl) (by kernel_rfl) (by kernel_rfl) (fun _ _ _ h => h) (Or.inl ⟨by rfl, ?_⟩) hHeld ?_
    rotate_left
    · (intro w hSw; skip; go_simp; try with_reducible rfl)
    try simp only [Act.put, List.getElem_toArray, List.getElem_cons_zero, List.getElem_cons_succ, List.setIfInBounds_toArray, List.set_cons_zero, List.set_cons_succ]
    refine wpAnyH_take (i := 12) (v := ?_) rfl (by kernel_rfl) (by kernel_rfl) (by kernel_rfl) (fun _ _ _ h => h) (Or.inl ⟨by rfl, ?_⟩) hHeld ?_
    rotate_left
    · (intro w hSw; skip; go_simp; try with_reducible rfl)
    try simp only [Act.put, List.getElem_toArray, List.getElem_cons_zero, List.getElem_cons_succ, List.setIfInBounds_toArray, List.set_cons_zero, List.set_cons_succ]
    refine wpAnyH_done (by kernel_rfl) ?_ _
    have hbb := BelowOn (BelowOn hb0 hb1) hb2
    go_wp2_with fail
    go_ret
    exact ⟨by rw [← HD.out]; simp, hbb⟩
end Go.Proofs.Ytpkipdiecnokhaa
namespace Go.Proofs.Ytpkipdiecnokhaa
open Go.ChangeShapes Go.WideShapes Go.ChangeAt Go.RowKit Go.Sort
set_option linter.unusedVariables false
set_option linter.unusedSimpArgs false
set_option maxRecDepth 100000

theorem scr_P (a b : List It) (i k : Nat) (h : i < a.length) (g : k < b.length) (ho : okP (a[i]'h) (b[k]'g) = true) (e : cst (a[i]'h) (b[k]'g) + dT a b (i + 1) (k + 1) = dT a b i k) : scr i k (a.drop i) (b.drop k) = ⟨i, k⟩ :: scr (i + 1) (k + 1) (a.drop (i + 1)) (b.drop (k + 1)) := by
  unfold dT at e
  rw [List.drop_eq_getElem_cons h, List.drop_eq_getElem_cons g] at e ⊢
  have hm : mv a[i] (a.drop (i + 1)) b[k] (b.drop (k + 1)) = .P := by unfold mv; rw [if_pos ⟨ho, e⟩]
  unfold scr; rw [can_cons, hm]; rfl
theorem scr_X (a b : List It) (i k : Nat) (h : i < a.length) (g : k < b.length) (ne : ¬ (okP (a[i]'h) (b[k]'g) = true ∧ cst (a[i]'h) (b[k]'g) + dT a b (i + 1) (k + 1) = dT a b i k)) (e : stp (a[i]'h) + dT a b (i + 1) k = dT a b i k) : scr i k (a.drop i) (b.drop k) = ⟨i, -1⟩ :: scr (i + 1) k (a.drop (i + 1)) (b.drop k) := by
  unfold dT at e ne
  rw [List.drop_eq_getElem_cons h, List.drop_eq_getElem_cons g] at e ne ⊢
  have hm : mv a[i] (a.drop (i + 1)) b[k] (b.drop (k + 1)) = .X := by unfold mv; rw [if_neg ne, if_pos e]
  unfold scr; rw [can_cons, hm]; rfl
theorem scr_I (a b : List It) (i k : Nat) (h : i < a.length) (g : k < b.length) (ne : ¬ (okP (a[i]'h) (b[k]'g) = true ∧ cst (a[i]'h) (b[k]'g) + dT a b (i + 1) (k + 1) = dT a b i k)) (e : ¬ stp (a[i]'h) + dT a b (i + 1) k = dT a b i k) : scr i k (a.drop i) (b.drop k) = ⟨-1, k⟩ :: scr i (k + 1) (a.drop i) (b.drop (k + 1)) := by
  unfold dT at e ne
  rw [List.drop_eq_getElem_cons h, List.drop_eq_getElem_cons g] at e ne ⊢
  have hm : mv a[i] (a.drop (i + 1)) b[k] (b.drop (k + 1)) = .I := by unfold mv; rw [if_neg ne, if_neg e]
  unfold scr; rw [can_cons, hm]; rfl
theorem scr_X0 (a b : List It) (i : Nat) (h : i < a.length) : scr i b.length (a.drop i) (b.drop b.length) = ⟨i, -1⟩ :: scr (i + 1) b.length (a.drop (i + 1)) (b.drop b.length) := by
  rw [List.drop_eq_getElem_cons h, List.drop_length]; rfl
theorem scr_I0 (a b : List It) (k : Nat) (g : k < b.length) : scr a.length k (a.drop a.length) (b.drop k) = ⟨-1, k⟩ :: scr a.length (k + 1) (a.drop a.length) (b.drop (k + 1)) := by
  rw [List.drop_eq_getElem_cons g, List.drop_length]; rfl
theorem scr_0 (a b : List It) : scr a.length b.length (a.drop a.length) (b.drop b.length) = [] := by rw [List.drop_length, List.drop_length]; rfl
set_option maxHeartbeats 12800000 in
theorem ralign_any (p q : Option Addr) (c d : Nat) (a b : List It) (w : World) (hA : Its w p a) (hB : Its w q b) (hc : a.length ≤ c) (hd : b.length ≤ d) (hcm : c ≤ maxLen) (hdm : d ≤ maxLen) (ha : a.length ≤ 1000) (hb : b.length ≤ 1000) (ta : txtsB a) (tb : txtsB b) :
    Calls Try.prog 28 #[.slice p a.length c, .slice q b.length d] w fun e w' => ∃ v, e = .returned v ∧ OwnE w.heap.size (scr 0 0 a b) v w' ∧ Below w.heap.size w w' := by
  have HT := Lib.hid (fun W h k => rtable_any p q c d a b W h k hc hd hcm hdm ha hb ta tb)
  have HCO := Lib.hid (fun x y W hx hy => rcost_any x y W hx hy)
  have HAL := Lib.hid (fun k t id W => alone_any k t id W)
  have HDD := Lib.hid (fun i h => dT_del a b i h)
  have HDL := Lib.hid (fun i k => dT_le a b i k)
  have HSP := Lib.hid (fun i k h g ho e => scr_P a b i k h g ho e)
  have HSX := Lib.hid (fun i k h g ho e => scr_X a b i k h g ho e)
  have HSI := Lib.hid (fun i k h g ho e => scr_I a b i k h g ho e)
  have HTA := Lib.hid ta; have HTB := Lib.hid tb
  have hlen := scr_len 0 0 a b
  unfold maxLen at hcm hdm
  clear ta tb
  obtain ⟨F, hF⟩ : ∃ F, F = scr 0 0 a b := ⟨_, rfl⟩
  rw [← hF] at hlen ⊢
  have HF := Lib.hid hF
  clear hF
  go_enter Try.func28, Try.ntmps28
  go_wp2_with fail
  refine (HT.out _ hA hB).mono ?_; rintro e w1 ⟨G, Bk, rfl, hb1, hTab⟩
  have hA1 := hA.call hb1; have hB1 := hB.call hb1
  obtain ⟨n1, hn1⟩ : ∃ n1, n1 = a.length + 1 := ⟨_, rfl⟩
  obtain ⟨m1, hm1⟩ : ∃ m1, m1 = b.length + 1 := ⟨_, rfl⟩
  rw [← hn1, ← hm1] at hTab
  rw [← hn1]
  have HN1 := Lib.hid hn1; have HM1 := Lib.hid hm1
  have hn1' : (n1 : Int) ≤ 1001 := by omega
  have hm1' : (m1 : Int) ≤ 1001 := by omega
  have HB1 := Lib.hid hb1
  clear hn1 hm1 hb1 hA hB HT
  go_wp2_with fail
  go_loopw [6, 7, 8] (fun v i k wr => ∃ (i' k' : Nat) (L : List Ed), i' ≤ a.length ∧ k' ≤ b.length ∧ i = .int .i64 i' ∧ k = .int .i64 k' ∧ OwnE w1.heap.size L v wr ∧ Below w1.heap.size w1 wr ∧ L ++ scr i' k' (a.drop i') (b.drop k') = F) (fun _ i k _ => (a.length - (intOf i).toNat) + (b.length - (intOf k).toNat))
  case atStart => exact ⟨0, 0, [], Nat.zero_le _, Nat.zero_le _, rfl, rfl, OwnL.nil _ _, Below.refl _ _, by rw [HF.out]; rfl⟩
  case round =>
    obtain ⟨i, k, L, hi, hk, rfl, rfl, hO, hBw, hL⟩ := hrel
    have hLl : L.length ≤ 2000 := by have := congrArg List.length hL; rw [List.length_append] at this; omega
    have hT := hTab.call hBw
    have hAr := hA1.call hBw; have hBr := hB1.call hBw
    have hsz := hBw.size
    have n1e := HN1.out; have m1e := HM1.out
    have HO := Lib.hid (And.intro hO hBw)
    clear hO hBw
    have hti : ((i : Int) + 1).toNat = i + 1 := by omega
    have hwi : IntKind.i64.wrap ((i : Int) + 1) = (i : Int) + 1 := IntWalk.i64_in _ ⟨by omega, by omega⟩
    have htk : ((k : Int) + 1).toNat = k + 1 := by omega
    have hwk : IntKind.i64.wrap ((k : Int) + 1) = (k : Int) + 1 := IntWalk.i64_in _ ⟨by omega, by omega⟩
    have i1 : (i : Int) < (n1 : Int) := by omega
    have k1 : (k : Int) < (m1 : Int) := by omega
    have i0 : (0 : Int) ≤ (i : Int) + 1 := by omega
    have k0 : (0 : Int) ≤ (k : Int) + 1 := by omega
    rcases Nat.lt_or_ge i a.length with hiA | hiA
    · have iA : (i : Int) < (a.length : Int) := by omega
      have i2 : (i : Int) + 1 < (n1 : Int) := by omega
      have hal : ∀ W, Calls Try.prog 46 #[.agg #[.int .i64 a[i].k, .string a[i].t, .int .i64 a[i].id]] W fun e w' => e = .returned (.int .i64 (stp a[i] : Nat)) ∧ Below W.heap.size W w' := fun W => HAL.out a[i].k a[i].t a[i].id W
      rcases Nat.lt_or_ge k b.length with hkB | hkB
      · have kB : (k : Int) < (b.length : Int) := by omega
        have k2 : (k : Int) + 1 < (m1 : Int) := by omega
        have hP := HSP.out i k hiA hkB
        have hX := HSX.out i k hiA hkB
        have hI := HSI.out i k hiA hkB
        have hcO : okP a[i] b[k] = true → cO a[i] b[k] = cst a[i] b[k] := fun h => by unfold cO; rw [if_pos h]
        have hco := fun W => HCO.out a[i] b[k] W (HTA.out _ (List.getElem_mem hiA)) (HTB.out _ (List.getElem_mem hkB))
        have l0 := HDL.out i k; have l1 := HDL.out (i + 1) (k + 1); have l2 := HDL.out (i + 1) k
        have c4 := cO_le a[i] b[k]; have s4 := stp_le4 a[i]
        obtain ⟨ad, rfl, had, x0, x1, x2⟩ := hAr.row i hiA
        obtain ⟨bd, rfl, hbd, y0, y1, y2⟩ := hBr.row k hkB
        have g0 := hT.cellG i (Nat.zero_le _) (by omega)
        have g1 := hT.cellG (i + 1) (Nat.zero_le _) (by omega)
        have t00 := hT.whole (by omega) i k (Nat.zero_le _) (by omega) (by omega)
        have t11 := hT.whole (by omega) (i + 1) (k + 1) (Nat.zero_le _) (by omega) (by omega)
        have t10 := hT.whole (by omega) (i + 1) k (Nat.zero_le _) (by omega) (by omega)
        generalize a[i] = X at *
        generalize b[k] = Y at *
        obtain ⟨D0, E0⟩ : ∃ D, D = dT a b i k := ⟨_, rfl⟩
        obtain ⟨D1, E1⟩ : ∃ D, D = dT a b (i + 1) (k + 1) := ⟨_, rfl⟩
        obtain ⟨D2, E2⟩ : ∃ D, D = dT a b (i + 1) k := ⟨_, rfl⟩
        rw [← E0, ← E1] at hP; rw [← E0, ← E1, ← E2] at hX hI
        rw [← E0] at l0 t00; rw [← E1] at l1 t11; rw [← E2] at l2 t10
        have HP := Lib.hid hP; have HX := Lib.hid hX; have HI := Lib.hid hI; have HcO := Lib.hid hcO
        clear hP hX hI hcO E0 E1 E2
        generalize hCC : cO X Y = C at *
        generalize hSS : stp X = S1 at *
        have HCC := Lib.hid hCC; have HSS := Lib.hid hSS
        clear hCC hSS
        have hwC : IntKind.i64.wrap ((C : Int) + (D1 : Int)) = (C : Int) + (D1 : Int) := IntWalk.i64_in _ ⟨by omega, by omega⟩
        have hwS : IntKind.i64.wrap ((S1 : Int) + (D2 : Int)) = (S1 : Int) + (D2 : Int) := IntWalk.i64_in _ ⟨by omega, by omega⟩
        clear hT hAr hBr had hbd n1e m1e
        go_wp2_with fail
        have qx0 := cell_regrown x0; have qx1 := cell_regrown x1; have qx2 := cell_regrown x2; have qy0 := cell_regrown y0; have qy1 := cell_regrown y1; have qy2 := cell_regrown y2; have qg0 := cell_regrown g0; have qg1 := cell_regrown g1; have qt00 := cell_regrown t00; have qt11 := cell_regrown t11; have qt10 := cell_regrown t10
        have e1 := fun d os => Calls.regrown_of (hco (grow (redrawn wr d) os))
        refine wp_region_quiet_below (by kernel_rfl) (by kernel_rfl) ?_
        repeat (go_big_quiet_step (exact e1 _ _))
        refine wpQuiet_nil ?_
        intro _ hw'
        obtain ⟨⟨dq, osq⟩, hw''⟩ := hw'
        subst hw''
        have hb2 := below_regrown wr dq osq
        replace x0 := qx0 dq osq; replace x1 := qx1 dq osq; replace x2 := qx2 dq osq; replace g0 := qg0 dq osq; replace g1 := qg1 dq osq; replace t00 := qt00 dq osq; replace t11 := qt11 dq osq; replace t10 := qt10 dq osq
        generalize grow (redrawn wr dq) osq = v1 at *
        replace HO := Lib.hid (And.intro (HO.out.1.call hb2) (BelowOn HO.out.2 hb2))
        clear hb2 e1 y0 y1 y2 qx0 qx1 qx2 qy0 qy1 qy2 qg0 qg1 qt00 qt11 qt10
        cases ho : okP X Y with
        | true =>
          have hcc := HcO.out ho
          by_cases e1 : C + D1 = D0
          · have z1 : (((C : Int) + (D1 : Int)) == (D0 : Int)) = true := by simp; omega
            go_wp2_with fail
            have qx0 := cell_regrown x0; have qx1 := cell_regrown x1; have qx2 := cell_regrown x2; have qg0 := cell_regrown g0; have qg1 := cell_regrown g1; have qt00 := cell_regrown t00; have qt11 := cell_regrown t11; have qt10 := cell_regrown t10
            refine wp_region_quiet_below (by kernel_rfl) (by kernel_rfl) ?_
            repeat (go_big_quiet_step (fail))
            refine wpQuiet_nil ?_
            intro _ hw'
            obtain ⟨⟨dq, osq⟩, hw''⟩ := hw'
            subst hw''
            have hb2 := below_regrown v1 dq osq
            replace x0 := qx0 dq osq; replace x1 := qx1 dq osq; replace x2 := qx2 dq osq; replace g0 := qg0 dq osq; replace g1 := qg1 dq osq; replace t00 := qt00 dq osq; replace t11 := qt11 dq osq; replace t10 := qt10 dq osq
            generalize grow (redrawn v1 dq) osq = v2 at *
            replace HO := Lib.hid (And.intro (HO.out.1.call hb2) (BelowOn HO.out.2 hb2))
            clear hb2 qx0 qx1 qx2 qg0 qg1 qt00 qt11 qt10
            have hs := HP.out ho (by rw [← hcc]; exact e1)
            clear x0 x1 x2 g0 g1 t00 t11 t10
            obtain ⟨hO, hBw⟩ := HO.out
            have hnew := heap_alloc_new v2 (.cells #[.int .i64 (i : Int), .int .i64 (k : Int)] 45)
            have hbn : Below v2.heap.size v2 (v2.alloc (.cells #[.int .i64 (i : Int), .int .i64 (k : Int)] 45)) := blw (Below.refl _ _) _
            have hO2 := hO.call hbn
            have hB2 := BelowOn hBw hbn
            have hsz2 : w1.heap.size ≤ (v2.alloc (.cells #[.int .i64 (i : Int), .int .i64 (k : Int)] 45)).heap.size := hB2.size
            have HB2 := Lib.hid hB2
            have HLL := Lib.hid (show (L ++ [(⟨i, k⟩ : Ed)]) ++ scr (i + 1) (k + 1) (a.drop (i + 1)) (b.drop (k + 1)) = F by rw [List.append_assoc]; rw [hs] at hL; exact hL)
            clear hB2 hbn hO hBw HO hL
            go_wp2_with (at_builtin; refine wpl_append2 eE _ rfl _ _ rfl w1.heap.size hsz2 L _ rfl hO2 (⟨i, k⟩ : Ed) _ _ rfl hnew rfl (by omega) (by unfold maxLen; omega) ?_; intro v' w5 hO5 hb5)
            go_roundw
            case rel => exact ⟨i + 1, k + 1, _, by omega, by omega, by go_num, by go_num, hO5, HB2.out.trans hb5, HLL.out⟩
            case measure => simp [intOf] <;> omega
          · have z1 : (((C : Int) + (D1 : Int)) == (D0 : Int)) = false := by simp; omega
            go_wp2_with fail
            have qx0 := cell_regrown x0; have qx1 := cell_regrown x1; have qx2 := cell_regrown x2; have qg0 := cell_regrown g0; have qg1 := cell_regrown g1; have qt00 := cell_regrown t00; have qt11 := cell_regrown t11; have qt10 := cell_regrown t10
            refine wp_region_quiet_below (by kernel_rfl) (by kernel_rfl) ?_
            repeat (go_big_quiet_step (fail))
            refine wpQuiet_nil ?_
            intro _ hw'
            obtain ⟨⟨dq, osq⟩, hw''⟩ := hw'
            subst hw''
            have hb2 := below_regrown v1 dq osq
            replace x0 := qx0 dq osq; replace x1 := qx1 dq osq; replace x2 := qx2 dq osq; replace g0 := qg0 dq osq; replace g1 := qg1 dq osq; replace t00 := qt00 dq osq; replace t11 := qt11 dq osq; replace t10 := qt10 dq osq
            generalize grow (redrawn v1 dq) osq = v2 at *
            replace HO := Lib.hid (And.intro (HO.out.1.call hb2) (BelowOn HO.out.2 hb2))
            clear hb2 qx0 qx1 qx2 qg0 qg1 qt00 qt11 qt10
            by_cases e2 : S1 + D2 = D0
            · have z2 : (((S1 : Int) + (D2 : Int)) == (D0 : Int)) = true := by simp; omega
              go_wp2_with fail
              have qx0 := cell_regrown x0; have qx1 := cell_regrown x1; have qx2 := cell_regrown x2; have qg0 := cell_regrown g0; have qg1 := cell_regrown g1; have qt00 := cell_regrown t00; have qt10 := cell_regrown t10
              have e1 := fun d os => Calls.regrown_of (hal (grow (redrawn v2 d) os))
              refine wp_region_quiet_below (by kernel_rfl) (by kernel_rfl) ?_
              repeat (go_big_quiet_step (exact e1 _ _))
              refine wpQuiet_nil ?_
              intro _ hw'
              obtain ⟨⟨dq, osq⟩, hw''⟩ := hw'
              subst hw''
              have hb2 := below_regrown v2 dq osq
              generalize grow (redrawn v2 dq) osq = v3 at *
              replace HO := Lib.hid (And.intro (HO.out.1.call hb2) (BelowOn HO.out.2 hb2))
              clear hb2 e1 qx0 qx1 qx2 qg0 qg1 qt00 qt10 x0 x1 x2 g0 g1 t00 t10
              have hs := HX.out (fun h => e1 (by rw [hcc]; exact h.2)) e2
              obtain ⟨hO, hBw⟩ := HO.out
              have hnew := heap_alloc_new v3 (.cells #[.int .i64 (i : Int), .int .i64 (-1)] 45)
              have hbn : Below v3.heap.size v3 (v3.alloc (.cells #[.int .i64 (i : Int), .int .i64 (-1)] 45)) := blw (Below.refl _ _) _
              have hO2 := hO.call hbn
              have hB2 := BelowOn hBw hbn
              have hsz2 : w1.heap.size ≤ (v3.alloc (.cells #[.int .i64 (i : Int), .int .i64 (-1)] 45)).heap.size := hB2.size
              have HB2 := Lib.hid hB2
              have HLL := Lib.hid (show (L ++ [(⟨i, -1⟩ : Ed)]) ++ scr (i + 1) k (a.drop (i + 1)) (b.drop k) = F by rw [List.append_assoc]; rw [hs] at hL; exact hL)
              clear hB2 hbn hO hBw HO hL
              go_wp2_with (at_builtin; refine wpl_append2 eE _ rfl _ _ rfl w1.heap.size hsz2 L _ rfl hO2 (⟨i, -1⟩ : Ed) _ _ rfl hnew rfl (by omega) (by unfold maxLen; omega) ?_; intro v' w5 hO5 hb5)
              go_roundw
              case rel => exact ⟨i + 1, k, _, by omega, by omega, by go_num, by go_num, hO5, HB2.out.trans hb5, HLL.out⟩
              case measure => simp [intOf] <;> omega
            · have z2 : (((S1 : Int) + (D2 : Int)) == (D0 : Int)) = false := by simp; omega
              go_wp2_with fail
              have qx0 := cell_regrown x0; have qx1 := cell_regrown x1; have qx2 := cell_regrown x2; have qg0 := cell_regrown g0; have qg1 := cell_regrown g1; have qt00 := cell_regrown t00; have qt10 := cell_regrown t10
              have e1 := fun d os => Calls.regrown_of (hal (grow (redrawn v2 d) os))
              refine wp_region_quiet_below (by kernel_rfl) (by kernel_rfl) ?_
              repeat (go_big_quiet_step (exact e1 _ _))
              refine wpQuiet_nil ?_
              intro _ hw'
              obtain ⟨⟨dq, osq⟩, hw''⟩ := hw'
              subst hw''
              have hb2 := below_regrown v2 dq osq
              generalize grow (redrawn v2 dq) osq = v3 at *
              replace HO := Lib.hid (And.intro (HO.out.1.call hb2) (BelowOn HO.out.2 hb2))
              clear hb2 e1 qx0 qx1 qx2 qg0 qg1 qt00 qt10 x0 x1 x2 g0 g1 t00 t10
              have hs := HI.out (fun h => e1 (by rw [hcc]; exact h.2)) e2
              obtain ⟨hO, hBw⟩ := HO.out
              have hnew := heap_alloc_new v3 (.cells #[.int .i64 (-1), .int .i64 (k : Int)] 45)
              have hbn : Below v3.heap.size v3 (v3.alloc (.cells #[.int .i64 (-1), .int .i64 (k : Int)] 45)) := blw (Below.refl _ _) _
              have hO2 := hO.call hbn
              have hB2 := BelowOn hBw hbn
              have hsz2 : w1.heap.size ≤ (v3.alloc (.cells #[.int .i64 (-1), .int .i64 (k : Int)] 45)).heap.size := hB2.size
              have HB2 := Lib.hid hB2
              have HLL := Lib.hid (show (L ++ [(⟨-1, k⟩ : Ed)]) ++ scr i (k + 1) (a.drop i) (b.drop (k + 1)) = F by rw [List.append_assoc]; rw [hs] at hL; exact hL)
              clear hB2 hbn hO hBw HO hL
              go_wp2_with (at_builtin; refine wpl_append2 eE _ rfl _ _ rfl w1.heap.size hsz2 L _ rfl hO2 (⟨-1, k⟩ : Ed) _ _ rfl hnew rfl (by omega) (by unfold maxLen; omega) ?_; intro v' w5 hO5 hb5)
              go_roundw
              case rel => exact ⟨i, k + 1, _, by omega, by omega, by go_num, by go_num, hO5, HB2.out.trans hb5, HLL.out⟩
              case measure => simp [intOf] <;> omega
        | false =>
          go_wp2_with fail
          have qx0 := cell_regrown x0; have qx1 := cell_regrown x1; have qx2 := cell_regrown x2; have qg0 := cell_regrown g0; have qg1 := cell_regrown g1; have qt00 := cell_regrown t00; have qt11 := cell_regrown t11; have qt10 := cell_regrown t10
          refine wp_region_quiet_below (by kernel_rfl) (by kernel_rfl) ?_
          repeat (go_big_quiet_step (fail))
          refine wpQuiet_nil ?_
          intro _ hw'
          obtain ⟨⟨dq, osq⟩, hw''⟩ := hw'
          subst hw''
          have hb2 := below_regrown v1 dq osq
          replace x0 := qx0 dq osq; replace x1 := qx1 dq osq; replace x2 := qx2 dq osq; replace g0 := qg0 dq osq; replace g1 := qg1 dq osq; replace t00 := qt00 dq osq; replace t11 := qt11 dq osq; replace t10 := qt10 dq osq
          generalize grow (redrawn v1 dq) osq = v2 at *
          replace HO := Lib.hid (And.intro (HO.out.1.call hb2) (BelowOn HO.out.2 hb2))
          clear hb2 qx0 qx1 qx2 qg0 qg1 qt00 qt11 qt10
          by_cases e2 : S1 + D2 = D0
          · have z2 : (((S1 : Int) + (D2 : Int)) == (D0 : Int)) = true := by simp; omega
            go_wp2_with fail
            have qx0 := cell_regrown x0; have qx1 := cell_regrown x1; have qx2 := cell_regrown x2; have qg0 := cell_regrown g0; have qg1 := cell_regrown g1; have qt00 := cell_regrown t00; have qt10 := cell_regrown t10
            have e1 := fun d os => Calls.regrown_of (hal (grow (redrawn v2 d) os))
            refine wp_region_quiet_below (by kernel_rfl) (by kernel_rfl) ?_
            repeat (go_big_quiet_step (exact e1 _ _))
            refine wpQuiet_nil ?_
            intro _ hw'
            obtain ⟨⟨dq, osq⟩, hw''⟩ := hw'
            subst hw''
            have hb2 := below_regrown v2 dq osq
            generalize grow (redrawn v2 dq) osq = v3 at *
            replace HO := Lib.hid (And.intro (HO.out.1.call hb2) (BelowOn HO.out.2 hb2))
            clear hb2 e1 qx0 qx1 qx2 qg0 qg1 qt00 qt10 x0 x1 x2 g0 g1 t00 t10
            have hs := HX.out (fun h => by rw [ho] at h; cases h.1) e2
            obtain ⟨hO, hBw⟩ := HO.out
            have hnew := heap_alloc_new v3 (.cells #[.int .i64 (i : Int), .int .i64 (-1)] 45)
            have hbn : Below v3.heap.size v3 (v3.alloc (.cells #[.int .i64 (i : Int), .int .i64 (-1)] 45)) := blw (Below.refl _ _) _
            have hO2 := hO.call hbn
            have hB2 := BelowOn hBw hbn
            have hsz2 : w1.heap.size ≤ (v3.alloc (.cells #[.int .i64 (i : Int), .int .i64 (-1)] 45)).heap.size := hB2.size
            have HB2 := Lib.hid hB2
            have HLL := Lib.hid (show (L ++ [(⟨i, -1⟩ : Ed)]) ++ scr (i + 1) k (a.drop (i + 1)) (b.drop k) = F by rw [List.append_assoc]; rw [hs] at hL; exact hL)
            clear hB2 hbn hO hBw HO hL
            go_wp2_with (at_builtin; refine wpl_append2 eE _ rfl _ _ rfl w1.heap.size hsz2 L _ rfl hO2 (⟨i, -1⟩ : Ed) _ _ rfl hnew rfl (by omega) (by unfold maxLen; omega) ?_; intro v' w5 hO5 hb5)
            go_roundw
            case rel => exact ⟨i + 1, k, _, by omega, by omega, by go_num, by go_num, hO5, HB2.out.trans hb5, HLL.out⟩
            case measure => simp [intOf] <;> omega
          · have z2 : (((S1 : Int) + (D2 : Int)) == (D0 : Int)) = false := by simp; omega
            go_wp2_with fail
            have qx0 := cell_regrown x0; have qx1 := cell_regrown x1; have qx2 := cell_regrown x2; have qg0 := cell_regrown g0; have qg1 := cell_regrown g1; have qt00 := cell_regrown t00; have qt10 := cell_regrown t10
            have e1 := fun d os => Calls.regrown_of (hal (grow (redrawn v2 d) os))
            refine wp_region_quiet_below (by kernel_rfl) (by kernel_rfl) ?_
            repeat (go_big_quiet_step (exact e1 _ _))
            refine wpQuiet_nil ?_
            intro _ hw'
            obtain ⟨⟨dq, osq⟩, hw''⟩ := hw'
            subst hw''
            have hb2 := below_regrown v2 dq osq
            generalize grow (redrawn v2 dq) osq = v3 at *
            replace HO := Lib.hid (And.intro (HO.out.1.call hb2) (BelowOn HO.out.2 hb2))
            clear hb2 e1 qx0 qx1 qx2 qg0 qg1 qt00 qt10 x0 x1 x2 g0 g1 t00 t10
            have hs := HI.out (fun h => by rw [ho] at h; cases h.1) e2
            obtain ⟨hO, hBw⟩ := HO.out
            have hnew := heap_alloc_new v3 (.cells #[.int .i64 (-1), .int .i64 (k : Int)] 45)
            have hbn : Below v3.heap.size v3 (v3.alloc (.cells #[.int .i64 (-1), .int .i64 (k : Int)] 45)) := blw (Below.refl _ _) _
            have hO2 := hO.call hbn
            have hB2 := BelowOn hBw hbn
            have hsz2 : w1.heap.size ≤ (v3.alloc (.cells #[.int .i64 (-1), .int .i64 (k : Int)] 45)).heap.size := hB2.size
            have HB2 := Lib.hid hB2
            have HLL := Lib.hid (show (L ++ [(⟨-1, k⟩ : Ed)]) ++ scr i (k + 1) (a.drop i) (b.drop (k + 1)) = F by rw [List.append_assoc]; rw [hs] at hL; exact hL)
            clear hB2 hbn hO hBw HO hL
            go_wp2_with (at_builtin; refine wpl_append2 eE _ rfl _ _ rfl w1.heap.size hsz2 L _ rfl hO2 (⟨-1, k⟩ : Ed) _ _ rfl hnew rfl (by omega) (by unfold maxLen; omega) ?_; intro v' w5 hO5 hb5)
            go_roundw
            case rel => exact ⟨i, k + 1, _, by omega, by omega, by go_num, by go_num, hO5, HB2.out.trans hb5, HLL.out⟩
            case measure => simp [intOf] <;> omega
      · obtain rfl : k = b.length := by omega
        have kB : ¬ ((b.length : Int) < (b.length : Int)) := by omega
        have l0 := HDL.out i b.length; have l2 := HDL.out (i + 1) b.length
        have hdd := HDD.out i hiA
        have s4 := stp_le4 a[i]
        obtain ⟨ad, rfl, had, x0, x1, x2⟩ := hAr.row i hiA
        have g0 := hT.cellG i (Nat.zero_le _) (by omega)
        have g1 := hT.cellG (i + 1) (Nat.zero_le _) (by omega)
        have t00 := hT.whole (by omega) i b.length (Nat.zero_le _) (by omega) (by omega)
        have t10 := hT.whole (by omega) (i + 1) b.length (Nat.zero_le _) (by omega) (by omega)
        have hs := scr_X0 a b i hiA
        generalize a[i] = X at *
        generalize dT a b i b.length = D0 at *
        generalize dT a b (i + 1) b.length = D2 at *
        generalize stp X = S1 at *
        have hwS : IntKind.i64.wrap ((S1 : Int) + (D2 : Int)) = (S1 : Int) + (D2 : Int) := IntWalk.i64_in _ ⟨by omega, by omega⟩
        have z2 : (((S1 : Int) + (D2 : Int)) == (D0 : Int)) = true := by simp; omega
        have HS := Lib.hid hs
        clear hT hAr hBr had n1e m1e hdd hs
        go_wp2_with fail
        have qx0 := cell_regrown x0; have qx1 := cell_regrown x1; have qx2 := cell_regrown x2; have qg0 := cell_regrown g0; have qg1 := cell_regrown g1; have qt00 := cell_regrown t00; have qt10 := cell_regrown t10
        have e1 := fun d os => Calls.regrown_of (hal (grow (redrawn wr d) os))
        refine wp_region_quiet_below (by kernel_rfl) (by kernel_rfl) ?_
        repeat (go_big_quiet_step (exact e1 _ _))
        refine wpQuiet_nil ?_
        intro _ hw'
        obtain ⟨⟨dq, osq⟩, hw''⟩ := hw'
        subst hw''
        have hb2 := below_regrown wr dq osq
        generalize grow (redrawn wr dq) osq = v2 at *
        replace HO := Lib.hid (And.intro (HO.out.1.call hb2) (BelowOn HO.out.2 hb2))
        clear hb2 e1 qx0 qx1 qx2 qg0 qg1 qt00 qt10 x0 x1 x2 g0 g1 t00 t10
        have hs := HS.out
        obtain ⟨hO, hBw⟩ := HO.out
        have hnew := heap_alloc_new v2 (.cells #[.int .i64 (i : Int), .int .i64 (-1)] 45)
        have hbn : Below v2.heap.size v2 (v2.alloc (.cells #[.int .i64 (i : Int), .int .i64 (-1)] 45)) := blw (Below.refl _ _) _
        have hO2 := hO.call hbn
        have hB2 := BelowOn hBw hbn
        have hsz2 : w1.heap.size ≤ (v2.alloc (.cells #[.int .i64 (i : Int), .int .i64 (-1)] 45)).heap.size := hB2.size
        have HB2 := Lib.hid hB2
        have HLL := Lib.hid (show (L ++ [(⟨i, -1⟩ : Ed)]) ++ scr (i + 1) b.length (a.drop (i + 1)) (b.drop b.length) = F by rw [List.append_assoc]; rw [hs] at hL; exact hL)
        clear hB2 hbn hO hBw HO hL
        go_wp2_with (at_builtin; refine wpl_append2 eE _ rfl _ _ rfl w1.heap.size hsz2 L _ rfl hO2 (⟨i, -1⟩ : Ed) _ _ rfl hnew rfl (by omega) (by unfold maxLen; omega) ?_; intro v' w5 hO5 hb5)
        go_roundw
        case rel => exact ⟨i + 1, b.length, _, by omega, by omega, by go_num, by go_num, hO5, HB2.out.trans hb5, HLL.out⟩
        case measure => simp [intOf] <;> omega
    · obtain rfl : i = a.length := by omega
      have iA : ¬ ((a.length : Int) < (a.length : Int)) := by omega
      rcases Nat.lt_or_ge k b.length with hkB | hkB
      · have kB : (k : Int) < (b.length : Int) := by omega
        have hs := scr_I0 a b k hkB
        clear hT hAr hBr n1e m1e
        go_wp2_with fail
        refine wp_region_quiet_below (by kernel_rfl) (by kernel_rfl) ?_
        repeat (go_big_quiet_step (fail))
        refine wpQuiet_nil ?_
        intro _ hw'
        obtain ⟨⟨dq, osq⟩, hw''⟩ := hw'
        subst hw''
        have hb2 := below_regrown wr dq osq
        generalize grow (redrawn wr dq) osq = v2 at *
        replace HO := Lib.hid (And.intro (HO.out.1.call hb2) (BelowOn HO.out.2 hb2))
        clear hb2
        obtain ⟨hO, hBw⟩ := HO.out
        have hnew := heap_alloc_new v2 (.cells #[.int .i64 (-1), .int .i64 (k : Int)] 45)
        have hbn : Below v2.heap.size v2 (v2.alloc (.cells #[.int .i64 (-1), .int .i64 (k : Int)] 45)) := blw (Below.refl _ _) _
        have hO2 := hO.call hbn
        have hB2 := BelowOn hBw hbn
        have hsz2 : w1.heap.size ≤ (v2.alloc (.cells #[.int .i64 (-1), .int .i64 (k : Int)] 45)).heap.size := hB2.size
        have HB2 := Lib.hid hB2
        have HLL := Lib.hid (show (L ++ [(⟨-1, k⟩ : Ed)]) ++ scr a.length (k + 1) (a.drop a.length) (b.drop (k + 1)) = F by rw [List.append_assoc]; rw [hs] at hL; exact hL)
        clear hB2 hbn hO hBw HO hL
        go_wp2_with (at_builtin; refine wpl_append2 eE _ rfl _ _ rfl w1.heap.size hsz2 L _ rfl hO2 (⟨-1, k⟩ : Ed) _ _ rfl hnew rfl (by omega) (by unfold maxLen; omega) ?_; intro v' w5 hO5 hb5)
        go_roundw
        case rel => exact ⟨a.length, k + 1, _, by omega, by omega, by go_num, by go_num, hO5, HB2.out.trans hb5, HLL.out⟩
        case measure => simp [intOf] <;> omega
      · obtain rfl : k = b.length := by omega
        have kB : ¬ ((b.length : Int) < (b.length : Int)) := by omega
        rw [scr_0, List.append_nil] at hL
        subst hL
        clear hT hAr hBr n1e m1e
        go_wp2_with fail
        go_ret
        exact ⟨_, rfl, ownsRow_base HO.out.1 HB1.out.size, BelowOn HB1.out HO.out.2⟩
end Go.Proofs.Ytpkipdiecnokhaa
namespace Go.Proofs.Ytpkipdiecnokhaa
open Go.ChangeShapes Go.WideShapes Go.ChangeAt Go.RowKit Go.Sort
set_option linter.unusedVariables false
set_option linter.unusedSimpArgs false
set_option maxRecDepth 100000

/-- The weight of the heavier list. -/
def tot (a b : List It) : Nat := max (wtL a) (wtL b)
theorem tot_comm (a b : List It) : tot a b = tot b a := Nat.max_comm _ _
theorem tot_le (a b : List It) (ha : a.length ≤ 100000) (hb : b.length ≤ 100000) : tot a b ≤ 400000 := by
  have := wtL_le a; have := wtL_le b; unfold tot; omega
/-- What of a total and a distance is shared, in percent. -/
def pcN (t d : Nat) : Nat := if t = 0 then 100 else 100 * (t - d) / t
def pct (a b : List It) : Nat := pcN (tot a b) (dis a b)
theorem pcN_le (t d : Nat) : pcN t d ≤ 100 := by
  unfold pcN
  split
  · exact Nat.le_refl _
  · rename_i h
    refine Nat.le_trans (Nat.div_le_div_right (Nat.mul_le_mul_left 100 (Nat.sub_le t d))) ?_
    rw [Nat.mul_div_cancel _ (by omega)]; exact Nat.le_refl _
theorem pct_comm (a b : List It) : pct a b = pct b a := by unfold pct; rw [tot_comm, dis_comm]
theorem total_both (p q : Option Addr) (c d : Nat) (a b : List It) (w : World) (hA : Its w p a) (hB : Its w q b) (hc : a.length ≤ c) (hd : b.length ≤ d) (hcm : c ≤ maxLen) (hdm : d ≤ maxLen) (ha : a.length ≤ 100000) (hb : b.length ≤ 100000) :
    Calls Try.prog 19 #[.slice p a.length c, .slice q b.length d] w fun e w' => e = .returned (.int .i64 (tot a b : Nat)) ∧ Below w.heap.size w w' := by
  have h1 := fun W h => total_any p c a W h hc hcm (by omega)
  have h2 := fun W h => total_any q d b W h hd hdm (by omega)
  have hl := wtL_le a; have hm := wtL_le b
  have H1 := Lib.hid h1; have H2 := Lib.hid h2
  have HT := Lib.hid (show tot a b = max (wtL a) (wtL b) from rfl)
  clear h1 h2
  generalize wtL a = A at *
  generalize wtL b = B at *
  have em : max (A : Int) (B : Int) = ((max A B : Nat) : Int) := by omega
  go_enter Try.func19, Try.ntmps19
  go_wp2_with fail
  refine (H1.out _ hA).mono ?_; rintro e w1 ⟨rfl, hb1⟩
  go_wp2_with fail
  refine (H2.out _ (hB.call hb1)).mono ?_; rintro e w2 ⟨rfl, hb2⟩
  have HB := Lib.hid (BelowOn hb1 hb2)
  clear hb1 hb2
  go_wp2_with fail
  go_ret
  exact ⟨by rw [HT.out, ← em]; rfl, HB.out⟩
theorem rboth_any (p q : Option Addr) (c d : Nat) (a b : List It) (w : World) (hA : Its w p a) (hB : Its w q b) (hc : a.length ≤ c) (hd : b.length ≤ d) (hcm : c ≤ maxLen) (hdm : d ≤ maxLen) (ha : a.length ≤ 100000) (hb : b.length ≤ 100000) :
    Calls Try.prog 20 #[.slice p a.length c, .slice q b.length d] w fun e w' => e = .returned (.int .i64 (tot a b : Nat)) ∧ Below w.heap.size w w' := by
  have h1 := fun W h => rtotal_any p c a W h hc hcm (by omega)
  have h2 := fun W h => rtotal_any q d b W h hd hdm (by omega)
  have hl := wtL_le a; have hm := wtL_le b
  have H1 := Lib.hid h1; have H2 := Lib.hid h2
  have HT := Lib.hid (show tot a b = max (wtL a) (wtL b) from rfl)
  clear h1 h2
  generalize wtL a = A at *
  generalize wtL b = B at *
  have em : max (A : Int) (B : Int) = ((max A B : Nat) : Int) := by omega
  go_enter Try.func20, Try.ntmps20
  go_wp2_with fail
  refine (H1.out _ hA).mono ?_; rintro e w1 ⟨rfl, hb1⟩
  go_wp2_with fail
  refine (H2.out _ (hB.call hb1)).mono ?_; rintro e w2 ⟨rfl, hb2⟩
  have HB := Lib.hid (BelowOn hb1 hb2)
  clear hb1 hb2
  go_wp2_with fail
  go_ret
  exact ⟨by rw [HT.out, ← em]; rfl, HB.out⟩
theorem percent_any (p q : Option Addr) (c d : Nat) (a b : List It) (w : World) (hA : Its w p a) (hB : Its w q b) (hc : a.length ≤ c) (hd : b.length ≤ d) (hcm : c ≤ maxLen) (hdm : d ≤ maxLen) (ha : a.length ≤ 1000) (hb : b.length ≤ 1000) (ta : txtsB a) (tb : txtsB b) (hsmall : dis a b ≤ 1000000000) :
    Calls Try.prog 17 #[.slice p a.length c, .slice q b.length d] w fun e w' => e = .returned (.int .i64 (pct a b : Nat)) ∧ Below w.heap.size w w' := by
  have h1 := fun W h k => total_both p q c d a b W h k hc hd hcm hdm (by omega) (by omega)
  have h2 := fun W h k => distance_any p q c d a b W h k hc hd hcm hdm (by omega) (by omega) ta tb
  have hl := tot_le a b (by omega) (by omega)
  have H1 := Lib.hid h1; have H2 := Lib.hid h2
  have HP := Lib.hid (show pct a b = pcN (tot a b) (dis a b) from rfl)
  clear h1 h2
  generalize tot a b = T at *
  generalize dis a b = D at *
  by_cases hz : T = 0
  · have HQ := Lib.hid (show pcN T D = 100 by unfold pcN; rw [if_pos hz])
    have qz : ((T : Int) == 0) = true := by simp; omega
    clear hz
    go_enter Try.func17, Try.ntmps17
    go_wp2_with fail
    refine (H1.out _ hA hB).mono ?_; rintro e w1 ⟨rfl, hb1⟩
    go_wp2_with fail
    go_ret
    exact ⟨by rw [HP.out, HQ.out]; rfl, hb1⟩
  · have HQ := Lib.hid (show pcN T D = 100 * (T - D) / T by unfold pcN; rw [if_neg hz])
    have qz : ((T : Int) == 0) = false := by simp; omega
    have em : max ((T : Int) - (D : Int)) 0 = ((T - D : Nat) : Int) := by omega
    have hR : T - D ≤ T := Nat.sub_le _ _
    have ed : (100 * ((T - D : Nat) : Int)).tdiv (T : Int) = ((100 * (T - D) / T : Nat) : Int) := by
      rw [Int.tdiv_eq_ediv_of_nonneg (by omega)]; push_cast; rfl
    have ed2 : (100 * ((T - D : Nat) : Int)) / (T : Int) = ((100 * (T - D) / T : Nat) : Int) := by
      push_cast; rfl
    have hP := pcN_le T D
    rw [HQ.out] at hP
    generalize T - D = R at *
    generalize 100 * R / T = V at *
    have hT0 : (0 : Int) < (T : Int) := by omega
    go_enter Try.func17, Try.ntmps17
    go_wp2_with fail
    refine (H1.out _ hA hB).mono ?_; rintro e w1 ⟨rfl, hb1⟩
    go_wp2_with fail
    refine (H2.out _ (hA.call hb1) (hB.call hb1)).mono ?_; rintro e w2 ⟨rfl, hb2⟩
    have HB := Lib.hid (BelowOn hb1 hb2)
    clear hb1 hb2
    go_wp2_with fail
    go_ret
    exact ⟨by rw [HP.out, HQ.out]; rfl, HB.out⟩
end Go.Proofs.Ytpkipdiecnokhaa
namespace Go.Proofs.Ytpkipdiecnokhaa
open Go.ChangeShapes Go.WideShapes Go.ChangeAt Go.RowKit Go.Sort
set_option linter.unusedVariables false
set_option linter.unusedSimpArgs false
set_option maxRecDepth 100000

set_option maxHeartbeats 1600000 in
theorem rpercent_any (p q : Option Addr) (c d : Nat) (a b : List It) (w : World) (hA : Its w p a) (hB : Its w q b) (hc : a.length ≤ c) (hd : b.length ≤ d) (hcm : c ≤ maxLen) (hdm : d ≤ maxLen) (ha : a.length ≤ 1000) (hb : b.length ≤ 1000) (ta : txtsB a) (tb : txtsB b) (hsmall : dis a b ≤ 1000000000) :
    Calls Try.prog 18 #[.slice p a.length c, .slice q b.length d] w fun e w' => e = .returned (.int .i64 (pct a b : Nat)) ∧ Below w.heap.size w w' := by
  have h1 := fun W h k => rboth_any p q c d a b W h k hc hd hcm hdm (by omega) (by omega)
  have h2 := fun W h k => rdistance_any p q c d a b W h k hc hd hcm hdm (by omega) (by omega) ta tb
  have hl := tot_le a b (by omega) (by omega)
  have H1 := Lib.hid h1; have H2 := Lib.hid h2
  have HP := Lib.hid (show pct a b = pcN (tot a b) (dis a b) from rfl)
  clear h1 h2
  generalize tot a b = T at *
  generalize dis a b = D at *
  by_cases hz : T = 0
  · have HQ := Lib.hid (show pcN T D = 100 by unfold pcN; rw [if_pos hz])
    have qz : ((T : Int) == 0) = true := by simp; omega
    clear hz
    go_enter Try.func18, Try.ntmps18
    go_wp2_with fail
    refine (H1.out _ hA hB).mono ?_; rintro e w1 ⟨rfl, hb1⟩
    go_wp2_with fail
    go_ret
    exact ⟨by rw [HP.out, HQ.out]; rfl, hb1⟩
  have qz : ((T : Int) == 0) = false := by simp; omega
  have hT0 : (0 : Int) < (T : Int) := by omega
  by_cases hle : D ≤ T
  · have HQ := Lib.hid (show pcN T D = 100 * (T - D) / T by unfold pcN; rw [if_neg hz])
    have es : (T : Int) - (D : Int) = ((T - D : Nat) : Int) := by omega
    have hR : T - D ≤ T := Nat.sub_le _ _
    have ed : (100 * ((T : Int) - (D : Int))).tdiv (T : Int) = ((100 * (T - D) / T : Nat) : Int) := by
      rw [es, Int.tdiv_eq_ediv_of_nonneg (by omega)]; push_cast; rfl
    have ed2 : (100 * ((T : Int) - (D : Int))) / (T : Int) = ((100 * (T - D) / T : Nat) : Int) := by
      rw [es]; push_cast; rfl
    have hP := pcN_le T D
    rw [HQ.out] at hP
    clear es
    generalize 100 * (T - D) / T = V at *
    have em : max 0 (V : Int) = (V : Int) := by omega
    have hd0 : (0 : Int) ≤ (T : Int) - (D : Int) := by omega
    clear hR hz
    go_enter Try.func18, Try.ntmps18
    go_wp2_with fail
    refine (H1.out _ hA hB).mono ?_; rintro e w1 ⟨rfl, hb1⟩
    go_wp2_with fail
    refine (H2.out _ (hA.call hb1) (hB.call hb1)).mono ?_; rintro e w2 ⟨rfl, hb2⟩
    have HB := Lib.hid (BelowOn hb1 hb2)
    clear hb1 hb2
    go_wp2_with fail
    go_ret
    exact ⟨by rw [HP.out, HQ.out]; rfl, HB.out⟩
  · have HQ := Lib.hid (show pcN T D = 0 by unfold pcN; rw [if_neg hz, Nat.sub_eq_zero_of_le (by omega), Nat.mul_zero, Nat.zero_div])
    have ed : ∃ V : Int, (100 * ((T : Int) - (D : Int))).tdiv (T : Int) = V ∧ V ≤ 0 ∧ -1000000000000 ≤ V := by
      refine ⟨_, rfl, ?_, ?_⟩
      · have : (100 * ((T : Int) - (D : Int))) = -(100 * ((D : Int) - (T : Int))) := by omega
        rw [this, Int.neg_tdiv, Int.tdiv_eq_ediv_of_nonneg (by omega)]
        have := Int.ediv_nonneg (show (0 : Int) ≤ 100 * ((D : Int) - (T : Int)) by omega) (show (0 : Int) ≤ (T : Int) by omega)
        omega
      · have : (100 * ((T : Int) - (D : Int))) = -(100 * ((D : Int) - (T : Int))) := by omega
        rw [this, Int.neg_tdiv, Int.tdiv_eq_ediv_of_nonneg (by omega)]
        have := Int.ediv_le_self (a := 100 * ((D : Int) - (T : Int))) (T : Int) (by omega)
        omega
    obtain ⟨V, eV, v0, v1⟩ := ed
    have em : max 0 V = 0 := by omega
    clear hz
    go_enter Try.func18, Try.ntmps18
    go_wp2_with fail
    refine (H1.out _ hA hB).mono ?_; rintro e w1 ⟨rfl, hb1⟩
    go_wp2_with fail
    refine (H2.out _ (hA.call hb1) (hB.call hb1)).mono ?_; rintro e w2 ⟨rfl, hb2⟩
    have HB := Lib.hid (BelowOn hb1 hb2)
    clear hb1 hb2
    go_wp2_with fail
    go_ret
    exact ⟨by rw [HP.out, HQ.out]; rfl, HB.out⟩
/-- The greatest distance with which lists of a total have a percentage. -/
def alw (t p : Int) : Int := if 100 < p then -1 else if p < 1 ∨ t < 1 then 1073741824 else min t 1073741824 * (100 - p) / 100
theorem allow_div (m k : Int) (hm : 0 ≤ m) (hk : 0 ≤ k) : (m * k).tdiv 100 = m * k / 100 := Int.tdiv_eq_ediv_of_nonneg (Int.mul_nonneg hm hk)
theorem allow_bound (m k : Int) (h0 : 1 ≤ m) (h1 : m ≤ 1073741824) (k0 : 0 ≤ k) (k1 : k ≤ 99) : 0 ≤ m * k ∧ m * k ≤ 106300440576 := by
  refine ⟨Int.mul_nonneg (by omega) k0, ?_⟩
  have h2 : m * k ≤ 1073741824 * k := Int.mul_le_mul_of_nonneg_right h1 k0
  have h3 : 1073741824 * k ≤ 1073741824 * 99 := Int.mul_le_mul_of_nonneg_left k1 (by omega)
  omega
theorem allowed_any (t p : Int) (w : World) :
    Calls Try.prog 22 #[.int .i64 t, .int .i64 p] w fun e w' => e = .returned (.int .i64 (alw t p)) ∧ w = w' := by
  by_cases h1 : 100 < p
  · have HA := Lib.hid (show alw t p = -1 by unfold alw; rw [if_pos h1])
    go_enter Try.func22, Try.ntmps22
    go_wp2_with fail
    go_ret
    exact ⟨by rw [HA.out]; rfl, rfl⟩
  by_cases h2 : p < 1
  · have HA := Lib.hid (show alw t p = 1073741824 by unfold alw; rw [if_neg h1, if_pos (.inl h2)])
    go_enter Try.func22, Try.ntmps22
    go_wp2_with fail
    go_ret
    exact ⟨by rw [HA.out]; rfl, rfl⟩
  by_cases h3 : t < 1
  · have HA := Lib.hid (show alw t p = 1073741824 by unfold alw; rw [if_neg h1, if_pos (.inr h3)])
    go_enter Try.func22, Try.ntmps22
    go_wp2_with fail
    go_ret
    exact ⟨by rw [HA.out]; rfl, rfl⟩
  have HA := Lib.hid (show alw t p = min t 1073741824 * (100 - p) / 100 by unfold alw; rw [if_neg h1, if_neg (by omega)])
  obtain ⟨M, hM⟩ : ∃ M, min t 1073741824 = M := ⟨_, rfl⟩
  obtain ⟨K, hK⟩ : ∃ K, 100 - p = K := ⟨_, rfl⟩
  have hb := allow_bound M K (by omega) (by omega) (by omega) (by omega)
  have hd := allow_div M K (by omega) (by omega)
  have hMh := Lib.hid hM; have hKh := Lib.hid hK
  rw [hM, hK] at HA
  have hwK : IntKind.i64.wrap (100 - p) = 100 - p := IntWalk.i64_in _ ⟨by omega, by omega⟩
  have hwP : IntKind.i64.wrap (M * K) = M * K := IntWalk.i64_in _ ⟨by omega, by omega⟩
  have hq0 : 0 ≤ M * K / 100 := by omega
  have hq1 : M * K / 100 ≤ 1063004406 := by omega
  have hwQ : IntKind.i64.wrap (M * K / 100) = M * K / 100 := IntWalk.i64_in _ ⟨by omega, by omega⟩
  rw [hK] at hwK
  go_enter Try.func22, Try.ntmps22
  go_wp2_with fail
  go_ret
  exact ⟨by rw [HA.out]; rfl, rfl⟩
theorem rallowed_any (t p : Int) (w : World) :
    Calls Try.prog 23 #[.int .i64 t, .int .i64 p] w fun e w' => e = .returned (.int .i64 (alw t p)) ∧ w = w' := by
  by_cases h1 : 100 < p
  · have HA := Lib.hid (show alw t p = -1 by unfold alw; rw [if_pos h1])
    go_enter Try.func23, Try.ntmps23
    go_wp2_with fail
    go_ret
    exact ⟨by rw [HA.out]; rfl, rfl⟩
  by_cases h2 : p < 1
  · have HA := Lib.hid (show alw t p = 1073741824 by unfold alw; rw [if_neg h1, if_pos (.inl h2)])
    go_enter Try.func23, Try.ntmps23
    go_wp2_with fail
    go_ret
    exact ⟨by rw [HA.out]; rfl, rfl⟩
  by_cases h3 : t < 1
  · have HA := Lib.hid (show alw t p = 1073741824 by unfold alw; rw [if_neg h1, if_pos (.inr h3)])
    go_enter Try.func23, Try.ntmps23
    go_wp2_with fail
    go_ret
    exact ⟨by rw [HA.out]; rfl, rfl⟩
  have HA := Lib.hid (show alw t p = min t 1073741824 * (100 - p) / 100 by unfold alw; rw [if_neg h1, if_neg (by omega)])
  obtain ⟨M, hM⟩ : ∃ M, min t 1073741824 = M := ⟨_, rfl⟩
  obtain ⟨K, hK⟩ : ∃ K, 100 - p = K := ⟨_, rfl⟩
  have hb := allow_bound M K (by omega) (by omega) (by omega) (by omega)
  have hd := allow_div M K (by omega) (by omega)
  have hMh := Lib.hid hM; have hKh := Lib.hid hK
  rw [hM, hK] at HA
  have hwK : IntKind.i64.wrap (100 - p) = 100 - p := IntWalk.i64_in _ ⟨by omega, by omega⟩
  have hwP : IntKind.i64.wrap (M * K) = M * K := IntWalk.i64_in _ ⟨by omega, by omega⟩
  have hq0 : 0 ≤ M * K / 100 := by omega
  have hq1 : M * K / 100 ≤ 1063004406 := by omega
  have hwQ : IntKind.i64.wrap (M * K / 100) = M * K / 100 := IntWalk.i64_in _ ⟨by omega, by omega⟩
  rw [hK] at hwK
  go_enter Try.func23, Try.ntmps23
  go_wp2_with fail
  go_ret
  exact ⟨by rw [HA.out]; rfl, rfl⟩
set_option maxHeartbeats 3200000 in
theorem smade_any (p : Option Addr) (cap : Nat) (L : List Int) (n : Nat) (w : World) (hL : Ones w (Value.int .i64) p L) (hw : ∀ i (h : i < L.length), (Lit.int .i64 (L[i]'h)).wf = true) (hc : L.length ≤ cap) (hm : cap ≤ maxLen) (hn : n ≤ 1000) :
    Calls Try.prog 15 #[.slice p L.length cap, .int .i64 n] w (EndT (mkD L n) w) := by
  have hN := NumsAt.made hL hw hc hm
  have hf := fragment_any w.heap.size p cap L 0 true false 8 8 rfl _ hN (fun h0 a ha => by have := ones_any hL h0 a ha; simp; omega) (by omega) (by omega)
  have HF := Lib.hid hf; clear hf hN
  have hsm := (mk_sm L true false)
  have hln := (mk_ok L true false).len
  have htx := (mk_ok L true false).txt
  have htl := toks_len (mk L true false)
  have hT := fun W q c h1 h2 h3 => rtokens_any q c (mk L true false) W h1 h2 h3 (by omega)
  have HT := Lib.hid hT; clear hT
  unfold maxLen at hm
  have hmk : mkD L n = (toks (mk L true false)).take n := rfl
  have HMK := Lib.hid hmk
  generalize hF : mk L true false = F at *
  have HFF := Lib.hid hF
  clear hF hsm hmk
  go_enter Try.func15, Try.ntmps15
  go_wp2_with fail
  refine (HF.out).mono ?_
  rintro e w2 ⟨v, rfl, hg, hN2, hown⟩
  have hb : Below w.heap.size w w2 := (blw (Below.refl w.heap.size w) _).trans (grown_below hg (Nat.le_refl _) (by simp))
  have hfr : (fragG L true false 0 8).1 = F := HFF.out
  have hown2 : OwnL 59 3 ienc w.heap.size F v w2 := by rw [← hfr]; exact ownsRow_base hown (by simp)
  obtain ⟨q, c, rfl, hc1, hc2, hI⟩ := OwnL.its hown2
  clear hN2 hown hg hown2 hfr
  go_wp2_with fail
  refine (HT.out w2 q c hI hc1 hc2).mono ?_
  rintro e w3 ⟨v, rfl, hA⟩
  have hb3 := BelowOn hb hA.below
  have hown3 : OwnT w.heap.size (toks F) v w3 := ownsRow_base hA.own hb.size
  obtain ⟨q2, c2, rfl, hd1, hd2, hI2⟩ := OwnT.its hown3
  unfold maxLen at hd2
  by_cases hle : n ≤ (toks F).length
  · have ht := own_take hown3 hle
    rw [← HMK.out] at ht
    have HX := Lib.hid (And.intro ht hb3)
    have e1 : min ((toks F).length : Int) (n : Int) = (n : Int) := by omega
    have q0 : (0 : Int) ≤ (n : Int) := by omega
    have q1 : (n : Int) ≤ (c2 : Int) := by omega
    clear ht hA hown3 hI2 hb3 hI hb
    generalize (toks F).length = T at *
    go_wp2_with fail
    obtain ⟨ht, hb3⟩ := HX.out
    go_ret
    exact ⟨_, rfl, hb3, ht⟩
  · have hmm : mkD L n = toks F := by rw [HMK.out, List.take_of_length_le (by omega)]
    have hA2 := hown3
    rw [← hmm] at hA2
    have hlen : (mkD L n).length = (toks F).length := by rw [hmm]
    have HX := Lib.hid (And.intro hown3 hb3)
    have HM := Lib.hid hmm
    have e1 : min ((toks F).length : Int) (n : Int) = ((toks F).length : Int) := by omega
    have q0 : (0 : Int) ≤ ((toks F).length : Int) := by omega
    have q1 : ((toks F).length : Int) ≤ (c2 : Int) := by omega
    clear hA hA2 hown3 hI2 hb3 hI hb hmm hlen
    go_wp2_with fail
    obtain ⟨ht, hb3⟩ := HX.out
    go_ret
    exact ⟨_, rfl, hb3, by rw [HM.out]; exact ht⟩
end Go.Proofs.Ytpkipdiecnokhaa
namespace Go.Proofs.Ytpkipdiecnokhaa
open Go.ChangeShapes Go.WideShapes Go.ChangeAt Go.RowKit Go.Sort
set_option linter.unusedVariables false
set_option linter.unusedSimpArgs false
set_option maxRecDepth 100000

theorem pct44 : pct rcT rcsT = 44 := by decide +kernel
theorem pct100 : pct [] [] = 100 := by decide +kernel
theorem alw5 : alw 9 44 = 5 := by decide +kernel
theorem alw4 : alw 9 45 = 4 := by decide +kernel
set_option maxHeartbeats 3200000 in
theorem sknown_any (w : World) : Calls Try.prog 14 #[] w fun e w' => e = .returned (.bool true) ∧ Below w.heap.size w w' := by
  have t1 : ∀ W a, Its W a rc → Calls Try.prog 37 #[.slice a 1 1] W fun e w' => ∃ p c, e = .returned (.slice p 3 c) ∧ 3 ≤ c ∧ c ≤ maxLen ∧ Its w' p rcT ∧ Below W.heap.size W w' := fun W a h => by
    have := rtokens_any a 1 rc W h (by decide) (by decide) (by decide)
    rw [rc_toks] at this
    exact this.mono fun _ _ x => EndT.f x
  have t2 : ∀ W a, Its W a rcs → Calls Try.prog 37 #[.slice a 1 1] W fun e w' => ∃ p c, e = .returned (.slice p 3 c) ∧ 3 ≤ c ∧ c ≤ maxLen ∧ Its w' p rcsT ∧ Below W.heap.size W w' := fun W a h => by
    have := rtokens_any a 1 rcs W h (by decide) (by decide) (by decide)
    rw [rcs_toks] at this
    exact this.mono fun _ _ x => EndT.f x
  have d5 : ∀ W p c q d, Its W p rcT → Its W q rcsT → 3 ≤ c → c ≤ maxLen → 3 ≤ d → d ≤ maxLen → Calls Try.prog 17 #[.slice p 3 c, .slice q 3 d] W fun e w' => e = .returned (.int .i64 44) ∧ Below W.heap.size W w' := fun W p c q d h1 h2 h3 h4 h5 h6 => by
    have := percent_any p q c d rcT rcsT W h1 h2 h3 h5 h4 h6 (by decide) (by decide) (txtsB_of _ (by decide +kernel)) (txtsB_of _ (by decide +kernel)) (by rw [dis5]; decide)
    rwa [pct44] at this
  have d0 : ∀ W, Calls Try.prog 17 #[.slice none 0 0, .slice none 0 0] W fun e w' => e = .returned (.int .i64 100) ∧ Below W.heap.size W w' := fun W => by
    have := percent_any none none 0 0 [] [] W (Its.nil _ _) (Its.nil _ _) (by decide) (by decide) (by decide) (by decide) (by decide) (by decide) (fun x hx => by cases hx) (fun x hx => by cases hx) (by decide +kernel)
    rwa [pct100] at this
  have a5 : ∀ W, Calls Try.prog 22 #[.int .i64 9, .int .i64 44] W fun e w' => e = .returned (.int .i64 5) ∧ W = w' := fun W => by
    have := allowed_any 9 44 W; rwa [alw5] at this
  have a4 : ∀ W, Calls Try.prog 22 #[.int .i64 9, .int .i64 45] W fun e w' => e = .returned (.int .i64 4) ∧ W = w' := fun W => by
    have := allowed_any 9 45 W; rwa [alw4] at this
  have T1 := Lib.hid t1; have T2 := Lib.hid t2; have D5 := Lib.hid d5; have D0 := Lib.hid d0; have A5 := Lib.hid a5; have A4 := Lib.hid a4
  clear t1 t2 d5 d0 a5 a4
  go_enter Try.func14, Try.ntmps14
  go_wp2_with fail
  have hB0 : Below w.heap.size w _ := blw (Below.refl _ _) (.cells (icells rc).toArray 59)
  have hI0 : Its _ _ rc := Its.lit (heap_alloc_new w (.cells (icells rc).toArray 59)) rfl
  refine (T1.out _ _ hI0).mono ?_; rintro e w1 ⟨p1, c1, rfl, hc1, hm1, hI1, hb1⟩
  have hB1 := BelowOn hB0 hb1
  clear hI0 hB0 hb1
  go_wp2_with fail
  have hb2 : Below w1.heap.size w1 _ := blw (Below.refl _ _) (.cells (icells rcs).toArray 59)
  have hI2 : Its _ _ rcs := Its.lit (heap_alloc_new w1 (.cells (icells rcs).toArray 59)) rfl
  refine (T2.out _ _ hI2).mono ?_; rintro e w2 ⟨p2, c2, rfl, hc2, hm2, hI3, hb3⟩
  have hb4 := BelowOn hb2 hb3
  have hI4 := hI1.call hb4
  have hB2 := BelowOn hB1 hb4
  clear hI1 hI2 hb2 hb3 hb4 hB1
  go_wp2_with fail
  refine (D5.out _ _ _ _ _ hI4 hI3 hc1 hm1 hc2 hm2).mono ?_; rintro e w3 ⟨rfl, hb⟩
  replace hB2 := BelowOn hB2 hb
  clear hb hI4 hI3
  go_wp2_with fail
  refine (A5.out _).mono ?_; rintro e w4 ⟨rfl, rfl⟩
  go_wp2_with fail
  refine (A4.out _).mono ?_; rintro e w4 ⟨rfl, rfl⟩
  go_wp2_with fail
  refine (D0.out _).mono ?_; rintro e w4 ⟨rfl, hb⟩
  replace hB2 := BelowOn hB2 hb
  clear hb
  go_wp2_with fail
  go_ret
  exact ⟨rfl, hB2⟩
theorem samectx_any (s t : ByteArray) (w : World) : Calls Try.prog 44 #[.string s, .string t] w fun e w' => e = .returned (.bool (!(s.toList.isEmpty) && (s.toList == t.toList))) ∧ w = w' := by
  by_cases h : s.toList = []
  · have q : s.toList.isEmpty = true := by rw [h]; rfl
    go_enter Try.func44, Try.ntmps44
    go_wp2_with fail
    go_ret
    exact ⟨by rw [q]; rfl, rfl⟩
  · have q : s.toList.isEmpty = false := by cases hs : s.toList with
                                            | nil => exact absurd hs h
                                            | cons _ _ => rfl
    go_enter Try.func44, Try.ntmps44
    go_wp2_with fail
    go_ret
    exact ⟨by rw [q]; rfl, rfl⟩
end Go.Proofs.Ytpkipdiecnokhaa
