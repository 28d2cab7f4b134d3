/- Slots. -/
import Derived.Test.YtnfapcfajoboaaaIns
namespace Go.Proofs.Ytnfapcfajoboaaa
open Go.ChangeShapes Go.WideShapes Go.ChangeAt Go.RowKit
set_option linter.unusedVariables false
set_option maxRecDepth 100000

def slN (l : List It) : List ByteArray := (l.filter fun x => decide (x.k = 5)).map It.t
theorem slN_next (l : List It) (k : Nat) (h : k < l.length) : slN (l.take (k + 1)) = slN (l.take k) ++ (if (l[k]'h).k = 5 then [(l[k]'h).t] else []) := by
  rw [List.take_succ_eq_append_getElem h]; unfold slN; rw [List.filter_append, List.map_append]
  congr 1
  by_cases hh : (l[k]'h).k = 5 <;> simp [hh]
theorem slN_len (l : List It) : (slN l).length ≤ l.length := by unfold slN; rw [List.length_map]; exact List.length_filter_le _ _
def slS (l : List It) : List ByteArray := (slN l).foldl insS []
theorem slS_yes (l : List It) (k : Nat) (h : k < l.length) (h5 : (l[k]'h).k = 5) : slS (l.take (k + 1)) = insS (slS (l.take k)) (l[k]'h).t := by
  unfold slS; rw [slN_next l k h, if_pos h5, List.foldl_append]; rfl
theorem slS_no (l : List It) (k : Nat) (h : k < l.length) (h5 : (l[k]'h).k ≠ 5) : slS (l.take (k + 1)) = slS (l.take k) := by
  unfold slS; rw [slN_next l k h, if_neg h5, List.append_nil]

/-! ### what insertion makes is sorted -/
abbrev bl (b : ByteArray) : List UInt8 := b.data.toList
theorem ins_cons (x : ByteArray) (t : List ByteArray) (s : ByteArray) : insS (x :: t) s = if leS x s = true then x :: insS t s else s :: x :: t := by
  unfold insS
  rw [List.takeWhile_cons, List.dropWhile_cons]
  cases h : leS x s <;> simp
theorem ins_perm (l : List ByteArray) (s : ByteArray) : (insS l s).Perm (s :: l) := by
  induction l with
  | nil => exact List.Perm.refl _
  | cons x t ih =>
    rw [ins_cons]
    split
    · exact (ih.cons x).trans (List.Perm.swap s x t)
    · exact List.Perm.refl _
theorem ins_sorted (l : List ByteArray) (s : ByteArray) (h : l.Pairwise fun x y => bl x ≤ bl y) : (insS l s).Pairwise fun x y => bl x ≤ bl y := by
  induction l with
  | nil => exact List.pairwise_singleton _ _
  | cons x t ih =>
    rw [ins_cons]
    rw [List.pairwise_cons] at h
    by_cases hx : leS x s = true
    · rw [if_pos hx, List.pairwise_cons]
      refine ⟨fun y hy => ?_, ih h.2⟩
      rcases List.mem_cons.1 ((ins_perm t s).mem_iff.1 hy) with rfl | hy
      · exact of_decide_eq_true hx
      · exact h.1 y hy
    · rw [if_neg hx, List.pairwise_cons]
      have hle : bl s ≤ bl x := by
        rcases List.le_total (bl s) (bl x) with h1 | h1
        · exact h1
        · exact absurd (decide_eq_true h1) hx
      refine ⟨fun y hy => ?_, List.pairwise_cons.2 h⟩
      rcases List.mem_cons.1 hy with rfl | hy
      · exact hle
      · exact List.le_trans hle (h.1 y hy)
theorem fold_sorted (L : List ByteArray) : ∀ acc : List ByteArray, (acc.Pairwise fun x y => bl x ≤ bl y) → ((L.foldl insS acc).Pairwise fun x y => bl x ≤ bl y) ∧ (L.foldl insS acc).Perm (acc ++ L) := by
  induction L with
  | nil => intro acc h; exact ⟨h, by rw [List.append_nil]; exact List.Perm.refl _⟩
  | cons x t ih =>
    intro acc h
    obtain ⟨a, b⟩ := ih (insS acc x) (ins_sorted acc x h)
    refine ⟨a, b.trans ?_⟩
    exact ((ins_perm acc x).append_right t).trans (List.perm_middle.symm)
def sortB (L : List ByteArray) : List (List UInt8) := (L.map bl).mergeSort fun x y => decide (x ≤ y)
theorem sort_fold (L : List ByteArray) : (L.foldl insS []).map bl = sortB L := by
  obtain ⟨a, b⟩ := fold_sorted L [] List.Pairwise.nil
  have tr : ∀ a b c : List UInt8, (decide (a ≤ b)) = true → (decide (b ≤ c)) = true → (decide (a ≤ c)) = true := fun a b c h1 h2 => by simp only [decide_eq_true_eq] at *; exact List.le_trans h1 h2
  have to : ∀ a b : List UInt8, (decide (a ≤ b) || decide (b ≤ a)) = true := fun a b => by simp only [Bool.or_eq_true, decide_eq_true_eq]; exact List.le_total a b
  refine List.Perm.eq_of_pairwise (le := fun a b => decide (a ≤ b) = true) (fun a b _ _ h1 h2 => ?_) ?_ (List.pairwise_mergeSort tr to (L.map bl)) (((b.map bl).trans ?_))
  · simp only [decide_eq_true_eq] at h1 h2; exact List.le_antisymm h1 h2
  · rw [List.pairwise_map]; exact a.imp fun h => decide_eq_true h
  · exact (List.mergeSort_perm (L.map bl) _).symm
theorem enc_bl (L : List ByteArray) : (L.map bl).map encStr = cellsOf senc L := by
  rw [scells, List.map_map]
  apply List.map_congr_left
  intro x _; rfl

theorem insert_any {base : Nat} (v : Value) (L : List ByteArray) (s : ByteArray) (w : World) (h : OwnL 9 1 senc base L v w) (hn : L.length ≤ 4000000000) : Calls Try.prog 80 #[v, .string s] w (EndS (insS L s) w) := by
  obtain ⟨p1, c1, hv1, a1, a2, hI⟩ := h.strs
  rcases h.2 with ⟨hv, h0⟩ | ⟨g, cap, cur, hv, hg, hh, hle, hm, hs, ht⟩
  · have : L = [] := List.length_eq_zero_iff.1 h0
    subst this; rw [hv]; exact insert_nil s w
  · rw [hv1] at hv
    injection hv with e1 e2 e3
    subst e1; subst e3; subst hv1
    exact insert_some g _ L s w hI a1 a2 hn

set_option maxHeartbeats 1600000 in
theorem rslots_any (p : Option Addr) (cap : Nat) (l : List It) (w : World) (hR : Its w p l) (hc : l.length ≤ cap) (hm : cap ≤ maxLen) (hn : l.length ≤ 4000000000) :
    Calls Try.prog 36 #[.slice p l.length cap] w (EndS (slS l) w) := by
  unfold maxLen at hm
  have hlen : ∀ k, k ≤ l.length → (slS (l.take k)).length ≤ 4000000000 := fun k hk => by
    have h1 := (fold_sorted (slN (l.take k)) [] List.Pairwise.nil).2.length_eq
    have h2 := slN_len (l.take k)
    unfold slS; rw [h1]; simp at h2 ⊢; omega
  have HL := Lib.hid hlen; clear hlen
  go_enter Try.func36, Try.ntmps36
  go_wp2_with fail
  go_loopw [3, 7] (fun v i wr => ∃ k : Nat, k ≤ l.length ∧ i = .int .i64 k ∧ AccS w (slS (l.take k)) v wr) (fun _ i _ => l.length - (intOf i).toNat)
  case atStart => exact ⟨0, Nat.zero_le _, rfl, Acc.start _⟩
  case round =>
    obtain ⟨k, hk, rfl, hA⟩ := hrel
    by_cases hlt : k < l.length
    · obtain ⟨ad, rfl, had, c0, c1, c2⟩ := (hR.call hA.below).row k hlt
      have hyes := slS_yes l k hlt
      have hno := slS_no l k hlt
      have hl := HL.out k hk
      generalize l[k] = x at *
      generalize slS (l.take k) = out at *
      have hins := insert_any _ out x.t wr hA.own hl
      by_cases h5 : x.k = 5
      · have q : (x.k == 5) = true := by simpa using h5
        have HX := Lib.hid (hyes h5); have HI := Lib.hid hins
        clear hyes hno h5 hins
        go_wp2_with fail
        refine (HI.out).mono ?_; rintro e w2 ⟨v2, rfl, hA2⟩
        have hA3 : AccS w (insS out x.t) v2 w2 := ⟨BelowOn hA.below hA2.below, ownsRow_base hA2.own hA.below.size⟩
        go_wp2_with fail
        go_roundw
        case rel => exact ⟨k + 1, hlt, by go_num, by rw [HX.out]; exact hA3⟩
        case measure => simp [intOf]; omega
      · have q : (x.k == 5) = false := by simpa using h5
        have HX := Lib.hid (hno h5)
        clear hyes hno h5 hins
        go_wp2_with fail
        go_roundw
        case rel => exact ⟨k + 1, hlt, by go_num, by rw [HX.out]; exact hA⟩
        case measure => simp [intOf]; omega
    · obtain rfl : k = l.length := by omega
      rw [List.take_length] at hA
      go_wp2_with fail
      go_ret
      exact ⟨_, rfl, hA⟩

/-- Sorting a slice that the call owns. -/
theorem sort_own {w0 : World} (v : Value) (L : List ByteArray) (w : World) (h : AccS w0 L v w) (hn : L.length ≤ 4000000000) : Calls Try.prog 79 #[v] w fun e w' => e = .returned (.tuple #[]) ∧ AccS w0 (L.foldl insS []) v w' := by
  have hlen : (L.foldl insS []).length = L.length := by
    have := (fold_sorted L [] List.Pairwise.nil).2.length_eq; simpa using this
  rcases h.own.2 with ⟨hv, h0⟩ | ⟨g, cap, cur, hv, hg, hh, hle, hm, hs, ht⟩
  · have : L = [] := List.length_eq_zero_iff.1 h0
    subst this; subst hv
    exact (Try.slices_Sort_string_none none 0 w).mono fun e w' ⟨a, b⟩ => ⟨a, by subst b; exact h⟩
  · subst hv
    have hl1 : (L.map bl).length = L.length := List.length_map ..
    have ht' : cur.toList.take (L.map bl).length = (L.map bl).map encStr := by rw [hl1, enc_bl]; simpa using ht
    have hH := holds_of_block hh ht'
    have hblk := (Array.getElem?_eq_some_iff.1 hh).1
    have hc := Try.slices_Sort_string g 0 cap (L.map bl) w hH hblk (by rw [hl1]; omega)
    rw [hl1] at hc
    refine hc.mono ?_
    rintro e w' ⟨rfl, n, os, rfl⟩
    refine ⟨rfl, h.below.grown (grownBy_sorted _) h.below.size (fun k hk => by injection hk with hk; omega), ?_⟩
    have hrow := ownsRow_sorted (n := n) (os := os) (e := 9) (base := w0.heap.size) (ss := L.map bl) (ts := (L.map bl).mergeSort fun x y => decide (x ≤ y)) (by simp) hg hh (by rw [hl1]; exact hle) hm hs
    unfold OwnL
    rw [hlen, ← enc_bl, sort_fold]
    rw [hl1] at hrow
    exact hrow

set_option maxHeartbeats 1600000 in
theorem slots_any (p : Option Addr) (cap : Nat) (l : List It) (w : World) (hR : Its w p l) (hc : l.length ≤ cap) (hm : cap ≤ maxLen) (hn : l.length ≤ 4000000000) :
    Calls Try.prog 35 #[.slice p l.length cap] w (EndS (slS l) w) := by
  unfold maxLen at hm
  go_enter Try.func35, Try.ntmps35
  go_wp2_with fail
  go_loopw [3, 8] (fun v i wr => ∃ k : Nat, k ≤ l.length ∧ i = .int .i64 k ∧ AccS w (slN (l.take k)) v wr) (fun _ i _ => l.length - (intOf i).toNat)
  case atStart => exact ⟨0, Nat.zero_le _, rfl, Acc.start _⟩
  case round =>
    obtain ⟨k, hk, rfl, hA⟩ := hrel
    by_cases hlt : k < l.length
    · obtain ⟨ad, rfl, had, c0, c1, c2⟩ := (hR.call hA.below).row k hlt
      have hnx := slN_next l k hlt
      have hlen := slN_len (l.take k)
      generalize l[k] = x at *
      have hol : (slN (l.take k)).length ≤ 4000000000 := by simp at hlen; omega
      generalize slN (l.take k) = out at *
      clear hlen
      by_cases h5 : x.k = 5
      · have q : (x.k == 5) = true := by simpa using h5
        rw [if_pos h5] at hnx
        have HX := Lib.hid hnx
        clear hnx h5
        go_wp2_with (at_builtin; refine wpl_append eS _ rfl _ _ rfl w out _ rfl ((hA.alloc _).alloc _) x.t (wr.heap.size + 1) #[.string x.t] rfl (heap_new2 _ _ _) rfl (by omega) (by unfold maxLen; omega) ?_; intro v' w4 hA4 hb4)
        go_wp2_with fail
        go_roundw
        case rel => exact ⟨k + 1, hlt, by go_num, by rw [HX.out]; exact hA4⟩
        case measure => simp [intOf]; omega
      · have q : (x.k == 5) = false := by simpa using h5
        rw [if_neg h5, List.append_nil] at hnx
        have HX := Lib.hid hnx
        clear hnx h5
        go_wp2_with fail
        go_roundw
        case rel => exact ⟨k + 1, hlt, by go_num, by rw [HX.out]; exact hA.alloc _⟩
        case measure => simp [intOf]; omega
    · obtain rfl : k = l.length := by omega
      rw [List.take_length] at hA
      have hs := sort_own _ (slN l) wr hA (by have := slN_len l; omega)
      have HS := Lib.hid hs; clear hs
      go_wp2_with fail
      refine (HS.out).mono ?_; rintro e w2 ⟨rfl, hA2⟩
      go_wp2_with fail
      go_ret
      exact ⟨_, rfl, hA2⟩
end Go.Proofs.Ytnfapcfajoboaaa
