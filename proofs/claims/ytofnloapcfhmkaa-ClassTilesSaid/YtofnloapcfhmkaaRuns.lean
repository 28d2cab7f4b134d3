/- Contracts of Runs and of the reference's Runs. -/
import Derived.Test.YtofnloapcfhmkaaLeaf
import Derived.Test.YtofnloapcfhmkaaRunMath
import Derived.Below
import Derived.OwnWalk
import Derived.LoopTactic
import Derived.Outline
import Derived.Deep.QuietTactic
import Derived.BigQuiet
import Derived.Laws.OwnMore
import Derived.Laws.IdiomStrings
namespace Go.Proofs.Ytofnloapcfhmkaa
open Go.ChangeShapes Go.WideShapes Go.ChangeAt Go.RowKit
set_option linter.unusedVariables false

theorem info38 : (Try.prog.info? 38).map (fun i => (i.zero, i.size, i.bytes)) = some (some (.agg #[.int .i64 0, .int .i64 0]), 2, 16) := by kernel_rfl
theorem byteLe (c : UInt8) : (c.toNat : Int) ≤ 255 := by have := c.toNat_lt; omega
theorem of_q (n : Int) (w : World) (k : Nat) (h0 : 0 ≤ n) (h1 : n ≤ 255) :
    Calls Try.prog 12 #[.int .u8 n] (w.drewN k) fun e w' => e = .returned (.int .i64 (cls n)) ∧ w' = w.drewN k :=
  (of_any n _ h0 h1).mono fun e w' ⟨he, hw⟩ => ⟨he, hw.symm⟩
theorem rof_q (n : Int) (w : World) (k : Nat) (h0 : 0 ≤ n) (h1 : n ≤ 255) :
    Calls Try.prog 13 #[.int .u8 n] (w.drewN k) fun e w' => e = .returned (.int .i64 (cls n)) ∧ w' = w.drewN k :=
  (rof_any n _ h0 h1).mono fun e w' ⟨he, hw⟩ => ⟨he, hw.symm⟩

/-- The value reads as the list of ranges; it lies in memory that is new behind w. -/
structure OwnRanges (w : World) (l : List (Nat × Nat)) (v : Value) (w' : World) : Prop where
  below : Below w.heap.size w w'
  own : w'.ownsRow w.heap.size 38 2 v l.length (rcells l)
/-- What Runs returns. -/
def RunsEnd (s : ByteArray) (w : World) (e : Ending) (w' : World) : Prop := ∃ v, e = .returned v ∧ OwnRanges w (runsOf s) v w'

theorem OwnRanges.drewN {w w' : World} {l : List (Nat × Nat)} {v : Value} (h : OwnRanges w l v w') (n : Nat) : OwnRanges w l v (w'.drewN n) := by
  induction n with
  | zero => exact h
  | succ n ih => exact ⟨ih.below.drew, ih.own⟩

theorem OwnRanges.alloc {w w' : World} {l : List (Nat × Nat)} {v : Value} (h : OwnRanges w l v w') (o : Obj) : OwnRanges w l v (w'.alloc o) := ⟨h.below.alloc h.below.size o, h.own.alloc o⟩
/-- One range more. -/
theorem OwnRanges.more {w w' w1 : World} {l : List (Nat × Nat)} {v v' : Value} {a b : Nat} (h : OwnRanges w l v w') (g : w'.grownBy w1 v.ownBlock)
    (o : w1.ownsRow w.heap.size 38 2 v' (l.length + 1) (rcells l ++ [.int .i64 (a : Int), .int .i64 (b : Int)])) : OwnRanges w (l ++ [(a, b)]) v' w1 :=
  ⟨h.below.grown g h.below.size (fun k hk => (h.own.lt k hk).1), by rw [rcells_snoc, List.length_append]; exact o⟩
theorem two_cells (w : World) (x y : Value) (t : TypeId) : ∀ (j : Nat) (u : Value), [x, y][j]? = some u → (w.alloc (.cells #[x, y] t)).cell? ((⟨w.heap.size, 0, none⟩ : Addr).add j) = some u := by
  intro j u hj
  have : (w.alloc (.cells #[x, y] t)).cell? ⟨w.heap.size, 0 + j, none⟩ = #[x, y][0 + j]? := World.cell?_alloc_mark w #[x, y] t (0, 0) (0 + j)
  have e : (⟨w.heap.size, 0, none⟩ : Addr).add j = ⟨w.heap.size, 0 + j, none⟩ := by simp [Addr.add]; exact Eq.symm
  rw [e, this, Nat.zero_add, ← hj]; simp
theorem runs_any (s : ByteArray) (w : World) (hs : s.size ≤ 1000) :
    Calls Try.prog 21 #[.string s] w (RunsEnd s w) := by
  obtain ⟨i0, hi, hz0, hz1, hz2⟩ := info_parts info38
  go_enter Try.func21, Try.ntmps21
  go_wp2_with fail
  go_loopw [3, 4, 5] (fun v f t wr => ∃ k : Nat, 1 ≤ k ∧ k ≤ s.size + 1 ∧ t = .int .i64 k ∧ ((k ≤ s.size ∧ f = .int .i64 ((pf s k).2 : Int) ∧ OwnRanges w (pf s k).1 v wr) ∨ (k = s.size + 1 ∧ OwnRanges w (runsOf s) v wr))) (fun _ _ t _ => s.size + 1 - (intOf t).toNat)
  case atStart =>
    have h0 : OwnRanges w [] (.slice none 0 0) w := ⟨Below.refl _ _, World.ownsRow_nil _ _ _ _⟩
    by_cases hz : 1 ≤ s.size
    · exact ⟨1, by omega, by omega, rfl, .inl ⟨hz, rfl, h0⟩⟩
    · have e : runsOf s = [] := by unfold runsOf rn; rw [if_pos (by omega)]
      exact ⟨1, by omega, by omega, rfl, .inr ⟨by omega, by rw [e]; exact h0⟩⟩
  case round =>
    obtain ⟨k, hk1, hk2, rfl, hR⟩ := hrel
    rcases hR with ⟨hk, rfl, hR⟩ | ⟨rfl, hR⟩
    · obtain ⟨hop, _⟩ := pf_open s k hk1
      have hl := pf_last s k hk1
      have hn := pf_len s k
      have HSAME := Lib.hid (pf_same s k hk1)
      have HNEW := Lib.hid (pf_new s k hk1)
      obtain ⟨F, hF⟩ : ∃ F, F = (pf s k).2 := ⟨_, rfl⟩
      obtain ⟨L, hL⟩ : ∃ L, L = (pf s k).1 := ⟨_, rfl⟩
      rw [← hF] at hl hop ⊢
      rw [← hL] at hn hR
      have HF := Lib.hid hF; have HL := Lib.hid hL; clear hF hL
      by_cases hlt : k < s.size
      · rw [clA_at s F (by omega)] at hl
        have hck := clA_at s k hlt
        have b1 := byteLe s[k]
        have hFs : F < s.size := by omega
        have b2 := byteLe s[F]
        have g0 : ((k : Int) == (s.size : Int)) = false := by simp; omega
        cases hq : (cls (s[k].toNat : Int) != cls (s[F].toNat : Int))
        · have HE : Hid (clA s k = clA s (k - 1)) := by
            show _ = _
            rw [hck, ← hl]; simpa using hq
          have HR := Lib.hid hR
          clear hl hck hR
          go_wp2_with fail
          go_quiet ((first | (go_at_call 12; exact Calls.quiet_of_same (of_q _ _ _ (by omega) b1)) | (go_at_call 12; exact Calls.quiet_of_same (of_q _ _ _ (by omega) b2))))
          clear hq g0
          go_wp2_with fail
          go_roundw
          case rel =>
            have hp := HSAME.out HE.out
            exact ⟨k + 1, by omega, by omega, by go_num, .inl ⟨by omega, by rw [hp, ← HF.out], by rw [hp, ← HL.out]; exact HR.out.drewN _⟩⟩
          case measure => simp [intOf]; omega
        · have HE : Hid (¬ clA s k = clA s (k - 1)) := by
            show ¬ _
            rw [hck, ← hl]; simpa using hq
          have HR := Lib.hid hR
          clear hl hck hR
          go_wp2_with fail
          go_quiet ((first | (go_at_call 12; exact Calls.quiet_of_same (of_q _ _ _ (by omega) b1)) | (go_at_call 12; exact Calls.quiet_of_same (of_q _ _ _ (by omega) b2))))
          clear hq g0
          have hR := HR.out.drewN nq
          go_wp2_with (at_builtin; refine wpList_append_own _ rfl _ _ 35 rfl w.heap.size 38 i0 (.agg #[.int .i64 0, .int .i64 0]) 2 16 Try.underlying35 hi hz0 hz1 hz2 rfl (by decide) _ _ _ rfl (hR.own.alloc _) ⟨(wr.drewN nq).heap.size, 0, none⟩ 1 1 [.int .i64 (F : Int), .int .i64 (k : Int)] rfl rfl ?c1 ?c2 ?c3 ?c4 ?c5 ?_)
          case c1 => exact two_cells _ _ _ _
          case c2 => intro u hu; simp at hu; rcases hu with rfl | rfl <;> rfl
          case c3 => unfold maxLen; omega
          case c4 => omega
          case c5 => exact (hR.alloc _).below.size
          intro v' w1 hown' hgrow _
          have H1 := Lib.hid ((hR.alloc _).more hgrow hown')
          clear hR hown' hgrow
          go_wp2_with fail
          go_roundw
          case rel =>
            have hp := HNEW.out HE.out
            exact ⟨k + 1, by omega, by omega, by go_num, .inl ⟨by omega, by rw [hp], by rw [hp, ← HL.out, ← HF.out]; exact H1.out⟩⟩
          case measure => simp [intOf]; omega
      · obtain rfl : k = s.size := by omega
        have g0 : ((s.size : Int) == (s.size : Int)) = true := by simp
        have HR := Lib.hid hR
        clear hl hR
        go_wp2_with fail
        go_quiet (fail)
        clear g0
        have hR := HR.out.drewN nq
        go_wp2_with (at_builtin; refine wpList_append_own _ rfl _ _ 35 rfl w.heap.size 38 i0 (.agg #[.int .i64 0, .int .i64 0]) 2 16 Try.underlying35 hi hz0 hz1 hz2 rfl (by decide) _ _ _ rfl (hR.own.alloc _) ⟨(wr.drewN nq).heap.size, 0, none⟩ 1 1 [.int .i64 (F : Int), .int .i64 (s.size : Int)] rfl rfl ?c1 ?c2 ?c3 ?c4 ?c5 ?_)
        case c1 => exact two_cells _ _ _ _
        case c2 => intro u hu; simp at hu; rcases hu with rfl | rfl <;> rfl
        case c3 => unfold maxLen; omega
        case c4 => omega
        case c5 => exact (hR.alloc _).below.size
        intro v' w1 hown' hgrow _
        have H1 := Lib.hid ((hR.alloc _).more hgrow hown')
        clear hR hown' hgrow
        go_wp2_with fail
        go_roundw
        case rel =>
          exact ⟨s.size + 1, by omega, by omega, by go_num, .inr ⟨rfl, by rw [show runsOf s = L ++ [(F, s.size)] from by unfold runsOf rn; rw [if_neg (by omega), ← HL.out, ← HF.out]]; exact H1.out⟩⟩
        case measure => simp [intOf]
    · go_wp2_with fail
      go_ret
      exact ⟨_, rfl, hR⟩

/-- A list of ranges that is not empty lies in a row. -/
theorem OwnRanges.row {w w' : World} {l : List (Nat × Nat)} {a b : Nat} {v : Value} (h : OwnRanges w (l ++ [(a, b)]) v w') : ∃ g cap, v = .slice (some ⟨g, 0, none⟩) (l.length + 1) cap ∧ w.heap.size ≤ g := by
  have e : (l ++ [(a, b)]).length = l.length + 1 := by simp
  have o := h.own
  rw [e] at o
  rcases o.2 with ⟨_, h0⟩ | ⟨g, cap, cur, hv, hb, _⟩
  · omega
  · exact ⟨g, cap, hv, hb⟩
theorem OwnRanges.last {w w' : World} {l : List (Nat × Nat)} {a b g cap : Nat} (h : OwnRanges w (l ++ [(a, b)]) (.slice (some ⟨g, 0, none⟩) (l.length + 1) cap) w') (hg : w.heap.size ≤ g) :
    w'.cell? ⟨g, l.length * 2 + 1, none⟩ = some (.int .i64 (b : Int)) ∧ w'.frozen? ⟨g, l.length * 2 + 1, none⟩ = false ∧
    ∀ c : Nat, OwnRanges w (l ++ [(a, c)]) (.slice (some ⟨g, 0, none⟩) (l.length + 1) cap) (w'.setCell ⟨g, l.length * 2 + 1, none⟩ (.int .i64 (c : Int))) := by
  have e : (l ++ [(a, b)]).length = l.length + 1 := by simp
  have o := h.own
  rw [e] at o
  refine ⟨?_, o.frozenAt _, fun c => ⟨h.below.setCell hg _, ?_⟩⟩
  · rw [o.cellAt _ (by omega), rcells_snoc, List.getElem?_append_right (by rw [rcells_len]; omega), rcells_len, show l.length * 2 + 1 - l.length * 2 = 1 by omega]; rfl
  · have s := (o.stored (l.length * 2 + 1) (.int .i64 (c : Int))).1
    rw [rcells_set] at s
    rw [show (l ++ [(a, c)]).length = l.length + 1 by simp]
    exact s

/-- A slice of ranges: its shape; where it is not empty, a row whose cells read as the list. -/
theorem OwnRanges.view {w w' : World} {l : List (Nat × Nat)} {v : Value} (h : OwnRanges w l v w') :
    ∃ x cap, v = .slice x l.length cap ∧ (0 < l.length → ∃ g, x = some ⟨g, 0, none⟩ ∧ w.heap.size ≤ g ∧ g < w'.heap.size ∧
      ∀ i (hi : i < l.length), w'.cell? ⟨g, i * 2, none⟩ = some (.int .i64 ((l[i]).1 : Int)) ∧ w'.cell? ⟨g, i * 2 + 1, none⟩ = some (.int .i64 ((l[i]).2 : Int))) := by
  have o := h.own
  rcases o.2 with ⟨hv, h0⟩ | ⟨g, cap, cur, hv, hb, hblk, _⟩
  · exact ⟨none, 0, by rw [hv, h0], fun hp => by omega⟩
  · refine ⟨_, cap, hv, fun _ => ⟨g, rfl, hb, (Array.getElem?_eq_some_iff.1 hblk).1, fun i hi => ?_⟩⟩
    rw [hv] at o
    obtain ⟨r1, r2⟩ := rcells_at l i hi
    rw [o.cellAt _ (by omega), o.cellAt _ (by omega), show i * 2 = 2 * i by omega]
    exact ⟨r1, r2⟩
theorem BelowDrewN {B : Nat} {a w : World} (h : Below B a w) (n : Nat) : Below B a (w.drewN n) := h.trans ⟨rfl, rfl, rfl, Nat.le_refl _, fun _ _ => rfl⟩
theorem runs_none {s : ByteArray} (h : s.size = 0) : runsOf s = [] := by unfold runsOf rn; rw [if_pos h]
theorem runs_some {s : ByteArray} (h : 0 < s.size) : runsOf s = (pf s s.size).1 ++ [((pf s s.size).2, s.size)] := by unfold runsOf rn; rw [if_neg (by omega)]
theorem runs_len (s : ByteArray) : (runsOf s).length ≤ s.size + 1 := by
  by_cases h : 0 < s.size
  · rw [runs_some h]; have := pf_len s s.size; simp; omega
  · rw [runs_none (by omega)]; exact Nat.zero_le _

theorem rruns_any (s : ByteArray) (w : World) (hs : s.size ≤ 1000) :
    Calls Try.prog 22 #[.string s] w (RunsEnd s w) := by
  obtain ⟨i0, hi, hz0, hz1, hz2⟩ := info_parts info38
  go_enter Try.func22, Try.ntmps22
  go_wp2_with fail
  go_loopw [3, 4] (fun v t wr => ∃ k : Nat, k ≤ s.size ∧ t = .int .i64 k ∧ OwnRanges w (rn s k) v wr) (fun _ t _ => s.size - (intOf t).toNat)
  case atStart => exact ⟨0, Nat.zero_le _, rfl, Below.refl _ _, World.ownsRow_nil _ _ _ _⟩
  case round =>
    obtain ⟨k, hk, rfl, hR⟩ := hrel
    by_cases hlt : k < s.size
    · by_cases hz : k = 0
      · subst hz
        have g0 : ((0 : Int) == 0) = true := rfl
        have HR := Lib.hid hR
        clear hR
        go_wp2_with fail
        go_quiet (fail)
        clear g0
        have hR : OwnRanges w [] u3 (wr.drewN nq) := HR.out.drewN nq
        go_wp2_with (at_builtin; refine wpList_append_own _ rfl _ _ 35 rfl w.heap.size 38 i0 (.agg #[.int .i64 0, .int .i64 0]) 2 16 Try.underlying35 hi hz0 hz1 hz2 rfl (by decide) _ _ _ rfl (hR.own.alloc _) ⟨(wr.drewN nq).heap.size, 0, none⟩ 1 1 [.int .i64 ((0 : Nat) : Int), .int .i64 ((0 : Nat) : Int)] rfl rfl ?c1 ?c2 ?c3 ?c4 ?c5 ?_)
        case c1 => exact two_cells _ _ _ _
        case c2 => intro u hu; simp at hu; rw [hu]; rfl
        case c3 => simp [maxLen]
        case c4 => simp
        case c5 => exact (hR.alloc _).below.size
        intro v' w1 hown' hgrow _
        have h1 := (hR.alloc _).more (a := 0) (b := 0) hgrow hown'
        obtain ⟨g, cap, hv, hg⟩ := h1.row
        rw [hv] at h1 ⊢
        obtain ⟨e1, e2, e3⟩ := h1.last hg
        have E3 := Lib.hid e3
        clear hR hown' hgrow h1 e3 hv
        simp only [List.length_nil, Nat.zero_mul, Nat.zero_add] at e1 e2 E3 ⊢
        go_wp2_with fail
        go_roundw
        case rel => exact ⟨1, by omega, rfl, E3.out 1⟩
        case measure => simp [intOf]; omega
      · have hn := pf_len s k
        have HSAME := Lib.hid (pf_same s k (by omega))
        have HNEW := Lib.hid (pf_new s k (by omega))
        rw [show rn s k = (pf s k).1 ++ [((pf s k).2, k)] from by unfold rn; rw [if_neg (by omega)]] at hR
        obtain ⟨F, hF⟩ : ∃ F, F = (pf s k).2 := ⟨_, rfl⟩
        obtain ⟨L, hL⟩ : ∃ L, L = (pf s k).1 := ⟨_, rfl⟩
        rw [← hL, ← hF] at hR
        rw [← hL] at hn
        have HF := Lib.hid hF; have HL := Lib.hid hL; clear hF hL
        have hj : k - 1 < s.size := by omega
        have b1 := byteLe s[k]
        have b2 := byteLe s[k - 1]
        have hc1 := clA_at s k hlt
        have hc2 := clA_at s (k - 1) hj
        have g0 : ((k : Int) == 0) = false := by simp; omega
        have k1 : (1 : Int) ≤ (k : Int) := by omega
        have k2 : 0 ≤ (k : Int) - 1 := by omega
        have k5 : (k : Int) - 1 < (s.size : Int) := by omega
        have k3 : ((k : Int) - 1).toNat = k - 1 := by omega
        have k4 : IntKind.i64.wrap ((k : Int) - 1) = (k : Int) - 1 := IntWalk.i64_in _ (by omega)
        cases hq : (cls (s[k].toNat : Int) != cls (s[k - 1].toNat : Int))
        · have HE : Hid (clA s k = clA s (k - 1)) := by
            show _ = _
            rw [hc1, hc2]; simpa using hq
          obtain ⟨g, cap, rfl, hg⟩ := hR.row
          have HR := Lib.hid hR
          clear hc1 hc2 hR
          go_wp2_with fail
          go_quiet ((first | (go_at_call 13; exact Calls.quiet_of_same (rof_q _ _ _ (by omega) b1)) | (go_at_call 13; exact Calls.quiet_of_same (rof_q _ _ _ (by omega) b2))))
          clear hq g0
          obtain ⟨e1, e2, e3⟩ := (HR.out.drewN nq).last hg
          have E3 := Lib.hid e3; clear e3
          go_wp2_with fail
          go_roundw
          case rel =>
            have hp := HSAME.out HE.out
            have hr : rn s (k + 1) = L ++ [(F, k + 1)] := by unfold rn; rw [if_neg (by omega), hp, ← HL.out, ← HF.out]
            exact ⟨k + 1, by omega, by go_num, by rw [hr]; exact E3.out (k + 1)⟩
          case measure => simp [intOf]; omega
        · have HE : Hid (¬ clA s k = clA s (k - 1)) := by
            show ¬ _
            rw [hc1, hc2]; simpa using hq
          have HR := Lib.hid hR
          clear hc1 hc2 hR
          go_wp2_with fail
          go_quiet ((first | (go_at_call 13; exact Calls.quiet_of_same (rof_q _ _ _ (by omega) b1)) | (go_at_call 13; exact Calls.quiet_of_same (rof_q _ _ _ (by omega) b2))))
          clear hq g0
          have hR := HR.out.drewN nq
          go_wp2_with (at_builtin; refine wpList_append_own _ rfl _ _ 35 rfl w.heap.size 38 i0 (.agg #[.int .i64 0, .int .i64 0]) 2 16 Try.underlying35 hi hz0 hz1 hz2 rfl (by decide) _ _ _ rfl (hR.own.alloc _) ⟨(wr.drewN nq).heap.size, 0, none⟩ 1 1 [.int .i64 (k : Int), .int .i64 (k : Int)] rfl rfl ?c1 ?c2 ?c3 ?c4 ?c5 ?_)
          case c1 => exact two_cells _ _ _ _
          case c2 => intro u hu; simp at hu; rw [hu]; rfl
          case c3 => simp [maxLen]; omega
          case c4 => simp; omega
          case c5 => exact (hR.alloc _).below.size
          intro v' w1 hown' hgrow _
          have h1 := (hR.alloc _).more (a := k) (b := k) hgrow (by rw [List.length_append]; exact hown')
          obtain ⟨g, cap, hv, hg⟩ := h1.row
          rw [hv] at h1 ⊢
          obtain ⟨e1, e2, e3⟩ := h1.last hg
          have E3 := Lib.hid e3
          have hLl : (L ++ [(F, k)]).length = L.length + 1 := by simp
          rw [hLl] at e1 e2 E3 ⊢
          clear hR hown' hgrow h1 e3 hv hLl
          go_wp2_with fail
          go_roundw
          case rel =>
            have hp := HNEW.out HE.out
            have hr : rn s (k + 1) = L ++ [(F, k)] ++ [(k, k + 1)] := by unfold rn; rw [if_neg (by omega), hp, ← HL.out, ← HF.out]
            exact ⟨k + 1, by omega, by go_num, by rw [hr]; exact E3.out (k + 1)⟩
          case measure => simp [intOf]; omega
    · obtain rfl : k = s.size := by omega
      go_wp2_with fail
      go_ret
      exact ⟨_, rfl, hR⟩
end Go.Proofs.Ytofnloapcfhmkaa
