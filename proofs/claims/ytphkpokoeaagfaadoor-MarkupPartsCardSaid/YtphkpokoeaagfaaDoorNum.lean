/- The numbers of a fragment: the reference's. -/
import Derived.Test.YtphkpokoeaagfaaDoorTgs
import Derived.Test.YtphkpokoeaagfaaDoorSam
namespace Go.Proofs.YtphkpokoeaagfaaDoor
open Go.ChangeShapes Go.WideShapes Go.ChangeAt Go.RowKit
set_option linter.unusedVariables false
set_option maxRecDepth 100000

def numS (out : List Int) (x : It) : List Int := if isT x.k = true ∧ x.id ∉ out then out ++ [x.id] else out
def numsL (l : List It) : List Int := l.foldl numS []
theorem nums_next (l : List It) (k : Nat) (h : k < l.length) : numsL (l.take (k + 1)) = numS (numsL (l.take k)) (l[k]'h) := by
  rw [List.take_succ_eq_append_getElem h]; unfold numsL; rw [List.foldl_append]; rfl
theorem numS_len (out : List Int) (x : It) : (numS out x).length ≤ out.length + 1 := by unfold numS; split <;> simp
theorem nums_len (l : List It) : ∀ k, k ≤ l.length → (numsL (l.take k)).length ≤ k := by
  intro k
  induction k with
  | zero => intro _; simp [numsL]
  | succ j ih =>
    intro hj
    rw [nums_next l j hj]
    have := numS_len (numsL (l.take j)) l[j]; have := ih (by omega); omega
theorem Ones.row {W : World} {p : Option Addr} {l : List Int} (h : Ones W (Value.int .i64) p l) (i : Nat) (hi : i < l.length) : ∃ a, p = some a ∧ a.block < W.heap.size ∧ W.cell? (a.add i) = some (.int .i64 (l[i]'hi)) := by
  obtain ⟨a, hp, hlt, hc⟩ := h (by omega)
  exact ⟨a, hp, hlt, hc i hi⟩

set_option maxHeartbeats 800000 in
theorem has_any (p : Option Addr) (cap : Nat) (l : List Int) (x : Int) (w : World) (hR : Ones w (Value.int .i64) p l) (hc : l.length ≤ cap) (hm : cap ≤ maxLen) :
    Calls Tryd.prog 82 #[.slice p l.length cap, .int .i64 x] w fun e w' => e = .returned (.bool (decide (x ∈ l))) ∧ w = w' := by
  unfold maxLen at hm
  go_enter Tryd.func82, Tryd.ntmps82
  go_wp2_with fail
  go_loopw [8] (fun i wr => ∃ k : Nat, k ≤ l.length ∧ i = .int .i64 k ∧ w = wr ∧ x ∉ l.take k) (fun i _ => l.length - (intOf i).toNat)
  case atStart => exact ⟨0, Nat.zero_le _, rfl, rfl, by simp⟩
  case round =>
    obtain ⟨k, hk, rfl, rfl, hn⟩ := hrel
    by_cases hlt : k < l.length
    · obtain ⟨ad, rfl, had, c0⟩ := hR.row k hlt
      by_cases q : l[k] = x
      · have hin : decide (x ∈ l) = true := by
          apply decide_eq_true; rw [← q]; exact List.getElem_mem hlt
        have q1 : (l[k] == x) = true := by simpa using q
        generalize l[k] = y at *
        have HI := Lib.hid hin; clear hin q hn
        go_wp2_with fail
        go_ret
        exact ⟨by rw [HI.out]; rfl, by first | trivial | rfl⟩
      · have hn2 : x ∉ l.take (k + 1) := by
          rw [List.take_succ_eq_append_getElem hlt]
          simp only [List.mem_append, List.mem_singleton, not_or]
          exact ⟨hn, fun e => q e.symm⟩
        have q1 : (l[k] == x) = false := by simpa using q
        generalize l[k] = y at *
        have HI := Lib.hid hn2; clear hn2 q hn
        go_wp2_with fail
        go_roundw
        case rel => exact ⟨k + 1, hlt, by go_num, by first | trivial | rfl, HI.out⟩
        case measure => simp [intOf]; omega
    · obtain rfl : k = l.length := by omega
      rw [List.take_length] at hn
      have hin : decide (x ∈ l) = false := decide_eq_false hn
      have HI := Lib.hid hin; clear hin hn
      go_wp2_with fail
      go_ret
      exact ⟨by rw [HI.out]; rfl, by first | trivial | rfl⟩

/-- What a call that answers numbers says. -/
def EndN (L : List Int) (w : World) (e : Ending) (w' : World) : Prop := ∃ v, e = .returned v ∧ AccN w L v w'

set_option maxHeartbeats 1600000 in
theorem rnumbers_any (p : Option Addr) (cap : Nat) (l : List It) (w : World) (hR : Its w p l) (hc : l.length ≤ cap) (hm : cap ≤ maxLen) (hn : l.length ≤ 4000000000) :
    Calls Tryd.prog 40 #[.slice p l.length cap] w (EndN (numsL l) w) := by
  unfold maxLen at hm
  have mixed : Tryd.prog.follows .mixedOrders = true := by kernel_rfl
  go_enter Tryd.func40, Tryd.ntmps40
  go_wp2_with fail
  go_loopw [3, 7] (fun v i wr => ∃ k : Nat, k ≤ l.length ∧ i = .int .i64 k ∧ AccN w (numsL (l.take k)) v wr) (fun _ i _ => l.length - (intOf i).toNat)
  case atStart => exact ⟨0, Nat.zero_le _, rfl, Acc.start _⟩
  case round =>
    obtain ⟨k, hk, rfl, hA⟩ := hrel
    by_cases hlt : k < l.length
    · have hR1 := (hR.call hA.below)
      obtain ⟨ad, rfl, had, c0, c1, c2⟩ := hR1.row k hlt
      have hrow : ∀ W, Its W (some ad) l → W.cell? (ad.add (k * 3)) = some (.int .i64 (l[k]'hlt).k) ∧ W.cell? ⟨(ad.add (k * 3)).block, (ad.add (k * 3)).off + 1, none⟩ = some (.string (l[k]'hlt).t) ∧ W.cell? ⟨(ad.add (k * 3)).block, (ad.add (k * 3)).off + 2, none⟩ = some (.int .i64 (l[k]'hlt).id) := fun W h => by
        obtain ⟨a', e', _, r⟩ := h.row k hlt
        cases e'; exact r
      have hnx := nums_next l k hlt
      have hlen := nums_len l k hk
      generalize l[k] = x at *
      have ht := fun W => ristag_any x.k x.t x.id W
      generalize numsL (l.take k) = out at *
      have hhas := fun W p cap hI h1 h2 => has_any p cap out x.id W hI h1 h2
      unfold numS at hnx
      cases q : isT x.k
      · rw [q, if_neg (by simp)] at hnx
        rw [q] at ht
        have HX := Lib.hid hnx; have HT := Lib.hid ht
        clear hnx ht q hrow hhas
        go_wp2_with fail
        refine (HT.out _).mono ?_; rintro e w2 ⟨rfl, hb2⟩
        go_wp2_with fail
        go_roundw
        case rel => exact ⟨k + 1, hlt, by go_num, by rw [HX.out]; exact hA.call hb2⟩
        case measure => simp [intOf]; omega
      · rw [q] at ht
        by_cases q2 : x.id ∈ out
        · rw [q, if_neg (by simp [q2])] at hnx
          rw [decide_eq_true q2] at hhas
          have HX := Lib.hid hnx; have HT := Lib.hid ht; have HR := Lib.hid hrow; have HH := Lib.hid hhas
          clear hnx ht q hrow hhas q2
          go_wp2_with fail
          refine (HT.out _).mono ?_; rintro e w2 ⟨rfl, hb2⟩
          clear c0 c1 c2
          obtain ⟨c0, c1, c2⟩ := HR.out _ (hR1.call hb2)
          have hA3 := hA.call hb2
          obtain ⟨p1, cap1, rfl, g1, g2, hI⟩ := hA3.own.ints
          go_wp2_with fail
          refine (HH.out _ _ _ hI g1 g2).mono ?_; rintro e w3 ⟨rfl, rfl⟩
          go_wp2_with fail
          go_roundw
          case rel => exact ⟨k + 1, hlt, by go_num, by rw [HX.out]; exact hA3⟩
          case measure => simp [intOf]; omega
        · rw [if_pos ⟨q, q2⟩] at hnx
          rw [decide_eq_false q2] at hhas
          have HX := Lib.hid hnx; have HT := Lib.hid ht; have HR := Lib.hid hrow; have HH := Lib.hid hhas
          clear hnx ht q hrow hhas q2
          go_wp2_with fail
          refine (HT.out _).mono ?_; rintro e w2 ⟨rfl, hb2⟩
          clear c0 c1 c2
          obtain ⟨c0, c1, c2⟩ := HR.out _ (hR1.call hb2)
          have hA3 := hA.call hb2
          obtain ⟨p1, cap1, rfl, g1, g2, hI⟩ := hA3.own.ints
          go_wp2_with fail
          refine (HH.out _ _ _ hI g1 g2).mono ?_; rintro e w3 ⟨rfl, rfl⟩
          go_wp2_with (at_builtin; refine wpl_append eN _ rfl _ _ rfl w out _ rfl (hA3.alloc _) x.id w2.heap.size _ rfl (heap_alloc_new w2 _) rfl (by omega) (by unfold maxLen; omega) ?_; intro v' w4 hA4 hb4)
          go_wp2_with fail
          go_roundw
          case rel => exact ⟨k + 1, hlt, by go_num, by rw [HX.out]; exact hA4⟩
          case measure => simp [intOf]; omega
    · obtain rfl : k = l.length := by omega
      rw [List.take_length] at hA
      go_wp2_with fail
      go_ret
      exact ⟨_, rfl, hA⟩

def upL (n : Nat) : List Int := (List.range n).map fun (i : Nat) => (i : Int) + 1
theorem upL_next (k : Nat) : upL (k + 1) = upL k ++ [(k : Int) + 1] := by unfold upL; rw [List.range_succ, List.map_append]; rfl
theorem upL_len (k : Nat) : (upL k).length = k := by unfold upL; simp
set_option maxHeartbeats 800000 in
theorem rupto_any (n : Nat) (w : World) (hn : n ≤ 4000000000) : Calls Tryd.prog 42 #[.int .i64 n] w (EndN (upL n) w) := by
  go_enter Tryd.func42, Tryd.ntmps42
  go_wp2_with fail
  go_loopw [3, 4] (fun v i wr => ∃ k : Nat, k ≤ n ∧ i = .int .i64 ((k : Int) + 1) ∧ AccN w (upL k) v wr) (fun _ i _ => n + 1 - (intOf i).toNat)
  case atStart => exact ⟨0, Nat.zero_le _, rfl, Acc.start _⟩
  case round =>
    obtain ⟨k, hk, rfl, hA⟩ := hrel
    by_cases hlt : k < n
    · have hnx := upL_next k
      have hlen := upL_len k
      have HX := Lib.hid hnx; clear hnx
      generalize upL k = out at *
      go_wp2_with (at_builtin; refine wpl_append eN _ rfl _ _ rfl w out _ rfl (hA.alloc _) ((k : Int) + 1) wr.heap.size _ rfl (heap_alloc_new wr _) rfl (by omega) (by unfold maxLen; omega) ?_; intro v' w4 hA4 hb4)
      go_wp2_with fail
      go_roundw
      case rel => exact ⟨k + 1, hlt, by go_num, by rw [HX.out]; exact hA4⟩
      case measure => simp [intOf]; omega
    · obtain rfl : k = n := by omega
      go_wp2_with fail
      go_ret
      exact ⟨_, rfl, hA⟩
end Go.Proofs.YtphkpokoeaagfaaDoor
