/- Tags of a fragment. -/
import Derived.Test.YtphkpokoeaagfaaGreatDoorNrw
import Derived.Test.YtphkpokoeaagfaaGreatDoorRnr
import Derived.Test.YtphkpokoeaagfaaGreatDoorArg
namespace Go.Proofs.YtphkpokoeaagfaaGreatDoor
open Go.ChangeShapes Go.WideShapes Go.ChangeAt Go.RowKit
set_option linter.unusedVariables false
set_option maxRecDepth 100000

def tagsL (l : List It) : List It := l.filter fun x => isT x.k
theorem tags_next (l : List It) (k : Nat) (h : k < l.length) : tagsL (l.take (k + 1)) = tagsL (l.take k) ++ (if isT (l[k]'h).k = true then [l[k]'h] else []) := by
  rw [List.take_succ_eq_append_getElem h]; unfold tagsL; rw [List.filter_append]
  congr 1
  cases hh : isT (l[k]'h).k <;> simp [hh]
theorem tags_len (l : List It) : (tagsL l).length ≤ l.length := List.length_filter_le _ _
theorem txt_filter (p : It → Bool) (l : List It) : txtI (l.filter p) ≤ txtI l := by
  induction l with
  | nil => exact Nat.le_refl _
  | cons x t ih =>
    rw [List.filter_cons]
    have e : txtI (x :: t) = x.t.size + txtI t := rfl
    split
    · have e2 : txtI (x :: t.filter p) = x.t.size + txtI (t.filter p) := rfl
      omega
    · omega

set_option maxHeartbeats 1600000 in
theorem tags_any (p : Option Addr) (cap : Nat) (l : List It) (w : World) (hR : Its w p l) (hc : l.length ≤ cap) (hm : cap ≤ maxLen) (hn : l.length ≤ 4000000000) :
    Calls Tryz.prog 37 #[.slice p l.length cap] w (EndI (tagsL l) w) := by
  unfold maxLen at hm
  go_enter Tryz.func37, Tryz.ntmps37
  go_wp2_with fail
  go_loopw [3, 8] (fun v i wr => ∃ k : Nat, k ≤ l.length ∧ i = .int .i64 k ∧ AccI w (tagsL (l.take k)) v wr) (fun _ i _ => l.length - (intOf i).toNat)
  case atStart => exact ⟨0, Nat.zero_le _, rfl, Acc.start _⟩
  case round =>
    obtain ⟨k, hk, rfl, hA⟩ := hrel
    by_cases hlt : k < l.length
    · obtain ⟨ad, rfl, had, c0, c1, c2⟩ := (hR.call hA.below).row k hlt
      have hnx := tags_next l k hlt
      have hlen := tags_len (l.take k)
      generalize l[k] = x at *
      have ht := fun W => istag_any x.k x.t x.id W
      have hol : (tagsL (l.take k)).length ≤ 4000000000 := by simp at hlen; omega
      generalize tagsL (l.take k) = out at *
      clear hlen
      cases q : isT x.k
      · rw [q, if_neg (by decide), List.append_nil] at hnx
        rw [q] at ht
        have HX := Lib.hid hnx; have HT := Lib.hid ht
        clear hnx ht q
        go_wp2_with fail
        refine (HT.out _).mono ?_; rintro e w2 ⟨rfl, hb2⟩
        go_wp2_with fail
        go_roundw
        case rel => exact ⟨k + 1, hlt, by go_num, by rw [HX.out]; exact (hA.alloc _).call hb2⟩
        case measure => simp [intOf]; omega
      · rw [q, if_pos rfl] at hnx
        rw [q] at ht
        have HX := Lib.hid hnx; have HT := Lib.hid ht
        clear hnx ht q
        go_wp2_with fail
        refine (HT.out _).mono ?_; rintro e w2 ⟨rfl, hb2⟩
        have V := (Var3.new wr x.k x.t x.id).call hb2
        obtain ⟨v0, v1, v2, vl⟩ := id V
        have hA3 := (hA.alloc (.cells #[.int .i64 x.k, .string x.t, .int .i64 x.id] 62)).call hb2
        go_wp2_with (at_builtin; refine wpl_append eI _ rfl _ _ rfl w out _ rfl (hA3.alloc _) x w2.heap.size _ rfl (heap_alloc_new w2 _) rfl (by omega) (by unfold maxLen; omega) ?_; intro v' w4 hA4 hb4)
        go_wp2_with fail
        go_roundw
        case rel => exact ⟨k + 1, hlt, by go_num, by rw [HX.out]; exact hA4⟩
        case measure => simp [intOf]; omega
    · obtain rfl : k = l.length := by omega
      rw [List.take_length] at hA
      go_wp2_with fail
      go_ret
      exact ⟨_, rfl, hA⟩

end Go.Proofs.YtphkpokoeaagfaaGreatDoor
