/- The contract of the reference's Normalize. -/
import Derived.Test.YtphkpokoeaagfaaGreatDoorNrw
namespace Go.Proofs.YtphkpokoeaagfaaGreatDoor
open Go.ChangeShapes Go.WideShapes Go.ChangeAt Go.RowKit
set_option linter.unusedVariables false
set_option maxRecDepth 100000

theorem OwnL.row {base : Nat} {L : List It} {v : Value} {w : World} (h : OwnL 62 3 ienc base L v w) (h0 : 0 < L.length) : ∃ g cap cur, v = .slice (some ⟨g, 0, none⟩) L.length cap ∧ base ≤ g ∧ w.heap[g]? = some (.cells cur 62 (0, 0)) ∧ L.length ≤ cap ∧ cap ≤ maxLen ∧ cur.size = cap * 3 ∧ cur.toList.take (L.length * 3) = icells L := by
  rcases h.2 with ⟨_, hz⟩ | ⟨g, cap, cur, hv, r⟩
  · omega
  · exact ⟨g, cap, cur, hv, r⟩
theorem setCell_heap (w : World) (g i : Nat) (cur : Array Value) (e : TypeId) (v : Value) (h : w.heap[g]? = some (.cells cur e (0, 0))) : (w.setCell ⟨g, i, none⟩ v).heap[g]? = some (.cells (cur.setIfInBounds i v) e (0, 0)) := by
  simp [World.setCell, Array.getElem?_modify, h]
theorem set_tail (l : List Value) (m i : Nat) (v : Value) : (l.set i v).take m = (l.take m).set i v := List.take_set ..
theorem set_last (L : List It) (y y' : It) : (((icells (L ++ [y])).set (L.length * 3) (.int .i64 y'.k)).set (L.length * 3 + 1) (.string y'.t)).set (L.length * 3 + 2) (.int .i64 y'.id) = icells (L ++ [y']) := by
  rw [icells_snoc, icells_snoc]
  have hl := icells_length L
  generalize icells L = c at *
  rw [← hl]
  rw [List.set_append_right _ _ (by omega), List.set_append_right _ _ (by omega), List.set_append_right _ _ (by omega)]
  simp
theorem OwnL.setLast {base : Nat} {L : List It} {y y' : It} {g n cap : Nat} {w : World} (h : OwnL 62 3 ienc base (L ++ [y]) (.slice (some ⟨g, 0, none⟩) n cap) w) :
    OwnL 62 3 ienc base (L ++ [y']) (.slice (some ⟨g, 0, none⟩) n cap) (((w.setCell ⟨g, L.length * 3, none⟩ (.int .i64 y'.k)).setCell ⟨g, L.length * 3 + 1, none⟩ (.string y'.t)).setCell ⟨g, L.length * 3 + 2, none⟩ (.int .i64 y'.id)) := by
  obtain ⟨g', cap', cur, hv, hb, hh, hc, hm, hs, ht⟩ := h.row (by simp)
  injection hv with h1 h2 h3
  injection h1 with h1; injection h1 with h1
  subst h1; subst h2; subst h3
  refine ⟨?_, .inr ⟨g, cap, ((cur.setIfInBounds (L.length * 3) (.int .i64 y'.k)).setIfInBounds (L.length * 3 + 1) (.string y'.t)).setIfInBounds (L.length * 3 + 2) (.int .i64 y'.id), by simp, hb, setCell_heap _ _ _ _ _ _ (setCell_heap _ _ _ _ _ _ (setCell_heap _ _ _ _ _ _ hh)), by simpa using hc, hm, by simpa using hs, ?_⟩⟩
  · show (icells (L ++ [y'])).length = _; rw [icells_length]
  · show _ = icells (L ++ [y'])
    rw [← set_last L y y', ← ht]
    simp only [Array.toList_setIfInBounds, List.length_append, List.length_singleton, List.take_set]
theorem norm_last (out : List It) (x : It) (h1 : x.k = 1) (h2 : x.t.size ≠ 0) (L : List It) (y : It) (ho : out = L ++ [y]) (hy : y.k = 1) : normS out x = L ++ [⟨1, y.t ++ x.t, 0⟩] := by
  subst ho; unfold normS; rw [if_pos h1, if_neg h2]; simp [hy]
theorem norm_fresh (out : List It) (x : It) (h1 : x.k = 1) (h2 : x.t.size ≠ 0) (h : lastText out = false) : normS out x = out ++ [⟨1, x.t, 0⟩] := lastText_none out h x h1 h2
theorem norm_skip (out : List It) (x : It) (h1 : x.k = 1) (h2 : x.t.size = 0) : normS out x = out := by unfold normS; rw [if_pos h1, if_pos h2]
theorem out_last (out : List It) (h : 0 < out.length) : ∃ L y, out = L ++ [y] ∧ lastText out = decide (y.k = 1) := by
  have hne : out ≠ [] := by intro e; rw [e] at h; cases h
  refine ⟨out.dropLast, out.getLast hne, (List.dropLast_concat_getLast hne).symm, ?_⟩
  unfold lastText; rw [List.getLast?_eq_some_getLast hne]

theorem heap_new2 (w : World) (a b : Obj) : ((w.alloc a).alloc b).heap[w.heap.size + 1]? = some b := by
  have := heap_alloc_new (w.alloc a) b
  rwa [show (w.alloc a).heap.size = w.heap.size + 1 by simp] at this
set_option maxHeartbeats 3200000 in
theorem rnormalize_any (p : Option Addr) (cap : Nat) (l : List It) (w : World) (hR : Its w p l) (hc : l.length ≤ cap) (hm : cap ≤ maxLen) (hn : l.length ≤ 4000000000) (ht : txtI l ≤ 140737488355328) :
    Calls Tryz.prog 65 #[.slice p l.length cap] w (EndI (norm l) w) := by
  unfold maxLen at hm
  have mixed : Tryz.prog.follows .mixedOrders = true := by kernel_rfl
  go_enter Tryz.func65, Tryz.ntmps65
  go_wp2_with fail
  go_loopw [3, 9] (fun v i wr => ∃ k : Nat, k ≤ l.length ∧ i = .int .i64 k ∧ (∃ p cap, v = .slice p (norm (l.take k)).length cap) ∧ AccI w (norm (l.take k)) v wr) (fun _ i _ => l.length - (intOf i).toNat)
  case atStart => exact ⟨0, Nat.zero_le _, rfl, ⟨_, _, rfl⟩, Acc.start _⟩
  case round =>
    obtain ⟨k, hk, rfl, ⟨p1, cap1, rfl⟩, hA⟩ := hrel
    by_cases hlt : k < l.length
    · obtain ⟨ad, rfl, had, c0, c1, c2⟩ := (hR.call hA.below).row k hlt
      have hnx := norm_next l k hlt
      have hlen := norm_len (l.take k)
      have htx := txt_norms l k hk
      have htk := txtI_take l (k + 1)
      rw [txtI_next l k hlt] at htk
      generalize l[k] = x at *
      have HX := Lib.hid hnx; clear hnx
      have hol : (norm (l.take k)).length ≤ 4000000000 := by simp at hlen; omega
      generalize norm (l.take k) = out at *
      clear hlen
      have hA1 := hA.alloc (.cells #[.int .i64 x.k, .string x.t, .int .i64 x.id] 62)
      by_cases h1 : x.k = 1
      · have q : (x.k != 1) = false := by simp [h1]
        by_cases h2 : x.t.size = 0
        · have q2 := str_none h2
          have hs := norm_skip out x h1 h2
          have HS := Lib.hid hs; clear hs h1 h2
          go_wp2_with fail
          go_roundw
          case rel => exact ⟨k + 1, hlt, by go_num, by rw [HX.out, HS.out]; exact ⟨_, _, rfl⟩, by rw [HX.out, HS.out]; exact hA1⟩
          case measure => simp [intOf]; omega
        · have q2 := str_some h2
          by_cases h3 : 0 < out.length
          · have q3 : decide (0 < out.length) = true := decide_eq_true h3
            obtain ⟨L, y, ho, hly⟩ := out_last out h3
            obtain ⟨g, cp, cur, hv, hgb, hh, hcc, hcm, hcs, hct⟩ := hA1.own.row h3
            injection hv with hv1 hv2 hv3
            subst hv1; subst hv3
            have hLl : out.length = L.length + 1 := by rw [ho]; simp
            obtain ⟨pp, cc, hvv, _, _, hI⟩ := hA1.own.its
            injection hvv with hv1 _ hv3
            subst hv1; subst hv3
            obtain ⟨a', ha', _, d0, d1, d2⟩ := hI.row (out.length - 1) (by omega)
            cases ha'
            have hy : out[out.length - 1]'(by omega) = y := by subst ho; simp
            rw [hy] at d0 d1 d2
            have e0 : (⟨g, 0, none⟩ : Addr).add ((out.length - 1) * 3) = ⟨g, (out.length - 1) * 3, none⟩ := by unfold Addr.add; split <;> simp_all
            rw [e0] at d0 d1 d2
            have x0 : 0 ≤ (out.length : Int) - 1 := by omega
            have x1 : ((out.length : Int) - 1).toNat = out.length - 1 := by omega
            have x2 : IntKind.i64.wrap ((out.length : Int) - 1) = (out.length : Int) - 1 := IntWalk.i64_in _ ⟨by omega, by omega⟩
            have hty : y.t.size ≤ txtI out := by rw [ho, txtI_snoc]; omega
            have hadd : y.t.size + x.t.size ≤ 9223372036854775807 := by omega
            have f0 := Lib.frozen_of_heap hh ((out.length - 1) * 3)
            have f1 := Lib.frozen_of_heap hh ((out.length - 1) * 3 + 1)
            have f2 := Lib.frozen_of_heap hh ((out.length - 1) * 3 + 2)
            by_cases h4 : y.k = 1
            · have q4 : (y.k == 1) = true := by simpa using h4
              have hs := norm_last out x h1 h2 L y ho h4
              have hLm : L.length = out.length - 1 := by omega
              have hown2 := OwnL.setLast (y := y) (y' := ⟨1, y.t ++ x.t, 0⟩) (L := L) (by rw [← ho]; exact hA1.own)
              rw [hLm] at hown2
              have hA2 : AccI w (L ++ [⟨1, y.t ++ x.t, 0⟩]) _ _ := ⟨((hA1.below.setCell (p := ⟨g, (out.length - 1) * 3, none⟩) hgb _).setCell (p := ⟨g, (out.length - 1) * 3 + 1, none⟩) hgb _).setCell (p := ⟨g, (out.length - 1) * 3 + 2, none⟩) hgb _, hown2⟩
              have HA2 := Lib.hid hA2.drew
              have hLn : (L ++ [(⟨1, y.t ++ x.t, 0⟩ : It)]).length = out.length := by simp; omega
              have HLn := Lib.hid hLn
              have HS := Lib.hid hs
              clear hA2 hown2 hLm hLn
              clear hs h1 h2 ho hy hI hh hcs hct hly hLl htx htk hty
              go_wp2_with fail
              go_region_o
              go_wp2_with fail
              go_roundw
              case rel => exact ⟨k + 1, hlt, by go_num, by rw [HX.out, HS.out, HLn.out]; exact ⟨_, _, rfl⟩, by rw [HX.out, HS.out]; exact HA2.out⟩
              case measure => simp [intOf]; omega
            · have q4 : (y.k == 1) = false := by simpa using h4
              have hs := norm_fresh out x h1 h2 (by rw [hly]; simpa using h4)
              have HS := Lib.hid hs; have HO := Lib.hid ho
              clear hs h1 h2 ho hy hI hh hcs hct hly hLl htx htk hty
              go_wp2_with (at_builtin; refine wpl_append eI _ rfl _ _ rfl w out _ rfl (hA1.alloc _) ⟨1, x.t, 0⟩ (wr.heap.size + 1) #[.int .i64 1, .string x.t, .int .i64 0] rfl (heap_new2 _ _ _) rfl (by omega) (by unfold maxLen; omega) ?_; intro v' w4 hA4 hb4)
              obtain ⟨p4, cap4, hv4, _⟩ := hA4.own.its
              subst hv4
              go_wp2_with fail
              go_roundw
              case rel => exact ⟨k + 1, hlt, by go_num, by rw [HX.out, HS.out]; exact ⟨_, _, rfl⟩, by rw [HX.out, HS.out]; exact hA4⟩
              case measure => simp [intOf]; omega
          · have q3 : decide (0 < out.length) = false := decide_eq_false h3
            have ho : out = [] := List.length_eq_zero_iff.1 (by omega)
            have hs := norm_fresh out x h1 h2 (by rw [ho]; rfl)
            have HS := Lib.hid hs; clear hs h1 ho
            go_wp2_with (at_builtin; refine wpl_append eI _ rfl _ _ rfl w out _ rfl (hA1.alloc _) ⟨1, x.t, 0⟩ (wr.heap.size + 1) #[.int .i64 1, .string x.t, .int .i64 0] rfl (heap_new2 _ _ _) rfl (by omega) (by unfold maxLen; omega) ?_; intro v' w4 hA4 hb4)
            obtain ⟨p4, cap4, hv4, _⟩ := hA4.own.its
            subst hv4
            go_wp2_with fail
            go_roundw
            case rel => exact ⟨k + 1, hlt, by go_num, by rw [HX.out, HS.out]; exact ⟨_, _, rfl⟩, by rw [HX.out, HS.out]; exact hA4⟩
            case measure => simp [intOf]; omega
      · have q : (x.k != 1) = true := by simpa using h1
        have hs := norm_other out x h1
        have HS := Lib.hid hs; clear hs h1
        go_wp2_with (at_builtin; refine wpl_append eI _ rfl _ _ rfl w out _ rfl (hA1.alloc _) x (wr.heap.size + 1) #[.int .i64 x.k, .string x.t, .int .i64 x.id] rfl (heap_new2 _ _ _) rfl (by omega) (by unfold maxLen; omega) ?_; intro v' w4 hA4 hb4)
        obtain ⟨p4, cap4, hv4, _⟩ := hA4.own.its
        subst hv4
        go_wp2_with fail
        go_roundw
        case rel => exact ⟨k + 1, hlt, by go_num, by rw [HX.out, HS.out]; exact ⟨_, _, rfl⟩, by rw [HX.out, HS.out]; exact hA4⟩
        case measure => simp [intOf]; omega
    · obtain rfl : k = l.length := by omega
      rw [List.take_length] at hA
      go_wp2_with fail
      go_ret
      exact ⟨_, by rw [List.take_length]; rfl, hA⟩
end Go.Proofs.YtphkpokoeaagfaaGreatDoor
