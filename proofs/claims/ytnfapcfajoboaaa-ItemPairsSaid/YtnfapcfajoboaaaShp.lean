/- Shape. -/
import Derived.Test.YtnfapcfajoboaaaTwo
import Derived.Test.YtnfapcfajoboaaaRnr
import Derived.Test.YtnfapcfajoboaaaSam
namespace Go.Proofs.Ytnfapcfajoboaaa
open Go.ChangeShapes Go.WideShapes Go.ChangeAt Go.RowKit
set_option linter.unusedVariables false
set_option maxRecDepth 100000

theorem int_last (o : List Int) (h : 0 < o.length) : ∃ L y, o = L ++ [y] ∧ o.getLast? = some y := by
  have hne : o ≠ [] := by intro e; rw [e] at h; cases h
  exact ⟨o.dropLast, o.getLast hne, (List.dropLast_concat_getLast hne).symm, List.getLast?_eq_some_getLast hne⟩
/-- A slice of numbers that is not empty, as it lies. -/
theorem OwnN.at {base : Nat} {L : List Int} {v : Value} {w : World} (h : OwnN base L v w) (h0 : 0 < L.length) : ∃ g cap, v = .slice (some ⟨g, 0, none⟩) L.length cap ∧ L.length ≤ cap ∧ cap ≤ maxLen ∧ ∀ i (hi : i < L.length), w.cell? ⟨g, i, none⟩ = some (.int .i64 (L[i]'hi)) := by
  obtain ⟨p, c, hv, h1, h2, hI⟩ := h.ints
  rcases h.2 with ⟨_, hz⟩ | ⟨g, cap, cur, hv2, _⟩
  · omega
  · rw [hv] at hv2
    injection hv2 with e1 e2 e3
    subst e1; subst e3
    refine ⟨g, c, hv, h1, h2, fun i hi => ?_⟩
    obtain ⟨a, e, _, hc⟩ := hI h0
    cases e
    have := hc i hi
    rwa [show (⟨g, 0, none⟩ : Addr).add i = ⟨g, i, none⟩ by unfold Addr.add; split <;> simp_all] at this
theorem OwnN.form {base : Nat} {L : List Int} {v : Value} {w : World} (h : OwnN base L v w) : ∃ p cap, v = .slice p L.length cap := by
  obtain ⟨p, c, hv, _⟩ := h.ints; exact ⟨p, c, hv⟩

set_option maxHeartbeats 3200000 in
theorem shape_any (p : Option Addr) (cap : Nat) (l : List It) (w : World) (hR : Its w p l) (hc : l.length ≤ cap) (hm : cap ≤ maxLen) (hn : l.length ≤ 4000000000) :
    Calls Try.prog 47 #[.slice p l.length cap] w (EndSh (shL l) w) := by
  unfold maxLen at hm
  have mixed : Try.prog.follows .mixedOrders = true := by kernel_rfl
  go_enter Try.func47, Try.ntmps47
  go_wp2_with fail
  go_loopw [2, 3, 10] (fun vc vo i wr => ∃ (k : Nat) (c o : List Int), k ≤ l.length ∧ i = .int .i64 k ∧ (∃ p1 c1, vc = .slice p1 c.length c1) ∧ (∃ p2 c2, vo = .slice p2 o.length c2) ∧ shL (l.take k) = some (c, o) ∧ Two w c o vc vo wr) (fun _ _ i _ => l.length - (intOf i).toNat)
  case atStart => exact ⟨0, [], [], Nat.zero_le _, rfl, ⟨_, _, rfl⟩, ⟨_, _, rfl⟩, rfl, Two.start _⟩
  case round =>
    obtain ⟨k, c, o, hk, rfl, ⟨p1, d1, rfl⟩, ⟨p2, d2, rfl⟩, hst, hT⟩ := hrel
    by_cases hlt : k < l.length
    · obtain ⟨ad, rfl, had, c0, c1, c2⟩ := (hR.call hT.below).row k hlt
      have hnx := sh_next l k hlt
      rw [hst] at hnx
      have hlen := sh_len l k hk c o hst
      generalize l[k] = x at *
      have hT1 := hT.alloc (.cells #[.int .i64 x.k, .string x.t, .int .i64 x.id] 26)
      have hT2 := hT1.alloc (.cells #[.int .i64 x.id] 3)
      have hsz := hT2.below.size
      have HST := Lib.hid hst; clear hst
      by_cases h2 : x.k = 2
      · have q2 : (x.k == 2) = true := by simpa using h2
        have hx : shL (l.take (k + 1)) = some (c, o ++ [x.id]) := by rw [hnx]; unfold shS; simp [h2]
        have HX := Lib.hid hx
        clear hnx h2 hx
        go_wp2_with (at_builtin; refine wpl_app eN _ rfl _ _ rfl w.heap.size o _ rfl hT2.o hsz x.id (wr.heap.size + 1) #[.int .i64 x.id] rfl (heap_new2 _ _ _) rfl (by omega) (by unfold maxLen; omega) ?_; intro g2 cp w4 hown4 hgr4 hloc4)
        have hT3 := hT2.push hown4 hgr4 hloc4
        go_wp2_with fail
        go_roundw
        case rel => exact ⟨k + 1, c, o ++ [x.id], hlt, by go_num, ⟨_, _, rfl⟩, ⟨_, _, by rw [List.length_append]; rfl⟩, HX.out, hT3⟩
        case measure => simp [intOf]; omega
      · have q2 : (x.k == 2) = false := by simpa using h2
        by_cases h3 : x.k = 3
        · have q3 : (x.k == 3) = true := by simpa using h3
          by_cases ho : 0 < o.length
          · obtain ⟨L, y, hoe, hl⟩ := int_last o ho
            obtain ⟨g, cp, hv, hle, hcm, hcell⟩ := hT1.o.at ho
            injection hv with e1 e2 e3
            subst e1; subst e3
            have hLl : L.length = o.length - 1 := by rw [hoe]; simp
            have d0 := hcell (o.length - 1) (by omega)
            have hy : o[o.length - 1]'(by omega) = y := by subst hoe; simp
            rw [hy] at d0
            unfold maxLen at hcm
            have x0 : 0 ≤ (o.length : Int) - 1 := by omega
            have x1 : ((o.length : Int) - 1).toNat = o.length - 1 := by omega
            have x2 : IntKind.i64.wrap ((o.length : Int) - 1) = (o.length : Int) - 1 := IntWalk.i64_in _ ⟨by omega, by omega⟩
            have x3 : decide ((o.length : Int) - 1 < 0) = false := decide_eq_false (by omega)
            by_cases hyx : y = x.id
            · have q4 : (y == x.id) = true := by simpa using hyx
              have hx : shL (l.take (k + 1)) = some (c, L) := by rw [hnx]; unfold shS; dsimp only; rw [if_neg h2, if_pos h3, hl]; dsimp only; rw [if_pos hyx, hoe, List.dropLast_concat]
              have HX := Lib.hid hx; have HLl := Lib.hid hLl
              have hT3 : Two w c L _ _ _ := Two.pop (y := y) (by rw [← hoe]; exact hT1)
              rw [hLl] at hT3
              have HT3 := Lib.hid hT3
              clear hnx h2 h3 hx hoe hl hy hcell hLl hT3 hyx
              go_wp2_with fail
              go_quiet (fail)
              go_wp2_with fail
              go_roundw
              case rel => exact ⟨k + 1, c, L, hlt, by go_num, ⟨_, _, rfl⟩, ⟨_, _, by rw [HLl.out]⟩, HX.out, HT3.out.drewN _⟩
              case measure => simp [intOf]; omega
            · have q4 : (y == x.id) = false := by simpa using hyx
              have hx : shL l = none := sh_bad l (k + 1) (by rw [hnx]; unfold shS; dsimp only; rw [if_neg h2, if_pos h3, hl]; dsimp only; rw [if_neg hyx])
              have HX := Lib.hid hx
              clear hnx h2 h3 hx hoe hl hy hcell hLl hyx
              go_wp2_with fail
              go_quiet (fail)
              go_wp2_with fail
              go_ret3
              rw [HX.out]
              exact ⟨rfl, hT1.below.os, hT1.below.tape, hT1.below.output, hT1.below.size, hT1.below.block⟩
          · have ho0 : o = [] := List.length_eq_zero_iff.1 (by omega)
            subst ho0
            have hx : shL (l.take (k + 1)) = some (c ++ [x.id], []) := by rw [hnx]; unfold shS; simp [h3]
            have HX := Lib.hid hx
            clear hnx h2 h3 hx ho
            go_wp2_with (at_builtin; refine wpl_app eN _ rfl _ _ rfl w.heap.size c _ rfl hT2.c hsz x.id (wr.heap.size + 1) #[.int .i64 x.id] rfl (heap_new2 _ _ _) rfl (by omega) (by unfold maxLen; omega) ?_; intro g2 cp w4 hown4 hgr4 hloc4)
            have hT3 := (hT2.swap.push hown4 hgr4 hloc4).swap
            go_wp2_with fail
            go_roundw
            case rel => exact ⟨k + 1, c ++ [x.id], [], hlt, by go_num, ⟨_, _, by rw [List.length_append]; rfl⟩, ⟨_, _, rfl⟩, HX.out, hT3⟩
            case measure => simp [intOf]; omega
        · have q3 : (x.k == 3) = false := by simpa using h3
          have hx : shL (l.take (k + 1)) = some (c, o) := by rw [hnx]; unfold shS; simp [h2, h3]
          have HX := Lib.hid hx
          clear hnx h2 h3 hx
          go_wp2_with fail
          go_roundw
          case rel => exact ⟨k + 1, c, o, hlt, by go_num, ⟨_, _, rfl⟩, ⟨_, _, rfl⟩, HX.out, hT1⟩
          case measure => simp [intOf]; omega
    · obtain rfl : k = l.length := by omega
      rw [List.take_length] at hst
      have HST := Lib.hid hst; clear hst
      go_wp2_with fail
      go_ret3
      rw [HST.out]
      exact ⟨_, _, rfl, hT⟩

set_option maxHeartbeats 3200000 in
theorem rshape_any (p : Option Addr) (cap : Nat) (l : List It) (w : World) (hR : Its w p l) (hc : l.length ≤ cap) (hm : cap ≤ maxLen) (hn : l.length ≤ 4000000000) :
    Calls Try.prog 48 #[.slice p l.length cap] w (EndSh (shL l) w) := by
  unfold maxLen at hm
  have mixed : Try.prog.follows .mixedOrders = true := by kernel_rfl
  go_enter Try.func48, Try.ntmps48
  go_wp2_with fail
  go_loopw [5, 6, 11] (fun vc vo i wr => ∃ (k : Nat) (c o : List Int), k ≤ l.length ∧ i = .int .i64 k ∧ (∃ p1 c1, vc = .slice p1 c.length c1) ∧ (∃ p2 c2, vo = .slice p2 o.length c2) ∧ shL (l.take k) = some (c, o) ∧ Two w c o vc vo wr) (fun _ _ i _ => l.length - (intOf i).toNat)
  case atStart => exact ⟨0, [], [], Nat.zero_le _, rfl, ⟨_, _, rfl⟩, ⟨_, _, rfl⟩, rfl, Two.start _⟩
  case round =>
    obtain ⟨k, c, o, hk, rfl, ⟨p1, d1, rfl⟩, ⟨p2, d2, rfl⟩, hst, hT⟩ := hrel
    by_cases hlt : k < l.length
    · obtain ⟨ad, rfl, had, c0, c1, c2⟩ := (hR.call hT.below).row k hlt
      have hnx := sh_next l k hlt
      rw [hst] at hnx
      have hlen := sh_len l k hk c o hst
      generalize l[k] = x at *
      have hT1 := hT
      have hT2 := hT1.alloc (.cells #[.int .i64 x.id] 3)
      have hsz := hT2.below.size
      have HST := Lib.hid hst; clear hst
      by_cases h2 : x.k = 2
      · have q2 : (x.k == 2) = true := by simpa using h2
        have hx : shL (l.take (k + 1)) = some (c, o ++ [x.id]) := by rw [hnx]; unfold shS; simp [h2]
        have HX := Lib.hid hx
        clear hnx h2 hx
        go_wp2_with (at_builtin; refine wpl_app eN _ rfl _ _ rfl w.heap.size o _ rfl hT2.o hsz x.id wr.heap.size #[.int .i64 x.id] rfl (heap_alloc_new wr _) rfl (by omega) (by unfold maxLen; omega) ?_; intro g2 cp w4 hown4 hgr4 hloc4)
        have hT3 := hT2.push hown4 hgr4 hloc4
        go_wp2_with fail
        go_roundw
        case rel => exact ⟨k + 1, c, o ++ [x.id], hlt, by go_num, ⟨_, _, rfl⟩, ⟨_, _, by rw [List.length_append]; rfl⟩, HX.out, hT3⟩
        case measure => simp [intOf]; omega
      · have q2 : (x.k == 2) = false := by simpa using h2
        by_cases h3 : x.k = 3
        · have q3 : (x.k == 3) = true := by simpa using h3
          by_cases ho : 0 < o.length
          · obtain ⟨L, y, hoe, hl⟩ := int_last o ho
            obtain ⟨g, cp, hv, hle, hcm, hcell⟩ := hT1.o.at ho
            injection hv with e1 e2 e3
            subst e1; subst e3
            have hLl : L.length = o.length - 1 := by rw [hoe]; simp
            have d0 := hcell (o.length - 1) (by omega)
            have hy : o[o.length - 1]'(by omega) = y := by subst hoe; simp
            rw [hy] at d0
            unfold maxLen at hcm
            have x0 : 0 ≤ (o.length : Int) - 1 := by omega
            have x1 : ((o.length : Int) - 1).toNat = o.length - 1 := by omega
            have x2 : IntKind.i64.wrap ((o.length : Int) - 1) = (o.length : Int) - 1 := IntWalk.i64_in _ ⟨by omega, by omega⟩
            have x3 : ((o.length : Int) == 0) = false := by rw [beq_eq_false_iff_ne]; omega
            have x4 : (o.length == 0) = false := by rw [beq_eq_false_iff_ne]; omega
            by_cases hyx : y = x.id
            · have q4 : (y == x.id) = true := by simpa using hyx
              have hx : shL (l.take (k + 1)) = some (c, L) := by rw [hnx]; unfold shS; dsimp only; rw [if_neg h2, if_pos h3, hl]; dsimp only; rw [if_pos hyx, hoe, List.dropLast_concat]
              have HX := Lib.hid hx; have HLl := Lib.hid hLl
              have hT3 : Two w c L _ _ _ := Two.pop (y := y) (by rw [← hoe]; exact hT1)
              rw [hLl] at hT3
              have HT3 := Lib.hid hT3
              clear hnx h2 h3 hx hoe hl hy hcell hLl hT3 hyx
              go_wp2_with fail
              go_quiet (fail)
              go_wp2_with fail
              go_roundw
              case rel => exact ⟨k + 1, c, L, hlt, by go_num, ⟨_, _, rfl⟩, ⟨_, _, by rw [HLl.out]⟩, HX.out, HT3.out.drewN _⟩
              case measure => simp [intOf]; omega
            · have q4 : (y == x.id) = false := by simpa using hyx
              have hx : shL l = none := sh_bad l (k + 1) (by rw [hnx]; unfold shS; dsimp only; rw [if_neg h2, if_pos h3, hl]; dsimp only; rw [if_neg hyx])
              have HX := Lib.hid hx
              clear hnx h2 h3 hx hoe hl hy hcell hLl hyx
              go_wp2_with fail
              go_quiet (fail)
              go_wp2_with fail
              go_ret3
              rw [HX.out]
              exact ⟨rfl, hT1.below.os, hT1.below.tape, hT1.below.output, hT1.below.size, hT1.below.block⟩
          · have ho0 : o = [] := List.length_eq_zero_iff.1 (by omega)
            subst ho0
            have hx : shL (l.take (k + 1)) = some (c ++ [x.id], []) := by rw [hnx]; unfold shS; simp [h3]
            have HX := Lib.hid hx
            clear hnx h2 h3 hx ho
            go_wp2_with (at_builtin; refine wpl_app eN _ rfl _ _ rfl w.heap.size c _ rfl hT2.c hsz x.id wr.heap.size #[.int .i64 x.id] rfl (heap_alloc_new wr _) rfl (by omega) (by unfold maxLen; omega) ?_; intro g2 cp w4 hown4 hgr4 hloc4)
            have hT3 := (hT2.swap.push hown4 hgr4 hloc4).swap
            go_wp2_with fail
            go_roundw
            case rel => exact ⟨k + 1, c ++ [x.id], [], hlt, by go_num, ⟨_, _, by rw [List.length_append]; rfl⟩, ⟨_, _, rfl⟩, HX.out, hT3⟩
            case measure => simp [intOf]; omega
        · have q3 : (x.k == 3) = false := by simpa using h3
          have hx : shL (l.take (k + 1)) = some (c, o) := by rw [hnx]; unfold shS; simp [h2, h3]
          have HX := Lib.hid hx
          clear hnx h2 h3 hx
          go_wp2_with fail
          go_roundw
          case rel => exact ⟨k + 1, c, o, hlt, by go_num, ⟨_, _, rfl⟩, ⟨_, _, rfl⟩, HX.out, hT1⟩
          case measure => simp [intOf]; omega
    · obtain rfl : k = l.length := by omega
      rw [List.take_length] at hst
      have HST := Lib.hid hst; clear hst
      go_wp2_with fail
      go_ret3
      rw [HST.out]
      exact ⟨_, _, rfl, hT⟩
end Go.Proofs.Ytnfapcfajoboaaa
