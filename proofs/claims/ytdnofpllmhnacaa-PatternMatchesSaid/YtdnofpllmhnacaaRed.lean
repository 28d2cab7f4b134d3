/- read: one more byte. -/
import Derived.Test.YtdnofpllmhnacaaMth
import Derived.Test.YtdnofpllmhnacaaRdr
import Derived.Deep.RegionHeld3
namespace Go.Proofs.Ytdnofpllmhnacaa
open Go.ChangeShapes Go.WideShapes Go.ChangeAt Go.RowKit Go.Sort
set_option linter.unusedVariables false
set_option linter.unusedSimpArgs false
set_option maxRecDepth 100000

theorem grow_drew {w wr : World} {row : Option Nat} (h : w.grownBy wr row) (n : Nat) : w.grownBy (wr.drewN n) row := ⟨h.os, h.tape, h.output, h.size, h.block⟩
theorem MS.range {R g b o c : Nat} {P : List At} {E : List Bool} {W : World} (h : MS R g (some ⟨b, o, none⟩) c P E W) (k : Nat) (hk : k < P.length) : W.rangeAt b (o + k * 34) (P[k]'hk).cs := by
  obtain ⟨b', o', hp, _, hc⟩ := h.ats (by omega)
  injection hp with hp; injection hp with h1 h2 _; subst h1; subst h2
  exact hc k hk

set_option maxHeartbeats 6400000 in
theorem read_any (R g : Nat) (p : Option Addr) (c : Nat) (P : List At) (E : List Bool) (b' : Nat) (hb' : b' < 256) (w : World) (h : MS R g p c P E w) (hn : P.length ≤ 1000000) :
    Calls Try.prog 38 #[.pointer (some ⟨R, 0, none⟩), .int .u8 b'] w fun e w' => e = .returned (.bool (anyE (stepE P E b') P.length)) ∧ w.grownBy w' (some g) ∧ MS R g p c P (stepE P E b') w' := by
  have hcm := h.cm; have hcl := h.le
  unfold maxLen at hcm
  have v0 := h.v0; have v1 := h.v1
  have hlE := h.len
  have H0 : Hid (MS R g p c P (rdK P E b' P.length) w) := Lib.hid (by rw [rdK_top P E b' P.length (by omega)]; exact h)
  clear hlE
  go_enter Try.func38, Try.ntmps38
  go_wp2_with fail
  go_loopw [5] (fun i wr => ∃ (z : Int) (k : Nat), z + 1 = k ∧ k ≤ P.length ∧ i = .int .i64 z ∧ w.grownBy wr (some g) ∧ MS R g p c P (rdK P E b' k) wr) (fun i _ => (intOf i + 1).toNat)
  case atStart => exact ⟨(P.length : Int) - 1, P.length, by omega, Nat.le_refl _, rfl, World.grownBy.refl _ _, H0.out⟩
  case round =>
    obtain ⟨z, k, hz, hk, rfl, hg, hM⟩ := hrel
    cases k with
    | zero =>
      obtain rfl : z = -1 := by omega
      have v0 := hM.v0; have v1 := hM.v1
      have fr := hM.fr 0
      have hl0 : 0 < (rdK P E b' 0).length := by rw [hM.len]; omega
      have f0 := hM.e 0 hl0
      have hM2 := hM.set 0 false
      have hg2 := grow_then hg (grow_cell wr g 0 (.bool false))
      have hs := skip_any R g p c P _ _ hM2 (by omega)
      have HS := Lib.hid (And.intro hs hg2)
      clear hs hg2 hM2 hM hg H0 hz h
      go_wp2_with fail
      refine HS.out.1.mono ?_; rintro e w1 ⟨rfl, hg3, hM3⟩
      have hg4 := grow_then HS.out.2 hg3
      go_wp2_with fail
      go_ret
      exact ⟨rfl, hg4, hM3⟩
    | succ k =>
      obtain rfl : z = (k : Int) := by omega
      have hlt : k < P.length := by omega
      have hl1 : k < (rdK P E b' (k + 1)).length := by rw [hM.len]; omega
      have hl2 : k + 1 < (rdK P E b' (k + 1)).length := by rw [hM.len]; omega
      obtain ⟨b, o, rfl, hb, hrow⟩ := hM.ats (by omega)
      have hx := hrow k hlt
      have hR := fun (W : World) (F0 : List Bool) (h : MS R g (some ⟨b, o, none⟩) c P F0 W) => h.range k hlt
      have hN := rdK_step P E b' k (by rw [h.len]; omega)
      have e0 : (rdK P E b' (k + 1))[k] = E[k]! := by
        have := rdK_at P E b' (k + 1) k (by rw [h.len]; omega)
        rw [List.getElem?_eq_getElem hl1, if_neg (by omega)] at this
        exact Option.some.inj this
      have e1 : (rdK P E b' (k + 1))[k + 1] = E[k + 1]! := by
        have := rdK_at P E b' (k + 1) (k + 1) (by rw [h.len]; omega)
        rw [List.getElem?_eq_getElem hl2, if_neg (by omega)] at this
        exact Option.some.inj this
      unfold newB at hN
      rw [← e0, ← e1, getElem!_pos P k hlt] at hN
      clear e0 e1 hz H0 hrow
      generalize P[k] = x at *
      have v0 := hM.v0; have v1 := hM.v1
      have f1 := hM.e k hl1
      have f2 := hM.e (k + 1) hl2
      have HR := Lib.hid hR
      clear hR
      generalize hFF : rdK P E b' (k + 1) = F at *
      clear hFF
      generalize F[k] = y0 at *
      generalize F[k + 1] = y1 at *
      have y3 := rangeMany hx
      have HC := Lib.hid (fun W => contains_any x b' hb' W)
      have hin : (Try.prog.info? 37).map (·.size) = some x.cs.length := by rw [At.cs_length]; exact size37
      obtain ⟨d, hu, hd⟩ := und37
      have hin' := Lib.hid hin; have hu' := Lib.hid hu; have hd' := Lib.hid hd
      clear hin hu hd
      have hsw : IntKind.i64.wrap ((k : Int) + 1) = (k : Int) + 1 := IntWalk.i64_in _ ⟨by omega, by omega⟩
      have hi0 : (0 : Int) ≤ (k : Int) := by omega
      have hi1 : (k : Int) < (P.length : Int) := by omega
      have hi2 : (0 : Int) ≤ (k : Int) + 1 := by omega
      have hi3 : (k : Int) + 1 < (P.length : Int) + 1 := by omega
      have hi4 : ((k : Int) + 1).toNat = k + 1 := by omega
      have hsz : (P.length : Int) ≤ 1000000 := by omega
      have HX := Lib.hid hx; clear hx
      have HMG := Lib.hid (And.intro hM hg); clear hM hg
      by_cases ht : (y0 || (x.many && y1)) = true
      · rw [ht, Bool.true_and] at hN
        cases y0
        · cases hmy : x.many
          · rw [hmy] at ht; cases ht
          · cases y1
            · rw [hmy] at ht; cases ht
            · rw [hmy] at y3
              have HMY := Lib.hid (And.intro hmy ht); clear hmy ht
              have HN := Lib.hid hN; clear hN
              go_upto_region 5 with fail
              obtain ⟨hM, hg⟩ := HMG.out
              clear f1 f2 y3 v0 v1
              refine wp_region_held_drew (S := fun W => (∃ F0, MS R g (some ⟨b, o, none⟩) c P F0 W) ∧ w.grownBy W (some g)) (by kernel_rfl) (⟨⟨_, hM.drewN 1⟩, grow_drew hg 1⟩) (fun hHeld => ?_)
              refine wpAnyH_take (i := 0) (v := ?_) rfl (by kernel_rfl) (by kernel_rfl) (by kernel_rfl) (fun _ _ _ h => h) (Or.inl ⟨by rfl, ?_⟩) hHeld ?_
              rotate_left
              · (intro w hSw; obtain ⟨⟨F9, hm⟩, hg9⟩ := hSw; have q8 := hm.v0; have q9 := hm.v1; clear hm hg9; go_simp; try with_reducible rfl)
              try simp only [Act.put, List.getElem_toArray, List.getElem_cons_zero, List.getElem_cons_succ, List.setIfInBounds_toArray, List.set_cons_zero, List.set_cons_succ]
              refine wpAnyH_take (i := 1) (v := ?_) rfl (by kernel_rfl) (by kernel_rfl) (by kernel_rfl) (fun _ _ _ h => h) (Or.inl ⟨by rfl, ?_⟩) hHeld ?_
              rotate_left
              · (intro w hSw; obtain ⟨⟨F9, hm⟩, hg9⟩ := hSw; have q8 := hm.v0; have q9 := hm.v1; clear hm hg9; go_simp; try with_reducible rfl)
              try simp only [Act.put, List.getElem_toArray, List.getElem_cons_zero, List.getElem_cons_succ, List.setIfInBounds_toArray, List.set_cons_zero, List.set_cons_succ]
              refine wpAnyH_take (i := 2) (v := ?_) rfl (by kernel_rfl) (by kernel_rfl) (by kernel_rfl) (fun _ _ _ h => h) (Or.inl ⟨by rfl, ?_⟩) hHeld ?_
              rotate_left
              · (intro w hSw; obtain ⟨⟨F9, hm⟩, hg9⟩ := hSw; have q8 := hm.v0; have q9 := hm.v1; clear hm hg9; go_simp; try with_reducible rfl)
              try simp only [Act.put, List.getElem_toArray, List.getElem_cons_zero, List.getElem_cons_succ, List.setIfInBounds_toArray, List.set_cons_zero, List.set_cons_succ]
              refine wpAnyH_take (i := 3) (v := ?_) rfl (by kernel_rfl) (by kernel_rfl) (by kernel_rfl) (fun _ _ _ h => h) (Or.inl ⟨by rfl, ?_⟩) hHeld ?_
              rotate_left
              · (intro w hSw; obtain ⟨⟨F9, hm⟩, hg9⟩ := hSw; have q8 := hm.v0; have q9 := hm.v1; clear hm hg9; go_simp; try with_reducible rfl)
              try simp only [Act.put, List.getElem_toArray, List.getElem_cons_zero, List.getElem_cons_succ, List.setIfInBounds_toArray, List.set_cons_zero, List.set_cons_succ]
              refine wpAnyH_take (i := 4) (v := ?_) rfl (by kernel_rfl) (by kernel_rfl) (by kernel_rfl) (fun _ _ _ h => h) (Or.inl ⟨by rfl, ?_⟩) hHeld ?_
              rotate_left
              · (intro w hSw; obtain ⟨⟨F9, hm⟩, hg9⟩ := hSw; have q8 := hm.v0; have q9 := hm.v1; clear hm hg9; go_simp; try with_reducible rfl)
              try simp only [Act.put, List.getElem_toArray, List.getElem_cons_zero, List.getElem_cons_succ, List.setIfInBounds_toArray, List.set_cons_zero, List.set_cons_succ]
              refine wpAnyH_take (i := 5) (v := ?_) rfl (by kernel_rfl) (by kernel_rfl) (by kernel_rfl) (fun _ _ _ h => h) (Or.inl ⟨by rfl, ?_⟩) hHeld ?_
              rotate_left
              · (intro w hSw; obtain ⟨⟨F9, hm⟩, hg9⟩ := hSw; have q8 := hm.v0; have q9 := hm.v1; clear hm hg9; go_simp; try with_reducible rfl)
              try simp only [Act.put, List.getElem_toArray, List.getElem_cons_zero, List.getElem_cons_succ, List.setIfInBounds_toArray, List.set_cons_zero, List.set_cons_succ]
              refine wpAnyH_take (i := 6) (v := ?_) rfl (by kernel_rfl) (by kernel_rfl) (by kernel_rfl) (fun _ _ _ h => h) (Or.inl ⟨by rfl, ?_⟩) hHeld ?_
              rotate_left
              · (intro w hSw; obtain ⟨⟨F9, hm⟩, hg9⟩ := hSw; have q8 := hm.v0; have q9 := hm.v1; clear hm hg9; go_simp; try with_reducible rfl)
              try simp only [Act.put, List.getElem_toArray, List.getElem_cons_zero, List.getElem_cons_succ, List.setIfInBounds_toArray, List.set_cons_zero, List.set_cons_succ]
              refine wpAnyH_take (i := 7) (v := ?_) rfl (by kernel_rfl) (by kernel_rfl) (by kernel_rfl) (fun _ _ _ h => h) (Or.inl ⟨by rfl, ?_⟩) hHeld ?_
              rotate_left
              · (intro w hSw; obtain ⟨⟨F9, hm⟩, hg9⟩ := hSw; have q8 := hm.v0; have q9 := hm.v1; clear hm hg9; go_simp; try with_reducible rfl)
              try simp only [Act.put, List.getElem_toArray, List.getElem_cons_zero, List.getElem_cons_succ, List.setIfInBounds_toArray, List.set_cons_zero, List.set_cons_succ]
              refine wpAnyH_take (i := 8) (v := ?_) rfl (by kernel_rfl) (by kernel_rfl) (by kernel_rfl) (fun _ _ _ h => h) (Or.inl ⟨by rfl, ?_⟩) hHeld ?_
              rotate_left
              · (intro w hSw; obtain ⟨⟨F9, hm⟩, hg9⟩ := hSw; have q8 := hm.v0; have q9 := hm.v1; clear hm hg9; go_simp; try with_reducible rfl)
              try simp only [Act.put, List.getElem_toArray, List.getElem_cons_zero, List.getElem_cons_succ, List.setIfInBounds_toArray, List.set_cons_zero, List.set_cons_succ]
              refine wpAnyH_take (i := 9) (v := ?_) rfl (by kernel_rfl) (by kernel_rfl) (by kernel_rfl) (fun _ _ _ h => h) (Or.inl ⟨by rfl, ?_⟩) hHeld ?_
              rotate_left
              · (intro w hSw; obtain ⟨⟨F9, hm⟩, hg9⟩ := hSw; have q8 := hm.v0; have q9 := hm.v1; clear hm hg9; go_simp; try with_reducible rfl)
              try simp only [Act.put, List.getElem_toArray, List.getElem_cons_zero, List.getElem_cons_succ, List.setIfInBounds_toArray, List.set_cons_zero, List.set_cons_succ]
              refine wpAnyH_take (i := 10) (v := ?_) rfl (by kernel_rfl) (by kernel_rfl) (by kernel_rfl) (fun _ _ _ h => h) (Or.inl ⟨by rfl, ?_⟩) hHeld ?_
              rotate_left
              · (intro w hSw; obtain ⟨⟨F9, hm⟩, hg9⟩ := hSw; have q8 := hm.v0; have q9 := hm.v1; clear hm hg9; go_simp; try with_reducible rfl)
              try simp only [Act.put, List.getElem_toArray, List.getElem_cons_zero, List.getElem_cons_succ, List.setIfInBounds_toArray, List.set_cons_zero, List.set_cons_succ]
              refine wpAnyH_take (i := 11) (v := ?_) rfl (by kernel_rfl) (by kernel_rfl) (by kernel_rfl) (fun _ _ _ h => h) (Or.inl ⟨by rfl, ?_⟩) hHeld ?_
              rotate_left
              · (intro w hSw; obtain ⟨⟨F9, hm⟩, hg9⟩ := hSw; have q8 := hm.v0; have q9 := hm.v1; clear hm hg9; go_simp; try with_reducible rfl)
              try simp only [Act.put, List.getElem_toArray, List.getElem_cons_zero, List.getElem_cons_succ, List.setIfInBounds_toArray, List.set_cons_zero, List.set_cons_succ]
              refine wpAnyH_take (i := 12) (v := ?_) rfl (by kernel_rfl) (by kernel_rfl) (by kernel_rfl) (fun _ _ _ h => h) (Or.inl ⟨by rfl, ?_⟩) hHeld ?_
              rotate_left
              · (intro w hSw; obtain ⟨⟨F9, hm⟩, hg9⟩ := hSw; have q8 := hm.v0; have q9 := hm.v1; clear hm hg9; go_simp; try with_reducible rfl)
              try simp only [Act.put, List.getElem_toArray, List.getElem_cons_zero, List.getElem_cons_succ, List.setIfInBounds_toArray, List.set_cons_zero, List.set_cons_succ]
              refine wpAnyH_take (i := 13) (v := ?_) rfl (by kernel_rfl) (by kernel_rfl) (by kernel_rfl) (fun _ _ _ h => h) (Or.inl ⟨by rfl, ?_⟩) hHeld ?_
              rotate_left
              · (intro w hSw; obtain ⟨⟨F9, hm⟩, hg9⟩ := hSw; have q8 := hm.v0; have q9 := hm.v1; clear hm hg9; go_simp; try with_reducible rfl)
              try simp only [Act.put, List.getElem_toArray, List.getElem_cons_zero, List.getElem_cons_succ, List.setIfInBounds_toArray, List.set_cons_zero, List.set_cons_succ]
              refine wpAnyH_take (i := 14) rfl (by kernel_rfl) (by kernel_rfl) (by kernel_rfl) (fun _ _ _ h => h) (yieldsIf_load_mid (by rfl) 37 _ (by rfl) (b) (o + k * 34) (by rfl) (x.cs) _ (fun W h => h.1.elim fun F0 h => HR.out W F0 h) hu'.out hd'.out hin'.out) hHeld ?_
              try simp only [Act.put, List.getElem_toArray, List.getElem_cons_zero, List.getElem_cons_succ, List.setIfInBounds_toArray, List.set_cons_zero, List.set_cons_succ]
              refine wpAnyH_take (i := 15) (v := ?_) rfl (by kernel_rfl) (by kernel_rfl) (by kernel_rfl) (fun _ _ _ h => h) (Or.inl ⟨by rfl, ?_⟩) hHeld ?_
              rotate_left
              · (intro w hSw; obtain ⟨⟨F9, hm⟩, hg9⟩ := hSw; have q8 := hm.v0; have q9 := hm.v1; clear hm hg9; go_simp; try with_reducible rfl)
              try simp only [Act.put, List.getElem_toArray, List.getElem_cons_zero, List.getElem_cons_succ, List.setIfInBounds_toArray, List.set_cons_zero, List.set_cons_succ]
              refine wpAnyH_ready (rs := [16]) (by kernel_rfl) (by simp) ?_
              refine AllReadyH.cons rfl (fun K hK => ?_) (AllReadyH.nil)
              go_simp
              refine (HC.out _).mono ?_; rintro e w1 ⟨rfl, hb1⟩
              have hM1 := (hM.drewN 1).call hb1
              have hg1 := grow_then hHeld.2 (grow_below hb1 _)
              go_wp2_with fail
              refine hK.out _ _ (⟨⟨_, hM1⟩, hg1⟩) (fun hHeld => ?_)
              clear hK K
              try simp only [Act.put, List.getElem_toArray, List.getElem_cons_zero, List.getElem_cons_succ, List.setIfInBounds_toArray, List.set_cons_zero, List.set_cons_succ]
              refine wpAnyH_take (i := 17) (v := ?_) rfl (by kernel_rfl) (by kernel_rfl) (by kernel_rfl) (fun _ _ _ h => h) (Or.inl ⟨by rfl, ?_⟩) hHeld ?_
              rotate_left
              · (intro w hSw; obtain ⟨⟨F9, hm⟩, hg9⟩ := hSw; have q8 := hm.v0; have q9 := hm.v1; clear hm hg9; go_simp; try with_reducible rfl)
              try simp only [Act.put, List.getElem_toArray, List.getElem_cons_zero, List.getElem_cons_succ, List.setIfInBounds_toArray, List.set_cons_zero, List.set_cons_succ]
              refine wpAnyH_take (i := 18) (v := ?_) rfl (by kernel_rfl) (by kernel_rfl) (by kernel_rfl) (fun _ _ _ h => h) (Or.inl ⟨by rfl, ?_⟩) hHeld ?_
              rotate_left
              · (intro w hSw; obtain ⟨⟨F9, hm⟩, hg9⟩ := hSw; have q8 := hm.v0; have q9 := hm.v1; clear hm hg9; go_simp; try with_reducible rfl)
              try simp only [Act.put, List.getElem_toArray, List.getElem_cons_zero, List.getElem_cons_succ, List.setIfInBounds_toArray, List.set_cons_zero, List.set_cons_succ]
              refine wpAnyH_ready (rs := [19]) (by kernel_rfl) (by simp) ?_
              refine AllReadyH.cons rfl (fun K hK => ?_) (AllReadyH.nil)
              have fr := hM1.fr (k + 1)
              have f2 := hM1.e (k + 1) hl2
              have hS2 := And.intro (hM1.set (k + 1) (x.s b')) (grow_then hg1 (grow_cell _ g (k + 1) (.bool (x.s b'))))
              have HS2 := Lib.hid hS2; clear hS2
              go_simp
              refine hK.out _ _ (⟨⟨_, HS2.out.1⟩, HS2.out.2⟩) (fun hHeld => ?_)
              clear hK K
              try simp only [Act.put, List.getElem_toArray, List.getElem_cons_zero, List.getElem_cons_succ, List.setIfInBounds_toArray, List.set_cons_zero, List.set_cons_succ]
              refine wpAnyH_done (by kernel_rfl) ?_ _
              go_wp2_with fail
              go_roundw
              case rel => exact ⟨(k : Int) - 1, k, by omega, by omega, rfl, HS2.out.2, by rw [HN.out]; exact HS2.out.1⟩
              case measure => (simp [intOf] <;> omega)
        · clear ht
          have HN := Lib.hid hN; clear hN
          go_upto_region 5 with fail
          obtain ⟨hM, hg⟩ := HMG.out
          clear f1 f2 y3 v0 v1
          refine wp_region_held_drew (S := fun W => (∃ F0, MS R g (some ⟨b, o, none⟩) c P F0 W) ∧ w.grownBy W (some g)) (by kernel_rfl) (⟨⟨_, hM.drewN 1⟩, grow_drew hg 1⟩) (fun hHeld => ?_)
          refine wpAnyH_take (i := 0) (v := ?_) rfl (by kernel_rfl) (by kernel_rfl) (by kernel_rfl) (fun _ _ _ h => h) (Or.inl ⟨by rfl, ?_⟩) hHeld ?_
          rotate_left
          · (intro w hSw; obtain ⟨⟨F9, hm⟩, hg9⟩ := hSw; have q8 := hm.v0; have q9 := hm.v1; clear hm hg9; go_simp; try with_reducible rfl)
          try simp only [Act.put, List.getElem_toArray, List.getElem_cons_zero, List.getElem_cons_succ, List.setIfInBounds_toArray, List.set_cons_zero, List.set_cons_succ]
          refine wpAnyH_take (i := 1) (v := ?_) rfl (by kernel_rfl) (by kernel_rfl) (by kernel_rfl) (fun _ _ _ h => h) (Or.inl ⟨by rfl, ?_⟩) hHeld ?_
          rotate_left
          · (intro w hSw; obtain ⟨⟨F9, hm⟩, hg9⟩ := hSw; have q8 := hm.v0; have q9 := hm.v1; clear hm hg9; go_simp; try with_reducible rfl)
          try simp only [Act.put, List.getElem_toArray, List.getElem_cons_zero, List.getElem_cons_succ, List.setIfInBounds_toArray, List.set_cons_zero, List.set_cons_succ]
          refine wpAnyH_take (i := 2) (v := ?_) rfl (by kernel_rfl) (by kernel_rfl) (by kernel_rfl) (fun _ _ _ h => h) (Or.inl ⟨by rfl, ?_⟩) hHeld ?_
          rotate_left
          · (intro w hSw; obtain ⟨⟨F9, hm⟩, hg9⟩ := hSw; have q8 := hm.v0; have q9 := hm.v1; clear hm hg9; go_simp; try with_reducible rfl)
          try simp only [Act.put, List.getElem_toArray, List.getElem_cons_zero, List.getElem_cons_succ, List.setIfInBounds_toArray, List.set_cons_zero, List.set_cons_succ]
          refine wpAnyH_take (i := 3) (v := ?_) rfl (by kernel_rfl) (by kernel_rfl) (by kernel_rfl) (fun _ _ _ h => h) (Or.inl ⟨by rfl, ?_⟩) hHeld ?_
          rotate_left
          · (intro w hSw; obtain ⟨⟨F9, hm⟩, hg9⟩ := hSw; have q8 := hm.v0; have q9 := hm.v1; clear hm hg9; go_simp; try with_reducible rfl)
          try simp only [Act.put, List.getElem_toArray, List.getElem_cons_zero, List.getElem_cons_succ, List.setIfInBounds_toArray, List.set_cons_zero, List.set_cons_succ]
          refine wpAnyH_take (i := 4) (v := ?_) rfl (by kernel_rfl) (by kernel_rfl) (by kernel_rfl) (fun _ _ _ h => h) (Or.inl ⟨by rfl, ?_⟩) hHeld ?_
          rotate_left
          · (intro w hSw; obtain ⟨⟨F9, hm⟩, hg9⟩ := hSw; have q8 := hm.v0; have q9 := hm.v1; clear hm hg9; go_simp; try with_reducible rfl)
          try simp only [Act.put, List.getElem_toArray, List.getElem_cons_zero, List.getElem_cons_succ, List.setIfInBounds_toArray, List.set_cons_zero, List.set_cons_succ]
          refine wpAnyH_take (i := 5) (v := ?_) rfl (by kernel_rfl) (by kernel_rfl) (by kernel_rfl) (fun _ _ _ h => h) (Or.inl ⟨by rfl, ?_⟩) hHeld ?_
          rotate_left
          · (intro w hSw; obtain ⟨⟨F9, hm⟩, hg9⟩ := hSw; have q8 := hm.v0; have q9 := hm.v1; clear hm hg9; go_simp; try with_reducible rfl)
          try simp only [Act.put, List.getElem_toArray, List.getElem_cons_zero, List.getElem_cons_succ, List.setIfInBounds_toArray, List.set_cons_zero, List.set_cons_succ]
          refine wpAnyH_take (i := 6) (v := ?_) rfl (by kernel_rfl) (by kernel_rfl) (by kernel_rfl) (fun _ _ _ h => h) (Or.inl ⟨by rfl, ?_⟩) hHeld ?_
          rotate_left
          · (intro w hSw; obtain ⟨⟨F9, hm⟩, hg9⟩ := hSw; have q8 := hm.v0; have q9 := hm.v1; clear hm hg9; go_simp; try with_reducible rfl)
          try simp only [Act.put, List.getElem_toArray, List.getElem_cons_zero, List.getElem_cons_succ, List.setIfInBounds_toArray, List.set_cons_zero, List.set_cons_succ]
          refine wpAnyH_take (i := 7) (v := ?_) rfl (by kernel_rfl) (by kernel_rfl) (by kernel_rfl) (fun _ _ _ h => h) (Or.inl ⟨by rfl, ?_⟩) hHeld ?_
          rotate_left
          · (intro w hSw; obtain ⟨⟨F9, hm⟩, hg9⟩ := hSw; have q8 := hm.v0; have q9 := hm.v1; clear hm hg9; go_simp; try with_reducible rfl)
          try simp only [Act.put, List.getElem_toArray, List.getElem_cons_zero, List.getElem_cons_succ, List.setIfInBounds_toArray, List.set_cons_zero, List.set_cons_succ]
          refine wpAnyH_take (i := 8) (v := ?_) rfl (by kernel_rfl) (by kernel_rfl) (by kernel_rfl) (fun _ _ _ h => h) (Or.inl ⟨by rfl, ?_⟩) hHeld ?_
          rotate_left
          · (intro w hSw; obtain ⟨⟨F9, hm⟩, hg9⟩ := hSw; have q8 := hm.v0; have q9 := hm.v1; clear hm hg9; go_simp; try with_reducible rfl)
          try simp only [Act.put, List.getElem_toArray, List.getElem_cons_zero, List.getElem_cons_succ, List.setIfInBounds_toArray, List.set_cons_zero, List.set_cons_succ]
          refine wpAnyH_take (i := 9) (v := ?_) rfl (by kernel_rfl) (by kernel_rfl) (by kernel_rfl) (fun _ _ _ h => h) (Or.inl ⟨by rfl, ?_⟩) hHeld ?_
          rotate_left
          · (intro w hSw; obtain ⟨⟨F9, hm⟩, hg9⟩ := hSw; have q8 := hm.v0; have q9 := hm.v1; clear hm hg9; go_simp; try with_reducible rfl)
          try simp only [Act.put, List.getElem_toArray, List.getElem_cons_zero, List.getElem_cons_succ, List.setIfInBounds_toArray, List.set_cons_zero, List.set_cons_succ]
          refine wpAnyH_take (i := 10) (v := ?_) rfl (by kernel_rfl) (by kernel_rfl) (by kernel_rfl) (fun _ _ _ h => h) (Or.inl ⟨by rfl, ?_⟩) hHeld ?_
          rotate_left
          · (intro w hSw; obtain ⟨⟨F9, hm⟩, hg9⟩ := hSw; have q8 := hm.v0; have q9 := hm.v1; clear hm hg9; go_simp; try with_reducible rfl)
          try simp only [Act.put, List.getElem_toArray, List.getElem_cons_zero, List.getElem_cons_succ, List.setIfInBounds_toArray, List.set_cons_zero, List.set_cons_succ]
          refine wpAnyH_take (i := 11) (v := ?_) rfl (by kernel_rfl) (by kernel_rfl) (by kernel_rfl) (fun _ _ _ h => h) (Or.inl ⟨by rfl, ?_⟩) hHeld ?_
          rotate_left
          · (intro w hSw; obtain ⟨⟨F9, hm⟩, hg9⟩ := hSw; have q8 := hm.v0; have q9 := hm.v1; clear hm hg9; go_simp; try with_reducible rfl)
          try simp only [Act.put, List.getElem_toArray, List.getElem_cons_zero, List.getElem_cons_succ, List.setIfInBounds_toArray, List.set_cons_zero, List.set_cons_succ]
          refine wpAnyH_take (i := 12) (v := ?_) rfl (by kernel_rfl) (by kernel_rfl) (by kernel_rfl) (fun _ _ _ h => h) (Or.inl ⟨by rfl, ?_⟩) hHeld ?_
          rotate_left
          · (intro w hSw; obtain ⟨⟨F9, hm⟩, hg9⟩ := hSw; have q8 := hm.v0; have q9 := hm.v1; clear hm hg9; go_simp; try with_reducible rfl)
          try simp only [Act.put, List.getElem_toArray, List.getElem_cons_zero, List.getElem_cons_succ, List.setIfInBounds_toArray, List.set_cons_zero, List.set_cons_succ]
          refine wpAnyH_take (i := 13) (v := ?_) rfl (by kernel_rfl) (by kernel_rfl) (by kernel_rfl) (fun _ _ _ h => h) (Or.inl ⟨by rfl, ?_⟩) hHeld ?_
          rotate_left
          · (intro w hSw; obtain ⟨⟨F9, hm⟩, hg9⟩ := hSw; have q8 := hm.v0; have q9 := hm.v1; clear hm hg9; go_simp; try with_reducible rfl)
          try simp only [Act.put, List.getElem_toArray, List.getElem_cons_zero, List.getElem_cons_succ, List.setIfInBounds_toArray, List.set_cons_zero, List.set_cons_succ]
          refine wpAnyH_take (i := 14) rfl (by kernel_rfl) (by kernel_rfl) (by kernel_rfl) (fun _ _ _ h => h) (yieldsIf_load_mid (by rfl) 37 _ (by rfl) (b) (o + k * 34) (by rfl) (x.cs) _ (fun W h => h.1.elim fun F0 h => HR.out W F0 h) hu'.out hd'.out hin'.out) hHeld ?_
          try simp only [Act.put, List.getElem_toArray, List.getElem_cons_zero, List.getElem_cons_succ, List.setIfInBounds_toArray, List.set_cons_zero, List.set_cons_succ]
          refine wpAnyH_take (i := 15) (v := ?_) rfl (by kernel_rfl) (by kernel_rfl) (by kernel_rfl) (fun _ _ _ h => h) (Or.inl ⟨by rfl, ?_⟩) hHeld ?_
          rotate_left
          · (intro w hSw; obtain ⟨⟨F9, hm⟩, hg9⟩ := hSw; have q8 := hm.v0; have q9 := hm.v1; clear hm hg9; go_simp; try with_reducible rfl)
          try simp only [Act.put, List.getElem_toArray, List.getElem_cons_zero, List.getElem_cons_succ, List.setIfInBounds_toArray, List.set_cons_zero, List.set_cons_succ]
          refine wpAnyH_ready (rs := [16]) (by kernel_rfl) (by simp) ?_
          refine AllReadyH.cons rfl (fun K hK => ?_) (AllReadyH.nil)
          go_simp
          refine (HC.out _).mono ?_; rintro e w1 ⟨rfl, hb1⟩
          have hM1 := (hM.drewN 1).call hb1
          have hg1 := grow_then hHeld.2 (grow_below hb1 _)
          go_wp2_with fail
          refine hK.out _ _ (⟨⟨_, hM1⟩, hg1⟩) (fun hHeld => ?_)
          clear hK K
          try simp only [Act.put, List.getElem_toArray, List.getElem_cons_zero, List.getElem_cons_succ, List.setIfInBounds_toArray, List.set_cons_zero, List.set_cons_succ]
          refine wpAnyH_take (i := 17) (v := ?_) rfl (by kernel_rfl) (by kernel_rfl) (by kernel_rfl) (fun _ _ _ h => h) (Or.inl ⟨by rfl, ?_⟩) hHeld ?_
          rotate_left
          · (intro w hSw; obtain ⟨⟨F9, hm⟩, hg9⟩ := hSw; have q8 := hm.v0; have q9 := hm.v1; clear hm hg9; go_simp; try with_reducible rfl)
          try simp only [Act.put, List.getElem_toArray, List.getElem_cons_zero, List.getElem_cons_succ, List.setIfInBounds_toArray, List.set_cons_zero, List.set_cons_succ]
          refine wpAnyH_take (i := 18) (v := ?_) rfl (by kernel_rfl) (by kernel_rfl) (by kernel_rfl) (fun _ _ _ h => h) (Or.inl ⟨by rfl, ?_⟩) hHeld ?_
          rotate_left
          · (intro w hSw; obtain ⟨⟨F9, hm⟩, hg9⟩ := hSw; have q8 := hm.v0; have q9 := hm.v1; clear hm hg9; go_simp; try with_reducible rfl)
          try simp only [Act.put, List.getElem_toArray, List.getElem_cons_zero, List.getElem_cons_succ, List.setIfInBounds_toArray, List.set_cons_zero, List.set_cons_succ]
          refine wpAnyH_ready (rs := [19]) (by kernel_rfl) (by simp) ?_
          refine AllReadyH.cons rfl (fun K hK => ?_) (AllReadyH.nil)
          have fr := hM1.fr (k + 1)
          have f2 := hM1.e (k + 1) hl2
          have hS2 := And.intro (hM1.set (k + 1) (x.s b')) (grow_then hg1 (grow_cell _ g (k + 1) (.bool (x.s b'))))
          have HS2 := Lib.hid hS2; clear hS2
          go_simp
          refine hK.out _ _ (⟨⟨_, HS2.out.1⟩, HS2.out.2⟩) (fun hHeld => ?_)
          clear hK K
          try simp only [Act.put, List.getElem_toArray, List.getElem_cons_zero, List.getElem_cons_succ, List.setIfInBounds_toArray, List.set_cons_zero, List.set_cons_succ]
          refine wpAnyH_done (by kernel_rfl) ?_ _
          go_wp2_with fail
          go_roundw
          case rel => exact ⟨(k : Int) - 1, k, by omega, by omega, rfl, HS2.out.2, by rw [HN.out]; exact HS2.out.1⟩
          case measure => (simp [intOf] <;> omega)
      · have ht : (y0 || (x.many && y1)) = false := by simpa using ht
        rw [ht, Bool.false_and] at hN
        cases y0
        · cases hmy : x.many
          · rw [hmy] at y3
            have HMY := Lib.hid (And.intro hmy ht); clear hmy ht
            have HN := Lib.hid hN; clear hN
            go_upto_region 5 with fail
            obtain ⟨hM, hg⟩ := HMG.out
            clear f1 f2 y3 v0 v1
            refine wp_region_held_drew (S := fun W => (∃ F0, MS R g (some ⟨b, o, none⟩) c P F0 W) ∧ w.grownBy W (some g)) (by kernel_rfl) (⟨⟨_, hM.drewN 1⟩, grow_drew hg 1⟩) (fun hHeld => ?_)
            refine wpAnyH_take (i := 0) (v := ?_) rfl (by kernel_rfl) (by kernel_rfl) (by kernel_rfl) (fun _ _ _ h => h) (Or.inl ⟨by rfl, ?_⟩) hHeld ?_
            rotate_left
            · (intro w hSw; obtain ⟨⟨F9, hm⟩, hg9⟩ := hSw; have q8 := hm.v0; have q9 := hm.v1; clear hm hg9; go_simp; try with_reducible rfl)
            try simp only [Act.put, List.getElem_toArray, List.getElem_cons_zero, List.getElem_cons_succ, List.setIfInBounds_toArray, List.set_cons_zero, List.set_cons_succ]
            refine wpAnyH_take (i := 1) (v := ?_) rfl (by kernel_rfl) (by kernel_rfl) (by kernel_rfl) (fun _ _ _ h => h) (Or.inl ⟨by rfl, ?_⟩) hHeld ?_
            rotate_left
            · (intro w hSw; obtain ⟨⟨F9, hm⟩, hg9⟩ := hSw; have q8 := hm.v0; have q9 := hm.v1; clear hm hg9; go_simp; try with_reducible rfl)
            try simp only [Act.put, List.getElem_toArray, List.getElem_cons_zero, List.getElem_cons_succ, List.setIfInBounds_toArray, List.set_cons_zero, List.set_cons_succ]
            refine wpAnyH_take (i := 2) (v := ?_) rfl (by kernel_rfl) (by kernel_rfl) (by kernel_rfl) (fun _ _ _ h => h) (Or.inl ⟨by rfl, ?_⟩) hHeld ?_
            rotate_left
            · (intro w hSw; obtain ⟨⟨F9, hm⟩, hg9⟩ := hSw; have q8 := hm.v0; have q9 := hm.v1; clear hm hg9; go_simp; try with_reducible rfl)
            try simp only [Act.put, List.getElem_toArray, List.getElem_cons_zero, List.getElem_cons_succ, List.setIfInBounds_toArray, List.set_cons_zero, List.set_cons_succ]
            refine wpAnyH_take (i := 3) (v := ?_) rfl (by kernel_rfl) (by kernel_rfl) (by kernel_rfl) (fun _ _ _ h => h) (Or.inl ⟨by rfl, ?_⟩) hHeld ?_
            rotate_left
            · (intro w hSw; obtain ⟨⟨F9, hm⟩, hg9⟩ := hSw; have q8 := hm.v0; have q9 := hm.v1; clear hm hg9; go_simp; try with_reducible rfl)
            try simp only [Act.put, List.getElem_toArray, List.getElem_cons_zero, List.getElem_cons_succ, List.setIfInBounds_toArray, List.set_cons_zero, List.set_cons_succ]
            refine wpAnyH_take (i := 4) (v := ?_) rfl (by kernel_rfl) (by kernel_rfl) (by kernel_rfl) (fun _ _ _ h => h) (Or.inl ⟨by rfl, ?_⟩) hHeld ?_
            rotate_left
            · (intro w hSw; obtain ⟨⟨F9, hm⟩, hg9⟩ := hSw; have q8 := hm.v0; have q9 := hm.v1; clear hm hg9; go_simp; try with_reducible rfl)
            try simp only [Act.put, List.getElem_toArray, List.getElem_cons_zero, List.getElem_cons_succ, List.setIfInBounds_toArray, List.set_cons_zero, List.set_cons_succ]
            refine wpAnyH_take (i := 5) (v := ?_) rfl (by kernel_rfl) (by kernel_rfl) (by kernel_rfl) (fun _ _ _ h => h) (Or.inl ⟨by rfl, ?_⟩) hHeld ?_
            rotate_left
            · (intro w hSw; obtain ⟨⟨F9, hm⟩, hg9⟩ := hSw; have q8 := hm.v0; have q9 := hm.v1; clear hm hg9; go_simp; try with_reducible rfl)
            try simp only [Act.put, List.getElem_toArray, List.getElem_cons_zero, List.getElem_cons_succ, List.setIfInBounds_toArray, List.set_cons_zero, List.set_cons_succ]
            refine wpAnyH_take (i := 6) (v := ?_) rfl (by kernel_rfl) (by kernel_rfl) (by kernel_rfl) (fun _ _ _ h => h) (Or.inl ⟨by rfl, ?_⟩) hHeld ?_
            rotate_left
            · (intro w hSw; obtain ⟨⟨F9, hm⟩, hg9⟩ := hSw; have q8 := hm.v0; have q9 := hm.v1; clear hm hg9; go_simp; try with_reducible rfl)
            try simp only [Act.put, List.getElem_toArray, List.getElem_cons_zero, List.getElem_cons_succ, List.setIfInBounds_toArray, List.set_cons_zero, List.set_cons_succ]
            refine wpAnyH_take (i := 7) (v := ?_) rfl (by kernel_rfl) (by kernel_rfl) (by kernel_rfl) (fun _ _ _ h => h) (Or.inl ⟨by rfl, ?_⟩) hHeld ?_
            rotate_left
            · (intro w hSw; obtain ⟨⟨F9, hm⟩, hg9⟩ := hSw; have q8 := hm.v0; have q9 := hm.v1; clear hm hg9; go_simp; try with_reducible rfl)
            try simp only [Act.put, List.getElem_toArray, List.getElem_cons_zero, List.getElem_cons_succ, List.setIfInBounds_toArray, List.set_cons_zero, List.set_cons_succ]
            refine wpAnyH_take (i := 8) rfl (by kernel_rfl) (by kernel_rfl) (by kernel_rfl) (fun _ _ _ h => h) (Or.inr ⟨by rfl, rfl⟩) hHeld ?_
            try simp only [Act.put, List.getElem_toArray, List.getElem_cons_zero, List.getElem_cons_succ, List.setIfInBounds_toArray, List.set_cons_zero, List.set_cons_succ]
            refine wpAnyH_take (i := 9) rfl (by kernel_rfl) (by kernel_rfl) (by kernel_rfl) (fun _ _ _ h => h) (Or.inr ⟨by rfl, rfl⟩) hHeld ?_
            try simp only [Act.put, List.getElem_toArray, List.getElem_cons_zero, List.getElem_cons_succ, List.setIfInBounds_toArray, List.set_cons_zero, List.set_cons_succ]
            refine wpAnyH_take (i := 10) rfl (by kernel_rfl) (by kernel_rfl) (by kernel_rfl) (fun _ _ _ h => h) (Or.inr ⟨by rfl, rfl⟩) hHeld ?_
            try simp only [Act.put, List.getElem_toArray, List.getElem_cons_zero, List.getElem_cons_succ, List.setIfInBounds_toArray, List.set_cons_zero, List.set_cons_succ]
            refine wpAnyH_take (i := 11) rfl (by kernel_rfl) (by kernel_rfl) (by kernel_rfl) (fun _ _ _ h => h) (Or.inr ⟨by rfl, rfl⟩) hHeld ?_
            try simp only [Act.put, List.getElem_toArray, List.getElem_cons_zero, List.getElem_cons_succ, List.setIfInBounds_toArray, List.set_cons_zero, List.set_cons_succ]
            refine wpAnyH_take (i := 12) rfl (by kernel_rfl) (by kernel_rfl) (by kernel_rfl) (fun _ _ _ h => h) (Or.inr ⟨by rfl, rfl⟩) hHeld ?_
            try simp only [Act.put, List.getElem_toArray, List.getElem_cons_zero, List.getElem_cons_succ, List.setIfInBounds_toArray, List.set_cons_zero, List.set_cons_succ]
            refine wpAnyH_take (i := 13) rfl (by kernel_rfl) (by kernel_rfl) (by kernel_rfl) (fun _ _ _ h => h) (Or.inr ⟨by rfl, rfl⟩) hHeld ?_
            try simp only [Act.put, List.getElem_toArray, List.getElem_cons_zero, List.getElem_cons_succ, List.setIfInBounds_toArray, List.set_cons_zero, List.set_cons_succ]
            refine wpAnyH_take (i := 14) rfl (by kernel_rfl) (by kernel_rfl) (by kernel_rfl) (fun _ _ _ h => h) (Or.inr ⟨by rfl, rfl⟩) hHeld ?_
            try simp only [Act.put, List.getElem_toArray, List.getElem_cons_zero, List.getElem_cons_succ, List.setIfInBounds_toArray, List.set_cons_zero, List.set_cons_succ]
            refine wpAnyH_take (i := 15) rfl (by kernel_rfl) (by kernel_rfl) (by kernel_rfl) (fun _ _ _ h => h) (Or.inr ⟨by rfl, rfl⟩) hHeld ?_
            try simp only [Act.put, List.getElem_toArray, List.getElem_cons_zero, List.getElem_cons_succ, List.setIfInBounds_toArray, List.set_cons_zero, List.set_cons_succ]
            refine wpAnyH_take (i := 16) rfl (by kernel_rfl) (by kernel_rfl) (by kernel_rfl) (fun _ _ _ h => h) (Or.inr ⟨by rfl, rfl⟩) hHeld ?_
            try simp only [Act.put, List.getElem_toArray, List.getElem_cons_zero, List.getElem_cons_succ, List.setIfInBounds_toArray, List.set_cons_zero, List.set_cons_succ]
            refine wpAnyH_take (i := 17) (v := ?_) rfl (by kernel_rfl) (by kernel_rfl) (by kernel_rfl) (fun _ _ _ h => h) (Or.inl ⟨by rfl, ?_⟩) hHeld ?_
            rotate_left
            · (intro w hSw; obtain ⟨⟨F9, hm⟩, hg9⟩ := hSw; have q8 := hm.v0; have q9 := hm.v1; clear hm hg9; go_simp; try with_reducible rfl)
            try simp only [Act.put, List.getElem_toArray, List.getElem_cons_zero, List.getElem_cons_succ, List.setIfInBounds_toArray, List.set_cons_zero, List.set_cons_succ]
            refine wpAnyH_take (i := 18) (v := ?_) rfl (by kernel_rfl) (by kernel_rfl) (by kernel_rfl) (fun _ _ _ h => h) (Or.inl ⟨by rfl, ?_⟩) hHeld ?_
            rotate_left
            · (intro w hSw; obtain ⟨⟨F9, hm⟩, hg9⟩ := hSw; have q8 := hm.v0; have q9 := hm.v1; clear hm hg9; go_simp; try with_reducible rfl)
            try simp only [Act.put, List.getElem_toArray, List.getElem_cons_zero, List.getElem_cons_succ, List.setIfInBounds_toArray, List.set_cons_zero, List.set_cons_succ]
            have hM1 : MS R g (some ⟨b, o, none⟩) c P F wr.drew := hM.drewN 1
            have hg1 : w.grownBy wr.drew (some g) := grow_drew hg 1
            refine wpAnyH_ready (rs := [19]) (by kernel_rfl) (by simp) ?_
            refine AllReadyH.cons rfl (fun K hK => ?_) (AllReadyH.nil)
            have fr := hM1.fr (k + 1)
            have f2 := hM1.e (k + 1) hl2
            have hS2 := And.intro (hM1.set (k + 1) (false)) (grow_then hg1 (grow_cell _ g (k + 1) (.bool (false))))
            have HS2 := Lib.hid hS2; clear hS2
            go_simp
            refine hK.out _ _ (⟨⟨_, HS2.out.1⟩, HS2.out.2⟩) (fun hHeld => ?_)
            clear hK K
            try simp only [Act.put, List.getElem_toArray, List.getElem_cons_zero, List.getElem_cons_succ, List.setIfInBounds_toArray, List.set_cons_zero, List.set_cons_succ]
            refine wpAnyH_done (by kernel_rfl) ?_ _
            go_wp2_with fail
            go_roundw
            case rel => exact ⟨(k : Int) - 1, k, by omega, by omega, rfl, HS2.out.2, by rw [HN.out]; exact HS2.out.1⟩
            case measure => (simp [intOf] <;> omega)
          · cases y1
            · rw [hmy] at y3
              have HMY := Lib.hid (And.intro hmy ht); clear hmy ht
              have HN := Lib.hid hN; clear hN
              go_upto_region 5 with fail
              obtain ⟨hM, hg⟩ := HMG.out
              clear f1 f2 y3 v0 v1
              refine wp_region_held_drew (S := fun W => (∃ F0, MS R g (some ⟨b, o, none⟩) c P F0 W) ∧ w.grownBy W (some g)) (by kernel_rfl) (⟨⟨_, hM.drewN 1⟩, grow_drew hg 1⟩) (fun hHeld => ?_)
              refine wpAnyH_take (i := 0) (v := ?_) rfl (by kernel_rfl) (by kernel_rfl) (by kernel_rfl) (fun _ _ _ h => h) (Or.inl ⟨by rfl, ?_⟩) hHeld ?_
              rotate_left
              · (intro w hSw; obtain ⟨⟨F9, hm⟩, hg9⟩ := hSw; have q8 := hm.v0; have q9 := hm.v1; clear hm hg9; go_simp; try with_reducible rfl)
              try simp only [Act.put, List.getElem_toArray, List.getElem_cons_zero, List.getElem_cons_succ, List.setIfInBounds_toArray, List.set_cons_zero, List.set_cons_succ]
              refine wpAnyH_take (i := 1) (v := ?_) rfl (by kernel_rfl) (by kernel_rfl) (by kernel_rfl) (fun _ _ _ h => h) (Or.inl ⟨by rfl, ?_⟩) hHeld ?_
              rotate_left
              · (intro w hSw; obtain ⟨⟨F9, hm⟩, hg9⟩ := hSw; have q8 := hm.v0; have q9 := hm.v1; clear hm hg9; go_simp; try with_reducible rfl)
              try simp only [Act.put, List.getElem_toArray, List.getElem_cons_zero, List.getElem_cons_succ, List.setIfInBounds_toArray, List.set_cons_zero, List.set_cons_succ]
              refine wpAnyH_take (i := 2) (v := ?_) rfl (by kernel_rfl) (by kernel_rfl) (by kernel_rfl) (fun _ _ _ h => h) (Or.inl ⟨by rfl, ?_⟩) hHeld ?_
              rotate_left
              · (intro w hSw; obtain ⟨⟨F9, hm⟩, hg9⟩ := hSw; have q8 := hm.v0; have q9 := hm.v1; clear hm hg9; go_simp; try with_reducible rfl)
              try simp only [Act.put, List.getElem_toArray, List.getElem_cons_zero, List.getElem_cons_succ, List.setIfInBounds_toArray, List.set_cons_zero, List.set_cons_succ]
              refine wpAnyH_take (i := 3) (v := ?_) rfl (by kernel_rfl) (by kernel_rfl) (by kernel_rfl) (fun _ _ _ h => h) (Or.inl ⟨by rfl, ?_⟩) hHeld ?_
              rotate_left
              · (intro w hSw; obtain ⟨⟨F9, hm⟩, hg9⟩ := hSw; have q8 := hm.v0; have q9 := hm.v1; clear hm hg9; go_simp; try with_reducible rfl)
              try simp only [Act.put, List.getElem_toArray, List.getElem_cons_zero, List.getElem_cons_succ, List.setIfInBounds_toArray, List.set_cons_zero, List.set_cons_succ]
              refine wpAnyH_take (i := 4) (v := ?_) rfl (by kernel_rfl) (by kernel_rfl) (by kernel_rfl) (fun _ _ _ h => h) (Or.inl ⟨by rfl, ?_⟩) hHeld ?_
              rotate_left
              · (intro w hSw; obtain ⟨⟨F9, hm⟩, hg9⟩ := hSw; have q8 := hm.v0; have q9 := hm.v1; clear hm hg9; go_simp; try with_reducible rfl)
              try simp only [Act.put, List.getElem_toArray, List.getElem_cons_zero, List.getElem_cons_succ, List.setIfInBounds_toArray, List.set_cons_zero, List.set_cons_succ]
              refine wpAnyH_take (i := 5) (v := ?_) rfl (by kernel_rfl) (by kernel_rfl) (by kernel_rfl) (fun _ _ _ h => h) (Or.inl ⟨by rfl, ?_⟩) hHeld ?_
              rotate_left
              · (intro w hSw; obtain ⟨⟨F9, hm⟩, hg9⟩ := hSw; have q8 := hm.v0; have q9 := hm.v1; clear hm hg9; go_simp; try with_reducible rfl)
              try simp only [Act.put, List.getElem_toArray, List.getElem_cons_zero, List.getElem_cons_succ, List.setIfInBounds_toArray, List.set_cons_zero, List.set_cons_succ]
              refine wpAnyH_take (i := 6) (v := ?_) rfl (by kernel_rfl) (by kernel_rfl) (by kernel_rfl) (fun _ _ _ h => h) (Or.inl ⟨by rfl, ?_⟩) hHeld ?_
              rotate_left
              · (intro w hSw; obtain ⟨⟨F9, hm⟩, hg9⟩ := hSw; have q8 := hm.v0; have q9 := hm.v1; clear hm hg9; go_simp; try with_reducible rfl)
              try simp only [Act.put, List.getElem_toArray, List.getElem_cons_zero, List.getElem_cons_succ, List.setIfInBounds_toArray, List.set_cons_zero, List.set_cons_succ]
              refine wpAnyH_take (i := 7) (v := ?_) rfl (by kernel_rfl) (by kernel_rfl) (by kernel_rfl) (fun _ _ _ h => h) (Or.inl ⟨by rfl, ?_⟩) hHeld ?_
              rotate_left
              · (intro w hSw; obtain ⟨⟨F9, hm⟩, hg9⟩ := hSw; have q8 := hm.v0; have q9 := hm.v1; clear hm hg9; go_simp; try with_reducible rfl)
              try simp only [Act.put, List.getElem_toArray, List.getElem_cons_zero, List.getElem_cons_succ, List.setIfInBounds_toArray, List.set_cons_zero, List.set_cons_succ]
              refine wpAnyH_take (i := 8) rfl (by kernel_rfl) (by kernel_rfl) (by kernel_rfl) (fun _ _ _ h => h) (Or.inr ⟨by rfl, rfl⟩) hHeld ?_
              try simp only [Act.put, List.getElem_toArray, List.getElem_cons_zero, List.getElem_cons_succ, List.setIfInBounds_toArray, List.set_cons_zero, List.set_cons_succ]
              refine wpAnyH_take (i := 9) rfl (by kernel_rfl) (by kernel_rfl) (by kernel_rfl) (fun _ _ _ h => h) (Or.inr ⟨by rfl, rfl⟩) hHeld ?_
              try simp only [Act.put, List.getElem_toArray, List.getElem_cons_zero, List.getElem_cons_succ, List.setIfInBounds_toArray, List.set_cons_zero, List.set_cons_succ]
              refine wpAnyH_take (i := 10) rfl (by kernel_rfl) (by kernel_rfl) (by kernel_rfl) (fun _ _ _ h => h) (Or.inr ⟨by rfl, rfl⟩) hHeld ?_
              try simp only [Act.put, List.getElem_toArray, List.getElem_cons_zero, List.getElem_cons_succ, List.setIfInBounds_toArray, List.set_cons_zero, List.set_cons_succ]
              refine wpAnyH_take (i := 11) rfl (by kernel_rfl) (by kernel_rfl) (by kernel_rfl) (fun _ _ _ h => h) (Or.inr ⟨by rfl, rfl⟩) hHeld ?_
              try simp only [Act.put, List.getElem_toArray, List.getElem_cons_zero, List.getElem_cons_succ, List.setIfInBounds_toArray, List.set_cons_zero, List.set_cons_succ]
              refine wpAnyH_take (i := 12) rfl (by kernel_rfl) (by kernel_rfl) (by kernel_rfl) (fun _ _ _ h => h) (Or.inr ⟨by rfl, rfl⟩) hHeld ?_
              try simp only [Act.put, List.getElem_toArray, List.getElem_cons_zero, List.getElem_cons_succ, List.setIfInBounds_toArray, List.set_cons_zero, List.set_cons_succ]
              refine wpAnyH_take (i := 13) rfl (by kernel_rfl) (by kernel_rfl) (by kernel_rfl) (fun _ _ _ h => h) (Or.inr ⟨by rfl, rfl⟩) hHeld ?_
              try simp only [Act.put, List.getElem_toArray, List.getElem_cons_zero, List.getElem_cons_succ, List.setIfInBounds_toArray, List.set_cons_zero, List.set_cons_succ]
              refine wpAnyH_take (i := 14) rfl (by kernel_rfl) (by kernel_rfl) (by kernel_rfl) (fun _ _ _ h => h) (Or.inr ⟨by rfl, rfl⟩) hHeld ?_
              try simp only [Act.put, List.getElem_toArray, List.getElem_cons_zero, List.getElem_cons_succ, List.setIfInBounds_toArray, List.set_cons_zero, List.set_cons_succ]
              refine wpAnyH_take (i := 15) rfl (by kernel_rfl) (by kernel_rfl) (by kernel_rfl) (fun _ _ _ h => h) (Or.inr ⟨by rfl, rfl⟩) hHeld ?_
              try simp only [Act.put, List.getElem_toArray, List.getElem_cons_zero, List.getElem_cons_succ, List.setIfInBounds_toArray, List.set_cons_zero, List.set_cons_succ]
              refine wpAnyH_take (i := 16) rfl (by kernel_rfl) (by kernel_rfl) (by kernel_rfl) (fun _ _ _ h => h) (Or.inr ⟨by rfl, rfl⟩) hHeld ?_
              try simp only [Act.put, List.getElem_toArray, List.getElem_cons_zero, List.getElem_cons_succ, List.setIfInBounds_toArray, List.set_cons_zero, List.set_cons_succ]
              refine wpAnyH_take (i := 17) (v := ?_) rfl (by kernel_rfl) (by kernel_rfl) (by kernel_rfl) (fun _ _ _ h => h) (Or.inl ⟨by rfl, ?_⟩) hHeld ?_
              rotate_left
              · (intro w hSw; obtain ⟨⟨F9, hm⟩, hg9⟩ := hSw; have q8 := hm.v0; have q9 := hm.v1; clear hm hg9; go_simp; try with_reducible rfl)
              try simp only [Act.put, List.getElem_toArray, List.getElem_cons_zero, List.getElem_cons_succ, List.setIfInBounds_toArray, List.set_cons_zero, List.set_cons_succ]
              refine wpAnyH_take (i := 18) (v := ?_) rfl (by kernel_rfl) (by kernel_rfl) (by kernel_rfl) (fun _ _ _ h => h) (Or.inl ⟨by rfl, ?_⟩) hHeld ?_
              rotate_left
              · (intro w hSw; obtain ⟨⟨F9, hm⟩, hg9⟩ := hSw; have q8 := hm.v0; have q9 := hm.v1; clear hm hg9; go_simp; try with_reducible rfl)
              try simp only [Act.put, List.getElem_toArray, List.getElem_cons_zero, List.getElem_cons_succ, List.setIfInBounds_toArray, List.set_cons_zero, List.set_cons_succ]
              have hM1 : MS R g (some ⟨b, o, none⟩) c P F wr.drew := hM.drewN 1
              have hg1 : w.grownBy wr.drew (some g) := grow_drew hg 1
              refine wpAnyH_ready (rs := [19]) (by kernel_rfl) (by simp) ?_
              refine AllReadyH.cons rfl (fun K hK => ?_) (AllReadyH.nil)
              have fr := hM1.fr (k + 1)
              have f2 := hM1.e (k + 1) hl2
              have hS2 := And.intro (hM1.set (k + 1) (false)) (grow_then hg1 (grow_cell _ g (k + 1) (.bool (false))))
              have HS2 := Lib.hid hS2; clear hS2
              go_simp
              refine hK.out _ _ (⟨⟨_, HS2.out.1⟩, HS2.out.2⟩) (fun hHeld => ?_)
              clear hK K
              try simp only [Act.put, List.getElem_toArray, List.getElem_cons_zero, List.getElem_cons_succ, List.setIfInBounds_toArray, List.set_cons_zero, List.set_cons_succ]
              refine wpAnyH_done (by kernel_rfl) ?_ _
              go_wp2_with fail
              go_roundw
              case rel => exact ⟨(k : Int) - 1, k, by omega, by omega, rfl, HS2.out.2, by rw [HN.out]; exact HS2.out.1⟩
              case measure => (simp [intOf] <;> omega)
            · rw [hmy] at ht; cases ht
        · cases ht
end Go.Proofs.Ytdnofpllmhnacaa
