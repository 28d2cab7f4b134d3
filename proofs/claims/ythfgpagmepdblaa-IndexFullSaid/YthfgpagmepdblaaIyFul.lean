/- Index: the walk of IndexFull. The law IndexFull holds for every input. -/
import Derived.Test.YthfgpagmepdblaaIxE
import Derived.Test.YthfgpagmepdblaaRows
import Derived.WalkKit
import Derived.ProofKit
import Derived.OpenShut
import Derived.ChangeOld
import Derived.Below
import Derived.Carry
import Derived.SizedLaws
import Derived.Test.YthfgpagmepdblaaTka
namespace Go.Proofs.Ythfgpagmepdblaa
open Go.ChangeShapes Go.WideShapes Go.ChangeAt Go.RowKit Go.Maps
set_option linter.unusedVariables false
set_option linter.unusedSimpArgs false
set_option maxRecDepth 100000

theorem wf_i64 {z : Int} (h0 : -9223372036854775808 ≤ z) (h1 : z ≤ 9223372036854775807) : (Lit.int .i64 z).wf = true := by
  have e0 : IntKind.i64.min = -9223372036854775808 := by decide
  have e1 : IntKind.i64.max = 9223372036854775807 := by decide
  simp only [Lit.wf, e0, e1, Bool.and_eq_true, decide_eq_true_eq]; exact ⟨h0, h1⟩
def aT : List It := [⟨6, ⟨#[97]⟩, 0⟩]
def stF (k : Nat) : List Sto := (List.range k).map fun (j : Nat) => ⟨(j : Int), aT⟩
theorem stF_len (k : Nat) : (stF k).length = k := by unfold stF; simp
theorem stF_next (k : Nat) : stF k ++ [⟨(k : Int), aT⟩] = stF (k + 1) := by unfold stF; rw [List.range_succ, List.map_append]; rfl
theorem stF_mem (k : Nat) (s : Sto) (h : s ∈ stF k) : ∃ j : Nat, j < k ∧ s = ⟨(j : Int), aT⟩ := by
  unfold stF at h
  rw [List.mem_map] at h
  obtain ⟨j, hj, rfl⟩ := h
  exact ⟨j, List.mem_range.1 hj, rfl⟩
theorem stF_free (k : Nat) (i : Int) (h : (k : Int) ≤ i ∨ i < 0) : lkS (stF k) i = none := by
  rw [lkS_none]
  intro s hs c
  obtain ⟨j, hj, rfl⟩ := stF_mem k s hs
  simp at c; omega
theorem stF_nodup (k : Nat) : ((stF k).map (·.id)).Nodup := by
  unfold stF
  rw [List.map_map, List.Nodup, List.pairwise_map]
  exact List.nodup_range.imp fun {a b} h e => h (Int.ofNat.inj (show ((a : Nat) : Int) = (b : Nat) from e))
theorem stF_has (k : Nat) (j : Nat) (h : j < k) : lkS (stF k) (j : Int) ≠ none := by
  have : (⟨(j : Int), aT⟩ : Sto) ∈ stF k := by unfold stF; rw [List.mem_map]; exact ⟨j, List.mem_range.2 h, rfl⟩
  have h2 : lkS (stF k) (j : Int) = some aT := lkS_of (stF_nodup k) this
  rw [h2]; simp
theorem stF_add (i : Nat) : addB (stF (min i 1024)) (i : Int) = decide ((i : Int) < 1024) ∧ addS (stF (min i 1024)) (i : Int) aT = stF (min (i + 1) 1024) := by
  have h0 := stF_free (min i 1024) (i : Int) (.inl (by omega))
  have h1 : addB (stF (min i 1024)) (i : Int) = decide ((i : Int) < 1024) := by
    unfold addB; rw [h0, stF_len]
    rw [Bool.eq_iff_iff]; simp; omega
  refine ⟨h1, ?_⟩
  unfold addS
  rw [h1]
  by_cases h : (i : Int) < 1024
  · rw [if_pos (by simpa using h), show min i 1024 = i by omega, show min (i + 1) 1024 = i + 1 by omega, stF_next]
  · rw [if_neg (by simpa using h), show min i 1024 = min (i + 1) 1024 by omega]
/-- What is stored at the end. -/
def endF (m : Nat) : List Sto := dlS (stF m) 3 ++ [⟨-1, []⟩]
theorem endF_add (m : Nat) (h : m ≤ 1024) (h3 : 3 < m) : addB (dlS (stF m) 3) (-1) = true ∧ addS (dlS (stF m) 3) (-1) [] = endF m := by
  have h0 : lkS (dlS (stF m) 3) (-1) = none := by rw [lkS_del, if_neg (by decide)]; exact stF_free m (-1) (.inr (by decide))
  have h1 : (dlS (stF m) 3).length = m - 1 := by rw [del_len (stF_nodup m) 3 (stF_has m 3 h3), stF_len]
  have h2 : addB (dlS (stF m) 3) (-1) = true := by unfold addB; rw [h0, h1]; simp; omega
  exact ⟨h2, by unfold addS; rw [if_pos h2]; rfl⟩
theorem endF_len (m : Nat) (h3 : 3 < m) : (endF m).length = m := by
  unfold endF; rw [List.length_append, del_len (stF_nodup m) 3 (stF_has m 3 h3), stF_len]; simp; omega
theorem aT_cand : isCand aT 100 aT = true ∧ isCand aT 100 [] = false := by decide +kernel
theorem endF_cand (m : Nat) (h3 : 3 < m) : (cand (isCand aT 100) (endF m)).length = m - 1 := by
  rw [(cand_perm _ _).length_eq, List.length_map]
  unfold endF
  rw [List.filter_append, List.length_append]
  have h1 : (dlS (stF m) 3).filter (fun s => isCand aT 100 s.l) = dlS (stF m) 3 := by
    rw [List.filter_eq_self]
    intro s hs
    obtain ⟨j, _, rfl⟩ := stF_mem m s (List.mem_filter.1 hs).1
    exact aT_cand.1
  rw [h1, del_len (stF_nodup m) 3 (stF_has m 3 h3), stF_len]
  simp [aT_cand.2]
set_option maxHeartbeats 6400000 in
theorem full_law (a0 : Int) (w : World) (h0 : (Lit.int .i64 a0).wf = true) : Calls Try.prog 6 #[.int .i64 a0] w fun e w' => e = .returned (.bool true) ∧ Below w.heap.size w w' := by
  have l1 : LOk aT := lok_of _ (by decide) (by decide +kernel)
  have l0 : LOk [] := lok_of _ (by decide) (by decide +kernel)
  obtain ⟨r, hr, hn⟩ : ∃ r : Nat, r < 4 ∧ wrap64 (1023 + wrap64 ((IntKind.u64.wrap a0).tmod 4)) = ((1023 + r : Nat) : Int) := by
    have hw : 0 ≤ IntKind.u64.wrap a0 := by show 0 ≤ a0 % 18446744073709551616; omega
    refine ⟨((IntKind.u64.wrap a0) % 4).toNat, by omega, ?_⟩
    rw [Int.tmod_eq_emod_of_nonneg hw]
    unfold wrap64
    omega
  have HN := Lib.hid hn
  clear hn
  go_enter Try.func6, Try.ntmps6
  go_wp2_with fail
  rw [HN.out]
  have hn1 : 1023 + r ≤ 1026 := by omega
  have hn2 : 1023 ≤ 1023 + r := by omega
  generalize 1023 + r = n at *
  refine (new_any w).mono ?_; rintro e w1 ⟨rfl, hX, hb1⟩
  generalize hXE : w.heap.size + 2 = X at *
  have HX1 := Lib.hid hX; have HB1 := Lib.hid hb1
  have hs1 : w.heap.size ≤ w1.heap.size := hb1.size
  clear hX hb1 HN hr
  go_wp2_with fail
  have hb2 : Below w1.heap.size w1 _ := blw (Below.refl _ _) (.cells (icells aT).toArray 43)
  have hI2 : Its _ _ aT := Its.litT (heap_alloc_new w1 (.cells (icells aT).toArray 43)) rfl
  have hX2 := HX1.out.call hb2
  have hB2 := BelowOn HB1.out hb2
  have hR2 : ∀ k, (w.heap.size ≤ k ∧ k < w1.heap.size) → w.heap.size ≤ k ∧ k ≠ w1.heap.size := fun k hk => ⟨hk.1, by omega⟩
  generalize htb : w1.heap.size = tb at *
  clear hb2 HX1 HB1
  go_loopw [5] (fun v wr => ∃ (i : Nat) (R : Nat → Prop), i ≤ n ∧ v = .int .i64 i ∧ Ix wr X R (1000 * i) (stF (min i 1024)) ∧ Aside (∀ k, R k → w.heap.size ≤ k ∧ k ≠ tb) ∧ Its wr (some ⟨tb, 0, none⟩) aT ∧ Below w.heap.size w wr) (fun v _ => n - (intOf v).toNat)
  case atStart => exact ⟨0, _, Nat.zero_le _, rfl, hX2, hR2, hI2, hB2⟩
  case round =>
    clear hX2 hI2 hB2 hR2
    obtain ⟨i, R, hi, rfl, hX, hR, hI, hB⟩ := hrel
    have htl : tb < wr.heap.size := by obtain ⟨a, e, h, _⟩ := hI (by decide); injection e with e; rw [← e] at h; exact h
    by_cases hlt : i < n
    · have hA := add_any hX (i := (i : Int)) (wf_i64 (by omega) (by omega)) hI (show aT.length ≤ 1 from Nat.le_refl _) (by decide) l1 (by omega)
      rw [(stF_add i).1, (stF_add i).2] at hA
      have HA := Lib.hid hA; have HI := Lib.hid hI; have HB := Lib.hid hB; have HR := Lib.hid hR
      have hle : w.heap.size ≤ wr.heap.size := hB.size
      have ik : (i : Int) < (n : Int) := by omega
      clear hA hX hI hB hR
      by_cases hm : (i : Int) < 1024
      · have q : decide ((i : Int) < 1024) = true := by simpa using hm
        rw [q] at HA
        clear q
        go_wp2_with fail
        refine HA.out.mono ?_; rintro e w3 ⟨rfl, R3, hX3, hR3, hK3⟩
        have HX := Lib.hid (And.intro hX3 (And.intro hR3 hK3))
        clear hX3 hR3 hK3
        go_wp2_with fail
        go_roundw
        case rel =>
          obtain ⟨hX3, hR3, hK3⟩ := HX.out
          exact ⟨i + 1, R3, hlt, by go_num, hX3.mono (by omega), (fun k hk => (hR3 k hk).elim (HR.out.out k) (fun c => ⟨by omega, by omega⟩)), HI.out.kept hK3 (fun _ a ha c => by injection ha with ha; rw [← ha] at c; exact (HR.out.out _ c).2 rfl), HB.out.trans (hK3.toBelow hle (fun k hk => (HR.out.out k hk).1))⟩
        case measure => simp [intOf]; omega
      · have q : decide ((i : Int) < 1024) = false := by simpa using hm
        rw [q] at HA
        clear q
        go_wp2_with fail
        refine HA.out.mono ?_; rintro e w3 ⟨rfl, R3, hX3, hR3, hK3⟩
        have HX := Lib.hid (And.intro hX3 (And.intro hR3 hK3))
        clear hX3 hR3 hK3
        go_wp2_with fail
        go_roundw
        case rel =>
          obtain ⟨hX3, hR3, hK3⟩ := HX.out
          exact ⟨i + 1, R3, hlt, by go_num, hX3.mono (by omega), (fun k hk => (hR3 k hk).elim (HR.out.out k) (fun c => ⟨by omega, by omega⟩)), HI.out.kept hK3 (fun _ a ha c => by injection ha with ha; rw [← ha] at c; exact (HR.out.out _ c).2 rfl), HB.out.trans (hK3.toBelow hle (fun k hk => (HR.out.out k hk).1))⟩
        case measure => simp [intOf]; omega
    · obtain rfl : i = n := by omega
      have hmn : min (i : Int) 1024 = ((min i 1024 : Nat) : Int) := by omega
      have hm1 : 1023 ≤ min i 1024 := by omega
      have hm2 : min i 1024 ≤ 1024 := by omega
      have hl1 := stF_len (min i 1024)
      have hadd := endF_add (min i 1024) hm2 (by omega)
      have hel := endF_len (min i 1024) (by omega)
      have hec := endF_cand (min i 1024) (by omega)
      have hhas := stF_has (min i 1024) 3 (by omega)
      generalize min i 1024 = m at *
      have hLen := len_any hX
      rw [hl1] at hLen
      have hRem := remove_any hX (i := 3) (by decide) (by omega)
      rw [show decide (lkS (stF m) 3 ≠ none) = true from decide_eq_true hhas] at hRem
      have HLEN := Lib.hid hLen; have HREM := Lib.hid hRem; have HAD := Lib.hid hadd; have HEL := Lib.hid hel; have HEC := Lib.hid hec; have HB := Lib.hid hB; have HR := Lib.hid hR; have HI := Lib.hid hI
      have hle : w.heap.size ≤ wr.heap.size := hB.size
      clear hLen hRem hadd hel hec hB hR hI hX hhas hl1
      go_wp2_with fail
      refine HLEN.out.mono ?_; rintro e w3 ⟨rfl, rfl⟩
      go_wp2_with fail
      refine HREM.out.mono ?_; rintro e w3 ⟨rfl, R3, hX3, hR3, hK3⟩
      have hA := add_any hX3 (i := -1) (by decide) (Its.nil w3 none) (Nat.le_refl 0) (Nat.zero_le _) l0 (by omega)
      rw [HAD.out.1, HAD.out.2] at hA
      have hle3 := hK3.size
      have HA := Lib.hid hA
      have HI3 := Lib.hid (HI.out.kept hK3 (fun _ a ha c => by injection ha with ha; rw [← ha] at c; exact (HR.out.out _ c).2 rfl)); have HB3 := Lib.hid (HB.out.trans (hK3.toBelow hle (fun k hk => (HR.out.out k hk).1)))
      have HR3 := Lib.hid (show ∀ k, R3 k → w.heap.size ≤ k ∧ k ≠ tb from fun k hk => (hR3 k hk).elim (HR.out.out k) (fun c => ⟨by omega, by omega⟩))
      clear hA hX3 hR3 hK3 HREM HLEN HI HB HR
      go_wp2_with fail
      refine HA.out.mono ?_; rintro e w4 ⟨rfl, R4, hX4, hR4, hK4⟩
      have hLen := len_any hX4
      rw [HEL.out] at hLen
      have HLEN := Lib.hid hLen; have HX4 := Lib.hid hX4
      have HI4 := Lib.hid (HI3.out.kept hK4 (fun _ a ha c => by injection ha with ha; rw [← ha] at c; exact (HR3.out _ c).2 rfl)); have HB4 := Lib.hid (HB3.out.trans (hK4.toBelow (by omega) (fun k hk => (HR3.out k hk).1)))
      clear hLen hX4 hR4 hK4 HA HI3 HB3 HR3
      go_wp2_with fail
      refine HLEN.out.mono ?_; rintro e w5 ⟨rfl, rfl⟩
      have hC := cand_any HX4.out HI4.out (show aT.length ≤ 1 from Nat.le_refl _) (by decide) l1 100 (by omega) (by rw [HEL.out]; omega)
      have hcl := HEC.out
      generalize cand (isCand aT 100) (endF m) = C at *
      have HC := Lib.hid hC
      have hcl2 : (C.length : Int) = (m : Int) - 1 := by omega
      clear hC HLEN HX4 HI4
      go_wp2_with fail
      refine HC.out.mono ?_; rintro e w6 hE
      obtain ⟨p6, c6, rfl, _, _, _, hb6⟩ := EndN.f hE
      have HB6 := Lib.hid (HB4.out.trans (hb6.mono HB4.out.size))
      clear hE hb6
      go_wp2_with fail
      refine (iknown_any _).mono ?_; rintro e w7 ⟨rfl, hb7⟩
      have HB7 := Lib.hid (HB6.out.trans (hb7.mono HB6.out.size))
      clear hb7
      go_wp2_with fail
      go_ret
      exact ⟨rfl, HB7.out⟩
end Go.Proofs.Ythfgpagmepdblaa
namespace Go.Proofs.Ythfgpagmepdblaa.indexFull
open Go.ChangeShapes Go.WideShapes Go.ChangeAt Go.RowKit
open Go.ChangeMaps (open_string shut_string)
set_option linter.unusedVariables false
set_option maxRecDepth 100000

theorem own : ownKnob Try.prog.godebug = none := by kernel_rfl
theorem laidOut : laidOutB Try.prog = true := by kernel_rfl


set_option maxHeartbeats 1600000 in
theorem walk (a0 : Int) (w : World) (w0 : (Lit.int .i64 a0).wf = true) :
    Calls Try.prog 6 #[.int .i64 a0] w fun e w' => e = .returned (.bool true) ∧ Below w.heap.size w w' := by
  exact full_law a0 w w0

theorem lifted (os : Os) (started : os.Started) (H : Type) (enc : TypeId × Value → H) :
    ReturnsInHanded {} Try.checked os 6 .any (Rows.indexFullSpec.pre6 enc Try.prog Try.f6 Rows.indexFullRow.domain false) (Rows.indexFullSpec.post enc Try.prog Try.f6 false true false false) := by
  refine returnsInHanded_of_change_sized (C := Try.checked) own started (by kernel_rfl) Try.func6
    (ChangeSpec.witness6 (enc := enc) (C := Try.checked) false ⟨#[], #[.int .i64 0], []⟩ 8 (by kernel_rfl) (by kernel_rfl) (by kernel_rfl) (by kernel_rfl)) ?_
  intro W base args ds gs before hval0 hW hcnd hsz0 _
  have hval : ∀ (j : Nat) t v, Try.f6.params[j]? = some t → args[j]? = some v → Value.okWide Try.prog W .any base t v := hval0
  have hW' := hW
  have hlt : ∀ x ∈ before, x.block < W.heap.size := fun x hx => hW'.lt x hx
  obtain ⟨p, q, hA0, hV, rfl, hfz, hnd⟩ := hW
  have hA : DataW.TrodAll enc Try.prog W 0 (fun _ => true) true Try.f6.params.toList args.toList ds p := hA0
  rw [Try.params6] at hA hval hsz0
  obtain ⟨v0, vs0, d0, ds0, p0, q0, hargs, rfl, rfl, h0, r0⟩ := trodAll_cons hA
  obtain ⟨rfl, rfl, rfl⟩ := trodAll_nil r0
  obtain rfl : args = #[v0] := by cases args; simp_all
  obtain ⟨rfl, rfl⟩ := trodVars_none hV
  have hsz := hsz0; clear hsz0
  obtain ⟨a0, rfl, -, -, w0⟩ := open_int Try.underlying3 (hval 0 3 v0 rfl rfl) h0
  clear hA0 hval0
  refine (walk a0 W w0).mono fun e W' ⟨he, bel⟩ => ?_
  subst he
  exact ⟨_, rfl, _, _, _, [], _, [], hW', trodAll_mk1 (shut_bool Try.underlying4 _), (trodAll_cons_mk (Below.trod laidOut (by kernel_rfl) (of_decide_eq_true (by kernel_rfl)) h0 bel (fun x hx => hlt x (by simp [hx]))) trodAll_mk0), rfl, bel.frame _, fun h => by cases h⟩

theorem over : Rows.indexFullRow.holds Try.pinned (OpenSpec.ofChange Rows.indexFullSpec) :=
  OpenClaim.holds_of_wide 6 Try.f6 rfl rfl rfl rfl rfl rfl rfl ⟨rfl, rfl, rfl, rfl, rfl⟩ rfl rfl rfl rfl rfl (by kernel_rfl) Try.func6 (by kernel_rfl)
    (of_decide_eq_true (by kernel_rfl)) (by unfold Func.isWrapper; first | (rw [if_pos (by decide +kernel)]; kernel_rfl) | (rw [if_neg (by decide +kernel)]; exact ⟨rfl, rfl⟩))
    (fun os started H enc _ => lifted os started H enc)

theorem proved : Rows.IndexFullSaid := over
#print axioms proved
end Go.Proofs.Ythfgpagmepdblaa.indexFull
