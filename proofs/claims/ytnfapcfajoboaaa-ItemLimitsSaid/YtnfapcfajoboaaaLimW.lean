/- The walk of ItemLimits. -/
import Derived.Test.YtnfapcfajoboaaaKno
import Derived.Lib.SlBytesRow
namespace Go.Proofs.Ytnfapcfajoboaaa
open Go.ChangeShapes Go.WideShapes Go.ChangeAt Go.RowKit
set_option linter.unusedVariables false
set_option maxRecDepth 100000

theorem info5 : (Try.prog.info? 5).map (fun i => (i.zero, i.size, i.bytes)) = some (some (.int .u8 0), 1, 1) := by kernel_rfl
/-- A string of zeros. -/
def zeros (n : Nat) : ByteArray := ⟨Array.replicate n 0⟩
theorem zeros_size (n : Nat) : (zeros n).size = n := by show (Array.replicate n (0 : UInt8)).size = n; simp
theorem zeros_at (n i : Nat) (h : i < (zeros n).size) : ((zeros n)[i].toNat : Int) = 0 := by
  have : (zeros n)[i] = 0 := by show (Array.replicate n (0 : UInt8))[i]'(by rw [zeros_size] at h; simpa using h) = 0; simp
  rw [this]; rfl
theorem cells_zeros {w : World} {base n : Nat} {g : Nat} (h : w.ownsRow base 5 1 (.slice (some ⟨g, 0, none⟩) n n) n (madeCells (Value.int .u8 0).cells (n * 1)).toList) : ∀ i (hi : i < (zeros n).size), w.cell? ⟨g, 0 + i, none⟩ = some (.int .u8 ((zeros n)[i].toNat : Int)) := fun i hi => by
  have hi' : i < n := by have h2 := zeros_size n; omega
  have hc := h.cells (g := g) rfl i (.int .u8 0) (by
    simp [madeCells, Value.cells]
    exact ⟨i, List.getElem?_range hi', by simp [Nat.mod_one]⟩)
  rw [zeros_at, Nat.zero_add]
  rw [← hc]
  unfold Addr.add
  by_cases h0 : i = 0
  · subst h0; simp
  · simp [h0]
def slotI : It := ⟨5, ⟨#[110]⟩, 0⟩
theorem slotI_ok : slotI.ok := ⟨by decide, by decide, by decide⟩
theorem slots_ok (n : Nat) : Oks (List.replicate n slotI) := Oks.of fun x hx => by rw [List.eq_of_mem_replicate hx]; exact slotI_ok
theorem slots_len (n : Nat) : lenI (List.replicate n slotI) = n := by
  induction n with
  | zero => rfl
  | succ k ih => rw [List.replicate_succ', lenI_snoc, ih]; rfl
theorem slots_err (n : Nat) : errL [] (List.replicate n slotI) = 0 := by
  induction n with
  | zero => rfl
  | succ k ih =>
    rw [List.replicate_succ', errL_snoc _ _ ih, errAt_5 _ _ rfl]
    decide +kernel
theorem slots_val (n : Nat) : valE (List.replicate n slotI) = if 512 < n then 3 else 0 := by
  unfold valE
  rw [slots_len, List.length_replicate, slots_err]
  by_cases h : 512 < n
  · rw [if_pos (.inl h), if_pos h]
  · rw [if_neg (by omega), if_neg h]
def textI (n : Nat) : It := ⟨1, zeros n, 0⟩
theorem text_len (n : Nat) : lenI [textI n] = n := by
  show wid (textI n) + 0 = n
  unfold wid textI; rw [if_pos rfl, zeros_size]; rfl
theorem text_val (n : Nat) (h0 : 0 < n) : valE [textI n] = if 1024 < n then 3 else 0 := by
  unfold valE
  rw [text_len]
  by_cases h : 1024 < n
  · rw [if_pos (.inr h), if_pos h]
  · rw [if_neg (by simp; omega), if_neg h, errL_one, errAt_1 _ _ rfl, if_neg]
    show ¬ ((zeros n).size = 0 ∨ (0 : Int) ≠ 0 ∨ lastText [] = true)
    rw [zeros_size]; simp [lastText]; omega
theorem five (a : Int) : ∃ k : Nat, k ≤ 4 ∧ wrap64 (510 + wrap64 ((IntKind.u64.wrap a).tmod 5)) = ((510 + k : Nat) : Int) := by
  have u0 : 0 ≤ IntKind.u64.wrap a := by show 0 ≤ a % 18446744073709551616; omega
  generalize IntKind.u64.wrap a = u at *
  have e : u.tmod 5 = u % 5 := Int.tmod_eq_emod_of_nonneg u0
  rw [e, IntWalk.wrap64_in (u % 5) (by omega), IntWalk.wrap64_in _ (by omega)]
  exact ⟨(u % 5).toNat, by omega, by omega⟩

set_option maxHeartbeats 3200000 in
theorem limits_t (a0 : Int) (w : World) :
    Calls Try.prog 6 #[.int .i64 a0, .bool true] w fun e w' => e = .returned (.bool true) ∧ Below w.heap.size w w' := by
  obtain ⟨k5, hk5, he⟩ := five a0
  go_enter Try.func6, Try.ntmps6
  go_wp2_with fail
  rw [he]
  generalize hn : 510 + k5 = n at *
  have n1 : n ≤ 514 := by omega
  have n0 : 510 ≤ n := by omega
  clear he hn hk5
  generalize IntKind.u64.wrap a0 = u
  generalize wrap64 (u.tmod 5) = u1
  generalize u.tmod 5 = u2
  go_loopw [5, 6] (fun v i wr => ∃ k : Nat, k ≤ n ∧ i = .int .i64 k ∧ AccI w (List.replicate k slotI) v wr) (fun _ i _ => n - (intOf i).toNat)
  case atStart => exact ⟨0, Nat.zero_le _, rfl, Acc.start _⟩
  case round =>
    obtain ⟨k, hk, rfl, hA⟩ := hrel
    by_cases hlt : k < n
    · go_wp2_with (at_builtin; refine wpl_append eI _ rfl _ _ rfl w (List.replicate k slotI) _ rfl (hA.alloc _) slotI wr.heap.size _ rfl (heap_alloc_new wr _) rfl (by simp; omega) (by simp; unfold maxLen; omega) ?_; intro v' w4 hA4 hb4)
      go_wp2_with fail
      go_roundw
      case rel => exact ⟨k + 1, hlt, by go_num, by rw [List.replicate_succ']; exact hA4⟩
      case measure => simp [intOf]; omega
    · obtain rfl : k = n := by omega
      have hval := slots_val k
      have hlen := slots_len k
      have hok := slots_ok k
      obtain ⟨p, cap, hv, hc1, hc2, hI⟩ := hA.own.its
      have hv1 := fun W hI => validate_any p cap (List.replicate k slotI) W hI hok hc1 hc2
      have hl1 := fun W hI => length_any p cap (List.replicate k slotI) W hI hc1 hc2 (by rw [hlen]; omega)
      rw [hval] at hv1
      rw [hlen] at hl1
      have hvv : (List.replicate k slotI).length = k := by simp
      rw [hvv] at hv hv1 hl1
      subst hv
      have hB := hA.below
      generalize List.replicate k slotI = L at *
      have HV := Lib.hid hv1; have HL := Lib.hid hl1; have HA := Lib.hid hA
      clear hval hlen hok hv1 hl1 hvv hA
      have q : ((k : Int) == (k : Int)) = true := by simp
      by_cases h512 : 512 < k
      · have HV' := Lib.hid (show ∀ W, Its W p L → Calls Try.prog 19 #[.slice p k cap] W fun e w' => e = .returned (.int .i64 3) ∧ Below W.heap.size W w' from fun W hI => by have := HV.out W hI; rwa [if_pos h512] at this)
        clear HV
        go_wp2_with fail
        refine (HV'.out _ hI).mono ?_; rintro e w2 ⟨rfl, hb2⟩
        go_wp2_with fail
        refine (HL.out _ (hI.call hb2)).mono ?_; rintro e w3 ⟨rfl, hb3⟩
        go_wp2_with fail
        refine (known_any _).mono ?_; rintro e w4 ⟨rfl, hb4⟩
        go_wp2_with fail
        go_ret
        exact ⟨rfl, BelowOn (BelowOn (BelowOn hB hb2) hb3) hb4⟩
      · have HV' := Lib.hid (show ∀ W, Its W p L → Calls Try.prog 19 #[.slice p k cap] W fun e w' => e = .returned (.int .i64 0) ∧ Below W.heap.size W w' from fun W hI => by have := HV.out W hI; rwa [if_neg h512] at this)
        clear HV
        go_wp2_with fail
        refine (HV'.out _ hI).mono ?_; rintro e w2 ⟨rfl, hb2⟩
        go_wp2_with fail
        refine (HL.out _ (hI.call hb2)).mono ?_; rintro e w3 ⟨rfl, hb3⟩
        go_wp2_with fail
        refine (known_any _).mono ?_; rintro e w4 ⟨rfl, hb4⟩
        go_wp2_with fail
        go_ret
        exact ⟨rfl, BelowOn (BelowOn (BelowOn hB hb2) hb3) hb4⟩

set_option maxHeartbeats 3200000 in
theorem limits_f (a0 : Int) (w : World) :
    Calls Try.prog 6 #[.int .i64 a0, .bool false] w fun e w' => e = .returned (.bool true) ∧ Below w.heap.size w w' := by
  obtain ⟨k5, hk5, he⟩ := five a0
  obtain ⟨i0, hi, hz0, hz1, hz2⟩ := info_parts info5
  go_enter Try.func6, Try.ntmps6
  go_wp2_with fail
  rw [he]
  generalize hn : 510 + k5 = n at *
  have n1 : n ≤ 514 := by omega
  have n0 : 510 ≤ n := by omega
  clear he hn hk5
  generalize IntKind.u64.wrap a0 = u
  generalize wrap64 (u.tmod 5) = u1
  generalize u.tmod 5 = u2
  go_loopw [6] (fun i wr => i = .int .i64 0 ∧ wr = w) (fun _ _ => 0)
  case atStart => exact ⟨rfl, rfl⟩
  case round =>
    obtain ⟨rfl, rfl⟩ := hrel
    have hN : ((n : Int) + 512) = ((n + 512 : Nat) : Int) := by omega
    have hval := text_val (n + 512) (by omega)
    have hlen := text_len (n + 512)
    have hok : Oks [textI (n + 512)] := Oks.of fun x hx => by
      rw [List.mem_singleton.1 hx]; exact ⟨by show (Lit.int .i64 1).wf = true; decide, by show (zeros _).size ≤ _; rw [zeros_size]; omega, by show (Lit.int .i64 0).wf = true; decide⟩
    have hcz := fun w' base g => @cells_zeros w' base (n + 512) g
    have hsz := zeros_size (n + 512)
    have hv1 := fun W p hI => validate_any p 1 [textI (n + 512)] W hI hok (by simp) (by unfold maxLen; omega)
    have hl1 := fun W p hI => length_any p 1 [textI (n + 512)] W hI (by simp) (by unfold maxLen; omega) (by rw [hlen]; omega)
    rw [hval] at hv1
    rw [hlen] at hl1
    have hit : ∀ (W : World) (B : Nat), W.heap[B]? = some (.cells #[.int .i64 1, .string (zeros (n + 512)), .int .i64 0] 26 (0, 0)) → Its W (some ⟨B, 0, none⟩) [textI (n + 512)] := fun W B h => Its.lit h rfl
    generalize hm : n + 512 = m at *
    have m0 : 1022 ≤ m := by omega
    have m1 : m ≤ 1026 := by omega
    have HV := Lib.hid hv1; have HL := Lib.hid hl1; have HI := Lib.hid hit; have HC := Lib.hid hcz; have HS := Lib.hid hsz
    clear hval hlen hok hv1 hl1 hit hcz hsz hm
    have q : ((m : Int) == (m : Int)) = true := by simp
    generalize textI m = x at *
    generalize zeros m = z at *
    by_cases h1024 : 1024 < m
    · skip
      have HV' := Lib.hid (show ∀ W p, Its W p [x] → Calls Try.prog 19 #[.slice p 1 1] W fun e w' => e = .returned (.int .i64 3) ∧ Below W.heap.size W w' from fun W p hI => by have := HV.out W p hI; rwa [if_pos h1024] at this)
      have HL' := Lib.hid (show ∀ W p, Its W p [x] → Calls Try.prog 25 #[.slice p 1 1] W fun e w' => e = .returned (.int .i64 m) ∧ Below W.heap.size W w' from HL.out)
      clear HV HL
      go_wp2_with (at_make; refine wpList_make_full _ rfl _ _ 23 rfl wr.heap.size 5 i0 (.int .u8 0) 1 Try.underlying23 hi hz0 hz1 .i64 .i64 _ _ m rfl rfl (by first | rfl | exact hN) (by first | rfl | exact hN) (by rw [hz2]; omega) (by unfold maxLen; omega) (Nat.le_refl _) ?_; intro w1 hown hg1; have hcv := Lib.run_convert_whole (P := Try.prog) w1 23 5 9 Try.underlying23 Try.underlying5 Try.underlying9 wr.heap.size 0 z (HC.out _ _ _ hown) m; rw [HS.out] at hcv)
      have hB1 : Below wr.heap.size wr w1 := (Below.refl _ _).grown hg1 (Nat.le_refl _) (fun k hk => by cases hk)
      have hIt := HI.out _ _ (heap_alloc_new w1 (.cells #[.int .i64 1, .string z, .int .i64 0] 26))
      refine (HV'.out _ _ hIt).mono ?_; rintro e w2 ⟨rfl, hb2⟩
      go_wp2_with fail
      refine (HL'.out _ _ (hIt.call hb2)).mono ?_; rintro e w3 ⟨rfl, hb3⟩
      go_wp2_with fail
      refine (known_any _).mono ?_; rintro e w4 ⟨rfl, hb4⟩
      go_wp2_with fail
      go_ret
      exact ⟨rfl, BelowOn (BelowOn (BelowOn (blw hB1 _) hb2) hb3) hb4⟩
    · skip
      have HV' := Lib.hid (show ∀ W p, Its W p [x] → Calls Try.prog 19 #[.slice p 1 1] W fun e w' => e = .returned (.int .i64 0) ∧ Below W.heap.size W w' from fun W p hI => by have := HV.out W p hI; rwa [if_neg h1024] at this)
      have HL' := Lib.hid (show ∀ W p, Its W p [x] → Calls Try.prog 25 #[.slice p 1 1] W fun e w' => e = .returned (.int .i64 m) ∧ Below W.heap.size W w' from HL.out)
      clear HV HL
      go_wp2_with (at_make; refine wpList_make_full _ rfl _ _ 23 rfl wr.heap.size 5 i0 (.int .u8 0) 1 Try.underlying23 hi hz0 hz1 .i64 .i64 _ _ m rfl rfl (by first | rfl | exact hN) (by first | rfl | exact hN) (by rw [hz2]; omega) (by unfold maxLen; omega) (Nat.le_refl _) ?_; intro w1 hown hg1; have hcv := Lib.run_convert_whole (P := Try.prog) w1 23 5 9 Try.underlying23 Try.underlying5 Try.underlying9 wr.heap.size 0 z (HC.out _ _ _ hown) m; rw [HS.out] at hcv)
      have hB1 : Below wr.heap.size wr w1 := (Below.refl _ _).grown hg1 (Nat.le_refl _) (fun k hk => by cases hk)
      have hIt := HI.out _ _ (heap_alloc_new w1 (.cells #[.int .i64 1, .string z, .int .i64 0] 26))
      refine (HV'.out _ _ hIt).mono ?_; rintro e w2 ⟨rfl, hb2⟩
      go_wp2_with fail
      refine (HL'.out _ _ (hIt.call hb2)).mono ?_; rintro e w3 ⟨rfl, hb3⟩
      go_wp2_with fail
      refine (known_any _).mono ?_; rintro e w4 ⟨rfl, hb4⟩
      go_wp2_with fail
      go_ret
      exact ⟨rfl, BelowOn (BelowOn (BelowOn (blw hB1 _) hb2) hb3) hb4⟩

theorem limits_any (a0 : Int) (a1 : Bool) (w : World) :
    Calls Try.prog 6 #[.int .i64 a0, .bool a1] w fun e w' => e = .returned (.bool true) ∧ Below w.heap.size w w' := by
  cases a1
  · exact limits_f a0 w
  · exact limits_t a0 w
end Go.Proofs.Ytnfapcfajoboaaa
