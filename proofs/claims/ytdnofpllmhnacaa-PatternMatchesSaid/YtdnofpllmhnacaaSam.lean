/- SamePattern, of patterns that are the same; written. -/
import Derived.Test.YtdnofpllmhnacaaRev
import Derived.DeepKeys
namespace Go.Proofs.Ytdnofpllmhnacaa
open Go.ChangeShapes Go.WideShapes Go.ChangeAt Go.RowKit Go.Sort
set_option linter.unusedVariables false
set_option linter.unusedSimpArgs false
set_option maxRecDepth 100000

theorem mapM_some {α β : Type} (f : α → Option β) (l : List α) (h : ∀ x ∈ l, (f x).isSome = true) : (l.mapM f).isSome = true := by
  induction l with
  | nil => simp
  | cons a l ih =>
    obtain ⟨y, hy⟩ := Option.isSome_iff_exists.1 (h a (by simp))
    obtain ⟨ys, hys⟩ := Option.isSome_iff_exists.1 (ih (fun x hx => h x (by simp [hx])))
    simp [List.mapM_cons, hy, hys]
theorem byte_wf (S : BSet) (i : Nat) : (Lit.int .u8 (byteOf S i : Int)).wf = true := by
  have := byteOf_lt S i
  simp [Lit.wf, IntKind.min, IntKind.max, IntKind.signed, IntKind.bits]; omega
theorem cellsOf5 : Try.prog.cellsOf 5 = 1 := by kernel_rfl
theorem cellsOf4 : Try.prog.cellsOf 4 = 1 := by kernel_rfl
theorem cellsOf35 : Try.prog.cellsOf 35 = 32 := by kernel_rfl
theorem cellsOf37 : Try.prog.cellsOf 37 = 34 := by kernel_rfl
theorem keys5 (n : Int) (h : (Lit.int .u8 n).wf = true) (d : Nat) : (Try.prog.keyLits (d + 1) 5 [.int .u8 n]).isSome = true := by
  unfold Program.keyLits
  rw [Try.underlying5]
  simp [h]
theorem keys3 (n : Int) (h : (Lit.int .i64 n).wf = true) (d : Nat) : (Try.prog.keyLits (d + 1) 3 [.int .i64 n]).isSome = true := by
  unfold Program.keyLits
  rw [Try.underlying3]
  simp [h]
theorem keys4 (b : Bool) (d : Nat) : (Try.prog.keyLits (d + 1) 4 [.bool b]).isSome = true := by
  unfold Program.keyLits
  rw [Try.underlying4]
  rfl
theorem keys35 (S : BSet) (d : Nat) : (Try.prog.keyLits (d + 2) 35 (setC S)).isSome = true := by
  unfold Program.keyLits
  rw [Try.underlying35]
  have hl : setC S ≠ [] := by intro h; have := setC_length S; rw [h] at this; cases this
  simp only [setC_length, cellsOf35, if_true]
  rw [Option.isSome_map]
  refine mapM_some _ _ fun i hi => ?_
  have hi : i < 32 := List.mem_range.1 hi
  have e : ((setC S).drop (i * Try.prog.cellsOf 5)).take (Try.prog.cellsOf 5) = [.int .u8 (byteOf S i : Int)] := by
    rw [cellsOf5, Nat.mul_one, List.drop_eq_getElem_cons (by rw [setC_length]; exact hi)]
    have h2 := setC_at S i hi
    rw [List.getElem?_eq_getElem (by rw [setC_length]; exact hi)] at h2
    rw [Option.some.inj h2]; rfl
  rw [e]
  exact keys5 _ (byte_wf S i) d
theorem keys37 (x : At) (hm : (Lit.int .i64 x.mn).wf = true) : (Try.prog.keyLits 3 37 x.cs).isSome = true := by
  have e0 : (x.cs.drop 0).take 32 = setC x.s := by
    unfold At.cs
    rw [List.drop_zero, List.take_append_of_le_length (by rw [setC_length]; omega), List.take_of_length_le (by rw [setC_length]; omega)]
  have e1 : (x.cs.drop 32).take 1 = [.int .i64 x.mn] := by
    unfold At.cs
    rw [List.drop_append_of_le_length (by rw [setC_length]; omega), List.drop_of_length_le (by rw [setC_length]; omega)]; rfl
  have e2 : (x.cs.drop 33).take 1 = [.bool x.many] := by
    unfold At.cs
    rw [List.drop_append, List.drop_of_length_le (by rw [setC_length]; omega), setC_length]; rfl
  have hlen := x.cs_length
  unfold Program.keyLits
  rw [Try.underlying37]
  dsimp only
  rw [if_pos ⟨by rw [hlen, cellsOf37], by kernel_rfl⟩, Option.isSome_map]
  refine mapM_some _ _ fun f hf => ?_
  simp only [List.mem_cons, List.not_mem_nil, or_false] at hf
  rcases hf with rfl | rfl | rfl
  · show (Try.prog.keyLits 2 35 ((x.cs.drop 0).take (Try.prog.cellsOf 35))).isSome = true
    rw [cellsOf35, e0]; exact keys35 x.s 0
  · show (Try.prog.keyLits 2 3 ((x.cs.drop 32).take (Try.prog.cellsOf 3))).isSome = true
    rw [cells3, e1]; exact keys3 _ hm 1
  · show (Try.prog.keyLits 2 4 ((x.cs.drop 33).take (Try.prog.cellsOf 4))).isSome = true
    rw [cellsOf4, e2]; exact keys4 _ 1
theorem atoms_equal (x : At) (hm : (Lit.int .i64 x.mn).wf = true) (w : World) : (Op.equalIn 10000 37 (.agg x.cs.toArray) (.agg x.cs.toArray)).run Try.prog w = .ok true w := by
  have hk : Try.prog.keyTypeAt 3 37 = true := by kernel_rfl
  have hf : (Value.agg x.cs.toArray).formed Try.prog 37 = true := by kernel_rfl
  have hl : (Try.prog.keyLits 3 37 (Value.agg x.cs.toArray).cells.toList).isSome = true := keys37 x hm
  obtain ⟨la, hla⟩ := Option.isSome_iff_exists.1 hl
  obtain ⟨r, h1, h2⟩ := run_equalIn_deep (P := Try.prog) 9997 3 37 hk w 3 3 _ _ la la hf hf hla hla
  rw [h2.2 rfl] at h1
  exact h1
theorem atoms_neq (x : At) (hm : (Lit.int .i64 x.mn).wf = true) (w : World) : (binOp .neq 37 (.agg x.cs.toArray) (.agg x.cs.toArray)).run Try.prog w = .ok (.bool false) w := by
  rw [run_neq_struct, atoms_equal x hm]; rfl

def wfA (P : List At) : Prop := ∀ i (h : i < P.length), (Lit.int .i64 (P[i]'h).mn).wf = true
set_option maxHeartbeats 3200000 in
theorem same_any (p q : Option Addr) (c d : Nat) (P : List At) (w : World) (hP : Ats w p P) (hQ : Ats w q P) (hc : P.length ≤ c) (hd : P.length ≤ d) (hcm : c ≤ maxLen) (hdm : d ≤ maxLen) (hw : wfA P) :
    Calls Try.prog 16 #[.slice p P.length c, .slice q P.length d] w fun e w' => e = .returned (.bool true) ∧ Below w.heap.size w w' := by
  unfold maxLen at hcm hdm
  have HP := Lib.hid hP; have HQ := Lib.hid hQ; have HW := Lib.hid hw; clear hP hQ hw
  have mixed : Try.prog.follows .mixedOrders = true := by kernel_rfl
  go_enter Try.func16, Try.ntmps16
  go_wp2_with fail
  go_loopw [13] (fun i wr => ∃ k : Nat, k ≤ P.length ∧ i = .int .i64 k ∧ Below w.heap.size w wr) (fun i _ => P.length - (intOf i).toNat)
  case atStart => exact ⟨0, Nat.zero_le _, rfl, Below.refl _ _⟩
  case round =>
    obtain ⟨k, hk, rfl, hB⟩ := hrel
    by_cases hlt : k < P.length
    · have q0 : decide (k < P.length) = true := decide_eq_true hlt
      obtain ⟨b1, o1, rfl, hb1, hr1⟩ := HP.out.call hB (by omega)
      obtain ⟨b2, o2, rfl, hb2, hr2⟩ := HQ.out.call hB (by omega)
      have hx1 := hr1 k hlt
      have hx2 := hr2 k hlt
      have hneq := HW.out k hlt
      generalize P[k] = x at *
      have hin : (Try.prog.info? 37).map (·.size) = some x.cs.length := by rw [At.cs_length]; exact size37
      obtain ⟨dd, hu, hdd⟩ := und37
      have HNW := Lib.hid hneq
      have HX := Lib.hid (And.intro hx1 (And.intro hx2 (And.intro hu (And.intro hdd hin))))
      clear hr1 hr2 hx1 hx2 hneq hu hdd hin
      have i0 : (0 : Int) ≤ (k : Int) := by omega
      have i1 : (k : Int) < (P.length : Int) := by omega
      go_upto_region 6 with fail
      obtain ⟨hx1, hx2, hu, hdd, hin⟩ := HX.out
      refine wp_region_held_drew (S := fun W => W.rangeAt b1 (o1 + k * 34) x.cs ∧ W.rangeAt b2 (o2 + k * 34) x.cs) (by kernel_rfl) (⟨hx1, hx2⟩) (fun hHeld => ?_)
      refine wpAnyH_take (i := 0) (v := ?_) rfl (by kernel_rfl) (by kernel_rfl) (by kernel_rfl) (fun _ _ _ h => h) (Or.inl ⟨by rfl, ?_⟩) hHeld ?_
      rotate_left
      · (intro w hSw; (try dsimp only at hSw); go_simp; try with_reducible rfl)
      try simp only [Act.put, List.getElem_toArray, List.getElem_cons_zero, List.getElem_cons_succ, List.setIfInBounds_toArray, List.set_cons_zero, List.set_cons_succ]
      refine wpAnyH_take (i := 1) (v := ?_) rfl (by kernel_rfl) (by kernel_rfl) (by kernel_rfl) (fun _ _ _ h => h) (Or.inl ⟨by rfl, ?_⟩) hHeld ?_
      rotate_left
      · (intro w hSw; (try dsimp only at hSw); go_simp; try with_reducible rfl)
      try simp only [Act.put, List.getElem_toArray, List.getElem_cons_zero, List.getElem_cons_succ, List.setIfInBounds_toArray, List.set_cons_zero, List.set_cons_succ]
      refine wpAnyH_take (i := 2) (v := ?_) rfl (by kernel_rfl) (by kernel_rfl) (by kernel_rfl) (fun _ _ _ h => h) (Or.inl ⟨by rfl, ?_⟩) hHeld ?_
      rotate_left
      · (intro w hSw; (try dsimp only at hSw); go_simp; try with_reducible rfl)
      try simp only [Act.put, List.getElem_toArray, List.getElem_cons_zero, List.getElem_cons_succ, List.setIfInBounds_toArray, List.set_cons_zero, List.set_cons_succ]
      refine wpAnyH_take (i := 4) (v := ?_) rfl (by kernel_rfl) (by kernel_rfl) (by kernel_rfl) (fun _ _ _ h => h) (Or.inl ⟨by rfl, ?_⟩) hHeld ?_
      rotate_left
      · (intro w hSw; (try dsimp only at hSw); go_simp; try with_reducible rfl)
      try simp only [Act.put, List.getElem_toArray, List.getElem_cons_zero, List.getElem_cons_succ, List.setIfInBounds_toArray, List.set_cons_zero, List.set_cons_succ]
      refine wpAnyH_take (i := 5) (v := ?_) rfl (by kernel_rfl) (by kernel_rfl) (by kernel_rfl) (fun _ _ _ h => h) (Or.inl ⟨by rfl, ?_⟩) hHeld ?_
      rotate_left
      · (intro w hSw; (try dsimp only at hSw); go_simp; try with_reducible rfl)
      try simp only [Act.put, List.getElem_toArray, List.getElem_cons_zero, List.getElem_cons_succ, List.setIfInBounds_toArray, List.set_cons_zero, List.set_cons_succ]
      refine wpAnyH_take (i := 6) (v := ?_) rfl (by kernel_rfl) (by kernel_rfl) (by kernel_rfl) (fun _ _ _ h => h) (Or.inl ⟨by rfl, ?_⟩) hHeld ?_
      rotate_left
      · (intro w hSw; (try dsimp only at hSw); go_simp; try with_reducible rfl)
      try simp only [Act.put, List.getElem_toArray, List.getElem_cons_zero, List.getElem_cons_succ, List.setIfInBounds_toArray, List.set_cons_zero, List.set_cons_succ]
      refine wpAnyH_take (i := 3) rfl (by kernel_rfl) (by kernel_rfl) (by kernel_rfl) (fun _ _ _ h => h) (yieldsIf_load_mid (by rfl) 37 _ (by rfl) (b1) (o1 + k * 34) (by rfl) (x.cs) _ (fun W h => h.1) hu hdd hin) hHeld ?_
      try simp only [Act.put, List.getElem_toArray, List.getElem_cons_zero, List.getElem_cons_succ, List.setIfInBounds_toArray, List.set_cons_zero, List.set_cons_succ]
      refine wpAnyH_take (i := 7) rfl (by kernel_rfl) (by kernel_rfl) (by kernel_rfl) (fun _ _ _ h => h) (yieldsIf_load_mid (by rfl) 37 _ (by rfl) (b2) (o2 + k * 34) (by rfl) (x.cs) _ (fun W h => h.2) hu hdd hin) hHeld ?_
      try simp only [Act.put, List.getElem_toArray, List.getElem_cons_zero, List.getElem_cons_succ, List.setIfInBounds_toArray, List.set_cons_zero, List.set_cons_succ]
      refine wpAnyH_take (i := 8) (v := ?_) rfl (by kernel_rfl) (by kernel_rfl) (by kernel_rfl) (fun _ _ _ h => h) (Or.inl ⟨by rfl, ?_⟩) hHeld ?_
      rotate_left
      · (intro w hSw; have hne9 := atoms_equal x HNW.out w; go_simp; try with_reducible rfl)
      try simp only [Act.put, List.getElem_toArray, List.getElem_cons_zero, List.getElem_cons_succ, List.setIfInBounds_toArray, List.set_cons_zero, List.set_cons_succ]
      refine wpAnyH_done (by kernel_rfl) ?_ _
      go_wp2_with fail
      go_roundw
      case rel => exact ⟨k + 1, hlt, by go_num, hB.drew⟩
      case measure => simp [intOf]; omega
    · obtain rfl : k = P.length := by omega
      have q0 : decide (P.length < P.length) = false := by simp
      go_wp2_with fail
      go_ret
      exact ⟨rfl, hB⟩
end Go.Proofs.Ytdnofpllmhnacaa
