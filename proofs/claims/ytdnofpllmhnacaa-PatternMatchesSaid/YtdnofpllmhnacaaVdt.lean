/- Validate, and the reference's. -/
import Derived.Test.YtdnofpllmhnacaaApp
namespace Go.Proofs.Ytdnofpllmhnacaa
open Go.ChangeShapes Go.WideShapes Go.ChangeAt Go.RowKit Go.Sort
set_option linter.unusedVariables false
set_option linter.unusedSimpArgs false
set_option maxRecDepth 100000

def okM (a : At) : Bool := decide (a.mn = 0) || decide (a.mn = 1)
def valF (P : List At) : Int := if 32 < P.length then 3 else if P.all okM then 0 else 1
theorem val_yes {P : List At} (hn : ¬ 32 < P.length) (h : ∀ j (hj : j < P.length), okM (P[j]'hj) = true) : valF P = 0 := by
  unfold valF
  rw [if_neg hn, if_pos]
  rw [List.all_eq_true]
  intro x hx
  obtain ⟨j, hj, rfl⟩ := List.getElem_of_mem hx
  exact h j hj
theorem val_no {P : List At} (hn : ¬ 32 < P.length) (j : Nat) (hj : j < P.length) (h : okM (P[j]'hj) = false) : valF P = 1 := by
  unfold valF
  rw [if_neg hn, if_neg]
  rw [List.all_eq_true]
  intro hh
  rw [hh _ (List.getElem_mem hj)] at h
  cases h
def VdR (w : World) (P : List At) (i : Value) (wr : World) : Prop :=
  ∃ k : Nat, k ≤ P.length ∧ i = .int .i64 k ∧ Below w.heap.size w wr ∧ ∀ j (hj : j < P.length), j < k → okM (P[j]'hj) = true
theorem ok_next {P : List At} {k : Nat} (hk : k < P.length) (h : ∀ j (hj : j < P.length), j < k → okM (P[j]'hj) = true) (h2 : okM (P[k]'hk) = true) : ∀ j (hj : j < P.length), j < k + 1 → okM (P[j]'hj) = true := fun j hj hjk => by
  by_cases e : j = k
  · subst e; exact h2
  · exact h j hj (by omega)

set_option maxHeartbeats 3200000 in
theorem validate_any (p : Option Addr) (c : Nat) (P : List At) (w : World) (hP : Ats w p P) (hc : P.length ≤ c) (hm : c ≤ maxLen) :
    Calls Try.prog 29 #[.slice p P.length c] w fun e w' => e = .returned (.int .i64 (valF P)) ∧ Below w.heap.size w w' := by
  unfold maxLen at hm
  by_cases hn : 32 < P.length
  · have q0 : decide (32 < P.length) = true := decide_eq_true hn
    have q1 : decide ((32 : Int) < (P.length : Int)) = true := by simp; omega
    rw [show valF P = 3 by unfold valF; rw [if_pos hn]]
    go_enter Try.func29, Try.ntmps29
    go_wp2_with fail
    go_ret
    exact ⟨rfl, Below.refl _ _⟩
  · have q0 : decide (32 < P.length) = false := decide_eq_false hn
    have q1 : decide ((32 : Int) < (P.length : Int)) = false := by simp; omega
    have hyes := fun h => val_yes hn h
    have hno := fun j hj h => val_no hn j hj h
    have hnx := fun k hk h h2 => @ok_next P k hk h h2
    generalize hvf : valF P = vf at *
    have HY := Lib.hid hyes; have HNO := Lib.hid hno; have HNX := Lib.hid hnx; clear hyes hno hnx hvf
    have HP := Lib.hid hP; clear hP
    go_enter Try.func29, Try.ntmps29
    go_wp2_with fail
    go_loopw [10] (fun i wr => VdR w P i wr) (fun i _ => P.length - (intOf i).toNat)
    case atStart => exact ⟨0, Nat.zero_le _, rfl, Below.refl _ _, fun j hj h => absurd h (Nat.not_lt_zero _)⟩
    case round =>
      obtain ⟨k, hk, rfl, hB, hall⟩ := hrel
      by_cases hlt : k < P.length
      · obtain ⟨b, o, rfl, hb, hrow⟩ := HP.out.call hB (by omega)
        have hx := hrow k hlt
        have hnx := HNX.out k hlt hall
        have hno := HNO.out k hlt
        generalize P[k] = x at *
        have hin : (Try.prog.info? 37).map (·.size) = some x.cs.length := by rw [At.cs_length]; exact size37
        obtain ⟨d, hu, hd⟩ := und37
        have y0 := rangeMin (range_new wr x.cs 37)
        rw [Nat.zero_add] at y0
        unfold okM at hnx hno
        obtain ⟨S, m, mny⟩ := x
        dsimp only at y0 hnx hno
        have HH := Lib.hid (And.intro hx (And.intro hu (And.intro hd hin))); clear hx hu hd hin
        by_cases m0 : m = 0
        · subst m0
          have HN := Lib.hid (hnx rfl); clear hnx hno hall hrow
          go_upto_region 6 with (first | (refine wpList_load_mid (by rfl) 37 _ (by rfl) b (o + k * 34) (by rfl) _ _ HH.out.1 HH.out.2.1 HH.out.2.2.1 HH.out.2.2.2 ?_) | (refine wpl_storeAt (by rfl) _ _ (by rfl) wr _ (by rfl) (by rfl) (by rfl) _ (by rfl) ?_))
          go_wp2_with fail
          go_roundw
          case rel => exact ⟨k + 1, hlt, by go_num, blw hB _, HN.out⟩
          case measure => simp [intOf]; omega
        · have r0 : (m != 0) = true := by simpa using m0
          by_cases m1 : m = 1
          · subst m1
            have HN := Lib.hid (hnx rfl); clear hnx hno hall hrow m0
            go_upto_region 6 with (first | (refine wpList_load_mid (by rfl) 37 _ (by rfl) b (o + k * 34) (by rfl) _ _ HH.out.1 HH.out.2.1 HH.out.2.2.1 HH.out.2.2.2 ?_) | (refine wpl_storeAt (by rfl) _ _ (by rfl) wr _ (by rfl) (by rfl) (by rfl) _ (by rfl) ?_))
            go_wp2_with fail
            go_roundw
            case rel => exact ⟨k + 1, hlt, by go_num, blw hB _, HN.out⟩
            case measure => simp [intOf]; omega
          · have r1 : (m != 1) = true := by simpa using m1
            have HN := Lib.hid (hno (by rw [decide_eq_false m0, decide_eq_false m1]; rfl)); clear hnx hno hall hrow m0 m1
            go_upto_region 6 with (first | (refine wpList_load_mid (by rfl) 37 _ (by rfl) b (o + k * 34) (by rfl) _ _ HH.out.1 HH.out.2.1 HH.out.2.2.1 HH.out.2.2.2 ?_) | (refine wpl_storeAt (by rfl) _ _ (by rfl) wr _ (by rfl) (by rfl) (by rfl) _ (by rfl) ?_))
            go_wp2_with fail
            go_ret
            exact ⟨ret_int HN.out.symm, blw hB _⟩
      · obtain rfl : k = P.length := by omega
        have HZ := Lib.hid (HY.out (fun j hj => hall j hj hj)); clear hall
        go_wp2_with fail
        go_ret
        exact ⟨ret_int HZ.out.symm, hB⟩
set_option maxHeartbeats 3200000 in
theorem rvalidate_any (p : Option Addr) (c : Nat) (P : List At) (w : World) (hP : Ats w p P) (hc : P.length ≤ c) (hm : c ≤ maxLen) :
    Calls Try.prog 30 #[.slice p P.length c] w fun e w' => e = .returned (.int .i64 (valF P)) ∧ Below w.heap.size w w' := by
  unfold maxLen at hm
  by_cases hn : 32 < P.length
  · have q0 : decide (32 < P.length) = true := decide_eq_true hn
    have q1 : decide ((32 : Int) < (P.length : Int)) = true := by simp; omega
    rw [show valF P = 3 by unfold valF; rw [if_pos hn]]
    go_enter Try.func30, Try.ntmps30
    go_wp2_with fail
    go_ret
    exact ⟨rfl, Below.refl _ _⟩
  · have q0 : decide (32 < P.length) = false := decide_eq_false hn
    have q1 : decide ((32 : Int) < (P.length : Int)) = false := by simp; omega
    have hyes := fun h => val_yes hn h
    have hno := fun j hj h => val_no hn j hj h
    have hnx := fun k hk h h2 => @ok_next P k hk h h2
    generalize hvf : valF P = vf at *
    have HY := Lib.hid hyes; have HNO := Lib.hid hno; have HNX := Lib.hid hnx; clear hyes hno hnx hvf
    have HP := Lib.hid hP; clear hP
    go_enter Try.func30, Try.ntmps30
    go_wp2_with fail
    go_loopw [9] (fun i wr => VdR w P i wr) (fun i _ => P.length - (intOf i).toNat)
    case atStart => exact ⟨0, Nat.zero_le _, rfl, Below.refl _ _, fun j hj h => absurd h (Nat.not_lt_zero _)⟩
    case round =>
      obtain ⟨k, hk, rfl, hB, hall⟩ := hrel
      by_cases hlt : k < P.length
      · obtain ⟨b, o, rfl, hb, hrow⟩ := HP.out.call hB (by omega)
        have hx := hrow k hlt
        have hnx := HNX.out k hlt hall
        have hno := HNO.out k hlt
        generalize P[k] = x at *
        have hin : (Try.prog.info? 37).map (·.size) = some x.cs.length := by rw [At.cs_length]; exact size37
        obtain ⟨d, hu, hd⟩ := und37
        have y0 := rangeMin hx
        unfold okM at hnx hno
        obtain ⟨S, m, mny⟩ := x
        dsimp only at y0 hnx hno
        have HH := Lib.hid (And.intro hx (And.intro hu (And.intro hd hin))); clear hx hu hd hin
        by_cases m0 : m = 0
        · subst m0
          have HN := Lib.hid (hnx rfl); clear hnx hno hall hrow
          go_wp2_with fail
          go_roundw
          case rel => exact ⟨k + 1, hlt, by go_num, hB, HN.out⟩
          case measure => simp [intOf]; omega
        · have r0 : (m != 0) = true := by simpa using m0
          by_cases m1 : m = 1
          · subst m1
            have HN := Lib.hid (hnx rfl); clear hnx hno hall hrow m0
            go_wp2_with fail
            go_roundw
            case rel => exact ⟨k + 1, hlt, by go_num, hB, HN.out⟩
            case measure => simp [intOf]; omega
          · have r1 : (m != 1) = true := by simpa using m1
            have HN := Lib.hid (hno (by rw [decide_eq_false m0, decide_eq_false m1]; rfl)); clear hnx hno hall hrow m0 m1
            go_wp2_with fail
            go_ret
            exact ⟨ret_int HN.out.symm, hB⟩
      · obtain rfl : k = P.length := by omega
        have HZ := Lib.hid (HY.out (fun j hj => hall j hj hj)); clear hall
        go_wp2_with fail
        go_ret
        exact ⟨ret_int HZ.out.symm, hB⟩

theorem validate_own {base : Nat} {P : List At} {v : Value} {W : World} (h : OwA base P v W) :
    Calls Try.prog 29 #[v] W fun e w' => e = .returned (.int .i64 (valF P)) ∧ Below W.heap.size W w' := by
  obtain ⟨p, c, rfl, hc, hm, ha, _⟩ := h.ats
  exact validate_any p c P W ha hc hm
end Go.Proofs.Ytdnofpllmhnacaa
