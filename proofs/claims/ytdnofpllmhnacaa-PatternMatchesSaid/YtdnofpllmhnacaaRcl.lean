/- The reference's class: the set of a letter. -/
import Derived.Test.YtdnofpllmhnacaaRs2
namespace Go.Proofs.Ytdnofpllmhnacaa
open Go.ChangeShapes Go.WideShapes Go.ChangeAt Go.RowKit Go.Sort
set_option linter.unusedVariables false
set_option linter.unusedSimpArgs false
set_option maxRecDepth 100000

theorem five {Q : Nat → Prop} (h0 : Q 0) (h1 : Q 1) (h2 : Q 2) (h3 : Q 3) (h4 : Q 4) : ∀ k, k < 5 → Q k
  | 0, _ => h0 | 1, _ => h1 | 2, _ => h2 | 3, _ => h3 | 4, _ => h4 | n + 5, h => absurd h (by omega)
theorem cell_kd (W : World) : ∀ k, k < 5 → (W.alloc (.cells #[.int .i64 2, .int .i64 3, .int .i64 4, .int .i64 1, .int .i64 5] 3)).cell? ⟨W.heap.size, k, none⟩ = some (.int .i64 kdV[k]!) := by
  refine five ?_ ?_ ?_ ?_ ?_ <;> (rw [cell_of_row _ _ _ _ _ _ (heap_alloc_new W _)]; rfl)
theorem tbl5 : ∀ j : Fin 5, ((⟨#[115, 100, 108, 99, 109]⟩ : ByteArray)[j.val]'(j.isLt)).toNat = kdB[j.val]! := by decide
def NmEnd (w : World) (o : Option BSet) (e : Ending) (w' : World) : Prop :=
  e = .returned (.tuple #[.agg (setC (o.getD emptyS)).toArray, .bool o.isSome]) ∧ Below w.heap.size w w'
structure KlW (w : World) (wr : World) : Prop where
  a : SAtT 35 w.heap.size emptyS wr
  b : SAtT 35 (w.heap.size + 1) emptyS wr
  bel : Below w.heap.size w wr
  cell : ∀ k, k < 5 → wr.cell? ⟨w.heap.size + 1 + 1, k, none⟩ = some (.int .i64 kdV[k]!)
def KlR (w : World) (low : Nat) (v i : Value) (wr : World) : Prop := ∃ k : Nat, k ≤ 5 ∧ i = .int .i64 k ∧ v = .int .i64 (wantK low k) ∧ KlW w wr
def KsR (w : World) (R B : Nat) (wt : Int) (g : Bool) (i : Value) (wr : World) : Prop :=
  ∃ k : Nat, k ≤ 256 ∧ i = .int .i64 k ∧ SAtT 35 R emptyS wr ∧ SAtT 35 B (ksF wt g k) wr ∧ Below w.heap.size w wr

set_option maxHeartbeats 6400000 in
theorem cl_An (c : Nat) (hc : c < 256) (low : Nat) (hl : lowF c = low) (hA : 65 ≤ c ∧ c ≤ 90) (hT : nmS c = none) (w : World) :
    Calls Try.prog 52 #[.int .u8 c] w (NmEnd w (none)) := by
  have hiff := named_iff ⟨c, hc⟩
  dsimp only at hiff
  rw [hT, hl] at hiff
  have s0 := SAtT.new 35 w
  have s1 : SAtT 35 w.heap.size emptyS ((w.alloc (.cells (List.replicate 32 (Value.int .u8 0)).toArray 35)).alloc (.cells (List.replicate 32 (Value.int .u8 0)).toArray 35)) := (SAtT.new 35 w).call (blw (Below.refl _ _) _)
  have s2 : SAtT 35 (w.heap.size + 1) emptyS ((w.alloc (.cells (List.replicate 32 (Value.int .u8 0)).toArray 35)).alloc (.cells (List.replicate 32 (Value.int .u8 0)).toArray 35)) := by
    have := SAtT.new 35 (w.alloc (.cells (List.replicate 32 (Value.int .u8 0)).toArray 35))
    rwa [show (w.alloc (.cells (List.replicate 32 (Value.int .u8 0)).toArray 35)).heap.size = w.heap.size + 1 by simp] at this
  have s3 := blw (blw (Below.refl w.heap.size w) (.cells (List.replicate 32 (Value.int .u8 0)).toArray 35)) (.cells (List.replicate 32 (Value.int .u8 0)).toArray 35)
  have s4 : ((w.alloc (.cells (List.replicate 32 (Value.int .u8 0)).toArray 35)).alloc (.cells (List.replicate 32 (Value.int .u8 0)).toArray 35)).heap.size = w.heap.size + 1 + 1 := by simp
  obtain ⟨h65, h90⟩ := hA
  have hlo : low = c + 32 := by rw [← hl]; unfold lowF; rw [if_pos ⟨h65, h90⟩]
  have hcl : decide (c = low) = false := decide_eq_false (by omega)
  have q1 : decide ((65 : Int) ≤ (c : Int)) = true := by simp; omega
  have q2 : decide ((c : Int) ≤ 90) = true := by simp; omega
  have e1 : (c : Int) + 32 = (low : Int) := by omega
  have hlow : low < 256 := by omega
  have v1 := wrap8 low hlow
  have qc : ((c : Int) == (low : Int)) = false := by simp; omega
  clear hlo
  clear hcl hT hl
  have HS := Lib.hid (And.intro s1 (And.intro s2 s3))
  have HIFF := Lib.hid hiff
  clear s0 s1 s2 s3 hiff
  go_enter Try.func52, Try.ntmps52
  go_upto_region 2 with fail
  have hkd := cell_kd ((w.alloc (.cells (List.replicate 32 (Value.int .u8 0)).toArray 35)).alloc (.cells (List.replicate 32 (Value.int .u8 0)).toArray 35))
  rw [s4] at hkd
  have HW := Lib.hid (show KlW w _ from ⟨HS.out.1.call (blw (Below.refl _ _) (.cells #[.int .i64 2, .int .i64 3, .int .i64 4, .int .i64 1, .int .i64 5] 3)), HS.out.2.1.call (blw (Below.refl _ _) (.cells #[.int .i64 2, .int .i64 3, .int .i64 4, .int .i64 1, .int .i64 5] 3)), blw (HS.out.2.2) (.cells #[.int .i64 2, .int .i64 3, .int .i64 4, .int .i64 1, .int .i64 5] 3), hkd⟩)
  clear hkd HS s4
  go_wp2_with fail
  go_loopw [7, 23] (fun v i wr => KlR w low v i wr) (fun _ i _ => 5 - (intOf i).toNat)
  case atStart => exact ⟨0, Nat.zero_le _, rfl, rfl, HW.out⟩
  case round =>
    clear HW
    obtain ⟨k, hk, rfl, rfl, hKW⟩ := hrel
    have HKW := Lib.hid hKW; clear hKW
    by_cases hlt : k < 5
    · have qk : decide ((k : Int) < 5) = true := by simp; omega
      have y0 : (0 : Int) ≤ (k : Int) := by omega
      have hkd := HKW.out.cell k hlt
      have ht := tbl5 ⟨k, hlt⟩
      have hnx : wantK low (k + 1) = if kdB[k]! = low then kdV[k]! else wantK low k := rfl
      dsimp only at ht
      generalize kdB[k]! = b at *
      generalize kdV[k]! = v at *
      by_cases hb : b = low
      · rw [if_pos hb] at hnx
        have qb : ((b : Int) == (low : Int)) = true := by rw [hb]; simp
        have HNX := Lib.hid hnx; clear hnx hb
        go_wp2_with fail
        go_roundw
        case rel => exact ⟨k + 1, hlt, by go_num, by rw [HNX.out], HKW.out⟩
        case measure => simp [intOf]; omega
      · rw [if_neg hb] at hnx
        have qb : ((b : Int) == (low : Int)) = false := by simp; omega
        have HNX := Lib.hid hnx; clear hnx hb
        go_wp2_with fail
        go_roundw
        case rel => exact ⟨k + 1, hlt, by go_num, by rw [HNX.out], HKW.out⟩
        case measure => simp [intOf]; omega
    · obtain rfl : k = 5 := by omega
      rw [show (((5 : Nat)) : Int) = 5 from rfl]
      generalize wantK low 5 = wt at *
      obtain ⟨r0, r1, HB3v, _⟩ := HKW.out
      have HB3 := Lib.hid HB3v; clear HB3v HKW
      have hz := HIFF.out
      have hw0 : wt = 0 := by
        by_cases h : wt = 0
        · exact h
        · rw [decide_eq_false h] at hz; simp at hz
      have hl117 : low ≠ 117 := fun h => by rw [hw0, h] at hz; simp at hz
      subst hw0
      have q5 : ((low : Int) != 117) = true := by simp; omega
      have HR := Lib.hid (And.intro r0 r1); clear r0 r1 hz hl117
      go_upto_region 14 with fail
      go_wp2_with (first | (refine wpl_loadSet (by rfl) 35 (Or.inr rfl) _ (by rfl) (w.heap.size + 1) emptyS (by rfl) HR.out.2 ?_) | (refine wpl_storeSet (by rfl) 35 (Or.inr rfl) _ _ (by rfl) w.heap.size emptyS emptyS (by rfl) (by rfl) HR.out.1 ?_; intro w5 h5 g5))
      have hld := SAtT.read (Or.inr rfl) h5
      have hB := HB3.out.grown g5 HB3.out.size (fun j hj => by cases hj; omega)
      (try simp only [Exit.inBlock, Exit.then])
      refine bodyPost_ret (v := .tuple #[.agg (setC emptyS).toArray, .bool false]) (by simp [results, Try.results52, asAddr, Result.andThen, hld, Act.put]) rfl ⟨rfl, hB⟩
set_option maxHeartbeats 6400000 in
theorem cl_As (c : Nat) (hc : c < 256) (low : Nat) (hl : lowF c = low) (hA : 65 ≤ c ∧ c ≤ 90) (T : BSet) (hT : nmS c = some T) (w : World) :
    Calls Try.prog 52 #[.int .u8 c] w (NmEnd w (some T)) := by
  have hiff := named_iff ⟨c, hc⟩
  dsimp only at hiff
  rw [hT, hl] at hiff
  have hset := named_set c T hT
  rw [hl] at hset
  have s0 := SAtT.new 35 w
  have s1 : SAtT 35 w.heap.size emptyS ((w.alloc (.cells (List.replicate 32 (Value.int .u8 0)).toArray 35)).alloc (.cells (List.replicate 32 (Value.int .u8 0)).toArray 35)) := (SAtT.new 35 w).call (blw (Below.refl _ _) _)
  have s2 : SAtT 35 (w.heap.size + 1) emptyS ((w.alloc (.cells (List.replicate 32 (Value.int .u8 0)).toArray 35)).alloc (.cells (List.replicate 32 (Value.int .u8 0)).toArray 35)) := by
    have := SAtT.new 35 (w.alloc (.cells (List.replicate 32 (Value.int .u8 0)).toArray 35))
    rwa [show (w.alloc (.cells (List.replicate 32 (Value.int .u8 0)).toArray 35)).heap.size = w.heap.size + 1 by simp] at this
  have s3 := blw (blw (Below.refl w.heap.size w) (.cells (List.replicate 32 (Value.int .u8 0)).toArray 35)) (.cells (List.replicate 32 (Value.int .u8 0)).toArray 35)
  have s4 : ((w.alloc (.cells (List.replicate 32 (Value.int .u8 0)).toArray 35)).alloc (.cells (List.replicate 32 (Value.int .u8 0)).toArray 35)).heap.size = w.heap.size + 1 + 1 := by simp
  obtain ⟨h65, h90⟩ := hA
  have hlo : low = c + 32 := by rw [← hl]; unfold lowF; rw [if_pos ⟨h65, h90⟩]
  have hcl : decide (c = low) = false := decide_eq_false (by omega)
  have q1 : decide ((65 : Int) ≤ (c : Int)) = true := by simp; omega
  have q2 : decide ((c : Int) ≤ 90) = true := by simp; omega
  have e1 : (c : Int) + 32 = (low : Int) := by omega
  have hlow : low < 256 := by omega
  have v1 := wrap8 low hlow
  have qc : ((c : Int) == (low : Int)) = false := by simp; omega
  clear hlo
  rw [hcl] at hset
  clear hcl hT hl
  have HS := Lib.hid (And.intro s1 (And.intro s2 s3))
  have HIFF := Lib.hid hiff; have HSET := Lib.hid hset; clear hset
  clear s0 s1 s2 s3 hiff
  go_enter Try.func52, Try.ntmps52
  go_upto_region 2 with fail
  have hkd := cell_kd ((w.alloc (.cells (List.replicate 32 (Value.int .u8 0)).toArray 35)).alloc (.cells (List.replicate 32 (Value.int .u8 0)).toArray 35))
  rw [s4] at hkd
  have HW := Lib.hid (show KlW w _ from ⟨HS.out.1.call (blw (Below.refl _ _) (.cells #[.int .i64 2, .int .i64 3, .int .i64 4, .int .i64 1, .int .i64 5] 3)), HS.out.2.1.call (blw (Below.refl _ _) (.cells #[.int .i64 2, .int .i64 3, .int .i64 4, .int .i64 1, .int .i64 5] 3)), blw (HS.out.2.2) (.cells #[.int .i64 2, .int .i64 3, .int .i64 4, .int .i64 1, .int .i64 5] 3), hkd⟩)
  clear hkd HS s4
  go_wp2_with fail
  go_loopw [7, 23] (fun v i wr => KlR w low v i wr) (fun _ i _ => 5 - (intOf i).toNat)
  case atStart => exact ⟨0, Nat.zero_le _, rfl, rfl, HW.out⟩
  case round =>
    clear HW
    obtain ⟨k, hk, rfl, rfl, hKW⟩ := hrel
    have HKW := Lib.hid hKW; clear hKW
    by_cases hlt : k < 5
    · have qk : decide ((k : Int) < 5) = true := by simp; omega
      have y0 : (0 : Int) ≤ (k : Int) := by omega
      have hkd := HKW.out.cell k hlt
      have ht := tbl5 ⟨k, hlt⟩
      have hnx : wantK low (k + 1) = if kdB[k]! = low then kdV[k]! else wantK low k := rfl
      dsimp only at ht
      generalize kdB[k]! = b at *
      generalize kdV[k]! = v at *
      by_cases hb : b = low
      · rw [if_pos hb] at hnx
        have qb : ((b : Int) == (low : Int)) = true := by rw [hb]; simp
        have HNX := Lib.hid hnx; clear hnx hb
        go_wp2_with fail
        go_roundw
        case rel => exact ⟨k + 1, hlt, by go_num, by rw [HNX.out], HKW.out⟩
        case measure => simp [intOf]; omega
      · rw [if_neg hb] at hnx
        have qb : ((b : Int) == (low : Int)) = false := by simp; omega
        have HNX := Lib.hid hnx; clear hnx hb
        go_wp2_with fail
        go_roundw
        case rel => exact ⟨k + 1, hlt, by go_num, by rw [HNX.out], HKW.out⟩
        case measure => simp [intOf]; omega
    · obtain rfl : k = 5 := by omega
      rw [show (((5 : Nat)) : Int) = 5 from rfl]
      generalize wantK low 5 = wt at *
      obtain ⟨r0, r1, HB3v, _⟩ := HKW.out
      have HB3 := Lib.hid HB3v; clear HB3v HKW
      have hz := HIFF.out
      have hq : ((wt == 0) = false ∧ (wt != 0) = true) ∨ (wt = 0 ∧ ((low : Int) != 117) = false) := by
        by_cases h : wt = 0
        · right
          refine ⟨h, ?_⟩
          rw [decide_eq_true h] at hz; simp at hz; simp; omega
        · left; exact ⟨by simpa using h, by simpa using h⟩
      have HR := Lib.hid (And.intro r0 (And.intro r1 HB3.out)); clear r0 r1 hz
      rcases hq with ⟨q4, q5⟩ | ⟨rfl, q5⟩
      · go_wp2_with fail
        go_loopw [10] (fun i wr => KsR w w.heap.size (w.heap.size + 1) wt false i wr) (fun i _ => 256 - (intOf i).toNat)
        case atStart => exact ⟨0, Nat.zero_le _, rfl, HR.out.1, by rw [ks_zero]; exact HR.out.2.1, HR.out.2.2⟩
        case round =>
          clear HR HB3
          obtain ⟨k, hk, rfl, h0, h1, hB⟩ := hrel
          by_cases hlt : k < 256
          · have qk : decide ((k : Int) < 256) = true := by simp; omega
            have v2 := wrap8 k hlt
            have hput := fun W h => put_any (w.heap.size + 1) (ksF wt false k) k hlt W h
            have hy := @ks_yes wt false k
            have hn := @ks_no wt false k
            have hin : inF wt k = decide (cls k = wt) := by unfold inF; rw [if_neg (by simpa using q4)]
            rw [hin] at hy hn
            have hcl := fun W => rof_any (k : Int) W (by omega) (by omega)
            generalize cls (k : Int) = cc at *
            have HH := Lib.hid (And.intro h0 (And.intro h1 hB)); have HCL := Lib.hid hcl; clear h0 h1 hB hin hcl
            by_cases hcc : cc = wt
            · rw [decide_eq_true hcc] at hy hn
              have u1 : (cc == wt) = true := by rw [hcc]; simp
              clear hcc
              have HN := Lib.hid (hn (by decide)); clear hy hn hput
              go_wp2_with fail
              refine (HCL.out _).mono ?_; rintro e w9 ⟨rfl, rfl⟩
              go_wp2_with fail
              go_roundw
              case rel => exact ⟨k + 1, hlt, by go_num, HH.out.1, by rw [← HN.out]; exact HH.out.2.1, HH.out.2.2⟩
              case measure => simp [intOf]; omega
            · rw [decide_eq_false hcc] at hy hn
              have u1 : (cc == wt) = false := by simpa using hcc
              clear hcc
              have HY := Lib.hid (hy rfl); have HPUT := Lib.hid hput; clear hy hn hput
              go_wp2_with fail
              refine (HCL.out _).mono ?_; rintro e w9 ⟨rfl, rfl⟩
              go_wp2_with fail
              refine (HPUT.out _ HH.out.2.1).mono ?_; rintro e w5 ⟨rfl, g5, h5⟩
              rw [HY.out] at h5
              have HP := Lib.hid (And.intro (HH.out.1.keep g5 (by intro e; injection e with e; omega)) (And.intro h5 (HH.out.2.2.grown g5 HH.out.2.2.size (fun j hj => by cases hj; omega)))); clear g5 h5
              go_wp2_with fail
              go_roundw
              case rel => exact ⟨k + 1, hlt, by go_num, HP.out.1, HP.out.2.1, HP.out.2.2⟩
              case measure => simp [intOf]; omega
          · obtain rfl : k = 256 := by omega
            have qk : decide (((256 : Nat) : Int) < 256) = false := by decide
            have hse := HSET.out
            generalize ksF wt false 256 = S at *
            have HH := Lib.hid (And.intro h0 (And.intro h1 hB)); clear h0 h1 hB
            have HSE := Lib.hid hse; clear hse
            go_upto_region 21 with fail
            go_wp2_with (first | (refine wpl_loadSet (by rfl) 35 (Or.inr rfl) _ (by rfl) (w.heap.size + 1) S (by rfl) HH.out.2.1 ?_) | (refine wpl_storeSet (by rfl) 35 (Or.inr rfl) _ _ (by rfl) w.heap.size emptyS S (by rfl) (by rfl) HH.out.1 ?_; intro w5 h5 g5))
            have hld := SAtT.read (Or.inr rfl) h5
            have hB := HH.out.2.2.grown g5 HH.out.2.2.size (fun j hj => by cases hj; omega)
            (try simp only [Exit.inBlock, Exit.then])
            refine bodyPost_ret (v := .tuple #[.agg (setC S).toArray, .bool true]) (by simp [results, Try.results52, asAddr, Result.andThen, hld, Act.put]) rfl ⟨ret_of (by rw [HSE.out]; rfl), hB⟩
      · go_wp2_with fail
        go_loopw [10] (fun i wr => KsR w w.heap.size (w.heap.size + 1) 0 false i wr) (fun i _ => 256 - (intOf i).toNat)
        case atStart => exact ⟨0, Nat.zero_le _, rfl, HR.out.1, by rw [ks_zero]; exact HR.out.2.1, HR.out.2.2⟩
        case round =>
          clear HR HB3
          obtain ⟨k, hk, rfl, h0, h1, hB⟩ := hrel
          by_cases hlt : k < 256
          · have qk : decide ((k : Int) < 256) = true := by simp; omega
            have v2 := wrap8 k hlt
            have hput := fun W h => put_any (w.heap.size + 1) (ksF 0 false k) k hlt W h
            have hy := @ks_yes 0 false k
            have hn := @ks_no 0 false k
            have hin : inF 0 k = (decide (65 ≤ k) && decide (k ≤ 90)) := by unfold inF; rw [if_pos rfl]
            rw [hin] at hy hn
            have HH := Lib.hid (And.intro h0 (And.intro h1 hB)); clear h0 h1 hB hin
            by_cases h65 : 65 ≤ k
            · have u1 : decide ((65 : Int) ≤ (k : Int)) = true := by simp; omega
              rw [decide_eq_true h65] at hy hn
              by_cases h90 : k ≤ 90
              · have u2 : decide ((k : Int) ≤ 90) = true := by simp; omega
                rw [decide_eq_true h90] at hy hn
                have HN := Lib.hid (hn (by decide)); clear hy hn hput
                go_wp2_with fail
                go_roundw
                case rel => exact ⟨k + 1, hlt, by go_num, HH.out.1, by rw [← HN.out]; exact HH.out.2.1, HH.out.2.2⟩
                case measure => simp [intOf]; omega
              · have u2 : decide ((k : Int) ≤ 90) = false := by simp; omega
                rw [decide_eq_false h90] at hy hn
                have HY := Lib.hid (hy rfl); have HPUT := Lib.hid hput; clear hy hn hput
                go_wp2_with fail
                refine (HPUT.out _ HH.out.2.1).mono ?_; rintro e w5 ⟨rfl, g5, h5⟩
                rw [HY.out] at h5
                have HP := Lib.hid (And.intro (HH.out.1.keep g5 (by intro e; injection e with e; omega)) (And.intro h5 (HH.out.2.2.grown g5 HH.out.2.2.size (fun j hj => by cases hj; omega)))); clear g5 h5
                go_wp2_with fail
                go_roundw
                case rel => exact ⟨k + 1, hlt, by go_num, HP.out.1, HP.out.2.1, HP.out.2.2⟩
                case measure => simp [intOf]; omega
            · have u1 : decide ((65 : Int) ≤ (k : Int)) = false := by simp; omega
              rw [decide_eq_false h65, Bool.false_and] at hy hn
              have HY := Lib.hid (hy rfl); have HPUT := Lib.hid hput; clear hy hn hput
              go_wp2_with fail
              refine (HPUT.out _ HH.out.2.1).mono ?_; rintro e w5 ⟨rfl, g5, h5⟩
              rw [HY.out] at h5
              have HP := Lib.hid (And.intro (HH.out.1.keep g5 (by intro e; injection e with e; omega)) (And.intro h5 (HH.out.2.2.grown g5 HH.out.2.2.size (fun j hj => by cases hj; omega)))); clear g5 h5
              go_wp2_with fail
              go_roundw
              case rel => exact ⟨k + 1, hlt, by go_num, HP.out.1, HP.out.2.1, HP.out.2.2⟩
              case measure => simp [intOf]; omega
          · obtain rfl : k = 256 := by omega
            have qk : decide (((256 : Nat) : Int) < 256) = false := by decide
            have hse := HSET.out
            generalize ksF 0 false 256 = S at *
            have HH := Lib.hid (And.intro h0 (And.intro h1 hB)); clear h0 h1 hB
            have HSE := Lib.hid hse; clear hse
            go_upto_region 21 with fail
            go_wp2_with (first | (refine wpl_loadSet (by rfl) 35 (Or.inr rfl) _ (by rfl) (w.heap.size + 1) S (by rfl) HH.out.2.1 ?_) | (refine wpl_storeSet (by rfl) 35 (Or.inr rfl) _ _ (by rfl) w.heap.size emptyS S (by rfl) (by rfl) HH.out.1 ?_; intro w5 h5 g5))
            have hld := SAtT.read (Or.inr rfl) h5
            have hB := HH.out.2.2.grown g5 HH.out.2.2.size (fun j hj => by cases hj; omega)
            (try simp only [Exit.inBlock, Exit.then])
            refine bodyPost_ret (v := .tuple #[.agg (setC S).toArray, .bool true]) (by simp [results, Try.results52, asAddr, Result.andThen, hld, Act.put]) rfl ⟨ret_of (by rw [HSE.out]; rfl), hB⟩
set_option maxHeartbeats 6400000 in
theorem cl_Bn (c : Nat) (hc : c < 256) (hl : lowF c = c) (hA : ¬ (65 ≤ c ∧ c ≤ 90)) (hT : nmS c = none) (w : World) :
    Calls Try.prog 52 #[.int .u8 c] w (NmEnd w (none)) := by
  have hiff := named_iff ⟨c, hc⟩
  dsimp only at hiff
  rw [hT, hl] at hiff
  have s0 := SAtT.new 35 w
  have s1 : SAtT 35 w.heap.size emptyS ((w.alloc (.cells (List.replicate 32 (Value.int .u8 0)).toArray 35)).alloc (.cells (List.replicate 32 (Value.int .u8 0)).toArray 35)) := (SAtT.new 35 w).call (blw (Below.refl _ _) _)
  have s2 : SAtT 35 (w.heap.size + 1) emptyS ((w.alloc (.cells (List.replicate 32 (Value.int .u8 0)).toArray 35)).alloc (.cells (List.replicate 32 (Value.int .u8 0)).toArray 35)) := by
    have := SAtT.new 35 (w.alloc (.cells (List.replicate 32 (Value.int .u8 0)).toArray 35))
    rwa [show (w.alloc (.cells (List.replicate 32 (Value.int .u8 0)).toArray 35)).heap.size = w.heap.size + 1 by simp] at this
  have s3 := blw (blw (Below.refl w.heap.size w) (.cells (List.replicate 32 (Value.int .u8 0)).toArray 35)) (.cells (List.replicate 32 (Value.int .u8 0)).toArray 35)
  have s4 : ((w.alloc (.cells (List.replicate 32 (Value.int .u8 0)).toArray 35)).alloc (.cells (List.replicate 32 (Value.int .u8 0)).toArray 35)).heap.size = w.heap.size + 1 + 1 := by simp
  have hcl : decide (c = c) = true := by simp
  have hlow := hc
  have qq : decide ((65 : Int) ≤ (c : Int)) = false ∨ (decide ((65 : Int) ≤ (c : Int)) = true ∧ decide ((c : Int) ≤ 90) = false) := by
    by_cases h : 65 ≤ c
    · right; exact ⟨by simp; omega, by simp; omega⟩
    · left; simp; omega
  clear hcl hT hl
  have HS := Lib.hid (And.intro s1 (And.intro s2 s3))
  have HIFF := Lib.hid hiff
  clear s0 s1 s2 s3 hiff
  go_enter Try.func52, Try.ntmps52
  go_upto_region 2 with fail
  have hkd := cell_kd ((w.alloc (.cells (List.replicate 32 (Value.int .u8 0)).toArray 35)).alloc (.cells (List.replicate 32 (Value.int .u8 0)).toArray 35))
  rw [s4] at hkd
  have HW := Lib.hid (show KlW w _ from ⟨HS.out.1.call (blw (Below.refl _ _) (.cells #[.int .i64 2, .int .i64 3, .int .i64 4, .int .i64 1, .int .i64 5] 3)), HS.out.2.1.call (blw (Below.refl _ _) (.cells #[.int .i64 2, .int .i64 3, .int .i64 4, .int .i64 1, .int .i64 5] 3)), blw (HS.out.2.2) (.cells #[.int .i64 2, .int .i64 3, .int .i64 4, .int .i64 1, .int .i64 5] 3), hkd⟩)
  clear hkd HS s4
  rcases qq with q1 | ⟨q1, q2⟩
  all_goals
    go_wp2_with fail
    go_loopw [7, 23] (fun v i wr => KlR w c v i wr) (fun _ i _ => 5 - (intOf i).toNat)
    case atStart => exact ⟨0, Nat.zero_le _, rfl, rfl, HW.out⟩
    case round =>
      clear HW
      obtain ⟨k, hk, rfl, rfl, hKW⟩ := hrel
      have HKW := Lib.hid hKW; clear hKW
      by_cases hlt : k < 5
      · have qk : decide ((k : Int) < 5) = true := by simp; omega
        have y0 : (0 : Int) ≤ (k : Int) := by omega
        have hkd := HKW.out.cell k hlt
        have ht := tbl5 ⟨k, hlt⟩
        have hnx : wantK c (k + 1) = if kdB[k]! = c then kdV[k]! else wantK c k := rfl
        dsimp only at ht
        generalize kdB[k]! = b at *
        generalize kdV[k]! = v at *
        by_cases hb : b = c
        · rw [if_pos hb] at hnx
          have qb : ((b : Int) == (c : Int)) = true := by rw [hb]; simp
          have HNX := Lib.hid hnx; clear hnx hb
          go_wp2_with fail
          go_roundw
          case rel => exact ⟨k + 1, hlt, by go_num, by rw [HNX.out], HKW.out⟩
          case measure => simp [intOf]; omega
        · rw [if_neg hb] at hnx
          have qb : ((b : Int) == (c : Int)) = false := by simp; omega
          have HNX := Lib.hid hnx; clear hnx hb
          go_wp2_with fail
          go_roundw
          case rel => exact ⟨k + 1, hlt, by go_num, by rw [HNX.out], HKW.out⟩
          case measure => simp [intOf]; omega
      · obtain rfl : k = 5 := by omega
        rw [show (((5 : Nat)) : Int) = 5 from rfl]
        generalize wantK c 5 = wt at *
        obtain ⟨r0, r1, HB3v, _⟩ := HKW.out
        have HB3 := Lib.hid HB3v; clear HB3v HKW
        have hz := HIFF.out
        have hw0 : wt = 0 := by
          by_cases h : wt = 0
          · exact h
          · rw [decide_eq_false h] at hz; simp at hz
        have hl117 : c ≠ 117 := fun h => by rw [hw0, h] at hz; simp at hz
        subst hw0
        have q5 : ((c : Int) != 117) = true := by simp; omega
        have HR := Lib.hid (And.intro r0 r1); clear r0 r1 hz hl117
        go_upto_region 14 with fail
        go_wp2_with (first | (refine wpl_loadSet (by rfl) 35 (Or.inr rfl) _ (by rfl) (w.heap.size + 1) emptyS (by rfl) HR.out.2 ?_) | (refine wpl_storeSet (by rfl) 35 (Or.inr rfl) _ _ (by rfl) w.heap.size emptyS emptyS (by rfl) (by rfl) HR.out.1 ?_; intro w5 h5 g5))
        have hld := SAtT.read (Or.inr rfl) h5
        have hB := HB3.out.grown g5 HB3.out.size (fun j hj => by cases hj; omega)
        (try simp only [Exit.inBlock, Exit.then])
        refine bodyPost_ret (v := .tuple #[.agg (setC emptyS).toArray, .bool false]) (by simp [results, Try.results52, asAddr, Result.andThen, hld, Act.put]) rfl ⟨rfl, hB⟩
set_option maxHeartbeats 6400000 in
theorem cl_Bs (c : Nat) (hc : c < 256) (hl : lowF c = c) (hA : ¬ (65 ≤ c ∧ c ≤ 90)) (T : BSet) (hT : nmS c = some T) (w : World) :
    Calls Try.prog 52 #[.int .u8 c] w (NmEnd w (some T)) := by
  have hiff := named_iff ⟨c, hc⟩
  dsimp only at hiff
  rw [hT, hl] at hiff
  have hset := named_set c T hT
  rw [hl] at hset
  have s0 := SAtT.new 35 w
  have s1 : SAtT 35 w.heap.size emptyS ((w.alloc (.cells (List.replicate 32 (Value.int .u8 0)).toArray 35)).alloc (.cells (List.replicate 32 (Value.int .u8 0)).toArray 35)) := (SAtT.new 35 w).call (blw (Below.refl _ _) _)
  have s2 : SAtT 35 (w.heap.size + 1) emptyS ((w.alloc (.cells (List.replicate 32 (Value.int .u8 0)).toArray 35)).alloc (.cells (List.replicate 32 (Value.int .u8 0)).toArray 35)) := by
    have := SAtT.new 35 (w.alloc (.cells (List.replicate 32 (Value.int .u8 0)).toArray 35))
    rwa [show (w.alloc (.cells (List.replicate 32 (Value.int .u8 0)).toArray 35)).heap.size = w.heap.size + 1 by simp] at this
  have s3 := blw (blw (Below.refl w.heap.size w) (.cells (List.replicate 32 (Value.int .u8 0)).toArray 35)) (.cells (List.replicate 32 (Value.int .u8 0)).toArray 35)
  have s4 : ((w.alloc (.cells (List.replicate 32 (Value.int .u8 0)).toArray 35)).alloc (.cells (List.replicate 32 (Value.int .u8 0)).toArray 35)).heap.size = w.heap.size + 1 + 1 := by simp
  have hcl : decide (c = c) = true := by simp
  have hlow := hc
  have qq : decide ((65 : Int) ≤ (c : Int)) = false ∨ (decide ((65 : Int) ≤ (c : Int)) = true ∧ decide ((c : Int) ≤ 90) = false) := by
    by_cases h : 65 ≤ c
    · right; exact ⟨by simp; omega, by simp; omega⟩
    · left; simp; omega
  rw [hcl] at hset
  clear hcl hT hl
  have HS := Lib.hid (And.intro s1 (And.intro s2 s3))
  have HIFF := Lib.hid hiff; have HSET := Lib.hid hset; clear hset
  clear s0 s1 s2 s3 hiff
  go_enter Try.func52, Try.ntmps52
  go_upto_region 2 with fail
  have hkd := cell_kd ((w.alloc (.cells (List.replicate 32 (Value.int .u8 0)).toArray 35)).alloc (.cells (List.replicate 32 (Value.int .u8 0)).toArray 35))
  rw [s4] at hkd
  have HW := Lib.hid (show KlW w _ from ⟨HS.out.1.call (blw (Below.refl _ _) (.cells #[.int .i64 2, .int .i64 3, .int .i64 4, .int .i64 1, .int .i64 5] 3)), HS.out.2.1.call (blw (Below.refl _ _) (.cells #[.int .i64 2, .int .i64 3, .int .i64 4, .int .i64 1, .int .i64 5] 3)), blw (HS.out.2.2) (.cells #[.int .i64 2, .int .i64 3, .int .i64 4, .int .i64 1, .int .i64 5] 3), hkd⟩)
  clear hkd HS s4
  rcases qq with q1 | ⟨q1, q2⟩
  all_goals
    go_wp2_with fail
    go_loopw [7, 23] (fun v i wr => KlR w c v i wr) (fun _ i _ => 5 - (intOf i).toNat)
    case atStart => exact ⟨0, Nat.zero_le _, rfl, rfl, HW.out⟩
    case round =>
      clear HW
      obtain ⟨k, hk, rfl, rfl, hKW⟩ := hrel
      have HKW := Lib.hid hKW; clear hKW
      by_cases hlt : k < 5
      · have qk : decide ((k : Int) < 5) = true := by simp; omega
        have y0 : (0 : Int) ≤ (k : Int) := by omega
        have hkd := HKW.out.cell k hlt
        have ht := tbl5 ⟨k, hlt⟩
        have hnx : wantK c (k + 1) = if kdB[k]! = c then kdV[k]! else wantK c k := rfl
        dsimp only at ht
        generalize kdB[k]! = b at *
        generalize kdV[k]! = v at *
        by_cases hb : b = c
        · rw [if_pos hb] at hnx
          have qb : ((b : Int) == (c : Int)) = true := by rw [hb]; simp
          have HNX := Lib.hid hnx; clear hnx hb
          go_wp2_with fail
          go_roundw
          case rel => exact ⟨k + 1, hlt, by go_num, by rw [HNX.out], HKW.out⟩
          case measure => simp [intOf]; omega
        · rw [if_neg hb] at hnx
          have qb : ((b : Int) == (c : Int)) = false := by simp; omega
          have HNX := Lib.hid hnx; clear hnx hb
          go_wp2_with fail
          go_roundw
          case rel => exact ⟨k + 1, hlt, by go_num, by rw [HNX.out], HKW.out⟩
          case measure => simp [intOf]; omega
      · obtain rfl : k = 5 := by omega
        rw [show (((5 : Nat)) : Int) = 5 from rfl]
        generalize wantK c 5 = wt at *
        obtain ⟨r0, r1, HB3v, _⟩ := HKW.out
        have HB3 := Lib.hid HB3v; clear HB3v HKW
        have hz := HIFF.out
        have hq : ((wt == 0) = false ∧ (wt != 0) = true) ∨ (wt = 0 ∧ ((c : Int) != 117) = false) := by
          by_cases h : wt = 0
          · right
            refine ⟨h, ?_⟩
            rw [decide_eq_true h] at hz; simp at hz; simp; omega
          · left; exact ⟨by simpa using h, by simpa using h⟩
        have HR := Lib.hid (And.intro r0 (And.intro r1 HB3.out)); clear r0 r1 hz
        rcases hq with ⟨q4, q5⟩ | ⟨rfl, q5⟩
        · go_wp2_with fail
          go_loopw [10] (fun i wr => KsR w w.heap.size (w.heap.size + 1) wt true i wr) (fun i _ => 256 - (intOf i).toNat)
          case atStart => exact ⟨0, Nat.zero_le _, rfl, HR.out.1, by rw [ks_zero]; exact HR.out.2.1, HR.out.2.2⟩
          case round =>
            clear HR HB3
            obtain ⟨k, hk, rfl, h0, h1, hB⟩ := hrel
            by_cases hlt : k < 256
            · have qk : decide ((k : Int) < 256) = true := by simp; omega
              have v2 := wrap8 k hlt
              have hput := fun W h => put_any (w.heap.size + 1) (ksF wt true k) k hlt W h
              have hy := @ks_yes wt true k
              have hn := @ks_no wt true k
              have hin : inF wt k = decide (cls k = wt) := by unfold inF; rw [if_neg (by simpa using q4)]
              rw [hin] at hy hn
              have hcl := fun W => rof_any (k : Int) W (by omega) (by omega)
              generalize cls (k : Int) = cc at *
              have HH := Lib.hid (And.intro h0 (And.intro h1 hB)); have HCL := Lib.hid hcl; clear h0 h1 hB hin hcl
              by_cases hcc : cc = wt
              · rw [decide_eq_true hcc] at hy hn
                have u1 : (cc == wt) = true := by rw [hcc]; simp
                clear hcc
                have HY := Lib.hid (hy rfl); have HPUT := Lib.hid hput; clear hy hn hput
                go_wp2_with fail
                refine (HCL.out _).mono ?_; rintro e w9 ⟨rfl, rfl⟩
                go_wp2_with fail
                refine (HPUT.out _ HH.out.2.1).mono ?_; rintro e w5 ⟨rfl, g5, h5⟩
                rw [HY.out] at h5
                have HP := Lib.hid (And.intro (HH.out.1.keep g5 (by intro e; injection e with e; omega)) (And.intro h5 (HH.out.2.2.grown g5 HH.out.2.2.size (fun j hj => by cases hj; omega)))); clear g5 h5
                go_wp2_with fail
                go_roundw
                case rel => exact ⟨k + 1, hlt, by go_num, HP.out.1, HP.out.2.1, HP.out.2.2⟩
                case measure => simp [intOf]; omega
              · rw [decide_eq_false hcc] at hy hn
                have u1 : (cc == wt) = false := by simpa using hcc
                clear hcc
                have HN := Lib.hid (hn (by decide)); clear hy hn hput
                go_wp2_with fail
                refine (HCL.out _).mono ?_; rintro e w9 ⟨rfl, rfl⟩
                go_wp2_with fail
                go_roundw
                case rel => exact ⟨k + 1, hlt, by go_num, HH.out.1, by rw [← HN.out]; exact HH.out.2.1, HH.out.2.2⟩
                case measure => simp [intOf]; omega
            · obtain rfl : k = 256 := by omega
              have qk : decide (((256 : Nat) : Int) < 256) = false := by decide
              have hse := HSET.out
              generalize ksF wt true 256 = S at *
              have HH := Lib.hid (And.intro h0 (And.intro h1 hB)); clear h0 h1 hB
              have HSE := Lib.hid hse; clear hse
              go_upto_region 21 with fail
              go_wp2_with (first | (refine wpl_loadSet (by rfl) 35 (Or.inr rfl) _ (by rfl) (w.heap.size + 1) S (by rfl) HH.out.2.1 ?_) | (refine wpl_storeSet (by rfl) 35 (Or.inr rfl) _ _ (by rfl) w.heap.size emptyS S (by rfl) (by rfl) HH.out.1 ?_; intro w5 h5 g5))
              have hld := SAtT.read (Or.inr rfl) h5
              have hB := HH.out.2.2.grown g5 HH.out.2.2.size (fun j hj => by cases hj; omega)
              (try simp only [Exit.inBlock, Exit.then])
              refine bodyPost_ret (v := .tuple #[.agg (setC S).toArray, .bool true]) (by simp [results, Try.results52, asAddr, Result.andThen, hld, Act.put]) rfl ⟨ret_of (by rw [HSE.out]; rfl), hB⟩
        · go_wp2_with fail
          go_loopw [10] (fun i wr => KsR w w.heap.size (w.heap.size + 1) 0 true i wr) (fun i _ => 256 - (intOf i).toNat)
          case atStart => exact ⟨0, Nat.zero_le _, rfl, HR.out.1, by rw [ks_zero]; exact HR.out.2.1, HR.out.2.2⟩
          case round =>
            clear HR HB3
            obtain ⟨k, hk, rfl, h0, h1, hB⟩ := hrel
            by_cases hlt : k < 256
            · have qk : decide ((k : Int) < 256) = true := by simp; omega
              have v2 := wrap8 k hlt
              have hput := fun W h => put_any (w.heap.size + 1) (ksF 0 true k) k hlt W h
              have hy := @ks_yes 0 true k
              have hn := @ks_no 0 true k
              have hin : inF 0 k = (decide (65 ≤ k) && decide (k ≤ 90)) := by unfold inF; rw [if_pos rfl]
              rw [hin] at hy hn
              have HH := Lib.hid (And.intro h0 (And.intro h1 hB)); clear h0 h1 hB hin
              by_cases h65 : 65 ≤ k
              · have u1 : decide ((65 : Int) ≤ (k : Int)) = true := by simp; omega
                rw [decide_eq_true h65] at hy hn
                by_cases h90 : k ≤ 90
                · have u2 : decide ((k : Int) ≤ 90) = true := by simp; omega
                  rw [decide_eq_true h90] at hy hn
                  have HY := Lib.hid (hy rfl); have HPUT := Lib.hid hput; clear hy hn hput
                  go_wp2_with fail
                  refine (HPUT.out _ HH.out.2.1).mono ?_; rintro e w5 ⟨rfl, g5, h5⟩
                  rw [HY.out] at h5
                  have HP := Lib.hid (And.intro (HH.out.1.keep g5 (by intro e; injection e with e; omega)) (And.intro h5 (HH.out.2.2.grown g5 HH.out.2.2.size (fun j hj => by cases hj; omega)))); clear g5 h5
                  go_wp2_with fail
                  go_roundw
                  case rel => exact ⟨k + 1, hlt, by go_num, HP.out.1, HP.out.2.1, HP.out.2.2⟩
                  case measure => simp [intOf]; omega
                · have u2 : decide ((k : Int) ≤ 90) = false := by simp; omega
                  rw [decide_eq_false h90] at hy hn
                  have HN := Lib.hid (hn (by decide)); clear hy hn hput
                  go_wp2_with fail
                  go_roundw
                  case rel => exact ⟨k + 1, hlt, by go_num, HH.out.1, by rw [← HN.out]; exact HH.out.2.1, HH.out.2.2⟩
                  case measure => simp [intOf]; omega
              · have u1 : decide ((65 : Int) ≤ (k : Int)) = false := by simp; omega
                rw [decide_eq_false h65, Bool.false_and] at hy hn
                have HN := Lib.hid (hn (by decide)); clear hy hn hput
                go_wp2_with fail
                go_roundw
                case rel => exact ⟨k + 1, hlt, by go_num, HH.out.1, by rw [← HN.out]; exact HH.out.2.1, HH.out.2.2⟩
                case measure => simp [intOf]; omega
            · obtain rfl : k = 256 := by omega
              have qk : decide (((256 : Nat) : Int) < 256) = false := by decide
              have hse := HSET.out
              generalize ksF 0 true 256 = S at *
              have HH := Lib.hid (And.intro h0 (And.intro h1 hB)); clear h0 h1 hB
              have HSE := Lib.hid hse; clear hse
              go_upto_region 21 with fail
              go_wp2_with (first | (refine wpl_loadSet (by rfl) 35 (Or.inr rfl) _ (by rfl) (w.heap.size + 1) S (by rfl) HH.out.2.1 ?_) | (refine wpl_storeSet (by rfl) 35 (Or.inr rfl) _ _ (by rfl) w.heap.size emptyS S (by rfl) (by rfl) HH.out.1 ?_; intro w5 h5 g5))
              have hld := SAtT.read (Or.inr rfl) h5
              have hB := HH.out.2.2.grown g5 HH.out.2.2.size (fun j hj => by cases hj; omega)
              (try simp only [Exit.inBlock, Exit.then])
              refine bodyPost_ret (v := .tuple #[.agg (setC S).toArray, .bool true]) (by simp [results, Try.results52, asAddr, Result.andThen, hld, Act.put]) rfl ⟨ret_of (by rw [HSE.out]; rfl), hB⟩
theorem rclass_any (c : Nat) (hc : c < 256) (w : World) : Calls Try.prog 52 #[.int .u8 c] w (NmEnd w (nmS c)) := by
  cases hT : nmS c with
  | none =>
    by_cases hA : 65 ≤ c ∧ c ≤ 90
    · exact cl_An c hc _ rfl hA hT w
    · exact cl_Bn c hc (by unfold lowF; rw [if_neg hA]) hA hT w
  | some T =>
    by_cases hA : 65 ≤ c ∧ c ≤ 90
    · exact cl_As c hc _ rfl hA T hT w
    · exact cl_Bs c hc (by unfold lowF; rw [if_neg hA]) hA T hT w
end Go.Proofs.Ytdnofpllmhnacaa
