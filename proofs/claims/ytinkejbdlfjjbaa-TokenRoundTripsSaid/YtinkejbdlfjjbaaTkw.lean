/- Contracts of Join, few, kind, Lower, Key, Same, and of the reference's. -/
import Derived.Test.YtinkejbdlfjjbaaTkv
import Derived.Laws.IdiomStrings
import Derived.Lib.SlBytesRow
namespace Go.Proofs.Ytinkejbdlfjjbaa
open Go.ChangeShapes Go.WideShapes Go.ChangeAt Go.RowKit
open Go.ChangeMaps (open_string shut_string)
set_option linter.unusedVariables false
set_option linter.unusedSimpArgs false
set_option maxRecDepth 100000

theorem upper_any (n : Int) (w : World) (h0 : 0 ≤ n) (h1 : n ≤ 255) :
    Calls Try.prog 51 #[.int .u8 n] w fun e w' => e = .returned (.bool (upB n)) ∧ w = w' := by
  go_enter Try.func51, Try.ntmps51
  go_wp2
  all_goals go_ret
  all_goals refine ⟨ret_bool ?_, rfl⟩
  all_goals (unfold upB; simp; try omega)

/-- What the loop of Lower keeps. -/
structure LowRel (s : ByteArray) (w : World) (k : Nat) (wr : World) : Prop where
  below : Below w.heap.size w wr
  size : w.heap.size < wr.heap.size
  done : ∀ i (h : i < s.size), i < k → wr.cell? ⟨w.heap.size, i, none⟩ = some (.int .u8 ((lowU s[i]).toNat : Int))
  todo : ∀ i (h : i < s.size), k ≤ i → wr.cell? ⟨w.heap.size, i, none⟩ = some (.int .u8 (s[i].toNat : Int))
  free : ∀ i, i < s.size → wr.frozen? ⟨w.heap.size, i, none⟩ = false

theorem LowRel.start (s : ByteArray) (w : World) (cap : Nat) (fr : Nat) (hfr : s.size ≤ fr) : LowRel s w 0 (w.alloc (.cells (bytesRow s cap) 5 (fr, fr + 1))).drew where
  below := ((Below.refl _ w).alloc (Nat.le_refl _) _).drew
  size := by simp
  done := fun i h hi => by omega
  todo := fun i h _ => by
    show (w.alloc (.cells (bytesRow s cap) 5 (fr, fr + 1))).cell? ⟨w.heap.size, i, none⟩ = _
    rw [World.cell?_alloc_mark, bytesRow_at s cap i h]; rfl
  free := fun i h => by
    show (w.alloc (.cells (bytesRow s cap) 5 (fr, fr + 1))).frozen? ⟨w.heap.size, i, none⟩ = _
    rw [World.frozen?_alloc_mark]; simp; omega

theorem LowRel.store {s : ByteArray} {w wr : World} {k : Nat} (h : LowRel s w k wr) (hk : k < s.size) (v : Int) (hv : v = ((lowU s[k]).toNat : Int)) :
    LowRel s w (k + 1) (wr.setCell ⟨w.heap.size, k, none⟩ (.int .u8 v)) where
  below := h.below.setCell (Nat.le_refl _) _
  size := by have := h.size; simpa [World.setCell] using this
  done := fun i hi hik => by
    by_cases e : i = k
    · subst e; rw [World.cell?_setCell_same _ _ _ (h.todo i hi (Nat.le_refl _)), hv]
    · rw [World.cell?_setCell_other _ _ _ _ (by intro e0; injection e0; omega)]; exact h.done i hi (by omega)
  todo := fun i hi hik => by rw [World.cell?_setCell_other _ _ _ _ (by intro e0; injection e0; omega)]; exact h.todo i hi (by omega)
  free := fun i hi => by rw [World.frozen?_setCell]; exact h.free i hi
theorem LowRel.skip {s : ByteArray} {w wr : World} {k : Nat} (h : LowRel s w k wr) (hk : k < s.size) (hv : lowU s[k] = s[k]) : LowRel s w (k + 1) wr where
  below := h.below
  size := h.size
  done := fun i hi hik => by
    by_cases e : i = k
    · subst e; rw [h.todo i hi (Nat.le_refl _), hv]
    · exact h.done i hi (by omega)
  todo := fun i hi hik => h.todo i hi (by omega)
  free := h.free
theorem LowRel.bytes {s : ByteArray} {w wr : World} (h : LowRel s w s.size wr) : Lib.Bytes wr w.heap.size 0 (low s) := fun i hi => by
  have hi' : i < s.size := by rw [low_size] at hi; exact hi
  rw [Nat.zero_add, h.done i hi' hi', low_at s i hi']
theorem lowU_up {c : UInt8} (h : upB (c.toNat : Int) = true) : ((c.toNat : Int) - 65 + 97) % 256 = ((lowU c).toNat : Int) := by
  have : 65 ≤ c.toNat ∧ c.toNat ≤ 90 := by unfold upB at h; simp at h; omega
  rw [lowU_toNat, if_pos this]; omega
theorem lowU_not {c : UInt8} (h : upB (c.toNat : Int) = false) : lowU c = c := by
  have : ¬ (65 ≤ c.toNat ∧ c.toNat ≤ 90) := by unfold upB at h; simp at h; omega
  unfold lowU; rw [if_neg this]
theorem lowU_raw (c : UInt8) : (if 65 ≤ c.toNat ∧ c.toNat ≤ 90 then ((c.toNat : Int) + 32) % 256 else c.toNat) = ((lowU c).toNat : Int) := by
  rw [lowU_toNat]; split <;> omega

set_option maxRecDepth 100000 in
theorem clower_any (s : ByteArray) (w : World) (hs : s.size ≤ 1000) :
    Calls Try.prog 37 #[.string s] w fun e w' => e = .returned (.string (low s)) ∧ Below w.heap.size w w' := by
  have hcv := fun w => run_bytes_of_string (P := Try.prog) w 9 64 5 s Try.underlying9 Try.underlying64 Try.underlying5
  have hst := LowRel.start s w (grownCap w s.size 0 5) (bytesRow s (grownCap w s.size 0 5)).size (by unfold bytesRow; rw [Array.size_append, Array.size_map]; exact Nat.le_add_right _ _)
  have HST := Lib.hid hst; clear hst
  go_enter Try.func37, Try.ntmps37
  go_wp2_with fail
  clear hcv
  generalize grownCap w s.size 0 5 = cap at HST ⊢
  go_loopw [10] (fun i wr => ∃ k : Nat, k ≤ s.size ∧ i = .int .i64 k ∧ LowRel s w k wr) (fun i _ => s.size - (intOf i).toNat)
  case atStart => exact ⟨0, Nat.zero_le _, rfl, HST.out⟩
  case round =>
    obtain ⟨k, hk, rfl, hR⟩ := hrel
    by_cases hlt : k < s.size
    · have hc := hR.todo k hlt (Nat.le_refl _)
      have hf := hR.free k hlt
      have hb : (s[k].toNat : Int) ≤ 255 := by have := s[k].toNat_lt; omega
      have HR := Lib.hid hR; clear hR
      go_wp2_with (go_at_call 51; refine (upper_any _ _ (by omega) hb).mono ?_; rintro e w' ⟨rfl, rfl⟩)
      · have hu : upB (s[k].toNat : Int) = true := by assumption
        go_roundw
        case rel => exact ⟨k + 1, by omega, by go_num, HR.out.store hlt _ (lowU_up hu)⟩
        case measure => simp [intOf]; omega
      · have hu : upB (s[k].toNat : Int) = false := by assumption
        go_roundw
        case rel => exact ⟨k + 1, by omega, by go_num, HR.out.skip hlt (lowU_not hu)⟩
        case measure => simp [intOf]; omega
    · obtain rfl : k = s.size := by omega
      have hB := hR.below
      have hback := Lib.run_convert_whole (P := Try.prog) wr 64 5 9 Try.underlying64 Try.underlying5 Try.underlying9 w.heap.size 0 (low s) hR.bytes cap
      rw [low_size] at hback
      clear hR
      go_wp2_with fail
      go_ret
      exact ⟨rfl, hB⟩

set_option maxRecDepth 100000 in
theorem crlower_any (s : ByteArray) (w : World) (hs : s.size ≤ 1000) :
    Calls Try.prog 38 #[.string s] w fun e w' => e = .returned (.string (low s)) ∧ Below w.heap.size w w' := by
  have hcv := fun w => run_bytes_of_string (P := Try.prog) w 9 64 5 s Try.underlying9 Try.underlying64 Try.underlying5
  have hst := LowRel.start s w (grownCap w s.size 0 5) (bytesRow s (grownCap w s.size 0 5)).size (by unfold bytesRow; rw [Array.size_append, Array.size_map]; exact Nat.le_add_right _ _)
  have HST := Lib.hid hst; clear hst
  go_enter Try.func38, Try.ntmps38
  go_wp2_with fail
  clear hcv
  generalize grownCap w s.size 0 5 = cap at HST ⊢
  go_loopw [9] (fun i wr => ∃ k : Nat, k ≤ s.size ∧ i = .int .i64 k ∧ LowRel s w k wr) (fun i _ => s.size - (intOf i).toNat)
  case atStart => exact ⟨0, Nat.zero_le _, rfl, HST.out⟩
  case round =>
    obtain ⟨k, hk, rfl, hR⟩ := hrel
    by_cases hlt : k < s.size
    · have hc := hR.todo k hlt (Nat.le_refl _)
      have hf := hR.free k hlt
      have hb : (s[k].toNat : Int) ≤ 255 := by have := s[k].toNat_lt; omega
      have HR := Lib.hid hR; clear hR
      go_wp2_with fail
      · have h1 : (65 : Int) ≤ s[k].toNat := by assumption
        have h2 : (s[k].toNat : Int) ≤ 90 := by assumption
        go_roundw
        case rel => exact ⟨k + 1, by omega, by go_num, HR.out.store hlt _ (by rw [lowU_toNat, if_pos (by omega)]; omega)⟩
        case measure => simp [intOf]; omega
      · have h2 : 90 < (s[k].toNat : Int) := by assumption
        go_roundw
        case rel => exact ⟨k + 1, by omega, by go_num, HR.out.skip hlt (by unfold lowU; rw [if_neg (by omega)])⟩
        case measure => simp [intOf]; omega
      · have h1 : ¬ (65 : Int) ≤ s[k].toNat := by assumption
        go_roundw
        case rel => exact ⟨k + 1, by omega, by go_num, HR.out.skip hlt (by unfold lowU; rw [if_neg (by omega)])⟩
        case measure => simp [intOf]; omega
    · obtain rfl : k = s.size := by omega
      have hB := hR.below
      have hback := Lib.run_convert_whole (P := Try.prog) wr 64 5 9 Try.underlying64 Try.underlying5 Try.underlying9 w.heap.size 0 (low s) hR.bytes cap
      rw [low_size] at hback
      clear hR
      go_wp2_with fail
      go_ret
      exact ⟨rfl, hB⟩

set_option maxHeartbeats 1600000 in
theorem join_any (p : Option Addr) (cap : Nat) (l : List It) (w : World) (hR : Its w p l) (hc : l.length ≤ cap) (hm : cap ≤ maxLen) (hn : txtI l + l.length ≤ 2000000000) :
    Calls Try.prog 17 #[.slice p l.length cap] w (EndF (norm (unL l)) w) := by
  have hnm := fun W r c i h1 h2 => (normalize_any r c (unL l) W i h1 h2 (by have := unL_len l; omega) (by have := unL_txt l; omega)).mono fun _ _ x => EndI.f x
  have HN := Lib.hid hnm; clear hnm
  unfold maxLen at hm
  go_enter Try.func17, Try.ntmps17
  go_wp2_with fail
  go_loopw [3, 8] (fun v i wr => ∃ k : Nat, k ≤ l.length ∧ i = .int .i64 k ∧ AccI w (unL (l.take k)) v wr) (fun _ i _ => l.length - (intOf i).toNat)
  case atStart => exact ⟨0, Nat.zero_le _, rfl, Acc.start _⟩
  case round =>
    obtain ⟨k, hk, rfl, hA⟩ := hrel
    by_cases hlt : k < l.length
    · obtain ⟨ad, rfl, had, c0, c1, c2⟩ := (hR.call hA.below).row k hlt
      have hnx := unL_next l k hlt
      have hlen := unL_len (l.take k)
      have hol : (unL (l.take k)).length ≤ 2000000000 := by simp at hlen; omega
      generalize l[k] = x at *
      generalize unL (l.take k) = out at *
      clear hlen
      obtain ⟨kk, t, id⟩ := x
      dsimp only at c0 c1 c2
      by_cases h1 : 6 ≤ kk ∧ kk ≤ 9
      · rw [show unI ⟨kk, t, id⟩ = [⟨1, t, 0⟩] from if_pos h1] at hnx
        have HX := Lib.hid hnx; clear hnx
        have h3 : kk = 6 ∨ kk = 7 ∨ kk = 8 ∨ kk = 9 := by omega
        clear h1
        rcases h3 with rfl | rfl | rfl | rfl
        · go_wp2_with (at_builtin; refine wpl_append eI _ rfl _ _ rfl w out _ rfl ((hA.alloc _).alloc _) ⟨1, t, 0⟩ _ #[.int .i64 1, .string t, .int .i64 0] rfl (heap_newT _ _ _) rfl (by omega) (by unfold maxLen; omega) ?_; intro v' w4 hA4 hb4)
          go_wp2_with fail
          go_roundw
          case rel => exact ⟨k + 1, hlt, by go_num, by rw [HX.out]; exact hA4⟩
          case measure => simp [intOf]; omega
        · go_wp2_with (at_builtin; refine wpl_append eI _ rfl _ _ rfl w out _ rfl ((hA.alloc _).alloc _) ⟨1, t, 0⟩ _ #[.int .i64 1, .string t, .int .i64 0] rfl (heap_newT _ _ _) rfl (by omega) (by unfold maxLen; omega) ?_; intro v' w4 hA4 hb4)
          go_wp2_with fail
          go_roundw
          case rel => exact ⟨k + 1, hlt, by go_num, by rw [HX.out]; exact hA4⟩
          case measure => simp [intOf]; omega
        · go_wp2_with (at_builtin; refine wpl_append eI _ rfl _ _ rfl w out _ rfl ((hA.alloc _).alloc _) ⟨1, t, 0⟩ _ #[.int .i64 1, .string t, .int .i64 0] rfl (heap_newT _ _ _) rfl (by omega) (by unfold maxLen; omega) ?_; intro v' w4 hA4 hb4)
          go_wp2_with fail
          go_roundw
          case rel => exact ⟨k + 1, hlt, by go_num, by rw [HX.out]; exact hA4⟩
          case measure => simp [intOf]; omega
        · go_wp2_with (at_builtin; refine wpl_append eI _ rfl _ _ rfl w out _ rfl ((hA.alloc _).alloc _) ⟨1, t, 0⟩ _ #[.int .i64 1, .string t, .int .i64 0] rfl (heap_newT _ _ _) rfl (by omega) (by unfold maxLen; omega) ?_; intro v' w4 hA4 hb4)
          go_wp2_with fail
          go_roundw
          case rel => exact ⟨k + 1, hlt, by go_num, by rw [HX.out]; exact hA4⟩
          case measure => simp [intOf]; omega
      · by_cases h2 : 2 ≤ kk ∧ kk ≤ 5
        · rw [show unI ⟨kk, t, id⟩ = [⟨kk, t, id⟩] by unfold unI; rw [if_neg (by exact h1), if_pos (by exact h2)]] at hnx
          have HX := Lib.hid hnx; clear hnx
          have h3 : kk = 2 ∨ kk = 3 ∨ kk = 4 ∨ kk = 5 := by omega
          clear h1 h2
          rcases h3 with rfl | rfl | rfl | rfl
          · go_wp2_with (at_builtin; refine wpl_append eI _ rfl _ _ rfl w out _ rfl ((hA.alloc _).alloc _) ⟨2, t, id⟩ _ #[.int .i64 2, .string t, .int .i64 id] rfl (heap_newT _ _ _) rfl (by omega) (by unfold maxLen; omega) ?_; intro v' w4 hA4 hb4)
            go_wp2_with fail
            go_roundw
            case rel => exact ⟨k + 1, hlt, by go_num, by rw [HX.out]; exact hA4⟩
            case measure => simp [intOf]; omega
          · go_wp2_with (at_builtin; refine wpl_append eI _ rfl _ _ rfl w out _ rfl ((hA.alloc _).alloc _) ⟨3, t, id⟩ _ #[.int .i64 3, .string t, .int .i64 id] rfl (heap_newT _ _ _) rfl (by omega) (by unfold maxLen; omega) ?_; intro v' w4 hA4 hb4)
            go_wp2_with fail
            go_roundw
            case rel => exact ⟨k + 1, hlt, by go_num, by rw [HX.out]; exact hA4⟩
            case measure => simp [intOf]; omega
          · go_wp2_with (at_builtin; refine wpl_append eI _ rfl _ _ rfl w out _ rfl ((hA.alloc _).alloc _) ⟨4, t, id⟩ _ #[.int .i64 4, .string t, .int .i64 id] rfl (heap_newT _ _ _) rfl (by omega) (by unfold maxLen; omega) ?_; intro v' w4 hA4 hb4)
            go_wp2_with fail
            go_roundw
            case rel => exact ⟨k + 1, hlt, by go_num, by rw [HX.out]; exact hA4⟩
            case measure => simp [intOf]; omega
          · go_wp2_with (at_builtin; refine wpl_append eI _ rfl _ _ rfl w out _ rfl ((hA.alloc _).alloc _) ⟨5, t, id⟩ _ #[.int .i64 5, .string t, .int .i64 id] rfl (heap_newT _ _ _) rfl (by omega) (by unfold maxLen; omega) ?_; intro v' w4 hA4 hb4)
            go_wp2_with fail
            go_roundw
            case rel => exact ⟨k + 1, hlt, by go_num, by rw [HX.out]; exact hA4⟩
            case measure => simp [intOf]; omega
        · rw [show unI ⟨kk, t, id⟩ = [] by unfold unI; rw [if_neg (by exact h1), if_neg (by exact h2)], List.append_nil] at hnx
          have HX := Lib.hid hnx; clear hnx
          have hq : ∀ j : Int, 2 ≤ j → j ≤ 9 → (kk == j) = false := fun j a b => (by have h3 : ¬ kk = j := (by omega); simpa using h3)
          have q2 := hq 2 (by decide) (by decide); have q3 := hq 3 (by decide) (by decide); have q4 := hq 4 (by decide) (by decide); have q5 := hq 5 (by decide) (by decide)
          have q6 := hq 6 (by decide) (by decide); have q7 := hq 7 (by decide) (by decide); have q8 := hq 8 (by decide) (by decide); have q9 := hq 9 (by decide) (by decide)
          clear hq h1 h2
          go_wp2_with fail
          go_roundw
          case rel => exact ⟨k + 1, hlt, by go_num, by rw [HX.out]; exact hA.alloc _⟩
          case measure => simp [intOf]; omega
    · obtain rfl : k = l.length := by omega
      rw [List.take_length] at hA
      obtain ⟨r, c, rfl, h1, h2, hI⟩ := hA.own.its
      have hB := hA.below
      clear hA
      go_wp2_with fail
      refine (HN.out _ _ _ hI h1 h2).mono ?_; rintro e w2 ⟨p2, c2, rfl, v2, m2, i2, hb⟩
      go_wp2_with fail
      go_ret
      exact ⟨_, _, rfl, v2, m2, i2, BelowOn hB hb⟩

set_option maxHeartbeats 1600000 in
theorem rjoin_any (p : Option Addr) (cap : Nat) (l : List It) (w : World) (hR : Its w p l) (hc : l.length ≤ cap) (hm : cap ≤ maxLen) (hn : txtI l + l.length ≤ 2000000000) :
    Calls Try.prog 18 #[.slice p l.length cap] w (EndF (norm (unL l)) w) := by
  have hnm := fun W r c i h1 h2 => (rnormalize_any r c (unL l) W i h1 h2 (by have := unL_len l; omega) (by have := unL_txt l; omega)).mono fun _ _ x => EndI.f x
  have HN := Lib.hid hnm; clear hnm
  unfold maxLen at hm
  go_enter Try.func18, Try.ntmps18
  go_wp2_with fail
  go_loopw [3, 8] (fun v i wr => ∃ k : Nat, k ≤ l.length ∧ i = .int .i64 k ∧ AccI w (unL (l.take k)) v wr) (fun _ i _ => l.length - (intOf i).toNat)
  case atStart => exact ⟨0, Nat.zero_le _, rfl, Acc.start _⟩
  case round =>
    obtain ⟨k, hk, rfl, hA⟩ := hrel
    by_cases hlt : k < l.length
    · obtain ⟨ad, rfl, had, c0, c1, c2⟩ := (hR.call hA.below).row k hlt
      have hnx := unL_next l k hlt
      have hlen := unL_len (l.take k)
      have hol : (unL (l.take k)).length ≤ 2000000000 := by simp at hlen; omega
      generalize l[k] = x at *
      generalize unL (l.take k) = out at *
      clear hlen
      obtain ⟨kk, t, id⟩ := x
      dsimp only at c0 c1 c2
      by_cases h1 : 6 ≤ kk ∧ kk ≤ 9
      · rw [show unI ⟨kk, t, id⟩ = [⟨1, t, 0⟩] from if_pos h1] at hnx
        have HX := Lib.hid hnx; clear hnx
        have h3 : kk = 6 ∨ kk = 7 ∨ kk = 8 ∨ kk = 9 := by omega
        clear h1
        rcases h3 with rfl | rfl | rfl | rfl
        · go_wp2_with (at_builtin; refine wpl_append eI _ rfl _ _ rfl w out _ rfl ((hA.alloc _).alloc _) ⟨1, t, 0⟩ _ #[.int .i64 1, .string t, .int .i64 0] rfl (heap_newT _ _ _) rfl (by omega) (by unfold maxLen; omega) ?_; intro v' w4 hA4 hb4)
          go_wp2_with fail
          go_roundw
          case rel => exact ⟨k + 1, hlt, by go_num, by rw [HX.out]; exact hA4⟩
          case measure => simp [intOf]; omega
        · go_wp2_with (at_builtin; refine wpl_append eI _ rfl _ _ rfl w out _ rfl ((hA.alloc _).alloc _) ⟨1, t, 0⟩ _ #[.int .i64 1, .string t, .int .i64 0] rfl (heap_newT _ _ _) rfl (by omega) (by unfold maxLen; omega) ?_; intro v' w4 hA4 hb4)
          go_wp2_with fail
          go_roundw
          case rel => exact ⟨k + 1, hlt, by go_num, by rw [HX.out]; exact hA4⟩
          case measure => simp [intOf]; omega
        · go_wp2_with (at_builtin; refine wpl_append eI _ rfl _ _ rfl w out _ rfl ((hA.alloc _).alloc _) ⟨1, t, 0⟩ _ #[.int .i64 1, .string t, .int .i64 0] rfl (heap_newT _ _ _) rfl (by omega) (by unfold maxLen; omega) ?_; intro v' w4 hA4 hb4)
          go_wp2_with fail
          go_roundw
          case rel => exact ⟨k + 1, hlt, by go_num, by rw [HX.out]; exact hA4⟩
          case measure => simp [intOf]; omega
        · go_wp2_with (at_builtin; refine wpl_append eI _ rfl _ _ rfl w out _ rfl ((hA.alloc _).alloc _) ⟨1, t, 0⟩ _ #[.int .i64 1, .string t, .int .i64 0] rfl (heap_newT _ _ _) rfl (by omega) (by unfold maxLen; omega) ?_; intro v' w4 hA4 hb4)
          go_wp2_with fail
          go_roundw
          case rel => exact ⟨k + 1, hlt, by go_num, by rw [HX.out]; exact hA4⟩
          case measure => simp [intOf]; omega
      · by_cases h2 : 2 ≤ kk ∧ kk ≤ 5
        · rw [show unI ⟨kk, t, id⟩ = [⟨kk, t, id⟩] by unfold unI; rw [if_neg (by exact h1), if_pos (by exact h2)]] at hnx
          have HX := Lib.hid hnx; clear hnx
          have h3 : kk = 2 ∨ kk = 3 ∨ kk = 4 ∨ kk = 5 := by omega
          clear h1 h2
          rcases h3 with rfl | rfl | rfl | rfl
          · go_wp2_with (at_builtin; refine wpl_append eI _ rfl _ _ rfl w out _ rfl ((hA.alloc _).alloc _) ⟨2, t, id⟩ _ #[.int .i64 2, .string t, .int .i64 id] rfl (heap_newT _ _ _) rfl (by omega) (by unfold maxLen; omega) ?_; intro v' w4 hA4 hb4)
            go_wp2_with fail
            go_roundw
            case rel => exact ⟨k + 1, hlt, by go_num, by rw [HX.out]; exact hA4⟩
            case measure => simp [intOf]; omega
          · go_wp2_with (at_builtin; refine wpl_append eI _ rfl _ _ rfl w out _ rfl ((hA.alloc _).alloc _) ⟨3, t, id⟩ _ #[.int .i64 3, .string t, .int .i64 id] rfl (heap_newT _ _ _) rfl (by omega) (by unfold maxLen; omega) ?_; intro v' w4 hA4 hb4)
            go_wp2_with fail
            go_roundw
            case rel => exact ⟨k + 1, hlt, by go_num, by rw [HX.out]; exact hA4⟩
            case measure => simp [intOf]; omega
          · go_wp2_with (at_builtin; refine wpl_append eI _ rfl _ _ rfl w out _ rfl ((hA.alloc _).alloc _) ⟨4, t, id⟩ _ #[.int .i64 4, .string t, .int .i64 id] rfl (heap_newT _ _ _) rfl (by omega) (by unfold maxLen; omega) ?_; intro v' w4 hA4 hb4)
            go_wp2_with fail
            go_roundw
            case rel => exact ⟨k + 1, hlt, by go_num, by rw [HX.out]; exact hA4⟩
            case measure => simp [intOf]; omega
          · go_wp2_with (at_builtin; refine wpl_append eI _ rfl _ _ rfl w out _ rfl ((hA.alloc _).alloc _) ⟨5, t, id⟩ _ #[.int .i64 5, .string t, .int .i64 id] rfl (heap_newT _ _ _) rfl (by omega) (by unfold maxLen; omega) ?_; intro v' w4 hA4 hb4)
            go_wp2_with fail
            go_roundw
            case rel => exact ⟨k + 1, hlt, by go_num, by rw [HX.out]; exact hA4⟩
            case measure => simp [intOf]; omega
        · rw [show unI ⟨kk, t, id⟩ = [] by unfold unI; rw [if_neg (by exact h1), if_neg (by exact h2)], List.append_nil] at hnx
          have HX := Lib.hid hnx; clear hnx
          have hq : ∀ j : Int, 2 ≤ j → j ≤ 9 → (kk == j) = false := fun j a b => (by have h3 : ¬ kk = j := (by omega); simpa using h3)
          have q2 := hq 2 (by decide) (by decide); have q3 := hq 3 (by decide) (by decide); have q4 := hq 4 (by decide) (by decide); have q5 := hq 5 (by decide) (by decide)
          have q6 := hq 6 (by decide) (by decide); have q7 := hq 7 (by decide) (by decide); have q8 := hq 8 (by decide) (by decide); have q9 := hq 9 (by decide) (by decide)
          clear hq h1 h2
          go_wp2_with fail
          go_roundw
          case rel => exact ⟨k + 1, hlt, by go_num, by rw [HX.out]; exact hA.alloc _⟩
          case measure => simp [intOf]; omega
    · obtain rfl : k = l.length := by omega
      rw [List.take_length] at hA
      obtain ⟨r, c, rfl, h1, h2, hI⟩ := hA.own.its
      have hB := hA.below
      clear hA
      go_wp2_with fail
      refine (HN.out _ _ _ hI h1 h2).mono ?_; rintro e w2 ⟨p2, c2, rfl, v2, m2, i2, hb⟩
      go_wp2_with fail
      go_ret
      exact ⟨_, _, rfl, v2, m2, i2, BelowOn hB hb⟩
/-- Is a list short? -/
def fewT (l : List It) : Bool := decide (l.length ≤ 40) && decide (txtI l ≤ 600)
theorem fewt_any (p : Option Addr) (cap : Nat) (l : List It) (w : World) (hR : Its w p l) (hO : Oks l) (hc : l.length ≤ cap) (hm : cap ≤ maxLen) :
    Calls Try.prog 10 #[.slice p l.length cap] w fun e w' => e = .returned (.bool (fewT l)) ∧ w = w' := by
  unfold maxLen at hm
  have hsum : l.length ≤ 40 → ∀ k, k ≤ l.length → txtI (l.take k) ≤ k * 140737488355328 := fun h60 k => by
    intro hk
    induction k with
    | zero => simp [txtI]
    | succ j ih =>
      rw [txtI_next l j (by omega)]
      have := ih (by omega)
      have h1 := (hO j (by omega)).t
      omega
  have HS := Lib.hid hsum; clear hsum
  go_enter Try.func10, Try.ntmps10
  go_wp2_with fail
  go_loop [3, 7] (fun v i => ∃ k : Nat, ∃ z : Int, k ≤ l.length ∧ i = .int .i64 k ∧ v = .int .i64 z ∧ Hid (l.length ≤ 40 → z = txtI (l.take k))) (fun _ i => l.length - (intOf i).toNat)
  case atStart => exact ⟨0, 0, Nat.zero_le _, rfl, rfl, Lib.hid (fun _ => rfl)⟩
  case round =>
    obtain ⟨k, z, hk, rfl, rfl, HZ⟩ := hrel
    by_cases hlt : k < l.length
    · obtain ⟨a, rfl, ha, c0, c1, c2⟩ := hR.row k hlt
      have hn := txtI_next l k hlt
      have HN := Lib.hid hn; clear hn
      go_wp2_with fail
      go_round
      case rel =>
        refine ⟨k + 1, _, hlt, by go_num, rfl, Lib.hid (fun h60 => ?_)⟩
        have b := HS.out h60 (k + 1) hlt
        rw [HN.out] at b ⊢
        rw [HZ.out h60]
        unfold wrap64
        omega
      case measure => simp [intOf]; omega
    · obtain rfl : k = l.length := by omega
      rw [List.take_length] at HZ
      by_cases h60 : l.length ≤ 40
      · have hz := HZ.out h60
        go_wp2_with fail
        go_ret
        exact ⟨ret_bool (by unfold fewT; rw [Bool.eq_iff_iff]; simp [h60]; omega), rfl⟩
      · go_wp2_with fail
        go_ret
        exact ⟨ret_bool (by unfold fewT; simp [h60]), rfl⟩

def kdN (n : Int) : Int := if n = 9 ∨ n = 10 ∨ n = 13 ∨ n = 32 then 8 else if 48 ≤ n ∧ n ≤ 57 then 7 else if (65 ≤ n ∧ n ≤ 90) ∨ (97 ≤ n ∧ n ≤ 122) ∨ 128 ≤ n then 6 else 9
theorem kdN_eq (b : UInt8) : kindT b = kdN (b.toNat : Int) := by
  have hb := byteU_le b
  have h0 : (0 : Int) ≤ (b.toNat : Int) := by omega
  unfold kindT cb kdN cls
  generalize (b.toNat : Int) = n at *
  repeat' split
  all_goals first | rfl | omega
theorem kind_any (b : UInt8) (w : World) : Calls Try.prog 20 #[.int .u8 (b.toNat : Int)] w fun e w' => e = .returned (.int .i64 (kindT b)) ∧ w = w' := by
  have hb := byteU_le b
  have h0 : (0 : Int) ≤ (b.toNat : Int) := by omega
  rw [kdN_eq]
  generalize (b.toNat : Int) = n at *
  go_enter Try.func20, Try.ntmps20
  go_wp2
  all_goals go_ret
  all_goals refine ⟨ret_int ?_, rfl⟩
  all_goals (unfold kdN; simp_all; try omega)
def keyT (k : Int) (t : ByteArray) : ByteArray := if k = 6 then low t else t

theorem key_any (k : Int) (t : ByteArray) (id : Int) (w : World) (ht : t.size ≤ 1000) : Calls Try.prog 24 #[.agg #[.int .i64 k, .string t, .int .i64 id]] w fun e w' => e = .returned (.string (keyT k t)) ∧ Below w.heap.size w w' := by
  have hl := fun W => clower_any t W ht
  have HL := Lib.hid hl; clear hl
  by_cases h : k = 6
  · have HK := Lib.hid (show keyT k t = low t from if_pos h)
    have q : (k == 6) = true := by simpa using h
    clear h
    go_enter Try.func24, Try.ntmps24
    go_wp2_with fail
    refine (HL.out _).mono ?_; rintro e w1 ⟨rfl, hb⟩
    go_wp2_with fail
    go_ret
    exact ⟨by rw [HK.out]; rfl, BelowOn (blw (Below.refl _ _) _) hb⟩
  · have HK := Lib.hid (show keyT k t = t from if_neg h)
    have q : (k == 6) = false := by simpa using h
    clear h
    go_enter Try.func24, Try.ntmps24
    go_wp2_with fail
    go_ret
    exact ⟨by rw [HK.out]; rfl, blw (Below.refl _ _) _⟩
theorem tsame_any (k1 : Int) (t1 : ByteArray) (i1 k2 : Int) (t2 : ByteArray) (i2 : Int) (w : World) : Calls Try.prog 26 #[.agg #[.int .i64 k1, .string t1, .int .i64 i1], .agg #[.int .i64 k2, .string t2, .int .i64 i2]] w
    fun e w' => e = .returned (.bool (decide (k1 = k2 ∧ t1 = t2))) ∧ Below w.heap.size w w' := by
  by_cases h : k1 = k2
  · by_cases h2 : t1 = t2
    · have HK := Lib.hid (show decide (k1 = k2 ∧ t1 = t2) = true from decide_eq_true ⟨h, h2⟩)
      rw [HK.out]
      clear HK
      subst h; subst h2
      go_enter Try.func26, Try.ntmps26
      go_wp2_with fail
      go_ret
      exact ⟨rfl, blw (blw (Below.refl _ _) _) _⟩
    · have HK := Lib.hid (show decide (k1 = k2 ∧ t1 = t2) = false from decide_eq_false fun c => h2 c.2)
      rw [HK.out]
      clear HK
      subst h
      have q1 := strl_ne h2
      have q2 := str_ne h2
      clear h2
      go_enter Try.func26, Try.ntmps26
      go_wp2_with fail
      go_ret
      exact ⟨rfl, blw (blw (Below.refl _ _) _) _⟩
  · have HK := Lib.hid (show decide (k1 = k2 ∧ t1 = t2) = false from decide_eq_false fun c => h c.1)
    rw [HK.out]
    clear HK
    have q1 : (k1 == k2) = false := by simpa using h
    go_enter Try.func26, Try.ntmps26
    go_wp2_with fail
    go_ret
    exact ⟨rfl, blw (blw (Below.refl _ _) _) _⟩

theorem rkey_any (k : Int) (t : ByteArray) (id : Int) (w : World) (ht : t.size ≤ 1000) : Calls Try.prog 25 #[.agg #[.int .i64 k, .string t, .int .i64 id]] w fun e w' => e = .returned (.string (keyT k t)) ∧ Below w.heap.size w w' := by
  have hl := fun W => crlower_any t W ht
  have HL := Lib.hid hl; clear hl
  by_cases h : k = 6
  · have HK := Lib.hid (show keyT k t = low t from if_pos h)
    have q : (k == 6) = true := by simpa using h
    clear h
    go_enter Try.func25, Try.ntmps25
    go_wp2_with fail
    refine (HL.out _).mono ?_; rintro e w1 ⟨rfl, hb⟩
    go_wp2_with fail
    go_ret
    exact ⟨by rw [HK.out]; rfl, BelowOn (blw (Below.refl _ _) _) hb⟩
  · have HK := Lib.hid (show keyT k t = t from if_neg h)
    have q : (k == 6) = false := by simpa using h
    clear h
    go_enter Try.func25, Try.ntmps25
    go_wp2_with fail
    go_ret
    exact ⟨by rw [HK.out]; rfl, blw (Below.refl _ _) _⟩
theorem rtsame_any (k1 : Int) (t1 : ByteArray) (i1 k2 : Int) (t2 : ByteArray) (i2 : Int) (w : World) : Calls Try.prog 27 #[.agg #[.int .i64 k1, .string t1, .int .i64 i1], .agg #[.int .i64 k2, .string t2, .int .i64 i2]] w
    fun e w' => e = .returned (.bool (decide (k1 = k2 ∧ t1 = t2))) ∧ Below w.heap.size w w' := by
  by_cases h : k1 = k2
  · by_cases h2 : t1 = t2
    · have HK := Lib.hid (show decide (k1 = k2 ∧ t1 = t2) = true from decide_eq_true ⟨h, h2⟩)
      rw [HK.out]
      clear HK
      subst h; subst h2
      go_enter Try.func27, Try.ntmps27
      go_wp2_with fail
      go_ret
      exact ⟨rfl, blw (blw (Below.refl _ _) _) _⟩
    · have HK := Lib.hid (show decide (k1 = k2 ∧ t1 = t2) = false from decide_eq_false fun c => h2 c.2)
      rw [HK.out]
      clear HK
      subst h
      have q1 := strl_ne h2
      have q2 := str_ne h2
      clear h2
      go_enter Try.func27, Try.ntmps27
      go_wp2_with fail
      go_ret
      exact ⟨rfl, blw (blw (Below.refl _ _) _) _⟩
  · have HK := Lib.hid (show decide (k1 = k2 ∧ t1 = t2) = false from decide_eq_false fun c => h c.1)
    rw [HK.out]
    clear HK
    have q1 : (k1 == k2) = false := by simpa using h
    go_enter Try.func27, Try.ntmps27
    go_wp2_with fail
    go_ret
    exact ⟨rfl, blw (blw (Below.refl _ _) _) _⟩
end Go.Proofs.Ytinkejbdlfjjbaa
