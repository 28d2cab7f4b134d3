/- Contracts of Join, few, kind, Lower, Key, Same, and of the reference's. -/
import Derived.Test.YtpkipdiecnokhaaTkv
import Derived.Laws.IdiomStrings
import Derived.Lib.SlBytesRow
namespace Go.Proofs.Ytpkipdiecnokhaa
open Go.ChangeShapes Go.WideShapes Go.ChangeAt Go.RowKit
open Go.ChangeMaps (open_string shut_string)
set_option linter.unusedVariables false
set_option linter.unusedSimpArgs false
set_option maxRecDepth 100000

theorem upper_any (n : Int) (w : World) (h0 : 0 ≤ n) (h1 : n ≤ 255) :
    Calls Try.prog 83 #[.int .u8 n] w fun e w' => e = .returned (.bool (upB n)) ∧ w = w' := by
  go_enter Try.func83, Try.ntmps83
  go_wp2
  all_goals go_ret
  all_goals refine ⟨ret_bool ?_, rfl⟩
  all_goals (unfold upB; simp; try omega)

/-- What the loop of Lower keeps. -/
structure LowRel (s : ByteArray) (w : World) (k : Nat) (wr : World) : Prop where
  below : Below w.heap.size w wr
  size : w.heap.size < wr.heap.size
  done : ∀ i (h : i < s.size), i < k → wr.cell? ⟨w.heap.size, i, none⟩ = some (.int .u8 ((lowU s[i]).toNat : Int))
  todo : ∀ i (h : i < s.size), k ≤ i → wr.cell? ⟨w.heap.size, i, none⟩ = some (.int .u8 (s[i].toNat : Int))
  free : ∀ i, i < s.size → wr.frozen? ⟨w.heap.size, i, none⟩ = false

theorem LowRel.start (s : ByteArray) (w : World) (cap : Nat) (fr : Nat) (hfr : s.size ≤ fr) : LowRel s w 0 (w.alloc (.cells (bytesRow s cap) 5 (fr, fr + 1))).drew where
  below := ((Below.refl _ w).alloc (Nat.le_refl _) _).drew
  size := by simp
  done := fun i h hi => by omega
  todo := fun i h _ => by
    show (w.alloc (.cells (bytesRow s cap) 5 (fr, fr + 1))).cell? ⟨w.heap.size, i, none⟩ = _
    rw [World.cell?_alloc_mark, bytesRow_at s cap i h]; rfl
  free := fun i h => by
    show (w.alloc (.cells (bytesRow s cap) 5 (fr, fr + 1))).frozen? ⟨w.heap.size, i, none⟩ = _
    rw [World.frozen?_alloc_mark]; simp; omega

theorem LowRel.store {s : ByteArray} {w wr : World} {k : Nat} (h : LowRel s w k wr) (hk : k < s.size) (v : Int) (hv : v = ((lowU s[k]).toNat : Int)) :
    LowRel s w (k + 1) (wr.setCell ⟨w.heap.size, k, none⟩ (.int .u8 v)) where
  below := h.below.setCell (Nat.le_refl _) _
  size := by have := h.size; simpa [World.setCell] using this
  done := fun i hi hik => by
    by_cases e : i = k
    · subst e; rw [World.cell?_setCell_same _ _ _ (h.todo i hi (Nat.le_refl _)), hv]
    · rw [World.cell?_setCell_other _ _ _ _ (by intro e0; injection e0; omega)]; exact h.done i hi (by omega)
  todo := fun i hi hik => by rw [World.cell?_setCell_other _ _ _ _ (by intro e0; injection e0; omega)]; exact h.todo i hi (by omega)
  free := fun i hi => by rw [World.frozen?_setCell]; exact h.free i hi
theorem LowRel.skip {s : ByteArray} {w wr : World} {k : Nat} (h : LowRel s w k wr) (hk : k < s.size) (hv : lowU s[k] = s[k]) : LowRel s w (k + 1) wr where
  below := h.below
  size := h.size
  done := fun i hi hik => by
    by_cases e : i = k
    · subst e; rw [h.todo i hi (Nat.le_refl _), hv]
    · exact h.done i hi (by omega)
  todo := fun i hi hik => h.todo i hi (by omega)
  free := h.free
theorem LowRel.bytes {s : ByteArray} {w wr : World} (h : LowRel s w s.size wr) : Lib.Bytes wr w.heap.size 0 (low s) := fun i hi => by
  have hi' : i < s.size := by rw [low_size] at hi; exact hi
  rw [Nat.zero_add, h.done i hi' hi', low_at s i hi']
theorem lowU_up {c : UInt8} (h : upB (c.toNat : Int) = true) : ((c.toNat : Int) - 65 + 97) % 256 = ((lowU c).toNat : Int) := by
  have : 65 ≤ c.toNat ∧ c.toNat ≤ 90 := by unfold upB at h; simp at h; omega
  rw [lowU_toNat, if_pos this]; omega
theorem lowU_not {c : UInt8} (h : upB (c.toNat : Int) = false) : lowU c = c := by
  have : ¬ (65 ≤ c.toNat ∧ c.toNat ≤ 90) := by unfold upB at h; simp at h; omega
  unfold lowU; rw [if_neg this]
theorem lowU_raw (c : UInt8) : (if 65 ≤ c.toNat ∧ c.toNat ≤ 90 then ((c.toNat : Int) + 32) % 256 else c.toNat) = ((lowU c).toNat : Int) := by
  rw [lowU_toNat]; split <;> omega

set_option maxRecDepth 100000 in
theorem clower_any (s : ByteArray) (w : World) (hs : s.size ≤ 1000) :
    Calls Try.prog 82 #[.string s] w fun e w' => e = .returned (.string (low s)) ∧ Below w.heap.size w w' := by
  have hcv := fun w => run_bytes_of_string (P := Try.prog) w 9 105 5 s Try.underlying9 Try.underlying105 Try.underlying5
  have hst := LowRel.start s w (grownCap w s.size 0 5) (bytesRow s (grownCap w s.size 0 5)).size (by unfold bytesRow; rw [Array.size_append, Array.size_map]; exact Nat.le_add_right _ _)
  have HST := Lib.hid hst; clear hst
  go_enter Try.func82, Try.ntmps82
  go_wp2_with fail
  clear hcv
  generalize grownCap w s.size 0 5 = cap at HST ⊢
  go_loopw [10] (fun i wr => ∃ k : Nat, k ≤ s.size ∧ i = .int .i64 k ∧ LowRel s w k wr) (fun i _ => s.size - (intOf i).toNat)
  case atStart => exact ⟨0, Nat.zero_le _, rfl, HST.out⟩
  case round =>
    obtain ⟨k, hk, rfl, hR⟩ := hrel
    by_cases hlt : k < s.size
    · have hc := hR.todo k hlt (Nat.le_refl _)
      have hf := hR.free k hlt
      have hb : (s[k].toNat : Int) ≤ 255 := by have := s[k].toNat_lt; omega
      have HR := Lib.hid hR; clear hR
      go_wp2_with (go_at_call 83; refine (upper_any _ _ (by omega) hb).mono ?_; rintro e w' ⟨rfl, rfl⟩)
      · have hu : upB (s[k].toNat : Int) = true := by assumption
        go_roundw
        case rel => exact ⟨k + 1, by omega, by go_num, HR.out.store hlt _ (lowU_up hu)⟩
        case measure => simp [intOf]; omega
      · have hu : upB (s[k].toNat : Int) = false := by assumption
        go_roundw
        case rel => exact ⟨k + 1, by omega, by go_num, HR.out.skip hlt (lowU_not hu)⟩
        case measure => simp [intOf]; omega
    · obtain rfl : k = s.size := by omega
      have hB := hR.below
      have hback := Lib.run_convert_whole (P := Try.prog) wr 105 5 9 Try.underlying105 Try.underlying5 Try.underlying9 w.heap.size 0 (low s) hR.bytes cap
      rw [low_size] at hback
      clear hR
      go_wp2_with fail
      go_ret
      exact ⟨rfl, hB⟩

set_option maxRecDepth 100000 in
theorem crlower_any (s : ByteArray) (w : World) (hs : s.size ≤ 1000) :
    Calls Try.prog 77 #[.string s] w fun e w' => e = .returned (.string (low s)) ∧ Below w.heap.size w w' := by
  have hcv := fun w => run_bytes_of_string (P := Try.prog) w 9 105 5 s Try.underlying9 Try.underlying105 Try.underlying5
  have hst := LowRel.start s w (grownCap w s.size 0 5) (bytesRow s (grownCap w s.size 0 5)).size (by unfold bytesRow; rw [Array.size_append, Array.size_map]; exact Nat.le_add_right _ _)
  have HST := Lib.hid hst; clear hst
  go_enter Try.func77, Try.ntmps77
  go_wp2_with fail
  clear hcv
  generalize grownCap w s.size 0 5 = cap at HST ⊢
  go_loopw [9] (fun i wr => ∃ k : Nat, k ≤ s.size ∧ i = .int .i64 k ∧ LowRel s w k wr) (fun i _ => s.size - (intOf i).toNat)
  case atStart => exact ⟨0, Nat.zero_le _, rfl, HST.out⟩
  case round =>
    obtain ⟨k, hk, rfl, hR⟩ := hrel
    by_cases hlt : k < s.size
    · have hc := hR.todo k hlt (Nat.le_refl _)
      have hf := hR.free k hlt
      have hb : (s[k].toNat : Int) ≤ 255 := by have := s[k].toNat_lt; omega
      have HR := Lib.hid hR; clear hR
      go_wp2_with fail
      · have h1 : (65 : Int) ≤ s[k].toNat := by assumption
        have h2 : (s[k].toNat : Int) ≤ 90 := by assumption
        go_roundw
        case rel => exact ⟨k + 1, by omega, by go_num, HR.out.store hlt _ (by rw [lowU_toNat, if_pos (by omega)]; omega)⟩
        case measure => simp [intOf]; omega
      · have h2 : 90 < (s[k].toNat : Int) := by assumption
        go_roundw
        case rel => exact ⟨k + 1, by omega, by go_num, HR.out.skip hlt (by unfold lowU; rw [if_neg (by omega)])⟩
        case measure => simp [intOf]; omega
      · have h1 : ¬ (65 : Int) ≤ s[k].toNat := by assumption
        go_roundw
        case rel => exact ⟨k + 1, by omega, by go_num, HR.out.skip hlt (by unfold lowU; rw [if_neg (by omega)])⟩
        case measure => simp [intOf]; omega
    · obtain rfl : k = s.size := by omega
      have hB := hR.below
      have hback := Lib.run_convert_whole (P := Try.prog) wr 105 5 9 Try.underlying105 Try.underlying5 Try.underlying9 w.heap.size 0 (low s) hR.bytes cap
      rw [low_size] at hback
      clear hR
      go_wp2_with fail
      go_ret
      exact ⟨rfl, hB⟩

/-- Is a list short? -/
def fewT (l : List It) : Bool := decide (l.length ≤ 40) && decide (txtI l ≤ 600)
def kdN (n : Int) : Int := if n = 9 ∨ n = 10 ∨ n = 13 ∨ n = 32 then 8 else if 48 ≤ n ∧ n ≤ 57 then 7 else if (65 ≤ n ∧ n ≤ 90) ∨ (97 ≤ n ∧ n ≤ 122) ∨ 128 ≤ n then 6 else 9
theorem kdN_eq (b : UInt8) : kindT b = kdN (b.toNat : Int) := by
  have hb := byteU_le b
  have h0 : (0 : Int) ≤ (b.toNat : Int) := by omega
  unfold kindT cb kdN cls
  generalize (b.toNat : Int) = n at *
  repeat' split
  all_goals first | rfl | omega
def keyT (k : Int) (t : ByteArray) : ByteArray := if k = 6 then low t else t

theorem key_any (k : Int) (t : ByteArray) (id : Int) (w : World) (ht : t.size ≤ 1000) : Calls Try.prog 78 #[.agg #[.int .i64 k, .string t, .int .i64 id]] w fun e w' => e = .returned (.string (keyT k t)) ∧ Below w.heap.size w w' := by
  have hl := fun W => clower_any t W ht
  have HL := Lib.hid hl; clear hl
  by_cases h : k = 6
  · have HK := Lib.hid (show keyT k t = low t from if_pos h)
    have q : (k == 6) = true := by simpa using h
    clear h
    go_enter Try.func78, Try.ntmps78
    go_wp2_with fail
    refine (HL.out _).mono ?_; rintro e w1 ⟨rfl, hb⟩
    go_wp2_with fail
    go_ret
    exact ⟨by rw [HK.out]; rfl, BelowOn (blw (Below.refl _ _) _) hb⟩
  · have HK := Lib.hid (show keyT k t = t from if_neg h)
    have q : (k == 6) = false := by simpa using h
    clear h
    go_enter Try.func78, Try.ntmps78
    go_wp2_with fail
    go_ret
    exact ⟨by rw [HK.out]; rfl, blw (Below.refl _ _) _⟩
theorem tsame_any (k1 : Int) (t1 : ByteArray) (i1 k2 : Int) (t2 : ByteArray) (i2 : Int) (w : World) : Calls Try.prog 79 #[.agg #[.int .i64 k1, .string t1, .int .i64 i1], .agg #[.int .i64 k2, .string t2, .int .i64 i2]] w
    fun e w' => e = .returned (.bool (decide (k1 = k2 ∧ t1 = t2))) ∧ Below w.heap.size w w' := by
  by_cases h : k1 = k2
  · by_cases h2 : t1 = t2
    · have HK := Lib.hid (show decide (k1 = k2 ∧ t1 = t2) = true from decide_eq_true ⟨h, h2⟩)
      rw [HK.out]
      clear HK
      subst h; subst h2
      go_enter Try.func79, Try.ntmps79
      go_wp2_with fail
      go_ret
      exact ⟨rfl, blw (blw (Below.refl _ _) _) _⟩
    · have HK := Lib.hid (show decide (k1 = k2 ∧ t1 = t2) = false from decide_eq_false fun c => h2 c.2)
      rw [HK.out]
      clear HK
      subst h
      have q1 := strl_ne h2
      have q2 := str_ne h2
      clear h2
      go_enter Try.func79, Try.ntmps79
      go_wp2_with fail
      go_ret
      exact ⟨rfl, blw (blw (Below.refl _ _) _) _⟩
  · have HK := Lib.hid (show decide (k1 = k2 ∧ t1 = t2) = false from decide_eq_false fun c => h c.1)
    rw [HK.out]
    clear HK
    have q1 : (k1 == k2) = false := by simpa using h
    go_enter Try.func79, Try.ntmps79
    go_wp2_with fail
    go_ret
    exact ⟨rfl, blw (blw (Below.refl _ _) _) _⟩

theorem rkey_any (k : Int) (t : ByteArray) (id : Int) (w : World) (ht : t.size ≤ 1000) : Calls Try.prog 63 #[.agg #[.int .i64 k, .string t, .int .i64 id]] w fun e w' => e = .returned (.string (keyT k t)) ∧ Below w.heap.size w w' := by
  have hl := fun W => crlower_any t W ht
  have HL := Lib.hid hl; clear hl
  by_cases h : k = 6
  · have HK := Lib.hid (show keyT k t = low t from if_pos h)
    have q : (k == 6) = true := by simpa using h
    clear h
    go_enter Try.func63, Try.ntmps63
    go_wp2_with fail
    refine (HL.out _).mono ?_; rintro e w1 ⟨rfl, hb⟩
    go_wp2_with fail
    go_ret
    exact ⟨by rw [HK.out]; rfl, BelowOn (blw (Below.refl _ _) _) hb⟩
  · have HK := Lib.hid (show keyT k t = t from if_neg h)
    have q : (k == 6) = false := by simpa using h
    clear h
    go_enter Try.func63, Try.ntmps63
    go_wp2_with fail
    go_ret
    exact ⟨by rw [HK.out]; rfl, blw (Below.refl _ _) _⟩
theorem rtsame_any (k1 : Int) (t1 : ByteArray) (i1 k2 : Int) (t2 : ByteArray) (i2 : Int) (w : World) : Calls Try.prog 62 #[.agg #[.int .i64 k1, .string t1, .int .i64 i1], .agg #[.int .i64 k2, .string t2, .int .i64 i2]] w
    fun e w' => e = .returned (.bool (decide (k1 = k2 ∧ t1 = t2))) ∧ Below w.heap.size w w' := by
  by_cases h : k1 = k2
  · by_cases h2 : t1 = t2
    · have HK := Lib.hid (show decide (k1 = k2 ∧ t1 = t2) = true from decide_eq_true ⟨h, h2⟩)
      rw [HK.out]
      clear HK
      subst h; subst h2
      go_enter Try.func62, Try.ntmps62
      go_wp2_with fail
      go_ret
      exact ⟨rfl, blw (blw (Below.refl _ _) _) _⟩
    · have HK := Lib.hid (show decide (k1 = k2 ∧ t1 = t2) = false from decide_eq_false fun c => h2 c.2)
      rw [HK.out]
      clear HK
      subst h
      have q1 := strl_ne h2
      have q2 := str_ne h2
      clear h2
      go_enter Try.func62, Try.ntmps62
      go_wp2_with fail
      go_ret
      exact ⟨rfl, blw (blw (Below.refl _ _) _) _⟩
  · have HK := Lib.hid (show decide (k1 = k2 ∧ t1 = t2) = false from decide_eq_false fun c => h c.1)
    rw [HK.out]
    clear HK
    have q1 : (k1 == k2) = false := by simpa using h
    go_enter Try.func62, Try.ntmps62
    go_wp2_with fail
    go_ret
    exact ⟨rfl, blw (blw (Below.refl _ _) _) _⟩
end Go.Proofs.Ytpkipdiecnokhaa
