/- Contracts of Trim and of the reference's Trim: the offsets of a string without spaces at its ends. -/
import Derived.Test.YtofnloapcfhmkaaLeaf
import Derived.LoopTactic
import Derived.Outline
namespace Go.Proofs.Ytofnloapcfhmkaa
open Go.ChangeShapes Go.WideShapes Go.ChangeAt Go.RowKit
open Go.ChangeMaps (open_string shut_string)
set_option linter.unusedVariables false

/-- Is byte i a space? -/
def spB (s : ByteArray) (i : Nat) : Bool := cls ((s.data.toList.getD i 0).toNat : Int) == 2
def tEnd (sp : Nat → Bool) : Nat → Nat
  | 0 => 0
  | n + 1 => if sp n = true then tEnd sp n else n + 1
def tBegF (sp : Nat → Bool) : Nat → Nat → Nat
  | 0, k => k
  | f + 1, k => if sp k = true then tBegF sp f (k + 1) else k
def tE (s : ByteArray) : Nat := tEnd (spB s) s.size
def tF (s : ByteArray) : Nat := tBegF (spB s) (tE s) 0
theorem spB_at (s : ByteArray) (i : Nat) (h : i < s.size) : spB s i = (cls (s[i].toNat : Int) == 2) := by unfold spB; rw [byte_getD s i h]
theorem tEnd_le (sp : Nat → Bool) (n : Nat) : tEnd sp n ≤ n := by
  induction n with
  | zero => exact Nat.le_refl _
  | succ n ih => unfold tEnd; split <;> omega
theorem tEnd_last (sp : Nat → Bool) (n : Nat) (h : 0 < tEnd sp n) : sp (tEnd sp n - 1) = false := by
  induction n with
  | zero => exact absurd h (by unfold tEnd; omega)
  | succ n ih =>
    unfold tEnd at h ⊢
    split
    · rename_i h'; rw [if_pos h'] at h; exact ih h
    · rename_i h'; simpa using h'
theorem tEnd_after (sp : Nat → Bool) (n i : Nat) (h : tEnd sp n ≤ i) (hi : i < n) : sp i = true := by
  induction n with
  | zero => omega
  | succ n ih =>
    unfold tEnd at h
    split at h
    · rename_i h'
      by_cases e : i = n
      · rw [e]; exact h'
      · exact ih h (by omega)
    · omega
theorem tBegF_eq (sp : Nat → Bool) (f k k' : Nat) (h1 : k ≤ k') (h2 : k' ≤ k + f) (h3 : ∀ i, k ≤ i → i < k' → sp i = true) (h4 : k' = k + f ∨ sp k' = false) : tBegF sp f k = k' := by
  induction f generalizing k with
  | zero => unfold tBegF; omega
  | succ f ih =>
    unfold tBegF
    by_cases e : k = k'
    · subst e
      rcases h4 with h4 | h4
      · omega
      · rw [if_neg (by simp [h4])]
    · rw [if_pos (h3 k (Nat.le_refl _) (by omega))]
      exact ih (k + 1) (by omega) (by omega) (fun i hi hi' => h3 i (by omega) hi') (h4.imp (fun h => by omega) id)
theorem tF_eq (s : ByteArray) (k : Nat) (h2 : k ≤ tE s) (h3 : ∀ i, i < k → spB s i = true) (h4 : k = tE s ∨ spB s k = false) : tF s = k :=
  tBegF_eq _ _ _ _ (Nat.zero_le _) (by omega) (fun i _ hi => h3 i hi) (h4.imp (fun h => by omega) id)
/-- Not all are spaces: the first other byte lies before the end. -/
theorem tF_lt (s : ByteArray) (h : 0 < tE s) : tF s < tE s ∧ spB s (tF s) = false ∧ ∀ i, i < tF s → spB s i = true := by
  have hl := tEnd_last (spB s) s.size h
  -- the least byte that is no space
  have key : ∀ n, (∀ i, i < n → spB s i = true) ∨ ∃ k, k < n ∧ spB s k = false ∧ ∀ i, i < k → spB s i = true := by
    intro n
    induction n with
    | zero => exact .inl (fun i hi => by omega)
    | succ n ih =>
      rcases ih with ih | ⟨k, h1, h2, h3⟩
      · cases hn : spB s n
        · exact .inr ⟨n, by omega, hn, ih⟩
        · exact .inl (fun i hi => by
            by_cases e : i = n
            · rw [e]; exact hn
            · exact ih i (by omega))
      · exact .inr ⟨k, by omega, h2, h3⟩
  rcases key (tE s) with hk | ⟨k, h1, h2, h3⟩
  · have := hk (tE s - 1) (by omega)
    rw [show tE s = tEnd (spB s) s.size from rfl] at this
    rw [hl] at this; cases this
  · have e := tF_eq s k (by omega) h3 (.inr h2)
    rw [e]; exact ⟨h1, h2, h3⟩
theorem tF_zero (s : ByteArray) (h : tE s = 0) : tF s = 0 := by unfold tF; rw [h]; rfl

theorem byte_le' (c : UInt8) : (c.toNat : Int) ≤ 255 := by have := c.toNat_lt; omega

theorem trim_any (s : ByteArray) (w : World) (hs : s.size ≤ 1000) :
    Calls Try.prog 18 #[.string s] w fun e w' => e = .returned (.tuple #[.int .i64 (tF s), .int .i64 (tE s)]) ∧ w = w' := by
  go_enter Try.func18, Try.ntmps18
  go_wp2_with fail
  go_loop [3] (fun i => ∃ k : Nat, k ≤ s.size ∧ i = .int .i64 k ∧ Hid (tEnd (spB s) k = tE s)) (fun i => (intOf i).toNat)
  case atStart => exact ⟨s.size, Nat.le_refl _, rfl, rfl⟩
  case round =>
    obtain ⟨k, hk, rfl, HK⟩ := hrel
    by_cases h0 : k = 0
    · subst h0
      have he : tE s = 0 := HK.out.symm
      have hf := tF_zero s he
      have HE := Lib.hid he; have HF := Lib.hid hf; clear he hf
      go_wp2_with fail
      go_loop [2] (fun i => i = .int .i64 0) (fun i => (0 : Nat))
      case atStart => rfl
      case round =>
        obtain rfl := hrel
        go_wp2_with fail
        go_ret2
        exact ⟨by rw [HE.out, HF.out]; rfl, rfl⟩
    · obtain ⟨j, rfl⟩ : ∃ j, k = j + 1 := ⟨k - 1, by omega⟩
      have hj : j < s.size := by omega
      have hb := byte_le' s[j]
      cases hsp : (cls (s[j].toNat : Int) == 2)
      · have hsj := spB_at s j hj
        rw [hsp] at hsj
        have he : tE s = j + 1 := by rw [← HK.out]; unfold tEnd; rw [if_neg (by simp [hsj])]
        have HE := Lib.hid he; clear he
        have HS := Lib.hid hsj; clear hsj
        go_wp2_with (go_at_call 12; refine (of_any _ _ (by omega) hb).mono ?_; rintro e w' ⟨rfl, rfl⟩)
        clear hsp
        go_loop [2] (fun i => ∃ k : Nat, k ≤ j ∧ i = .int .i64 k ∧ Hid (∀ i, i < k → spB s i = true)) (fun i => j + 1 - (intOf i).toNat)
        case atStart => exact ⟨0, by omega, rfl, fun i hi => by omega⟩
        case round =>
          obtain ⟨k, hkj, rfl, HP⟩ := hrel
          have hb2 := byte_le' s[k]
          cases hsp : (cls (s[k].toNat : Int) == 2)
          · have hsk := spB_at s k (by omega)
            rw [hsp] at hsk
            have hf := tF_eq s k (by rw [HE.out]; omega) HP.out (.inr hsk)
            have HF := Lib.hid hf; clear hf
            have HSK := Lib.hid hsk; clear hsk
            go_wp2_with (go_at_call 12; refine (of_any _ _ (by omega) hb2).mono ?_; rintro e w' ⟨rfl, rfl⟩)
            go_ret2
            exact ⟨by rw [HE.out, HF.out]; rfl, rfl⟩
          · have hsk := spB_at s k (by omega)
            rw [hsp] at hsk
            have hne : k ≠ j := fun e => by subst e; rw [HS.out] at hsk; cases hsk
            have HSK := Lib.hid hsk; clear hsk
            have hlt : k < j := by omega
            clear hne
            go_wp2_with (go_at_call 12; refine (of_any _ _ (by omega) hb2).mono ?_; rintro e w' ⟨rfl, rfl⟩)
            go_round
            case rel => exact ⟨k + 1, by omega, by go_num, fun i hi => by
                          by_cases e : i = k
                          · rw [e]; exact HSK.out
                          · exact HP.out i (by omega)⟩
            case measure => simp [intOf]; omega
      · have hsj := spB_at s j hj
        rw [hsp] at hsj
        have he : tEnd (spB s) j = tE s := by rw [← HK.out]; conv => rhs; unfold tEnd
                                              rw [if_pos hsj]
        have HE := Lib.hid he; clear he hsj
        go_wp2_with (go_at_call 12; refine (of_any _ _ (by omega) hb).mono ?_; rintro e w' ⟨rfl, rfl⟩)
        go_round
        case rel => exact ⟨j, by omega, by go_num, HE⟩
        case measure => simp [intOf]

theorem rtrim_any (s : ByteArray) (w : World) (hs : s.size ≤ 1000) :
    Calls Try.prog 19 #[.string s] w fun e w' => e = .returned (.tuple #[.int .i64 (tF s), .int .i64 (tE s)]) ∧ w = w' := by
  have hle : tE s ≤ s.size := tEnd_le _ _
  by_cases h0 : tE s = 0
  · have hf := tF_zero s h0
    have hall : ∀ i, i < s.size → spB s i = true := fun i hi => tEnd_after (spB s) s.size i (by rw [show tEnd (spB s) s.size = tE s from rfl, h0]; omega) hi
    have HE := Lib.hid h0; have HF := Lib.hid hf; have HA := Lib.hid hall; clear h0 hf hall hle
    go_enter Try.func19, Try.ntmps19
    go_wp2_with fail
    go_loop [4] (fun i => ∃ k : Nat, k ≤ s.size ∧ i = .int .i64 k) (fun i => s.size - (intOf i).toNat)
    case atStart => exact ⟨0, by omega, rfl⟩
    case round =>
      obtain ⟨k, hk, rfl⟩ := hrel
      by_cases hlt : k < s.size
      · have hb := byte_le' s[k]
        have hsp : (cls (s[k].toNat : Int) == 2) = true := by rw [← spB_at s k hlt]; exact HA.out k hlt
        go_wp2_with (go_at_call 13; refine (rof_any _ _ (by omega) hb).mono ?_; rintro e w' ⟨rfl, rfl⟩)
        go_round
        case rel => exact ⟨k + 1, by omega, by go_num⟩
        case measure => simp [intOf]; omega
      · obtain rfl : k = s.size := by omega
        have q : ((s.size : Int) == (s.size : Int)) = true := by simp
        go_wp2_with fail
        go_ret2
        exact ⟨by rw [HE.out, HF.out]; rfl, rfl⟩
  · obtain ⟨h1, h2, h3⟩ := tF_lt s (by omega)
    have HL := Lib.hid (tEnd_last (spB s) s.size (by rw [show tEnd (spB s) s.size = tE s from rfl]; omega))
    have HA : Hid (∀ i, tE s ≤ i → i < s.size → spB s i = true) := fun i hi hi' => tEnd_after (spB s) s.size i hi hi'
    have H2 := Lib.hid h2; have H3 := Lib.hid h3; clear h2 h3
    generalize hF : tF s = F at *
    generalize hE : tE s = E at *
    have HE := Lib.hid hE; have HF := Lib.hid hF; clear hE hF
    go_enter Try.func19, Try.ntmps19
    go_wp2_with fail
    go_loop [4] (fun i => ∃ k : Nat, k ≤ F ∧ i = .int .i64 k) (fun i => s.size - (intOf i).toNat)
    case atStart => exact ⟨0, by omega, rfl⟩
    case round =>
      obtain ⟨k, hk, rfl⟩ := hrel
      have hlt : k < s.size := by omega
      have hb := byte_le' s[k]
      by_cases hkF : k < F
      · have hsp : (cls (s[k].toNat : Int) == 2) = true := by rw [← spB_at s k hlt]; exact H3.out k hkF
        go_wp2_with (go_at_call 13; refine (rof_any _ _ (by omega) hb).mono ?_; rintro e w' ⟨rfl, rfl⟩)
        go_round
        case rel => exact ⟨k + 1, by omega, by go_num⟩
        case measure => simp [intOf]; omega
      · obtain rfl : k = F := by omega
        have hsp : (cls (s[k].toNat : Int) == 2) = false := by rw [← spB_at s k hlt]; exact H2.out
        have q : ((k : Int) == (s.size : Int)) = false := by simp; omega
        go_wp2_with (go_at_call 13; refine (rof_any _ _ (by omega) hb).mono ?_; rintro e w' ⟨rfl, rfl⟩)
        clear hsp
        go_loop [5] (fun i => ∃ m : Nat, E ≤ m ∧ m ≤ s.size ∧ i = .int .i64 m) (fun i => (intOf i).toNat)
        case atStart => exact ⟨s.size, by omega, by omega, rfl⟩
        case round =>
          obtain ⟨m, hm1, hm2, rfl⟩ := hrel
          obtain ⟨j, rfl⟩ : ∃ j, m = j + 1 := ⟨m - 1, by omega⟩
          have hj : j < s.size := by omega
          have hb := byte_le' s[j]
          by_cases hEj : E ≤ j
          · have hsp : (cls (s[j].toNat : Int) == 2) = true := by rw [← spB_at s j hj]; exact HA.out j hEj hj
            go_wp2_with (go_at_call 13; refine (rof_any _ _ (by omega) hb).mono ?_; rintro e w' ⟨rfl, rfl⟩)
            go_round
            case rel => exact ⟨j, by omega, by omega, by go_num⟩
            case measure => simp [intOf]
          · obtain rfl : E = j + 1 := by omega
            have hsp : (cls (s[j].toNat : Int) == 2) = false := by
              have := HL.out
              rw [show tEnd (spB s) s.size = tE s from rfl, HE.out] at this
              rw [← spB_at s j hj]; exact this
            go_wp2_with (go_at_call 13; refine (rof_any _ _ (by omega) hb).mono ?_; rintro e w' ⟨rfl, rfl⟩)
            go_ret2
            exact ⟨rfl, rfl⟩
end Go.Proofs.Ytofnloapcfhmkaa
