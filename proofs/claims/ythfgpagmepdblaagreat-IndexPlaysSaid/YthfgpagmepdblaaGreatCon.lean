/- Contracts of the contents of tags: Cut at a space, IsContent, the reference's IsContent and Name. -/
import Derived.Test.YthfgpagmepdblaaGreatConM
import Derived.Test.YthfgpagmepdblaaGreatName
import Derived.Test.YthfgpagmepdblaaGreatShelf0
import Derived.LoopTactic
import Derived.Outline
namespace Go.Proofs.YthfgpagmepdblaaGreat
open Go.ChangeShapes Go.WideShapes Go.ChangeAt Go.RowKit
set_option linter.unusedVariables false
set_option maxRecDepth 100000

theorem rname_any (s : ByteArray) (w : World) (hs : s.size ≤ maxLen) :
    Calls Tryz.prog 33 #[.string s] w fun e w' => e = .returned (.string (nameB s)) ∧ w = w' := by
  unfold maxLen at hs
  go_enter Tryz.func33, Tryz.ntmps33
  go_wp2_with fail
  go_loop [3] (fun i => ∃ k : Nat, k ≤ s.size ∧ i = .int .i64 k ∧ Hid (∀ j, j < k → byte s j ≠ 32)) (fun i => s.size - (intOf i).toNat)
  case atStart => exact ⟨0, by omega, rfl, fun j hj => by omega⟩
  case round =>
    obtain ⟨k, hk, rfl, HK⟩ := hrel
    by_cases hlt : k < s.size
    · have hb := byte_at s k hlt
      by_cases h32 : (s[k].toNat : Int) = 32
      · have q : ((s[k].toNat : Int) == 32) = true := by simpa using h32
        have hn : nameB s = s.extract 0 k := by unfold nameB; rw [cutN_eq s k hlt HK.out (by rw [hb]; exact h32)]
        have HN := Lib.hid hn; clear hn hb h32
        go_wp2_with fail
        go_ret
        exact ⟨by rw [HN.out]; rfl, rfl⟩
      · have q : ((s[k].toNat : Int) == 32) = false := by simpa using h32
        have HB := Lib.hid hb; clear hb
        have H32 := Lib.hid h32; clear h32
        go_wp2_with fail
        go_round
        case rel => exact ⟨k + 1, by omega, by go_num, fun j hj => by
                      by_cases e : j = k
                      · rw [e, HB.out]; exact H32.out
                      · exact HK.out j (by omega)⟩
        case measure => simp [intOf]; omega
    · have hn : nameB s = s := nameB_all s (cutN_all s (fun i hi => HK.out i (by omega)))
      have HN := Lib.hid hn; clear hn
      go_wp2_with fail
      go_ret
      exact ⟨by rw [HN.out]; rfl, rfl⟩
end Go.Proofs.YthfgpagmepdblaaGreat
