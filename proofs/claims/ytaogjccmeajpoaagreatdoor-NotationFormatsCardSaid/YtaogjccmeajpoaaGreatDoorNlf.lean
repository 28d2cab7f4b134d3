/- Contract of the law's few, and cuts of a text. -/
import Derived.Test.YtaogjccmeajpoaaGreatDoorNrg
import Derived.Test.YtaogjccmeajpoaaGreatDoorArf
namespace Go.Proofs.YtaogjccmeajpoaaGreatDoor
open Go.ChangeShapes Go.WideShapes Go.ChangeAt Go.RowKit
set_option linter.unusedVariables false
set_option maxRecDepth 100000

/-- Is a list short? -/
def few4 (l : List It) : Bool := decide (l.length ≤ 40) && decide (txtI l ≤ 600)
theorem few4_any (p : Option Addr) (cap : Nat) (l : List It) (w : World) (hR : Its w p l) (hO : Oks l) (hc : l.length ≤ cap) (hm : cap ≤ maxLen) :
    Calls Tryz.prog 7 #[.slice p l.length cap] w fun e w' => e = .returned (.bool (few4 l)) ∧ w = w' := by
  unfold maxLen at hm
  have hsum : l.length ≤ 40 → ∀ k, k ≤ l.length → txtI (l.take k) ≤ k * 140737488355328 := fun h40 k => by
    intro hk
    induction k with
    | zero => simp [txtI]
    | succ j ih =>
      rw [txtI_next l j (by omega)]
      have := ih (by omega)
      have h1 := (hO j (by omega)).t
      omega
  have HS := Lib.hid hsum; clear hsum
  go_enter Tryz.func7, Tryz.ntmps7
  go_wp2_with fail
  go_loop [3, 7] (fun v i => ∃ k : Nat, ∃ z : Int, k ≤ l.length ∧ i = .int .i64 k ∧ v = .int .i64 z ∧ Hid (l.length ≤ 40 → z = txtI (l.take k))) (fun _ i => l.length - (intOf i).toNat)
  case atStart => exact ⟨0, 0, Nat.zero_le _, rfl, rfl, Lib.hid (fun _ => rfl)⟩
  case round =>
    obtain ⟨k, z, hk, rfl, rfl, HZ⟩ := hrel
    by_cases hlt : k < l.length
    · obtain ⟨a, rfl, ha, c0, c1, c2⟩ := hR.row k hlt
      have hn := txtI_next l k hlt
      have HN := Lib.hid hn; clear hn
      go_wp2_with fail
      go_round
      case rel =>
        refine ⟨k + 1, _, hlt, by go_num, rfl, Lib.hid (fun h40 => ?_)⟩
        have b := HS.out h40 (k + 1) hlt
        rw [HN.out] at b ⊢
        rw [HZ.out h40]
        unfold wrap64
        omega
      case measure => simp [intOf]; omega
    · obtain rfl : k = l.length := by omega
      rw [List.take_length] at HZ
      by_cases h40 : l.length ≤ 40
      · have hz := HZ.out h40
        go_wp2_with fail
        go_ret
        exact ⟨ret_bool (by unfold few4; rw [Bool.eq_iff_iff]; simp [h40]; omega), rfl⟩
      · go_wp2_with fail
        go_ret
        exact ⟨ret_bool (by unfold few4; simp [h40]), rfl⟩
end Go.Proofs.YtaogjccmeajpoaaGreatDoor
