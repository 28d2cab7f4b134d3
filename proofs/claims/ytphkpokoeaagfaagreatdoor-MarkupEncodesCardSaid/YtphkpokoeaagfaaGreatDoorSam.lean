/- Contracts of Same, and of the reference's Same. -/
import Derived.Test.YtphkpokoeaagfaaGreatDoorSli
import Derived.Test.YtphkpokoeaagfaaGreatDoorConM
import Derived.BigQuiet
import Derived.Deep.QuietTactic
namespace Go.Proofs.YtphkpokoeaagfaaGreatDoor
open Go.ChangeShapes Go.WideShapes Go.ChangeAt Go.RowKit
set_option linter.unusedVariables false
set_option maxRecDepth 100000

instance : DecidableEq It := fun a b => decidable_of_iff (a.k = b.k ∧ a.t = b.t ∧ a.id = b.id) ⟨fun h => It.ext' h.1 h.2.1 h.2.2, fun h => by rw [h]; exact ⟨rfl, rfl, rfl⟩⟩
theorem bdrN {b : Nat} {w w' : World} (h : Below b w w') (n : Nat) : Below b w (w'.drewN n) := ⟨h.os, h.tape, h.output, h.size, h.block⟩
theorem ne_at {l m : List It} (k : Nat) (hl : k < l.length) (hm : k < m.length) (h : l[k] ≠ m[k]) : l ≠ m := fun e => by subst e; exact h rfl
theorem eq_at {l m : List It} (hlen : l.length = m.length) (h : ∀ j (hl : j < l.length) (hm : j < m.length), l[j] = m[j]) : l = m := List.ext_getElem hlen h

set_option maxHeartbeats 1600000 in
theorem rsame_any (p q : Option Addr) (c d : Nat) (l m : List It) (w : World) (hR : Its w p l) (hS : Its w q m) (hc : l.length ≤ c) (hd : m.length ≤ d) (hcm : c ≤ maxLen) (hdm : d ≤ maxLen) :
    Calls Tryz.prog 13 #[.slice p l.length c, .slice q m.length d] w fun e w' => e = .returned (.bool (decide (l = m))) ∧ Below w.heap.size w w' := by
  unfold maxLen at hcm hdm
  by_cases hlen : l.length = m.length
  · have qn : ((l.length : Int) != (l.length : Int)) = false := by simp
    have hl' : l.length ≤ d := by omega
    rw [← hlen]
    have HLEN := Lib.hid hlen
    have hm : ∀ k, k < l.length → k < m.length := fun k h => by omega
    have HM := Lib.hid hm
    clear hlen hm hd
    go_enter Tryz.func13, Tryz.ntmps13
    go_wp2_with fail
    go_loopw [13] (fun i wr => ∃ k : Nat, k ≤ l.length ∧ i = .int .i64 k ∧ Below w.heap.size w wr ∧ Hid (∀ j (hl : j < l.length) (hm : j < m.length), j < k → l[j] = m[j])) (fun i _ => l.length - (intOf i).toNat)
    case atStart => exact ⟨0, Nat.zero_le _, rfl, Below.refl _ _, Lib.hid (fun j _ _ h => by omega)⟩
    case round =>
      obtain ⟨k, hk, rfl, hB, HK⟩ := hrel
      by_cases hlt : k < l.length
      · obtain ⟨a, rfl, ha, c0, c1, c2⟩ := (hR.call hB).row k hlt
        obtain ⟨b, rfl, hb, d0, d1, d2⟩ := (hS.call hB).row k (HM.out k hlt)
        have hne := ne_at (l := l) (m := m) k hlt (HM.out k hlt)
        have hnext : l[k] = m[k]'(HM.out k hlt) → ∀ j (hl : j < l.length) (hm : j < m.length), j < k + 1 → l[j] = m[j] := fun h j hl hm hj => by
          by_cases e : j = k
          · subst e; exact h
          · exact HK.out j hl hm (by omega)
        generalize l[k] = x at *
        generalize m[k]'(HM.out k hlt) = y at *
        have HN := Lib.hid hne; have HX := Lib.hid hnext; clear hne hnext
        obtain ⟨k1, t1, i1⟩ := x
        obtain ⟨k2, t2, i2⟩ := y
        dsimp only at c0 c1 c2 d0 d1 d2
        by_cases hkk : k1 = k2
        · subst hkk
          by_cases htt : t1 = t2
          · subst htt
            by_cases hii : i1 = i2
            · subst hii
              have HX' := Lib.hid (HX.out rfl)
              clear HX HN
              go_wp2_with fail
              go_quiet (fail)
              go_wp2_with fail
              go_roundw
              case rel => exact ⟨k + 1, hlt, by go_num, bdrN hB _, HX'⟩
              case measure => simp [intOf]; omega
            · clear HX
              have HZ := Lib.hid (HN.out (by intro e; injection e with e1 e2 e3; first | exact hkk e1 | exact htt e2 | exact hii e3))
              go_wp2_with fail
              go_quiet (fail)
              go_wp2_with fail
              go_ret
              exact ⟨ret_bool (decide_eq_false HZ.out).symm, bdrN hB _⟩
          · clear HX
            have qs := strl_ne htt
            have qs' := str_ne htt
            have HZ := Lib.hid (HN.out (by intro e; injection e with e1 e2 e3; first | exact hkk e1 | exact htt e2 | exact hii e3))
            go_wp2_with fail
            go_quiet (fail)
            go_wp2_with fail
            go_ret
            exact ⟨ret_bool (decide_eq_false HZ.out).symm, bdrN hB _⟩
        · clear HX
          have HZ := Lib.hid (HN.out (by intro e; injection e with e1 e2 e3; first | exact hkk e1 | exact htt e2 | exact hii e3))
          go_wp2_with fail
          go_quiet (fail)
          go_wp2_with fail
          go_ret
          exact ⟨ret_bool (decide_eq_false HZ.out).symm, bdrN hB _⟩
      · obtain rfl : k = l.length := by omega
        have HZ := Lib.hid (eq_at HLEN.out (fun j hl hm => HK.out j hl hm hl))
        go_wp2_with fail
        go_ret
        exact ⟨ret_bool (decide_eq_true HZ.out).symm, hB⟩
  · have qn : ((l.length : Int) != (m.length : Int)) = true := by simp; omega
    have qn' : (l.length != m.length) = true := by simp; omega
    have HZ := Lib.hid (decide_eq_false (p := l = m) (fun e => hlen (by rw [e])))
    clear hlen
    go_enter Tryz.func13, Tryz.ntmps13
    go_wp2_with fail
    go_ret
    exact ⟨ret_bool HZ.out.symm, Below.refl _ _⟩
end Go.Proofs.YtphkpokoeaagfaaGreatDoor
