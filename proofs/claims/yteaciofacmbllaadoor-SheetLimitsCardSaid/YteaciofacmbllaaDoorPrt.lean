/- The reference's Plain, SameInts, SameTexts. -/
import Derived.Test.YteaciofacmbllaaDoorPln
import Derived.Test.YteaciofacmbllaaDoorNum
namespace Go.Proofs.YteaciofacmbllaaDoor
open Go.ChangeShapes Go.WideShapes Go.ChangeAt Go.RowKit
set_option linter.unusedVariables false
set_option maxRecDepth 100000

def pS (l : List It) : ByteArray := ⟨(plainL l).toArray⟩
theorem pS_text (l : List It) (k : Nat) (h : k < l.length) (hk : (l[k]'h).k = 1) : pS (l.take (k + 1)) = pS (l.take k) ++ (l[k]'h).t := by
  unfold pS; rw [plain_next l k h, show plainB (l[k]'h) = (l[k]'h).t.data.toList from if_pos hk]
  apply ByteArray.ext; simp
theorem pS_slot (l : List It) (k : Nat) (h : k < l.length) (hk : (l[k]'h).k = 5) : pS (l.take (k + 1)) = pS (l.take k) ++ ⟨#[255]⟩ := by
  unfold pS; rw [plain_next l k h, show plainB (l[k]'h) = [255] by unfold plainB; rw [hk]; rfl]
  apply ByteArray.ext; simp
theorem pS_other (l : List It) (k : Nat) (h : k < l.length) (h1 : (l[k]'h).k ≠ 1) (h5 : (l[k]'h).k ≠ 5) : pS (l.take (k + 1)) = pS (l.take k) := by
  unfold pS; rw [plain_next l k h, show plainB (l[k]'h) = [] by unfold plainB; rw [if_neg h1, if_neg h5]]; simp
theorem pS_size (l : List It) (k : Nat) (h : k ≤ l.length) : (pS (l.take k)).size ≤ txtI (l.take k) + k := by
  have h1 := plain_len l k h
  have h2 : (pS (l.take k)).size = (plainL (l.take k)).length := by show (plainL (l.take k)).toArray.size = _; simp
  rw [h2]; exact h1

theorem one_row {α : Type} {en : α → Value} {W : World} {p : Option Addr} {l : List α} (h : Ones W en p l) (i : Nat) (hi : i < l.length) : ∃ a, p = some a ∧ a.block < W.heap.size ∧ W.cell? (a.add i) = some (en (l[i]'hi)) := by
  obtain ⟨a, hp, hlt, hc⟩ := h (by omega)
  exact ⟨a, hp, hlt, hc i hi⟩
theorem ones_eq_at {α : Type} {l m : List α} (hlen : l.length = m.length) (h : ∀ j (hl : j < l.length) (hm : j < m.length), l[j] = m[j]) : l = m := List.ext_getElem hlen h

set_option maxHeartbeats 1600000 in
theorem sameints_any (p q : Option Addr) (c d : Nat) (l m : List Int) (w : World) (hR : Ones w (Value.int .i64) p l) (hS : Ones w (Value.int .i64) q m) (hc : l.length ≤ c) (hd : m.length ≤ d) (hcm : c ≤ maxLen) (hdm : d ≤ maxLen) :
    Calls Tryd.prog 21 #[.slice p l.length c, .slice q m.length d] w fun e w' => e = .returned (.bool (decide (l = m))) ∧ Below w.heap.size w w' := by
  unfold maxLen at hcm hdm
  by_cases hlen : l.length = m.length
  · have qn : ((l.length : Int) != (l.length : Int)) = false := by simp
    have HM := Lib.hid (fun k (h : k < l.length) => (by omega : k < m.length))
    have HLEN := Lib.hid hlen
    rw [← hlen] at hd ⊢
    clear hlen
    have mixed : Tryd.prog.follows .mixedOrders = true := by kernel_rfl
    go_enter Tryd.func21, Tryd.ntmps21
    go_wp2_with fail
    go_loopw [13] (fun i wr => ∃ k : Nat, k ≤ l.length ∧ i = .int .i64 k ∧ Below w.heap.size w wr ∧ Hid (∀ j (hl : j < l.length) (hm : j < m.length), j < k → l[j] = m[j])) (fun i _ => l.length - (intOf i).toNat)
    case atStart => exact ⟨0, Nat.zero_le _, rfl, Below.refl _ _, Lib.hid (fun j _ _ h => by omega)⟩
    case round =>
      obtain ⟨k, hk, rfl, hB, HK⟩ := hrel
      by_cases hlt : k < l.length
      · obtain ⟨a, rfl, ha, c0⟩ := one_row (hR.call hB) k hlt
        obtain ⟨b, rfl, hb, d0⟩ := one_row (hS.call hB) k (HM.out k hlt)
        have hne : l[k] ≠ m[k]'(HM.out k hlt) → l ≠ m := fun h e => by subst e; exact h rfl
        have hnext : l[k] = m[k]'(HM.out k hlt) → ∀ j (hl : j < l.length) (hm : j < m.length), j < k + 1 → l[j] = m[j] := fun h j hl hm hj => by
          by_cases e : j = k
          · subst e; exact h
          · exact HK.out j hl hm (by omega)
        generalize l[k] = x at *
        generalize m[k]'(HM.out k hlt) = y at *
        have HN := Lib.hid hne; have HX := Lib.hid hnext; clear hne hnext
        by_cases hxy : x = y
        · subst hxy
          have HX' := Lib.hid (HX.out rfl)
          clear HX HN
          go_wp2_with fail
          go_quiet (fail)
          go_wp2_with fail
          go_roundw
          case rel => exact ⟨k + 1, hlt, by go_num, bdrN hB _, HX'⟩
          case measure => simp [intOf]; omega
        · clear HX
          have HZ := Lib.hid (HN.out hxy)
          go_wp2_with fail
          go_quiet (fail)
          go_wp2_with fail
          go_ret
          exact ⟨ret_bool (decide_eq_false HZ.out).symm, bdrN hB _⟩
      · obtain rfl : k = l.length := by omega
        have HZ := Lib.hid (ones_eq_at HLEN.out (fun j hl hm => HK.out j hl hm hl))
        go_wp2_with fail
        go_ret
        exact ⟨ret_bool (decide_eq_true HZ.out).symm, hB⟩
  · have qn : ((l.length : Int) != (m.length : Int)) = true := by simp; omega
    have qn' : (l.length != m.length) = true := by simp; omega
    have HZ := Lib.hid (decide_eq_false (p := l = m) (fun e => hlen (by rw [e])))
    clear hlen
    go_enter Tryd.func21, Tryd.ntmps21
    go_wp2_with fail
    go_ret
    exact ⟨ret_bool HZ.out.symm, Below.refl _ _⟩

end Go.Proofs.YteaciofacmbllaaDoor
