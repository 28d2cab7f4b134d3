/- Contracts of cut and Slice, and of the reference's Slice. -/
import Derived.Test.YtnfapcfajoboaaaAcc
import Derived.Test.YtnfapcfajoboaaaLen
namespace Go.Proofs.Ytnfapcfajoboaaa
open Go.ChangeShapes Go.WideShapes Go.ChangeAt Go.RowKit
set_option linter.unusedVariables false
set_option maxRecDepth 100000

/-- An item with a part of its positions. -/
def cutI (x : It) (u v : Nat) : It := if x.k = 1 then ⟨x.k, x.t.extract u v, x.id⟩ else x
/-- What the positions from a to b take of an item that begins at s. -/
def oneI (x : It) (s a b : Nat) : List It := if max a s < min b (s + wid x) then [cutI x (max a s - s) (min b (s + wid x) - s)] else []
def slI : List It → Nat → Nat → Nat → List It
  | [], _, _, _ => []
  | x :: t, s, a, b => oneI x s a b ++ slI t (s + wid x) a b
theorem slI_append (l m : List It) : ∀ s a b, slI (l ++ m) s a b = slI l s a b ++ slI m (s + lenI l) a b := by
  induction l with
  | nil => intro s a b; simp [slI, lenI]
  | cons x t ih =>
    intro s a b
    rw [List.cons_append, slI, slI, ih]
    have : lenI (x :: t) = wid x + lenI t := by simp [lenI]
    rw [this, List.append_assoc, Nat.add_assoc]
theorem slI_next (l : List It) (k : Nat) (h : k < l.length) (a b : Nat) : slI (l.take (k + 1)) 0 a b = slI (l.take k) 0 a b ++ oneI l[k] (lenI (l.take k)) a b := by
  rw [List.take_succ_eq_append_getElem h, slI_append]
  simp [slI]
theorem oneI_len (x : It) (s a b : Nat) : (oneI x s a b).length ≤ 1 := by unfold oneI; split <;> simp
theorem slI_len (l : List It) : ∀ s a b, (slI l s a b).length ≤ l.length := by
  induction l with
  | nil => intro s a b; exact Nat.le_refl _
  | cons x t ih => intro s a b; rw [slI, List.length_append]; have := oneI_len x s a b; have := ih (s + wid x) a b; simp; omega
/-- What Slice gives. -/
def sliceOk (l : List It) (a b : Int) : Bool := decide (0 ≤ a ∧ a ≤ b ∧ b ≤ (lenI l : Int))
def sliceI (l : List It) (a b : Int) : List It := if sliceOk l a b = true then slI l 0 a.toNat b.toNat else []

theorem cut_anyI (x : It) (u v : Nat) (w : World) (hx : x.t.size ≤ 140737488355328) (h : x.k = 1 → u ≤ v ∧ v ≤ x.t.size) :
    Calls Try.prog 85 #[.agg #[.int .i64 x.k, .string x.t, .int .i64 x.id], .int .i64 u, .int .i64 v] w fun e w' => e = .returned (.agg #[.int .i64 (cutI x u v).k, .string (cutI x u v).t, .int .i64 (cutI x u v).id]) ∧ Below w.heap.size w w' := by
  by_cases hk : x.k = 1
  · obtain ⟨h1, h2⟩ := h hk
    have hc : cutI x u v = ⟨x.k, x.t.extract u v, x.id⟩ := if_pos hk
    rw [hc]
    have q : (x.k == 1) = true := by simpa using hk
    have c0 : (0 : Int) ≤ (u : Int) := by omega
    have c1 : (u : Int) ≤ (v : Int) := by omega
    have c2 : (v : Int) ≤ (x.t.size : Int) := by omega
    clear hc h hk
    go_enter Try.func85, Try.ntmps85
    go_wp2_with fail
    refine bodyPost_ret (v := .agg #[.int .i64 x.k, .string (x.t.extract u v), .int .i64 x.id]) (by simp [results, Try.results85, go_sem]) rfl ⟨rfl, ?_⟩
    exact blw (blw (Below.refl _ _) _) _
  · have hc : cutI x u v = x := if_neg hk
    rw [hc]
    have q : (x.k == 1) = false := by simpa using hk
    clear hc h
    go_enter Try.func85, Try.ntmps85
    go_wp2_with fail
    refine bodyPost_ret (v := .agg #[.int .i64 x.k, .string x.t, .int .i64 x.id]) (by simp [results, Try.results85, go_sem]) rfl ⟨rfl, ?_⟩
    exact blw (blw (Below.refl _ _) _) _

/-- The end of a call that gives a slice of items and a bool. -/
def EndSl (L : List It) (b : Bool) (w : World) (e : Ending) (w' : World) : Prop := ∃ v, e = .returned (.tuple #[v, .bool b]) ∧ AccI w L v w'
theorem slice_no (p : Option Addr) (cap : Nat) (l : List It) (a b : Int) (w : World) (hR : Its w p l) (hc : l.length ≤ cap) (hm : cap ≤ maxLen) (hl : lenI l < 4611686018427387904) (hno : sliceOk l a b = false) :
    Calls Try.prog 45 #[.slice p l.length cap, .int .i64 a, .int .i64 b] w (EndSl [] false w) := by
  have hlen := fun w hR => length_any p cap l w hR hc hm hl
  have HL := Lib.hid hlen
  by_cases h1 : a < 0
  · have q1 : decide (a < 0) = true := by simpa using h1
    clear hno hlen
    go_enter Try.func45, Try.ntmps45
    go_wp2_with fail
    go_ret2
    exact ⟨_, rfl, Acc.start _⟩
  have q1 : decide (a < 0) = false := by simpa using h1
  by_cases h2 : b < a
  · have q2 : decide (b < a) = true := by simpa using h2
    clear hno hlen
    go_enter Try.func45, Try.ntmps45
    go_wp2_with fail
    go_ret2
    exact ⟨_, rfl, Acc.start _⟩
  have q2 : decide (b < a) = false := by simpa using h2
  have h3 : (lenI l : Int) < b := by
    unfold sliceOk at hno
    simp at hno
    exact hno (by omega) (by omega)
  have q3 : decide ((lenI l : Int) < b) = true := by simpa using h3
  clear hno hlen
  go_enter Try.func45, Try.ntmps45
  go_wp2_with fail
  refine (HL.out _ hR).mono ?_; rintro e w1 ⟨rfl, hb⟩
  go_wp2_with fail
  go_ret2
  exact ⟨_, rfl, hb, OwnL.nil _ _⟩
theorem slice_yes (p : Option Addr) (cap : Nat) (l : List It) (a b : Nat) (w : World) (hR : Its w p l) (hO : Oks l) (hc : l.length ≤ cap) (hm : cap ≤ maxLen) (hl : lenI l < 4611686018427387904) (hn : l.length ≤ 4000000000000) (h1 : a ≤ b) (h2 : b ≤ lenI l) :
    Calls Try.prog 45 #[.slice p l.length cap, .int .i64 a, .int .i64 b] w (EndSl (slI l 0 a b) true w) := by
  have hlen := fun w hR => length_any p cap l w hR hc hm hl
  have HL := Lib.hid hlen
  have q1 : decide ((a : Int) < 0) = false := by simp
  have q2 : decide (b < a) = false := by simpa using h1
  have q3 : decide (lenI l < b) = false := by simpa using h2
  unfold maxLen at hm
  clear hlen
  go_enter Try.func45, Try.ntmps45
  go_wp2_with fail
  refine (HL.out _ hR).mono ?_; rintro e w1 ⟨rfl, hb⟩
  go_wp2_with fail
  clear q1 q2 q3
  go_loopw [8, 9, 30] (fun v st i wr => ∃ k : Nat, k ≤ l.length ∧ i = .int .i64 k ∧ st = .int .i64 (lenI (l.take k)) ∧ AccI w (slI (l.take k) 0 a b) v wr) (fun _ _ i _ => l.length - (intOf i).toNat)
  case atStart => exact ⟨0, Nat.zero_le _, rfl, rfl, hb, OwnL.nil _ _⟩
  case round =>
    obtain ⟨k, hk, rfl, rfl, hA⟩ := hrel
    by_cases hlt : k < l.length
    · obtain ⟨ad, rfl, had, c0, c1, c2⟩ := (hR.call hA.below).row k hlt
      have hk1 := lenI_next l k hlt
      have h3 := lenI_take l (k + 1)
      have hw := width_any l[k]
      have hs1 := slI_next l k hlt a b
      have hlen := slI_len (l.take k) 0 a b
      have hok := hO k hlt
      generalize l[k] = x at *
      generalize hm1 : lenI (l.take (k + 1)) = m1 at *
      generalize lenI (l.take k) = m0 at *
      have HM := Lib.hid hm1; clear hm1
      have HW := Lib.hid hw; clear hw
      have hL : (slI (l.take k) 0 a b).length ≤ 4000000000000 := by simp at hlen; omega
      generalize slI (l.take k) 0 a b = L at *
      clear hlen
      by_cases hin : max a m0 < min b (m0 + wid x)
      · rw [show oneI x m0 a b = [cutI x (max a m0 - m0) (min b (m0 + wid x) - m0)] from if_pos hin] at hs1
        have hcut := fun w => cut_anyI x (max a m0 - m0) (min b (m0 + wid x) - m0) w hok.t (fun h => by
          have : wid x = x.t.size := if_pos h
          omega)
        have HC := Lib.hid hcut
        have HS := Lib.hid hs1
        clear hcut hs1
        generalize hlo : max a m0 = lo at *
        generalize hhi : min b (m0 + wid x) = hi at *
        have e1 : (if a < m0 then (m0 : Int) else (a : Int)) = (lo : Int) := by split <;> omega
        have e2 : (if (m0 : Int) + (wid x : Int) < (b : Int) then (m0 : Int) + (wid x : Int) else (b : Int)) = (hi : Int) := by split <;> omega
        have e3 : ((lo - m0 : Nat) : Int) = (lo : Int) - (m0 : Int) := by omega
        have e4 : ((hi - m0 : Nat) : Int) = (hi : Int) - (m0 : Int) := by omega
        have l1 : m0 ≤ lo := by omega
        have l2 : hi ≤ m1 := by omega
        rw [e3, e4] at HC
        clear e3 e4
        have HLO := Lib.hid hlo; have HHI := Lib.hid hhi
        have hx1 := hok.t
        clear hlo hhi hok
        go_wp2_with fail
        refine (HW.out _).mono ?_; rintro e w2 ⟨rfl, hb2⟩
        have V := (Var3.new wr x.k x.t x.id).call hb2
        obtain ⟨v0, v1, v2, vl⟩ := id V
        generalize cutI x (lo - m0) (hi - m0) = y at *
        go_wp2_with fail
        refine (HC.out _).mono ?_; rintro e w3 ⟨rfl, hb3⟩
        clear v0 v1 v2 vl
        have hA3 := ((hA.alloc (.cells #[.int .i64 x.k, .string x.t, .int .i64 x.id] 26)).call hb2).call hb3
        go_wp2_with (at_builtin; refine wpl_append eI _ rfl _ _ rfl w L _ rfl (hA3.alloc _) y w3.heap.size _ rfl (heap_alloc_new w3 _) rfl (by omega) (by unfold maxLen; omega) ?_; intro v' w4 hA4 hb4)
        go_wp2_with fail
        go_roundw
        case rel => exact ⟨k + 1, hlt, by go_num, by rw [HM.out, hk1]; go_num, by rw [HS.out]; exact hA4⟩
        case measure => simp [intOf]; omega
      · rw [show oneI x m0 a b = [] from if_neg hin, List.append_nil] at hs1
        have HS := Lib.hid hs1
        clear hs1
        generalize hlo : max a m0 = lo at *
        generalize hhi : min b (m0 + wid x) = hi at *
        have e1 : (if a < m0 then (m0 : Int) else (a : Int)) = (lo : Int) := by split <;> omega
        have e2 : (if (m0 : Int) + (wid x : Int) < (b : Int) then (m0 : Int) + (wid x : Int) else (b : Int)) = (hi : Int) := by split <;> omega
        have HLO := Lib.hid hlo; have HHI := Lib.hid hhi
        clear hlo hhi hok
        have q4 : decide ((lo : Int) < (hi : Int)) = false := by simp; omega
        go_wp2_with fail
        refine (HW.out _).mono ?_; rintro e w2 ⟨rfl, hb2⟩
        go_wp2_with fail
        go_roundw
        case rel => exact ⟨k + 1, hlt, by go_num, by rw [HM.out, hk1]; go_num, by rw [HS.out]; exact (hA.alloc _).call hb2⟩
        case measure => simp [intOf]; omega
    · obtain rfl : k = l.length := by omega
      rw [List.take_length] at hA
      go_wp2_with fail
      go_ret2
      exact ⟨_, rfl, hA⟩
theorem slice_any (p : Option Addr) (cap : Nat) (l : List It) (a b : Int) (w : World) (hR : Its w p l) (hO : Oks l) (hc : l.length ≤ cap) (hm : cap ≤ maxLen) (hl : lenI l < 4611686018427387904) (hn : l.length ≤ 4000000000000) :
    Calls Try.prog 45 #[.slice p l.length cap, .int .i64 a, .int .i64 b] w (EndSl (sliceI l a b) (sliceOk l a b) w) := by
  cases h : sliceOk l a b
  · rw [show sliceI l a b = [] from by unfold sliceI; rw [h]; rfl]
    exact slice_no p cap l a b w hR hc hm hl h
  · rw [show sliceI l a b = slI l 0 a.toNat b.toNat from by unfold sliceI; rw [h]; rfl]
    unfold sliceOk at h
    simp at h
    obtain ⟨a', rfl⟩ := Int.eq_ofNat_of_zero_le h.1
    obtain ⟨b', rfl⟩ := Int.eq_ofNat_of_zero_le (show 0 ≤ b by omega)
    exact slice_yes p cap l a' b' w hR hO hc hm hl hn (by omega) (by omega)
end Go.Proofs.Ytnfapcfajoboaaa
