/- Place, and the numbers that the generator draws from. -/
import Derived.Test.YtphkpokoeaagfaaGreatDoorFst
import Derived.Test.YtphkpokoeaagfaaGreatDoorSam
import Derived.Test.YtphkpokoeaagfaaGreatDoorRnr
import Derived.Test.YtphkpokoeaagfaaGreatDoorGnm
namespace Go.Proofs.YtphkpokoeaagfaaGreatDoor
open Go.ChangeShapes Go.WideShapes Go.ChangeAt Go.RowKit
set_option linter.unusedVariables false
set_option maxRecDepth 100000

theorem place_any (a n : Int) (w : World) (h0 : 1 ≤ n) (h1 : n ≤ 4611686018427387904) (ha : (Lit.int .i64 a).wf = true) :
    Calls Tryz.prog 20 #[.int .i64 a, .int .i64 n] w fun e w' => e = .returned (.int .i64 (a % n)) ∧ w = w' := by
  have hb : -n < a.tmod n ∧ a.tmod n < n := by
    have h2 := Int.tmod_lt_of_pos a (show 0 < n by omega)
    have h3 := Int.lt_tmod_of_pos a (show 0 < n by omega)
    omega
  have hn0 : n ≠ 0 := by omega
  have e := Int.tmod_eq_emod (a := a) (b := n)
  have m0 := Int.emod_nonneg a hn0
  have m1 := Int.emod_lt_of_pos a (show 0 < n by omega)
  have q0 : (n == 0) = false := by simpa using hn0
  by_cases hc : a.tmod n < 0
  · have hr : a % n = a.tmod n + n := by
      rw [e] at hc ⊢
      split at hc
      · omega
      · rename_i hh; rw [if_neg hh]; omega
    have qc : decide (a.tmod n < 0) = true := by simpa using hc
    rw [hr]
    have b1 : 0 ≤ a.tmod n + n := by omega
    have b2 : a.tmod n + n < n := by omega
    obtain ⟨b3, b4⟩ := hb
    clear e hr m0 m1 hc
    go_enter Tryz.func20, Tryz.ntmps20
    go_wp2_with fail
    go_ret
    exact ⟨rfl, rfl⟩
  · have hr : a % n = a.tmod n := by
      rw [e] at hc ⊢
      split at hc
      · rename_i hh; rw [if_pos hh]; omega
      · rename_i hh; rw [if_neg hh]; omega
    have qc : decide (a.tmod n < 0) = false := by simpa using hc
    rw [hr]
    obtain ⟨b3, b4⟩ := hb
    clear e hr m0 m1
    go_enter Tryz.func20, Tryz.ntmps20
    go_wp2_with fail
    go_ret
    exact ⟨rfl, rfl⟩

/-- The numbers behind a pointer: a list and how many of it are used. -/
structure NumsAt (W : World) (b : Nat) (p : Option Addr) (cap : Nat) (L : List Int) (m : Nat) : Prop where
  hh : W.heap[b]? = some (.cells #[.slice p L.length cap, .int .i64 m] 43 (0, 0))
  ones : Ones W (Value.int .i64) p L
  ap : 0 < L.length → ∀ a, p = some a → a.block ≠ b
  wf : ∀ i (h : i < L.length), (Lit.int .i64 (L[i]'h)).wf = true
  le : L.length ≤ cap
  cm : cap ≤ maxLen
theorem NumsAt.lt {W : World} {b : Nat} {p : Option Addr} {cap : Nat} {L : List Int} {m : Nat} (h : NumsAt W b p cap L m) : b < W.heap.size := (Array.getElem?_eq_some_iff.1 h.hh).1
theorem NumsAt.call {W W' : World} {b : Nat} {p : Option Addr} {cap : Nat} {L : List Int} {m : Nat} (h : NumsAt W b p cap L m) (hb : Below W.heap.size W W') : NumsAt W' b p cap L m :=
  ⟨(hb.block b h.lt).trans h.hh, h.ones.call hb, h.ap, h.wf, h.le, h.cm⟩
theorem ones_keep {α : Type} {en : α → Value} {W W' : World} {p : Option Addr} {L : List α} (h : Ones W en p L) (hs : W.heap.size ≤ W'.heap.size) (hb : 0 < L.length → ∀ a, p = some a → W'.heap[a.block]? = W.heap[a.block]?) : Ones W' en p L := fun h0 => by
  obtain ⟨a, hp, hlt, hc⟩ := h h0
  have hb := hb h0
  exact ⟨a, hp, Nat.lt_of_lt_of_le hlt hs, fun i hi => (World.cell?_of_block (w := W) (w' := W') (a := a.add i) (by rw [add_block]; exact hb a hp)).trans (hc i hi)⟩
theorem NumsAt.next {W : World} {b : Nat} {p : Option Addr} {cap : Nat} {L : List Int} {m : Nat} (h : NumsAt W b p cap L m) (n : Nat) :
    W.grownBy ((W.setCell ⟨b, 1, none⟩ (.int .i64 ((m : Int) + 1))).drewN n) (some b) ∧ NumsAt ((W.setCell ⟨b, 1, none⟩ (.int .i64 ((m : Int) + 1))).drewN n) b p cap L (m + 1) := by
  have hk : ∀ k, k ≠ b → ((W.setCell ⟨b, 1, none⟩ (.int .i64 ((m : Int) + 1))).drewN n).heap[k]? = W.heap[k]? := fun k hk => Below.heap_setCell W ⟨b, 1, none⟩ _ k hk
  have hs : W.heap.size ≤ ((W.setCell ⟨b, 1, none⟩ (.int .i64 ((m : Int) + 1))).drewN n).heap.size := by simp
  refine ⟨⟨rfl, rfl, rfl, hs, fun k _ hne => hk k (fun e => hne (by rw [e]))⟩, ?_, ones_keep h.ones hs (fun h0 a ha => hk _ (h.ap h0 a ha)), h.ap, h.wf, h.le, h.cm⟩
  have := setCell_heap W b 1 _ 43 (.int .i64 ((m : Int) + 1)) h.hh
  simpa using this

set_option maxHeartbeats 1600000 in
theorem next_any (b : Nat) (p : Option Addr) (cap : Nat) (L : List Int) (m : Nat) (n : Int) (k : Nat) (hk : n = (k : Int)) (w : World) (h : NumsAt w b p cap L m) (hm : m ≤ 1000000) (h0 : 1 ≤ n) (h1 : n ≤ 1000000) :
    Calls Tryz.prog 33 #[.pointer (some ⟨b, 0, none⟩), .int .i64 n] w fun e w' => e = .returned (.int .i64 (nx L m k)) ∧ w.grownBy w' (some b) ∧ NumsAt w' b p cap L (m + 1) := by
  have hp := fun a w ha => place_any a n w h0 (by omega) ha
  have HP := Lib.hid hp; clear hp
  have c0 : w.cell? ⟨b, 0, none⟩ = some (.slice p L.length cap) := by rw [Lib.cell_of_heap h.hh]; rfl
  have c1 : w.cell? ⟨b, 1, none⟩ = some (.int .i64 m) := by rw [Lib.cell_of_heap h.hh]; rfl
  have f1 := Lib.frozen_of_heap h.hh 1
  have hx := nx_eq L m k (by omega)
  rw [← hk, List.getD_eq_getElem?_getD] at hx
  have HN := Lib.hid h.next
  have mixed : Tryz.prog.follows .mixedOrders = true := by kernel_rfl
  by_cases hlt : m < L.length
  · have q : decide (m < L.length) = true := decide_eq_true hlt
    obtain ⟨ad, rfl, had, d0⟩ := h.ones.row m hlt
    have hwf := h.wf m hlt
    rw [List.getElem?_eq_getElem hlt, Option.getD_some] at hx
    have hle := h.le; have hcm := h.cm
    unfold maxLen at hcm
    generalize L[m] = x at *
    have HX := Lib.hid hx; clear hx
    clear hk
    go_enter Tryz.func33, Tryz.ntmps33
    go_wp2_with fail
    go_quiet (fail)
    go_wp2_with fail
    go_quiet (fail)
    go_wp2_with fail
    refine (HP.out x _ hwf).mono ?_; rintro e w1 ⟨rfl, rfl⟩
    go_wp2_with fail
    go_ret
    exact ⟨ret_int HX.out.symm, HN.out _⟩
  · have q : decide (m < L.length) = false := decide_eq_false hlt
    rw [List.getElem?_eq_none (by omega), Option.getD_none] at hx
    have HX := Lib.hid hx; clear hx
    clear hk
    have hle := h.le; have hcm := h.cm
    unfold maxLen at hcm
    go_enter Tryz.func33, Tryz.ntmps33
    go_wp2_with fail
    go_quiet (fail)
    go_wp2_with fail
    refine (HP.out 0 _ (by decide)).mono ?_; rintro e w1 ⟨rfl, rfl⟩
    go_wp2_with fail
    go_ret
    exact ⟨ret_int HX.out.symm, HN.out _⟩
end Go.Proofs.YtphkpokoeaagfaaGreatDoor
