/- The contracts of both Validates at any items. -/
import Derived.Test.YtphkpokoeaagfaaGreatDoorChk2
namespace Go.Proofs.YtphkpokoeaagfaaGreatDoor
open Go.ChangeShapes Go.WideShapes Go.ChangeAt Go.RowKit
set_option linter.unusedVariables false
set_option maxRecDepth 100000

theorem Its.take {W : World} {p : Option Addr} {l : List It} (h : Its W p l) (k : Nat) : Its W p (l.take k) := fun h0 => by
  obtain ⟨a, hp, hlt, hc⟩ := h (by simp at h0; omega)
  refine ⟨a, hp, hlt, fun i hi => ?_⟩
  have hi' : i < l.length := by simp at hi; omega
  simpa using hc i hi'
theorem Oks.take {l : List It} (h : Oks l) (k : Nat) : Oks (l.take k) := fun i hi => by
  have hi' : i < l.length := by simp at hi; omega
  simpa using h i hi'
theorem wid_le (x : It) (h : x.ok) : wid x ≤ 140737488355328 := by unfold wid; have := h.t; split <;> omega
theorem lenI_le (l : List It) (h : Oks l) : lenI l ≤ l.length * 140737488355328 := by
  have : ∀ k, k ≤ l.length → lenI (l.take k) ≤ k * 140737488355328 := by
    intro k
    induction k with
    | zero => intro _; simp [lenI]
    | succ j ih =>
      intro hj
      rw [lenI_next l j (by omega)]
      have := ih (by omega)
      have := wid_le _ (h j (by omega))
      omega
  have := this l.length (Nat.le_refl _)
  rwa [List.take_length] at this

set_option maxHeartbeats 1600000 in
theorem rvalidate_in (p : Option Addr) (cap : Nat) (l : List It) (w : World) (hR : Its w p l) (hO : Oks l) (hc : l.length ≤ cap) (hm : cap ≤ maxLen) (hl : l.length ≤ 512) (h1 : lenI l ≤ 1024) :
    Calls Tryz.prog 40 #[.slice p l.length cap] w fun e w' => e = .returned (.int .i64 (errL [] l)) ∧ Below w.heap.size w w' := by
  have hlen := fun w hR => rlength_any p cap l w hR hc hm (by omega)
  have HL := Lib.hid hlen; clear hlen
  have q1 : decide (512 < (l.length : Int)) = false := by simp; omega
  have q2 : decide (1024 < (lenI l : Int)) = false := by simp; omega
  have q1' : decide (512 < l.length) = false := by simp; omega
  have q2' : decide (1024 < lenI l) = false := by simp; omega
  have hm' := hm
  unfold maxLen at hm
  go_enter Tryz.func40, Tryz.ntmps40
  go_wp2_with fail
  refine (HL.out _ hR).mono ?_; rintro e w1 ⟨rfl, rfl⟩
  go_wp2_with fail
  clear q1 q2 q1' q2'
  go_loopw [15] (fun i wr => ∃ k : Nat, k ≤ l.length ∧ i = .int .i64 k ∧ errL [] (l.take k) = 0 ∧ Below w.heap.size w wr) (fun i _ => l.length - (intOf i).toNat)
  case atStart => exact ⟨0, Nat.zero_le _, rfl, rfl, Below.refl _ _⟩
  case round =>
    obtain ⟨k, hk, rfl, hz, hB⟩ := hrel
    by_cases hlt : k < l.length
    · have hbad := errL_bad l k hlt hz
      have hgood := errL_take l k hlt hz
      have hck : ∀ W, Its W p (l.take k) → Calls Tryz.prog 75 #[.slice p k cap, .agg #[.int .i64 l[k].k, .string l[k].t, .int .i64 l[k].id]] W fun e w' => e = .returned (.int .i64 (errAt (l.take k) l[k])) ∧ Below W.heap.size W w' := fun W hW => by
        have := check_any p cap (l.take k) l[k] W hW (hO.take k) (by simp; omega) hm' (hO k hlt)
        rwa [show (l.take k).length = k by simp; omega] at this
      have hrow := fun W (hb : Below w.heap.size w W) => (hR.call hb).row k hlt
      have htk := fun W (hb : Below w.heap.size w W) => (hR.call hb).take k
      obtain ⟨ad, rfl, had, c0, c1, c2⟩ := (hR.call hB).row k hlt
      have hrow' : ∀ W, Below w.heap.size w W → W.cell? (ad.add (k * 3)) = some (.int .i64 l[k].k) ∧ W.cell? ⟨(ad.add (k * 3)).block, (ad.add (k * 3)).off + 1, none⟩ = some (.string l[k].t) ∧ W.cell? ⟨(ad.add (k * 3)).block, (ad.add (k * 3)).off + 2, none⟩ = some (.int .i64 l[k].id) := fun W hb => by
        obtain ⟨a', e, _, r⟩ := hrow W hb; cases e; exact r
      generalize l[k] = x at *
      have HB := Lib.hid hbad; have HG := Lib.hid hgood; have HR := Lib.hid hrow'; have HT := Lib.hid htk; have HC := Lib.hid hck
      clear hbad hgood hrow hrow' htk hck
      have k0 : (0 : Int) ≤ (k : Int) := by omega
      have k1 : (k : Int) < (l.length : Int) := by omega
      have k2 : (k : Int) ≤ (cap : Int) := by omega
      have hBd := hB.drew
      by_cases he : errAt (l.take k) x = 0
      · rw [he] at HC
        have HE := Lib.hid he; have HZ := Lib.hid hz; clear he hz
        go_wp2_with fail
        go_region_held3 (fun w' => w'.cell? (ad.add (k * 3)) = some (.int .i64 x.k) ∧ w'.cell? ⟨(ad.add (k * 3)).block, (ad.add (k * 3)).off + 1, none⟩ = some (.string x.t) ∧ w'.cell? ⟨(ad.add (k * 3)).block, (ad.add (k * 3)).off + 2, none⟩ = some (.int .i64 x.id))
          (first | exact HR.out _ hBd | exact HR.out _ (BelowOn hBd hb))
          ((first | (go_at_call 75; refine (HC.out _ (HT.out _ hBd)).mono ?_; rintro e w1 ⟨rfl, hb⟩)))
        have hB2 := BelowOn hBd hb
        go_wp2_with fail
        go_roundw
        case rel => exact ⟨k + 1, hlt, by go_num, HG.out HE.out, hB2⟩
        case measure => simp [intOf]; omega
      · have q : (errAt (l.take k) x == 0) = false := by simpa using he
        have q' : (errAt (l.take k) x != 0) = true := by simpa using he
        have HE := Lib.hid (HB.out he); clear he hz
        generalize errAt (l.take k) x = r at *
        go_wp2_with fail
        go_region_held3 (fun w' => w'.cell? (ad.add (k * 3)) = some (.int .i64 x.k) ∧ w'.cell? ⟨(ad.add (k * 3)).block, (ad.add (k * 3)).off + 1, none⟩ = some (.string x.t) ∧ w'.cell? ⟨(ad.add (k * 3)).block, (ad.add (k * 3)).off + 2, none⟩ = some (.int .i64 x.id))
          (first | exact HR.out _ hBd | exact HR.out _ (BelowOn hBd hb))
          ((first | (go_at_call 75; refine (HC.out _ (HT.out _ hBd)).mono ?_; rintro e w1 ⟨rfl, hb⟩)))
        have hB2 := BelowOn hBd hb
        go_wp2_with fail
        go_ret
        exact ⟨by rw [HE.out]; rfl, hB2⟩
    · obtain rfl : k = l.length := by omega
      rw [List.take_length] at hz
      have HZ := Lib.hid hz; clear hz
      go_wp2_with fail
      go_ret
      exact ⟨by rw [HZ.out]; rfl, hB⟩

/-- Both at any items. -/
theorem validate_any (p : Option Addr) (cap : Nat) (l : List It) (w : World) (hR : Its w p l) (hO : Oks l) (hc : l.length ≤ cap) (hm : cap ≤ maxLen) :
    Calls Tryz.prog 35 #[.slice p l.length cap] w fun e w' => e = .returned (.int .i64 (valE l)) ∧ Below w.heap.size w w' := by
  by_cases hl : l.length ≤ 512
  · have hle := lenI_le l hO
    by_cases h1 : lenI l ≤ 1024
    · rw [show valE l = errL [] l from if_neg (by omega)]
      exact validate_in p cap l w hR hO hc hm hl h1
    · rw [show valE l = 3 from if_pos (by omega)]
      have hlen := fun w hR => length_any p cap l w hR hc hm (by omega)
      have HL := Lib.hid hlen; clear hlen
      have q1 : decide (512 < l.length) = false := by simp; omega
      have q2 : decide (1024 < lenI l) = true := by simp; omega
      clear hle
      go_enter Tryz.func35, Tryz.ntmps35
      go_wp2_with fail
      refine (HL.out _ hR).mono ?_; rintro e w1 ⟨rfl, hb⟩
      go_wp2_with fail
      go_ret
      exact ⟨rfl, hb⟩
  · rw [show valE l = 3 from if_pos (by omega)]
    have q1 : decide (512 < l.length) = true := by simp; omega
    go_enter Tryz.func35, Tryz.ntmps35
    go_wp2_with fail
    go_ret
    exact ⟨rfl, Below.refl _ _⟩
theorem rvalidate_any (p : Option Addr) (cap : Nat) (l : List It) (w : World) (hR : Its w p l) (hO : Oks l) (hc : l.length ≤ cap) (hm : cap ≤ maxLen) :
    Calls Tryz.prog 40 #[.slice p l.length cap] w fun e w' => e = .returned (.int .i64 (valE l)) ∧ Below w.heap.size w w' := by
  by_cases hl : l.length ≤ 512
  · have hle := lenI_le l hO
    by_cases h1 : lenI l ≤ 1024
    · rw [show valE l = errL [] l from if_neg (by omega)]
      exact rvalidate_in p cap l w hR hO hc hm hl h1
    · rw [show valE l = 3 from if_pos (by omega)]
      have hlen := fun w hR => rlength_any p cap l w hR hc hm (by omega)
      have HL := Lib.hid hlen; clear hlen
      have q1 : decide (512 < l.length) = false := by simp; omega
      have q2 : decide (1024 < lenI l) = true := by simp; omega
      clear hle
      go_enter Tryz.func40, Tryz.ntmps40
      go_wp2_with fail
      refine (HL.out _ hR).mono ?_; rintro e w1 ⟨rfl, rfl⟩
      go_wp2_with fail
      go_ret
      exact ⟨rfl, Below.refl _ _⟩
  · rw [show valE l = 3 from if_pos (by omega)]
    have q1 : decide (512 < l.length) = true := by simp; omega
    go_enter Tryz.func40, Tryz.ntmps40
    go_wp2_with fail
    go_ret
    exact ⟨rfl, Below.refl _ _⟩
end Go.Proofs.YtphkpokoeaagfaaGreatDoor
