/- Contracts of Floor, of the reference's floor and Floor. -/
import Derived.Test.YtfhppadcaoggeaaAdd
import Derived.Test.YtfhppadcaoggeaaMath2
namespace Go.Proofs.Ytfhppadcaoggeaa
open Go.ChangeShapes Go.WideShapes Go.ChangeAt Go.RowKit
set_option linter.unusedVariables false

/-- One ratio in a variable of the call's own. -/
structure Bx1 (w : World) (n d : Int) (W : World) : Prop where
  below : Below w.heap.size w W
  a0 : W.cell? ⟨w.heap.size, 0, none⟩ = some (.int .i64 n)
  a1 : W.cell? ⟨w.heap.size, 1, none⟩ = some (.int .i64 d)
  size : w.heap.size < W.heap.size
theorem Bx1.start (w : World) (n d : Int) : Bx1 w n d (w.alloc (.cells #[.int .i64 n, .int .i64 d] 24)) where
  below := (Below.refl _ _).alloc (Nat.le_refl _) _
  a0 := by simp [go_sem]
  a1 := by simp [go_sem]
  size := by simp
theorem Bx1.call {w W w1 : World} {n d : Int} (h : Bx1 w n d W) (hb : Below W.heap.size W w1) : Bx1 w n d w1 where
  below := BelowOn h.below hb
  a0 := by rw [hb.cell (p := ⟨w.heap.size, 0, none⟩) h.size]; exact h.a0
  a1 := by rw [hb.cell (p := ⟨w.heap.size, 1, none⟩) h.size]; exact h.a1
  size := Nat.lt_of_lt_of_le h.size hb.size

theorem rfloordiv_any (p d : Int) (w : World) (hp : -1152921504606846976 ≤ p) (hp' : p ≤ 1152921504606846976) (hd : 1 ≤ d) (hd' : d ≤ 1073741824) :
    Calls Try.prog 39 #[.int .i64 p, .int .i64 d] w fun e w' => e = .returned (.int .i64 (p / d)) ∧ w = w' := by
  obtain ⟨b1, b2⟩ := tdiv_bd p d 1152921504606846976 (by omega) hp'
  by_cases h : 0 ≤ p
  · have hm := tmod_pos p d h
    have e := floor_pos p d h
    have HE := Lib.hid e; clear e
    have hq : 0 ≤ p % d := Int.emod_nonneg _ (by omega)
    go_enter Try.func39, Try.ntmps39
    go_wp2_with fail
    go_ret
    exact ⟨ret_int HE.out, rfl⟩
  · have hs := tmod_sign p d (by omega)
    by_cases hz : p.tmod d = 0
    · have e := floor_exact p d hz
      have HE := Lib.hid e; clear e
      have HZ : ¬ (p.tmod d < 0) := by omega
      clear hz
      go_enter Try.func39, Try.ntmps39
      go_wp2_with fail
      go_ret
      exact ⟨ret_int HE.out, rfl⟩
    · have e := floor_neg p d (by omega) (by omega) hz
      have HE := Lib.hid e; clear e
      have HZ : p.tmod d < 0 := by omega
      clear hz
      go_enter Try.func39, Try.ntmps39
      go_wp2_with fail
      go_ret
      exact ⟨ret_int HE.out.symm, rfl⟩

/-- What Floor hands back. -/
def FlEnd (n d s : Int) (w : World) (e : Ending) (w' : World) : Prop := e = .returned (.tuple #[.int .i64 (flN n d s), .bool (flB n d s)]) ∧ Below w.heap.size w w'

theorem rfloor_any (n d s : Int) (w : World) : Calls Try.prog 30 #[.agg #[.int .i64 n, .int .i64 d], .int .i64 s] w (FlEnd n d s w) := by
  have hs0 := Bx1.start w n d
  have hv := fun w => rvalid_any n d w
  cases h1 : valB n d
  · have ho : flB n d s = false := by unfold flB; rw [h1]; simp
    have hn : flN n d s = 0 := by unfold flN; rw [ho]; rfl
    have HO := Lib.hid ho; have HN := Lib.hid hn
    rw [h1] at hv
    have HV := Lib.hid hv
    clear ho hn hv h1
    go_enter Try.func30, Try.ntmps30
    go_wp2_with fail
    refine (HV.out _).mono ?_; rintro e w1 ⟨rfl, hb⟩
    have hs := hs0.call hb
    clear hb hs0
    go_wp2_with fail
    go_ret2
    exact ⟨by rw [HO.out, HN.out]; rfl, hs.below⟩
  by_cases c1 : s < -1073741824
  · have ho : flB n d s = false := by unfold flB; simp; omega
    have hn : flN n d s = 0 := by unfold flN; rw [ho]; rfl
    have HO := Lib.hid ho; have HN := Lib.hid hn
    rw [h1] at hv
    have HV := Lib.hid hv
    clear ho hn hv h1
    go_enter Try.func30, Try.ntmps30
    go_wp2_with fail
    refine (HV.out _).mono ?_; rintro e w1 ⟨rfl, hb⟩
    have hs := hs0.call hb
    clear hb hs0
    go_wp2_with fail
    go_ret2
    exact ⟨by rw [HO.out, HN.out]; rfl, hs.below⟩
  by_cases c2 : 1073741824 < s
  · have ho : flB n d s = false := by unfold flB; simp; omega
    have hn : flN n d s = 0 := by unfold flN; rw [ho]; rfl
    have HO := Lib.hid ho; have HN := Lib.hid hn
    rw [h1] at hv
    have HV := Lib.hid hv
    clear ho hn hv h1
    go_enter Try.func30, Try.ntmps30
    go_wp2_with fail
    refine (HV.out _).mono ?_; rintro e w1 ⟨rfl, hb⟩
    have hs := hs0.call hb
    clear hb hs0
    go_wp2_with fail
    go_ret2
    exact ⟨by rw [HO.out, HN.out]; rfl, hs.below⟩
  have ho : flB n d s = true := by unfold flB; rw [h1]; simp; omega
  have hn : flN n d s = n * s / d := by unfold flN; rw [ho]; rfl
  have HO := Lib.hid ho; have HN := Lib.hid hn
  obtain ⟨x0, x1, x2, x3, x4⟩ := valB_hold h1
  have z1 := bd30 n s x0 x1 (by omega) (by omega)
  rw [h1] at hv
  have HV := Lib.hid hv
  have hf := fun w => rfloordiv_any (n * s) d w (by omega) (by omega) x2 x3
  have HF := Lib.hid hf
  clear ho hn hv h1 hf x4
  go_enter Try.func30, Try.ntmps30
  go_wp2_with fail
  refine (HV.out _).mono ?_; rintro e w1 ⟨rfl, hb⟩
  have hs := hs0.call hb
  clear hb hs0
  obtain ⟨hbl, a0, a1, hz⟩ := id hs
  go_wp2_with fail
  refine (HF.out _).mono ?_; rintro e w2 ⟨rfl, rfl⟩
  go_wp2_with fail
  go_ret2
  exact ⟨by rw [HO.out, HN.out]; rfl, hs.below⟩

theorem floor_any (n d s : Int) (w : World) : Calls Try.prog 23 #[.agg #[.int .i64 n, .int .i64 d], .int .i64 s] w (FlEnd n d s w) := by
  have hs0 := Bx1.start w n d
  have hv := fun w => valid_any n d w
  cases h1 : valB n d
  · have ho : flB n d s = false := by unfold flB; rw [h1]; simp
    have hn : flN n d s = 0 := by unfold flN; rw [ho]; rfl
    have HO := Lib.hid ho; have HN := Lib.hid hn
    rw [h1] at hv
    have HV := Lib.hid hv
    clear ho hn hv h1
    go_enter Try.func23, Try.ntmps23
    go_wp2_with fail
    refine (HV.out _).mono ?_; rintro e w1 ⟨rfl, hb⟩
    have hs := hs0.call hb
    clear hb hs0
    go_wp2_with fail
    go_ret2
    exact ⟨by rw [HO.out, HN.out]; rfl, hs.below⟩
  by_cases c : ¬ (-1073741824 ≤ s ∧ s ≤ 1073741824)
  · have ho : flB n d s = false := by unfold flB; simp; omega
    have hn : flN n d s = 0 := by unfold flN; rw [ho]; rfl
    have HO := Lib.hid ho; have HN := Lib.hid hn
    rw [h1] at hv
    have HV := Lib.hid hv
    have hw := fun w => within_no s 1073741824 w (by omega) (by omega) c
    have HW := Lib.hid hw
    clear hw c
    clear ho hn hv h1
    go_enter Try.func23, Try.ntmps23
    go_wp2_with fail
    refine (HV.out _).mono ?_; rintro e w1 ⟨rfl, hb⟩
    have hs := hs0.call hb
    clear hb hs0
    go_wp2_with fail
    refine (HW.out _).mono ?_; rintro e w1 ⟨rfl, rfl⟩
    go_wp2_with fail
    go_ret2
    exact ⟨by rw [HO.out, HN.out]; rfl, hs.below⟩
  obtain ⟨c1, c2⟩ : -1073741824 ≤ s ∧ s ≤ 1073741824 := by omega
  have ho : flB n d s = true := by unfold flB; rw [h1]; simp; omega
  have hn : flN n d s = n * s / d := by unfold flN; rw [ho]; rfl
  have HO := Lib.hid ho; have HN := Lib.hid hn
  obtain ⟨x0, x1, x2, x3, x4⟩ := valB_hold h1
  have z1 := bd30 n s x0 x1 (by omega) (by omega)
  rw [h1] at hv
  have HV := Lib.hid hv
  have f1 := floor_pos (n * s) d
  have f2 := floor_exact (n * s) d
  have f3 := floor_neg (n * s) d (by omega)
  obtain ⟨b1, b2⟩ := tdiv_bd (n * s) d 1152921504606846976 (by omega) (by omega)
  clear ho hn hv h1 x4 c
  by_cases h : 0 ≤ n * s
  · have HE := Lib.hid (f1 h).symm
    clear f1 f2 f3
    go_enter Try.func23, Try.ntmps23
    go_wp2_with fail
    refine (HV.out _).mono ?_; rintro e w1 ⟨rfl, hb⟩
    have hs := hs0.call hb
    clear hb hs0
    obtain ⟨hbl, a0, a1, hz⟩ := id hs
    go_wp2_with fail
    refine (within_yes s 1073741824 _ (by omega) (by omega) c1 c2).mono ?_; rintro e w2 ⟨rfl, rfl⟩
    go_wp2_with fail
    go_ret2
    exact ⟨by rw [HO.out, HN.out, HE.out]; rfl, hs.below⟩
  · have hlt : n * s < 0 := by omega
    clear h
    by_cases hz : (n * s).tmod d = 0
    · have HE := Lib.hid (f2 hz).symm
      have q : ((n * s).tmod d != 0) = false := by rw [hz]; rfl
      clear f1 f2 f3 hz
      go_enter Try.func23, Try.ntmps23
      go_wp2_with fail
      refine (HV.out _).mono ?_; rintro e w1 ⟨rfl, hb⟩
      have hs := hs0.call hb
      clear hb hs0
      obtain ⟨hbl, a0, a1, hz⟩ := id hs
      go_wp2_with fail
      refine (within_yes s 1073741824 _ (by omega) (by omega) c1 c2).mono ?_; rintro e w2 ⟨rfl, rfl⟩
      go_wp2_with fail
      go_ret2
      exact ⟨by rw [HO.out, HN.out, HE.out]; rfl, hs.below⟩
    · have HE := Lib.hid (f3 hlt hz)
      have q : ((n * s).tmod d != 0) = true := by simpa using hz
      clear f1 f2 f3 hz
      go_enter Try.func23, Try.ntmps23
      go_wp2_with fail
      refine (HV.out _).mono ?_; rintro e w1 ⟨rfl, hb⟩
      have hs := hs0.call hb
      clear hb hs0
      obtain ⟨hbl, a0, a1, hz⟩ := id hs
      go_wp2_with fail
      refine (within_yes s 1073741824 _ (by omega) (by omega) c1 c2).mono ?_; rintro e w2 ⟨rfl, rfl⟩
      go_wp2_with fail
      go_ret2
      exact ⟨by rw [HO.out, HN.out, HE.out]; rfl, hs.below⟩
end Go.Proofs.Ytfhppadcaoggeaa
