/- known. -/
import Derived.Test.YtdnofpllmhnacaaPrs
namespace Go.Proofs.Ytdnofpllmhnacaa
open Go.ChangeShapes Go.WideShapes Go.ChangeAt Go.RowKit Go.Sort
set_option linter.unusedVariables false
set_option linter.unusedSimpArgs false
set_option maxRecDepth 100000

def k1 : ByteArray := ⟨#[91, 46, 33, 63, 93, 43, 92, 115]⟩
def k2 : ByteArray := ⟨#[91, 122, 45, 97, 93]⟩
theorem k1_eq : (parseF k1).2 = (0, 0) ∧ (parseF k1).1.length = 2 ∧ matchF (parseF k1).1 (byt ⟨#[63, 33, 32]⟩) = true ∧ matchF (parseF k1).1 (byt ⟨#[63, 33]⟩) = false := by decide +kernel
theorem k2_eq : (parseF k2).2 = (3, 2) := by decide +kernel
set_option maxHeartbeats 1600000 in
theorem known_any (w : World) : Calls Try.prog 12 #[] w fun e w' => e = .returned (.bool true) ∧ Below w.heap.size w w' := by
  have h1 := fun W => parse_any k1 W (by decide)
  have h2 := fun W => parse_any k2 W (by decide)
  obtain ⟨e1, e2, e3, e4⟩ := k1_eq
  have e5 := k2_eq
  generalize parseF k1 = r1 at *
  generalize parseF k2 = r2 at *
  obtain ⟨P, r⟩ := r1
  obtain ⟨P2, r2⟩ := r2
  dsimp only at e1 e2 e3 e4 e5
  subst e1 e5
  have hm := fun p c W hP hc hm => match_any p c P ⟨#[63, 33, 32]⟩ W hP hc hm (by omega) (by decide)
  have hm2 := fun p c W hP hc hm => match_any p c P ⟨#[63, 33]⟩ W hP hc hm (by omega) (by decide)
  rw [e3] at hm; rw [e4] at hm2
  unfold k1 at h1; unfold k2 at h2
  have H1 := Lib.hid h1; have H2 := Lib.hid h2; have HM := Lib.hid hm; have HM2 := Lib.hid hm2; clear h1 h2 hm hm2 e2 e3 e4
  go_enter Try.func12, Try.ntmps12
  go_wp2_with fail
  refine (H1.out _).mono ?_; rintro e w1 ⟨v, rfl, o1, b1⟩
  have B1 := Lib.hid b1; clear b1
  have O1 := Lib.hid o1; clear o1
  go_wp2_with fail
  refine (H2.out _).mono ?_; rintro e w2 ⟨v2, rfl, o2, b2⟩
  have o1 := O1.out.call b2
  have b2 := BelowOn B1.out b2
  obtain ⟨p, c, rfl, hpc, hcm, hats, -⟩ := o1.ats
  have HA := Lib.hid hats; have B2 := Lib.hid b2; clear hats b2 o1 o2 B1 O1
  go_wp2_with fail
  refine (HM.out p c _ HA.out hpc hcm).mono ?_; rintro e w3 ⟨rfl, b3⟩
  have HA3 := Lib.hid (HA.out.call b3); have B3 := Lib.hid (BelowOn B2.out b3); clear b3
  go_wp2_with fail
  refine (HM2.out p c _ HA3.out hpc hcm).mono ?_; rintro e w4 ⟨rfl, b4⟩
  have B4 := Lib.hid (BelowOn B3.out b4); clear b4
  go_wp2_with fail
  go_ret
  exact ⟨rfl, B4.out⟩
end Go.Proofs.Ytdnofpllmhnacaa
