/- Shingle: contracts of Bound. -/
import Derived.Test.YthfgpagmepdblaaGreatSgD
import Derived.Test.YthfgpagmepdblaaGreatSgA
import Derived.Test.YthfgpagmepdblaaGreatSgB
namespace Go.Proofs.YthfgpagmepdblaaGreat
open Go.ChangeShapes Go.WideShapes Go.ChangeAt Go.RowKit Go.Maps
set_option linter.unusedVariables false
set_option linter.unusedSimpArgs false
set_option maxRecDepth 100000

theorem wds_size (l : List It) (h : ∀ x ∈ l, x.t.size ≤ 1000) : ∀ x ∈ wds l, x.size ≤ maxLen := fun x hx => by
  unfold wds at hx; rw [List.mem_map] at hx
  obtain ⟨y, hy, rfl⟩ := hx
  rw [low_size]
  exact Nat.le_trans (h y (List.mem_filter.1 hy).1) (by unfold maxLen; omega)
theorem grams_size (v : List ByteArray) (h : ∀ x ∈ v, x.size ≤ maxLen) : ∀ g ∈ gramsL v, g.f.size ≤ maxLen ∧ g.s.size ≤ maxLen := fun g hg => by
  have := ((gramsP_ok (prs v)).cnt g hg).2
  exact prsF_mem v h ⟨#[]⟩ (Nat.zero_le _) g.key this
theorem gramsL_len (v : List ByteArray) : (gramsL v).length ≤ v.length + 1 := by have := grams_len (prs v); rw [prs_len] at this; exact this
theorem misL_le (a b : List Gm) : misL a b ≤ 1073741824 := Nat.min_le_right _ _
theorem bagN_le2 (a b : List It) (la : a.length ≤ 900) (lb : b.length ≤ 900) : bagN a b ≤ 24000 := by have := bagN_le a b; omega
set_option maxHeartbeats 12800000 in
theorem rbound_any (p q : Option Addr) (c d : Nat) (a b : List It) (w : World) (gA : Its w p a) (gB : Its w q b) (hc : a.length ≤ c) (hd : b.length ≤ d) (hcm : c ≤ maxLen) (hdm : d ≤ maxLen) (la : a.length ≤ 900) (lb : b.length ≤ 900)
    (ta : ∀ x ∈ a, (Lit.int .i64 x.k).wf = true ∧ x.t.size ≤ 1000) (tb : ∀ x ∈ b, (Lit.int .i64 x.k).wf = true ∧ x.t.size ≤ 1000) :
    Calls Tryz.prog 26 #[.slice p a.length c, .slice q b.length d] w fun e w' => e = .returned (.int .i64 (bouN a b : Nat)) ∧ Below w.heap.size w w' := by
  have xa : txtsB a := fun x hx => (ta x hx).2
  have xb : txtsB b := fun x hx => (tb x hx).2
  have wa := wds_size a xa; have wb := wds_size b xb
  have ga := grams_size _ wa; have gb := grams_size _ wb
  have lwa := wds_len a; have lwb := wds_len b
  have lga := gramsL_len (wds a); have lgb := gramsL_len (wds b)
  have h1 := rwords_any p c a w gA hc hcm (by omega) xa
  have h2 := fun W P C (h : Ones W Value.string P (wds a)) h' h'' => rgrams_any P C (wds a) W h h' h'' (by omega)
  have h3 := fun W (h : Below w.heap.size w W) => rwords_any q d b W (gB.call h) hd hdm (by omega) xb
  have h4 := fun W P C (h : Ones W Value.string P (wds b)) h' h'' => rgrams_any P C (wds b) W h h' h'' (by omega)
  have h5 := fun W P C Q E (h : Gs W P (gramsL (wds a))) (k : Gs W Q (gramsL (wds b))) i1 i2 i3 i4 => rmissing_any P Q C E (gramsL (wds a)) (gramsL (wds b)) W h k i1 i2 i3 i4 (by omega) (by omega)
  have h6 := fun W P C Q E (h : Gs W P (gramsL (wds b))) (k : Gs W Q (gramsL (wds a))) i1 i2 i3 i4 => rmissing_any P Q C E (gramsL (wds b)) (gramsL (wds a)) W h k i1 i2 i3 i4 (by omega) (by omega)
  have h7 := fun W (h : Below w.heap.size w W) => rbag_any p q c d a b W (gA.call h) (gB.call h) hc hd hcm hdm (by omega) (by omega) xa xb
  have hbn := bagN_le2 a b la lb
  have m1 := misL_le (gramsL (wds a)) (gramsL (wds b))
  have m2 := misL_le (gramsL (wds b)) (gramsL (wds a))
  have HR := Lib.hid (show bouN a b = max (bagN a b) (4 * ((max (misL (gramsL (wds a)) (gramsL (wds b))) (misL (gramsL (wds b)) (gramsL (wds a))) + 1) / 2)) from rfl)
  have H1 := Lib.hid h1; have H2 := Lib.hid h2; have H3 := Lib.hid h3; have H4 := Lib.hid h4; have H5 := Lib.hid h5; have H6 := Lib.hid h6; have H7 := Lib.hid h7
  clear h1 h2 h3 h4 h5 h6 h7 gA gB ta tb xa xb wa wb ga gb lwa lwb hcm hdm
  rw [HR.out]
  generalize misL (gramsL (wds a)) (gramsL (wds b)) = M1 at *
  generalize misL (gramsL (wds b)) (gramsL (wds a)) = M2 at *
  generalize bagN a b = BG at *
  generalize gramsL (wds a) = GA at *
  generalize gramsL (wds b) = GB at *
  generalize wds a = VA at *
  generalize wds b = VB at *
  go_enter Tryz.func26, Tryz.ntmps26
  go_wp2_with fail
  refine H1.out.mono ?_; rintro e w1 he
  obtain ⟨p1, c1, rfl, i1, j1, hW1, hb1⟩ := EndW.f he
  have HB1 := Lib.hid hb1; clear he hb1
  go_wp2_with fail
  refine (H2.out _ _ _ hW1 i1 j1).mono ?_; rintro e w2 he
  obtain ⟨p2, c2, rfl, i2, j2, hG2, hb2⟩ := EndG.f he
  have HB2 := Lib.hid (BelowOn HB1.out hb2); have HG2 := Lib.hid hG2; clear he hb2 hG2 hW1
  go_wp2_with fail
  refine (H3.out _ HB2.out).mono ?_; rintro e w3 he
  obtain ⟨p3, c3, rfl, i3, j3, hW3, hb3⟩ := EndW.f he
  have HB3 := Lib.hid (BelowOn HB2.out hb3); have HG3 := Lib.hid (HG2.out.call hb3); clear he hb3
  go_wp2_with fail
  refine (H4.out _ _ _ hW3 i3 j3).mono ?_; rintro e w4 he
  obtain ⟨p4, c4, rfl, i4, j4, hG4, hb4⟩ := EndG.f he
  have HB4 := Lib.hid (BelowOn HB3.out hb4); have HGA := Lib.hid (HG3.out.call hb4); have HGB := Lib.hid hG4; clear he hb4 hG4 hW3
  go_wp2_with fail
  refine (H5.out _ _ _ _ _ HGA.out HGB.out i2 i4 j2 j4).mono ?_; rintro e w5 ⟨rfl, hb5⟩
  have HB5 := Lib.hid (BelowOn HB4.out hb5); have HGA5 := Lib.hid (HGA.out.call hb5); have HGB5 := Lib.hid (HGB.out.call hb5); clear hb5
  go_wp2_with fail
  refine (H6.out _ _ _ _ _ HGB5.out HGA5.out i4 i2 j4 j2).mono ?_; rintro e w6 ⟨rfl, hb6⟩
  have HB6 := Lib.hid (BelowOn HB5.out hb6); clear hb6
  have k1 : (0 : Int) ≤ max (M1 : Int) (M2 : Int) := by omega
  have k2 : max (M1 : Int) (M2 : Int) ≤ 1073741824 := by omega
  have HMX := Lib.hid (show max (M1 : Int) (M2 : Int) = ((max M1 M2 : Nat) : Int) by omega)
  generalize hmx : max (M1 : Int) (M2 : Int) = mx at *
  have HM3 := Lib.hid hmx
  clear hmx
  have k3 : (0 : Int) ≤ (mx + 1) / 2 := by omega
  have k4 : (mx + 1) / 2 ≤ 1073741824 := by omega
  go_wp2_with fail
  refine (H7.out _ HB6.out).mono ?_; rintro e w7 ⟨rfl, hb7⟩
  have HB7 := Lib.hid (BelowOn HB6.out hb7); clear hb7
  go_wp2_with fail
  go_ret
  refine ⟨?_, HB7.out⟩
  show Ending.returned (Value.int .i64 _) = _
  congr 2
  have := HMX.out
  omega
end Go.Proofs.YthfgpagmepdblaaGreat
