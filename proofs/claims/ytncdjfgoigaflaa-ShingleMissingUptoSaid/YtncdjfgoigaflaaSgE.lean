/- Shingle: contracts of Bound. Shingle: the fixed example; words out of numbers. Score: lists that differ in a few tokens (near): the model, and what a round has in hand. Score: contract of near. Shingle: small, made; what a law's lists bear. -/
import Derived.Test.YtncdjfgoigaflaaSgD
import Derived.Test.YtncdjfgoigaflaaSgA
import Derived.Test.YtncdjfgoigaflaaSgB
import Derived.Test.YtncdjfgoigaflaaDtK
import Derived.Test.YtncdjfgoigaflaaDtU
import Derived.Test.YtncdjfgoigaflaaLin
import Derived.Test.YtncdjfgoigaflaaSgR
namespace Go.Proofs.Ytncdjfgoigaflaa
open Go.ChangeShapes Go.WideShapes Go.ChangeAt Go.RowKit Go.Maps
set_option linter.unusedVariables false
set_option linter.unusedSimpArgs false
set_option maxRecDepth 100000

theorem wds_size (l : List It) (h : ∀ x ∈ l, x.t.size ≤ 1000) : ∀ x ∈ wds l, x.size ≤ maxLen := fun x hx => by
  unfold wds at hx; rw [List.mem_map] at hx
  obtain ⟨y, hy, rfl⟩ := hx
  rw [low_size]
  exact Nat.le_trans (h y (List.mem_filter.1 hy).1) (by unfold maxLen; omega)
theorem grams_size (v : List ByteArray) (h : ∀ x ∈ v, x.size ≤ maxLen) : ∀ g ∈ gramsL v, g.f.size ≤ maxLen ∧ g.s.size ≤ maxLen := fun g hg => by
  have := ((gramsP_ok (prs v)).cnt g hg).2
  exact prsF_mem v h ⟨#[]⟩ (Nat.zero_le _) g.key this
theorem gramsL_len (v : List ByteArray) : (gramsL v).length ≤ v.length + 1 := by have := grams_len (prs v); rw [prs_len] at this; exact this
theorem misL_le (a b : List Gm) : misL a b ≤ 1073741824 := Nat.min_le_right _ _
theorem bagN_le2 (a b : List It) (la : a.length ≤ 900) (lb : b.length ≤ 900) : bagN a b ≤ 24000 := by have := bagN_le a b; omega
set_option maxHeartbeats 12800000 in
theorem bound_any (p q : Option Addr) (c d : Nat) (a b : List It) (w : World) (gA : Its w p a) (gB : Its w q b) (hc : a.length ≤ c) (hd : b.length ≤ d) (hcm : c ≤ maxLen) (hdm : d ≤ maxLen) (la : a.length ≤ 900) (lb : b.length ≤ 900)
    (ta : ∀ x ∈ a, (Lit.int .i64 x.k).wf = true ∧ x.t.size ≤ 1000) (tb : ∀ x ∈ b, (Lit.int .i64 x.k).wf = true ∧ x.t.size ≤ 1000) :
    Calls Try.prog 25 #[.slice p a.length c, .slice q b.length d] w fun e w' => e = .returned (.int .i64 (bouN a b : Nat)) ∧ Below w.heap.size w w' := by
  have xa : txtsB a := fun x hx => (ta x hx).2
  have xb : txtsB b := fun x hx => (tb x hx).2
  have wa := wds_size a xa; have wb := wds_size b xb
  have ga := grams_size _ wa; have gb := grams_size _ wb
  have lwa := wds_len a; have lwb := wds_len b
  have lga := gramsL_len (wds a); have lgb := gramsL_len (wds b)
  have h1 := words_any p c a w gA hc hcm (by omega) xa
  have h2 := fun W P C (h : Ones W Value.string P (wds a)) h' h'' => grams_any P C (wds a) W h h' h'' (by omega) wa
  have h3 := fun W (h : Below w.heap.size w W) => words_any q d b W (gB.call h) hd hdm (by omega) xb
  have h4 := fun W P C (h : Ones W Value.string P (wds b)) h' h'' => grams_any P C (wds b) W h h' h'' (by omega) wb
  have h5 := fun W P C Q E (h : Gs W P (gramsL (wds a))) (k : Gs W Q (gramsL (wds b))) i1 i2 i3 i4 => missing_any P Q C E (gramsL (wds a)) (gramsL (wds b)) W h k i1 i2 i3 i4 (by omega) (by omega) ga gb
  have h6 := fun W P C Q E (h : Gs W P (gramsL (wds b))) (k : Gs W Q (gramsL (wds a))) i1 i2 i3 i4 => missing_any P Q C E (gramsL (wds b)) (gramsL (wds a)) W h k i1 i2 i3 i4 (by omega) (by omega) gb ga
  have h7 := fun W (h : Below w.heap.size w W) => bag_any p q c d a b W (gA.call h) (gB.call h) hc hd hcm hdm (by omega) (by omega) ta tb
  have hbn := bagN_le2 a b la lb
  have m1 := misL_le (gramsL (wds a)) (gramsL (wds b))
  have m2 := misL_le (gramsL (wds b)) (gramsL (wds a))
  have HR := Lib.hid (show bouN a b = max (bagN a b) (4 * ((max (misL (gramsL (wds a)) (gramsL (wds b))) (misL (gramsL (wds b)) (gramsL (wds a))) + 1) / 2)) from rfl)
  have H1 := Lib.hid h1; have H2 := Lib.hid h2; have H3 := Lib.hid h3; have H4 := Lib.hid h4; have H5 := Lib.hid h5; have H6 := Lib.hid h6; have H7 := Lib.hid h7
  clear h1 h2 h3 h4 h5 h6 h7 gA gB ta tb xa xb wa wb ga gb lwa lwb hcm hdm
  rw [HR.out]
  generalize misL (gramsL (wds a)) (gramsL (wds b)) = M1 at *
  generalize misL (gramsL (wds b)) (gramsL (wds a)) = M2 at *
  generalize bagN a b = BG at *
  generalize gramsL (wds a) = GA at *
  generalize gramsL (wds b) = GB at *
  generalize wds a = VA at *
  generalize wds b = VB at *
  go_enter Try.func25, Try.ntmps25
  go_wp2_with fail
  refine H1.out.mono ?_; rintro e w1 he
  obtain ⟨p1, c1, rfl, i1, j1, hW1, hb1⟩ := EndW.f he
  have HB1 := Lib.hid hb1; clear he hb1
  go_wp2_with fail
  refine (H2.out _ _ _ hW1 i1 j1).mono ?_; rintro e w2 he
  obtain ⟨p2, c2, rfl, i2, j2, hG2, hb2⟩ := EndG.f he
  have HB2 := Lib.hid (BelowOn HB1.out hb2); have HG2 := Lib.hid hG2; clear he hb2 hG2 hW1
  go_wp2_with fail
  refine (H3.out _ HB2.out).mono ?_; rintro e w3 he
  obtain ⟨p3, c3, rfl, i3, j3, hW3, hb3⟩ := EndW.f he
  have HB3 := Lib.hid (BelowOn HB2.out hb3); have HG3 := Lib.hid (HG2.out.call hb3); clear he hb3
  go_wp2_with fail
  refine (H4.out _ _ _ hW3 i3 j3).mono ?_; rintro e w4 he
  obtain ⟨p4, c4, rfl, i4, j4, hG4, hb4⟩ := EndG.f he
  have HB4 := Lib.hid (BelowOn HB3.out hb4); have HGA := Lib.hid (HG3.out.call hb4); have HGB := Lib.hid hG4; clear he hb4 hG4 hW3
  go_wp2_with fail
  refine (H5.out _ _ _ _ _ HGA.out HGB.out i2 i4 j2 j4).mono ?_; rintro e w5 ⟨rfl, hb5⟩
  have HB5 := Lib.hid (BelowOn HB4.out hb5); have HGA5 := Lib.hid (HGA.out.call hb5); have HGB5 := Lib.hid (HGB.out.call hb5); clear hb5
  go_wp2_with fail
  refine (H6.out _ _ _ _ _ HGB5.out HGA5.out i4 i2 j4 j2).mono ?_; rintro e w6 ⟨rfl, hb6⟩
  have HB6 := Lib.hid (BelowOn HB5.out hb6); clear hb6
  have k1 : (0 : Int) ≤ max (M1 : Int) (M2 : Int) := by omega
  have k2 : max (M1 : Int) (M2 : Int) ≤ 1073741824 := by omega
  have HMX := Lib.hid (show max (M1 : Int) (M2 : Int) = ((max M1 M2 : Nat) : Int) by omega)
  generalize hmx : max (M1 : Int) (M2 : Int) = mx at *
  have HM3 := Lib.hid hmx
  clear hmx
  have k3 : (0 : Int) ≤ (mx + 2 - 1) / 2 := by omega
  have k4 : (mx + 2 - 1) / 2 ≤ 1073741824 := by omega
  go_wp2_with fail
  refine (H7.out _ HB6.out).mono ?_; rintro e w7 ⟨rfl, hb7⟩
  have HB7 := Lib.hid (BelowOn HB6.out hb7); clear hb7
  go_wp2_with fail
  go_ret
  refine ⟨?_, HB7.out⟩
  show Ending.returned (Value.int .i64 _) = _
  congr 2
  have := HMX.out
  omega
set_option maxHeartbeats 12800000 in
theorem rbound_any (p q : Option Addr) (c d : Nat) (a b : List It) (w : World) (gA : Its w p a) (gB : Its w q b) (hc : a.length ≤ c) (hd : b.length ≤ d) (hcm : c ≤ maxLen) (hdm : d ≤ maxLen) (la : a.length ≤ 900) (lb : b.length ≤ 900)
    (ta : ∀ x ∈ a, (Lit.int .i64 x.k).wf = true ∧ x.t.size ≤ 1000) (tb : ∀ x ∈ b, (Lit.int .i64 x.k).wf = true ∧ x.t.size ≤ 1000) :
    Calls Try.prog 26 #[.slice p a.length c, .slice q b.length d] w fun e w' => e = .returned (.int .i64 (bouN a b : Nat)) ∧ Below w.heap.size w w' := by
  have xa : txtsB a := fun x hx => (ta x hx).2
  have xb : txtsB b := fun x hx => (tb x hx).2
  have wa := wds_size a xa; have wb := wds_size b xb
  have ga := grams_size _ wa; have gb := grams_size _ wb
  have lwa := wds_len a; have lwb := wds_len b
  have lga := gramsL_len (wds a); have lgb := gramsL_len (wds b)
  have h1 := rwords_any p c a w gA hc hcm (by omega) xa
  have h2 := fun W P C (h : Ones W Value.string P (wds a)) h' h'' => rgrams_any P C (wds a) W h h' h'' (by omega)
  have h3 := fun W (h : Below w.heap.size w W) => rwords_any q d b W (gB.call h) hd hdm (by omega) xb
  have h4 := fun W P C (h : Ones W Value.string P (wds b)) h' h'' => rgrams_any P C (wds b) W h h' h'' (by omega)
  have h5 := fun W P C Q E (h : Gs W P (gramsL (wds a))) (k : Gs W Q (gramsL (wds b))) i1 i2 i3 i4 => rmissing_any P Q C E (gramsL (wds a)) (gramsL (wds b)) W h k i1 i2 i3 i4 (by omega) (by omega)
  have h6 := fun W P C Q E (h : Gs W P (gramsL (wds b))) (k : Gs W Q (gramsL (wds a))) i1 i2 i3 i4 => rmissing_any P Q C E (gramsL (wds b)) (gramsL (wds a)) W h k i1 i2 i3 i4 (by omega) (by omega)
  have h7 := fun W (h : Below w.heap.size w W) => rbag_any p q c d a b W (gA.call h) (gB.call h) hc hd hcm hdm (by omega) (by omega) xa xb
  have hbn := bagN_le2 a b la lb
  have m1 := misL_le (gramsL (wds a)) (gramsL (wds b))
  have m2 := misL_le (gramsL (wds b)) (gramsL (wds a))
  have HR := Lib.hid (show bouN a b = max (bagN a b) (4 * ((max (misL (gramsL (wds a)) (gramsL (wds b))) (misL (gramsL (wds b)) (gramsL (wds a))) + 1) / 2)) from rfl)
  have H1 := Lib.hid h1; have H2 := Lib.hid h2; have H3 := Lib.hid h3; have H4 := Lib.hid h4; have H5 := Lib.hid h5; have H6 := Lib.hid h6; have H7 := Lib.hid h7
  clear h1 h2 h3 h4 h5 h6 h7 gA gB ta tb xa xb wa wb ga gb lwa lwb hcm hdm
  rw [HR.out]
  generalize misL (gramsL (wds a)) (gramsL (wds b)) = M1 at *
  generalize misL (gramsL (wds b)) (gramsL (wds a)) = M2 at *
  generalize bagN a b = BG at *
  generalize gramsL (wds a) = GA at *
  generalize gramsL (wds b) = GB at *
  generalize wds a = VA at *
  generalize wds b = VB at *
  go_enter Try.func26, Try.ntmps26
  go_wp2_with fail
  refine H1.out.mono ?_; rintro e w1 he
  obtain ⟨p1, c1, rfl, i1, j1, hW1, hb1⟩ := EndW.f he
  have HB1 := Lib.hid hb1; clear he hb1
  go_wp2_with fail
  refine (H2.out _ _ _ hW1 i1 j1).mono ?_; rintro e w2 he
  obtain ⟨p2, c2, rfl, i2, j2, hG2, hb2⟩ := EndG.f he
  have HB2 := Lib.hid (BelowOn HB1.out hb2); have HG2 := Lib.hid hG2; clear he hb2 hG2 hW1
  go_wp2_with fail
  refine (H3.out _ HB2.out).mono ?_; rintro e w3 he
  obtain ⟨p3, c3, rfl, i3, j3, hW3, hb3⟩ := EndW.f he
  have HB3 := Lib.hid (BelowOn HB2.out hb3); have HG3 := Lib.hid (HG2.out.call hb3); clear he hb3
  go_wp2_with fail
  refine (H4.out _ _ _ hW3 i3 j3).mono ?_; rintro e w4 he
  obtain ⟨p4, c4, rfl, i4, j4, hG4, hb4⟩ := EndG.f he
  have HB4 := Lib.hid (BelowOn HB3.out hb4); have HGA := Lib.hid (HG3.out.call hb4); have HGB := Lib.hid hG4; clear he hb4 hG4 hW3
  go_wp2_with fail
  refine (H5.out _ _ _ _ _ HGA.out HGB.out i2 i4 j2 j4).mono ?_; rintro e w5 ⟨rfl, hb5⟩
  have HB5 := Lib.hid (BelowOn HB4.out hb5); have HGA5 := Lib.hid (HGA.out.call hb5); have HGB5 := Lib.hid (HGB.out.call hb5); clear hb5
  go_wp2_with fail
  refine (H6.out _ _ _ _ _ HGB5.out HGA5.out i4 i2 j4 j2).mono ?_; rintro e w6 ⟨rfl, hb6⟩
  have HB6 := Lib.hid (BelowOn HB5.out hb6); clear hb6
  have k1 : (0 : Int) ≤ max (M1 : Int) (M2 : Int) := by omega
  have k2 : max (M1 : Int) (M2 : Int) ≤ 1073741824 := by omega
  have HMX := Lib.hid (show max (M1 : Int) (M2 : Int) = ((max M1 M2 : Nat) : Int) by omega)
  generalize hmx : max (M1 : Int) (M2 : Int) = mx at *
  have HM3 := Lib.hid hmx
  clear hmx
  have k3 : (0 : Int) ≤ (mx + 1) / 2 := by omega
  have k4 : (mx + 1) / 2 ≤ 1073741824 := by omega
  go_wp2_with fail
  refine (H7.out _ HB6.out).mono ?_; rintro e w7 ⟨rfl, hb7⟩
  have HB7 := Lib.hid (BelowOn HB6.out hb7); clear hb7
  go_wp2_with fail
  go_ret
  refine ⟨?_, HB7.out⟩
  show Ending.returned (Value.int .i64 _) = _
  congr 2
  have := HMX.out
  omega
end Go.Proofs.Ytncdjfgoigaflaa
namespace Go.Proofs.Ytncdjfgoigaflaa
open Go.ChangeShapes Go.WideShapes Go.ChangeAt Go.RowKit Go.Maps
set_option linter.unusedVariables false
set_option linter.unusedSimpArgs false
set_option maxRecDepth 100000

theorem ones_litS {W : World} {B : Nat} {cs : Array Value} {fr : Nat × Nat} {l : List ByteArray} (h : W.heap[B]? = some (.cells cs 9 fr)) (hc : cs.toList = l.map Value.string) : Ones W Value.string (some ⟨B, 0, none⟩) l := fun h0 => by
  refine ⟨_, rfl, (Array.getElem?_eq_some_iff.1 h).1, fun i hi => ?_⟩
  rw [addr0, Lib.cell_of_heap h]
  show cs[i]? = _
  rw [← Array.getElem?_toList, hc, List.getElem?_map, List.getElem?_eq_getElem hi]; rfl
def kAba : List ByteArray := [⟨#[97]⟩, ⟨#[98]⟩, ⟨#[97]⟩]
def kGms : List Gm := [⟨⟨#[]⟩, ⟨#[97]⟩, 1⟩, ⟨⟨#[97]⟩, ⟨#[]⟩, 1⟩, ⟨⟨#[97]⟩, ⟨#[98]⟩, 1⟩, ⟨⟨#[98]⟩, ⟨#[97]⟩, 1⟩]
theorem kGms_eq : gramsL kAba = kGms := by
  have h : ((gramsL kAba).map fun g => (g.f, g.s, g.n)) = (kGms.map fun g => (g.f, g.s, g.n)) := by decide +kernel
  have inj : ∀ a b : List Gm, (a.map fun g => (g.f, g.s, g.n)) = (b.map fun g => (g.f, g.s, g.n)) → a = b := by
    intro a
    induction a with
    | nil => intro b h; cases b with
      | nil => rfl
      | cons y b => cases h
    | cons x a ih => intro b h; cases b with
      | nil => cases h
      | cons y b =>
        rw [List.map_cons, List.map_cons] at h
        injection h with h1 h2
        have h1 := Prod.mk.inj h1
        have h3 := Prod.mk.inj h1.2
        rw [ih b h2]
        congr 1
        cases x; cases y; simp at h1 h3; simp [h1, h3]
  exact inj _ _ h
theorem kBou : bouN rcT rcsT = 4 := by decide +kernel
theorem kwf_of (l : List It) (h : l.all (fun x => (Lit.int .i64 x.k).wf && decide (x.t.size ≤ 1000)) = true) : ∀ x ∈ l, (Lit.int .i64 x.k).wf = true ∧ x.t.size ≤ 1000 := fun x hx => by
  have := List.all_eq_true.1 h x hx
  simpa using this
set_option maxHeartbeats 3200000 in
theorem hknown_any (w : World) : Calls Try.prog 11 #[] w fun e w' => e = .returned (.bool true) ∧ Below w.heap.size w w' := by
  have t1 : ∀ W a, Its W a rc → Calls Try.prog 29 #[.slice a 1 1] W fun e w' => ∃ p c, e = .returned (.slice p 3 c) ∧ 3 ≤ c ∧ c ≤ maxLen ∧ Its w' p rcT ∧ Below W.heap.size W w' := fun W a h => by
    have := rtokens_any a 1 rc W h (by decide) (by decide) (by decide)
    rw [rc_toks] at this
    exact this.mono fun _ _ x => EndT.f x
  have t2 : ∀ W a, Its W a rcs → Calls Try.prog 29 #[.slice a 1 1] W fun e w' => ∃ p c, e = .returned (.slice p 3 c) ∧ 3 ≤ c ∧ c ≤ maxLen ∧ Its w' p rcsT ∧ Below W.heap.size W w' := fun W a h => by
    have := rtokens_any a 1 rcs W h (by decide) (by decide) (by decide)
    rw [rcs_toks] at this
    exact this.mono fun _ _ x => EndT.f x
  have gk : ∀ W a, Ones W Value.string (some a) kAba → Calls Try.prog 16 #[.slice (some a) 3 3] W fun e w' => ∃ p c, e = .returned (.slice p 4 c) ∧ 4 ≤ c ∧ c ≤ maxLen ∧ Gs w' p kGms ∧ Below W.heap.size W w' := fun W a h => by
    have := grams_any (some a) 3 kAba W h (by decide) (by decide) (by decide) (by decide)
    rw [kGms_eq] at this
    exact this.mono fun _ _ x => EndG.f x
  have bk : ∀ W p c q d, Its W p rcT → Its W q rcsT → 3 ≤ c → c ≤ maxLen → 3 ≤ d → d ≤ maxLen → Calls Try.prog 25 #[.slice p 3 c, .slice q 3 d] W fun e w' => e = .returned (.int .i64 4) ∧ Below W.heap.size W w' := fun W p c q d h1 h2 h3 h4 h5 h6 => by
    have := bound_any p q c d rcT rcsT W h1 h2 h3 h5 h4 h6 (by decide) (by decide) (kwf_of _ (by decide +kernel)) (kwf_of _ (by decide +kernel))
    rwa [kBou] at this
  have T1 := Lib.hid t1; have T2 := Lib.hid t2; have GK := Lib.hid gk; have BK := Lib.hid bk
  clear t1 t2 gk bk
  go_enter Try.func11, Try.ntmps11
  go_wp2_with fail
  have hO0 : Ones _ Value.string _ kAba := ones_litS (heap_alloc_new w (.cells (kAba.map Value.string).toArray 9)) rfl
  have hB0 : Below w.heap.size w _ := blw (Below.refl _ _) (.cells (kAba.map Value.string).toArray 9)
  refine (GK.out _ _ hO0).mono ?_; rintro e w1 ⟨p1, c1, rfl, hc1, hm1, hG1, hb1⟩
  have HB1 := Lib.hid (BelowOn hB0 hb1)
  have HG1 := Lib.hid hG1
  clear hO0 hB0 hb1 hG1
  go_wp2_with fail
  have hb2 : Below w1.heap.size w1 _ := blw (Below.refl _ _) (.cells (icells rc).toArray 51)
  have hI2 : Its _ _ rc := Its.lit (heap_alloc_new w1 (.cells (icells rc).toArray 51)) rfl
  refine (T1.out _ _ hI2).mono ?_; rintro e w2 ⟨p2, c2, rfl, hc2, hm2, hI2, hb3⟩
  have HB2 := Lib.hid (BelowOn (BelowOn HB1.out hb2) hb3)
  have HG2 := Lib.hid ((HG1.out.call hb2).call hb3)
  have HT2 := Lib.hid hI2
  clear hb2 hb3 hI2
  go_wp2_with fail
  have hb4 : Below w2.heap.size w2 _ := blw (Below.refl _ _) (.cells (icells rcs).toArray 51)
  have hI3 : Its _ _ rcs := Its.lit (heap_alloc_new w2 (.cells (icells rcs).toArray 51)) rfl
  refine (T2.out _ _ hI3).mono ?_; rintro e w3 ⟨p3, c3, rfl, hc3, hm3, hI3, hb5⟩
  have HB3 := Lib.hid (BelowOn (BelowOn HB2.out hb4) hb5)
  have hG3 := (HG2.out.call hb4).call hb5
  have HT3 := Lib.hid ((HT2.out.call hb4).call hb5)
  have HT4 := Lib.hid hI3
  clear hb4 hb5 hI3
  obtain ⟨ad, rfl, had, z0, z1, z2⟩ := hG3.row 0 (by decide)
  have z0 : w3.cell? (ad.add 0) = some (.string ⟨#[]⟩) := z0
  have z1 : w3.cell? ⟨(ad.add 0).block, (ad.add 0).off + 1, none⟩ = some (.string ⟨#[97]⟩) := z1
  have z2 : w3.cell? ⟨(ad.add 0).block, (ad.add 0).off + 2, none⟩ = some (.int .i64 1) := z2
  have ea : ad.add 0 = ad := by unfold Addr.add; simp
  rw [ea] at z0 z1 z2
  clear hG3 ea
  go_wp2_with fail
  refine (BK.out _ _ _ _ _ HT3.out HT4.out hc2 hm2 hc3 hm3).mono ?_; rintro e w4 ⟨rfl, hb6⟩
  have HB4 := Lib.hid (BelowOn HB3.out hb6)
  clear hb6 z0 z1 z2
  go_wp2_with fail
  go_ret
  exact ⟨rfl, HB4.out⟩

/-! ### words out of numbers -/
def wrd4 : List ByteArray := [⟨#[97]⟩, ⟨#[98]⟩, ⟨#[99]⟩, ⟨#[]⟩]
def wOf (n : Int) : ByteArray := pickB wrd4 (n % 4).toNat
def wsL (L : List Int) : List ByteArray := (L.take 12).map wOf
theorem wsL_next (L : List Int) (k : Nat) (h : k < L.length) (h12 : k < 12) : wsL (L.take (k + 1)) = wsL (L.take k) ++ [wOf (L[k]'h)] := by
  unfold wsL
  rw [List.take_take, List.take_take, Nat.min_eq_right (by omega), Nat.min_eq_right (by omega), List.take_succ_eq_append_getElem h, List.map_append]; rfl
theorem wsL_len (L : List Int) : (wsL L).length ≤ 12 := by unfold wsL; rw [List.length_map, List.length_take]; omega
theorem pickB_mem (l : List ByteArray) (k : Nat) : (pickB l k).size ≤ 1 ∨ pickB l k ∈ l := by
  unfold pickB
  rcases Nat.lt_or_ge k l.length with h | h
  · right; simp [List.getD, List.getElem?_eq_getElem h]
  · left; simp [List.getD, List.getElem?_eq_none h]
theorem wOf_size (n : Int) : (wOf n).size ≤ 1 := by
  rcases pickB_mem wrd4 (n % 4).toNat with h | h
  · exact h
  · unfold wOf; have : ∀ x ∈ wrd4, x.size ≤ 1 := by decide
    exact this _ h
theorem wsL_size (L : List Int) : ∀ x ∈ wsL L, x.size ≤ maxLen := fun x hx => by
  unfold wsL at hx; rw [List.mem_map] at hx
  obtain ⟨n, _, rfl⟩ := hx
  exact Nat.le_trans (wOf_size n) (by unfold maxLen; omega)
set_option maxHeartbeats 3200000 in
theorem words14_any (p : Option Addr) (c : Nat) (L : List Int) (w : World) (hL : Ones w (Value.int .i64) p L) (wL : ∀ i (h : i < L.length), (Lit.int .i64 (L[i]'h)).wf = true) (hc : L.length ≤ c) (hm : c ≤ maxLen) :
    Calls Try.prog 18 #[.slice p L.length c] w (EndW (wsL L) w) := by
  unfold maxLen at hm
  have HW := Lib.hid wL
  clear wL
  go_enter Try.func18, Try.ntmps18
  go_wp2_with fail
  go_loopw [3, 4] (fun v i wr => ∃ k : Nat, k ≤ L.length ∧ k ≤ 12 ∧ i = .int .i64 k ∧ AccS w (wsL (L.take k)) v wr) (fun _ i _ => L.length - (intOf i).toNat)
  case atStart => exact ⟨0, Nat.zero_le _, Nat.zero_le _, rfl, Acc.start w⟩
  case round =>
    obtain ⟨k, hk, hk12, rfl, hA⟩ := hrel
    by_cases hlt : k < L.length
    · by_cases h12 : k < 12
      · have hnx := wsL_next L k hlt h12
        have hlen := wsL_len (L.take k)
        have ecs : (wrd4.map Value.string).toArray = #[.string ⟨#[97]⟩, .string ⟨#[98]⟩, .string ⟨#[99]⟩, .string ⟨#[]⟩] := rfl
        have hwf := HW.out k hlt
        have hA1 := hA.alloc (.cells (wrd4.map Value.string).toArray 9)
        have hp := place_any L[k] 4 (wr.alloc (.cells (wrd4.map Value.string).toArray 9)) (by omega) (by omega) hwf
        obtain ⟨a, rfl, ha, c0⟩ := one_row (hL.call hA.below) k hlt
        have ha : (a.add k).block < wr.heap.size := by rw [add_block]; exact ha
        have hpk := pick_row (heap_alloc_new wr (.cells (wrd4.map Value.string).toArray 9)) wrd4 rfl (L[k] % 4).toNat (by show _ < 4; omega)
        have n0 := Int.emod_nonneg L[k] (show (4 : Int) ≠ 0 by omega)
        have n1 := Int.emod_lt_of_pos L[k] (show (0 : Int) < 4 by omega)
        have hwo : pickB wrd4 (L[k] % 4).toNat = wOf L[k] := rfl
        rw [hwo] at hpk
        rw [ecs] at hpk hp hA1
        clear ecs
        have HNX := Lib.hid hnx
        have ik : (k : Int) < (L.length : Int) := by omega
        have ik2 : (k : Int) < 12 := by omega
        clear hnx hA hwo hwf
        have HP := Lib.hid hp
        clear hp
        generalize wOf L[k] = W0 at *
        generalize wsL (L.take k) = out at *
        generalize L[k] = X at *
        obtain ⟨z, hz⟩ : ∃ z : Nat, X % 4 = (z : Int) := ⟨(X % 4).toNat, by omega⟩
        rw [hz] at n0 n1
        have HPz := HP.out
        rw [hz] at HPz hpk
        rw [Int.toNat_natCast] at hpk
        have HP2 := Lib.hid HPz
        have z4 : (z : Int) < 4 := n1
        clear HP HPz hz n0 n1
        go_wp2_with fail
        refine HP2.out.mono ?_; rintro e w2 ⟨rfl, rfl⟩
        go_wp2_with (at_builtin; refine wpl_append eS _ rfl _ _ rfl w out _ rfl (hA1.alloc _) W0 _ _ rfl (heap_new2 _ _ _) rfl (by omega) (by unfold maxLen; omega) ?_; intro v' w4 hA4 hb4)
        go_wp2_with fail
        go_roundw
        case rel => exact ⟨k + 1, hlt, by omega, by go_num, by rw [HNX.out]; exact hA4⟩
        case measure => simp [intOf]; omega
      · have hw : wsL L = wsL (L.take k) := by unfold wsL; rw [List.take_take, show min 12 k = 12 by omega]
        have HWW := Lib.hid hw
        have n12 : ¬ ((k : Int) < 12) := by omega
        have ik : (k : Int) < (L.length : Int) := by omega
        clear hw
        go_wp2_with fail
        go_ret
        exact ⟨_, rfl, by rw [HWW.out]; exact hA⟩
    · obtain rfl : k = L.length := by omega
      rw [List.take_length] at hA
      go_wp2_with fail
      go_ret
      exact ⟨_, rfl, hA⟩
end Go.Proofs.Ytncdjfgoigaflaa
namespace Go.Proofs.Ytncdjfgoigaflaa
open Go.ChangeShapes Go.WideShapes Go.ChangeAt Go.RowKit Go.Sort
set_option linter.unusedVariables false
set_option linter.unusedSimpArgs false
set_option maxRecDepth 100000

def blueT : It := ⟨6, ⟨#[98, 108, 117, 101]⟩, 0⟩
def sfxT (x : It) : It := if x.k = 6 then ⟨6, x.t ++ ⟨#[115]⟩, x.id⟩ else x
def nearS (M : List Int) (i : Nat) (x : It) : List It :=
  if nx M i 12 = 0 then [] else if nx M i 12 = 1 then [blueT, x] else if nx M i 12 = 2 then [sfxT x] else if nx M i 12 = 3 then [x, x] else [x]
def nearK (M : List Int) : Nat → List It → List It
  | _, [] => []
  | i, x :: l => nearS M i x ++ nearK M (i + 1) l
def nearL (M : List Int) (l : List It) : List It := nearK M 0 l
theorem nearK_snoc (M : List Int) (l : List It) (x : It) : ∀ i, nearK M i (l ++ [x]) = nearK M i l ++ nearS M (i + l.length) x := by
  induction l with
  | nil => intro i; simp [nearK]
  | cons y l ih => intro i; rw [List.cons_append, nearK, nearK, ih, List.append_assoc, List.length_cons, show i + 1 + l.length = i + (l.length + 1) by omega]
theorem nearL_next (M : List Int) (l : List It) (k : Nat) (h : k < l.length) : nearL M (l.take (k + 1)) = nearL M (l.take k) ++ nearS M k (l[k]'h) := by
  unfold nearL
  rw [List.take_succ_eq_append_getElem h, nearK_snoc, Nat.zero_add, List.length_take, Nat.min_eq_left (Nat.le_of_lt h)]
theorem nearS_len (M : List Int) (i : Nat) (x : It) : (nearS M i x).length ≤ 2 := by
  unfold nearS; repeat' split
  all_goals simp
theorem nearK_len (M : List Int) (l : List It) : ∀ i, (nearK M i l).length ≤ 2 * l.length := by
  induction l with
  | nil => intro i; exact Nat.le_refl _
  | cons x l ih => intro i; rw [nearK, List.length_append, List.length_cons]; have := ih (i + 1); have := nearS_len M i x; omega
theorem nearL_len (M : List Int) (l : List It) : (nearL M l).length ≤ 2 * l.length := nearK_len M l 0
theorem nearK_all {P : It → Prop} (M : List Int) (l : List It) (hb : P blueT) (hx : ∀ x ∈ l, P x) (hs : ∀ x ∈ l, P (sfxT x)) : ∀ i, ∀ y ∈ nearK M i l, P y := by
  induction l with
  | nil => intro i y hy; cases hy
  | cons x l ih =>
    intro i y hy
    rw [nearK, List.mem_append] at hy
    rcases hy with hy | hy
    · have h1 := hx x (List.mem_cons_self ..)
      have h2 := hs x (List.mem_cons_self ..)
      unfold nearS at hy
      split at hy
      · cases hy
      · split at hy
        · simp at hy; rcases hy with rfl | rfl <;> assumption
        · split at hy
          · simp at hy; subst hy; exact h2
          · split at hy
            · simp at hy; subst hy; exact h1
            · simp at hy; subst hy; exact h1
    · exact ih (fun z hz => hx z (List.mem_cons_of_mem _ hz)) (fun z hz => hs z (List.mem_cons_of_mem _ hz)) (i + 1) y hy
theorem nearL_kind (M : List Int) (l : List It) (h : kindV l) : kindV (nearL M l) :=
  nearK_all (P := fun x => 2 ≤ x.k ∧ x.k ≤ 9) M l (by decide) h (fun x hx => by
    unfold sfxT; split
    · exact ⟨show (2 : Int) ≤ 6 by decide, show (6 : Int) ≤ 9 by decide⟩
    · exact h x hx) 0
theorem nearL_txt (M : List Int) (l : List It) (h : ∀ x ∈ l, x.t.size ≤ 900) : txtsB (nearL M l) :=
  nearK_all (P := fun x => x.t.size ≤ 1000) M l (by decide) (fun x hx => by have := h x hx; omega) (fun x hx => by
    have := h x hx
    unfold sfxT; split
    · show (x.t ++ ⟨#[115]⟩).size ≤ 1000
      rw [ByteArray.size_append]; show x.t.size + 1 ≤ 1000; omega
    · omega) 0
theorem mkD_txt9 (L : List Int) (n : Nat) : ∀ x ∈ mkD L n, x.t.size ≤ 900 := fun x hx => by
  have h1 := toks_txt (mk L true false)
  have h2 := (mk_ok L true false).txt
  have := txt_mem _ x (show x ∈ toks (mk L true false) from List.mem_of_mem_take hx)
  omega
/-- What a round of near has in hand. -/
structure NrR (w : World) (pn : Option Addr) (cn : Nat) (M : List Int) (p : Option Addr) (l : List It) (out : List It) (v : Value) (m : Nat) (W : World) : Prop where
  below : Below w.heap.size w W
  nums : NumsAt W w.heap.size pn cn M m
  own : OwnT (w.heap.size + 1) out v W
  its : Its W p l
  plo : 0 < M.length → ∀ a, pn = some a → a.block < w.heap.size
  ilo : 0 < l.length → ∀ a, p = some a → a.block < w.heap.size
section
variable {w W W' : World} {pn p : Option Addr} {cn m : Nat} {M : List Int} {l out : List It} {v : Value}
theorem NrR.lt (h : NrR w pn cn M p l out v m W) : w.heap.size < W.heap.size := h.nums.lt
theorem NrR.call (h : NrR w pn cn M p l out v m W) (hb : Below W.heap.size W W') : NrR w pn cn M p l out v m W' :=
  ⟨BelowOn h.below hb, h.nums.call hb, h.own.call hb, h.its.call hb, h.plo, h.ilo⟩
theorem NrR.alloc (h : NrR w pn cn M p l out v m W) (o : Obj) : NrR w pn cn M p l out v m (W.alloc o) := h.call (blw (Below.refl _ _) o)
theorem its_keepB {W W' : World} {p : Option Addr} {l : List It} {B : Nat} (h : Its W p l) (hlo : 0 < l.length → ∀ a, p = some a → a.block < B) (hs : W.heap.size ≤ W'.heap.size) (hb : ∀ k, k < B → W'.heap[k]? = W.heap[k]?) : Its W' p l := fun h0 => by
  obtain ⟨a, hp, hlt, hc⟩ := h h0
  have hk := hb _ (hlo h0 a hp)
  refine ⟨a, hp, Nat.lt_of_lt_of_le hlt hs, fun i hi => ?_⟩
  obtain ⟨c0, c1, c2⟩ := hc i hi
  refine ⟨?_, ?_, ?_⟩
  · rw [World.cell?_of_block (w := W) (w' := W') (a := a.add (i * 3)) (by rw [add_block]; exact hk)]; exact c0
  · rw [World.cell?_of_block (w := W) (w' := W') (a := a.add (i * 3 + 1)) (by rw [add_block]; exact hk)]; exact c1
  · rw [World.cell?_of_block (w := W) (w' := W') (a := a.add (i * 3 + 2)) (by rw [add_block]; exact hk)]; exact c2
theorem NrR.next (h : NrR w pn cn M p l out v m W) {m' : Nat} (hg : W.grownBy W' (some w.heap.size)) (hN : NumsAt W' w.heap.size pn cn M m') : NrR w pn cn M p l out v m' W' :=
  ⟨below_of_grow h.below hg h.below.size (Nat.le_refl _), hN, h.own.other hg (by omega),
    its_keepB h.its h.ilo hg.size (fun k hk => hg.block k (by have := h.lt; omega) (fun e => by injection e; omega)), h.plo, h.ilo⟩
theorem NrR.push (h : NrR w pn cn M p l out v m W) {out' : List It} {v' : Value} (hown : OwnT (w.heap.size + 1) out' v' W') (hb : Below (w.heap.size + 1) W W') : NrR w pn cn M p l out' v' m W' :=
  ⟨h.below.trans (hb.mono (by omega)), h.nums.keep hb.size (hb.block _ (by omega)) (fun h0 a ha => hb.block _ (by have := h.plo h0 a ha; omega)), hown,
    its_keepB h.its h.ilo hb.size (fun k hk => hb.block k (by omega)), h.plo, h.ilo⟩
theorem NrR.set (h : NrR w pn cn M p l out v m W) {g : Nat} (hg : w.heap.size < g) (hv : v.ownBlock ≠ some g) (i : Nat) (x : Value) : NrR w pn cn M p l out v m (W.setCell ⟨g, i, none⟩ x) := by
  have hgr := grow_cell W g i x
  have hk : ∀ k, k ≠ g → (W.setCell ⟨g, i, none⟩ x).heap[k]? = W.heap[k]? := fun k hk => Below.heap_setCell W ⟨g, i, none⟩ _ k hk
  have hs : (W.setCell ⟨g, i, none⟩ x).heap.size = W.heap.size := by simp [World.setCell]
  exact ⟨below_of_grow h.below hgr h.below.size (by omega), h.nums.keep (by omega) (hk _ (by omega)) (fun h0 a ha => hk _ (by have := h.plo h0 a ha; omega)),
    h.own.keepAt (fun k e => hk k (fun e2 => hv (by rw [← e2]; exact e))), its_keepB h.its h.ilo (by omega) (fun k hkk => hk k (by omega)), h.plo, h.ilo⟩
theorem NrR.start (pn : Option Addr) (cn : Nat) (M : List Int) (p : Option Addr) (l : List It) (w : World) (hM : Ones w (Value.int .i64) pn M) (wM : ∀ i (h : i < M.length), (Lit.int .i64 (M[i]'h)).wf = true) (hc : M.length ≤ cn) (hm : cn ≤ maxLen) (hl : Its w p l) :
    NrR w pn cn M p l [] (.slice none 0 0) 0 (w.alloc (.cells #[.slice pn M.length cn, .int .i64 0] 65)) := by
  have hb : Below w.heap.size w (w.alloc (.cells #[.slice pn M.length cn, .int .i64 0] 65)) := blw (Below.refl _ _) _
  exact ⟨hb, NumsAt.made hM wM hc hm, OwnL.nil _ _, hl.call hb, fun h0 => ones_any hM h0, fun h0 a ha => by
    obtain ⟨b, e, hlt, _⟩ := hl h0
    rw [ha] at e; injection e with e; subst e; exact hlt⟩
end
/-- A round's token lies in a variable. -/
structure NrV (w : World) (pn : Option Addr) (cn : Nat) (M : List Int) (p : Option Addr) (l : List It) (out : List It) (v : Value) (m g : Nat) (x : It) (W : World) : Prop where
  r : NrR w pn cn M p l out v m W
  va : Var3 W g x.k x.t x.id
  ne : v.ownBlock ≠ some g
  gl : w.heap.size < g
  fz : ∃ cur, W.heap[g]? = some (.cells cur 44 (0, 0))
section
variable {w W W' : World} {pn p : Option Addr} {cn m g : Nat} {M : List Int} {l out : List It} {v : Value} {x : It}
theorem NrR.vars (h : NrR w pn cn M p l out v m W) (x : It) : NrV w pn cn M p l out v m W.heap.size x (W.alloc (.cells #[.int .i64 x.k, .string x.t, .int .i64 x.id] 44)) :=
  ⟨h.alloc _, Var3.newT W x.k x.t x.id, fun e => by have := (h.own.lt _ e).2; omega, h.lt, ⟨_, heap_alloc_new W _⟩⟩
theorem NrV.call (h : NrV w pn cn M p l out v m g x W) (hb : Below W.heap.size W W') : NrV w pn cn M p l out v m g x W' := ⟨h.r.call hb, h.va.call hb, h.ne, h.gl, by obtain ⟨cur, hc⟩ := h.fz; exact ⟨cur, keep_heap hc hb⟩⟩
theorem NrV.next (h : NrV w pn cn M p l out v m g x W) {m' : Nat} (hg : W.grownBy W' (some w.heap.size)) (hN : NumsAt W' w.heap.size pn cn M m') : NrV w pn cn M p l out v m' g x W' :=
  ⟨h.r.next hg hN, h.va.other hg (by have := h.gl; omega), h.ne, h.gl, by obtain ⟨cur, hc⟩ := h.fz; exact ⟨cur, (hg.block g (heap_lt hc) (fun e => by injection e with e; have := h.gl; omega)).trans hc⟩⟩
theorem NrV.push (h : NrV w pn cn M p l out v m g x W) {out' : List It} {g' n c : Nat} (hown : OwnT (w.heap.size + 1) out' (.slice (some ⟨g', 0, none⟩) n c) W') (hgr : W.grownBy W' v.ownBlock) (hloc : v.ownBlock = some g' ∨ g' = W.heap.size) : NrV w pn cn M p l out' (.slice (some ⟨g', 0, none⟩) n c) m g x W' := by
  have hlt := h.va.lt
  have hb : Below (w.heap.size + 1) W W' := ⟨hgr.os, hgr.tape, hgr.output, hgr.size, fun k hk => hgr.block k (by have := h.r.lt; omega) (fun e => by have := (h.r.own.lt k e.symm).1; omega)⟩
  refine ⟨h.r.push hown hb, h.va.same (hgr.block g hlt (fun e => h.ne e.symm)) hgr.size, fun e => ?_, h.gl, by obtain ⟨cur, hc⟩ := h.fz; exact ⟨cur, (hgr.block g hlt (fun e => h.ne e.symm)).trans hc⟩⟩
  have e' : g' = g := by simpa [Value.ownBlock] using e
  subst e'
  rcases hloc with h1 | h1
  · exact h.ne h1
  · omega
theorem NrV.text (h : NrV w pn cn M p l out v m g x W) (s : ByteArray) : NrV w pn cn M p l out v m g ⟨x.k, s, x.id⟩ (W.setCell ⟨g, 1, none⟩ (.string s)) := by
  refine ⟨h.r.set h.gl h.ne 1 _, ⟨?_, ?_, ?_, ?_⟩, h.ne, h.gl, by obtain ⟨cur, hc⟩ := h.fz; exact ⟨_, setCell_at W g 1 cur _ _ hc⟩⟩
  · rw [World.cell?_setCell_other _ _ _ _ (fun e => by injection e with e1 e2; omega)]; exact h.va.c0
  · exact World.cell?_setCell_same _ _ _ h.va.c1
  · rw [World.cell?_setCell_other _ _ _ _ (fun e => by injection e with e1 e2; omega)]; exact h.va.c2
  · have := h.va.lt; simpa [World.setCell] using this
end
end Go.Proofs.Ytncdjfgoigaflaa
namespace Go.Proofs.Ytncdjfgoigaflaa
open Go.ChangeShapes Go.WideShapes Go.ChangeAt Go.RowKit Go.Sort
set_option linter.unusedVariables false
set_option linter.unusedSimpArgs false
set_option maxRecDepth 100000

set_option maxHeartbeats 6400000 in
theorem near_any (p pn : Option Addr) (c cn : Nat) (l : List It) (M : List Int) (w : World) (hR : Its w p l) (hc : l.length ≤ c) (hcm : c ≤ maxLen) (hM : Ones w (Value.int .i64) pn M) (wM : ∀ i (h : i < M.length), (Lit.int .i64 (M[i]'h)).wf = true) (hcn : M.length ≤ cn) (hcnm : cn ≤ maxLen) (hl : l.length ≤ 1000) (hx : ∀ x ∈ l, x.t.size ≤ 900) :
    Calls Try.prog 22 #[.slice p l.length c, .slice pn M.length cn] w (EndT (nearL M l) w) := by
  have hS := NrR.start pn cn M p l w hM wM hcn hcnm hR
  have HL := Lib.hid (nearL_len M)
  have HX := Lib.hid hx
  have HNX := Lib.hid (fun W k h hk => next_any w.heap.size pn cn M k 12 12 rfl W h hk (by omega) (by omega))
  clear hM wM hR hx
  unfold maxLen at hcm
  go_enter Try.func22, Try.ntmps22
  go_wp2_with fail
  generalize (w.alloc (.cells #[.slice pn M.length cn, .int .i64 0] 65)) = w1 at *
  go_loopw [6, 14] (fun v i wr => ∃ k : Nat, k ≤ l.length ∧ i = .int .i64 k ∧ NrR w pn cn M p l (nearL M (l.take k)) v k wr) (fun _ i _ => l.length - (intOf i).toNat)
  case atStart => exact ⟨0, Nat.zero_le _, rfl, by simpa [nearL, nearK] using hS⟩
  case round =>
    clear hS
    obtain ⟨k, hk, rfl, hN⟩ := hrel
    by_cases hlt : k < l.length
    · obtain ⟨ad, rfl, had, x0, x1, x2⟩ := hN.its.row k hlt
      have hnx := nearL_next M l k hlt
      have hol := HL.out (l.take k)
      have hxs := HX.out _ (List.getElem_mem hlt)
      have hV := hN.vars l[k]
      rw [List.length_take] at hol
      have hol2 : (nearL M (l.take k)).length ≤ 2000 := by omega
      have ik : (k : Int) < (l.length : Int) := by omega
      have hg : (nearS M k l[k]) = (if nx M k 12 = 0 then [] else if nx M k 12 = 1 then [blueT, l[k]] else if nx M k 12 = 2 then [sfxT l[k]] else if nx M k 12 = 3 then [l[k], l[k]] else [l[k]]) := rfl
      have HG := Lib.hid hg; have HO := Lib.hid hnx
      have hN3 := HNX.out _ k hV.r.nums (by omega)
      generalize nearL M (l.take k) = out at *
      generalize l[k] = X at *
      generalize nx M k 12 = N at *
      have HV := Lib.hid hV; have HN3 := Lib.hid hN3
      clear hN hg hnx hV hN3 hol
      go_wp2_with fail
      refine HN3.out.mono ?_; rintro e w2 ⟨rfl, hgr, hNu⟩
      have HV2 := Lib.hid (HV.out.next hgr hNu)
      clear HV HN3 hgr hNu x0 x1 x2 had
      generalize wr.heap.size = g at *
      by_cases z0 : N = 0
      · have q0 : ((N : Int) == 0) = true := by simp; omega
        have hv := HV2.out
        go_wp2_with fail
        go_roundw
        case rel => exact ⟨k + 1, hlt, by go_num, by rw [HO.out, HG.out]; rw [if_pos z0, List.append_nil]; exact hv.r⟩
        case measure => simp [intOf] <;> omega
      have q0 : ((N : Int) == 0) = false := by simp; omega
      by_cases z1 : N = 1
      · have q1 : ((N : Int) == 1) = true := by simp; omega
        have hv1 := HV2.out
        obtain ⟨c0, c1, c2, clt⟩ := id hv1.va
        have hnew := heap_alloc_new w2 (.cells #[.int .i64 6, .string ⟨#[98, 108, 117, 101]⟩, .int .i64 0] 44)
        have hbn : Below w2.heap.size w2 (w2.alloc (.cells #[.int .i64 6, .string ⟨#[98, 108, 117, 101]⟩, .int .i64 0] 44)) := blw (Below.refl _ _) _
        have hv1' := hv1.call hbn
        go_wp2_with (first
          | (at_builtin; refine wpl_app eT _ rfl _ _ rfl (w.heap.size + 1) out _ rfl hv1'.r.own (by have := hv1'.r.lt; omega) blueT _ _ rfl hnew rfl (by (try simp only [List.length_append, List.length_cons, List.length_nil]); omega) (by unfold maxLen; (try simp only [List.length_append, List.length_cons, List.length_nil]); omega) ?_; intro g1 cap1 w3 hown hgr hloc; have hv2 := hv1'.push hown hgr hloc; clear hown hgr hloc hnew hbn hv1' hv1 c0 c1 c2 clt; obtain ⟨c0, c1, c2, clt⟩ := id hv2.va; have hnew2 := heap_alloc_new w3 (.cells #[.int .i64 X.k, .string X.t, .int .i64 X.id] 44); have hbn2 : Below w3.heap.size w3 (w3.alloc (.cells #[.int .i64 X.k, .string X.t, .int .i64 X.id] 44)) := blw (Below.refl _ _) _; have hv2' := hv2.call hbn2)
          | (at_builtin; refine wpl_app eT _ rfl _ _ rfl (w.heap.size + 1) (out ++ [blueT]) _ rfl hv2'.r.own (by have := hv2'.r.lt; omega) X _ _ rfl hnew2 rfl (by (try simp only [List.length_append, List.length_cons, List.length_nil]); omega) (by unfold maxLen; (try simp only [List.length_append, List.length_cons, List.length_nil]); omega) ?_; intro g2 cap2 w4 hown hgr hloc))
        have HV4 := Lib.hid (hv2'.push hown hgr hloc)
        clear hown hgr hloc hv2' hbn2 hnew2 hv2 c0 c1 c2 clt
        have hv := HV4.out
        go_wp2_with fail
        go_roundw
        case rel => exact ⟨k + 1, hlt, by go_num, by rw [HO.out, HG.out]; rw [if_neg z0, if_pos z1]; exact (by simpa using hv.r)⟩
        case measure => simp [intOf] <;> omega
      have q1 : ((N : Int) == 1) = false := by simp; omega
      by_cases z2 : N = 2
      · have q2 : ((N : Int) == 2) = true := by simp; omega
        by_cases y : X.k = 6
        · have qk : (X.k == 6) = true := by simp [y]
          have hsz : ¬ 9223372036854775807 < X.t.size + 1 := by omega
          have hsx : sfxT X = ⟨X.k, X.t ++ ⟨#[115]⟩, X.id⟩ := by unfold sfxT; rw [if_pos y, y]
          have HSX := Lib.hid hsx
          clear hsx y
          have hv := HV2.out
          obtain ⟨d0, d1, d2, dl⟩ := id hv.va
          have fz : w2.frozen? ⟨g, 1, none⟩ = false := by obtain ⟨cur, hc⟩ := hv.fz; exact Lib.frozen_of_heap hc _
          have HV3 := Lib.hid (hv.text (X.t ++ ⟨#[115]⟩))
          clear hv
          go_upto_region 15 with (fail)
          generalize w2.setCell ⟨g, 1, none⟩ (.string (X.t ++ ⟨#[115]⟩)) = w3 at *
          clear d0 d1 d2 dl fz
          have hv2 := HV3.out
          obtain ⟨c0, c1, c2, cl⟩ := id hv2.va
          have hnew := heap_alloc_new w3 (.cells #[.int .i64 X.k, .string (X.t ++ ⟨#[115]⟩), .int .i64 X.id] 44)
          have hbn : Below w3.heap.size w3 (w3.alloc (.cells #[.int .i64 X.k, .string (X.t ++ ⟨#[115]⟩), .int .i64 X.id] 44)) := blw (Below.refl _ _) _
          have hv2' := hv2.call hbn
          go_wp2_with (at_builtin; refine wpl_app eT _ rfl _ _ rfl (w.heap.size + 1) out _ rfl hv2'.r.own (by have := hv2'.r.lt; omega) (⟨X.k, X.t ++ ⟨#[115]⟩, X.id⟩ : It) _ _ rfl hnew rfl (by (try simp only [List.length_append, List.length_cons, List.length_nil]); omega) (by unfold maxLen; (try simp only [List.length_append, List.length_cons, List.length_nil]); omega) ?_; intro g2 cap2 w4 hown hgr hloc)
          have HV4 := Lib.hid (hv2'.push hown hgr hloc)
          clear hown hgr hloc hv2' hbn hnew hv2 c0 c1 c2 cl
          have hv := HV4.out
          go_wp2_with fail
          go_roundw
          case rel => exact ⟨k + 1, hlt, by go_num, by rw [HO.out, HG.out]; rw [if_neg z0, if_neg z1, if_pos z2, HSX.out]; exact hv.r⟩
          case measure => simp [intOf] <;> omega
        · have qk : (X.k == 6) = false := by simp [y]
          have HSX := Lib.hid (show sfxT X = X by unfold sfxT; rw [if_neg y])
          clear y
          have hv2 := HV2.out
          obtain ⟨c0, c1, c2, cl⟩ := id hv2.va
          have hnew := heap_alloc_new w2 (.cells #[.int .i64 X.k, .string X.t, .int .i64 X.id] 44)
          have hbn : Below w2.heap.size w2 (w2.alloc (.cells #[.int .i64 X.k, .string X.t, .int .i64 X.id] 44)) := blw (Below.refl _ _) _
          have hv2' := hv2.call hbn
          go_wp2_with (at_builtin; refine wpl_app eT _ rfl _ _ rfl (w.heap.size + 1) out _ rfl hv2'.r.own (by have := hv2'.r.lt; omega) X _ _ rfl hnew rfl (by (try simp only [List.length_append, List.length_cons, List.length_nil]); omega) (by unfold maxLen; (try simp only [List.length_append, List.length_cons, List.length_nil]); omega) ?_; intro g2 cap2 w4 hown hgr hloc)
          have HV4 := Lib.hid (hv2'.push hown hgr hloc)
          clear hown hgr hloc hv2' hbn hnew hv2 c0 c1 c2 cl
          have hv := HV4.out
          go_wp2_with fail
          go_roundw
          case rel => exact ⟨k + 1, hlt, by go_num, by rw [HO.out, HG.out]; rw [if_neg z0, if_neg z1, if_pos z2, HSX.out]; exact hv.r⟩
          case measure => simp [intOf] <;> omega
      have q2 : ((N : Int) == 2) = false := by simp; omega
      by_cases z3 : N = 3
      · have q3 : ((N : Int) == 3) = true := by simp; omega
        have hv1 := HV2.out
        obtain ⟨c0, c1, c2, clt⟩ := id hv1.va
        have hnew := heap_alloc_new w2 (.cells #[.int .i64 X.k, .string X.t, .int .i64 X.id] 44)
        have hbn : Below w2.heap.size w2 (w2.alloc (.cells #[.int .i64 X.k, .string X.t, .int .i64 X.id] 44)) := blw (Below.refl _ _) _
        have hv1' := hv1.call hbn
        go_wp2_with (first
          | (at_builtin; refine wpl_app eT _ rfl _ _ rfl (w.heap.size + 1) out _ rfl hv1'.r.own (by have := hv1'.r.lt; omega) X _ _ rfl hnew rfl (by (try simp only [List.length_append, List.length_cons, List.length_nil]); omega) (by unfold maxLen; (try simp only [List.length_append, List.length_cons, List.length_nil]); omega) ?_; intro g1 cap1 w3 hown hgr hloc; have hv2 := hv1'.push hown hgr hloc; clear hown hgr hloc hnew hbn hv1' hv1 c0 c1 c2 clt; obtain ⟨c0, c1, c2, clt⟩ := id hv2.va; have hnew2 := heap_alloc_new w3 (.cells #[.int .i64 X.k, .string X.t, .int .i64 X.id] 44); have hbn2 : Below w3.heap.size w3 (w3.alloc (.cells #[.int .i64 X.k, .string X.t, .int .i64 X.id] 44)) := blw (Below.refl _ _) _; have hv2' := hv2.call hbn2)
          | (at_builtin; refine wpl_app eT _ rfl _ _ rfl (w.heap.size + 1) (out ++ [X]) _ rfl hv2'.r.own (by have := hv2'.r.lt; omega) X _ _ rfl hnew2 rfl (by (try simp only [List.length_append, List.length_cons, List.length_nil]); omega) (by unfold maxLen; (try simp only [List.length_append, List.length_cons, List.length_nil]); omega) ?_; intro g2 cap2 w4 hown hgr hloc))
        have HV4 := Lib.hid (hv2'.push hown hgr hloc)
        clear hown hgr hloc hv2' hbn2 hnew2 hv2 c0 c1 c2 clt
        have hv := HV4.out
        go_wp2_with fail
        go_roundw
        case rel => exact ⟨k + 1, hlt, by go_num, by rw [HO.out, HG.out]; rw [if_neg z0, if_neg z1, if_neg z2, if_pos z3]; exact (by simpa using hv.r)⟩
        case measure => simp [intOf] <;> omega
      have q3 : ((N : Int) == 3) = false := by simp; omega
      have hv2 := HV2.out
      obtain ⟨c0, c1, c2, cl⟩ := id hv2.va
      have hnew := heap_alloc_new w2 (.cells #[.int .i64 X.k, .string X.t, .int .i64 X.id] 44)
      have hbn : Below w2.heap.size w2 (w2.alloc (.cells #[.int .i64 X.k, .string X.t, .int .i64 X.id] 44)) := blw (Below.refl _ _) _
      have hv2' := hv2.call hbn
      go_wp2_with (at_builtin; refine wpl_app eT _ rfl _ _ rfl (w.heap.size + 1) out _ rfl hv2'.r.own (by have := hv2'.r.lt; omega) X _ _ rfl hnew rfl (by (try simp only [List.length_append, List.length_cons, List.length_nil]); omega) (by unfold maxLen; (try simp only [List.length_append, List.length_cons, List.length_nil]); omega) ?_; intro g2 cap2 w4 hown hgr hloc)
      have HV4 := Lib.hid (hv2'.push hown hgr hloc)
      clear hown hgr hloc hv2' hbn hnew hv2 c0 c1 c2 cl
      have hv := HV4.out
      go_wp2_with fail
      go_roundw
      case rel => exact ⟨k + 1, hlt, by go_num, by rw [HO.out, HG.out]; rw [if_neg z0, if_neg z1, if_neg z2, if_neg z3]; exact hv.r⟩
      case measure => simp [intOf] <;> omega
    · obtain rfl : k = l.length := by omega
      rw [List.take_length] at hN
      go_wp2_with fail
      go_ret
      exact ⟨_, rfl, ⟨hN.below, ownsRow_base hN.own (by omega)⟩⟩
end Go.Proofs.Ytncdjfgoigaflaa
namespace Go.Proofs.Ytncdjfgoigaflaa
open Go.ChangeShapes Go.WideShapes Go.ChangeAt Go.RowKit Go.Sort
set_option linter.unusedVariables false
set_option linter.unusedSimpArgs false
set_option maxRecDepth 100000

set_option maxHeartbeats 3200000 in
theorem smade_any (p : Option Addr) (cap : Nat) (L : List Int) (n : Nat) (w : World) (hL : Ones w (Value.int .i64) p L) (hw : ∀ i (h : i < L.length), (Lit.int .i64 (L[i]'h)).wf = true) (hc : L.length ≤ cap) (hm : cap ≤ maxLen) (hn : n ≤ 1000) :
    Calls Try.prog 21 #[.slice p L.length cap, .int .i64 n] w (EndT (mkD L n) w) := by
  have hN := NumsAt.made hL hw hc hm
  have hf := fragment_any w.heap.size p cap L 0 true false 8 8 rfl _ hN (fun h0 a ha => by have := ones_any hL h0 a ha; simp; omega) (by omega) (by omega)
  have HF := Lib.hid hf; clear hf hN
  have hsm := (mk_sm L true false)
  have hln := (mk_ok L true false).len
  have htx := (mk_ok L true false).txt
  have htl := toks_len (mk L true false)
  have hT := fun W q c h1 h2 h3 => rtokens_any q c (mk L true false) W h1 h2 h3 (by omega)
  have HT := Lib.hid hT; clear hT
  unfold maxLen at hm
  have hmk : mkD L n = (toks (mk L true false)).take n := rfl
  have HMK := Lib.hid hmk
  generalize hF : mk L true false = F at *
  have HFF := Lib.hid hF
  clear hF hsm hmk
  go_enter Try.func21, Try.ntmps21
  go_wp2_with fail
  refine (HF.out).mono ?_
  rintro e w2 ⟨v, rfl, hg, hN2, hown⟩
  have hb : Below w.heap.size w w2 := (blw (Below.refl w.heap.size w) _).trans (grown_below hg (Nat.le_refl _) (by simp))
  have hfr : (fragG L true false 0 8).1 = F := HFF.out
  have hown2 : OwnL 51 3 ienc w.heap.size F v w2 := by rw [← hfr]; exact ownsRow_base hown (by simp)
  obtain ⟨q, c, rfl, hc1, hc2, hI⟩ := OwnL.its hown2
  clear hN2 hown hg hown2 hfr
  go_wp2_with fail
  refine (HT.out w2 q c hI hc1 hc2).mono ?_
  rintro e w3 ⟨v, rfl, hA⟩
  have hb3 := BelowOn hb hA.below
  have hown3 : OwnT w.heap.size (toks F) v w3 := ownsRow_base hA.own hb.size
  obtain ⟨q2, c2, rfl, hd1, hd2, hI2⟩ := OwnT.its hown3
  unfold maxLen at hd2
  by_cases hle : n ≤ (toks F).length
  · have ht := own_take hown3 hle
    rw [← HMK.out] at ht
    have HX := Lib.hid (And.intro ht hb3)
    have e1 : min ((toks F).length : Int) (n : Int) = (n : Int) := by omega
    have q0 : (0 : Int) ≤ (n : Int) := by omega
    have q1 : (n : Int) ≤ (c2 : Int) := by omega
    clear ht hA hown3 hI2 hb3 hI hb
    generalize (toks F).length = T at *
    go_wp2_with fail
    obtain ⟨ht, hb3⟩ := HX.out
    go_ret
    exact ⟨_, rfl, hb3, ht⟩
  · have hmm : mkD L n = toks F := by rw [HMK.out, List.take_of_length_le (by omega)]
    have hA2 := hown3
    rw [← hmm] at hA2
    have hlen : (mkD L n).length = (toks F).length := by rw [hmm]
    have HX := Lib.hid (And.intro hown3 hb3)
    have HM := Lib.hid hmm
    have e1 : min ((toks F).length : Int) (n : Int) = ((toks F).length : Int) := by omega
    have q0 : (0 : Int) ≤ ((toks F).length : Int) := by omega
    have q1 : ((toks F).length : Int) ≤ (c2 : Int) := by omega
    clear hA hA2 hown3 hI2 hb3 hI hb hmm hlen
    go_wp2_with fail
    obtain ⟨ht, hb3⟩ := HX.out
    go_ret
    exact ⟨_, rfl, hb3, by rw [HM.out]; exact ht⟩
def smlB (n : Nat) (l : List It) : Bool := decide (l.length ≤ n) && decide (txtI l ≤ 300)
theorem small14_any (n0 : Nat) (hn0 : n0 ≤ 100) (p : Option Addr) (cap : Nat) (l : List It) (w : World) (hR : Its w p l) (hO : Oks l) (hc : l.length ≤ cap) (hm : cap ≤ maxLen) :
    Calls Try.prog 10 #[.slice p l.length cap, .int .i64 (n0 : Int)] w fun e w' => e = .returned (.bool (smlB n0 l)) ∧ w = w' := by
  unfold maxLen at hm
  have hsum : l.length ≤ n0 → ∀ k, k ≤ l.length → txtI (l.take k) ≤ k * 140737488355328 := fun h60 k => by
    intro hk
    induction k with
    | zero => simp [txtI]
    | succ j ih =>
      rw [txtI_next l j (by omega)]
      have := ih (by omega)
      have h1 := (hO j (by omega)).t
      omega
  have HS := Lib.hid hsum; clear hsum
  go_enter Try.func10, Try.ntmps10
  go_wp2_with fail
  go_loop [5, 9] (fun v i => ∃ k : Nat, ∃ z : Int, k ≤ l.length ∧ i = .int .i64 k ∧ v = .int .i64 z ∧ Hid (l.length ≤ n0 → z = txtI (l.take k))) (fun _ i => l.length - (intOf i).toNat)
  case atStart => exact ⟨0, 0, Nat.zero_le _, rfl, rfl, Lib.hid (fun _ => rfl)⟩
  case round =>
    obtain ⟨k, z, hk, rfl, rfl, HZ⟩ := hrel
    by_cases hlt : k < l.length
    · obtain ⟨a, rfl, ha, c0, c1, c2⟩ := hR.row k hlt
      have hn := txtI_next l k hlt
      have HN := Lib.hid hn; clear hn
      have ik : (k : Int) < (l.length : Int) := by omega
      go_wp2_with fail
      go_round
      case rel =>
        refine ⟨k + 1, _, hlt, by go_num, rfl, Lib.hid (fun h60 => ?_)⟩
        have b := HS.out h60 (k + 1) hlt
        rw [HN.out] at b ⊢
        rw [HZ.out h60]
        unfold wrap64
        omega
      case measure => simp [intOf] <;> omega
    · obtain rfl : k = l.length := by omega
      rw [List.take_length] at HZ
      by_cases h60 : l.length ≤ n0
      · have hz := HZ.out h60
        go_wp2_with fail
        go_ret
        exact ⟨ret_bool (by unfold smlB; rw [Bool.eq_iff_iff]; simp [h60]; omega), rfl⟩
      · go_wp2_with fail
        go_ret
        exact ⟨ret_bool (by unfold smlB; simp [h60]), rfl⟩

/-- A short list of tokens with all that the bounds ask. -/
structure Br (W : World) (p : Option Addr) (c : Nat) (A : List It) : Prop where
  its : Its W p A
  le : A.length ≤ c
  cm : c ≤ maxLen
  len : A.length ≤ 100
  ok : ∀ x ∈ A, (Lit.int .i64 x.k).wf = true ∧ x.t.size ≤ 1000
theorem Br.call {W W' : World} {p : Option Addr} {c : Nat} {A : List It} (h : Br W p c A) (hb : RowKit.Below W.heap.size W W') : Br W' p c A := ⟨h.its.call hb, h.le, h.cm, h.len, h.ok⟩
theorem Br.txt {W : World} {p : Option Addr} {c : Nat} {A : List It} (h : Br W p c A) : txtsB A := fun x hx => (h.ok x hx).2
theorem Br.bag {W : World} {p q : Option Addr} {c d : Nat} {A B : List It} (h : Br W p c A) (k : Br W q d B) : Calls Try.prog 23 #[.slice p A.length c, .slice q B.length d] W fun e w' => e = .returned (.int .i64 (bagN A B : Nat)) ∧ RowKit.Below W.heap.size W w' :=
  bag_any p q c d A B W h.its k.its h.le k.le h.cm k.cm (Nat.le_trans h.len (by omega)) (Nat.le_trans k.len (by omega)) h.ok k.ok
theorem Br.rbag {W : World} {p q : Option Addr} {c d : Nat} {A B : List It} (h : Br W p c A) (k : Br W q d B) : Calls Try.prog 24 #[.slice p A.length c, .slice q B.length d] W fun e w' => e = .returned (.int .i64 (bagN A B : Nat)) ∧ RowKit.Below W.heap.size W w' :=
  rbag_any p q c d A B W h.its k.its h.le k.le h.cm k.cm (Nat.le_trans h.len (by omega)) (Nat.le_trans k.len (by omega)) h.txt k.txt
theorem Br.bound {W : World} {p q : Option Addr} {c d : Nat} {A B : List It} (h : Br W p c A) (k : Br W q d B) : Calls Try.prog 25 #[.slice p A.length c, .slice q B.length d] W fun e w' => e = .returned (.int .i64 (bouN A B : Nat)) ∧ RowKit.Below W.heap.size W w' :=
  bound_any p q c d A B W h.its k.its h.le k.le h.cm k.cm (Nat.le_trans h.len (by omega)) (Nat.le_trans k.len (by omega)) h.ok k.ok
theorem Br.rbound {W : World} {p q : Option Addr} {c d : Nat} {A B : List It} (h : Br W p c A) (k : Br W q d B) : Calls Try.prog 26 #[.slice p A.length c, .slice q B.length d] W fun e w' => e = .returned (.int .i64 (bouN A B : Nat)) ∧ RowKit.Below W.heap.size W w' :=
  rbound_any p q c d A B W h.its k.its h.le k.le h.cm k.cm (Nat.le_trans h.len (by omega)) (Nat.le_trans k.len (by omega)) h.ok k.ok
theorem Br.rdist {W : World} {p q : Option Addr} {c d : Nat} {A B : List It} (h : Br W p c A) (k : Br W q d B) : Calls Try.prog 27 #[.slice p A.length c, .slice q B.length d] W fun e w' => e = .returned (.int .i64 (dis A B : Nat)) ∧ RowKit.Below W.heap.size W w' :=
  rdistance_any p q c d A B W h.its k.its h.le k.le h.cm k.cm (Nat.le_trans h.len (by omega)) (Nat.le_trans k.len (by omega)) h.txt k.txt
theorem wf_kind {k : Int} (h : 2 ≤ k ∧ k ≤ 9) : (Lit.int .i64 k).wf = true := by
  have : k = 2 ∨ k = 3 ∨ k = 4 ∨ k = 5 ∨ k = 6 ∨ k = 7 ∨ k = 8 ∨ k = 9 := by omega
  rcases this with rfl | rfl | rfl | rfl | rfl | rfl | rfl | rfl <;> decide
theorem br_small {n : Nat} (hn : n ≤ 100) {W : World} {p : Option Addr} {c : Nat} {A : List It} (hI : Its W p A) (hO : Oks A) (hc : A.length ≤ c) (hm : c ≤ maxLen) (hs : smlB n A = true) : Br W p c A := by
  unfold smlB at hs
  rw [Bool.and_eq_true, decide_eq_true_eq, decide_eq_true_eq] at hs
  refine ⟨hI, hc, hm, by omega, fun x hx => ?_⟩
  obtain ⟨i, hi, rfl⟩ := List.getElem_of_mem hx
  exact ⟨(hO i hi).k, by have := txt_mem _ _ hx; omega⟩
theorem br_made {w w' : World} {L : List Int} {n : Nat} (hn : n ≤ 40) {e : Ending} (h : EndT (mkD L n) w e w') : ∃ p c, e = .returned (.slice p (mkD L n).length c) ∧ Br w' p c (mkD L n) ∧ RowKit.Below w.heap.size w w' := by
  obtain ⟨p, c, he, h1, h2, h3, h4⟩ := h.f
  exact ⟨p, c, he, ⟨h3, h1, h2, Nat.le_trans (mkD_len L n) (by omega), fun x hx => ⟨wf_kind (mkD_kind L n x hx), mkD_txt L n x hx⟩⟩, h4⟩
theorem br_near {w w' : World} {M : List Int} {l : List It} (hl : l.length ≤ 40) (hx : ∀ x ∈ l, x.t.size ≤ 900) (hk : kindV l) {e : Ending} (h : EndT (nearL M l) w e w') : ∃ p c, e = .returned (.slice p (nearL M l).length c) ∧ Br w' p c (nearL M l) ∧ RowKit.Below w.heap.size w w' := by
  obtain ⟨p, c, he, h1, h2, h3, h4⟩ := h.f
  exact ⟨p, c, he, ⟨h3, h1, h2, Nat.le_trans (nearL_len M l) (by omega), fun x hx2 => ⟨wf_kind (nearL_kind M l hk x hx2), nearL_txt M l hx x hx2⟩⟩, h4⟩
end Go.Proofs.Ytncdjfgoigaflaa
