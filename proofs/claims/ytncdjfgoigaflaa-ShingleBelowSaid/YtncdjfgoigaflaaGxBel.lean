/- Shingle: the walks of ShingleBounds and ShingleBelow. The law ShingleBelow holds for every input. -/
import Derived.Test.YtncdjfgoigaflaaSgE
import Derived.Test.YtncdjfgoigaflaaRows
import Derived.WalkKit
import Derived.ProofKit
import Derived.OpenShut
import Derived.ChangeOld
import Derived.Below
import Derived.Carry
import Derived.SizedLaws
import Derived.Test.YtncdjfgoigaflaaTka
namespace Go.Proofs.Ytncdjfgoigaflaa
open Go.ChangeShapes Go.WideShapes Go.ChangeAt Go.RowKit Go.Sort
set_option linter.unusedVariables false
set_option linter.unusedSimpArgs false
set_option maxRecDepth 100000

theorem bag_bou (a b : List It) : bagN a b ≤ bouN a b := Nat.le_max_left _ _
set_option maxHeartbeats 12800000 in
theorem bounds_law (pa : Option Addr) (ca : Nat) (a : List It) (pb : Option Addr) (cb : Nat) (b : List It) (p0 : Option Addr) (c0 : Nat) (l : List Int) (p1 : Option Addr) (c1 : Nat) (m : List Int) (w : World)
    (ra : Its w pa a) (oa : Oks a) (na : a.length ≤ ca) (ma : ca ≤ maxLen) (rb : Its w pb b) (ob : Oks b) (nb : b.length ≤ cb) (mb : cb ≤ maxLen)
    (r0 : Ones w (Value.int .i64) p0 l) (o0 : ∀ i (h : i < l.length), (Lit.int .i64 (l[i]'h)).wf = true) (n0 : l.length ≤ c0) (m0 : c0 ≤ maxLen)
    (r1 : Ones w (Value.int .i64) p1 m) (o1 : ∀ i (h : i < m.length), (Lit.int .i64 (m[i]'h)).wf = true) (n1 : m.length ≤ c1) (m1 : c1 ≤ maxLen) :
    Calls Try.prog 6 #[.slice pa a.length ca, .slice pb b.length cb, .slice p0 l.length c0, .slice p1 m.length c1] w fun e w' => e = .returned (.bool true) ∧ RowKit.Below w.heap.size w w' := by
  have SA := Lib.hid (fun W (h : Its W pa a) => small14_any 14 (by omega) pa ca a W h oa na ma)
  have SB := Lib.hid (fun W (h : Its W pb b) => small14_any 14 (by omega) pb cb b W h ob nb mb)
  have M0 := Lib.hid (smade_any p0 c0 l 20 w r0 o0 n0 m0 (by omega))
  have NR := Lib.hid (fun W p c (h : Br W p c (mkD l 20)) (g3 : Ones W (Value.int .i64) p1 m) => near_any p p1 c c1 (mkD l 20) m W h.its h.le h.cm g3 o1 n1 m1 (by have := mkD_len l 20; omega) (mkD_txt9 l 20))
  have R1 := Lib.hid r1
  have lA := mkD_len l 20; have tA := mkD_txt9 l 20; have kA := mkD_kind l 20
  have DA := Lib.hid (fun hs => br_small (n := 14) (by omega) ra oa na ma hs)
  have DB := Lib.hid (fun hs => br_small (n := 14) (by omega) rb ob nb mb hs)
  unfold maxLen at m0 m1 ma mb
  clear r0 r1 o0 o1
  have leave : ∀ W, RowKit.Below w.heap.size w W → Calls Try.prog 11 #[] W fun e w' => e = .returned (.bool true) ∧ RowKit.Below w.heap.size w w' := fun W h => (hknown_any W).mono (fun e w' hh => ⟨hh.1, BelowOn h hh.2⟩)
  have LV := Lib.hid leave
  clear leave
  cases sa : smlB 14 a with
  | false =>
    rw [sa] at SA
    go_enter Try.func6, Try.ntmps6
    go_wp2_with fail
    refine (SA.out _ ra).mono ?_; rintro e w1 ⟨rfl, rfl⟩
    go_wp2_with fail
    refine (LV.out _ (Below.refl _ _)).mono ?_; rintro e w1 ⟨rfl, hb⟩
    go_wp2_with fail
    go_ret
    exact ⟨rfl, hb⟩
  | true =>
  rw [sa] at SA
  cases sb : smlB 14 b with
  | false =>
    rw [sb] at SB
    go_enter Try.func6, Try.ntmps6
    go_wp2_with fail
    refine (SA.out _ ra).mono ?_; rintro e w1 ⟨rfl, rfl⟩
    go_wp2_with fail
    refine (SB.out _ rb).mono ?_; rintro e w1 ⟨rfl, rfl⟩
    go_wp2_with fail
    refine (LV.out _ (Below.refl _ _)).mono ?_; rintro e w1 ⟨rfl, hb⟩
    go_wp2_with fail
    go_ret
    exact ⟨rfl, hb⟩
  | true =>
  rw [sb] at SB
  by_cases z0 : 60 < l.length
  · skip
    go_enter Try.func6, Try.ntmps6
    go_wp2_with fail
    refine (SA.out _ ra).mono ?_; rintro e w1 ⟨rfl, rfl⟩
    go_wp2_with fail
    refine (SB.out _ rb).mono ?_; rintro e w1 ⟨rfl, rfl⟩
    go_wp2_with fail
    refine (LV.out _ (Below.refl _ _)).mono ?_; rintro e w1 ⟨rfl, hb⟩
    go_wp2_with fail
    go_ret
    exact ⟨rfl, hb⟩
  by_cases z1 : 60 < m.length
  · skip
    go_enter Try.func6, Try.ntmps6
    go_wp2_with fail
    refine (SA.out _ ra).mono ?_; rintro e w1 ⟨rfl, rfl⟩
    go_wp2_with fail
    refine (SB.out _ rb).mono ?_; rintro e w1 ⟨rfl, rfl⟩
    go_wp2_with fail
    refine (LV.out _ (Below.refl _ _)).mono ?_; rintro e w1 ⟨rfl, hb⟩
    go_wp2_with fail
    go_ret
    exact ⟨rfl, hb⟩
  have hDA := DA.out sa; have hDB := DB.out sb
  clear DA DB
  go_enter Try.func6, Try.ntmps6
  go_wp2_with fail
  refine (SA.out _ ra).mono ?_; rintro e w1 ⟨rfl, rfl⟩
  go_wp2_with fail
  refine (SB.out _ rb).mono ?_; rintro e w1 ⟨rfl, rfl⟩
  clear SA SB ra rb oa ob
  have HK := Lib.hid (And.intro hDA hDB)
  clear hDA hDB
  go_wp2_with fail
  refine M0.out.mono ?_; rintro e w1 hE
  obtain ⟨pc, cc, rfl, hC, hb1⟩ := br_made (by omega) hE
  clear hE M0
  go_wp2_with fail
  refine (NR.out _ _ _ hC (R1.out.call hb1)).mono ?_; rintro e w2 hE
  obtain ⟨pd, cd, rfl, hD, hb2⟩ := br_near (by omega) tA kA hE
  replace hC := hC.call hb2
  have hW := BelowOn hb1 hb2
  obtain ⟨hA, hB⟩ := HK.out
  replace hA := (hA.call hb1).call hb2; replace hB := (hB.call hb1).call hb2
  clear hE hb1 hb2 NR R1 HK tA kA lA
  generalize nearL m (mkD l 20) = D at *
  generalize mkD l 20 = C at *
  obtain ⟨x1, X1⟩ : ∃ x : Nat, x = bagN a b := ⟨_, rfl⟩
  obtain ⟨x2, X2⟩ : ∃ x : Nat, x = bouN a b := ⟨_, rfl⟩
  obtain ⟨x3, X3⟩ : ∃ x : Nat, x = bagN C D := ⟨_, rfl⟩
  obtain ⟨x4, X4⟩ : ∃ x : Nat, x = bouN C D := ⟨_, rfl⟩
  have HX := Lib.hid (And.intro X1 (And.intro X2 (And.intro X3 X4)))
  clear X1 X2 X3 X4
  have HQ := Lib.hid (And.intro hA (And.intro hB (And.intro hC hD)))
  have HW := Lib.hid hW
  clear hA hB hC hD hW
  obtain ⟨hA, hB, hC, hD⟩ := HQ.out
  have hh := hA.bag hB
  rw [← HX.out.1] at hh
  have HH := Lib.hid hh
  clear hA hB hC hD hh
  go_wp2_with fail
  refine HH.out.mono ?_; rintro e w3 ⟨rfl, hb⟩
  clear HH
  replace HQ := Lib.hid (And.intro (HQ.out.1.call hb) (And.intro (HQ.out.2.1.call hb) (And.intro (HQ.out.2.2.1.call hb) (HQ.out.2.2.2.call hb))))
  replace HW := Lib.hid (BelowOn HW.out hb)
  clear hb
  obtain ⟨hA, hB, hC, hD⟩ := HQ.out
  have hh := hA.rbag hB
  rw [← HX.out.1] at hh
  have HH := Lib.hid hh
  clear hA hB hC hD hh
  go_wp2_with fail
  refine HH.out.mono ?_; rintro e w3 ⟨rfl, hb⟩
  clear HH
  replace HQ := Lib.hid (And.intro (HQ.out.1.call hb) (And.intro (HQ.out.2.1.call hb) (And.intro (HQ.out.2.2.1.call hb) (HQ.out.2.2.2.call hb))))
  replace HW := Lib.hid (BelowOn HW.out hb)
  clear hb
  obtain ⟨hA, hB, hC, hD⟩ := HQ.out
  have hh := hA.bound hB
  rw [← HX.out.2.1] at hh
  have HH := Lib.hid hh
  clear hA hB hC hD hh
  go_wp2_with fail
  refine HH.out.mono ?_; rintro e w3 ⟨rfl, hb⟩
  clear HH
  replace HQ := Lib.hid (And.intro (HQ.out.1.call hb) (And.intro (HQ.out.2.1.call hb) (And.intro (HQ.out.2.2.1.call hb) (HQ.out.2.2.2.call hb))))
  replace HW := Lib.hid (BelowOn HW.out hb)
  clear hb
  obtain ⟨hA, hB, hC, hD⟩ := HQ.out
  have hh := hA.rbound hB
  rw [← HX.out.2.1] at hh
  have HH := Lib.hid hh
  clear hA hB hC hD hh
  go_wp2_with fail
  refine HH.out.mono ?_; rintro e w3 ⟨rfl, hb⟩
  clear HH
  replace HQ := Lib.hid (And.intro (HQ.out.1.call hb) (And.intro (HQ.out.2.1.call hb) (And.intro (HQ.out.2.2.1.call hb) (HQ.out.2.2.2.call hb))))
  replace HW := Lib.hid (BelowOn HW.out hb)
  clear hb
  obtain ⟨hA, hB, hC, hD⟩ := HQ.out
  have hh := hC.bag hD
  rw [← HX.out.2.2.1] at hh
  have HH := Lib.hid hh
  clear hA hB hC hD hh
  go_wp2_with fail
  refine HH.out.mono ?_; rintro e w3 ⟨rfl, hb⟩
  clear HH
  replace HQ := Lib.hid (And.intro (HQ.out.1.call hb) (And.intro (HQ.out.2.1.call hb) (And.intro (HQ.out.2.2.1.call hb) (HQ.out.2.2.2.call hb))))
  replace HW := Lib.hid (BelowOn HW.out hb)
  clear hb
  obtain ⟨hA, hB, hC, hD⟩ := HQ.out
  have hh := hC.rbag hD
  rw [← HX.out.2.2.1] at hh
  have HH := Lib.hid hh
  clear hA hB hC hD hh
  go_wp2_with fail
  refine HH.out.mono ?_; rintro e w3 ⟨rfl, hb⟩
  clear HH
  replace HQ := Lib.hid (And.intro (HQ.out.1.call hb) (And.intro (HQ.out.2.1.call hb) (And.intro (HQ.out.2.2.1.call hb) (HQ.out.2.2.2.call hb))))
  replace HW := Lib.hid (BelowOn HW.out hb)
  clear hb
  obtain ⟨hA, hB, hC, hD⟩ := HQ.out
  have hh := hC.bound hD
  rw [← HX.out.2.2.2] at hh
  have HH := Lib.hid hh
  clear hA hB hC hD hh
  go_wp2_with fail
  refine HH.out.mono ?_; rintro e w3 ⟨rfl, hb⟩
  clear HH
  replace HQ := Lib.hid (And.intro (HQ.out.1.call hb) (And.intro (HQ.out.2.1.call hb) (And.intro (HQ.out.2.2.1.call hb) (HQ.out.2.2.2.call hb))))
  replace HW := Lib.hid (BelowOn HW.out hb)
  clear hb
  obtain ⟨hA, hB, hC, hD⟩ := HQ.out
  have hh := hC.rbound hD
  rw [← HX.out.2.2.2] at hh
  have HH := Lib.hid hh
  clear hA hB hC hD hh
  go_wp2_with fail
  refine HH.out.mono ?_; rintro e w3 ⟨rfl, hb⟩
  clear HH
  replace HQ := Lib.hid (And.intro (HQ.out.1.call hb) (And.intro (HQ.out.2.1.call hb) (And.intro (HQ.out.2.2.1.call hb) (HQ.out.2.2.2.call hb))))
  replace HW := Lib.hid (BelowOn HW.out hb)
  clear hb
  go_wp2_with fail
  refine (LV.out _ HW.out).mono ?_; rintro e w4 ⟨rfl, hb⟩
  go_wp2_with fail
  go_ret
  exact ⟨rfl, hb⟩
set_option maxHeartbeats 12800000 in
theorem below_law (pa : Option Addr) (ca : Nat) (a : List It) (pb : Option Addr) (cb : Nat) (b : List It) (p0 : Option Addr) (c0 : Nat) (l : List Int) (p1 : Option Addr) (c1 : Nat) (m : List Int) (w : World)
    (ra : Its w pa a) (oa : Oks a) (na : a.length ≤ ca) (ma : ca ≤ maxLen) (rb : Its w pb b) (ob : Oks b) (nb : b.length ≤ cb) (mb : cb ≤ maxLen)
    (r0 : Ones w (Value.int .i64) p0 l) (o0 : ∀ i (h : i < l.length), (Lit.int .i64 (l[i]'h)).wf = true) (n0 : l.length ≤ c0) (m0 : c0 ≤ maxLen)
    (r1 : Ones w (Value.int .i64) p1 m) (o1 : ∀ i (h : i < m.length), (Lit.int .i64 (m[i]'h)).wf = true) (n1 : m.length ≤ c1) (m1 : c1 ≤ maxLen) :
    Calls Try.prog 7 #[.slice pa a.length ca, .slice pb b.length cb, .slice p0 l.length c0, .slice p1 m.length c1] w fun e w' => e = .returned (.bool true) ∧ RowKit.Below w.heap.size w w' := by
  have SA := Lib.hid (fun W (h : Its W pa a) => small14_any 12 (by omega) pa ca a W h oa na ma)
  have SB := Lib.hid (fun W (h : Its W pb b) => small14_any 12 (by omega) pb cb b W h ob nb mb)
  have M0 := Lib.hid (smade_any p0 c0 l 18 w r0 o0 n0 m0 (by omega))
  have NR := Lib.hid (fun W p c (h : Br W p c (mkD l 18)) (g3 : Ones W (Value.int .i64) p1 m) => near_any p p1 c c1 (mkD l 18) m W h.its h.le h.cm g3 o1 n1 m1 (by have := mkD_len l 18; omega) (mkD_txt9 l 18))
  have R1 := Lib.hid r1
  have lA := mkD_len l 18; have tA := mkD_txt9 l 18; have kA := mkD_kind l 18
  have DA := Lib.hid (fun hs => br_small (n := 12) (by omega) ra oa na ma hs)
  have DB := Lib.hid (fun hs => br_small (n := 12) (by omega) rb ob nb mb hs)
  unfold maxLen at m0 m1 ma mb
  clear r0 r1 o0 o1
  have leave : ∀ W, RowKit.Below w.heap.size w W → Calls Try.prog 11 #[] W fun e w' => e = .returned (.bool true) ∧ RowKit.Below w.heap.size w w' := fun W h => (hknown_any W).mono (fun e w' hh => ⟨hh.1, BelowOn h hh.2⟩)
  have LV := Lib.hid leave
  clear leave
  cases sa : smlB 12 a with
  | false =>
    rw [sa] at SA
    go_enter Try.func7, Try.ntmps7
    go_wp2_with fail
    refine (SA.out _ ra).mono ?_; rintro e w1 ⟨rfl, rfl⟩
    go_wp2_with fail
    refine (LV.out _ (Below.refl _ _)).mono ?_; rintro e w1 ⟨rfl, hb⟩
    go_wp2_with fail
    go_ret
    exact ⟨rfl, hb⟩
  | true =>
  rw [sa] at SA
  cases sb : smlB 12 b with
  | false =>
    rw [sb] at SB
    go_enter Try.func7, Try.ntmps7
    go_wp2_with fail
    refine (SA.out _ ra).mono ?_; rintro e w1 ⟨rfl, rfl⟩
    go_wp2_with fail
    refine (SB.out _ rb).mono ?_; rintro e w1 ⟨rfl, rfl⟩
    go_wp2_with fail
    refine (LV.out _ (Below.refl _ _)).mono ?_; rintro e w1 ⟨rfl, hb⟩
    go_wp2_with fail
    go_ret
    exact ⟨rfl, hb⟩
  | true =>
  rw [sb] at SB
  by_cases z0 : 60 < l.length
  · skip
    go_enter Try.func7, Try.ntmps7
    go_wp2_with fail
    refine (SA.out _ ra).mono ?_; rintro e w1 ⟨rfl, rfl⟩
    go_wp2_with fail
    refine (SB.out _ rb).mono ?_; rintro e w1 ⟨rfl, rfl⟩
    go_wp2_with fail
    refine (LV.out _ (Below.refl _ _)).mono ?_; rintro e w1 ⟨rfl, hb⟩
    go_wp2_with fail
    go_ret
    exact ⟨rfl, hb⟩
  by_cases z1 : 60 < m.length
  · skip
    go_enter Try.func7, Try.ntmps7
    go_wp2_with fail
    refine (SA.out _ ra).mono ?_; rintro e w1 ⟨rfl, rfl⟩
    go_wp2_with fail
    refine (SB.out _ rb).mono ?_; rintro e w1 ⟨rfl, rfl⟩
    go_wp2_with fail
    refine (LV.out _ (Below.refl _ _)).mono ?_; rintro e w1 ⟨rfl, hb⟩
    go_wp2_with fail
    go_ret
    exact ⟨rfl, hb⟩
  have hDA := DA.out sa; have hDB := DB.out sb
  clear DA DB
  go_enter Try.func7, Try.ntmps7
  go_wp2_with fail
  refine (SA.out _ ra).mono ?_; rintro e w1 ⟨rfl, rfl⟩
  go_wp2_with fail
  refine (SB.out _ rb).mono ?_; rintro e w1 ⟨rfl, rfl⟩
  clear SA SB ra rb oa ob
  have HK := Lib.hid (And.intro hDA hDB)
  clear hDA hDB
  go_wp2_with fail
  refine M0.out.mono ?_; rintro e w1 hE
  obtain ⟨pc, cc, rfl, hC, hb1⟩ := br_made (by omega) hE
  clear hE M0
  go_wp2_with fail
  refine (NR.out _ _ _ hC (R1.out.call hb1)).mono ?_; rintro e w2 hE
  obtain ⟨pd, cd, rfl, hD, hb2⟩ := br_near (by omega) tA kA hE
  replace hC := hC.call hb2
  have hW := BelowOn hb1 hb2
  obtain ⟨hA, hB⟩ := HK.out
  replace hA := (hA.call hb1).call hb2; replace hB := (hB.call hb1).call hb2
  clear hE hb1 hb2 NR R1 HK tA kA lA
  generalize nearL m (mkD l 18) = D at *
  generalize mkD l 18 = C at *
  have y1 := bag_bou C D
  have y2 := bou_le a b (Nat.le_trans hA.len (by omega)) (Nat.le_trans hB.len (by omega))
  have y3 := bou_le C D (Nat.le_trans hC.len (by omega)) (Nat.le_trans hD.len (by omega))
  obtain ⟨x1, X1⟩ : ∃ x : Nat, x = bouN a b := ⟨_, rfl⟩
  obtain ⟨x2, X2⟩ : ∃ x : Nat, x = bouN C D := ⟨_, rfl⟩
  obtain ⟨x3, X3⟩ : ∃ x : Nat, x = bagN C D := ⟨_, rfl⟩
  obtain ⟨x4, X4⟩ : ∃ x : Nat, x = dis a b := ⟨_, rfl⟩
  obtain ⟨x5, X5⟩ : ∃ x : Nat, x = dis C D := ⟨_, rfl⟩
  rw [← X2, ← X3] at y1; rw [← X1, ← X4] at y2; rw [← X2, ← X5] at y3
  have q1 : (x3 : Int) ≤ (x2 : Int) := by omega
  have q2 : (x1 : Int) ≤ (x4 : Int) := by omega
  have q3 : (x2 : Int) ≤ (x5 : Int) := by omega
  have q4 : (0 : Int) ≤ (x1 : Int) := by omega
  have HX := Lib.hid (And.intro X1 (And.intro X2 (And.intro X3 (And.intro X4 X5))))
  clear X1 X2 X3 X4 X5 y1 y2 y3
  have HQ := Lib.hid (And.intro hA (And.intro hB (And.intro hC hD)))
  have HW := Lib.hid hW
  clear hA hB hC hD hW
  obtain ⟨hA, hB, hC, hD⟩ := HQ.out
  have hh := hA.bound hB
  rw [← HX.out.1] at hh
  have HH := Lib.hid hh
  clear hA hB hC hD hh
  go_wp2_with fail
  refine HH.out.mono ?_; rintro e w3 ⟨rfl, hb⟩
  clear HH
  replace HQ := Lib.hid (And.intro (HQ.out.1.call hb) (And.intro (HQ.out.2.1.call hb) (And.intro (HQ.out.2.2.1.call hb) (HQ.out.2.2.2.call hb))))
  replace HW := Lib.hid (BelowOn HW.out hb)
  clear hb
  obtain ⟨hA, hB, hC, hD⟩ := HQ.out
  have hh := hC.bound hD
  rw [← HX.out.2.1] at hh
  have HH := Lib.hid hh
  clear hA hB hC hD hh
  go_wp2_with fail
  refine HH.out.mono ?_; rintro e w3 ⟨rfl, hb⟩
  clear HH
  replace HQ := Lib.hid (And.intro (HQ.out.1.call hb) (And.intro (HQ.out.2.1.call hb) (And.intro (HQ.out.2.2.1.call hb) (HQ.out.2.2.2.call hb))))
  replace HW := Lib.hid (BelowOn HW.out hb)
  clear hb
  obtain ⟨hA, hB, hC, hD⟩ := HQ.out
  have hh := hC.bag hD
  rw [← HX.out.2.2.1] at hh
  have HH := Lib.hid hh
  clear hA hB hC hD hh
  go_wp2_with fail
  refine HH.out.mono ?_; rintro e w3 ⟨rfl, hb⟩
  clear HH
  replace HQ := Lib.hid (And.intro (HQ.out.1.call hb) (And.intro (HQ.out.2.1.call hb) (And.intro (HQ.out.2.2.1.call hb) (HQ.out.2.2.2.call hb))))
  replace HW := Lib.hid (BelowOn HW.out hb)
  clear hb
  obtain ⟨hA, hB, hC, hD⟩ := HQ.out
  have hh := hA.rdist hB
  rw [← HX.out.2.2.2.1] at hh
  have HH := Lib.hid hh
  clear hA hB hC hD hh
  go_wp2_with fail
  refine HH.out.mono ?_; rintro e w3 ⟨rfl, hb⟩
  clear HH
  replace HQ := Lib.hid (And.intro (HQ.out.1.call hb) (And.intro (HQ.out.2.1.call hb) (And.intro (HQ.out.2.2.1.call hb) (HQ.out.2.2.2.call hb))))
  replace HW := Lib.hid (BelowOn HW.out hb)
  clear hb
  obtain ⟨hA, hB, hC, hD⟩ := HQ.out
  have hh := hC.rdist hD
  rw [← HX.out.2.2.2.2] at hh
  have HH := Lib.hid hh
  clear hA hB hC hD hh
  go_wp2_with fail
  refine HH.out.mono ?_; rintro e w3 ⟨rfl, hb⟩
  clear HH
  replace HQ := Lib.hid (And.intro (HQ.out.1.call hb) (And.intro (HQ.out.2.1.call hb) (And.intro (HQ.out.2.2.1.call hb) (HQ.out.2.2.2.call hb))))
  replace HW := Lib.hid (BelowOn HW.out hb)
  clear hb
  go_wp2_with fail
  refine (LV.out _ HW.out).mono ?_; rintro e w4 ⟨rfl, hb⟩
  go_wp2_with fail
  go_ret
  exact ⟨rfl, hb⟩
end Go.Proofs.Ytncdjfgoigaflaa
namespace Go.Proofs.Ytncdjfgoigaflaa.shingleBelow
open Go.ChangeShapes Go.WideShapes Go.ChangeAt Go.RowKit
open Go.ChangeMaps (open_string shut_string)
set_option linter.unusedVariables false
set_option maxRecDepth 100000

theorem own : ownKnob Try.prog.godebug = none := by kernel_rfl
theorem laidOut : laidOutB Try.prog = true := by kernel_rfl


set_option maxHeartbeats 1600000 in
theorem walk (p0 : Option Addr) (c0 : Nat) (a0 : List It) (p1 : Option Addr) (c1 : Nat) (a1 : List It) (p2 : Option Addr) (c2 : Nat) (a2 : List Int) (p3 : Option Addr) (c3 : Nat) (a3 : List Int) (w : World) (r0 : Its w p0 a0) (o0 : Oks a0) (n0 : a0.length ≤ c0) (m0 : c0 ≤ maxLen) (r1 : Its w p1 a1) (o1 : Oks a1) (n1 : a1.length ≤ c1) (m1 : c1 ≤ maxLen) (r2 : Ones w (Value.int .i64) p2 a2) (o2 : ∀ i (h : i < a2.length), (Lit.int .i64 (a2[i]'h)).wf = true) (n2 : a2.length ≤ c2) (m2 : c2 ≤ maxLen) (r3 : Ones w (Value.int .i64) p3 a3) (o3 : ∀ i (h : i < a3.length), (Lit.int .i64 (a3[i]'h)).wf = true) (n3 : a3.length ≤ c3) (m3 : c3 ≤ maxLen) :
    Calls Try.prog 7 #[.slice p0 a0.length c0, .slice p1 a1.length c1, .slice p2 a2.length c2, .slice p3 a3.length c3] w fun e w' => e = .returned (.bool true) ∧ Below w.heap.size w w' := by
  exact below_law p0 c0 a0 p1 c1 a1 p2 c2 a2 p3 c3 a3 w r0 o0 n0 m0 r1 o1 n1 m1 r2 o2 n2 m2 r3 o3 n3 m3

theorem lifted (os : Os) (started : os.Started) (H : Type) (enc : TypeId × Value → H) :
    ReturnsInHanded {} Try.checked os 7 .any (Rows.shingleBelowSpec.pre6 enc Try.prog Try.f7 Rows.shingleBelowRow.domain false) (Rows.shingleBelowSpec.post enc Try.prog Try.f7 false true false false) := by
  refine returnsInHanded_of_change_sized (C := Try.checked) own started (by kernel_rfl) Try.func7
    (ChangeSpec.witness6 (enc := enc) (C := Try.checked) false ⟨#[], #[.slice none 0 0, .slice none 0 0, .slice none 0 0, .slice none 0 0], []⟩ 8 (by kernel_rfl) (by kernel_rfl) (by kernel_rfl) (by kernel_rfl)) ?_
  intro W base args ds gs before hval0 hW hcnd hsz0 _
  have hval : ∀ (j : Nat) t v, Try.f7.params[j]? = some t → args[j]? = some v → Value.okWide Try.prog W .any base t v := hval0
  have hW' := hW
  have hlt : ∀ x ∈ before, x.block < W.heap.size := fun x hx => hW'.lt x hx
  obtain ⟨p, q, hA0, hV, rfl, hfz, hnd⟩ := hW
  have hA : DataW.TrodAll enc Try.prog W 0 (fun _ => true) true Try.f7.params.toList args.toList ds p := hA0
  rw [Try.params7] at hA hval hsz0
  obtain ⟨v0, vs0, d0, ds0, p0, q0, hargs, rfl, rfl, h0, r0⟩ := trodAll_cons hA
  obtain ⟨v1, vs1, d1, ds1, p1, q1, rfl, rfl, rfl, h1, r1⟩ := trodAll_cons r0
  obtain ⟨v2, vs2, d2, ds2, p2, q2, rfl, rfl, rfl, h2, r2⟩ := trodAll_cons r1
  obtain ⟨v3, vs3, d3, ds3, p3, q3, rfl, rfl, rfl, h3, r3⟩ := trodAll_cons r2
  obtain ⟨rfl, rfl, rfl⟩ := trodAll_nil r3
  obtain rfl : args = #[v0, v1, v2, v3] := by cases args; simp_all
  obtain ⟨rfl, rfl⟩ := trodVars_none hV
  have hsz := hsz0; clear hsz0
  obtain ⟨pp0, c0, a0, rfl, n0, m0, y0, o0⟩ := opened_tf (okBase (hval 0 22 v0 rfl rfl)) h0 (fun n hn => by simpa using List.all_eq_true.1 hsz n (DataW.weights_mem_each (j := 0) rfl rfl n hn))
  obtain ⟨pp1, c1, a1, rfl, n1, m1, y1, o1⟩ := opened_tf (okBase (hval 1 22 v1 rfl rfl)) h1 (fun n hn => by simpa using List.all_eq_true.1 hsz n (DataW.weights_mem_each (j := 1) rfl rfl n hn))
  obtain ⟨pp2, c2, a2, rfl, n2, m2, y2, o2⟩ := opened_ints (okBase (hval 2 24 v2 rfl rfl)) h2
  obtain ⟨pp3, c3, a3, rfl, n3, m3, y3, o3⟩ := opened_ints (okBase (hval 3 24 v3 rfl rfl)) h3
  clear hA0 hval0
  refine (walk pp0 c0 a0 pp1 c1 a1 pp2 c2 a2 pp3 c3 a3 W y0 o0 n0 m0 y1 o1 n1 m1 y2 o2 n2 m2 y3 o3 n3 m3).mono fun e W' ⟨he, bel⟩ => ?_
  subst he
  exact ⟨_, rfl, _, _, _, [], _, [], hW', trodAll_mk1 (shut_bool Try.underlying4 _), (trodAll_cons_mk (Below.trod laidOut (by kernel_rfl) (of_decide_eq_true (by kernel_rfl)) h0 bel (fun x hx => hlt x (by simp [hx]))) (trodAll_cons_mk (Below.trod laidOut (by kernel_rfl) (of_decide_eq_true (by kernel_rfl)) h1 bel (fun x hx => hlt x (by simp [hx]))) (trodAll_cons_mk (Below.trod laidOut (by kernel_rfl) (of_decide_eq_true (by kernel_rfl)) h2 bel (fun x hx => hlt x (by simp [hx]))) (trodAll_cons_mk (Below.trod laidOut (by kernel_rfl) (of_decide_eq_true (by kernel_rfl)) h3 bel (fun x hx => hlt x (by simp [hx]))) trodAll_mk0)))), rfl, bel.frame _, fun h => by cases h⟩

theorem over : Rows.shingleBelowRow.holds Try.pinned (OpenSpec.ofChange Rows.shingleBelowSpec) :=
  OpenClaim.holds_of_wide 7 Try.f7 rfl rfl rfl rfl rfl rfl rfl ⟨rfl, rfl, rfl, rfl, rfl⟩ rfl rfl rfl rfl rfl (by kernel_rfl) Try.func7 (by kernel_rfl)
    (of_decide_eq_true (by kernel_rfl)) (by unfold Func.isWrapper; first | (rw [if_pos (by decide +kernel)]; kernel_rfl) | (rw [if_neg (by decide +kernel)]; exact ⟨rfl, rfl⟩))
    (fun os started H enc _ => lifted os started H enc)

theorem proved : Rows.ShingleBelowSaid := over
#print axioms proved
end Go.Proofs.Ytncdjfgoigaflaa.shingleBelow
