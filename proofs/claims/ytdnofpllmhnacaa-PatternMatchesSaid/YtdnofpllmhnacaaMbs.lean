/- readMembers. -/
import Derived.Test.YtdnofpllmhnacaaMem
namespace Go.Proofs.Ytdnofpllmhnacaa
open Go.ChangeShapes Go.WideShapes Go.ChangeAt Go.RowKit Go.Sort
set_option linter.unusedVariables false
set_option linter.unusedSimpArgs false
set_option maxRecDepth 100000

/-- The members up to the closing bracket, and what a ^ makes of them. -/
def brX (iv : Bool) (r : Option BSet × Nat) : Option BSet × Nat := (r.1.map fun S => if iv then notS S else S, r.2)
theorem br_eq (s : ByteArray) (n : Nat) : brF s n = brX (decide (pk s n = 94)) (mbsF s (s.size + 1) (brA s n) emptyS true) := by
  unfold brF brX
  cases mbsF s (s.size + 1) (brA s n) emptyS true with
  | mk o m => cases o <;> simp
def MbsRel (R B : Nat) (s : ByteArray) (w : World) (res : Option BSet × Nat) (i : Value) (wr : World) : Prop :=
  ∃ (k : Nat) (S : BSet) (f : Nat) (b : Bool), i = .bool b ∧ MW R B s S w k wr ∧ s.size < f + k ∧ mbsF s f k S b = res
def posOf (R : Nat) (wr : World) : Nat := (intOf ((wr.cell? ⟨R, 1, none⟩).getD undef)).toNat
theorem RD.pos {R k : Nat} {s : ByteArray} {W : World} (h : RD R s k W) : posOf R W = k := by
  unfold posOf; rw [h.c1]; simp [intOf]
theorem MW.base {R B m : Nat} {s : ByteArray} {S : BSet} {w W : World} (h : MW R B s S w m W) : MW R B s S W m W := ⟨h.rd, h.st, Gr.refl _ _, h.ne⟩

set_option maxHeartbeats 3200000 in
theorem members_any (R : Nat) (s : ByteArray) (n : Nat) (w : World) (h : RD R s n w) :
    Calls Try.prog 47 #[.pointer (some ⟨R, 0, none⟩)] w (NdEnd R s w (brF s n).1 (brF s n).2) := by
  rw [br_eq]
  have hk := fun W h => rskip_any R s n 94 W h (by decide) (by decide)
  rw [show skN s n 94 = brA s n from rfl] at hk
  have hbl := brA_le h.le
  have hR := h.lt
  have hsm := h.sm
  have ho := blw (Below.refl w.heap.size w) (.cells (List.replicate 32 (Value.int .u8 0)).toArray 55)
  have h0 : MW R w.heap.size s emptyS (w.alloc (.cells (List.replicate 32 (Value.int .u8 0)).toArray 55)) n (w.alloc (.cells (List.replicate 32 (Value.int .u8 0)).toArray 55)) :=
    ⟨h.call ho, SAtT.new 55 w, Gr.refl _ _, by omega⟩
  have hback : ∀ W, Gr [R, w.heap.size] (w.alloc (.cells (List.replicate 32 (Value.int .u8 0)).toArray 55)) W → Gr [R] w W := fun W g =>
    ((Gr.ofB (l := [R]) ho).less (x := w.heap.size) (g.mono (by simp)) (Nat.le_refl _))
  have hB : w.heap.size < (w.alloc (.cells (List.replicate 32 (Value.int .u8 0)).toArray 55)).heap.size := by simp
  generalize decide (pk s n = 94) = iv at *
  have HK := Lib.hid hk; have H0 := Lib.hid h0; have HB := Lib.hid hback; clear hk h0 hback ho
  generalize hres : mbsF s (s.size + 1) (brA s n) emptyS true = res
  have HRES := Lib.hid hres; clear hres
  go_enter Try.func47, Try.ntmps47
  go_wp2_with fail
  refine (HK.out _ H0.out.rd).mono ?_; rintro e w1 ⟨rfl, g1, r1⟩
  have m1 := H0.out.call (Gr.of (l := [R]) g1 (Or.inl (by simp))) r1
  have H1 := Lib.hid m1; clear m1 g1 r1 H0
  generalize w.alloc (.cells (List.replicate 32 (Value.int .u8 0)).toArray 55) = wz at *
  go_wp2_with fail
  go_loopw [5] (fun i wr => MbsRel R w.heap.size s wz res i wr) (fun _ wr => s.size + 1 - posOf R wr)
  case atStart => exact ⟨_, _, _, true, rfl, H1.out, by omega, HRES.out⟩
  case round =>
    obtain ⟨k, S, f, b, rfl, hM, hf, hr⟩ := hrel
    have hle := hM.rd.le
    obtain ⟨f, rfl⟩ : ∃ g, f = g + 1 := ⟨f - 1, by omega⟩
    have HM := Lib.hid hM; clear hM HRES H1
    by_cases hend : (!b && decide (pk s k = 93)) = true
    · have hb : b = false := by cases b; rfl; simp at hend
      subst hb
      have h93 : pk s k = 93 := by simpa using hend
      rw [mbsF, if_pos hend] at hr
      subst hr
      have hs := fun W h => rskip_any R s k 93 W h (by decide) (by decide)
      rw [decide_eq_true h93, show skN s k 93 = k + 1 from if_pos h93] at hs
      have HS := Lib.hid hs; clear hs h93 hend
      go_wp2_with fail
      refine (HS.out _ HM.out.rd).mono ?_; rintro e w2 ⟨rfl, g2, r2⟩
      have m2 := HM.out.call (Gr.of (l := [R]) g2 (Or.inl (by simp))) r2
      have H2 := Lib.hid m2; clear m2 g2 r2 HM HS
      cases iv
      · go_upto_region 9 with fail
        go_wp2_with (first | (refine wpl_loadSet (by rfl) 55 (Or.inl rfl) _ (by rfl) w.heap.size S (by rfl) H2.out.st ?_) | (refine wpl_storeSet (by rfl) 55 (Or.inl rfl) _ _ (by rfl) w.heap.size S S (by rfl) (by rfl) H2.out.st ?_; intro w5 h5 g5))
        have hld := SAtT.read (Or.inl rfl) h5
        have m5 := H2.out.set g5 h5
        (try simp only [Exit.inBlock, Exit.then])
        refine bodyPost_ret (v := .tuple #[.agg (setC S).toArray, .bool true]) (by simp [results, Try.results47, asAddr, Result.andThen, hld, Act.put]) rfl ⟨rfl, HB.out _ m5.gr, m5.rd⟩
      · have HI := Lib.hid (fun W => inverse_any S W)
        go_upto_region 8 with fail
        go_wp2_with (refine wpl_loadSet (by rfl) 55 (Or.inl rfl) _ (by rfl) w.heap.size S (by rfl) H2.out.st ?_)
        refine (HI.out _).mono ?_; rintro e w3 ⟨rfl, hb3⟩
        have H3 := Lib.hid (H2.out.below hb3); clear hb3 H2
        go_wp2_with (refine wpl_storeSet (by rfl) 55 (Or.inl rfl) _ _ (by rfl) w.heap.size S (notS S) (by rfl) (by rfl) H3.out.st ?_; intro w5 h5 g5)
        have hld := SAtT.read (Or.inl rfl) h5
        have m5 := H3.out.set g5 h5
        (try simp only [Exit.inBlock, Exit.then])
        refine bodyPost_ret (v := .tuple #[.agg (setC (notS S)).toArray, .bool true]) (by simp [results, Try.results47, asAddr, Result.andThen, hld, Act.put]) rfl ⟨rfl, HB.out _ m5.gr, m5.rd⟩
    · rw [mbsF, if_neg hend] at hr
      have hend : (!b && decide (pk s k = 93)) = false := by simpa using hend
      have ha := fun W h => addmember_any R w.heap.size s S k W h
      cases hm : mbF s k with
      | mk o m =>
        rw [hm] at ha hr
        have hms : ∀ U, o = some U → k < m ∧ m ≤ s.size := fun U e => by subst e; exact mb_some hm
        clear hm
        have HA := Lib.hid ha; clear ha
        cases b
        · have h93 : ¬ pk s k = 93 := by simpa using hend
          have hs := fun W h => rskip_any R s k 93 W h (by decide) (by decide)
          rw [decide_eq_false h93, show skN s k 93 = k from if_neg h93] at hs
          have HS := Lib.hid hs; clear hs h93 hend
          cases o with
          | none =>
            dsimp only at hr
            subst hr
            go_wp2_with fail
            refine (HS.out _ HM.out.rd).mono ?_; rintro e w2 ⟨rfl, g2, r2⟩
            have H2 := Lib.hid (HM.out.call (Gr.of (l := [R]) g2 (Or.inl (by simp))) r2); clear g2 r2 HM HS
            go_wp2_with fail
            refine (HA.out _ H2.out.base).mono ?_; rintro e w3 ⟨rfl, g3, r3, t3⟩
            have H3 := Lib.hid (show MW R w.heap.size s S wz m w3 from ⟨r3, t3, H2.out.gr.trans g3, H2.out.ne⟩); clear g3 r3 t3 H2 HA
            go_upto_region 6 with fail
            go_wp2_with (refine wpl_storeSet (by rfl) 55 (Or.inl rfl) _ _ (by rfl) w.heap.size S emptyS (by rfl) (by rfl) H3.out.st ?_; intro w5 h5 g5)
            have hld := SAtT.read (Or.inl rfl) h5
            have m5 := H3.out.set g5 h5
            (try simp only [Exit.inBlock, Exit.then])
            refine bodyPost_ret (v := .tuple #[.agg (setC emptyS).toArray, .bool false]) (by simp [results, Try.results47, asAddr, Result.andThen, hld, Act.put]) rfl ⟨rfl, HB.out _ m5.gr, m5.rd⟩
          | some T =>
            obtain ⟨hm1, hm2⟩ := hms T rfl
            have HRR := Lib.hid hr; clear hr hms
            go_wp2_with fail
            refine (HS.out _ HM.out.rd).mono ?_; rintro e w2 ⟨rfl, g2, r2⟩
            have H2 := Lib.hid (HM.out.call (Gr.of (l := [R]) g2 (Or.inl (by simp))) r2); clear g2 r2 HS
            go_wp2_with fail
            refine (HA.out _ H2.out.base).mono ?_; rintro e w3 ⟨rfl, g3, r3, t3⟩
            have H3 := Lib.hid (show MW R w.heap.size s (orS S T) wz m w3 from ⟨r3, t3, H2.out.gr.trans g3, H2.out.ne⟩); clear g3 r3 t3 H2 HA
            go_wp2_with fail
            go_roundw
            case rel => exact ⟨m, orS S T, f, false, rfl, H3.out, by omega, HRR.out⟩
            case measure => rw [H3.out.rd.pos, HM.out.rd.pos]; omega
        · cases o with
          | none =>
            dsimp only at hr
            subst hr
            go_wp2_with fail
            refine (HA.out _ HM.out.base).mono ?_; rintro e w3 ⟨rfl, g3, r3, t3⟩
            have H3 := Lib.hid (show MW R w.heap.size s S wz m w3 from ⟨r3, t3, HM.out.gr.trans g3, HM.out.ne⟩); clear g3 r3 t3 HA
            go_upto_region 6 with fail
            go_wp2_with (refine wpl_storeSet (by rfl) 55 (Or.inl rfl) _ _ (by rfl) w.heap.size S emptyS (by rfl) (by rfl) H3.out.st ?_; intro w5 h5 g5)
            have hld := SAtT.read (Or.inl rfl) h5
            have m5 := H3.out.set g5 h5
            (try simp only [Exit.inBlock, Exit.then])
            refine bodyPost_ret (v := .tuple #[.agg (setC emptyS).toArray, .bool false]) (by simp [results, Try.results47, asAddr, Result.andThen, hld, Act.put]) rfl ⟨rfl, HB.out _ m5.gr, m5.rd⟩
          | some T =>
            obtain ⟨hm1, hm2⟩ := hms T rfl
            have HRR := Lib.hid hr; clear hr hms
            go_wp2_with fail
            refine (HA.out _ HM.out.base).mono ?_; rintro e w3 ⟨rfl, g3, r3, t3⟩
            have H3 := Lib.hid (show MW R w.heap.size s (orS S T) wz m w3 from ⟨r3, t3, HM.out.gr.trans g3, HM.out.ne⟩); clear g3 r3 t3 HA
            go_wp2_with fail
            go_roundw
            case rel => exact ⟨m, orS S T, f, false, rfl, H3.out, by omega, HRR.out⟩
            case measure => rw [H3.out.rd.pos, HM.out.rd.pos]; omega
end Go.Proofs.Ytdnofpllmhnacaa
