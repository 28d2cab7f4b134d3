/- Shingle: the words of ShingleOrder. Shingle: the walk of ShingleOrder. The law ShingleOrder holds for every input. -/
import Derived.Test.YtncdjfgoigaflaaSgE
import Derived.Test.YtncdjfgoigaflaaRows
import Derived.WalkKit
import Derived.ProofKit
import Derived.OpenShut
import Derived.ChangeOld
import Derived.Below
import Derived.Carry
import Derived.SizedLaws
import Derived.Test.YtncdjfgoigaflaaTka
namespace Go.Proofs.Ytncdjfgoigaflaa
open Go.ChangeShapes Go.WideShapes Go.ChangeAt Go.RowKit
set_option linter.unusedVariables false
set_option linter.unusedSimpArgs false
set_option maxRecDepth 100000

def wrd (j : Nat) : It := ⟨6, ⟨#[119, UInt8.ofNat (97 + j)]⟩, 0⟩
def ordA (k : Nat) : List It := (List.range k).map wrd
def ordB (n k : Nat) : List It := (List.range k).map fun i => wrd (n - 1 - i)
theorem ordA_len (k : Nat) : (ordA k).length = k := by simp [ordA]
theorem ordB_len (n k : Nat) : (ordB n k).length = k := by simp [ordB]
theorem ordA_next (k : Nat) : ordA (k + 1) = ordA k ++ [wrd k] := by unfold ordA; rw [List.range_succ, List.map_append]; rfl
theorem ordB_next (n k : Nat) : ordB n (k + 1) = ordB n k ++ [wrd (n - 1 - k)] := by unfold ordB; rw [List.range_succ, List.map_append]; rfl
def wantN (n : Nat) : Nat := if n > 1 then 4 * ((n + 2) / 2) else 0
set_option maxHeartbeats 12800000 in
theorem ord_bag : ∀ n, n < 10 → bagN (ordA n) (ordB n n) = 0 := by decide +kernel
set_option maxHeartbeats 12800000 in
theorem ord_bou : ∀ n, n < 10 → bouN (ordA n) (ordB n n) = wantN n := by decide +kernel
end Go.Proofs.Ytncdjfgoigaflaa
namespace Go.Proofs.Ytncdjfgoigaflaa
open Go.ChangeShapes Go.WideShapes Go.ChangeAt Go.RowKit
set_option linter.unusedVariables false
set_option linter.unusedSimpArgs false
set_option maxRecDepth 100000

/-- Two lists of tokens that grow side by side. -/
structure TwoT (K : Nat) (Lc Lo : List It) (vc vo : Value) (wr : World) : Prop where
  size : K ≤ wr.heap.size
  c : OwnT K Lc vc wr
  o : OwnT K Lo vo wr
  ne : ∀ k, vc.ownBlock = some k → vo.ownBlock ≠ some k
section
variable {K : Nat} {Lc Lo : List It} {vc vo : Value} {wr : World}
theorem TwoT.start (w : World) : TwoT w.heap.size [] [] (.slice none 0 0) (.slice none 0 0) w := ⟨Nat.le_refl _, OwnL.nil _ _, OwnL.nil _ _, fun k h => by simp [Value.ownBlock] at h⟩
theorem TwoT.swap (h : TwoT K Lc Lo vc vo wr) : TwoT K Lo Lc vo vc wr := ⟨h.size, h.o, h.c, fun k h1 h2 => h.ne k h2 h1⟩
theorem TwoT.call {w1 : World} (h : TwoT K Lc Lo vc vo wr) (hb : Below wr.heap.size wr w1) : TwoT K Lc Lo vc vo w1 := ⟨Nat.le_trans h.size hb.size, h.c.call hb, h.o.call hb, h.ne⟩
theorem TwoT.alloc (h : TwoT K Lc Lo vc vo wr) (ob : Obj) : TwoT K Lc Lo vc vo (wr.alloc ob) := h.call (blw (Below.refl _ _) ob)
theorem TwoT.push {w' : World} (h : TwoT K Lc Lo vc vo wr) {y : It} {g n cap : Nat} (hown : OwnT K (Lo ++ [y]) (.slice (some ⟨g, 0, none⟩) n cap) w') (hgr : wr.grownBy w' vo.ownBlock) (hloc : vo.ownBlock = some g ∨ g = wr.heap.size) :
    TwoT K Lc (Lo ++ [y]) vc (.slice (some ⟨g, 0, none⟩) n cap) w' := by
  refine ⟨Nat.le_trans h.size hgr.size, h.c.keepAt (fun k hk => hgr.block k (World.ownsRow.lt h.c k hk).2 (fun e => h.ne k hk e.symm)), hown, fun k hk e => ?_⟩
  have e' : g = k := by simpa [Value.ownBlock] using e
  subst e'
  rcases hloc with h1 | h1
  · exact h.ne _ hk h1
  · have := (World.ownsRow.lt h.c _ hk).2; omega
theorem TwoT.grow {w' : World} (h : TwoT K Lc Lo vc vo wr) {w0 : World} (hb : Below K w0 wr) (hgr : wr.grownBy w' vo.ownBlock) : Below K w0 w' := hb.grown hgr h.size (fun k hk => (World.ownsRow.lt h.o k hk).1)
end
theorem conv_letter (w : World) (c : Nat) (hc : c < 256) :
    (convert 48 9 (.slice (some ⟨w.heap.size, 0, none⟩) 1 1)).run Try.prog (w.alloc (.cells #[.int .u8 (c : Int)] 5)) = .ok (.string ⟨#[UInt8.ofNat c]⟩) (w.alloc (.cells #[.int .u8 (c : Int)] 5)) := by
  have h := Lib.run_convert_whole (P := Try.prog) (w.alloc (.cells #[.int .u8 (c : Int)] 5)) 48 5 9 Try.underlying48 Try.underlying5 Try.underlying9 w.heap.size 0 ⟨#[UInt8.ofNat c]⟩ (fun i hi => by
    obtain rfl : i = 0 := by have : i < 1 := hi; omega
    rw [Nat.add_zero, World.cell?_alloc_mark]
    show some (Value.int .u8 (c : Int)) = some (Value.int .u8 ((UInt8.ofNat c).toNat : Int))
    congr 2
    simp; omega) 1
  exact h
theorem conv_lett (w : World) (k : Nat) (hk : k < 100) :
    (convert 48 9 (.slice (some ⟨w.heap.size, 0, none⟩) 1 1)).run Try.prog (w.alloc (.cells #[.int .u8 (97 + (k : Int))] 5)) = .ok (.string ⟨#[UInt8.ofNat (97 + k)]⟩) (w.alloc (.cells #[.int .u8 (97 + (k : Int))] 5)) := by
  have h := conv_letter w (97 + k) (by omega)
  rw [show ((97 + k : Nat) : Int) = 97 + (k : Int) by omega] at h
  exact h
theorem u8_letter (k : Nat) (h : k < 100) : IntKind.u8.wrap (97 + (k : Int)) = 97 + (k : Int) := by
  simp only [IntKind.wrap, IntKind.bits, IntKind.signed]; simp; omega
theorem cat_w (c : Nat) : (⟨#[119]⟩ : ByteArray) ++ ⟨#[UInt8.ofNat c]⟩ = ⟨#[119, UInt8.ofNat c]⟩ := rfl
set_option maxHeartbeats 12800000 in
theorem order_law (a0 : Int) (w : World) (hw : (Lit.int .i64 a0).wf = true) :
    Calls Try.prog 9 #[.int .i64 a0] w fun e w' => e = .returned (.bool true) ∧ Below w.heap.size w w' := by
  obtain ⟨u, hu⟩ : ∃ u : Nat, IntKind.u64.wrap a0 = (u : Int) := by
    have h0 : 0 ≤ IntKind.u64.wrap a0 := by
      simp only [IntKind.wrap, IntKind.bits, IntKind.signed]; simp; omega
    exact ⟨(IntKind.u64.wrap a0).toNat, by omega⟩
  obtain ⟨n, hm, hn9⟩ : ∃ r : Nat, (u : Int).tmod 10 = (r : Int) ∧ r < 10 := by
    refine ⟨u % 10, ?_, by omega⟩
    rw [Int.tmod_eq_emod_of_nonneg (by omega)]; omega
  have HKN := Lib.hid (fun W => hknown_any W)
  have HBG := Lib.hid (And.intro (ord_bag n hn9) (ord_bou n hn9))
  go_enter Try.func9, Try.ntmps9
  go_upto_region 2 with fail
  clear hu hm
  go_wp2_with fail
  go_loopw [3, 4, 5] (fun v1 v2 i wr => ∃ k : Nat, k ≤ n ∧ i = .int .i64 k ∧ TwoT w.heap.size (ordA k) (ordB n k) v1 v2 wr ∧ Below w.heap.size w wr) (fun _ _ i _ => n - (intOf i).toNat)
  case atStart => exact ⟨0, Nat.zero_le _, rfl, TwoT.start w, Below.refl _ _⟩
  case round =>
    obtain ⟨k, hk, rfl, hT, hB⟩ := hrel
    by_cases hlt : k < n
    · have hnA := ordA_next k
      have hnB := ordB_next n k
      have lnA := ordA_len k
      have lnB := ordB_len n k
      have HN := Lib.hid (And.intro hnA hnB)
      clear hnA hnB
      obtain ⟨m, hmm⟩ : ∃ m : Nat, m = n - 1 - k := ⟨_, rfl⟩
      have hm9 : m < 10 := by omega
      have q1 := u8_letter k (by omega)
      have q2 := u8_letter m (by omega)
      have q3 : (97 + (n : Int)) - 1 - (k : Int) = 97 + (m : Int) := by omega
      have HCV := Lib.hid (fun W c (h : c < 100) => conv_lett W c h)
      rw [← hmm] at HN
      generalize ordA k = LA at *
      generalize ordB n k = LB at *
      obtain ⟨d1, hd1⟩ : ∃ d : UInt8, d = UInt8.ofNat (97 + k) := ⟨_, rfl⟩
      obtain ⟨d2, hd2⟩ : ∃ d : UInt8, d = UInt8.ofNat (97 + m) := ⟨_, rfl⟩
      have e1 : wrd k = ⟨6, ⟨#[119]⟩ ++ ⟨#[d1]⟩, 0⟩ := by rw [hd1]; rfl
      have e2 : wrd m = ⟨6, ⟨#[119]⟩ ++ ⟨#[d2]⟩, 0⟩ := by rw [hd2]; rfl
      rw [e1, e2] at HN
      have hcv1 := HCV.out wr k (by omega)
      have HCW := Lib.hid (fun W => HCV.out W m (by omega))
      rw [← hd1] at hcv1
      rw [← hd2] at HCW
      clear e1 e2 hd1 hd2 HCV
      have ik : (k : Int) < (n : Int) := by omega
      have hTs := hT.swap
      have HTS := Lib.hid hTs
      have hT1 := (hTs.alloc (.cells #[.int .u8 (97 + (k : Int))] 5))
      have h1 := hT1.o
      have hsz1 := hTs.size
      have HT1 := Lib.hid hT1
      have HB1 := Lib.hid (blw hB (.cells #[.int .u8 (97 + (k : Int))] 5))
      clear hT hTs hT1 hB hmm
      go_wp2_with (at_builtin; refine wpl_app eT _ rfl _ _ rfl w.heap.size LA _ rfl (World.ownsRow.alloc h1 _) (by simp; omega) (⟨6, ⟨#[119]⟩ ++ ⟨#[d1]⟩, 0⟩ : It) _ _ rfl (heap_new2 _ _ _) rfl (by omega) (by unfold maxLen; omega) ?_; intro g1 cap1 w5 hown5 hgr5 hloc5)
      have hT5 := ((HT1.out.alloc _).push hown5 hgr5 hloc5).swap
      have hB5 := (HT1.out.alloc _).grow (blw HB1.out _) hgr5
      have hcv2 := HCW.out w5
      have hT6 := (hT5.alloc (.cells #[.int .u8 (97 + (m : Int))] 5))
      have h2 := hT6.o
      have hsz2 := hT5.size
      have HT6 := Lib.hid hT6
      have HB6 := Lib.hid (blw hB5 (.cells #[.int .u8 (97 + (m : Int))] 5))
      clear hT5 hT6 hB5 hown5 hgr5 hloc5 HT1 HB1 hcv1 h1 hsz1 HTS
      go_wp2_with fail
      rw [hcv2]
      try go_simp
      go_wp2_with (at_builtin; refine wpl_app eT _ rfl _ _ rfl w.heap.size LB _ rfl (World.ownsRow.alloc h2 _) (by simp; omega) (⟨6, ⟨#[119]⟩ ++ ⟨#[d2]⟩, 0⟩ : It) _ _ rfl (heap_new2 _ _ _) rfl (by omega) (by unfold maxLen; omega) ?_; intro g2 cap2 w7 hown7 hgr7 hloc7)
      have hT7 := (HT6.out.alloc _).push hown7 hgr7 hloc7
      rw [lnA, lnB] at hT7
      have hB7 := (HT6.out.alloc _).grow (blw HB6.out _) hgr7
      clear hown7 hgr7 hloc7 HT6 HB6 hcv2 h2 hsz2
      go_wp2_with fail
      go_roundw
      case rel => exact ⟨k + 1, hlt, by go_num, by rw [HN.out.1, HN.out.2]; exact hT7, hB7⟩
      case measure => simp [intOf]; omega
    · obtain rfl : k = n := by omega
      obtain ⟨p1, c1, rfl, i1, j1, hI1⟩ := OwnT.its hT.c
      obtain ⟨p2, c2, rfl, i2, j2, hI2⟩ := OwnT.its hT.o
      have hok : ∀ j, (Lit.int .i64 (wrd j).k).wf = true ∧ (wrd j).t.size ≤ 1000 := fun j => ⟨rfl, by show 2 ≤ 1000; omega⟩
      have hA : Br wr p1 c1 (ordA k) := ⟨hI1, i1, j1, by rw [ordA_len]; omega, fun x hx => by
        unfold ordA at hx; rw [List.mem_map] at hx; obtain ⟨j, _, rfl⟩ := hx; exact hok j⟩
      have hC : Br wr p2 c2 (ordB k k) := ⟨hI2, i2, j2, by rw [ordB_len]; omega, fun x hx => by
        unfold ordB at hx; rw [List.mem_map] at hx; obtain ⟨j, _, rfl⟩ := hx; exact hok _⟩
      have hbag := hA.bag hC
      rw [HBG.out.1] at hbag
      have HBA := Lib.hid hbag
      have hbou := fun W (h : Below wr.heap.size wr W) => (hA.call h).bound (hC.call h)
      rw [HBG.out.2] at hbou
      have HBO := Lib.hid hbou
      clear hbag hbou hA hC hI1 hI2 hT hok
      generalize ordA k = LA at *
      generalize ordB k k = LB at *
      unfold wantN at HBO
      by_cases h1 : k > 1
      · rw [if_pos h1] at HBO
        have q1 : ((k : Int) + 2).tdiv 2 = (((k + 2) / 2 : Nat) : Int) := by rw [Int.tdiv_eq_ediv_of_nonneg (by omega)]; omega
        have q2 : (1 : Int) < (k : Int) := by omega
        have q3 : (k + 2) / 2 ≤ 6 := by omega
        generalize (k + 2) / 2 = z at *
        have q4 : ((4 * z : Nat) : Int) = 4 * (z : Int) := by omega
        rw [q4] at HBO
        have q5 : (z : Int) ≤ 6 := by omega
        go_wp2_with fail
        refine HBA.out.mono ?_; rintro e w3 ⟨rfl, hb3⟩
        go_wp2_with fail
        refine (HBO.out _ hb3).mono ?_; rintro e w4 ⟨rfl, hb4⟩
        go_wp2_with fail
        refine (HKN.out _).mono ?_; rintro e w5 ⟨rfl, hb5⟩
        go_wp2_with fail
        go_ret
        exact ⟨rfl, BelowOn (BelowOn (BelowOn hB hb3) hb4) hb5⟩
      · rw [if_neg h1] at HBO
        have q2 : ¬ (1 : Int) < (k : Int) := by omega
        go_wp2_with fail
        refine HBA.out.mono ?_; rintro e w3 ⟨rfl, hb3⟩
        go_wp2_with fail
        refine (HBO.out _ hb3).mono ?_; rintro e w4 ⟨rfl, hb4⟩
        go_wp2_with fail
        refine (HKN.out _).mono ?_; rintro e w5 ⟨rfl, hb5⟩
        go_wp2_with fail
        go_ret
        exact ⟨rfl, BelowOn (BelowOn (BelowOn hB hb3) hb4) hb5⟩
end Go.Proofs.Ytncdjfgoigaflaa
namespace Go.Proofs.Ytncdjfgoigaflaa.shingleOrder
open Go.ChangeShapes Go.WideShapes Go.ChangeAt Go.RowKit
open Go.ChangeMaps (open_string shut_string)
set_option linter.unusedVariables false
set_option maxRecDepth 100000

theorem own : ownKnob Try.prog.godebug = none := by kernel_rfl
theorem laidOut : laidOutB Try.prog = true := by kernel_rfl


set_option maxHeartbeats 1600000 in
theorem walk (a0 : Int) (w : World) (w0 : (Lit.int .i64 a0).wf = true) :
    Calls Try.prog 9 #[.int .i64 a0] w fun e w' => e = .returned (.bool true) ∧ Below w.heap.size w w' := by
  exact order_law a0 w w0

theorem lifted (os : Os) (started : os.Started) (H : Type) (enc : TypeId × Value → H) :
    ReturnsInHanded {} Try.checked os 9 .any (Rows.shingleOrderSpec.pre6 enc Try.prog Try.f9 Rows.shingleOrderRow.domain false) (Rows.shingleOrderSpec.post enc Try.prog Try.f9 false true false false) := by
  refine returnsInHanded_of_change_sized (C := Try.checked) own started (by kernel_rfl) Try.func9
    (ChangeSpec.witness6 (enc := enc) (C := Try.checked) false ⟨#[], #[.int .i64 0], []⟩ 8 (by kernel_rfl) (by kernel_rfl) (by kernel_rfl) (by kernel_rfl)) ?_
  intro W base args ds gs before hval0 hW hcnd hsz0 _
  have hval : ∀ (j : Nat) t v, Try.f9.params[j]? = some t → args[j]? = some v → Value.okWide Try.prog W .any base t v := hval0
  have hW' := hW
  have hlt : ∀ x ∈ before, x.block < W.heap.size := fun x hx => hW'.lt x hx
  obtain ⟨p, q, hA0, hV, rfl, hfz, hnd⟩ := hW
  have hA : DataW.TrodAll enc Try.prog W 0 (fun _ => true) true Try.f9.params.toList args.toList ds p := hA0
  rw [Try.params9] at hA hval hsz0
  obtain ⟨v0, vs0, d0, ds0, p0, q0, hargs, rfl, rfl, h0, r0⟩ := trodAll_cons hA
  obtain ⟨rfl, rfl, rfl⟩ := trodAll_nil r0
  obtain rfl : args = #[v0] := by cases args; simp_all
  obtain ⟨rfl, rfl⟩ := trodVars_none hV
  have hsz := hsz0; clear hsz0
  obtain ⟨a0, rfl, -, -, w0⟩ := open_int Try.underlying3 (hval 0 3 v0 rfl rfl) h0
  clear hA0 hval0
  refine (walk a0 W w0).mono fun e W' ⟨he, bel⟩ => ?_
  subst he
  exact ⟨_, rfl, _, _, _, [], _, [], hW', trodAll_mk1 (shut_bool Try.underlying4 _), (trodAll_cons_mk (Below.trod laidOut (by kernel_rfl) (of_decide_eq_true (by kernel_rfl)) h0 bel (fun x hx => hlt x (by simp [hx]))) trodAll_mk0), rfl, bel.frame _, fun h => by cases h⟩

theorem over : Rows.shingleOrderRow.holds Try.pinned (OpenSpec.ofChange Rows.shingleOrderSpec) :=
  OpenClaim.holds_of_wide 9 Try.f9 rfl rfl rfl rfl rfl rfl rfl ⟨rfl, rfl, rfl, rfl, rfl⟩ rfl rfl rfl rfl rfl (by kernel_rfl) Try.func9 (by kernel_rfl)
    (of_decide_eq_true (by kernel_rfl)) (by unfold Func.isWrapper; first | (rw [if_pos (by decide +kernel)]; kernel_rfl) | (rw [if_neg (by decide +kernel)]; exact ⟨rfl, rfl⟩))
    (fun os started H enc _ => lifted os started H enc)

theorem proved : Rows.ShingleOrderSaid := over
#print axioms proved
end Go.Proofs.Ytncdjfgoigaflaa.shingleOrder
