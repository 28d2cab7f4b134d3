/- The contract of Validate. -/
import Derived.Test.YtphkpokoeaagfaaGreatDoorVal
import Derived.Carry
namespace Go.Proofs.YtphkpokoeaagfaaGreatDoor
open Go.ChangeShapes Go.WideShapes Go.ChangeAt Go.RowKit
set_option linter.unusedVariables false
set_option maxRecDepth 100000

theorem lastText_snoc (P : List It) (x : It) : lastText (P ++ [x]) = decide (x.k = 1) := by unfold lastText; simp
/-- What holds at each round's head of Validate. -/
structure VRel (l : List It) (w : World) (T : Nat) (k : Nat) (wr : World) : Prop where
  le : k ≤ l.length
  ok : errL [] (l.take k) = 0
  below : Below w.heap.size w wr
  base : w.heap.size ≤ T
  var : Var2M wr (T + 2) T (T + 1)
  t : MapAt 3 vInt Value.bool wr T k (fun id => if taken (l.take k) id = true then some true else none)
  u : MapAt 3 vInt Value.string wr (T + 1) k (unc (l.take k))
theorem VRel.call {l : List It} {w : World} {T k : Nat} {wr w1 : World} (h : VRel l w T k wr) (hb : Below wr.heap.size wr w1) : VRel l w T k w1 :=
  ⟨h.le, h.ok, BelowOn h.below hb, h.base, h.var.call hb, h.t.call hb, h.u.call hb⟩
theorem VRel.alloc {l : List It} {w : World} {T k : Nat} {wr : World} (h : VRel l w T k wr) (o : Obj) : VRel l w T k (wr.alloc o) := h.call ((Below.refl _ _).alloc (Nat.le_refl _) o)
theorem VRel.next {l : List It} {w : World} {T k : Nat} {wr : World} (h : VRel l w T k wr) (hk : k < l.length) (he : errAt (l.take k) (l[k]'hk) = 0) (ht : isT (l[k]'hk).k = false) : VRel l w T (k + 1) wr := by
  refine ⟨hk, errL_take l k hk h.ok he, h.below, h.base, h.var, (h.t.mono (Nat.le_succ k)).ext fun id => ?_, (h.u.mono (Nat.le_succ k)).ext fun id => ?_⟩
  · rw [List.take_succ_eq_append_getElem hk, taken_snoc, ht]; simp
  · rw [List.take_succ_eq_append_getElem hk, unc_snoc, ht]; simp
theorem MapAt.made1 {κ β : Type} [DecidableEq κ] {kt : TypeId} {kv : κ → Value} {enc : β → Value} (w : World) (B : Nat) (hB : w.heap.size = B) : MapAt kt kv enc (w.alloc (.map #[] 0)) B 0 (fun _ => none) := by subst hB; exact MapAt.made w

set_option maxHeartbeats 3200000 in
theorem validate_in (p : Option Addr) (cap : Nat) (l : List It) (w : World) (hR : Its w p l) (hO : Oks l) (hc : l.length ≤ cap) (hm : cap ≤ maxLen) (hl : l.length ≤ 512) (h1 : lenI l ≤ 1024) :
    Calls Tryz.prog 35 #[.slice p l.length cap] w fun e w' => e = .returned (.int .i64 (errL [] l)) ∧ Below w.heap.size w w' := by
  have hlen := fun w hR => length_any p cap l w hR hc hm (by omega)
  have HL := Lib.hid hlen; clear hlen
  have q1 : decide (512 < (l.length : Int)) = false := by simp; omega
  have q2 : decide (1024 < (lenI l : Int)) = false := by simp; omega
  have q1' : decide (512 < l.length) = false := by simp; omega
  have q2' : decide (1024 < lenI l) = false := by simp; omega
  have hmm := @run_makeMap Tryz.prog
  unfold maxLen at hm
  go_enter Tryz.func35, Tryz.ntmps35
  go_wp2_with fail
  refine (HL.out _ hR).mono ?_; rintro e w1 ⟨rfl, hb⟩
  go_wp2_with fail
  clear q1 q2 q1' q2' hmm
  go_loopw [4, 21] (fun v i wr => ∃ k : Nat, i = .int .i64 k ∧ v = .bool (lastText (l.take k)) ∧ VRel l w w1.heap.size k wr) (fun _ i _ => l.length - (intOf i).toNat)
  case atStart =>
    refine ⟨0, rfl, rfl, Nat.zero_le _, rfl, ?_, hb.size, ?_, ?_, ?_⟩
    · exact blw (blw (blw hb _) _) _
    · have := Var2M.new ((w1.alloc (.map #[] 0)).alloc (.map #[] 0)) w1.heap.size (w1.heap.size + 1); simpa using this
    · exact ((MapAt.made1 w1 _ rfl).alloc _).alloc _
    · exact (MapAt.made1 (w1.alloc (.map #[] 0)) _ (by simp)).alloc _
  case round =>
    obtain ⟨k, rfl, rfl, hV⟩ := hrel
    generalize hT : w1.heap.size = T at *
    by_cases hlt : k < l.length
    · obtain ⟨ad, rfl, had, c0, c1, c2⟩ := (hR.call hV.below).row k hlt
      have hok := hO k hlt
      have hbad := errL_bad l k hlt hV.ok
      have hnext := hV.next hlt
      have hzero := errAt_zero (l.take k) l[k]
      have hlast : lastText (l.take (k + 1)) = decide (l[k].k = 1) := by rw [List.take_succ_eq_append_getElem hlt, lastText_snoc]
      have hnext := fun W (h : VRel l w T k W) => h.next hlt
      have hu := hV.ok
      have hts : l[k].t.size ≤ maxLen := by have := hok.t; unfold maxLen; omega
      have hpr := fun w => isproper_any l[k].k l[k].t l[k].id w hts
      have htg := fun w => istag_any l[k].k l[k].t l[k].id w
      have hadm := adm_eq (l.take k) l[k] hV.ok
      have e0 : ∀ y : It, (⟨y.k, y.t, y.id⟩ : It) = y := fun y => rfl
      rw [e0] at hpr
      have hsn := List.take_succ_eq_append_getElem hlt
      generalize hx : l[k] = x at *
      have HX := Lib.hid hx; clear hx
      have HN := Lib.hid hnext; have HL' := Lib.hid hlast; have HS := Lib.hid hsn; have HBAD := Lib.hid hbad
      clear hnext hlast hsn hbad hu e0
      cases hp : properB x
      · have he : errAt (l.take k) x = 1 := by unfold errAt; rw [if_pos (.inl hp)]
        have HE := Lib.hid (HBAD.out (by rw [he]; decide))
        rw [he] at HE
        rw [hp] at hpr
        have HP := Lib.hid hpr
        clear hpr htg hadm hzero he hp
        go_wp2_with fail
        refine (HP.out _).mono ?_; rintro e w3 ⟨rfl, hb3⟩
        go_wp2_with fail
        go_ret
        exact ⟨by rw [HE.out]; rfl, BelowOn (blw hV.below _) hb3⟩
      rw [hp] at hpr hzero
      have HP := Lib.hid hpr; clear hpr
      by_cases h1k : x.k = 1
      · have q : (x.k == 1) = true := by simpa using h1k
        have ht : isT x.k = false := by rw [h1k]; rfl
        rw [ht] at htg
        have HT := Lib.hid htg; clear htg
        cases hla : lastText (l.take k)
        · have he : errAt (l.take k) x = 0 := hzero.2 ⟨rfl, fun _ => hla, fun h => by rw [ht] at h; cases h⟩
          have hl' := HL'.out
          rw [show decide (x.k = 1) = true by simpa using h1k] at hl'
          have HE := Lib.hid he; have HLT := Lib.hid hl'; have HTK := Lib.hid ht
          clear he hl' ht hzero hadm hp h1k hla
          go_wp2_with fail
          refine (HP.out _).mono ?_; rintro e w3 ⟨rfl, hb3⟩
          have V := (Var3.new wr x.k x.t x.id).call hb3
          have hV3 := (hV.alloc (.cells #[.int .i64 x.k, .string x.t, .int .i64 x.id] 62)).call hb3
          obtain ⟨v0, v1, v2, vl⟩ := id V
          go_wp2_with fail
          refine (HT.out _).mono ?_; rintro e w4 ⟨rfl, hb4⟩
          have hV4 := hV3.call hb4
          clear v0 v1 v2 vl
          go_wp2_with fail
          go_roundw
          case rel => exact ⟨k + 1, by go_num, by rw [HLT.out], HN.out _ hV4 HE.out HTK.out⟩
          case measure => simp [intOf]; omega
        · have he : errAt (l.take k) x = 1 := by unfold errAt; rw [if_pos (.inr ⟨h1k, hla⟩)]
          have HE := Lib.hid (HBAD.out (by rw [he]; decide))
          rw [he] at HE
          clear hadm hzero he hp h1k hla ht
          go_wp2_with fail
          refine (HP.out _).mono ?_; rintro e w3 ⟨rfl, hb3⟩
          go_wp2_with fail
          go_ret
          exact ⟨by rw [HE.out]; rfl, BelowOn (blw hV.below _) hb3⟩
      have q : (x.k == 1) = false := by simpa using h1k
      have hl' := HL'.out
      rw [show decide (x.k = 1) = false by simpa using h1k] at hl'
      have HLT := Lib.hid hl'; clear hl'
      generalize lastText (l.take k) = lt at *
      cases ht : isT x.k
      · rw [ht] at htg
        have he : errAt (l.take k) x = 0 := hzero.2 ⟨rfl, fun h => absurd h h1k, fun h => by rw [ht] at h; cases h⟩
        have HT := Lib.hid htg; have HE := Lib.hid he; have HTK := Lib.hid ht
        clear he ht hzero hadm hp h1k htg
        go_wp2_with fail
        refine (HP.out _).mono ?_; rintro e w3 ⟨rfl, hb3⟩
        have V := (Var3.new wr x.k x.t x.id).call hb3
        have hV3 := (hV.alloc (.cells #[.int .i64 x.k, .string x.t, .int .i64 x.id] 62)).call hb3
        obtain ⟨v0, v1, v2, vl⟩ := id V
        go_wp2_with fail
        refine (HT.out _).mono ?_; rintro e w4 ⟨rfl, hb4⟩
        have hV4 := hV3.call hb4
        clear v0 v1 v2 vl
        go_wp2_with fail
        go_roundw
        case rel => exact ⟨k + 1, by go_num, by rw [HLT.out], HN.out _ hV4 HE.out HTK.out⟩
        case measure => simp [intOf]; omega
      rw [ht] at htg
      have HT := Lib.hid htg; clear htg
      have hcall := fun W (h : VRel l w T k W) => admits_any T (T + 1) k k w.heap.size (l.take k) x W h.base (by have := h.base; omega) (by omega) hok ht (by omega) (by omega) h.t h.u
      rw [hadm] at hcall
      cases htb : tagBad (l.take k) x
      · have he : errAt (l.take k) x = 0 := hzero.2 ⟨rfl, fun h => absurd h h1k, fun _ => htb⟩
        rw [htb] at hcall
        have HC := Lib.hid hcall; have HE := Lib.hid he; have HTK := Lib.hid ht
        clear he ht hzero hadm hp h1k hcall htb
        go_wp2_with fail
        refine (HP.out _).mono ?_; rintro e w3 ⟨rfl, hb3⟩
        have V := (Var3.new wr x.k x.t x.id).call hb3
        have hV3 := (hV.alloc (.cells #[.int .i64 x.k, .string x.t, .int .i64 x.id] 62)).call hb3
        obtain ⟨v0, v1, v2, vl⟩ := id V
        go_wp2_with fail
        refine (HT.out _).mono ?_; rintro e w4 ⟨rfl, hb4⟩
        have hV4 := hV3.call hb4
        clear v0 v1 v2 vl
        obtain ⟨v0, v1, v2, vl⟩ := V.call hb4
        obtain ⟨y0, y1, yl⟩ := id hV4.var
        go_wp2_with fail
        refine (HC.out _ hV4).mono ?_; rintro e w5 ⟨rfl, hb5, hbut, hmaps⟩
        clear v0 v1 v2 vl y0 y1 yl
        obtain ⟨hm1, hm2⟩ := hmaps rfl
        have hV5 : VRel l w T (k + 1) w5 := by
          refine ⟨hlt, by rw [HS.out, errL_snoc _ _ hV4.ok, HE.out], hV4.below.trans hb5, hV4.base, ?_, ?_, ?_⟩
          · exact hV4.var.same (hbut (T + 2) hV4.var.lt (by omega) (by omega)) (hb5.size)
          · rw [HS.out]; exact hm1
          · rw [HS.out]; exact hm2
        clear hm1 hm2 hmaps
        go_wp2_with fail
        go_roundw
        case rel => exact ⟨k + 1, by go_num, by rw [HLT.out], hV5⟩
        case measure => simp [intOf]; omega
      · have he : errAt (l.take k) x = 7 := by
          unfold errAt
          rw [if_neg (by rw [hp]; rintro (h | h); cases h; exact h1k h.1), if_pos ⟨ht, htb⟩]
        have HE := Lib.hid (HBAD.out (by rw [he]; decide))
        rw [he] at HE
        rw [htb] at hcall
        have HC := Lib.hid hcall
        clear he ht hzero hadm hp h1k hcall htb
        go_wp2_with fail
        refine (HP.out _).mono ?_; rintro e w3 ⟨rfl, hb3⟩
        have V := (Var3.new wr x.k x.t x.id).call hb3
        have hV3 := (hV.alloc (.cells #[.int .i64 x.k, .string x.t, .int .i64 x.id] 62)).call hb3
        obtain ⟨v0, v1, v2, vl⟩ := id V
        go_wp2_with fail
        refine (HT.out _).mono ?_; rintro e w4 ⟨rfl, hb4⟩
        have hV4 := hV3.call hb4
        clear v0 v1 v2 vl
        obtain ⟨v0, v1, v2, vl⟩ := V.call hb4
        obtain ⟨y0, y1, yl⟩ := id hV4.var
        go_wp2_with fail
        refine (HC.out _ hV4).mono ?_; rintro e w5 ⟨rfl, hb5, hbut, hmaps⟩
        go_wp2_with fail
        go_ret
        exact ⟨by rw [HE.out]; rfl, hV4.below.trans hb5⟩
    · have hk : k = l.length := by have := hV.le; omega
      have ho := hV.ok
      rw [hk, List.take_length] at ho
      have HO := Lib.hid ho
      have hB := hV.below
      clear hV ho hk
      go_wp2_with fail
      go_ret
      exact ⟨by rw [HO.out]; rfl, hB⟩
end Go.Proofs.YtphkpokoeaagfaaGreatDoor
