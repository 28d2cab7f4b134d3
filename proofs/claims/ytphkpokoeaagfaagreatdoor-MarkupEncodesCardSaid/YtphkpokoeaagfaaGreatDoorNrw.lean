/- The contract of Normalize. -/
import Derived.Test.YtphkpokoeaagfaaGreatDoorNrm
namespace Go.Proofs.YtphkpokoeaagfaaGreatDoor
open Go.ChangeShapes Go.WideShapes Go.ChangeAt Go.RowKit
set_option linter.unusedVariables false
set_option maxRecDepth 100000

/-- The end of a call that gives a slice of items. -/
def EndI (L : List It) (w : World) (e : Ending) (w' : World) : Prop := ∃ v, e = .returned v ∧ AccI w L v w'
theorem NSt.wrote {base r b : Nat} {g : Option Nat} {v : Value} {res : List It} {bs bs' : List UInt8} {w w' : World} (h : NSt base r b g v res bs w) (hw : Wrote base w b g bs' w') :
    Only (nS r b g v) w w' ∧ ∃ g', NSt base r b g' v res bs' w' := by
  obtain ⟨s1, s2, s3, s4⟩ := h.size
  obtain ⟨g', hB, hO, hloc⟩ := hw
  have hv : ∀ i, v.ownBlock = some i → w'.heap[i]? = w.heap[i]? := fun i hi => hO.block i (s4 i hi).2 (fun e => by
    rcases e with e | e
    · exact h.vb (by rw [hi, e])
    · exact h.vg i e hi)
  refine ⟨hO.mono (fun i _ e => e.elim (fun e => .inr (.inl e)) (fun e => .inr (.inr (.inl e)))), g', hB, ?_, ownsRow_same h.own hv, h.rb, h.hrb, h.vr, h.vb, fun e => ?_, fun i hi e => ?_⟩
  · rw [hO.block r s1 (fun e => by
      rcases e with e | e
      · exact h.hrb e
      · exact h.gr e)]
    exact h.var
  · rcases hloc r e with h1 | h1
    · exact h.gr h1
    · omega
  · rcases hloc i hi with h1 | h1
    · exact h.vg i h1 e
    · have := (s4 i e).2; omega
/-- The result's variable is written anew. -/
theorem NSt.put {base r b g2 n cap : Nat} {g : Option Nat} {v : Value} {res L : List It} {bs : List UInt8} {w w2 : World} {o : Obj} (h : NSt base r b g v res bs w) (hgr2 : (w.alloc o).grownBy w2 v.ownBlock) (hloc2 : v.ownBlock = some g2 ∨ g2 = (w.alloc o).heap.size)
    (hown2 : OwnL 62 3 ienc base L (.slice (some ⟨g2, 0, none⟩) n cap) w2) :
    Only (nS r b g v) w (w2.setCell ⟨r, 0, none⟩ (.slice (some ⟨g2, 0, none⟩) n cap)) ∧ NSt base r b g (.slice (some ⟨g2, 0, none⟩) n cap) L bs (w2.setCell ⟨r, 0, none⟩ (.slice (some ⟨g2, 0, none⟩) n cap)) := by
  obtain ⟨s1, s2, s3, s4⟩ := h.size
  have z2 : w.heap.size ≤ (w.alloc o).heap.size := (blw (Below.refl _ w) o).size
  have hne : ∀ i, (i = r ∨ i = b ∨ g = some i) → ¬ some i = v.ownBlock := fun i hi e => by
    rcases hi with hi | hi | hi
    · exact h.vr (by rw [← e, hi])
    · exact h.vb (by rw [← e, hi])
    · exact h.vg i hi e.symm
  have hlt : ∀ i, (i = r ∨ i = b ∨ g = some i) → i < w.heap.size := fun i hi => by
    rcases hi with hi | hi | hi
    · omega
    · omega
    · exact (s3 i hi).2
  have hg2 : ∀ i, (i = r ∨ i = b ∨ g = some i) → g2 ≠ i := fun i hi e => by
    have h1 := hlt i hi
    have h2 := hne i hi
    rcases hloc2 with h3 | h3
    · exact h2 (by rw [h3, e])
    · omega
  have hsame : ∀ i, (i = r ∨ i = b ∨ g = some i) → w2.heap[i]? = w.heap[i]? := fun i hi =>
    (hgr2.block i (Nat.lt_of_lt_of_le (hlt i hi) z2) (hne i hi)).trans (Lib.alloc_old w o i (hlt i hi))
  refine ⟨?_, ?_, ?_, ?_, h.rb, h.hrb, fun e => hg2 r (.inl rfl) (Option.some.inj e), fun e => hg2 b (.inr (.inl rfl)) (Option.some.inj e), h.gr, fun i hi e => hg2 i (.inr (.inr hi)) (Option.some.inj e)⟩
  · exact ((Only.alloc (Only.refl _ w) o).trans (Only.of_grown hgr2 (fun i hi => .inr (.inr (.inr hi))))).setCell ⟨r, 0, none⟩ _ (.inl rfl)
  · refine h.bld.same ?_ (fun i hi => ?_)
    · rw [Below.heap_setCell _ _ _ _ (fun e => h.hrb e.symm)]; exact hsame b (.inr (.inl rfl))
    · rw [Below.heap_setCell _ _ _ _ (fun e => h.gr (by rw [hi, e]))]; exact hsame i (.inr (.inr hi))
  · have := (hsame r (.inl rfl)).trans h.var
    simp [World.setCell, Array.getElem?_modify, this]
  · refine ownsRow_same hown2 fun i hi => ?_
    injection hi with hi
    subst hi
    rw [Below.heap_setCell _ _ _ _ (hg2 r (.inl rfl))]

/-- What holds at each round's head of Normalize. -/
structure NRel (l : List It) (w : World) (k : Nat) (wr : World) (g : Option Nat) (v : Value) (res : List It) (bs : List UInt8) : Prop where
  le : k ≤ l.length
  below : Below w.heap.size w wr
  st : NSt w.heap.size w.heap.size (w.heap.size + 1) g v res bs wr
  eq : flush res bs = norm (l.take k)
  last : lastText res = false
theorem txt_flush (res : List It) (bs : List UInt8) : bs.length ≤ txtI (flush res bs) := by
  by_cases h : bs = []
  · subst h; simp
  · rw [flush_some _ _ h, txtI_snoc]
    have : (⟨bs.toArray⟩ : ByteArray).size = bs.length := by show bs.toArray.size = _; simp
    rw [this]; omega
theorem txt_norms (l : List It) : ∀ k, k ≤ l.length → txtI (norm (l.take k)) ≤ txtI (l.take k) := by
  intro k
  induction k with
  | zero => intro _; simp [norm, txtI]
  | succ j ih =>
    intro hj
    rw [norm_next l j (by omega), txtI_next l j (by omega)]
    have := txt_norm (norm (l.take j)) l[j]
    have := ih (by omega)
    omega
theorem flush_len (res : List It) (bs : List UInt8) : res.length ≤ (flush res bs).length := by unfold flush; split <;> simp
theorem Only.lift {base r b : Nat} {g : Option Nat} {v : Value} {res : List It} {bs : List UInt8} {w w' : World} (h : Only (nS r b g v) w w') (hs : NSt base r b g v res bs w) (hb : base ≤ w.heap.size) : Below base w w' := h.below base hb hs.base
theorem Var3.only {S : Nat → Prop} {W W' : World} {b : Nat} {k id : Int} {t : ByteArray} (h : Var3 W b k t id) (hO : Only S W W') (hb : ¬ S b) : Var3 W' b k t id := h.same (hO.block b h.lt hb) hO.size

set_option maxHeartbeats 3200000 in
theorem normalize_any (p : Option Addr) (cap : Nat) (l : List It) (w : World) (hR : Its w p l) (hc : l.length ≤ cap) (hm : cap ≤ maxLen) (hn : l.length ≤ 4000000000) (ht : txtI l ≤ 140737488355328) :
    Calls Tryz.prog 29 #[.slice p l.length cap] w (EndI (norm l) w) := by
  unfold maxLen at hm
  have hend := fun g v res bs W h hl => endrun_any w.heap.size w.heap.size (w.heap.size + 1) g v res bs W h hl
  have hws := fun g bs W s h hb hl => bld_ws w.heap.size W (w.heap.size + 1) g bs s h hb hl
  have HE := Lib.hid hend; have HW := Lib.hid hws
  clear hend hws
  go_enter Tryz.func29, Tryz.ntmps29
  go_wp2_with fail
  go_loopw [11] (fun i wr => ∃ (k : Nat) (g : Option Nat) (v : Value) (res : List It) (bs : List UInt8), i = .int .i64 k ∧ NRel l w k wr g v res bs) (fun i _ => l.length - (intOf i).toNat)
  case atStart =>
    refine ⟨0, none, .slice none 0 0, [], [], rfl, Nat.zero_le _, blw (blw (Below.refl _ _) _) _, ⟨?_, ?_, OwnL.nil _ _, Nat.le_refl _, by omega, by simp [Value.ownBlock], by simp [Value.ownBlock], by simp, by simp⟩, rfl, rfl⟩
    · exact Bld.new _ _ (by simp) _ (by simp)
    · exact (Lib.alloc_old _ _ _ (by simp)).trans (heap_alloc_new w _)
  case round =>
    obtain ⟨k, g, v, res, bs, rfl, hN⟩ := hrel
    have hS := hN.st
    have hle : res.length ≤ 4000000000 := by
      have h1 := flush_len res bs
      rw [hN.eq] at h1
      have h2 := norm_len (l.take k)
      simp at h2
      omega
    have hbl : bs.length + txtI (l.drop k) ≤ 140737488355328 := by
      have h1 := txt_flush res bs
      rw [hN.eq] at h1
      have h2 := txt_norms l k hN.le
      have h3 : txtI l = txtI (l.take k) + txtI (l.drop k) := by
        conv => lhs; rw [← List.take_append_drop k l]
        unfold txtI; rw [List.map_append, List.sum_append]
      omega
    by_cases hlt : k < l.length
    · obtain ⟨ad, rfl, had, c0, c1, c2⟩ := (hR.call hN.below).row k hlt
      have hnx := norm_next l k hlt
      have hdr : txtI (l.drop k) = l[k].t.size + txtI (l.drop (k + 1)) := by rw [List.drop_eq_getElem_cons hlt]; unfold txtI; rw [List.map_cons, List.sum_cons]
      generalize l[k] = x at *
      have hbx : bs.length + x.t.size ≤ 140737488355328 := by omega
      have HX := Lib.hid hnx; clear hnx hdr hbl
      have hS1 := hS.call (blw (Below.refl _ wr) (.cells #[.int .i64 x.k, .string x.t, .int .i64 x.id] 62))
      have hB1 := blw hN.below (.cells #[.int .i64 x.k, .string x.t, .int .i64 x.id] 62)
      by_cases h1 : x.k = 1
      · have q : (x.k == 1) = true := by simpa using h1
        have ht1 := norm_text res bs x hN.last h1
        rw [hN.eq] at ht1
        have HT := Lib.hid ht1; clear ht1 h1
        go_wp2_with fail
        refine (HW.out _ _ _ _ hS1.bld hB1.size hbx).mono ?_; rintro e w2 ⟨rfl, hwr⟩
        obtain ⟨hO, g', hS2⟩ := hS1.wrote hwr
        have hB2 := hB1.trans (hO.lift hS1 hB1.size)
        go_wp2_with fail
        go_roundw
        case rel => exact ⟨k + 1, g', v, res, bs ++ x.t.data.toList, by go_num, hlt, hB2, hS2, by rw [HX.out, HT.out], hN.last⟩
        case measure => simp [intOf]; omega
      · have q : (x.k == 1) = false := by simpa using h1
        have ht1 := norm_other (flush res bs) x h1
        rw [hN.eq] at ht1
        have HT := Lib.hid ht1
        have hlo := lastText_one (flush res bs) x h1
        have HLO := Lib.hid hlo
        clear ht1 h1 hlo
        go_wp2_with fail
        refine (HE.out _ _ _ _ _ hS1 hle).mono ?_; rintro e w2 ⟨rfl, hO, g', v', hS2⟩
        have hB2 := hB1.trans (hO.lift hS1 hB1.size)
        obtain ⟨s1, s2, s3, s4⟩ := hS.size
        have V := (Var3.new wr x.k x.t x.id).only hO (by
          rintro (e | e | e | e)
          · omega
          · omega
          · have := (s3 _ e).2; omega
          · have := (s4 _ e).2; omega)
        obtain ⟨v0, v1, v2, vl⟩ := id V
        have r2 := var_cell hS2.var
        have hfl : (flush res bs).length ≤ 4000000000 := by
          rw [hN.eq]; have h2 := norm_len (l.take k); simp at h2; omega
        have hfe := Lib.hid hN.eq
        generalize flush res bs = fl at *
        go_wp2_with (at_builtin; refine wpl_app eI _ rfl _ _ rfl w.heap.size fl _ rfl (World.ownsRow.alloc hS2.own _) (blw hB2 _).size x w2.heap.size _ rfl (heap_alloc_new w2 _) rfl (by omega) (by unfold maxLen; omega) ?_; intro g2 cap2 w3 hown3 hgr3 hloc3; have hr3 := var_after hS2.var hgr3 (fun e => hS2.vr e.symm); have r3 := var_cell hr3; have f3 := var_free hr3)
        obtain ⟨hO3, hS3⟩ := hS2.put hgr3 hloc3 hown3
        have hB3 := hB2.trans (hO3.lift hS2 hB2.size)
        go_wp2_with fail
        go_roundw
        case rel => exact ⟨k + 1, g', _, _, [], by go_num, hlt, hB3, hS3, by rw [flush_nil, HX.out, HT.out, hfe.out], HLO.out⟩
        case measure => simp [intOf]; omega
    · have hk : k = l.length := by have := hN.le; omega
      have he := hN.eq
      rw [hk, List.take_length] at he
      have HQ := Lib.hid he
      have hB := hN.below
      clear he hk hbl
      go_wp2_with fail
      refine (HE.out _ _ _ _ _ hS hle).mono ?_; rintro e w2 ⟨rfl, hO, g', v', hS2⟩
      have r2 := var_cell hS2.var
      have hB2 := hB.trans (hO.lift hS hB.size)
      go_wp2_with fail
      go_ret
      exact ⟨_, rfl, hB2, by rw [← HQ.out]; exact hS2.own⟩
end Go.Proofs.YtphkpokoeaagfaaGreatDoor
