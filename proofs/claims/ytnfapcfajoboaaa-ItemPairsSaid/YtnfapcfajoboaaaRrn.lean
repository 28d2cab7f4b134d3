/- The reference's Rename. -/
import Derived.Test.YtnfapcfajoboaaaRen
namespace Go.Proofs.Ytnfapcfajoboaaa
open Go.ChangeShapes Go.WideShapes Go.ChangeAt Go.RowKit
set_option linter.unusedVariables false
set_option maxRecDepth 100000

theorem nmr_one (P : List (Int × Int)) (a b id : Int) (h : nmF P id = none) : nmF (P ++ [(a, b)]) id = if a = id then some b else none := by rw [nm_snoc, h]
theorem nm_some (P Q : List (Int × Int)) (id n : Int) (h : nmF P id = some n) : nmF (P ++ Q) id = some n := by
  unfold nmF at *
  rw [List.find?_append]
  cases h2 : P.find? fun q => q.1 == id with
  | some v => rw [h2] at h; exact h
  | none => rw [h2] at h; cases h
theorem nm_take (P : List (Int × Int)) (j : Nat) (id n : Int) (h : nmF (P.take j) id = some n) : nmF P id = some n := by
  rw [← List.take_append_drop j P]; exact nm_some _ _ _ _ h

set_option maxHeartbeats 3200000 in
theorem rrename_any (p q r : Option Addr) (c d e : Nat) (l : List It) (fr to : List Int) (w : World) (hR : Its w p l) (hF : Ones w (Value.int .i64) q fr) (hT : Ones w (Value.int .i64) r to)
    (hc : l.length ≤ c) (hm : c ≤ maxLen) (hd : fr.length ≤ d) (hdm : d ≤ maxLen) (he : to.length ≤ e) (hem : e ≤ maxLen) (hn : l.length ≤ 4000000000) (ht : txtI l ≤ 140737488355328) (hfn : fr.length ≤ 4000000000) :
    Calls Try.prog 55 #[.slice p l.length c, .slice q fr.length d, .slice r to.length e] w (EndI (norm (renL (fr.zip to) l)) w) := by
  have mixed : Try.prog.follows .mixedOrders = true := by kernel_rfl
  unfold maxLen at hm hdm hem
  have hps : ∀ k (h : k < (fr.zip to).length), ∃ (h1 : k < fr.length) (h2 : k < to.length), (fr.zip to)[k] = (fr[k], to[k]) := fun k h => by
    have h' := h
    rw [List.length_zip] at h'
    exact ⟨by omega, by omega, List.getElem_zip ..⟩
  have hN1 : (fr.zip to).length ≤ fr.length := by rw [List.length_zip]; omega
  have hN2 : (fr.zip to).length < fr.length → (fr.zip to).length = to.length := by rw [List.length_zip]; omega
  generalize hzip : fr.zip to = ps at *
  have HZ := Lib.hid hzip
  clear hzip
  have HNM := Lib.hid (fun W p c hI h1 h2 => rnormalize_any p c (renL ps l) W hI h1 h2 (by have := ren_len ps l l.length (Nat.le_refl _); rw [List.take_length] at this; omega) (by have := ren_txt ps l; omega))
  go_enter Try.func55, Try.ntmps55
  go_wp2_with fail
  go_loopw [7, 13] (fun v i wr => ∃ k : Nat, k ≤ l.length ∧ i = .int .i64 k ∧ AccI w (renL ps (l.take k)) v wr) (fun _ i _ => l.length - (intOf i).toNat)
  case atStart => exact ⟨0, Nat.zero_le _, rfl, Acc.start _⟩
  case round =>
    obtain ⟨k, hk, rfl, hA⟩ := hrel
    by_cases hlt2 : k < l.length
    · obtain ⟨ad, rfl, had, c0, c1, c2⟩ := (hR.call hA.below).row k hlt2
      have hnx := ren_next ps l k hlt2
      have hlen := ren_len ps l k hk
      generalize l[k] = x at *
      have ht := fun W => ristag_any x.k x.t x.id W
      generalize renL ps (l.take k) = out at *
      have hA1 := hA.alloc (.cells #[.int .i64 x.k, .string x.t, .int .i64 x.id] 26)
      unfold ren1 at hnx
      cases q : isT x.k
      · rw [q, if_neg (by decide)] at hnx
        rw [q] at ht
        have HX := Lib.hid hnx; have HT := Lib.hid ht
        clear hnx ht q
        go_wp2_with fail
        refine (HT.out _).mono ?_; rintro e w2 ⟨rfl, hb2⟩
        have V := (Var3.new _ x.k x.t x.id).call hb2
        obtain ⟨v0, v1, v2, vl⟩ := id V
        have hA3 := hA1.call hb2
        go_wp2_with (at_builtin; refine wpl_append eI _ rfl _ _ rfl _ out _ rfl (hA3.alloc _) x w2.heap.size _ rfl (heap_alloc_new w2 _) rfl (by omega) (by unfold maxLen; omega) ?_; intro v' w4 hA4 hb4)
        go_wp2_with fail
        go_roundw
        case rel => exact ⟨k + 1, hlt2, by go_num, by rw [HX.out]; exact hA4⟩
        case measure => simp [intOf]; omega
      · rw [q, if_pos rfl] at hnx
        rw [q] at ht
        have HX := Lib.hid hnx; have HT := Lib.hid ht
        clear hnx ht q
        go_wp2_with fail
        refine (HT.out _).mono ?_; rintro e w2 ⟨rfl, hb2⟩
        have V := (Var3.new _ x.k x.t x.id).call hb2
        have hA3 := hA1.call hb2
        go_wp2_with fail
        generalize wr.heap.size = vb at *
        go_loopw [7, 10] (fun v i wr' => ∃ j : Nat, j ≤ ps.length ∧ i = .int .i64 j ∧ v = u7 ∧ nmF (ps.take j) x.id = none ∧ AccI w out u7 wr' ∧ Var3 wr' vb x.k x.t x.id) (fun _ i _ => ps.length - (intOf i).toNat)
        case atStart => exact ⟨0, Nat.zero_le _, rfl, by first | rfl | trivial, rfl, hA3, V⟩
        case round =>
          obtain ⟨j, hj, rfl, hvv, hno, hA5, V5⟩ := hrel
          subst hvv
          by_cases hlj : j < ps.length
          · obtain ⟨h1, h2, hp⟩ := hps j hlj
            obtain ⟨fd, rfl, hfd, f0⟩ := (hF.call hA5.below).row j h1
            obtain ⟨td, rfl, htd, t0⟩ := (hT.call hA5.below).row j h2
            have htk : ps.take (j + 1) = ps.take j ++ [(fr[j], to[j])] := by rw [List.take_succ_eq_append_getElem hlj, hp]
            have q1 : decide (j < fr.length) = true := decide_eq_true h1
            have q2 : decide (j < to.length) = true := decide_eq_true h2
            obtain ⟨v0, v1, v2, vl⟩ := id V5
            generalize fr[j] = a at *
            generalize to[j] = b at *
            have hst := nmr_one (ps.take j) a b x.id hno
            rw [← htk] at hst
            by_cases qa : a = x.id
            · rw [if_pos qa] at hst
              have hb := nm_take ps (j + 1) _ _ hst
              have hx := HX.out
              rw [hb] at hx
              have HX2 := Lib.hid hx
              have q3 : (a == x.id) = true := by simpa using qa
              clear hx hb hst htk hp qa HX
              go_wp2_with fail
              go_region_o
              all_goals go_wp2_with fail
              have hA6 : AccI w out u7 wr.drew.drew := hA5.drew.drew
              have hsz : w.heap.size ≤ (wr.drew.drew.alloc (.cells #[.int .i64 x.k, .string x.t, .int .i64 b] 26)).heap.size := Nat.le_trans hA6.below.size (blw (Below.refl _ wr.drew.drew) _).size
              go_region_law (refine step_app eI _ (by rfl) _ _ (by rfl) w.heap.size out u7 (by rfl) (World.ownsRow.alloc hA6.own (.cells #[.int .i64 x.k, .string x.t, .int .i64 b] 26)) hsz ⟨x.k, x.t, b⟩ wr.heap.size #[.int .i64 x.k, .string x.t, .int .i64 b] (by rfl) (heap_alloc_new wr.drew.drew (.cells #[.int .i64 x.k, .string x.t, .int .i64 b] 26)) (by rfl) (by omega) (by unfold maxLen; omega) ?_; intro g2 cap w5 hown5 hgr5 hloc5)
              all_goals have hA7 : AccI w (out ++ [⟨x.k, x.t, b⟩]) _ w5 := (hA6.alloc _).more hgr5 hown5
              all_goals go_wp2_with fail
              all_goals go_roundw
              all_goals first | exact ⟨k + 1, hlt2, by go_num, by rw [HX2.out]; exact hA7⟩ | (simp [intOf]; omega)
            · rw [if_neg qa] at hst
              have HS := Lib.hid hst
              have q3 : (a == x.id) = false := by simpa using qa
              clear hst htk hp qa
              go_wp2_with fail
              go_quiet (fail)
              go_wp2_with fail
              go_roundw
              case rel => exact ⟨j + 1, hlj, by go_num, by first | rfl | trivial, HS.out, ⟨bdrN hA5.below _, hA5.own⟩, V5.c0, V5.c1, V5.c2, V5.lt⟩
              case measure => simp [intOf]; omega
          · obtain rfl : j = ps.length := by omega
            rw [List.take_length] at hno
            have hx := HX.out
            rw [hno] at hx
            have hx2 : renL ps (l.take (k + 1)) = out := by rw [hx]; simp
            have HX2 := Lib.hid hx2
            clear hx hx2 HX
            by_cases hl1 : ps.length < fr.length
            · have q1 : decide (ps.length < fr.length) = true := decide_eq_true hl1
              have q2 : decide (ps.length < to.length) = false := decide_eq_false (by have := hN2 hl1; omega)
              go_wp2_with fail
              go_roundw
              case rel => exact ⟨k + 1, hlt2, by go_num, by rw [HX2.out]; exact hA5⟩
              case measure => simp [intOf]; omega
            · have q1 : decide (ps.length < fr.length) = false := decide_eq_false hl1
              go_wp2_with fail
              go_roundw
              case rel => exact ⟨k + 1, hlt2, by go_num, by rw [HX2.out]; exact hA5⟩
              case measure => simp [intOf]; omega
    · obtain rfl : k = l.length := by omega
      rw [List.take_length] at hA
      obtain ⟨p2, c2, rfl, g1, g2, hI⟩ := hA.own.its
      go_wp2_with fail
      refine (HNM.out _ _ _ hI g1 g2).mono ?_
      rintro e w6 ⟨v3, rfl, hA3⟩
      have hA4 : AccI w (norm (renL ps l)) v3 w6 := ⟨BelowOn hA.below hA3.below, ownsRow_base hA3.own hA.below.size⟩
      go_wp2_with fail
      go_ret
      exact ⟨_, rfl, hA4⟩
end Go.Proofs.Ytnfapcfajoboaaa
