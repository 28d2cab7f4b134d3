/- Contracts of Concat and Plain, and of the reference's. -/
import Derived.Test.YtnfapcfajoboaaaCat
namespace Go.Proofs.Ytnfapcfajoboaaa
open Go.ChangeShapes Go.WideShapes Go.ChangeAt Go.RowKit
set_option linter.unusedVariables false
set_option maxRecDepth 100000

theorem txtI_append (l m : List It) : txtI (l ++ m) = txtI l + txtI m := by unfold txtI; rw [List.map_append, List.sum_append]
set_option maxHeartbeats 400000 in
theorem concat_any (p q : Option Addr) (c d : Nat) (l m : List It) (w : World) (hR : Its w p l) (hS : Its w q m) (hn : l.length + m.length ≤ 4000000000) (ht : txtI l + txtI m ≤ 140737488355328) :
    Calls Try.prog 43 #[.slice p l.length c, .slice q m.length d] w (EndI (norm (l ++ m)) w) := by
  have hcat := fun W B => cat_any B p q c d l m W
  have hnm := fun W r e hI h1 h2 => normalize_any r e (l ++ m) W hI h1 h2 (by rw [List.length_append]; omega) (by rw [txtI_append]; omega)
  simp only [List.length_append] at hnm
  have HC := Lib.hid hcat; have HN := Lib.hid hnm; clear hcat hnm
  go_enter Try.func43, Try.ntmps43
  go_wp2_with fail
  have hb := blw (Below.refl w.heap.size w) (.cells #[.slice p l.length c, .slice q m.length d] 30)
  have hnew : (w.alloc (.cells #[.slice p l.length c, .slice q m.length d] 30)).heap[w.heap.size]? = some (.cells #[.slice p l.length c, .slice q m.length d] 30 (0, 0)) := heap_alloc_new w _
  refine (HC.out _ w.heap.size (by simp) (by rw [Lib.cell_of_heap hnew]; rfl) (by rw [Lib.cell_of_heap hnew]; rfl) (hR.call hb) (hS.call hb) hn).mono ?_
  rintro e w1 ⟨v, rfl, hA⟩
  obtain ⟨p1, c1, rfl, h1, h2, hI⟩ := hA.own.its
  rw [List.length_append] at h1
  have hB := BelowOn hb hA.below
  go_wp2_with fail
  refine (HN.out _ _ _ hI h1 h2).mono ?_
  rintro e w2 ⟨v2, rfl, hA2⟩
  have hA3 : AccI w (norm (l ++ m)) v2 w2 := ⟨BelowOn hB hA2.below, ownsRow_base hA2.own hB.size⟩
  go_wp2_with fail
  go_ret
  exact ⟨_, rfl, hA3⟩
set_option maxHeartbeats 400000 in
theorem rconcat_any (p q : Option Addr) (c d : Nat) (l m : List It) (w : World) (hR : Its w p l) (hS : Its w q m) (hn : l.length + m.length ≤ 4000000000) (ht : txtI l + txtI m ≤ 140737488355328) :
    Calls Try.prog 44 #[.slice p l.length c, .slice q m.length d] w (EndI (norm (l ++ m)) w) := by
  have hnm := fun W r e hI h1 h2 => rnormalize_any r e (l ++ m) W hI h1 h2 (by rw [List.length_append]; omega) (by rw [txtI_append]; omega)
  simp only [List.length_append] at hnm
  have HN := Lib.hid hnm; clear hnm
  have tok : True := trivial
  go_enter Try.func44, Try.ntmps44
  go_wp2_with (first
    | (at_builtin; have _t := tok; refine wpl_cat rfl _ _ rfl w [] l _ rfl (Acc.start w) p _ c rfl rfl hR (by simp; omega) ?_; intro v1 w1 hA1; clear tok)
    | (at_builtin; refine wpl_cat rfl _ _ rfl w l m _ rfl hA1 q _ d rfl rfl (hS.call hA1.below) (by omega) ?_; intro v2 w2 hA2; obtain ⟨p1, c1, hv2, h1, h2, hI⟩ := hA2.own.its; subst hv2; rw [List.length_append] at h1))
  refine (HN.out _ _ _ hI h1 h2).mono ?_
  rintro e w3 ⟨v3, rfl, hA3⟩
  have hA4 : AccI w (norm (l ++ m)) v3 w3 := ⟨BelowOn hA2.below hA3.below, ownsRow_base hA3.own hA2.below.size⟩
  go_wp2_with fail
  go_ret
  exact ⟨_, rfl, hA4⟩

/-- The bytes of a fragment. -/
def plainB (x : It) : List UInt8 := if x.k = 1 then x.t.data.toList else if x.k = 5 then [255] else []
def plainL (l : List It) : List UInt8 := l.flatMap plainB
theorem plain_next (l : List It) (k : Nat) (h : k < l.length) : plainL (l.take (k + 1)) = plainL (l.take k) ++ plainB (l[k]'h) := by
  rw [List.take_succ_eq_append_getElem h]; unfold plainL; rw [List.flatMap_append]; simp
theorem plain_len (l : List It) : ∀ k, k ≤ l.length → (plainL (l.take k)).length ≤ txtI (l.take k) + k := by
  intro k
  induction k with
  | zero => intro _; simp [plainL]
  | succ j ih =>
    intro hj
    rw [plain_next l j (by omega), List.length_append, txtI_next l j (by omega)]
    have := ih (by omega)
    have h2 : (plainB l[j]).length ≤ l[j].t.size + 1 := by
      unfold plainB
      split
      · simp
      · split <;> simp
    omega
theorem byte255 : ((255 : UInt8).toNat : Int) = 255 := rfl

set_option maxHeartbeats 1600000 in
theorem plain_any (p : Option Addr) (cap : Nat) (l : List It) (w : World) (hR : Its w p l) (hc : l.length ≤ cap) (hm : cap ≤ maxLen) (ht : txtI l + l.length ≤ 140737488355328) :
    Calls Try.prog 30 #[.slice p l.length cap] w fun e w' => e = .returned (.string ⟨(plainL l).toArray⟩) ∧ Below w.heap.size w w' := by
  unfold maxLen at hm
  have hws := fun g bs W s h hb hl => bld_ws w.heap.size W w.heap.size g bs s h hb hl
  have hwb := fun g bs W h hb hl => bld_wb w.heap.size W w.heap.size g bs 255 h hb hl
  rw [byte255] at hwb
  have hst := fun bs W h hbw => Try.Builder_String_any w.heap.size w.heap.size bs W h hbw
  have HW := Lib.hid hws; have HB := Lib.hid hwb; have HS := Lib.hid hst
  clear hws hwb hst
  go_enter Try.func30, Try.ntmps30
  go_wp2_with fail
  go_loopw [8] (fun i wr => ∃ (k : Nat) (g : Option Nat), k ≤ l.length ∧ i = .int .i64 k ∧ Below w.heap.size w wr ∧ Bld w.heap.size wr w.heap.size g (plainL (l.take k))) (fun i _ => l.length - (intOf i).toNat)
  case atStart => exact ⟨0, none, Nat.zero_le _, rfl, blw (Below.refl _ _) _, Bld.new _ _ (Nat.le_refl _) _ rfl⟩
  case round =>
    obtain ⟨k, g, hk, rfl, hB, hBl⟩ := hrel
    by_cases hlt : k < l.length
    · obtain ⟨ad, rfl, had, c0, c1, c2⟩ := (hR.call hB).row k hlt
      have hnx := plain_next l k hlt
      have hlen := plain_len l k hk
      have htk := txtI_take l (k + 1)
      rw [txtI_next l k hlt] at htk
      generalize l[k] = x at *
      have hlx : (plainL (l.take k)).length + x.t.size ≤ 140737488355328 := by omega
      have hl1 : (plainL (l.take k)).length + 1 ≤ 140737488355328 := by omega
      generalize plainL (l.take k) = bs at *
      have HX := Lib.hid hnx; clear hnx hlen htk
      have hBl1 := hBl.alloc (.cells #[.int .i64 x.k, .string x.t, .int .i64 x.id] 26)
      have hB1 := blw hB (.cells #[.int .i64 x.k, .string x.t, .int .i64 x.id] 26)
      have hlow : ∀ w2, Only (fun i => i = w.heap.size ∨ g = some i) (wr.alloc (.cells #[.int .i64 x.k, .string x.t, .int .i64 x.id] 26)) w2 → Below w.heap.size w w2 := fun w2 hO =>
        hB1.trans (hO.below _ hB1.size (fun i hi => hi.elim (fun e => by omega) (fun e => (hBl.lt.2 i e).1)))
      have HLOW := Lib.hid hlow; clear hlow
      by_cases h1 : x.k = 1
      · have q : (x.k == 1) = true := by simpa using h1
        have hp : plainB x = x.t.data.toList := if_pos h1
        have HP := Lib.hid hp; clear hp h1
        go_wp2_with fail
        refine (HW.out _ _ _ _ hBl1 hB1.size hlx).mono ?_; rintro e w2 ⟨rfl, g', hB2, hO, _⟩
        have hB3 := HLOW.out _ hO
        go_wp2_with fail
        go_roundw
        case rel => exact ⟨k + 1, g', hlt, by go_num, hB3, by rw [HX.out, HP.out]; exact hB2⟩
        case measure => simp [intOf]; omega
      · have q : (x.k == 1) = false := by simpa using h1
        by_cases h5 : x.k = 5
        · have q5 : (x.k == 5) = true := by simpa using h5
          have hp : plainB x = [255] := by unfold plainB; rw [if_neg h1, if_pos h5]
          have HP := Lib.hid hp; clear hp h1 h5
          go_wp2_with fail
          refine (HB.out _ _ _ hBl1 hB1.size hl1).mono ?_; rintro e w2 ⟨rfl, g', hB2, hO, _⟩
          have hB3 := HLOW.out _ hO
          go_wp2_with fail
          go_roundw
          case rel => exact ⟨k + 1, g', hlt, by go_num, hB3, by rw [HX.out, HP.out]; exact hB2⟩
          case measure => simp [intOf]; omega
        · have q5 : (x.k == 5) = false := by simpa using h5
          have hp : plainB x = [] := by unfold plainB; rw [if_neg h1, if_neg h5]
          have HP := Lib.hid hp; clear hp h1 h5
          go_wp2_with fail
          go_roundw
          case rel => exact ⟨k + 1, g, hlt, by go_num, hB1, by rw [HX.out, HP.out, List.append_nil]; exact hBl1⟩
          case measure => simp [intOf]; omega
    · obtain rfl : k = l.length := by omega
      rw [List.take_length] at hBl
      have hIB := hBl.isB
      generalize hbs : plainL l = bs at *
      have HBS := Lib.hid hbs; clear hbs
      go_wp2_with fail
      refine (HS.out _ _ hIB hB.size).mono ?_; rintro e w2 ⟨rfl, hb2⟩
      go_wp2_with fail
      go_ret
      exact ⟨by rw [HBS.out]; rfl, hB.trans hb2⟩
end Go.Proofs.Ytnfapcfajoboaaa
