/- The walk of RatioSums: the list of valid ratios that the law makes, and the four sums. -/
import Derived.Test.YtfhppadcaoggeaaRsum
import Derived.Deep.AppendLies
import Derived.OwnWalk
namespace Go.Proofs.Ytfhppadcaoggeaa
open Go.ChangeShapes Go.WideShapes Go.ChangeAt Go.RowKit
set_option linter.unusedVariables false

theorem info24 : (Try.prog.info? 24).map (fun i => (i.zero, i.size, i.bytes)) = some (some (.agg #[.int .i64 0, .int .i64 0]), 2, 16) := by kernel_rfl
/-- A list of ratios as memory holds it. -/
def rcells (l : List (Int × Int)) : List Value := l.flatMap fun p => [.int .i64 p.1, .int .i64 p.2]
theorem rcells_snoc (l : List (Int × Int)) (a b : Int) : rcells (l ++ [(a, b)]) = rcells l ++ [.int .i64 a, .int .i64 b] := by
  unfold rcells; rw [List.flatMap_append]; rfl
theorem rcells_at (l : List (Int × Int)) : ∀ i (h : i < l.length), (rcells l)[i * 2]? = some (.int .i64 l[i].1) ∧ (rcells l)[i * 2 + 1]? = some (.int .i64 l[i].2) := by
  induction l with
  | nil => intro i h; cases h
  | cons x t ih =>
    intro i h
    have e : rcells (x :: t) = .int .i64 x.1 :: .int .i64 x.2 :: rcells t := rfl
    rw [e]
    cases i with
    | zero => exact ⟨rfl, rfl⟩
    | succ j =>
      have := ih j (by simp at h; omega)
      rw [show (j + 1) * 2 = j * 2 + 1 + 1 from by omega]
      exact this
theorem ownsRow_below {w w' : World} {base : Nat} {e : TypeId} {size : Nat} {v : Value} {n : Nat} {xs : List Value} (h : w.ownsRow base e size v n xs) (hb : Below w.heap.size w w') : w'.ownsRow base e size v n xs := by
  obtain ⟨h1, h2⟩ := h
  refine ⟨h1, ?_⟩
  rcases h2 with h2 | ⟨g, cap, cur, hv, hg, hh, r⟩
  · exact .inl h2
  · refine .inr ⟨g, cap, cur, hv, hg, ?_, r⟩
    have hlt : g < w.heap.size := by
      rcases Nat.lt_or_ge g w.heap.size with hlt | hge
      · exact hlt
      · rw [Array.getElem?_eq_none hge] at hh; cases hh
    rw [hb.block g hlt]; exact hh
/-- The list that the law makes, behind k rounds. -/
structure OwnRats (w : World) (L : List (Int × Int)) (v : Value) (wr : World) : Prop where
  below : Below w.heap.size w wr
  own : wr.ownsRow w.heap.size 24 2 v L.length (rcells L)
theorem OwnRats.more {w wr w1 w2 : World} {L : List (Int × Int)} {v v' : Value} {a b : Int} (h : OwnRats w L v wr) (hb : Below wr.heap.size wr w1) (o : Obj) (g : (w1.alloc o).grownBy w2 v.ownBlock)
    (own' : w2.ownsRow w.heap.size 24 2 v' (L.length + 1) (rcells L ++ [.int .i64 a, .int .i64 b])) : OwnRats w (L ++ [(a, b)]) v' w2 :=
  ⟨(blw (BelowOn h.below hb) o).grown g (blw (BelowOn h.below hb) o).size (fun k hk => (h.own.lt k hk).1), by rw [rcells_snoc, List.length_append]; exact own'⟩
theorem OwnRats.kept {w wr w1 : World} {L : List (Int × Int)} {v : Value} (h : OwnRats w L v wr) (hb : Below wr.heap.size wr w1) : OwnRats w L v w1 := ⟨BelowOn h.below hb, ownsRow_below h.own hb⟩
/-- It is no slice at all, or a slice whose cells are known. -/
theorem OwnRats.form {w wr : World} {L : List (Int × Int)} {v : Value} (h : OwnRats w L v wr) :
    (v = .slice none 0 0 ∧ L = []) ∨ ∃ a cap, v = .slice (some a) L.length cap ∧ L.length ≤ cap ∧ cap ≤ maxLen ∧ Rats wr a L := by
  rcases h.own.2 with ⟨hv, h0⟩ | ⟨g, cap, cur, hv, hg, hh, hn, hm, hs, ht⟩
  · exact .inl ⟨hv, List.length_eq_zero_iff.1 h0⟩
  · refine .inr ⟨⟨g, 0, none⟩, cap, hv, hn, hm, ?_, fun i hi => ?_⟩
    · intro _
      rcases Nat.lt_or_ge g wr.heap.size with hlt | hge
      · exact hlt
      · rw [Array.getElem?_eq_none hge] at hh; cases hh
    · have hc := h.own.cells (g := g) (by rw [hv]; rfl)
      obtain ⟨c0, c1⟩ := rcells_at L i hi
      exact ⟨hc _ _ c0, hc _ _ c1⟩
theorem sumv {w wr : World} {L : List (Int × Int)} {v : Value} (h : OwnRats w L v wr) : Calls Try.prog 28 #[v] wr (OptEnd (sumS L) wr) := by
  rcases h.form with ⟨rfl, rfl⟩ | ⟨a, cap, rfl, h1, h2, hR⟩
  · exact sum_nil wr
  · exact sum_some a cap L wr hR h1 h2
theorem rsumv {w wr : World} {L : List (Int × Int)} {v : Value} (h : OwnRats w L v wr) : Calls Try.prog 29 #[v] wr (OptEnd (sumS L) wr) := by
  rcases h.form with ⟨rfl, rfl⟩ | ⟨a, cap, rfl, h1, h2, hR⟩
  · exact rsum_nil wr
  · exact rsum_some a cap L wr hR h1 h2

set_option maxHeartbeats 3200000 in
set_option maxRecDepth 100000 in
theorem sums_some (a : Addr) (cap : Nat) (l : List (Int × Int)) (w : World) (hR : Rats w a l) (hc : l.length ≤ cap) (hm : cap ≤ maxLen)
    (hw : ∀ i (h : i < l.length), (Lit.int .i64 l[i].1).wf = true ∧ (Lit.int .i64 l[i].2).wf = true) :
    Calls Try.prog 9 #[.slice (some a) l.length cap] w fun e w' => e = .returned (.bool true) ∧ Below w.heap.size w w' := by
  unfold maxLen at hm
  obtain ⟨i0, hi, hz0, hz1, hz2⟩ := info_parts info24
  by_cases h40 : 40 < l.length
  · go_enter Try.func9, Try.ntmps9
    go_wp2_with fail
    refine (known_any _).mono ?_; rintro e w1 ⟨rfl, hb⟩
    go_wp2_with fail
    go_ret
    exact ⟨rfl, hb⟩
  go_enter Try.func9, Try.ntmps9
  go_wp2_with fail
  go_loopw [3, 19] (fun v i wr => ∃ k : Nat, ∃ L : List (Int × Int), k ≤ l.length ∧ L.length = k ∧ i = .int .i64 k ∧ OwnRats w L v wr) (fun _ i _ => l.length - (intOf i).toNat)
  case atStart => exact ⟨0, [], Nat.zero_le _, rfl, rfl, Below.refl _ _, World.ownsRow_nil _ _ _ _⟩
  case round =>
    obtain ⟨k, L, hk, hL, rfl, hO⟩ := hrel
    by_cases hlt : k < l.length
    · obtain ⟨e0, e1⟩ := (hR.call hO.below).cells k hlt
      obtain ⟨wf0, wf1⟩ := hw k hlt
      have hcell := fun W (hW : Below w.heap.size w W) => (hR.call hW).cells k hlt
      generalize l[k] = x at *
      obtain ⟨q, q1, q2, q3, HX⟩ := some_hid x.1 x.2 12 (by omega) (by omega) wf0 wf1
      have HL := Lib.hid hL; clear hL
      have HC := Lib.hid hcell; clear hcell
      have hLk : L.length ≤ 40 := by have := HL.out; omega
      have k0 : (0 : Int) ≤ (k : Int) := by omega
      have k1 : (k : Int) < (l.length : Int) := by omega
      clear wf0 wf1 q1 q2 q3
      go_wp2_with fail
      go_region_held3 (fun w' => w'.cell? (a.add (k * 2)) = some (.int .i64 x.1) ∧ w'.cell? ⟨(a.add (k * 2)).block, (a.add (k * 2)).off + 1, none⟩ = some (.int .i64 x.2))
        (first | exact HC.out _ hO.below.drew | exact HC.out _ (BelowOn hO.below.drew hb) | exact HC.out _ (blw (BelowOn hO.below.drew hb) _) | exact HC.out _ (Below.grown (blw (BelowOn hO.below.drew hb) _) hgrow (blw (BelowOn hO.below.drew hb) _).size (fun k hk => (hO.own.lt k hk).1)))
        ((first | (refine step_append_lies _ (by rfl) _ _ _ (by rfl) w.heap.size 24 i0 _ 2 16 Try.underlying41 hi hz0 hz1 hz2 rfl (by omega) _ L.length (rcells L) (by rfl) ((ownsRow_below hO.own.drew hb).alloc _) ⟨w1.heap.size, 0, none⟩ 1 1 [.int .i64 q.num, .int .i64 (q.den : Int)] (by rfl) (by rfl) (World.news_of_block (cs := #[.int .i64 q.num, .int .i64 (q.den : Int)]) (t := 24) (fr := (0, 0)) (heap_alloc_new w1 _)) (by simp [Value.oneCell']) (by omega) (by unfold maxLen; omega) (by omega) (blw (BelowOn hO.below.drew hb) _).size (w1.heap.size + 1) (by simp) ?_; intro gg cap' w2 hown1 hgrow hat hlt2) | (go_at_call 27; refine (HX.out _).mono ?_; rintro e w1 ⟨rfl, hb⟩)))
      have hM := Lib.hid (OwnRats.more ⟨hO.below.drew, hO.own.drew⟩ hb _ hgrow hown1)
      clear hown1 hgrow hat hlt2
      go_wp2_with fail
      go_roundw
      case rel => exact ⟨k + 1, _, hlt, by rw [List.length_append, HL.out]; rfl, by go_num, hM.out⟩
      case measure => simp [intOf]; omega
    · have hk : k = l.length := by omega
      have h1 := fun W (hW : Below w.heap.size w W) => sum_some a cap l W (hR.call hW) hc (by unfold maxLen; omega)
      have h2 := fun W (hW : Below w.heap.size w W) => rsum_some a cap l W (hR.call hW) hc (by unfold maxLen; omega)
      have h3 := fun W (hW : Below wr.heap.size wr W) => sumv (hO.kept hW)
      have h4 := fun W (hW : Below wr.heap.size wr W) => rsumv (hO.kept hW)
      unfold OptEnd at h1 h2 h3 h4
      generalize sumS l = o1 at h1 h2
      generalize sumS L = o2 at h3 h4
      generalize oN o1 = n1 at h1 h2
      generalize oD o1 = d1 at h1 h2
      generalize oB o1 = t1 at h1 h2
      generalize oN o2 = n2 at h3 h4
      generalize oD o2 = d2 at h3 h4
      generalize oB o2 = t2 at h3 h4
      have H1 := Lib.hid h1; have H2 := Lib.hid h2; have H3 := Lib.hid h3; have H4 := Lib.hid h4; have HK := Lib.hid hk; have HL := Lib.hid hL
      clear h1 h2 h3 h4 hk hL hw
      have hW0 : Below wr.heap.size wr wr := Below.refl _ _
      have hB := hO.below
      go_wp2_with fail
      refine (H1.out _ hB).mono ?_; rintro e w1 ⟨rfl, hb⟩
      replace hW0 := BelowOn hW0 hb
      replace hB := BelowOn hB hb
      clear hb
      go_wp2_with fail
      refine (H2.out _ (blw hB _)).mono ?_; rintro e w2 ⟨rfl, hb⟩
      have T0 := (twoNew _ (w1.heap.size) (.int .i64 n1) (.int .i64 d1) (by simp)).call hb
      replace hW0 := BelowOn (blw hW0 _) hb
      replace hB := BelowOn (blw hB _) hb
      clear hb
      obtain ⟨c00, c01, l0⟩ := id T0
      go_wp2_with fail
      refine (H3.out _ (blw hW0 _)).mono ?_; rintro e w3 ⟨rfl, hb⟩
      clear c00 c01 l0
      replace T0 := (T0.alloc _).call hb
      have T1 := (twoNew _ (w2.heap.size) (.int .i64 n1) (.int .i64 d1) (by simp)).call hb
      replace hW0 := BelowOn (blw hW0 _) hb
      replace hB := BelowOn (blw hB _) hb
      clear hb
      obtain ⟨c00, c01, l0⟩ := id T0
      obtain ⟨c10, c11, l1⟩ := id T1
      go_wp2_with fail
      refine (H4.out _ (blw hW0 _)).mono ?_; rintro e w4 ⟨rfl, hb⟩
      clear c00 c01 l0 c10 c11 l1
      replace T0 := (T0.alloc _).call hb
      replace T1 := (T1.alloc _).call hb
      have T2 := (twoNew _ (w3.heap.size) (.int .i64 n2) (.int .i64 d2) (by simp)).call hb
      replace hB := BelowOn (blw hB _) hb
      clear hb
      obtain ⟨c00, c01, l0⟩ := id T0
      obtain ⟨c10, c11, l1⟩ := id T1
      obtain ⟨c20, c21, l2⟩ := id T2
      go_wp2_with fail
      refine (known_any _).mono ?_; rintro e w5 ⟨rfl, hb⟩
      replace hB := BelowOn (blw hB _) hb
      go_wp2_with fail
      go_ret
      exact ⟨rfl, hB⟩

set_option maxHeartbeats 1600000 in
set_option maxRecDepth 100000 in
theorem sums_nil (w : World) : Calls Try.prog 9 #[.slice none 0 0] w fun e w' => e = .returned (.bool true) ∧ Below w.heap.size w w' := by
  go_enter Try.func9, Try.ntmps9
  go_wp2_with fail
  go_loopw [3, 19] (fun v i wr => v = .slice none 0 0 ∧ i = .int .i64 0 ∧ wr = w) (fun _ _ _ => 0)
  case atStart => exact ⟨rfl, rfl, rfl⟩
  case round =>
    obtain ⟨rfl, rfl, rfl⟩ := hrel
    have h1 := fun W => sum_nil W
    have h2 := fun W => rsum_nil W
    unfold OptEnd at h1 h2
    generalize sumS [] = o1 at h1 h2
    generalize oN o1 = n1 at h1 h2
    generalize oD o1 = d1 at h1 h2
    generalize oB o1 = t1 at h1 h2
    have H1 := Lib.hid h1; have H2 := Lib.hid h2
    clear h1 h2
    go_wp2_with fail
    refine (H1.out _).mono ?_; rintro e w1 ⟨rfl, hB⟩
    go_wp2_with fail
    refine (H2.out _).mono ?_; rintro e w2 ⟨rfl, hb⟩
    have T0 := (twoNew _ (w1.heap.size) (.int .i64 n1) (.int .i64 d1) (by simp)).call hb
    replace hB := BelowOn (blw hB _) hb
    clear hb
    obtain ⟨c00, c01, l0⟩ := id T0
    go_wp2_with fail
    refine (H1.out _).mono ?_; rintro e w3 ⟨rfl, hb⟩
    clear c00 c01 l0
    replace T0 := (T0.alloc _).call hb
    have T1 := (twoNew _ (w2.heap.size) (.int .i64 n1) (.int .i64 d1) (by simp)).call hb
    replace hB := BelowOn (blw hB _) hb
    clear hb
    obtain ⟨c00, c01, l0⟩ := id T0
    obtain ⟨c10, c11, l1⟩ := id T1
    go_wp2_with fail
    refine (H2.out _).mono ?_; rintro e w4 ⟨rfl, hb⟩
    clear c00 c01 l0 c10 c11 l1
    replace T0 := (T0.alloc _).call hb
    replace T1 := (T1.alloc _).call hb
    have T2 := (twoNew _ (w3.heap.size) (.int .i64 n1) (.int .i64 d1) (by simp)).call hb
    replace hB := BelowOn (blw hB _) hb
    clear hb
    obtain ⟨c00, c01, l0⟩ := id T0
    obtain ⟨c10, c11, l1⟩ := id T1
    obtain ⟨c20, c21, l2⟩ := id T2
    go_wp2_with fail
    refine (known_any _).mono ?_; rintro e w5 ⟨rfl, hb⟩
    replace hB := BelowOn (blw hB _) hb
    go_wp2_with fail
    go_ret
    exact ⟨rfl, hB⟩
end Go.Proofs.Ytfhppadcaoggeaa
