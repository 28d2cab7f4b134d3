/- Shingle: slices of strings as arguments; the walk of ShingleWords. The law ShingleWords holds for every input. -/
import Derived.Test.YtncdjfgoigaflaaSgE
import Derived.Test.YtncdjfgoigaflaaRows
import Derived.WalkKit
import Derived.ProofKit
import Derived.OpenShut
import Derived.ChangeOld
import Derived.Below
import Derived.Carry
import Derived.SizedLaws
import Derived.Test.YtncdjfgoigaflaaTka
namespace Go.Proofs.Ytncdjfgoigaflaa
open Go.ChangeShapes Go.WideShapes Go.ChangeAt Go.RowKit
open Go.ChangeMaps (open_string shut_string)
set_option linter.unusedVariables false
set_option linter.unusedSimpArgs false
set_option maxRecDepth 100000

section
variable {H : Type} {enc : TypeId × Value → H} {W : World} {base : Nat} {held : Bool}
theorem opened_strs {v : Value} {d : DataW H} {p : List MemPlace} {b0 : Nat} (hv : Value.okWide Try.prog W .any b0 23 v) (h : DataW.Trod enc Try.prog W base (fun _ => true) held 23 v d p) (hz : ∀ n ∈ DataW.weights Try.prog 23 d, n ≤ reachBytes) :
    ∃ (p : Option Addr) (cap : Nat) (l : List ByteArray), v = .slice p l.length cap ∧ l.length ≤ cap ∧ cap ≤ maxLen ∧ Ones W Value.string p l ∧ ∀ i (h : i < l.length), (l[i]'h).size ≤ 140737488355328 := by
  obtain ⟨a0, len, cap, rfl⟩ := okWide_slice Try.underlying23 hv
  obtain ⟨fuel, hf⟩ := h
  rcases Go.Deep.open_slice Try.underlying23 hf with ⟨hcs, _⟩ | ⟨a, len', cap', m, n, D, Pl, hcs, _, hl, hm, hmm, hd, hx⟩
  · simp [Value.cells] at hcs
    obtain ⟨rfl, rfl, rfl⟩ := hcs
    exact ⟨none, 0, [], rfl, Nat.le_refl _, Nat.zero_le _, Ones.nil _ _ _, fun i hi => by cases hi⟩
  · simp [Value.cells] at hcs
    obtain ⟨rfl, rfl, rfl⟩ := hcs
    have hlm : len ≤ m := by rw [hmm]; simp; exact hl
    have hd' : d = .slice ((List.range len).map D) ((List.range (m - len)).map fun j => D (len + j)) := by simpa using congrArg Prod.fst hd
    have each : ∀ i, ∃ y : ByteArray, i < len → y.size ≤ 140737488355328 ∧ W.cell? (a.add i) = some (.string y) := fun i => by
      by_cases hi : i < len
      · obtain ⟨cs', h1, h2⟩ := hx i (by omega)
        obtain ⟨y, rfl, hdi, hw⟩ := DataW.trod_string Try.underlying9 h2
        have hz' : y.data.toList.length ≤ reachBytes := hz _ (by
          rw [hd', DataW.weights, Try.underlying23]
          refine List.mem_cons_of_mem _ (List.mem_append_left _ (weights_all (d := D i) (List.mem_map.2 ⟨i, by simpa using hi, rfl⟩) ?_))
          rw [show D i = .lit (.string y.data.toList) from congrArg Prod.fst hdi]; simp [DataW.weights])
        rw [cells9] at h1
        obtain ⟨_, _, hcell⟩ := World.cells?_some h1
        have e0 := hcell 0 (by omega)
        rw [Go.Deep.add_add] at e0
        refine ⟨y, fun _ => ⟨?_, by simpa using e0⟩⟩
        have e : y.data.toList.length = y.size := by simp
        rw [e] at hz'; unfold reachBytes at hz'; omega
      · exact ⟨.empty, fun h => absurd h hi⟩
    obtain ⟨f, hf⟩ := Classical.axiomOfChoice each
    refine ⟨some a, cap, (List.range len).map f, by simp, by simpa using hl, hm, fun h0 => ⟨a, rfl, ?_, fun i hi => ?_⟩, fun i hi => ?_⟩
    · have := World.block_lt_of_cell? W _ (hf 0 (by simpa using h0)).2
      simpa [add_block] using this
    · have hi' : i < len := by simpa using hi
      simpa using (hf i hi').2
    · have hi' : i < len := by simpa using hi
      simpa using (hf i hi').1
end
def szL (l : List ByteArray) : Nat := (l.map (·.size)).sum
theorem szL_next (l : List ByteArray) (k : Nat) (h : k < l.length) : szL (l.take (k + 1)) = szL (l.take k) + (l[k]'h).size := by
  rw [List.take_succ_eq_append_getElem h]; unfold szL; rw [List.map_append, List.sum_append]; simp
theorem szL_mem (l : List ByteArray) (x : ByteArray) (h : x ∈ l) : x.size ≤ szL l := by
  induction l with
  | nil => cases h
  | cons y l ih =>
    have e : szL (y :: l) = y.size + szL l := by unfold szL; simp
    rcases List.mem_cons.1 h with rfl | h
    · omega
    · have := ih h; omega
theorem szL_bd (l : List ByteArray) (h : ∀ i (hi : i < l.length), (l[i]'hi).size ≤ 140737488355328) : ∀ k, k ≤ l.length → szL (l.take k) ≤ k * 140737488355328 := fun k => by
  intro hk
  induction k with
  | zero => exact Nat.zero_le _
  | succ j ih => rw [szL_next l j (by omega)]; have := ih (by omega); have := h j (by omega); omega
theorem sametrue {W : World} {p q : Option Addr} {c d : Nat} {l : List ByteArray} (h1 : Ones W Value.string p l) (h2 : Ones W Value.string q l) (i1 : l.length ≤ c) (i2 : l.length ≤ d) (j1 : c ≤ maxLen) (j2 : d ≤ maxLen) :
    Calls Try.prog 12 #[.slice p l.length c, .slice q l.length d] W fun e w' => e = .returned (.bool true) ∧ Below W.heap.size W w' := by
  have := sametexts_any p q c d l l W h1 h2 i1 i2 j1 j2
  rwa [decide_eq_true rfl] at this
set_option maxHeartbeats 12800000 in
theorem words_law (pa : Option Addr) (ca : Nat) (a : List It) (pw : Option Addr) (cw : Nat) (ws : List ByteArray) (p0 : Option Addr) (c0 : Nat) (m : List Int) (w : World)
    (ra : Its w pa a) (oa : Oks a) (na : a.length ≤ ca) (ma : ca ≤ maxLen)
    (rw' : Ones w Value.string pw ws) (ow : ∀ i (h : i < ws.length), (ws[i]'h).size ≤ 140737488355328) (nw : ws.length ≤ cw) (mw : cw ≤ maxLen)
    (r0 : Ones w (Value.int .i64) p0 m) (o0 : ∀ i (h : i < m.length), (Lit.int .i64 (m[i]'h)).wf = true) (n0 : m.length ≤ c0) (m0 : c0 ≤ maxLen) :
    Calls Try.prog 3 #[.slice pa a.length ca, .slice pw ws.length cw, .slice p0 m.length c0] w fun e w' => e = .returned (.bool true) ∧ Below w.heap.size w w' := by
  have SA := Lib.hid (fun W (h : Its W pa a) => small14_any 40 (by omega) pa ca a W h oa na ma)
  have DA := Lib.hid (fun W (h : Its W pa a) hs => br_small (n := 40) (by omega) h oa na ma hs)
  have RA := Lib.hid ra; have RW := Lib.hid rw'; have R0 := Lib.hid r0
  have WM := Lib.hid (fun W (h : Ones W (Value.int .i64) p0 m) => words14_any p0 c0 m W h o0 n0 m0)
  have HSB := Lib.hid (szL_bd ws ow)
  have HSM := Lib.hid (szL_mem ws)
  have HSN := Lib.hid (fun k h => szL_next ws k h)
  have leave : ∀ W, Below w.heap.size w W → Calls Try.prog 11 #[] W fun e w' => e = .returned (.bool true) ∧ Below w.heap.size w w' := fun W h => (hknown_any W).mono (fun e w' hh => ⟨hh.1, BelowOn h hh.2⟩)
  have LV := Lib.hid leave
  have OW := Lib.hid ow
  have na' := na; have nw' := nw; have ma' := ma; have mw' := mw
  unfold maxLen at m0 ma' mw'
  clear leave ra rw' r0 oa ow o0
  go_enter Try.func3, Try.ntmps3
  go_wp2_with fail
  go_loop [7, 11] (fun v i => ∃ k : Nat, ∃ z : Int, k ≤ ws.length ∧ i = .int .i64 k ∧ v = .int .i64 z ∧ Hid (ws.length ≤ 30 → z = szL (ws.take k))) (fun _ i => ws.length - (intOf i).toNat)
  case atStart => exact ⟨0, 0, Nat.zero_le _, rfl, rfl, Lib.hid (fun _ => rfl)⟩
  case round =>
    obtain ⟨k, z, hk, rfl, rfl, HZ⟩ := hrel
    by_cases hlt : k < ws.length
    · obtain ⟨ad, rfl, ha, c0'⟩ := one_row RW.out k hlt
      have hn := HSN.out k hlt
      have HN := Lib.hid hn; clear hn
      have hsz := OW.out k hlt
      generalize ws[k] = x at *
      have ik : (k : Int) < (ws.length : Int) := by omega
      go_wp2_with fail
      go_round
      case rel =>
        refine ⟨k + 1, _, hlt, by go_num, rfl, Lib.hid (fun h30 => ?_)⟩
        have b := HSB.out (k + 1) hlt
        rw [HN.out] at b ⊢
        rw [HZ.out h30]
        unfold wrap64
        omega
      case measure => simp [intOf] <;> omega
    · obtain rfl : k = ws.length := by omega
      rw [List.take_length] at HZ
      cases sa : smlB 40 a with
      | false =>
        have hs := SA.out w RA.out
        rw [sa] at hs
        have HS := Lib.hid hs; clear hs
        go_wp2_with fail
        refine HS.out.mono ?_; rintro e w1 ⟨rfl, rfl⟩
        go_wp2_with fail
        refine (LV.out _ (Below.refl _ _)).mono ?_; rintro e w1 ⟨rfl, hb⟩
        go_wp2_with fail
        go_ret
        exact ⟨rfl, hb⟩
      | true =>
        have hs := SA.out w RA.out
        rw [sa] at hs
        have HS := Lib.hid hs; clear hs
        by_cases h30 : 30 < ws.length
        · have q30 : (30 : Int) < (ws.length : Int) := by omega
          go_wp2_with fail
          refine HS.out.mono ?_; rintro e w1 ⟨rfl, rfl⟩
          go_wp2_with fail
          refine (LV.out _ (Below.refl _ _)).mono ?_; rintro e w1 ⟨rfl, hb⟩
          go_wp2_with fail
          go_ret
          exact ⟨rfl, hb⟩
        · have q30 : ¬ (30 : Int) < (ws.length : Int) := by omega
          have hz := HZ.out (by omega)
          by_cases h400 : 400 < z
          · go_wp2_with fail
            refine HS.out.mono ?_; rintro e w1 ⟨rfl, rfl⟩
            go_wp2_with fail
            refine (LV.out _ (Below.refl _ _)).mono ?_; rintro e w1 ⟨rfl, hb⟩
            go_wp2_with fail
            go_ret
            exact ⟨rfl, hb⟩
          · have hBr := DA.out w RA.out sa
            have hws : ∀ x ∈ ws, x.size ≤ maxLen := fun x hx => by have := HSM.out x hx; unfold maxLen; omega
            have h1 := words_any pa ca a w hBr.its hBr.le hBr.cm (Nat.le_trans hBr.len (by omega)) hBr.txt
            have h2 := fun W (h : Its W pa a) => rwords_any pa ca a W h hBr.le hBr.cm (Nat.le_trans hBr.len (by omega)) hBr.txt
            have h3 := fun W (h : Ones W Value.string pw ws) => grams_any pw cw ws W h nw mw (by omega) hws
            have h4 := fun W (h : Ones W Value.string pw ws) => rgrams_any pw cw ws W h nw mw (by omega)
            have lm := wsL_len m
            have h5 := fun W p c (h : Ones W Value.string p (wsL m)) i j => grams_any p c (wsL m) W h i j (by omega) (wsL_size m)
            have h6 := fun W p c (h : Ones W Value.string p (wsL m)) i j => rgrams_any p c (wsL m) W h i j (by omega)
            have H1 := Lib.hid h1; have H2 := Lib.hid h2; have H3 := Lib.hid h3; have H4 := Lib.hid h4; have H5 := Lib.hid h5; have H6 := Lib.hid h6
            clear h1 h2 h3 h4 h5 h6 hBr hws hz lm nw na mw ma
            generalize wds a = WA at *
            generalize wsL m = WB at *
            generalize gramsL ws = GA at *
            generalize gramsL WB = GB at *
            go_wp2_with fail
            refine HS.out.mono ?_; rintro e w1 ⟨rfl, rfl⟩
            go_wp2_with fail
            refine H1.out.mono ?_; rintro e w1 he
            obtain ⟨p1, c1, rfl, i1, j1, hW1, hb1⟩ := EndW.f he
            have HB := Lib.hid hb1; have HW1 := Lib.hid hW1; clear he hb1 hW1
            go_wp2_with fail
            refine (H2.out _ (RA.out.call HB.out)).mono ?_; rintro e w2 he
            obtain ⟨p2, c2, rfl, i2, j2, hW2, hb2⟩ := EndW.f he
            have hs := sametrue (HW1.out.call hb2) hW2 i1 i2 j1 j2
            have HST := Lib.hid hs
            replace HB := Lib.hid (BelowOn HB.out hb2); clear he hb2 hW2 hs
            go_wp2_with fail
            refine HST.out.mono ?_; rintro e w3 ⟨rfl, hb⟩
            replace HB := Lib.hid (BelowOn HB.out hb); clear hb HST
            go_wp2_with fail
            refine (H3.out _ (RW.out.call HB.out)).mono ?_; rintro e w4 he
            obtain ⟨p3, c3, rfl, i3, j3, hG3, hb⟩ := EndG.f he
            replace HB := Lib.hid (BelowOn HB.out hb); have HG3 := Lib.hid hG3; clear he hb hG3
            go_wp2_with fail
            refine (H4.out _ (RW.out.call HB.out)).mono ?_; rintro e w5 he
            obtain ⟨p4, c4, rfl, i4, j4, hG4, hb⟩ := EndG.f he
            have hs := samegrams_any p3 p4 c3 c4 GA _ (HG3.out.call hb) hG4 i3 i4 j3 j4
            have HST := Lib.hid hs
            replace HB := Lib.hid (BelowOn HB.out hb); clear he hb hG4 hs
            go_wp2_with fail
            refine HST.out.mono ?_; rintro e w6 ⟨rfl, hb⟩
            replace HB := Lib.hid (BelowOn HB.out hb); clear hb HST
            go_wp2_with fail
            refine (WM.out _ (R0.out.call HB.out)).mono ?_; rintro e w7 he
            obtain ⟨p5, c5, rfl, i5, j5, hW5, hb⟩ := EndW.f he
            replace HB := Lib.hid (BelowOn HB.out hb); have HW5 := Lib.hid hW5; clear he hb hW5
            go_wp2_with fail
            refine (H5.out _ _ _ HW5.out i5 j5).mono ?_; rintro e w8 he
            obtain ⟨p6, c6, rfl, i6, j6, hG6, hb⟩ := EndG.f he
            replace HB := Lib.hid (BelowOn HB.out hb); have HG6 := Lib.hid hG6; clear he hb hG6
            go_wp2_with fail
            refine (WM.out _ (R0.out.call HB.out)).mono ?_; rintro e w9 he
            obtain ⟨p7, c7, rfl, i7, j7, hW7, hb⟩ := EndW.f he
            replace HB := Lib.hid (BelowOn HB.out hb); have HW7 := Lib.hid hW7; replace HG6 := Lib.hid (HG6.out.call hb); clear he hb hW7
            go_wp2_with fail
            refine (H6.out _ _ _ HW7.out i7 j7).mono ?_; rintro e w10 he
            obtain ⟨p8, c8, rfl, i8, j8, hG8, hb⟩ := EndG.f he
            have hs := samegrams_any p6 p8 c6 c8 GB _ (HG6.out.call hb) hG8 i6 i8 j6 j8
            have HST := Lib.hid hs
            replace HB := Lib.hid (BelowOn HB.out hb); clear he hb hG8 hs
            go_wp2_with fail
            refine HST.out.mono ?_; rintro e w11 ⟨rfl, hb⟩
            replace HB := Lib.hid (BelowOn HB.out hb); clear hb HST
            go_wp2_with fail
            refine (LV.out _ HB.out).mono ?_; rintro e w12 ⟨rfl, hb⟩
            go_wp2_with fail
            go_ret
            exact ⟨rfl, hb⟩
end Go.Proofs.Ytncdjfgoigaflaa
namespace Go.Proofs.Ytncdjfgoigaflaa.shingleWords
open Go.ChangeShapes Go.WideShapes Go.ChangeAt Go.RowKit
open Go.ChangeMaps (open_string shut_string)
set_option linter.unusedVariables false
set_option maxRecDepth 100000

theorem own : ownKnob Try.prog.godebug = none := by kernel_rfl
theorem laidOut : laidOutB Try.prog = true := by kernel_rfl


set_option maxHeartbeats 1600000 in
theorem walk (p0 : Option Addr) (c0 : Nat) (a0 : List It) (p1 : Option Addr) (c1 : Nat) (a1 : List ByteArray) (p2 : Option Addr) (c2 : Nat) (a2 : List Int) (w : World) (r0 : Its w p0 a0) (o0 : Oks a0) (n0 : a0.length ≤ c0) (m0 : c0 ≤ maxLen) (r1 : Ones w Value.string p1 a1) (o1 : ∀ i (h : i < a1.length), (a1[i]'h).size ≤ 140737488355328) (n1 : a1.length ≤ c1) (m1 : c1 ≤ maxLen) (r2 : Ones w (Value.int .i64) p2 a2) (o2 : ∀ i (h : i < a2.length), (Lit.int .i64 (a2[i]'h)).wf = true) (n2 : a2.length ≤ c2) (m2 : c2 ≤ maxLen) :
    Calls Try.prog 3 #[.slice p0 a0.length c0, .slice p1 a1.length c1, .slice p2 a2.length c2] w fun e w' => e = .returned (.bool true) ∧ Below w.heap.size w w' := by
  exact words_law p0 c0 a0 p1 c1 a1 p2 c2 a2 w r0 o0 n0 m0 r1 o1 n1 m1 r2 o2 n2 m2

theorem lifted (os : Os) (started : os.Started) (H : Type) (enc : TypeId × Value → H) :
    ReturnsInHanded {} Try.checked os 3 .any (Rows.shingleWordsSpec.pre6 enc Try.prog Try.f3 Rows.shingleWordsRow.domain false) (Rows.shingleWordsSpec.post enc Try.prog Try.f3 false true false false) := by
  refine returnsInHanded_of_change_sized (C := Try.checked) own started (by kernel_rfl) Try.func3
    (ChangeSpec.witness6 (enc := enc) (C := Try.checked) false ⟨#[], #[.slice none 0 0, .slice none 0 0, .slice none 0 0], []⟩ 8 (by kernel_rfl) (by kernel_rfl) (by kernel_rfl) (by kernel_rfl)) ?_
  intro W base args ds gs before hval0 hW hcnd hsz0 _
  have hval : ∀ (j : Nat) t v, Try.f3.params[j]? = some t → args[j]? = some v → Value.okWide Try.prog W .any base t v := hval0
  have hW' := hW
  have hlt : ∀ x ∈ before, x.block < W.heap.size := fun x hx => hW'.lt x hx
  obtain ⟨p, q, hA0, hV, rfl, hfz, hnd⟩ := hW
  have hA : DataW.TrodAll enc Try.prog W 0 (fun _ => true) true Try.f3.params.toList args.toList ds p := hA0
  rw [Try.params3] at hA hval hsz0
  obtain ⟨v0, vs0, d0, ds0, p0, q0, hargs, rfl, rfl, h0, r0⟩ := trodAll_cons hA
  obtain ⟨v1, vs1, d1, ds1, p1, q1, rfl, rfl, rfl, h1, r1⟩ := trodAll_cons r0
  obtain ⟨v2, vs2, d2, ds2, p2, q2, rfl, rfl, rfl, h2, r2⟩ := trodAll_cons r1
  obtain ⟨rfl, rfl, rfl⟩ := trodAll_nil r2
  obtain rfl : args = #[v0, v1, v2] := by cases args; simp_all
  obtain ⟨rfl, rfl⟩ := trodVars_none hV
  have hsz := hsz0; clear hsz0
  obtain ⟨pp0, c0, a0, rfl, n0, m0, y0, o0⟩ := opened_tf (okBase (hval 0 22 v0 rfl rfl)) h0 (fun n hn => by simpa using List.all_eq_true.1 hsz n (DataW.weights_mem_each (j := 0) rfl rfl n hn))
  obtain ⟨pp1, c1, a1, rfl, n1, m1, y1, o1⟩ := opened_strs (okBase (hval 1 23 v1 rfl rfl)) h1 (fun n hn => by simpa using List.all_eq_true.1 hsz n (DataW.weights_mem_each (j := 1) rfl rfl n hn))
  obtain ⟨pp2, c2, a2, rfl, n2, m2, y2, o2⟩ := opened_ints (okBase (hval 2 24 v2 rfl rfl)) h2
  clear hA0 hval0
  refine (walk pp0 c0 a0 pp1 c1 a1 pp2 c2 a2 W y0 o0 n0 m0 y1 o1 n1 m1 y2 o2 n2 m2).mono fun e W' ⟨he, bel⟩ => ?_
  subst he
  exact ⟨_, rfl, _, _, _, [], _, [], hW', trodAll_mk1 (shut_bool Try.underlying4 _), (trodAll_cons_mk (Below.trod laidOut (by kernel_rfl) (of_decide_eq_true (by kernel_rfl)) h0 bel (fun x hx => hlt x (by simp [hx]))) (trodAll_cons_mk (Below.trod laidOut (by kernel_rfl) (of_decide_eq_true (by kernel_rfl)) h1 bel (fun x hx => hlt x (by simp [hx]))) (trodAll_cons_mk (Below.trod laidOut (by kernel_rfl) (of_decide_eq_true (by kernel_rfl)) h2 bel (fun x hx => hlt x (by simp [hx]))) trodAll_mk0))), rfl, bel.frame _, fun h => by cases h⟩

theorem over : Rows.shingleWordsRow.holds Try.pinned (OpenSpec.ofChange Rows.shingleWordsSpec) :=
  OpenClaim.holds_of_wide 3 Try.f3 rfl rfl rfl rfl rfl rfl rfl ⟨rfl, rfl, rfl, rfl, rfl⟩ rfl rfl rfl rfl rfl (by kernel_rfl) Try.func3 (by kernel_rfl)
    (of_decide_eq_true (by kernel_rfl)) (by unfold Func.isWrapper; first | (rw [if_pos (by decide +kernel)]; kernel_rfl) | (rw [if_neg (by decide +kernel)]; exact ⟨rfl, rfl⟩))
    (fun os started H enc _ => lifted os started H enc)

theorem proved : Rows.ShingleWordsSaid := over
#print axioms proved
end Go.Proofs.Ytncdjfgoigaflaa.shingleWords
