/- Shingle: the walk of ShingleGrams. The law ShingleGrams holds for every input. -/
import Derived.Test.YtncdjfgoigaflaaSgE
import Derived.Laws.Cover1
import Derived.Test.YtncdjfgoigaflaaRows
import Derived.WalkKit
import Derived.ProofKit
import Derived.OpenShut
import Derived.ChangeOld
import Derived.Below
import Derived.Carry
import Derived.SizedLaws
import Derived.Test.YtncdjfgoigaflaaTka
namespace Go.Proofs.Ytncdjfgoigaflaa
open Go.ChangeShapes Go.WideShapes Go.ChangeAt Go.RowKit
open Go.Sort (grow)
set_option linter.unusedVariables false
set_option linter.unusedSimpArgs false
set_option maxRecDepth 100000

def csG (L : List Gm) (k : Nat) : Int := ((L.take k).map (·.n)).sum
theorem csG_next (L : List Gm) (k : Nat) (h : k < L.length) : csG L (k + 1) = csG L k + (L[k]'h).n := by
  unfold csG; rw [List.take_succ_eq_append_getElem h, List.map_append, List.sum_append]; simp
theorem csG_bd (L : List Gm) (M : Int) (h : ∀ g ∈ L, 1 ≤ g.n ∧ g.n ≤ M) : ∀ k, k ≤ L.length → 0 ≤ csG L k ∧ csG L k ≤ k * M := fun k => by
  intro hk
  induction k with
  | zero => unfold csG; simp
  | succ j ih =>
    rw [csG_next L j (by omega)]
    have := ih (by omega)
    have h2 := h _ (List.getElem_mem (show j < L.length by omega))
    have e : ((j + 1 : Nat) : Int) * M = (j : Int) * M + M := by push_cast; rw [Int.add_mul, Int.one_mul]
    rw [e]
    omega
theorem gramsL_n (v : List ByteArray) (hv : v.length ≤ 12) : ∀ g ∈ gramsL v, 1 ≤ g.n ∧ g.n ≤ 13 := fun g hg => by
  have h := gramsP_n (prs v) g hg
  have h2 := (gramsP_ok (prs v)).cnt g hg
  have := List.count_pos_iff.2 h2.2
  rw [prs_len] at h
  omega
theorem ltSf {a b : ByteArray} (h : ltS a b = true) : (b.toList == a.toList) = false := by
  rw [eqS_eq, decide_eq_false_iff_not]; intro e; subst e; rw [ltS_irr] at h; cases h
set_option maxHeartbeats 12800000 in
theorem grams_law (p0 : Option Addr) (c0 : Nat) (m : List Int) (w : World) (r0 : Ones w (Value.int .i64) p0 m) (o0 : ∀ i (h : i < m.length), (Lit.int .i64 (m[i]'h)).wf = true) (n0 : m.length ≤ c0) (m0 : c0 ≤ maxLen) :
    Calls Try.prog 4 #[.slice p0 m.length c0] w fun e w' => e = .returned (.bool true) ∧ Below w.heap.size w w' := by
  have h1 := words14_any p0 c0 m w r0 o0 n0 m0
  have lm := wsL_len m
  have h2 := fun W p c (h : Ones W Value.string p (wsL m)) i j => grams_any p c (wsL m) W h i j (by omega) (wsL_size m)
  have hsum : csG (gramsL (wsL m)) (gramsL (wsL m)).length = ((wsL m).length : Int) + 1 := by
    unfold csG; rw [List.take_length]
    have := grams_sum (prs (wsL m)); rw [prs_len] at this
    exact this.trans (by push_cast; rfl)
  have hasc := (gramsP_ok (prs (wsL m))).asc
  have hnn := gramsL_n (wsL m) lm
  have hbd := csG_bd (gramsL (wsL m)) 13 hnn
  have hgl := gramsL_len (wsL m)
  have hnx := fun k h => csG_next (gramsL (wsL m)) k h
  have hG : gramsP (prs (wsL m)) = gramsL (wsL m) := rfl
  rw [hG] at hasc
  have leave : ∀ W, Below w.heap.size w W → Calls Try.prog 11 #[] W fun e w' => e = .returned (.bool true) ∧ Below w.heap.size w w' := fun W h => (hknown_any W).mono (fun e w' hh => ⟨hh.1, BelowOn h hh.2⟩)
  have LV := Lib.hid leave
  have H1 := Lib.hid h1; have H2 := Lib.hid h2; have HS := Lib.hid hsum; have HA := Lib.hid hasc; have HN := Lib.hid hnn; have HB0 := Lib.hid hbd; have HX := Lib.hid hnx
  unfold maxLen at m0
  clear h1 h2 hsum hasc hnn hbd hnx leave r0 o0 hG
  generalize gramsL (wsL m) = G at *
  generalize wsL m = V at *
  go_enter Try.func4, Try.ntmps4
  go_wp2_with fail
  refine H1.out.mono ?_; rintro e w1 he
  obtain ⟨p1, c1, rfl, i1, j1, hW1, hb1⟩ := EndW.f he
  have HB := Lib.hid hb1; have HW1 := Lib.hid hW1; clear he hb1 hW1
  go_wp2_with fail
  refine (H2.out _ _ _ HW1.out i1 j1).mono ?_; rintro e w2 he
  obtain ⟨p2, c2, rfl, i2, j2, hG2, hb⟩ := EndG.f he
  replace HB := Lib.hid (BelowOn HB.out hb); have HG := Lib.hid hG2; clear he hb hG2 HW1
  unfold maxLen at j1 j2
  go_wp2_with fail
  go_loopw [4, 13] (fun n i wr => ∃ k : Nat, k ≤ G.length ∧ i = .int .i64 k ∧ n = .int .i64 (csG G k) ∧ Below w2.heap.size w2 wr) (fun _ i _ => G.length - (intOf i).toNat)
  case atStart => exact ⟨0, Nat.zero_le _, rfl, rfl, Below.refl _ _⟩
  case round =>
    obtain ⟨k, hk, rfl, rfl, hb⟩ := hrel
    by_cases hlt : k < G.length
    · have hgs := HG.out.call hb
      obtain ⟨ad, rfl, had, x0, x1, x2⟩ := hgs.row k hlt
      have hbd := HB0.out k (by omega)
      have hbd2 := HB0.out (k + 1) hlt
      have hnx := HX.out k hlt
      have hn1 := HN.out _ (List.getElem_mem hlt)
      have ik : (k : Int) < (G.length : Int) := by omega
      have HNX := Lib.hid hnx
      have hcs : 0 ≤ csG G k ∧ csG G k ≤ 1000 := ⟨hbd.1, by omega⟩
      clear hbd hbd2 hnx
      generalize csG G k = S at *
      by_cases h0 : 0 < k
      · obtain ⟨ad', ead, _, y0, y1, y2⟩ := hgs.row (k - 1) (by omega)
        injection ead with ead; subst ead
        have hord : bfP (G[k - 1]'(by omega)).key G[k].key = true := List.pairwise_iff_getElem.1 HA.out (k - 1) k (by omega) hlt (by omega)
        have j1' : (k : Int) - 1 < (G.length : Int) := by omega
        have j0' : (0 : Int) ≤ (k : Int) - 1 := by omega
        have j2' : ((k : Int) - 1).toNat = k - 1 := by omega
        have j3' : IntKind.i64.wrap ((k : Int) - 1) = (k : Int) - 1 := IntWalk.i64_in _ ⟨by omega, by omega⟩
        have z0' : (0 : Int) < (k : Int) := by omega
        generalize G[k] = X at *
        generalize G[k - 1]'_ = Y at *
        clear hgs
        have q1 : Op.bytesLess X.f.toList Y.f.toList = false := by
          rw [ltS_eq]
          rcases (bfP_iff _ _).1 hord with h | h
          · exact ltS_asym h
          · have e : Y.f = X.f := h.1
            rw [e, ltS_irr]
        have hcase : (X.f.toList == Y.f.toList) = false ∨ ((X.f.toList == Y.f.toList) = true ∧ Op.bytesLess X.s.toList Y.s.toList = false ∧ (X.s.toList == Y.s.toList) = false) := by
          rcases (bfP_iff _ _).1 hord with h | h
          · exact .inl (ltSf h)
          · have e : Y.f = X.f := h.1
            have e2 : ltS Y.s X.s = true := h.2
            exact .inr ⟨by rw [e]; simp, by rw [ltS_eq]; exact ltS_asym e2, ltSf e2⟩
        have q5 : ¬ X.n < 1 := by omega
        have HCS := Lib.hid hcase
        clear hcase hord
        rcases HCS.out with q2 | ⟨q2, q3, q4⟩
        · clear HCS
          go_wp2_with fail
          have f0 := cell_regrown x0; have f1 := cell_regrown x1; have f2 := cell_regrown x2; have g0 := cell_regrown y0; have g1 := cell_regrown y1; have g2 := cell_regrown y2
          refine wp_region_quiet_below (by kernel_rfl) (by kernel_rfl) ?_
          repeat (go_big_quiet_step (fail))
          refine wpQuiet_nil ?_
          intro _ hw'
          obtain ⟨⟨dq, osq⟩, hw''⟩ := hw'
          subst hw''
          have hb2 := below_regrown wr dq osq
          have x2' := f2 dq osq
          generalize grow (redrawn wr dq) osq = v2 at *
          clear f0 f1 f2 g0 g1 g2 x0 x1 x2 y0 y1 y2
          have HW := Lib.hid (BelowOn hb hb2)
          go_wp2_with fail
          go_roundw
          case rel => exact ⟨k + 1, hlt, by go_num, by rw [HNX.out], HW.out⟩
          case measure => simp [intOf] <;> omega
        · clear HCS
          go_wp2_with fail
          have f0 := cell_regrown x0; have f1 := cell_regrown x1; have f2 := cell_regrown x2; have g0 := cell_regrown y0; have g1 := cell_regrown y1; have g2 := cell_regrown y2
          refine wp_region_quiet_below (by kernel_rfl) (by kernel_rfl) ?_
          repeat (go_big_quiet_step (fail))
          refine wpQuiet_nil ?_
          intro _ hw'
          obtain ⟨⟨dq, osq⟩, hw''⟩ := hw'
          subst hw''
          have hb2 := below_regrown wr dq osq
          have x2' := f2 dq osq
          generalize grow (redrawn wr dq) osq = v2 at *
          clear f0 f1 f2 g0 g1 g2 x0 x1 x2 y0 y1 y2
          have HW := Lib.hid (BelowOn hb hb2)
          go_wp2_with fail
          go_roundw
          case rel => exact ⟨k + 1, hlt, by go_num, by rw [HNX.out], HW.out⟩
          case measure => simp [intOf] <;> omega
      · have z0' : ¬ (0 : Int) < (k : Int) := by omega
        generalize G[k] = X at *
        clear hgs
        have q5 : ¬ X.n < 1 := by omega
        go_wp2_with fail
        have f0 := cell_regrown x0; have f1 := cell_regrown x1; have f2 := cell_regrown x2
        refine wp_region_quiet_below (by kernel_rfl) (by kernel_rfl) ?_
        repeat (go_big_quiet_step (fail))
        refine wpQuiet_nil ?_
        intro _ hw'
        obtain ⟨⟨dq, osq⟩, hw''⟩ := hw'
        subst hw''
        have hb2 := below_regrown wr dq osq
        have x2' := f2 dq osq
        generalize grow (redrawn wr dq) osq = v2 at *
        clear f0 f1 f2 x0 x1 x2
        have HW := Lib.hid (BelowOn hb hb2)
        go_wp2_with fail
        go_roundw
        case rel => exact ⟨k + 1, hlt, by go_num, by rw [HNX.out], HW.out⟩
        case measure => simp [intOf] <;> omega
    · obtain rfl : k = G.length := by omega
      rw [HS.out]
      have HW := Lib.hid (BelowOn HB.out hb)
      have qq : (((V.length : Int) + 1) == ((V.length : Int) + 1)) = true := by simp
      clear hb
      go_wp2_with fail
      refine (LV.out _ HW.out).mono ?_; rintro e w4 ⟨rfl, hb⟩
      go_wp2_with fail
      go_ret
      exact ⟨rfl, hb⟩
end Go.Proofs.Ytncdjfgoigaflaa
namespace Go.Proofs.Ytncdjfgoigaflaa.shingleGrams
open Go.ChangeShapes Go.WideShapes Go.ChangeAt Go.RowKit
open Go.ChangeMaps (open_string shut_string)
set_option linter.unusedVariables false
set_option maxRecDepth 100000

theorem own : ownKnob Try.prog.godebug = none := by kernel_rfl
theorem laidOut : laidOutB Try.prog = true := by kernel_rfl


set_option maxHeartbeats 1600000 in
theorem walk (p0 : Option Addr) (c0 : Nat) (a0 : List Int) (w : World) (r0 : Ones w (Value.int .i64) p0 a0) (o0 : ∀ i (h : i < a0.length), (Lit.int .i64 (a0[i]'h)).wf = true) (n0 : a0.length ≤ c0) (m0 : c0 ≤ maxLen) :
    Calls Try.prog 4 #[.slice p0 a0.length c0] w fun e w' => e = .returned (.bool true) ∧ Below w.heap.size w w' := by
  exact grams_law p0 c0 a0 w r0 o0 n0 m0

theorem lifted (os : Os) (started : os.Started) (H : Type) (enc : TypeId × Value → H) :
    ReturnsInHanded {} Try.checked os 4 .any (Rows.shingleGramsSpec.pre6 enc Try.prog Try.f4 Rows.shingleGramsRow.domain false) (Rows.shingleGramsSpec.post enc Try.prog Try.f4 false true false false) := by
  refine returnsInHanded_of_change_sized (C := Try.checked) own started (by kernel_rfl) Try.func4
    (ChangeSpec.witness6 (enc := enc) (C := Try.checked) false ⟨#[], #[.slice none 0 0], []⟩ 8 (by kernel_rfl) (by kernel_rfl) (by kernel_rfl) (by kernel_rfl)) ?_
  intro W base args ds gs before hval0 hW hcnd hsz0 _
  have hval : ∀ (j : Nat) t v, Try.f4.params[j]? = some t → args[j]? = some v → Value.okWide Try.prog W .any base t v := hval0
  have hW' := hW
  have hlt : ∀ x ∈ before, x.block < W.heap.size := fun x hx => hW'.lt x hx
  obtain ⟨p, q, hA0, hV, rfl, hfz, hnd⟩ := hW
  have hA : DataW.TrodAll enc Try.prog W 0 (fun _ => true) true Try.f4.params.toList args.toList ds p := hA0
  rw [Try.params4] at hA hval hsz0
  obtain ⟨v0, vs0, d0, ds0, p0, q0, hargs, rfl, rfl, h0, r0⟩ := trodAll_cons hA
  obtain ⟨rfl, rfl, rfl⟩ := trodAll_nil r0
  obtain rfl : args = #[v0] := by cases args; simp_all
  obtain ⟨rfl, rfl⟩ := trodVars_none hV
  have hsz := hsz0; clear hsz0
  obtain ⟨pp0, c0, a0, rfl, n0, m0, y0, o0⟩ := opened_ints (okBase (hval 0 24 v0 rfl rfl)) h0
  clear hA0 hval0
  refine (walk pp0 c0 a0 W y0 o0 n0 m0).mono fun e W' ⟨he, bel⟩ => ?_
  subst he
  exact ⟨_, rfl, _, _, _, [], _, [], hW', trodAll_mk1 (shut_bool Try.underlying4 _), (trodAll_cons_mk (Below.trod laidOut (by kernel_rfl) (of_decide_eq_true (by kernel_rfl)) h0 bel (fun x hx => hlt x (by simp [hx]))) trodAll_mk0), rfl, bel.frame _, fun h => by cases h⟩

theorem over : Rows.shingleGramsRow.holds Try.pinned (OpenSpec.ofChange Rows.shingleGramsSpec) :=
  OpenClaim.holds_of_wide 4 Try.f4 rfl rfl rfl rfl rfl rfl rfl ⟨rfl, rfl, rfl, rfl, rfl⟩ rfl rfl rfl rfl rfl (by kernel_rfl) Try.func4 (by kernel_rfl)
    (of_decide_eq_true (by kernel_rfl)) (by unfold Func.isWrapper; first | (rw [if_pos (by decide +kernel)]; kernel_rfl) | (rw [if_neg (by decide +kernel)]; exact ⟨rfl, rfl⟩))
    (fun os started H enc _ => lifted os started H enc)

theorem proved : Rows.ShingleGramsSaid := over
#print axioms proved
end Go.Proofs.Ytncdjfgoigaflaa.shingleGrams
