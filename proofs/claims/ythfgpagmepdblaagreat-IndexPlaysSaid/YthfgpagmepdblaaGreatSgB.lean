/- Shingle: equal lists of grams; the reference's Missing. Shingle: the reference's Missing. Shingle: contract of the reference's Grams. -/
import Derived.Test.YthfgpagmepdblaaGreatSgA
import Derived.Test.YthfgpagmepdblaaGreatSgR
import Derived.BigQuiet
import Derived.Lib.QuietBelow
namespace Go.Proofs.YthfgpagmepdblaaGreat
open Go.ChangeShapes Go.WideShapes Go.ChangeAt Go.RowKit Go.Maps Go.Sort
set_option linter.unusedVariables false
set_option linter.unusedSimpArgs false
set_option maxRecDepth 100000

end Go.Proofs.YthfgpagmepdblaaGreat
namespace Go.Proofs.YthfgpagmepdblaaGreat
open Go.ChangeShapes Go.WideShapes Go.ChangeAt Go.RowKit Go.Maps Go.Sort
set_option linter.unusedVariables false
set_option linter.unusedSimpArgs false
set_option maxRecDepth 100000

theorem gk_next (a : List Gm) (m : Nat) (h : m < a.length) (x : Pr) : decide (x ∈ gkeys (a.take (m + 1))) = (decide (x ∈ gkeys (a.take m)) || decide ((a[m]'h).key = x)) := by
  unfold gkeys
  rw [List.take_succ_eq_append_getElem h, List.map_append, Bool.eq_iff_iff, decide_eq_true_eq, Bool.or_eq_true, decide_eq_true_eq, decide_eq_true_eq, List.mem_append, List.map_cons, List.map_nil, List.mem_singleton, eq_comm (a := x)]
set_option maxHeartbeats 6400000 in
theorem rmissing_any (p q : Option Addr) (c d : Nat) (a b : List Gm) (w : World) (hA : Gs w p a) (hB : Gs w q b) (hc : a.length ≤ c) (hd : b.length ≤ d) (hcm : c ≤ maxLen) (hdm : d ≤ maxLen) (ha : a.length ≤ 1000) (hb : b.length ≤ 1000) :
    Calls Tryz.prog 43 #[.slice p a.length c, .slice q b.length d] w fun e w' => e = .returned (.int .i64 (misL a b : Nat)) ∧ Below w.heap.size w w' := by
  have HEND := Lib.hid (show min (mOne a b a.length) 1073741824 = misL a b by rw [mOne_all]; rfl)
  have HO := Lib.hid (fun i h => mOne_next a b i h)
  have HCA := Lib.hid (fun g W h => rocc_any p c a g W h hc hcm (by omega))
  have HCB := Lib.hid (fun g W h => rocc_any q d b g W h hd hdm (by omega))
  have HOA := Lib.hid (fun x => Nat.le_trans (occ_le a x) (Nat.mul_le_mul_right 1073741824 ha))
  have HOB := Lib.hid (fun x => Nat.le_trans (occ_le b x) (Nat.mul_le_mul_right 1073741824 hb))
  have HGK := Lib.hid (fun m h x => gk_next a m h x)
  have HZ := Lib.hid (mOne_zero a b)
  have hcm' := hcm; have hdm' := hdm
  unfold maxLen at hcm' hdm'
  go_enter Tryz.func43, Tryz.ntmps43
  go_wp2_with fail
  go_loopw [5, 13] (fun n i wr => ∃ k : Nat, k ≤ a.length ∧ i = .int .i64 k ∧ n = .int .i64 (min (mOne a b k) 1073741824 : Nat) ∧ Below w.heap.size w wr) (fun _ i _ => a.length - (intOf i).toNat)
  case atStart => exact ⟨0, Nat.zero_le _, rfl, by rw [HZ.out]; rfl, Below.refl _ _⟩
  case round =>
    obtain ⟨k, hk, rfl, rfl, hB1⟩ := hrel
    by_cases hlt : k < a.length
    · obtain ⟨ad, rfl, had, x0, x1, x2⟩ := (hA.call hB1).row k hlt
      have hnx := HO.out k hlt
      have hms : misD a b a[k].key = occ a a[k].key - occ b a[k].key := rfl
      have oa := HOA.out a[k].key
      have ob := HOB.out a[k].key
      have ca := HCA.out a[k]
      have cb := HCB.out a[k]
      have hgk := fun m h => HGK.out m h a[k].key
      have hz : decide (a[k].key ∈ gkeys (a.take 0)) = false := by simp [gkeys]
      have hke := fun (y : Gm) => keyP_eq y a[k]
      rw [hms] at hnx
      have hv0 := heap_alloc_new wr (.cells #[.string a[k].f, .string a[k].s, .int .i64 a[k].n] 72)
      have hbv : Below wr.heap.size wr (wr.alloc (.cells #[.string a[k].f, .string a[k].s, .int .i64 a[k].n] 72)) := blw (Below.refl _ _) _
      have ik : (k : Int) < (a.length : Int) := by omega
      have kc : (k : Int) ≤ (c : Int) := by omega
      have k0 : (0 : Int) ≤ (k : Int) := by omega
      have mle : min (mOne a b k) 1073741824 ≤ 1073741824 := Nat.min_le_right _ _
      have HNX := Lib.hid hnx; have HC := Lib.hid (And.intro ca cb); have HG := Lib.hid (And.intro hgk hz); have HKE := Lib.hid hke
      clear hnx ca cb hgk hz hms hke
      generalize occ a a[k].key = OA at *
      generalize occ b a[k].key = OB at *
      generalize hMk : mOne a b k = Mk at *
      have HMk := Lib.hid hMk
      clear hMk
      generalize a[k] = X at *
      have HB := Lib.hid (BelowOn hB1 hbv)
      clear hB1 hbv
      go_wp2_with fail
      generalize (wr.alloc (.cells #[.string X.f, .string X.s, .int .i64 X.n] 72)) = v1 at *
      have d0 : v1.cell? ⟨wr.heap.size, 0, none⟩ = some (.string X.f) := by rw [Lib.cell_of_heap hv0]; rfl
      have d1 : v1.cell? ⟨wr.heap.size, 1, none⟩ = some (.string X.s) := by rw [Lib.cell_of_heap hv0]; rfl
      have d2 : v1.cell? ⟨wr.heap.size, 2, none⟩ = some (.int .i64 X.n) := by rw [Lib.cell_of_heap hv0]; rfl
      have hgl : wr.heap.size < v1.heap.size := heap_lt hv0
      generalize wr.heap.size = g at *
      have HD := Lib.hid (And.intro d0 (And.intro d1 d2))
      clear x0 x1 x2 hv0 had d0 d1 d2
      go_loopw [8, 22] (fun f j vr => ∃ m : Nat, m ≤ k ∧ j = .int .i64 m ∧ f = .bool (!decide (X.key ∈ gkeys (a.take m))) ∧ Below v1.heap.size v1 vr) (fun _ j _ => k - (intOf j).toNat)
      case atStart => exact ⟨0, Nat.zero_le _, rfl, by rw [HG.out.2]; rfl, Below.refl _ _⟩
      case round =>
        obtain ⟨m, hm, rfl, rfl, hb1⟩ := hrel
        have hb1 : Below v1.heap.size v1 wr := hb1
        have e0 := (hb1.cell (p := ⟨g, 0, none⟩) hgl).trans HD.out.1
        have e1 := (hb1.cell (p := ⟨g, 1, none⟩) hgl).trans HD.out.2.1
        have e2 := (hb1.cell (p := ⟨g, 2, none⟩) hgl).trans HD.out.2.2
        have gl2 : g < wr.heap.size := Nat.lt_of_lt_of_le hgl hb1.size
        by_cases hmk : m < k
        · obtain ⟨ad', ead, had, y0, y1, y2⟩ := (hA.call (BelowOn HB.out hb1)).row m (by omega)
          injection ead with ead; subst ead
          have hnm := HG.out.1 m (by omega)
          have hkr := HKE.out (a[m]'(by omega))
          generalize a[m]'_ = Y at *
          have im : (m : Int) < (k : Int) := by omega
          have hb2 := Lib.hid (blw hb1 (.cells #[.string Y.f, .string Y.s, .int .i64 Y.n] 72))
          have HNM := Lib.hid hnm; have HKR := Lib.hid hkr
          clear hnm hkr hb1
          cases qf : decide (X.key ∈ gkeys (a.take m))
          · have qb : (!decide (X.key ∈ gkeys (a.take m))) = true := by rw [qf]; rfl
            have hn2 := HNM.out; rw [qf, Bool.false_or, ← HKR.out] at hn2
            have HN2 := Lib.hid hn2
            rw [show (!false) = true from rfl]
            clear hn2 qb qf
            cases q1 : (Y.f.toList == X.f.toList)
            · have HN3 := Lib.hid (show decide (X.key ∈ gkeys (a.take (m + 1))) = false by rw [HN2.out, q1]; rfl)
              go_wp2_with fail
              go_roundw
              case rel => exact ⟨m + 1, hmk, by go_num, by rw [HN3.out]; rfl, hb2.out⟩
              case measure => simp [intOf] <;> omega
            · cases q2 : (Y.s.toList == X.s.toList)
              · have HN3 := Lib.hid (show decide (X.key ∈ gkeys (a.take (m + 1))) = false by rw [HN2.out, q1, q2]; rfl)
                go_wp2_with fail
                go_roundw
                case rel => exact ⟨m + 1, hmk, by go_num, by rw [HN3.out]; rfl, hb2.out⟩
                case measure => simp [intOf] <;> omega
              · have HN3 := Lib.hid (show decide (X.key ∈ gkeys (a.take (m + 1))) = true by rw [HN2.out, q1, q2]; rfl)
                go_wp2_with fail
                go_roundw
                case rel => exact ⟨m + 1, hmk, by go_num, by rw [HN3.out]; rfl, hb2.out⟩
                case measure => simp [intOf] <;> omega
          · have HN3 := Lib.hid (show decide (X.key ∈ gkeys (a.take (m + 1))) = true by rw [HNM.out, qf]; rfl)
            rw [show (!true) = false from rfl]
            clear qf
            go_wp2_with fail
            go_roundw
            case rel => exact ⟨m + 1, hmk, by go_num, by rw [HN3.out]; rfl, hb2.out⟩
            case measure => simp [intOf] <;> omega
        · obtain rfl : m = k := by omega
          have HB2 := Lib.hid (BelowOn HB.out hb1)
          cases qf : decide (X.key ∈ gkeys (a.take m))
          · rw [show (!false) = true from rfl]
            have HN2 := Lib.hid (show mOne a b (m + 1) = Mk + (OA - OB) by rw [HNX.out, if_neg (of_decide_eq_false qf)])
            obtain ⟨ca, cb⟩ := HC.out
            have w1 : IntKind.i64.wrap ((OA : Int) - (OB : Int)) = (OA : Int) - (OB : Int) := IntWalk.i64_in _ ⟨by omega, by omega⟩
            have hAr := Lib.hid (hA.call HB2.out); have hBr := Lib.hid (hB.call HB2.out)
            clear qf hb1
            go_wp2_with fail
            have q0 := cell_regrown e0; have q1 := cell_regrown e1; have q2 := cell_regrown e2
            have f1 := fun d os => Calls.regrown_of (ca (grow (redrawn wr d) os) (hAr.out.call (below_regrown wr d os)))
            have f2 := fun d os => Calls.regrown_of (cb (grow (redrawn wr d) os) (hBr.out.call (below_regrown wr d os)))
            refine wp_region_quiet_below (by kernel_rfl) (by kernel_rfl) ?_
            iterate 4 (go_big_quiet_step (exact f1 _ _))
            repeat (go_big_quiet_step (exact f2 _ _))
            refine wpQuiet_nil ?_
            intro _ hw'
            obtain ⟨⟨dq, osq⟩, hw''⟩ := hw'
            subst hw''
            have hb2 := below_regrown wr dq osq
            generalize grow (redrawn wr dq) osq = v2 at *
            clear q0 q1 q2 f1 f2 e0 e1 e2
            have HW := Lib.hid (BelowOn HB2.out hb2)
            clear hb2
            go_wp2_with fail
            go_roundw
            case rel => exact ⟨m + 1, hlt, by go_num, by rw [HN2.out]; congr 1; omega, HW.out⟩
            case measure => simp [intOf] <;> omega
          · rw [show (!true) = false from rfl]
            have HN2 := Lib.hid (show mOne a b (m + 1) = Mk by rw [HNX.out, if_pos (of_decide_eq_true qf)]; rfl)
            clear qf hb1 e0 e1 e2
            go_wp2_with fail
            go_roundw
            case rel => exact ⟨m + 1, hlt, by go_num, by rw [HN2.out], HB2.out⟩
            case measure => simp [intOf] <;> omega
    · obtain rfl : k = a.length := by omega
      rw [HEND.out]
      go_wp2_with fail
      go_ret
      exact ⟨rfl, hB1⟩
end Go.Proofs.YthfgpagmepdblaaGreat
namespace Go.Proofs.YthfgpagmepdblaaGreat
open Go.ChangeShapes Go.WideShapes Go.ChangeAt Go.RowKit Go.Maps Go.Sort
set_option linter.unusedVariables false
set_option linter.unusedSimpArgs false
set_option maxRecDepth 100000

theorem pair_next (w : List ByteArray) (k : Nat) (h : k ≤ w.length) : prsK w (k + 1) = prsK w k ++ [⟨befW w k, w.getD k ⟨#[]⟩⟩] := by
  rcases Nat.lt_or_ge k w.length with h1 | h1
  · rw [prsK_next w k h1]; simp [List.getD, List.getElem?_eq_getElem h1]
  · have e : k = w.length := by omega
    subst e
    rw [prsK_last]; simp [List.getD]
theorem prsK_len (w : List ByteArray) (k : Nat) : (prsK w k).length ≤ k := by unfold prsK; simp; omega
theorem row_before {W : World} {p : Option Addr} {l : List ByteArray} (h : Ones W Value.string p l) (i : Nat) (h0 : 0 < i) (hi : i ≤ l.length) : ∃ a, p = some a ∧ (a.add (i - 1)).block < W.heap.size ∧ W.cell? (a.add (i - 1)) = some (.string (befW l i)) := by
  obtain ⟨a, e, hl, hc⟩ := one_row h (i - 1) (by omega)
  refine ⟨a, e, by rw [add_block]; exact hl, ?_⟩
  rw [hc]; unfold befW; rw [dif_pos ⟨h0, hi⟩]
theorem OwnG.gsS {base n co : Nat} {L : List Gm} {po : Option Addr} {W : World} (h : OwnG base L (.slice po n co) W) : Gs W po L ∧ L.length ≤ co ∧ co ≤ maxLen := by
  obtain ⟨p, c, e, h1, h2, h3⟩ := OwnG.gs h
  simp only [Value.slice.injEq] at e
  obtain ⟨rfl, _, rfl⟩ := e
  exact ⟨h3, h1, h2⟩
theorem OwnG.at {base n co : Nat} {L : List Gm} {ad : Addr} {W : World} (h : OwnG base L (.slice (some ad) n co) W) (h0 : 0 < L.length) : ∃ g cur, ad = ⟨g, 0, none⟩ ∧ base ≤ g ∧ W.heap[g]? = some (.cells cur 72 (0, 0)) := by
  obtain ⟨g, cap, cur, e, h1, h2, _⟩ := OwnG.row h h0
  simp only [Value.slice.injEq, Option.some.injEq] at e
  exact ⟨g, cur, e.1, h1, h2⟩
theorem row_here {W : World} {p : Option Addr} {l : List ByteArray} (h : Ones W Value.string p l) (i : Nat) (hi : i < l.length) : ∃ a, p = some a ∧ (a.add i).block < W.heap.size ∧ W.cell? (a.add i) = some (.string (l.getD i ⟨#[]⟩)) := by
  obtain ⟨a, e, hl, hc⟩ := one_row h i hi
  refine ⟨a, e, by rw [add_block]; exact hl, ?_⟩
  rw [hc]; simp [List.getD, List.getElem?_eq_getElem hi]


set_option maxHeartbeats 25600000 in
theorem rgrams_any (p : Option Addr) (c : Nat) (l : List ByteArray) (w : World) (hW : Ones w Value.string p l) (hc : l.length ≤ c) (hcm : c ≤ maxLen) (hl : l.length ≤ 1000) :
    Calls Tryz.prog 41 #[.slice p l.length c] w (EndG (gramsL l) w) := by
  have HEND := Lib.hid (show gramsP (prsK l (l.length + 1)) = gramsL l by rw [prsK_all]; rfl)
  have HPN := Lib.hid (fun k h => pair_next l k h)
  have HPL := Lib.hid (fun k => prsK_len l k)
  have hcm' := hcm
  unfold maxLen at hcm'
  go_enter Tryz.func41, Tryz.ntmps41
  go_wp2_with fail
  go_loopw [3, 4] (fun v i wr => ∃ k : Nat, k ≤ l.length + 1 ∧ i = .int .i64 k ∧ OwnG w.heap.size (gramsP (prsK l k)) v wr ∧ Below w.heap.size w wr) (fun _ i _ => l.length + 1 - (intOf i).toNat)
  case atStart => exact ⟨0, Nat.zero_le _, rfl, OwnL.nil _ _, Below.refl _ _⟩
  case round =>
    obtain ⟨i, hi, rfl, hO, hB1⟩ := hrel
    by_cases hlt : i ≤ l.length
    · have hps := HPN.out i hlt
      have hnx : gramsP (prsK l (i + 1)) = gIns ⟨befW l i, l.getD i ⟨#[]⟩⟩ (gramsP (prsK l i)) := by rw [hps, gramsP_snoc]
      have hnn := gramsP_n (prsK l i)
      have hpl := HPL.out i
      have hll := Nat.le_trans (grams_len (prsK l i)) hpl
      have HN := Lib.hid (fun (g : Gm) hg => (show 0 ≤ g.n ∧ g.n ≤ 1001 by have := hnn g hg; omega))
      have ik : (i : Int) ≤ (l.length : Int) := by omega
      have HNX := Lib.hid hnx
      have HBV := fun f s => blw hB1 (.cells #[.string f, .string s, .int .i64 1] 72)
      have HOV := fun f s => World.ownsRow.alloc hO (.cells #[.string f, .string s, .int .i64 1] 72)
      have HHV := fun f s => heap_alloc_new wr (.cells #[.string f, .string s, .int .i64 1] 72)
      have HV := Lib.hid (And.intro HBV (And.intro HOV HHV))
      have hWr := hW.call hB1
      clear hps hnx hnn hpl HBV HOV HHV
      obtain ⟨po, co, rfl, hlo, hco, hIo⟩ := OwnG.gs hO
      clear hIo hO hB1
      generalize gramsP (prsK l i) = L at *
      generalize hPP : (⟨befW l i, l.getD i ⟨#[]⟩⟩ : Pr) = P at *
      have hPf : befW l i = P.f := by rw [← hPP]
      have hPs : l.getD i ⟨#[]⟩ = P.s := by rw [← hPP]
      obtain ⟨G, hG⟩ : ∃ G : Gm, G = ⟨P.f, P.s, 1⟩ := ⟨_, rfl⟩
      have HGK := Lib.hid (show G.key = P by rw [hG]; rfl)
      have HG := Lib.hid hG
      clear hPP hG
      by_cases h0 : 0 < i
      · obtain ⟨a, rfl, ha, r0⟩ := row_before hWr i h0 hlt
        rw [hPf] at r0
        have j1 : (i : Int) - 1 < (l.length : Int) := by omega
        have j0 : (0 : Int) ≤ (i : Int) - 1 := by omega
        have j2 : ((i : Int) - 1).toNat = i - 1 := by omega
        have z0' : (0 : Int) < (i : Int) := by omega
        by_cases h1 : i < l.length
        · obtain ⟨a', ea, ha2, r1⟩ := row_here hWr i h1
          injection ea with ea; subst ea
          rw [hPs] at r1
          have k1 : (i : Int) < (l.length : Int) := by omega
          go_upto_region 10 with (fail)
          obtain ⟨HBV, HOV, HHV⟩ := HV.out
          have hB0 := HBV P.f P.s; have hO0 := HOV P.f P.s; have hn0 := HHV P.f P.s
          have hH : HeldG wr.heap.size G (wr.alloc (.cells #[.string P.f, .string P.s, .int .i64 1] 72)) := ⟨by rw [Lib.cell_of_heap hn0, HG.out]; first | done | rfl, by rw [Lib.cell_of_heap hn0, HG.out]; first | done | rfl, by rw [Lib.cell_of_heap hn0, HG.out]; first | done | rfl⟩
          have HB := Lib.hid hB0; have HO := Lib.hid hO0
          clear HBV HOV HHV hB0 hO0 hn0 HV hPf hPs
          generalize (wr.alloc (.cells #[.string P.f, .string P.s, .int .i64 1] 72)) = w1 at *
          generalize wr.heap.size = g at *
          clear r0 r1 ha ha2 hWr j0 j1 j2
          have hgl : g < w1.heap.size := hH.lt
          go_wp2_with fail
          go_loopw [6] (fun kk wr => ∃ m : Nat, m ≤ L.length ∧ kk = .int .i64 m ∧ Below w1.heap.size w1 wr ∧ Hid (∀ j (hj : j < L.length), j < m → bfP L[j].key P = true)) (fun kk _ => L.length - (intOf kk).toNat)
          case atStart => exact ⟨0, Nat.zero_le _, rfl, Below.refl _ _, Lib.hid (fun j _ h => by omega)⟩
          case round =>
            obtain ⟨m, hmL, rfl, hb1, HM⟩ := hrel
            have hb1 : RowKit.Below w1.heap.size w1 wr := hb1
            have hH1 := heldG_call hH hb1
            obtain ⟨y0, y1, y2⟩ := id hH1
            have hO1 := Lib.hid (OwnL.call HO.out hb1)
            have gl1 := hH1.lt
            have HB1 := Lib.hid (BelowOn HB.out hb1)
            by_cases hml : m < L.length
            · obtain ⟨ad, rfl, had, z0, z1, z2⟩ := (OwnG.gsS hO1.out).1.row m hml
              have hbf := fun W => before_any L[m] G W
              have hfb := fun W => before_any G L[m] W
              have hn := HN.out _ (List.getElem_mem hml)
              rw [HGK.out] at hbf hfb
              have im : (m : Int) < (L.length : Int) := by omega
              have HNEXT := Lib.hid (fun (h : bfP L[m].key P = true) j (hj : j < L.length) (hjm : j < m + 1) => (by
                rcases Nat.lt_or_ge j m with h1 | h1
                · exact HM.out j hj h1
                · have e : j = m := by omega
                  subst e; exact h : bfP L[j].key P = true))
              have HI1 := Lib.hid (fun (h : bfP L[m].key P = false) (h2 : bfP P L[m].key = true) => gIns_ins P L m hmL HM.out (fun _ => ⟨h, h2⟩))
              have HI2 := Lib.hid (fun (h : bfP L[m].key P = false) (h2 : bfP P L[m].key = false) => gIns_bump P L m hml HM.out h h2)
              have HBU := Lib.hid (fun (W : World) g8 (h : OwnG w.heap.size L (.slice (some ⟨g8, 0, none⟩) L.length co) W) => OwnG.bump h m hml (L[m].n + 1))
              generalize hX : L[m] = X at *
              have HXL := Lib.hid hX
              clear hX HM
              go_wp2_with fail
              have q0 := cell_regrown y0; have q1 := cell_regrown y1; have q2 := cell_regrown y2; have q3 := cell_regrown z0; have q4 := cell_regrown z1; have q5 := cell_regrown z2
              have e1 := fun d os => Calls.regrown_of (hbf (grow (redrawn wr d) os))
              refine wp_region_quiet_below (by kernel_rfl) (by kernel_rfl) ?_
              repeat (go_big_quiet_step (exact e1 _ _))
              refine wpQuiet_nil ?_
              intro _ hw'
              obtain ⟨⟨dq, osq⟩, hw''⟩ := hw'
              subst hw''
              have hb2 := below_regrown wr dq osq
              generalize grow (redrawn wr dq) osq = vr2 at *
              clear q0 q1 q2 q3 q4 q5 e1 hbf
              have HBn := Lib.hid (BelowOn hb1 hb2)
              have HB2 := Lib.hid (BelowOn HB1.out hb2)
              have hO2 := Lib.hid (OwnL.call hO1.out hb2)
              have hH2 := heldG_call hH1 hb2
              clear hb1 hb2 y0 y1 y2 z0 z1 z2 hO1 HB1 hH1
              cases qb : bfP X.key P
              · obtain ⟨ad', ead, had2, z0, z1, z2⟩ := (OwnG.gsS hO2.out).1.row m hml
                rw [HXL.out] at z0 z1 z2
                injection ead with ead; subst ead
                obtain ⟨y0, y1, y2⟩ := id hH2
                go_wp2_with fail
                have q0 := cell_regrown y0; have q1 := cell_regrown y1; have q2 := cell_regrown y2; have q3 := cell_regrown z0; have q4 := cell_regrown z1; have q5 := cell_regrown z2
                have e1 := fun d os => Calls.regrown_of (hfb (grow (redrawn vr2 d) os))
                refine wp_region_quiet_below (by kernel_rfl) (by kernel_rfl) ?_
                repeat (go_big_quiet_step (exact e1 _ _))
                refine wpQuiet_nil ?_
                intro _ hw'
                obtain ⟨⟨dq, osq⟩, hw''⟩ := hw'
                subst hw''
                have hb2 := below_regrown vr2 dq osq
                generalize grow (redrawn vr2 dq) osq = vr3 at *
                clear q0 q1 q3 q4 q5 e1 hfb
                have HB3 := Lib.hid (BelowOn HB2.out hb2)
                have hO3 := Lib.hid (OwnL.call hO2.out hb2)
                have hH3 := heldG_call hH2 hb2
                have gl3 := hH3.lt
                clear hb2 y0 y1 y2 z0 z1 z2 q2 hO2 HB2 hH2
                cases qp : bfP P X.key
                · have HIN := Lib.hid (HI2.out qb qp)
                  clear qb
                  obtain ⟨g8, cur8, e8, hg8, h8⟩ := OwnG.at hO3.out (by omega)
                  obtain ⟨ad', ead, had3, z0, z1, z2⟩ := (OwnG.gsS hO3.out).1.row m hml
                  rw [HXL.out] at z0 z1 z2
                  injection ead with ead; subst ead
                  have hE8 := Lib.hid e8
                  have eadr : (⟨(ad.add (m * 3)).block, (ad.add (m * 3)).off + 2, none⟩ : Addr) = ⟨g8, m * 3 + 2, none⟩ := by rw [add_next _ _ _ (by omega), e8, addr0]
                  have hfz : vr3.frozen? ⟨(ad.add (m * 3)).block, (ad.add (m * 3)).off + 2, none⟩ = false := by rw [eadr]; exact Lib.frozen_of_heap h8 _
                  have hnew := HBU.out vr3 g8 (by rw [← e8]; exact hO3.out)
                  have hgr := grow_cell vr3 g8 (m * 3 + 2) (.int .i64 (X.n + 1))
                  rw [← eadr] at hnew hgr
                  have hbe := below_of_grow HB3.out hgr HB3.out.size hg8
                  rw [← e8] at hnew
                  have HW := Lib.hid (And.intro hnew hbe)
                  have wr1 : IntKind.i64.wrap (X.n + 1) = X.n + 1 := IntWalk.i64_in _ ⟨by omega, by omega⟩
                  clear eadr hnew hgr hbe e8 h8 cur8 hg8
                  go_wp2_with fail
                  go_roundw
                  case rel => exact ⟨i + 1, by omega, by go_num, by rw [HNX.out, HIN.out]; exact HW.out.1, HW.out.2⟩
                  case measure => simp [intOf] <;> omega
                · have HIN := Lib.hid (show gIns P L = L.take m ++ ([G] ++ L.drop m) by rw [HI1.out qb qp, HG.out])
                  clear qb HI1 HI2 HBU HNEXT
                  have hH2 := Lib.hid hH3; have hO2 := hO3; have HB2 := HB3
                  have gl2 := gl3
                  go_upto_region 15 with (fail)
                  generalize hpo : (some ad : Option Addr) = po at *
                  clear hH3 hO3 HB3 gl3
                  have s0 : (0 : Int) ≤ (m : Int) := by omega
                  have s1 : (m : Int) ≤ (L.length : Int) := by omega
                  have s2 : (m : Int) ≤ (co : Int) := by omega
                  obtain ⟨y0, y1, y2⟩ := hH2.out
                  have hI := hO2.out
                  have HBw := HB2
                  refine wp_region_held_drew (S := fun W => W.cell? ⟨g, 0, none⟩ = some (.string G.f) ∧ W.cell? ⟨g, 1, none⟩ = some (.string G.s) ∧ W.cell? ⟨g, 2, none⟩ = some (.int .i64 G.n)) (by kernel_rfl) ⟨y0, y1, y2⟩ (fun hHeld => ?_)
                  refine wpAnyH_take (i := 0) (v := ?_) rfl (by kernel_rfl) (by kernel_rfl) (by kernel_rfl) (fun _ _ _ h => h) (Or.inl ⟨by rfl, ?_⟩) hHeld ?_
                  rotate_left
                  · (intro w hSw; obtain ⟨c0, c1, c2⟩ := hSw; go_simp; try with_reducible rfl)
                  try simp only [Act.put, List.getElem_toArray, List.getElem_cons_zero, List.getElem_cons_succ, List.setIfInBounds_toArray, List.set_cons_zero, List.set_cons_succ]
                  refine wpAnyH_take (i := 2) (v := ?_) rfl (by kernel_rfl) (by kernel_rfl) (by kernel_rfl) (fun _ _ _ h => h) (Or.inl ⟨by rfl, ?_⟩) hHeld ?_
                  rotate_left
                  · (intro w hSw; go_simp; try with_reducible rfl)
                  try simp only [Act.put, List.getElem_toArray, List.getElem_cons_zero, List.getElem_cons_succ, List.setIfInBounds_toArray, List.set_cons_zero, List.set_cons_succ]
                  refine wpAnyH_take (i := 3) (v := ?_) rfl (by kernel_rfl) (by kernel_rfl) (by kernel_rfl) (fun _ _ _ h => h) (Or.inl ⟨by rfl, ?_⟩) hHeld ?_
                  rotate_left
                  · (intro w hSw; go_simp; try with_reducible rfl)
                  try simp only [Act.put, List.getElem_toArray, List.getElem_cons_zero, List.getElem_cons_succ, List.setIfInBounds_toArray, List.set_cons_zero, List.set_cons_succ]
                  refine wpAnyH_take (i := 4) (v := ?_) rfl (by kernel_rfl) (by kernel_rfl) (by kernel_rfl) (fun _ _ _ h => h) (Or.inl ⟨by rfl, ?_⟩) hHeld ?_
                  rotate_left
                  · (intro w hSw; go_simp; try with_reducible rfl)
                  try simp only [Act.put, List.getElem_toArray, List.getElem_cons_zero, List.getElem_cons_succ, List.setIfInBounds_toArray, List.set_cons_zero, List.set_cons_succ]
                  have hBd : Below w.heap.size w vr3.drew := HBw.out.drew
                  have hId : OwnG w.heap.size L (.slice po L.length co) vr3.drew := hI
                  have vl2 : g < vr3.drew.heap.size := gl2
                  clear hI y0 y1 y2
                  generalize vr3.drew = w2 at *
                  refine wpAnyH_ready (rs := [1]) (by kernel_rfl) (by simp) ?_
                  refine AllReadyH.cons rfl (fun K hK => ?_) AllReadyH.nil
                  have hone := heap_alloc_new w2 (.cells (gcells [G]).toArray 72)
                  have hb3 := (Below.refl w2.heap.size w2).alloc (Nat.le_refl _) (.cells (gcells [G]).toArray 72)
                  have hs3 : (w2.alloc (.cells (gcells [G]).toArray 72)).heap.size = w2.heap.size + 1 := by simp
                  have hHeld2 := heldG_call hHeld hb3
                  have hHX := Lib.hid (And.intro hone (And.intro hb3 hs3))
                  clear hone hb3 hs3
                  go_simp
                  refine hK.out _ _ hHeld2 (fun hHeld => ?_)
                  clear hK K hHeld2
                  try simp only [Act.put, List.getElem_toArray, List.getElem_cons_zero, List.getElem_cons_succ, List.setIfInBounds_toArray, List.set_cons_zero, List.set_cons_succ]
                  obtain ⟨hone, hb3, hs3⟩ := hHX.out
                  have hB3 := BelowOn hBd hb3
                  have hI3 := OwnL.call hId hb3
                  have hcells : (w2.alloc (.cells #[.string G.f, .string G.s, .int .i64 G.n] 72)) = (w2.alloc (.cells (gcells [G]).toArray 72)) := rfl
                  rw [hcells]
                  rw [hcells] at hHeld
                  clear hcells hHX
                  have hown : OwnG w.heap.size [G] (.slice (some ⟨w2.heap.size, 0, none⟩) 1 1) _ := own_litG (L := [G]) hone hBd.size (by simp [gcells]) (by unfold maxLen; simp)
                  generalize (w2.alloc (.cells (gcells [G]).toArray 72)) = w3 at *
                  have hI4 := (OwnG.gsS hI3).1
                  have hdr := gs_drop w3 po L hI4 m hmL (if co = m then po else Option.map (fun x => x.add (m * 3)) po) (fun a ha hlt => by rw [if_neg (by omega), ha]; rfl)
                  obtain ⟨v', w4, hrun, hown4, hg4⟩ := append_grams w3 58 w.heap.size [G] (L.drop m) _ _ (co - m) hown hdr hB3.size (by simp; omega)
                  rw [List.length_drop] at hrun
                  replace hg4 : w3.grownBy w4 (some w2.heap.size) := hg4
                  refine wpAnyH_ready (rs := [5]) (by kernel_rfl) (by simp) ?_
                  refine AllReadyH.cons rfl (fun K hK => ?_) AllReadyH.nil
                  have hB4 : Below w.heap.size w w4 := hB3.grown hg4 hB3.size (fun j hj => by injection hj with hj; have := hBd.size; omega)
                  have hI5 : Gs w4 po L := Gs.other hI4 hg4 (fun h0 a ha => by
                    rw [ha] at hId
                    obtain ⟨g9, cur9, e9, _, h9⟩ := OwnG.at hId h0
                    have := heap_lt h9
                    rw [e9]; show g9 ≠ _; omega)
                  have hHeld4 := heldG_grow hHeld hg4 (by omega)
                  have HX := Lib.hid (And.intro hown4 (And.intro hB4 hI5))
                  clear hown hdr hown4 hB3 hI3 hB4 hI4 hI5 hg4 hone hb3 hs3 hId hBd
                  refine step_of_wp rfl ?_
                  refine Lib.wp_append_run w3 _ _ 58 58 rfl _ _ rfl rfl v' w4 hrun ?_
                  refine hK.out _ _ hHeld4 (fun hHeld => ?_)
                  clear hK K hHeld4
                  try simp only [Act.put, List.getElem_toArray, List.getElem_cons_zero, List.getElem_cons_succ, List.setIfInBounds_toArray, List.set_cons_zero, List.set_cons_succ]
                  refine wpAnyH_take (i := 6) (v := ?_) rfl (by kernel_rfl) (by kernel_rfl) (by kernel_rfl) (fun _ _ _ h => h) (Or.inl ⟨by rfl, ?_⟩) hHeld ?_
                  rotate_left
                  · (intro w hSw; go_simp; try with_reducible rfl)
                  try simp only [Act.put, List.getElem_toArray, List.getElem_cons_zero, List.getElem_cons_succ, List.setIfInBounds_toArray, List.set_cons_zero, List.set_cons_succ]
                  refine wpAnyH_done (by kernel_rfl) ?_ _
                  obtain ⟨hown4, hB4, hI4⟩ := HX.out
                  obtain ⟨p3, c3, rfl, h31, h32, h3⟩ := OwnG.gs hown4
                  have hlen : ([G] ++ L.drop m).length = 1 + (L.length - m) := by simp; omega
                  generalize hTT : [G] ++ L.drop m = T at *
                  have HTT := Lib.hid hTT; have HL := Lib.hid hlen; have HB4 := Lib.hid hB4
                  clear hTT hlen hown4 HX hHeld hrun hB4
                  have hl1 : T.length ≤ 2000 := by have := HL.out; omega
                  have tok : True := trivial
                  have ht := gs_take hI4 m
                  have hkl := Lib.hid (show m = (L.take m).length by simp; omega)
                  have hS := Acc.start (e := 72) (size := 3) (enc := genc) w4
                  generalize L.take m = T0 at *
                  have hl0 : T0.length ≤ 2000 := by have := hkl.out; omega
                  generalize (if co = m then po else Option.map (fun x => x.add (m * 3)) po) = pz at *
                  go_upto_region 4 with (first
                    | (at_builtin; have _t := tok; refine wpl_catG rfl _ _ rfl w4 [] T0 _ rfl hS po _ co rfl hkl.out ht (by simp; omega) ?_; intro v1 u1 hA1; rw [List.nil_append] at hA1; clear tok)
                    | (at_builtin; refine wpl_catG rfl _ _ rfl w4 T0 T v1 rfl hA1 p3 _ c3 rfl rfl (h3.call hA1.below) (by omega) ?_; intro v2 u2 hA2; clear hA1))
                  have hfin : OwnG w.heap.size (T0 ++ T) v2 u2 := ownsRow_base hA2.own HB4.out.size
                  have hbf := BelowOn HB4.out hA2.below
                  go_wp2_with fail
                  go_roundw
                  case rel => exact ⟨i + 1, by omega, by go_num, by rw [HNX.out, HIN.out]; exact hfin, hbf⟩
                  case measure => simp [intOf] <;> omega
              · have HN2 := Lib.hid (HNEXT.out qb)
                clear hfb
                go_wp2_with fail
                go_roundw
                case rel => exact ⟨m + 1, hml, by go_num, HBn.out, HN2⟩
                case measure => simp [intOf] <;> omega
            · have nlt : ¬ ((m : Int) < (L.length : Int)) := by omega
              have HIN := Lib.hid (show gIns P L = L.take m ++ ([G] ++ L.drop m) by rw [gIns_ins P L m hmL HM.out (fun h => by omega), HG.out])
              have q0 := cell_regrown y0; have q1 := cell_regrown y1; have q2 := cell_regrown y2
              clear HM
              go_wp2_with fail
              refine wp_region_quiet_below (by kernel_rfl) (by kernel_rfl) ?_
              repeat (go_big_quiet_step (fail))
              refine wpQuiet_nil ?_
              intro _ hw'
              obtain ⟨⟨dq, osq⟩, hw''⟩ := hw'
              subst hw''
              have hb2 := below_regrown wr dq osq
              generalize grow (redrawn wr dq) osq = vr2 at *
              clear q0 q1 q2
              have HB2 := Lib.hid (BelowOn HB1.out hb2)
              have hO2 := Lib.hid (OwnL.call hO1.out hb2)
              have hH2 := heldG_call hH1 hb2
              clear hb1 hb2 y0 y1 y2 hO1 HB1 hH1
              obtain ⟨y0, y1, y2⟩ := id hH2
              have q0 := cell_regrown y0; have q1 := cell_regrown y1; have q2 := cell_regrown y2
              go_wp2_with fail
              refine wp_region_quiet_below (by kernel_rfl) (by kernel_rfl) ?_
              repeat (go_big_quiet_step (fail))
              refine wpQuiet_nil ?_
              intro _ hw'
              obtain ⟨⟨dq, osq⟩, hw''⟩ := hw'
              subst hw''
              have hb2 := below_regrown vr2 dq osq
              generalize grow (redrawn vr2 dq) osq = vr3 at *
              clear q0 q1 q2 y0 y1 y2
              have HB3 := Lib.hid (BelowOn HB2.out hb2)
              have hO3 := Lib.hid (OwnL.call hO2.out hb2)
              have hH3 := heldG_call hH2 hb2
              have gl2 := hH3.lt
              clear hb2 HB2 hO2 hH2
              have hH2 := Lib.hid hH3; have hO2 := hO3; have HB2 := HB3
              go_upto_region 15 with (fail)
              clear hH3 hO3 HB3
              have s0 : (0 : Int) ≤ (m : Int) := by omega
              have s1 : (m : Int) ≤ (L.length : Int) := by omega
              have s2 : (m : Int) ≤ (co : Int) := by omega
              obtain ⟨y0, y1, y2⟩ := hH2.out
              have hI := hO2.out
              have HBw := HB2
              refine wp_region_held_drew (S := fun W => W.cell? ⟨g, 0, none⟩ = some (.string G.f) ∧ W.cell? ⟨g, 1, none⟩ = some (.string G.s) ∧ W.cell? ⟨g, 2, none⟩ = some (.int .i64 G.n)) (by kernel_rfl) ⟨y0, y1, y2⟩ (fun hHeld => ?_)
              refine wpAnyH_take (i := 0) (v := ?_) rfl (by kernel_rfl) (by kernel_rfl) (by kernel_rfl) (fun _ _ _ h => h) (Or.inl ⟨by rfl, ?_⟩) hHeld ?_
              rotate_left
              · (intro w hSw; obtain ⟨c0, c1, c2⟩ := hSw; go_simp; try with_reducible rfl)
              try simp only [Act.put, List.getElem_toArray, List.getElem_cons_zero, List.getElem_cons_succ, List.setIfInBounds_toArray, List.set_cons_zero, List.set_cons_succ]
              refine wpAnyH_take (i := 2) (v := ?_) rfl (by kernel_rfl) (by kernel_rfl) (by kernel_rfl) (fun _ _ _ h => h) (Or.inl ⟨by rfl, ?_⟩) hHeld ?_
              rotate_left
              · (intro w hSw; go_simp; try with_reducible rfl)
              try simp only [Act.put, List.getElem_toArray, List.getElem_cons_zero, List.getElem_cons_succ, List.setIfInBounds_toArray, List.set_cons_zero, List.set_cons_succ]
              refine wpAnyH_take (i := 3) (v := ?_) rfl (by kernel_rfl) (by kernel_rfl) (by kernel_rfl) (fun _ _ _ h => h) (Or.inl ⟨by rfl, ?_⟩) hHeld ?_
              rotate_left
              · (intro w hSw; go_simp; try with_reducible rfl)
              try simp only [Act.put, List.getElem_toArray, List.getElem_cons_zero, List.getElem_cons_succ, List.setIfInBounds_toArray, List.set_cons_zero, List.set_cons_succ]
              refine wpAnyH_take (i := 4) (v := ?_) rfl (by kernel_rfl) (by kernel_rfl) (by kernel_rfl) (fun _ _ _ h => h) (Or.inl ⟨by rfl, ?_⟩) hHeld ?_
              rotate_left
              · (intro w hSw; go_simp; try with_reducible rfl)
              try simp only [Act.put, List.getElem_toArray, List.getElem_cons_zero, List.getElem_cons_succ, List.setIfInBounds_toArray, List.set_cons_zero, List.set_cons_succ]
              have hBd : Below w.heap.size w vr3.drew := HBw.out.drew
              have hId : OwnG w.heap.size L (.slice po L.length co) vr3.drew := hI
              have vl2 : g < vr3.drew.heap.size := gl2
              clear hI y0 y1 y2
              generalize vr3.drew = w2 at *
              refine wpAnyH_ready (rs := [1]) (by kernel_rfl) (by simp) ?_
              refine AllReadyH.cons rfl (fun K hK => ?_) AllReadyH.nil
              have hone := heap_alloc_new w2 (.cells (gcells [G]).toArray 72)
              have hb3 := (Below.refl w2.heap.size w2).alloc (Nat.le_refl _) (.cells (gcells [G]).toArray 72)
              have hs3 : (w2.alloc (.cells (gcells [G]).toArray 72)).heap.size = w2.heap.size + 1 := by simp
              have hHeld2 := heldG_call hHeld hb3
              have hHX := Lib.hid (And.intro hone (And.intro hb3 hs3))
              clear hone hb3 hs3
              go_simp
              refine hK.out _ _ hHeld2 (fun hHeld => ?_)
              clear hK K hHeld2
              try simp only [Act.put, List.getElem_toArray, List.getElem_cons_zero, List.getElem_cons_succ, List.setIfInBounds_toArray, List.set_cons_zero, List.set_cons_succ]
              obtain ⟨hone, hb3, hs3⟩ := hHX.out
              have hB3 := BelowOn hBd hb3
              have hI3 := OwnL.call hId hb3
              have hcells : (w2.alloc (.cells #[.string G.f, .string G.s, .int .i64 G.n] 72)) = (w2.alloc (.cells (gcells [G]).toArray 72)) := rfl
              rw [hcells]
              rw [hcells] at hHeld
              clear hcells hHX
              have hown : OwnG w.heap.size [G] (.slice (some ⟨w2.heap.size, 0, none⟩) 1 1) _ := own_litG (L := [G]) hone hBd.size (by simp [gcells]) (by unfold maxLen; simp)
              generalize (w2.alloc (.cells (gcells [G]).toArray 72)) = w3 at *
              have hI4 := (OwnG.gsS hI3).1
              have hdr := gs_drop w3 po L hI4 m hmL (if co = m then po else Option.map (fun x => x.add (m * 3)) po) (fun a ha hlt => by rw [if_neg (by omega), ha]; rfl)
              obtain ⟨v', w4, hrun, hown4, hg4⟩ := append_grams w3 58 w.heap.size [G] (L.drop m) _ _ (co - m) hown hdr hB3.size (by simp; omega)
              rw [List.length_drop] at hrun
              replace hg4 : w3.grownBy w4 (some w2.heap.size) := hg4
              refine wpAnyH_ready (rs := [5]) (by kernel_rfl) (by simp) ?_
              refine AllReadyH.cons rfl (fun K hK => ?_) AllReadyH.nil
              have hB4 : Below w.heap.size w w4 := hB3.grown hg4 hB3.size (fun j hj => by injection hj with hj; have := hBd.size; omega)
              have hI5 : Gs w4 po L := Gs.other hI4 hg4 (fun h0 a ha => by
                rw [ha] at hId
                obtain ⟨g9, cur9, e9, _, h9⟩ := OwnG.at hId h0
                have := heap_lt h9
                rw [e9]; show g9 ≠ _; omega)
              have hHeld4 := heldG_grow hHeld hg4 (by omega)
              have HX := Lib.hid (And.intro hown4 (And.intro hB4 hI5))
              clear hown hdr hown4 hB3 hI3 hB4 hI4 hI5 hg4 hone hb3 hs3 hId hBd
              refine step_of_wp rfl ?_
              refine Lib.wp_append_run w3 _ _ 58 58 rfl _ _ rfl rfl v' w4 hrun ?_
              refine hK.out _ _ hHeld4 (fun hHeld => ?_)
              clear hK K hHeld4
              try simp only [Act.put, List.getElem_toArray, List.getElem_cons_zero, List.getElem_cons_succ, List.setIfInBounds_toArray, List.set_cons_zero, List.set_cons_succ]
              refine wpAnyH_take (i := 6) (v := ?_) rfl (by kernel_rfl) (by kernel_rfl) (by kernel_rfl) (fun _ _ _ h => h) (Or.inl ⟨by rfl, ?_⟩) hHeld ?_
              rotate_left
              · (intro w hSw; go_simp; try with_reducible rfl)
              try simp only [Act.put, List.getElem_toArray, List.getElem_cons_zero, List.getElem_cons_succ, List.setIfInBounds_toArray, List.set_cons_zero, List.set_cons_succ]
              refine wpAnyH_done (by kernel_rfl) ?_ _
              obtain ⟨hown4, hB4, hI4⟩ := HX.out
              obtain ⟨p3, c3, rfl, h31, h32, h3⟩ := OwnG.gs hown4
              have hlen : ([G] ++ L.drop m).length = 1 + (L.length - m) := by simp; omega
              generalize hTT : [G] ++ L.drop m = T at *
              have HTT := Lib.hid hTT; have HL := Lib.hid hlen; have HB4 := Lib.hid hB4
              clear hTT hlen hown4 HX hHeld hrun hB4
              have hl1 : T.length ≤ 2000 := by have := HL.out; omega
              have tok : True := trivial
              have ht := gs_take hI4 m
              have hkl := Lib.hid (show m = (L.take m).length by simp; omega)
              have hS := Acc.start (e := 72) (size := 3) (enc := genc) w4
              generalize L.take m = T0 at *
              have hl0 : T0.length ≤ 2000 := by have := hkl.out; omega
              generalize (if co = m then po else Option.map (fun x => x.add (m * 3)) po) = pz at *
              go_upto_region 4 with (first
                | (at_builtin; have _t := tok; refine wpl_catG rfl _ _ rfl w4 [] T0 _ rfl hS po _ co rfl hkl.out ht (by simp; omega) ?_; intro v1 u1 hA1; rw [List.nil_append] at hA1; clear tok)
                | (at_builtin; refine wpl_catG rfl _ _ rfl w4 T0 T v1 rfl hA1 p3 _ c3 rfl rfl (h3.call hA1.below) (by omega) ?_; intro v2 u2 hA2; clear hA1))
              have hfin : OwnG w.heap.size (T0 ++ T) v2 u2 := ownsRow_base hA2.own HB4.out.size
              have hbf := BelowOn HB4.out hA2.below
              go_wp2_with fail
              go_roundw
              case rel => exact ⟨i + 1, by omega, by go_num, by rw [HNX.out, HIN.out]; exact hfin, hbf⟩
              case measure => simp [intOf] <;> omega
        · have k1 : ¬ ((i : Int) < (l.length : Int)) := by omega
          have hPs2 : (⟨#[]⟩ : ByteArray) = P.s := by rw [← hPs]; simp [List.getD, List.getElem?_eq_none (show l.length ≤ i by omega)]
          have HPS := Lib.hid hPs2; clear hPs2
          go_upto_region 10 with (fail)
          obtain ⟨HBV, HOV, HHV⟩ := HV.out
          have hB0 := HBV P.f ⟨#[]⟩; have hO0 := HOV P.f ⟨#[]⟩; have hn0 := HHV P.f ⟨#[]⟩
          have hH : HeldG wr.heap.size G (wr.alloc (.cells #[.string P.f, .string ⟨#[]⟩, .int .i64 1] 72)) := ⟨by rw [Lib.cell_of_heap hn0, HG.out]; first | done | rfl, by rw [Lib.cell_of_heap hn0, HG.out, ← HPS.out]; first | done | rfl, by rw [Lib.cell_of_heap hn0, HG.out]; first | done | rfl⟩
          have HB := Lib.hid hB0; have HO := Lib.hid hO0
          clear HBV HOV HHV hB0 hO0 hn0 HV hPf hPs
          generalize (wr.alloc (.cells #[.string P.f, .string ⟨#[]⟩, .int .i64 1] 72)) = w1 at *
          generalize wr.heap.size = g at *
          clear r0 ha hWr j0 j1 j2
          have hgl : g < w1.heap.size := hH.lt
          go_wp2_with fail
          go_loopw [6] (fun kk wr => ∃ m : Nat, m ≤ L.length ∧ kk = .int .i64 m ∧ Below w1.heap.size w1 wr ∧ Hid (∀ j (hj : j < L.length), j < m → bfP L[j].key P = true)) (fun kk _ => L.length - (intOf kk).toNat)
          case atStart => exact ⟨0, Nat.zero_le _, rfl, Below.refl _ _, Lib.hid (fun j _ h => by omega)⟩
          case round =>
            obtain ⟨m, hmL, rfl, hb1, HM⟩ := hrel
            have hb1 : RowKit.Below w1.heap.size w1 wr := hb1
            have hH1 := heldG_call hH hb1
            obtain ⟨y0, y1, y2⟩ := id hH1
            have hO1 := Lib.hid (OwnL.call HO.out hb1)
            have gl1 := hH1.lt
            have HB1 := Lib.hid (BelowOn HB.out hb1)
            by_cases hml : m < L.length
            · obtain ⟨ad, rfl, had, z0, z1, z2⟩ := (OwnG.gsS hO1.out).1.row m hml
              have hbf := fun W => before_any L[m] G W
              have hfb := fun W => before_any G L[m] W
              have hn := HN.out _ (List.getElem_mem hml)
              rw [HGK.out] at hbf hfb
              have im : (m : Int) < (L.length : Int) := by omega
              have HNEXT := Lib.hid (fun (h : bfP L[m].key P = true) j (hj : j < L.length) (hjm : j < m + 1) => (by
                rcases Nat.lt_or_ge j m with h1 | h1
                · exact HM.out j hj h1
                · have e : j = m := by omega
                  subst e; exact h : bfP L[j].key P = true))
              have HI1 := Lib.hid (fun (h : bfP L[m].key P = false) (h2 : bfP P L[m].key = true) => gIns_ins P L m hmL HM.out (fun _ => ⟨h, h2⟩))
              have HI2 := Lib.hid (fun (h : bfP L[m].key P = false) (h2 : bfP P L[m].key = false) => gIns_bump P L m hml HM.out h h2)
              have HBU := Lib.hid (fun (W : World) g8 (h : OwnG w.heap.size L (.slice (some ⟨g8, 0, none⟩) L.length co) W) => OwnG.bump h m hml (L[m].n + 1))
              generalize hX : L[m] = X at *
              have HXL := Lib.hid hX
              clear hX HM
              go_wp2_with fail
              have q0 := cell_regrown y0; have q1 := cell_regrown y1; have q2 := cell_regrown y2; have q3 := cell_regrown z0; have q4 := cell_regrown z1; have q5 := cell_regrown z2
              have e1 := fun d os => Calls.regrown_of (hbf (grow (redrawn wr d) os))
              refine wp_region_quiet_below (by kernel_rfl) (by kernel_rfl) ?_
              repeat (go_big_quiet_step (exact e1 _ _))
              refine wpQuiet_nil ?_
              intro _ hw'
              obtain ⟨⟨dq, osq⟩, hw''⟩ := hw'
              subst hw''
              have hb2 := below_regrown wr dq osq
              generalize grow (redrawn wr dq) osq = vr2 at *
              clear q0 q1 q2 q3 q4 q5 e1 hbf
              have HBn := Lib.hid (BelowOn hb1 hb2)
              have HB2 := Lib.hid (BelowOn HB1.out hb2)
              have hO2 := Lib.hid (OwnL.call hO1.out hb2)
              have hH2 := heldG_call hH1 hb2
              clear hb1 hb2 y0 y1 y2 z0 z1 z2 hO1 HB1 hH1
              cases qb : bfP X.key P
              · obtain ⟨ad', ead, had2, z0, z1, z2⟩ := (OwnG.gsS hO2.out).1.row m hml
                rw [HXL.out] at z0 z1 z2
                injection ead with ead; subst ead
                obtain ⟨y0, y1, y2⟩ := id hH2
                go_wp2_with fail
                have q0 := cell_regrown y0; have q1 := cell_regrown y1; have q2 := cell_regrown y2; have q3 := cell_regrown z0; have q4 := cell_regrown z1; have q5 := cell_regrown z2
                have e1 := fun d os => Calls.regrown_of (hfb (grow (redrawn vr2 d) os))
                refine wp_region_quiet_below (by kernel_rfl) (by kernel_rfl) ?_
                repeat (go_big_quiet_step (exact e1 _ _))
                refine wpQuiet_nil ?_
                intro _ hw'
                obtain ⟨⟨dq, osq⟩, hw''⟩ := hw'
                subst hw''
                have hb2 := below_regrown vr2 dq osq
                generalize grow (redrawn vr2 dq) osq = vr3 at *
                clear q0 q1 q3 q4 q5 e1 hfb
                have HB3 := Lib.hid (BelowOn HB2.out hb2)
                have hO3 := Lib.hid (OwnL.call hO2.out hb2)
                have hH3 := heldG_call hH2 hb2
                have gl3 := hH3.lt
                clear hb2 y0 y1 y2 z0 z1 z2 q2 hO2 HB2 hH2
                cases qp : bfP P X.key
                · have HIN := Lib.hid (HI2.out qb qp)
                  clear qb
                  obtain ⟨g8, cur8, e8, hg8, h8⟩ := OwnG.at hO3.out (by omega)
                  obtain ⟨ad', ead, had3, z0, z1, z2⟩ := (OwnG.gsS hO3.out).1.row m hml
                  rw [HXL.out] at z0 z1 z2
                  injection ead with ead; subst ead
                  have hE8 := Lib.hid e8
                  have eadr : (⟨(ad.add (m * 3)).block, (ad.add (m * 3)).off + 2, none⟩ : Addr) = ⟨g8, m * 3 + 2, none⟩ := by rw [add_next _ _ _ (by omega), e8, addr0]
                  have hfz : vr3.frozen? ⟨(ad.add (m * 3)).block, (ad.add (m * 3)).off + 2, none⟩ = false := by rw [eadr]; exact Lib.frozen_of_heap h8 _
                  have hnew := HBU.out vr3 g8 (by rw [← e8]; exact hO3.out)
                  have hgr := grow_cell vr3 g8 (m * 3 + 2) (.int .i64 (X.n + 1))
                  rw [← eadr] at hnew hgr
                  have hbe := below_of_grow HB3.out hgr HB3.out.size hg8
                  rw [← e8] at hnew
                  have HW := Lib.hid (And.intro hnew hbe)
                  have wr1 : IntKind.i64.wrap (X.n + 1) = X.n + 1 := IntWalk.i64_in _ ⟨by omega, by omega⟩
                  clear eadr hnew hgr hbe e8 h8 cur8 hg8
                  go_wp2_with fail
                  go_roundw
                  case rel => exact ⟨i + 1, by omega, by go_num, by rw [HNX.out, HIN.out]; exact HW.out.1, HW.out.2⟩
                  case measure => simp [intOf] <;> omega
                · have HIN := Lib.hid (show gIns P L = L.take m ++ ([G] ++ L.drop m) by rw [HI1.out qb qp, HG.out])
                  clear qb HI1 HI2 HBU HNEXT
                  have hH2 := Lib.hid hH3; have hO2 := hO3; have HB2 := HB3
                  have gl2 := gl3
                  go_upto_region 15 with (fail)
                  generalize hpo : (some ad : Option Addr) = po at *
                  clear hH3 hO3 HB3 gl3
                  have s0 : (0 : Int) ≤ (m : Int) := by omega
                  have s1 : (m : Int) ≤ (L.length : Int) := by omega
                  have s2 : (m : Int) ≤ (co : Int) := by omega
                  obtain ⟨y0, y1, y2⟩ := hH2.out
                  have hI := hO2.out
                  have HBw := HB2
                  refine wp_region_held_drew (S := fun W => W.cell? ⟨g, 0, none⟩ = some (.string G.f) ∧ W.cell? ⟨g, 1, none⟩ = some (.string G.s) ∧ W.cell? ⟨g, 2, none⟩ = some (.int .i64 G.n)) (by kernel_rfl) ⟨y0, y1, y2⟩ (fun hHeld => ?_)
                  refine wpAnyH_take (i := 0) (v := ?_) rfl (by kernel_rfl) (by kernel_rfl) (by kernel_rfl) (fun _ _ _ h => h) (Or.inl ⟨by rfl, ?_⟩) hHeld ?_
                  rotate_left
                  · (intro w hSw; obtain ⟨c0, c1, c2⟩ := hSw; go_simp; try with_reducible rfl)
                  try simp only [Act.put, List.getElem_toArray, List.getElem_cons_zero, List.getElem_cons_succ, List.setIfInBounds_toArray, List.set_cons_zero, List.set_cons_succ]
                  refine wpAnyH_take (i := 2) (v := ?_) rfl (by kernel_rfl) (by kernel_rfl) (by kernel_rfl) (fun _ _ _ h => h) (Or.inl ⟨by rfl, ?_⟩) hHeld ?_
                  rotate_left
                  · (intro w hSw; go_simp; try with_reducible rfl)
                  try simp only [Act.put, List.getElem_toArray, List.getElem_cons_zero, List.getElem_cons_succ, List.setIfInBounds_toArray, List.set_cons_zero, List.set_cons_succ]
                  refine wpAnyH_take (i := 3) (v := ?_) rfl (by kernel_rfl) (by kernel_rfl) (by kernel_rfl) (fun _ _ _ h => h) (Or.inl ⟨by rfl, ?_⟩) hHeld ?_
                  rotate_left
                  · (intro w hSw; go_simp; try with_reducible rfl)
                  try simp only [Act.put, List.getElem_toArray, List.getElem_cons_zero, List.getElem_cons_succ, List.setIfInBounds_toArray, List.set_cons_zero, List.set_cons_succ]
                  refine wpAnyH_take (i := 4) (v := ?_) rfl (by kernel_rfl) (by kernel_rfl) (by kernel_rfl) (fun _ _ _ h => h) (Or.inl ⟨by rfl, ?_⟩) hHeld ?_
                  rotate_left
                  · (intro w hSw; go_simp; try with_reducible rfl)
                  try simp only [Act.put, List.getElem_toArray, List.getElem_cons_zero, List.getElem_cons_succ, List.setIfInBounds_toArray, List.set_cons_zero, List.set_cons_succ]
                  have hBd : Below w.heap.size w vr3.drew := HBw.out.drew
                  have hId : OwnG w.heap.size L (.slice po L.length co) vr3.drew := hI
                  have vl2 : g < vr3.drew.heap.size := gl2
                  clear hI y0 y1 y2
                  generalize vr3.drew = w2 at *
                  refine wpAnyH_ready (rs := [1]) (by kernel_rfl) (by simp) ?_
                  refine AllReadyH.cons rfl (fun K hK => ?_) AllReadyH.nil
                  have hone := heap_alloc_new w2 (.cells (gcells [G]).toArray 72)
                  have hb3 := (Below.refl w2.heap.size w2).alloc (Nat.le_refl _) (.cells (gcells [G]).toArray 72)
                  have hs3 : (w2.alloc (.cells (gcells [G]).toArray 72)).heap.size = w2.heap.size + 1 := by simp
                  have hHeld2 := heldG_call hHeld hb3
                  have hHX := Lib.hid (And.intro hone (And.intro hb3 hs3))
                  clear hone hb3 hs3
                  go_simp
                  refine hK.out _ _ hHeld2 (fun hHeld => ?_)
                  clear hK K hHeld2
                  try simp only [Act.put, List.getElem_toArray, List.getElem_cons_zero, List.getElem_cons_succ, List.setIfInBounds_toArray, List.set_cons_zero, List.set_cons_succ]
                  obtain ⟨hone, hb3, hs3⟩ := hHX.out
                  have hB3 := BelowOn hBd hb3
                  have hI3 := OwnL.call hId hb3
                  have hcells : (w2.alloc (.cells #[.string G.f, .string G.s, .int .i64 G.n] 72)) = (w2.alloc (.cells (gcells [G]).toArray 72)) := rfl
                  rw [hcells]
                  rw [hcells] at hHeld
                  clear hcells hHX
                  have hown : OwnG w.heap.size [G] (.slice (some ⟨w2.heap.size, 0, none⟩) 1 1) _ := own_litG (L := [G]) hone hBd.size (by simp [gcells]) (by unfold maxLen; simp)
                  generalize (w2.alloc (.cells (gcells [G]).toArray 72)) = w3 at *
                  have hI4 := (OwnG.gsS hI3).1
                  have hdr := gs_drop w3 po L hI4 m hmL (if co = m then po else Option.map (fun x => x.add (m * 3)) po) (fun a ha hlt => by rw [if_neg (by omega), ha]; rfl)
                  obtain ⟨v', w4, hrun, hown4, hg4⟩ := append_grams w3 58 w.heap.size [G] (L.drop m) _ _ (co - m) hown hdr hB3.size (by simp; omega)
                  rw [List.length_drop] at hrun
                  replace hg4 : w3.grownBy w4 (some w2.heap.size) := hg4
                  refine wpAnyH_ready (rs := [5]) (by kernel_rfl) (by simp) ?_
                  refine AllReadyH.cons rfl (fun K hK => ?_) AllReadyH.nil
                  have hB4 : Below w.heap.size w w4 := hB3.grown hg4 hB3.size (fun j hj => by injection hj with hj; have := hBd.size; omega)
                  have hI5 : Gs w4 po L := Gs.other hI4 hg4 (fun h0 a ha => by
                    rw [ha] at hId
                    obtain ⟨g9, cur9, e9, _, h9⟩ := OwnG.at hId h0
                    have := heap_lt h9
                    rw [e9]; show g9 ≠ _; omega)
                  have hHeld4 := heldG_grow hHeld hg4 (by omega)
                  have HX := Lib.hid (And.intro hown4 (And.intro hB4 hI5))
                  clear hown hdr hown4 hB3 hI3 hB4 hI4 hI5 hg4 hone hb3 hs3 hId hBd
                  refine step_of_wp rfl ?_
                  refine Lib.wp_append_run w3 _ _ 58 58 rfl _ _ rfl rfl v' w4 hrun ?_
                  refine hK.out _ _ hHeld4 (fun hHeld => ?_)
                  clear hK K hHeld4
                  try simp only [Act.put, List.getElem_toArray, List.getElem_cons_zero, List.getElem_cons_succ, List.setIfInBounds_toArray, List.set_cons_zero, List.set_cons_succ]
                  refine wpAnyH_take (i := 6) (v := ?_) rfl (by kernel_rfl) (by kernel_rfl) (by kernel_rfl) (fun _ _ _ h => h) (Or.inl ⟨by rfl, ?_⟩) hHeld ?_
                  rotate_left
                  · (intro w hSw; go_simp; try with_reducible rfl)
                  try simp only [Act.put, List.getElem_toArray, List.getElem_cons_zero, List.getElem_cons_succ, List.setIfInBounds_toArray, List.set_cons_zero, List.set_cons_succ]
                  refine wpAnyH_done (by kernel_rfl) ?_ _
                  obtain ⟨hown4, hB4, hI4⟩ := HX.out
                  obtain ⟨p3, c3, rfl, h31, h32, h3⟩ := OwnG.gs hown4
                  have hlen : ([G] ++ L.drop m).length = 1 + (L.length - m) := by simp; omega
                  generalize hTT : [G] ++ L.drop m = T at *
                  have HTT := Lib.hid hTT; have HL := Lib.hid hlen; have HB4 := Lib.hid hB4
                  clear hTT hlen hown4 HX hHeld hrun hB4
                  have hl1 : T.length ≤ 2000 := by have := HL.out; omega
                  have tok : True := trivial
                  have ht := gs_take hI4 m
                  have hkl := Lib.hid (show m = (L.take m).length by simp; omega)
                  have hS := Acc.start (e := 72) (size := 3) (enc := genc) w4
                  generalize L.take m = T0 at *
                  have hl0 : T0.length ≤ 2000 := by have := hkl.out; omega
                  generalize (if co = m then po else Option.map (fun x => x.add (m * 3)) po) = pz at *
                  go_upto_region 4 with (first
                    | (at_builtin; have _t := tok; refine wpl_catG rfl _ _ rfl w4 [] T0 _ rfl hS po _ co rfl hkl.out ht (by simp; omega) ?_; intro v1 u1 hA1; rw [List.nil_append] at hA1; clear tok)
                    | (at_builtin; refine wpl_catG rfl _ _ rfl w4 T0 T v1 rfl hA1 p3 _ c3 rfl rfl (h3.call hA1.below) (by omega) ?_; intro v2 u2 hA2; clear hA1))
                  have hfin : OwnG w.heap.size (T0 ++ T) v2 u2 := ownsRow_base hA2.own HB4.out.size
                  have hbf := BelowOn HB4.out hA2.below
                  go_wp2_with fail
                  go_roundw
                  case rel => exact ⟨i + 1, by omega, by go_num, by rw [HNX.out, HIN.out]; exact hfin, hbf⟩
                  case measure => simp [intOf] <;> omega
              · have HN2 := Lib.hid (HNEXT.out qb)
                clear hfb
                go_wp2_with fail
                go_roundw
                case rel => exact ⟨m + 1, hml, by go_num, HBn.out, HN2⟩
                case measure => simp [intOf] <;> omega
            · have nlt : ¬ ((m : Int) < (L.length : Int)) := by omega
              have HIN := Lib.hid (show gIns P L = L.take m ++ ([G] ++ L.drop m) by rw [gIns_ins P L m hmL HM.out (fun h => by omega), HG.out])
              have q0 := cell_regrown y0; have q1 := cell_regrown y1; have q2 := cell_regrown y2
              clear HM
              go_wp2_with fail
              refine wp_region_quiet_below (by kernel_rfl) (by kernel_rfl) ?_
              repeat (go_big_quiet_step (fail))
              refine wpQuiet_nil ?_
              intro _ hw'
              obtain ⟨⟨dq, osq⟩, hw''⟩ := hw'
              subst hw''
              have hb2 := below_regrown wr dq osq
              generalize grow (redrawn wr dq) osq = vr2 at *
              clear q0 q1 q2
              have HB2 := Lib.hid (BelowOn HB1.out hb2)
              have hO2 := Lib.hid (OwnL.call hO1.out hb2)
              have hH2 := heldG_call hH1 hb2
              clear hb1 hb2 y0 y1 y2 hO1 HB1 hH1
              obtain ⟨y0, y1, y2⟩ := id hH2
              have q0 := cell_regrown y0; have q1 := cell_regrown y1; have q2 := cell_regrown y2
              go_wp2_with fail
              refine wp_region_quiet_below (by kernel_rfl) (by kernel_rfl) ?_
              repeat (go_big_quiet_step (fail))
              refine wpQuiet_nil ?_
              intro _ hw'
              obtain ⟨⟨dq, osq⟩, hw''⟩ := hw'
              subst hw''
              have hb2 := below_regrown vr2 dq osq
              generalize grow (redrawn vr2 dq) osq = vr3 at *
              clear q0 q1 q2 y0 y1 y2
              have HB3 := Lib.hid (BelowOn HB2.out hb2)
              have hO3 := Lib.hid (OwnL.call hO2.out hb2)
              have hH3 := heldG_call hH2 hb2
              have gl2 := hH3.lt
              clear hb2 HB2 hO2 hH2
              have hH2 := Lib.hid hH3; have hO2 := hO3; have HB2 := HB3
              go_upto_region 15 with (fail)
              clear hH3 hO3 HB3
              have s0 : (0 : Int) ≤ (m : Int) := by omega
              have s1 : (m : Int) ≤ (L.length : Int) := by omega
              have s2 : (m : Int) ≤ (co : Int) := by omega
              obtain ⟨y0, y1, y2⟩ := hH2.out
              have hI := hO2.out
              have HBw := HB2
              refine wp_region_held_drew (S := fun W => W.cell? ⟨g, 0, none⟩ = some (.string G.f) ∧ W.cell? ⟨g, 1, none⟩ = some (.string G.s) ∧ W.cell? ⟨g, 2, none⟩ = some (.int .i64 G.n)) (by kernel_rfl) ⟨y0, y1, y2⟩ (fun hHeld => ?_)
              refine wpAnyH_take (i := 0) (v := ?_) rfl (by kernel_rfl) (by kernel_rfl) (by kernel_rfl) (fun _ _ _ h => h) (Or.inl ⟨by rfl, ?_⟩) hHeld ?_
              rotate_left
              · (intro w hSw; obtain ⟨c0, c1, c2⟩ := hSw; go_simp; try with_reducible rfl)
              try simp only [Act.put, List.getElem_toArray, List.getElem_cons_zero, List.getElem_cons_succ, List.setIfInBounds_toArray, List.set_cons_zero, List.set_cons_succ]
              refine wpAnyH_take (i := 2) (v := ?_) rfl (by kernel_rfl) (by kernel_rfl) (by kernel_rfl) (fun _ _ _ h => h) (Or.inl ⟨by rfl, ?_⟩) hHeld ?_
              rotate_left
              · (intro w hSw; go_simp; try with_reducible rfl)
              try simp only [Act.put, List.getElem_toArray, List.getElem_cons_zero, List.getElem_cons_succ, List.setIfInBounds_toArray, List.set_cons_zero, List.set_cons_succ]
              refine wpAnyH_take (i := 3) (v := ?_) rfl (by kernel_rfl) (by kernel_rfl) (by kernel_rfl) (fun _ _ _ h => h) (Or.inl ⟨by rfl, ?_⟩) hHeld ?_
              rotate_left
              · (intro w hSw; go_simp; try with_reducible rfl)
              try simp only [Act.put, List.getElem_toArray, List.getElem_cons_zero, List.getElem_cons_succ, List.setIfInBounds_toArray, List.set_cons_zero, List.set_cons_succ]
              refine wpAnyH_take (i := 4) (v := ?_) rfl (by kernel_rfl) (by kernel_rfl) (by kernel_rfl) (fun _ _ _ h => h) (Or.inl ⟨by rfl, ?_⟩) hHeld ?_
              rotate_left
              · (intro w hSw; go_simp; try with_reducible rfl)
              try simp only [Act.put, List.getElem_toArray, List.getElem_cons_zero, List.getElem_cons_succ, List.setIfInBounds_toArray, List.set_cons_zero, List.set_cons_succ]
              have hBd : Below w.heap.size w vr3.drew := HBw.out.drew
              have hId : OwnG w.heap.size L (.slice po L.length co) vr3.drew := hI
              have vl2 : g < vr3.drew.heap.size := gl2
              clear hI y0 y1 y2
              generalize vr3.drew = w2 at *
              refine wpAnyH_ready (rs := [1]) (by kernel_rfl) (by simp) ?_
              refine AllReadyH.cons rfl (fun K hK => ?_) AllReadyH.nil
              have hone := heap_alloc_new w2 (.cells (gcells [G]).toArray 72)
              have hb3 := (Below.refl w2.heap.size w2).alloc (Nat.le_refl _) (.cells (gcells [G]).toArray 72)
              have hs3 : (w2.alloc (.cells (gcells [G]).toArray 72)).heap.size = w2.heap.size + 1 := by simp
              have hHeld2 := heldG_call hHeld hb3
              have hHX := Lib.hid (And.intro hone (And.intro hb3 hs3))
              clear hone hb3 hs3
              go_simp
              refine hK.out _ _ hHeld2 (fun hHeld => ?_)
              clear hK K hHeld2
              try simp only [Act.put, List.getElem_toArray, List.getElem_cons_zero, List.getElem_cons_succ, List.setIfInBounds_toArray, List.set_cons_zero, List.set_cons_succ]
              obtain ⟨hone, hb3, hs3⟩ := hHX.out
              have hB3 := BelowOn hBd hb3
              have hI3 := OwnL.call hId hb3
              have hcells : (w2.alloc (.cells #[.string G.f, .string G.s, .int .i64 G.n] 72)) = (w2.alloc (.cells (gcells [G]).toArray 72)) := rfl
              rw [hcells]
              rw [hcells] at hHeld
              clear hcells hHX
              have hown : OwnG w.heap.size [G] (.slice (some ⟨w2.heap.size, 0, none⟩) 1 1) _ := own_litG (L := [G]) hone hBd.size (by simp [gcells]) (by unfold maxLen; simp)
              generalize (w2.alloc (.cells (gcells [G]).toArray 72)) = w3 at *
              have hI4 := (OwnG.gsS hI3).1
              have hdr := gs_drop w3 po L hI4 m hmL (if co = m then po else Option.map (fun x => x.add (m * 3)) po) (fun a ha hlt => by rw [if_neg (by omega), ha]; rfl)
              obtain ⟨v', w4, hrun, hown4, hg4⟩ := append_grams w3 58 w.heap.size [G] (L.drop m) _ _ (co - m) hown hdr hB3.size (by simp; omega)
              rw [List.length_drop] at hrun
              replace hg4 : w3.grownBy w4 (some w2.heap.size) := hg4
              refine wpAnyH_ready (rs := [5]) (by kernel_rfl) (by simp) ?_
              refine AllReadyH.cons rfl (fun K hK => ?_) AllReadyH.nil
              have hB4 : Below w.heap.size w w4 := hB3.grown hg4 hB3.size (fun j hj => by injection hj with hj; have := hBd.size; omega)
              have hI5 : Gs w4 po L := Gs.other hI4 hg4 (fun h0 a ha => by
                rw [ha] at hId
                obtain ⟨g9, cur9, e9, _, h9⟩ := OwnG.at hId h0
                have := heap_lt h9
                rw [e9]; show g9 ≠ _; omega)
              have hHeld4 := heldG_grow hHeld hg4 (by omega)
              have HX := Lib.hid (And.intro hown4 (And.intro hB4 hI5))
              clear hown hdr hown4 hB3 hI3 hB4 hI4 hI5 hg4 hone hb3 hs3 hId hBd
              refine step_of_wp rfl ?_
              refine Lib.wp_append_run w3 _ _ 58 58 rfl _ _ rfl rfl v' w4 hrun ?_
              refine hK.out _ _ hHeld4 (fun hHeld => ?_)
              clear hK K hHeld4
              try simp only [Act.put, List.getElem_toArray, List.getElem_cons_zero, List.getElem_cons_succ, List.setIfInBounds_toArray, List.set_cons_zero, List.set_cons_succ]
              refine wpAnyH_take (i := 6) (v := ?_) rfl (by kernel_rfl) (by kernel_rfl) (by kernel_rfl) (fun _ _ _ h => h) (Or.inl ⟨by rfl, ?_⟩) hHeld ?_
              rotate_left
              · (intro w hSw; go_simp; try with_reducible rfl)
              try simp only [Act.put, List.getElem_toArray, List.getElem_cons_zero, List.getElem_cons_succ, List.setIfInBounds_toArray, List.set_cons_zero, List.set_cons_succ]
              refine wpAnyH_done (by kernel_rfl) ?_ _
              obtain ⟨hown4, hB4, hI4⟩ := HX.out
              obtain ⟨p3, c3, rfl, h31, h32, h3⟩ := OwnG.gs hown4
              have hlen : ([G] ++ L.drop m).length = 1 + (L.length - m) := by simp; omega
              generalize hTT : [G] ++ L.drop m = T at *
              have HTT := Lib.hid hTT; have HL := Lib.hid hlen; have HB4 := Lib.hid hB4
              clear hTT hlen hown4 HX hHeld hrun hB4
              have hl1 : T.length ≤ 2000 := by have := HL.out; omega
              have tok : True := trivial
              have ht := gs_take hI4 m
              have hkl := Lib.hid (show m = (L.take m).length by simp; omega)
              have hS := Acc.start (e := 72) (size := 3) (enc := genc) w4
              generalize L.take m = T0 at *
              have hl0 : T0.length ≤ 2000 := by have := hkl.out; omega
              generalize (if co = m then po else Option.map (fun x => x.add (m * 3)) po) = pz at *
              go_upto_region 4 with (first
                | (at_builtin; have _t := tok; refine wpl_catG rfl _ _ rfl w4 [] T0 _ rfl hS po _ co rfl hkl.out ht (by simp; omega) ?_; intro v1 u1 hA1; rw [List.nil_append] at hA1; clear tok)
                | (at_builtin; refine wpl_catG rfl _ _ rfl w4 T0 T v1 rfl hA1 p3 _ c3 rfl rfl (h3.call hA1.below) (by omega) ?_; intro v2 u2 hA2; clear hA1))
              have hfin : OwnG w.heap.size (T0 ++ T) v2 u2 := ownsRow_base hA2.own HB4.out.size
              have hbf := BelowOn HB4.out hA2.below
              go_wp2_with fail
              go_roundw
              case rel => exact ⟨i + 1, by omega, by go_num, by rw [HNX.out, HIN.out]; exact hfin, hbf⟩
              case measure => simp [intOf] <;> omega
      · have z0' : ¬ ((0 : Int) < (i : Int)) := by omega
        have hPf2 : (⟨#[]⟩ : ByteArray) = P.f := by rw [← hPf, show i = 0 by omega, befW_zero]
        have HPF := Lib.hid hPf2; clear hPf2
        by_cases h1 : i < l.length
        · obtain ⟨a, rfl, ha2, r1⟩ := row_here hWr i h1
          rw [hPs] at r1
          have k1 : (i : Int) < (l.length : Int) := by omega
          go_upto_region 10 with (fail)
          obtain ⟨HBV, HOV, HHV⟩ := HV.out
          have hB0 := HBV ⟨#[]⟩ P.s; have hO0 := HOV ⟨#[]⟩ P.s; have hn0 := HHV ⟨#[]⟩ P.s
          have hH : HeldG wr.heap.size G (wr.alloc (.cells #[.string ⟨#[]⟩, .string P.s, .int .i64 1] 72)) := ⟨by rw [Lib.cell_of_heap hn0, HG.out, ← HPF.out]; first | done | rfl, by rw [Lib.cell_of_heap hn0, HG.out]; first | done | rfl, by rw [Lib.cell_of_heap hn0, HG.out]; first | done | rfl⟩
          have HB := Lib.hid hB0; have HO := Lib.hid hO0
          clear HBV HOV HHV hB0 hO0 hn0 HV hPf hPs
          generalize (wr.alloc (.cells #[.string ⟨#[]⟩, .string P.s, .int .i64 1] 72)) = w1 at *
          generalize wr.heap.size = g at *
          clear r1 ha2 hWr
          have hgl : g < w1.heap.size := hH.lt
          go_wp2_with fail
          go_loopw [6] (fun kk wr => ∃ m : Nat, m ≤ L.length ∧ kk = .int .i64 m ∧ Below w1.heap.size w1 wr ∧ Hid (∀ j (hj : j < L.length), j < m → bfP L[j].key P = true)) (fun kk _ => L.length - (intOf kk).toNat)
          case atStart => exact ⟨0, Nat.zero_le _, rfl, Below.refl _ _, Lib.hid (fun j _ h => by omega)⟩
          case round =>
            obtain ⟨m, hmL, rfl, hb1, HM⟩ := hrel
            have hb1 : RowKit.Below w1.heap.size w1 wr := hb1
            have hH1 := heldG_call hH hb1
            obtain ⟨y0, y1, y2⟩ := id hH1
            have hO1 := Lib.hid (OwnL.call HO.out hb1)
            have gl1 := hH1.lt
            have HB1 := Lib.hid (BelowOn HB.out hb1)
            by_cases hml : m < L.length
            · exact absurd hml (by omega)
            · have nlt : ¬ ((m : Int) < (L.length : Int)) := by omega
              have HIN := Lib.hid (show gIns P L = L.take m ++ ([G] ++ L.drop m) by rw [gIns_ins P L m hmL HM.out (fun h => by omega), HG.out])
              have q0 := cell_regrown y0; have q1 := cell_regrown y1; have q2 := cell_regrown y2
              clear HM
              go_wp2_with fail
              refine wp_region_quiet_below (by kernel_rfl) (by kernel_rfl) ?_
              repeat (go_big_quiet_step (fail))
              refine wpQuiet_nil ?_
              intro _ hw'
              obtain ⟨⟨dq, osq⟩, hw''⟩ := hw'
              subst hw''
              have hb2 := below_regrown wr dq osq
              generalize grow (redrawn wr dq) osq = vr2 at *
              clear q0 q1 q2
              have HB2 := Lib.hid (BelowOn HB1.out hb2)
              have hO2 := Lib.hid (OwnL.call hO1.out hb2)
              have hH2 := heldG_call hH1 hb2
              clear hb1 hb2 y0 y1 y2 hO1 HB1 hH1
              obtain ⟨y0, y1, y2⟩ := id hH2
              have q0 := cell_regrown y0; have q1 := cell_regrown y1; have q2 := cell_regrown y2
              go_wp2_with fail
              refine wp_region_quiet_below (by kernel_rfl) (by kernel_rfl) ?_
              repeat (go_big_quiet_step (fail))
              refine wpQuiet_nil ?_
              intro _ hw'
              obtain ⟨⟨dq, osq⟩, hw''⟩ := hw'
              subst hw''
              have hb2 := below_regrown vr2 dq osq
              generalize grow (redrawn vr2 dq) osq = vr3 at *
              clear q0 q1 q2 y0 y1 y2
              have HB3 := Lib.hid (BelowOn HB2.out hb2)
              have hO3 := Lib.hid (OwnL.call hO2.out hb2)
              have hH3 := heldG_call hH2 hb2
              have gl2 := hH3.lt
              clear hb2 HB2 hO2 hH2
              have hH2 := Lib.hid hH3; have hO2 := hO3; have HB2 := HB3
              go_upto_region 15 with (fail)
              clear hH3 hO3 HB3
              have s0 : (0 : Int) ≤ (m : Int) := by omega
              have s1 : (m : Int) ≤ (L.length : Int) := by omega
              have s2 : (m : Int) ≤ (co : Int) := by omega
              obtain ⟨y0, y1, y2⟩ := hH2.out
              have hI := hO2.out
              have HBw := HB2
              refine wp_region_held_drew (S := fun W => W.cell? ⟨g, 0, none⟩ = some (.string G.f) ∧ W.cell? ⟨g, 1, none⟩ = some (.string G.s) ∧ W.cell? ⟨g, 2, none⟩ = some (.int .i64 G.n)) (by kernel_rfl) ⟨y0, y1, y2⟩ (fun hHeld => ?_)
              refine wpAnyH_take (i := 0) (v := ?_) rfl (by kernel_rfl) (by kernel_rfl) (by kernel_rfl) (fun _ _ _ h => h) (Or.inl ⟨by rfl, ?_⟩) hHeld ?_
              rotate_left
              · (intro w hSw; obtain ⟨c0, c1, c2⟩ := hSw; go_simp; try with_reducible rfl)
              try simp only [Act.put, List.getElem_toArray, List.getElem_cons_zero, List.getElem_cons_succ, List.setIfInBounds_toArray, List.set_cons_zero, List.set_cons_succ]
              refine wpAnyH_take (i := 2) (v := ?_) rfl (by kernel_rfl) (by kernel_rfl) (by kernel_rfl) (fun _ _ _ h => h) (Or.inl ⟨by rfl, ?_⟩) hHeld ?_
              rotate_left
              · (intro w hSw; go_simp; try with_reducible rfl)
              try simp only [Act.put, List.getElem_toArray, List.getElem_cons_zero, List.getElem_cons_succ, List.setIfInBounds_toArray, List.set_cons_zero, List.set_cons_succ]
              refine wpAnyH_take (i := 3) (v := ?_) rfl (by kernel_rfl) (by kernel_rfl) (by kernel_rfl) (fun _ _ _ h => h) (Or.inl ⟨by rfl, ?_⟩) hHeld ?_
              rotate_left
              · (intro w hSw; go_simp; try with_reducible rfl)
              try simp only [Act.put, List.getElem_toArray, List.getElem_cons_zero, List.getElem_cons_succ, List.setIfInBounds_toArray, List.set_cons_zero, List.set_cons_succ]
              refine wpAnyH_take (i := 4) (v := ?_) rfl (by kernel_rfl) (by kernel_rfl) (by kernel_rfl) (fun _ _ _ h => h) (Or.inl ⟨by rfl, ?_⟩) hHeld ?_
              rotate_left
              · (intro w hSw; go_simp; try with_reducible rfl)
              try simp only [Act.put, List.getElem_toArray, List.getElem_cons_zero, List.getElem_cons_succ, List.setIfInBounds_toArray, List.set_cons_zero, List.set_cons_succ]
              have hBd : Below w.heap.size w vr3.drew := HBw.out.drew
              have hId : OwnG w.heap.size L (.slice po L.length co) vr3.drew := hI
              have vl2 : g < vr3.drew.heap.size := gl2
              clear hI y0 y1 y2
              generalize vr3.drew = w2 at *
              refine wpAnyH_ready (rs := [1]) (by kernel_rfl) (by simp) ?_
              refine AllReadyH.cons rfl (fun K hK => ?_) AllReadyH.nil
              have hone := heap_alloc_new w2 (.cells (gcells [G]).toArray 72)
              have hb3 := (Below.refl w2.heap.size w2).alloc (Nat.le_refl _) (.cells (gcells [G]).toArray 72)
              have hs3 : (w2.alloc (.cells (gcells [G]).toArray 72)).heap.size = w2.heap.size + 1 := by simp
              have hHeld2 := heldG_call hHeld hb3
              have hHX := Lib.hid (And.intro hone (And.intro hb3 hs3))
              clear hone hb3 hs3
              go_simp
              refine hK.out _ _ hHeld2 (fun hHeld => ?_)
              clear hK K hHeld2
              try simp only [Act.put, List.getElem_toArray, List.getElem_cons_zero, List.getElem_cons_succ, List.setIfInBounds_toArray, List.set_cons_zero, List.set_cons_succ]
              obtain ⟨hone, hb3, hs3⟩ := hHX.out
              have hB3 := BelowOn hBd hb3
              have hI3 := OwnL.call hId hb3
              have hcells : (w2.alloc (.cells #[.string G.f, .string G.s, .int .i64 G.n] 72)) = (w2.alloc (.cells (gcells [G]).toArray 72)) := rfl
              rw [hcells]
              rw [hcells] at hHeld
              clear hcells hHX
              have hown : OwnG w.heap.size [G] (.slice (some ⟨w2.heap.size, 0, none⟩) 1 1) _ := own_litG (L := [G]) hone hBd.size (by simp [gcells]) (by unfold maxLen; simp)
              generalize (w2.alloc (.cells (gcells [G]).toArray 72)) = w3 at *
              have hI4 := (OwnG.gsS hI3).1
              have hdr := gs_drop w3 po L hI4 m hmL (if co = m then po else Option.map (fun x => x.add (m * 3)) po) (fun a ha hlt => by rw [if_neg (by omega), ha]; rfl)
              obtain ⟨v', w4, hrun, hown4, hg4⟩ := append_grams w3 58 w.heap.size [G] (L.drop m) _ _ (co - m) hown hdr hB3.size (by simp; omega)
              rw [List.length_drop] at hrun
              replace hg4 : w3.grownBy w4 (some w2.heap.size) := hg4
              refine wpAnyH_ready (rs := [5]) (by kernel_rfl) (by simp) ?_
              refine AllReadyH.cons rfl (fun K hK => ?_) AllReadyH.nil
              have hB4 : Below w.heap.size w w4 := hB3.grown hg4 hB3.size (fun j hj => by injection hj with hj; have := hBd.size; omega)
              have hI5 : Gs w4 po L := Gs.other hI4 hg4 (fun h0 a ha => by
                rw [ha] at hId
                obtain ⟨g9, cur9, e9, _, h9⟩ := OwnG.at hId h0
                have := heap_lt h9
                rw [e9]; show g9 ≠ _; omega)
              have hHeld4 := heldG_grow hHeld hg4 (by omega)
              have HX := Lib.hid (And.intro hown4 (And.intro hB4 hI5))
              clear hown hdr hown4 hB3 hI3 hB4 hI4 hI5 hg4 hone hb3 hs3 hId hBd
              refine step_of_wp rfl ?_
              refine Lib.wp_append_run w3 _ _ 58 58 rfl _ _ rfl rfl v' w4 hrun ?_
              refine hK.out _ _ hHeld4 (fun hHeld => ?_)
              clear hK K hHeld4
              try simp only [Act.put, List.getElem_toArray, List.getElem_cons_zero, List.getElem_cons_succ, List.setIfInBounds_toArray, List.set_cons_zero, List.set_cons_succ]
              refine wpAnyH_take (i := 6) (v := ?_) rfl (by kernel_rfl) (by kernel_rfl) (by kernel_rfl) (fun _ _ _ h => h) (Or.inl ⟨by rfl, ?_⟩) hHeld ?_
              rotate_left
              · (intro w hSw; go_simp; try with_reducible rfl)
              try simp only [Act.put, List.getElem_toArray, List.getElem_cons_zero, List.getElem_cons_succ, List.setIfInBounds_toArray, List.set_cons_zero, List.set_cons_succ]
              refine wpAnyH_done (by kernel_rfl) ?_ _
              obtain ⟨hown4, hB4, hI4⟩ := HX.out
              obtain ⟨p3, c3, rfl, h31, h32, h3⟩ := OwnG.gs hown4
              have hlen : ([G] ++ L.drop m).length = 1 + (L.length - m) := by simp; omega
              generalize hTT : [G] ++ L.drop m = T at *
              have HTT := Lib.hid hTT; have HL := Lib.hid hlen; have HB4 := Lib.hid hB4
              clear hTT hlen hown4 HX hHeld hrun hB4
              have hl1 : T.length ≤ 2000 := by have := HL.out; omega
              have tok : True := trivial
              have ht := gs_take hI4 m
              have hkl := Lib.hid (show m = (L.take m).length by simp; omega)
              have hS := Acc.start (e := 72) (size := 3) (enc := genc) w4
              generalize L.take m = T0 at *
              have hl0 : T0.length ≤ 2000 := by have := hkl.out; omega
              generalize (if co = m then po else Option.map (fun x => x.add (m * 3)) po) = pz at *
              go_upto_region 4 with (first
                | (at_builtin; have _t := tok; refine wpl_catG rfl _ _ rfl w4 [] T0 _ rfl hS po _ co rfl hkl.out ht (by simp; omega) ?_; intro v1 u1 hA1; rw [List.nil_append] at hA1; clear tok)
                | (at_builtin; refine wpl_catG rfl _ _ rfl w4 T0 T v1 rfl hA1 p3 _ c3 rfl rfl (h3.call hA1.below) (by omega) ?_; intro v2 u2 hA2; clear hA1))
              have hfin : OwnG w.heap.size (T0 ++ T) v2 u2 := ownsRow_base hA2.own HB4.out.size
              have hbf := BelowOn HB4.out hA2.below
              go_wp2_with fail
              go_roundw
              case rel => exact ⟨i + 1, by omega, by go_num, by rw [HNX.out, HIN.out]; exact hfin, hbf⟩
              case measure => simp [intOf] <;> omega
        · have k1 : ¬ ((i : Int) < (l.length : Int)) := by omega
          have hPs2 : (⟨#[]⟩ : ByteArray) = P.s := by rw [← hPs]; simp [List.getD, List.getElem?_eq_none (show l.length ≤ i by omega)]
          have HPS := Lib.hid hPs2; clear hPs2
          go_upto_region 10 with (fail)
          obtain ⟨HBV, HOV, HHV⟩ := HV.out
          have hB0 := HBV ⟨#[]⟩ ⟨#[]⟩; have hO0 := HOV ⟨#[]⟩ ⟨#[]⟩; have hn0 := HHV ⟨#[]⟩ ⟨#[]⟩
          have hH : HeldG wr.heap.size G (wr.alloc (.cells #[.string ⟨#[]⟩, .string ⟨#[]⟩, .int .i64 1] 72)) := ⟨by rw [Lib.cell_of_heap hn0, HG.out, ← HPF.out]; first | done | rfl, by rw [Lib.cell_of_heap hn0, HG.out, ← HPS.out]; first | done | rfl, by rw [Lib.cell_of_heap hn0, HG.out]; first | done | rfl⟩
          have HB := Lib.hid hB0; have HO := Lib.hid hO0
          clear HBV HOV HHV hB0 hO0 hn0 HV hPf hPs
          generalize (wr.alloc (.cells #[.string ⟨#[]⟩, .string ⟨#[]⟩, .int .i64 1] 72)) = w1 at *
          generalize wr.heap.size = g at *
          clear hWr
          have hgl : g < w1.heap.size := hH.lt
          go_wp2_with fail
          go_loopw [6] (fun kk wr => ∃ m : Nat, m ≤ L.length ∧ kk = .int .i64 m ∧ Below w1.heap.size w1 wr ∧ Hid (∀ j (hj : j < L.length), j < m → bfP L[j].key P = true)) (fun kk _ => L.length - (intOf kk).toNat)
          case atStart => exact ⟨0, Nat.zero_le _, rfl, Below.refl _ _, Lib.hid (fun j _ h => by omega)⟩
          case round =>
            obtain ⟨m, hmL, rfl, hb1, HM⟩ := hrel
            have hb1 : RowKit.Below w1.heap.size w1 wr := hb1
            have hH1 := heldG_call hH hb1
            obtain ⟨y0, y1, y2⟩ := id hH1
            have hO1 := Lib.hid (OwnL.call HO.out hb1)
            have gl1 := hH1.lt
            have HB1 := Lib.hid (BelowOn HB.out hb1)
            by_cases hml : m < L.length
            · exact absurd hml (by omega)
            · have nlt : ¬ ((m : Int) < (L.length : Int)) := by omega
              have HIN := Lib.hid (show gIns P L = L.take m ++ ([G] ++ L.drop m) by rw [gIns_ins P L m hmL HM.out (fun h => by omega), HG.out])
              have q0 := cell_regrown y0; have q1 := cell_regrown y1; have q2 := cell_regrown y2
              clear HM
              go_wp2_with fail
              refine wp_region_quiet_below (by kernel_rfl) (by kernel_rfl) ?_
              repeat (go_big_quiet_step (fail))
              refine wpQuiet_nil ?_
              intro _ hw'
              obtain ⟨⟨dq, osq⟩, hw''⟩ := hw'
              subst hw''
              have hb2 := below_regrown wr dq osq
              generalize grow (redrawn wr dq) osq = vr2 at *
              clear q0 q1 q2
              have HB2 := Lib.hid (BelowOn HB1.out hb2)
              have hO2 := Lib.hid (OwnL.call hO1.out hb2)
              have hH2 := heldG_call hH1 hb2
              clear hb1 hb2 y0 y1 y2 hO1 HB1 hH1
              obtain ⟨y0, y1, y2⟩ := id hH2
              have q0 := cell_regrown y0; have q1 := cell_regrown y1; have q2 := cell_regrown y2
              go_wp2_with fail
              refine wp_region_quiet_below (by kernel_rfl) (by kernel_rfl) ?_
              repeat (go_big_quiet_step (fail))
              refine wpQuiet_nil ?_
              intro _ hw'
              obtain ⟨⟨dq, osq⟩, hw''⟩ := hw'
              subst hw''
              have hb2 := below_regrown vr2 dq osq
              generalize grow (redrawn vr2 dq) osq = vr3 at *
              clear q0 q1 q2 y0 y1 y2
              have HB3 := Lib.hid (BelowOn HB2.out hb2)
              have hO3 := Lib.hid (OwnL.call hO2.out hb2)
              have hH3 := heldG_call hH2 hb2
              have gl2 := hH3.lt
              clear hb2 HB2 hO2 hH2
              have hH2 := Lib.hid hH3; have hO2 := hO3; have HB2 := HB3
              go_upto_region 15 with (fail)
              clear hH3 hO3 HB3
              have s0 : (0 : Int) ≤ (m : Int) := by omega
              have s1 : (m : Int) ≤ (L.length : Int) := by omega
              have s2 : (m : Int) ≤ (co : Int) := by omega
              obtain ⟨y0, y1, y2⟩ := hH2.out
              have hI := hO2.out
              have HBw := HB2
              refine wp_region_held_drew (S := fun W => W.cell? ⟨g, 0, none⟩ = some (.string G.f) ∧ W.cell? ⟨g, 1, none⟩ = some (.string G.s) ∧ W.cell? ⟨g, 2, none⟩ = some (.int .i64 G.n)) (by kernel_rfl) ⟨y0, y1, y2⟩ (fun hHeld => ?_)
              refine wpAnyH_take (i := 0) (v := ?_) rfl (by kernel_rfl) (by kernel_rfl) (by kernel_rfl) (fun _ _ _ h => h) (Or.inl ⟨by rfl, ?_⟩) hHeld ?_
              rotate_left
              · (intro w hSw; obtain ⟨c0, c1, c2⟩ := hSw; go_simp; try with_reducible rfl)
              try simp only [Act.put, List.getElem_toArray, List.getElem_cons_zero, List.getElem_cons_succ, List.setIfInBounds_toArray, List.set_cons_zero, List.set_cons_succ]
              refine wpAnyH_take (i := 2) (v := ?_) rfl (by kernel_rfl) (by kernel_rfl) (by kernel_rfl) (fun _ _ _ h => h) (Or.inl ⟨by rfl, ?_⟩) hHeld ?_
              rotate_left
              · (intro w hSw; go_simp; try with_reducible rfl)
              try simp only [Act.put, List.getElem_toArray, List.getElem_cons_zero, List.getElem_cons_succ, List.setIfInBounds_toArray, List.set_cons_zero, List.set_cons_succ]
              refine wpAnyH_take (i := 3) (v := ?_) rfl (by kernel_rfl) (by kernel_rfl) (by kernel_rfl) (fun _ _ _ h => h) (Or.inl ⟨by rfl, ?_⟩) hHeld ?_
              rotate_left
              · (intro w hSw; go_simp; try with_reducible rfl)
              try simp only [Act.put, List.getElem_toArray, List.getElem_cons_zero, List.getElem_cons_succ, List.setIfInBounds_toArray, List.set_cons_zero, List.set_cons_succ]
              refine wpAnyH_take (i := 4) (v := ?_) rfl (by kernel_rfl) (by kernel_rfl) (by kernel_rfl) (fun _ _ _ h => h) (Or.inl ⟨by rfl, ?_⟩) hHeld ?_
              rotate_left
              · (intro w hSw; go_simp; try with_reducible rfl)
              try simp only [Act.put, List.getElem_toArray, List.getElem_cons_zero, List.getElem_cons_succ, List.setIfInBounds_toArray, List.set_cons_zero, List.set_cons_succ]
              have hBd : Below w.heap.size w vr3.drew := HBw.out.drew
              have hId : OwnG w.heap.size L (.slice po L.length co) vr3.drew := hI
              have vl2 : g < vr3.drew.heap.size := gl2
              clear hI y0 y1 y2
              generalize vr3.drew = w2 at *
              refine wpAnyH_ready (rs := [1]) (by kernel_rfl) (by simp) ?_
              refine AllReadyH.cons rfl (fun K hK => ?_) AllReadyH.nil
              have hone := heap_alloc_new w2 (.cells (gcells [G]).toArray 72)
              have hb3 := (Below.refl w2.heap.size w2).alloc (Nat.le_refl _) (.cells (gcells [G]).toArray 72)
              have hs3 : (w2.alloc (.cells (gcells [G]).toArray 72)).heap.size = w2.heap.size + 1 := by simp
              have hHeld2 := heldG_call hHeld hb3
              have hHX := Lib.hid (And.intro hone (And.intro hb3 hs3))
              clear hone hb3 hs3
              go_simp
              refine hK.out _ _ hHeld2 (fun hHeld => ?_)
              clear hK K hHeld2
              try simp only [Act.put, List.getElem_toArray, List.getElem_cons_zero, List.getElem_cons_succ, List.setIfInBounds_toArray, List.set_cons_zero, List.set_cons_succ]
              obtain ⟨hone, hb3, hs3⟩ := hHX.out
              have hB3 := BelowOn hBd hb3
              have hI3 := OwnL.call hId hb3
              have hcells : (w2.alloc (.cells #[.string G.f, .string G.s, .int .i64 G.n] 72)) = (w2.alloc (.cells (gcells [G]).toArray 72)) := rfl
              rw [hcells]
              rw [hcells] at hHeld
              clear hcells hHX
              have hown : OwnG w.heap.size [G] (.slice (some ⟨w2.heap.size, 0, none⟩) 1 1) _ := own_litG (L := [G]) hone hBd.size (by simp [gcells]) (by unfold maxLen; simp)
              generalize (w2.alloc (.cells (gcells [G]).toArray 72)) = w3 at *
              have hI4 := (OwnG.gsS hI3).1
              have hdr := gs_drop w3 po L hI4 m hmL (if co = m then po else Option.map (fun x => x.add (m * 3)) po) (fun a ha hlt => by rw [if_neg (by omega), ha]; rfl)
              obtain ⟨v', w4, hrun, hown4, hg4⟩ := append_grams w3 58 w.heap.size [G] (L.drop m) _ _ (co - m) hown hdr hB3.size (by simp; omega)
              rw [List.length_drop] at hrun
              replace hg4 : w3.grownBy w4 (some w2.heap.size) := hg4
              refine wpAnyH_ready (rs := [5]) (by kernel_rfl) (by simp) ?_
              refine AllReadyH.cons rfl (fun K hK => ?_) AllReadyH.nil
              have hB4 : Below w.heap.size w w4 := hB3.grown hg4 hB3.size (fun j hj => by injection hj with hj; have := hBd.size; omega)
              have hI5 : Gs w4 po L := Gs.other hI4 hg4 (fun h0 a ha => by
                rw [ha] at hId
                obtain ⟨g9, cur9, e9, _, h9⟩ := OwnG.at hId h0
                have := heap_lt h9
                rw [e9]; show g9 ≠ _; omega)
              have hHeld4 := heldG_grow hHeld hg4 (by omega)
              have HX := Lib.hid (And.intro hown4 (And.intro hB4 hI5))
              clear hown hdr hown4 hB3 hI3 hB4 hI4 hI5 hg4 hone hb3 hs3 hId hBd
              refine step_of_wp rfl ?_
              refine Lib.wp_append_run w3 _ _ 58 58 rfl _ _ rfl rfl v' w4 hrun ?_
              refine hK.out _ _ hHeld4 (fun hHeld => ?_)
              clear hK K hHeld4
              try simp only [Act.put, List.getElem_toArray, List.getElem_cons_zero, List.getElem_cons_succ, List.setIfInBounds_toArray, List.set_cons_zero, List.set_cons_succ]
              refine wpAnyH_take (i := 6) (v := ?_) rfl (by kernel_rfl) (by kernel_rfl) (by kernel_rfl) (fun _ _ _ h => h) (Or.inl ⟨by rfl, ?_⟩) hHeld ?_
              rotate_left
              · (intro w hSw; go_simp; try with_reducible rfl)
              try simp only [Act.put, List.getElem_toArray, List.getElem_cons_zero, List.getElem_cons_succ, List.setIfInBounds_toArray, List.set_cons_zero, List.set_cons_succ]
              refine wpAnyH_done (by kernel_rfl) ?_ _
              obtain ⟨hown4, hB4, hI4⟩ := HX.out
              obtain ⟨p3, c3, rfl, h31, h32, h3⟩ := OwnG.gs hown4
              have hlen : ([G] ++ L.drop m).length = 1 + (L.length - m) := by simp; omega
              generalize hTT : [G] ++ L.drop m = T at *
              have HTT := Lib.hid hTT; have HL := Lib.hid hlen; have HB4 := Lib.hid hB4
              clear hTT hlen hown4 HX hHeld hrun hB4
              have hl1 : T.length ≤ 2000 := by have := HL.out; omega
              have tok : True := trivial
              have ht := gs_take hI4 m
              have hkl := Lib.hid (show m = (L.take m).length by simp; omega)
              have hS := Acc.start (e := 72) (size := 3) (enc := genc) w4
              generalize L.take m = T0 at *
              have hl0 : T0.length ≤ 2000 := by have := hkl.out; omega
              generalize (if co = m then po else Option.map (fun x => x.add (m * 3)) po) = pz at *
              go_upto_region 4 with (first
                | (at_builtin; have _t := tok; refine wpl_catG rfl _ _ rfl w4 [] T0 _ rfl hS po _ co rfl hkl.out ht (by simp; omega) ?_; intro v1 u1 hA1; rw [List.nil_append] at hA1; clear tok)
                | (at_builtin; refine wpl_catG rfl _ _ rfl w4 T0 T v1 rfl hA1 p3 _ c3 rfl rfl (h3.call hA1.below) (by omega) ?_; intro v2 u2 hA2; clear hA1))
              have hfin : OwnG w.heap.size (T0 ++ T) v2 u2 := ownsRow_base hA2.own HB4.out.size
              have hbf := BelowOn HB4.out hA2.below
              go_wp2_with fail
              go_roundw
              case rel => exact ⟨i + 1, by omega, by go_num, by rw [HNX.out, HIN.out]; exact hfin, hbf⟩
              case measure => simp [intOf] <;> omega
    · obtain rfl : i = l.length + 1 := by omega
      rw [HEND.out] at hO
      have nlt : ¬ (((l.length + 1 : Nat) : Int) ≤ (l.length : Int)) := by omega
      go_wp2_with fail
      go_ret
      exact ⟨_, rfl, hB1, hO⟩
end Go.Proofs.YthfgpagmepdblaaGreat
