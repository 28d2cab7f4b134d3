/- Index: contracts of pairOf, gramsOf, newList, slices.Clone, New and Len. Index: contracts of slices.Clone, New and Len. Index: one pair is put in, or struck out; what the pairs say on the way. -/
import Derived.Test.YthfgpagmepdblaaGreatIxA
import Derived.Test.YthfgpagmepdblaaGreatSgD
import Derived.Test.YthfgpagmepdblaaGreatSgA
import Derived.WalkKit
import Derived.Test.YthfgpagmepdblaaGreatSgR
import Derived.Lib.SliceRun
namespace Go.Proofs.YthfgpagmepdblaaGreat
open Go.ChangeShapes Go.WideShapes Go.ChangeAt Go.RowKit Go.Maps
set_option linter.unusedVariables false
set_option linter.unusedSimpArgs false
set_option maxRecDepth 100000

set_option maxHeartbeats 3200000 in
theorem pairof_any (x : Gm) (w : World) : Calls Tryz.prog 31 #[.agg #[.string x.f, .string x.s, .int .i64 x.n]] w fun e w' => e = .returned (.agg #[.string x.f, .string x.s]) ∧ Below w.heap.size w w' := by
  go_enter Tryz.func31, Tryz.ntmps31
  go_wp2_with fail
  refine bodyPost_ret (v := .agg #[.string x.f, .string x.s]) (by simp [results, Tryz.results31, asAddr, Result.andThen, Act.put, go_sem]) rfl ⟨rfl, blw (blw (Below.refl _ _) _) _⟩
theorem LOk.txt {l : List It} (h : LOk l) : txtsB l := fun x hx => (h.ok x hx).2
set_option maxHeartbeats 1600000 in
theorem gramsof_any (p : Option Addr) (c : Nat) (l : List It) (w : World) (hR : Its w p l) (hc : l.length ≤ c) (hm : c ≤ maxLen) (h : LOk l) : Calls Tryz.prog 20 #[.slice p l.length c] w (EndG (gramsP (pw l)) w) := by
  have h1 := words_any p c l w hR hc hm (Nat.le_trans h.len (by omega)) h.txt
  have hwl := wds_len l
  have hlen := h.len
  have hsz : ∀ x ∈ wds l, x.size ≤ maxLen := fun x hx => by
    unfold wds at hx; rw [List.mem_map] at hx
    obtain ⟨y, hy, rfl⟩ := hx
    rw [low_size]
    exact Nat.le_trans (h.ok y (List.mem_filter.1 hy).1).2 (by unfold maxLen; omega)
  have h2 := fun W q d h1 h2 h3 => grams_any q d (wds l) W h1 h2 h3 (by omega) hsz
  have H1 := Lib.hid h1; have H2 := Lib.hid h2
  have HE := Lib.hid (show gramsL (wds l) = gramsP (pw l) from rfl)
  clear h1 h2 hsz
  go_enter Tryz.func20, Tryz.ntmps20
  go_wp2_with fail
  refine H1.out.mono ?_; rintro e w1 hE
  obtain ⟨q, d, rfl, e1, e2, e3, e4⟩ := hE.f
  go_wp2_with fail
  refine (H2.out _ _ _ e3 e1 e2).mono ?_; rintro e w2 ⟨v, rfl, hA⟩
  go_wp2_with fail
  go_ret
  rw [← HE.out]
  exact ⟨_, rfl, BelowOn e4 hA.below, ownsRow_base hA.own e4.size⟩
theorem gsum_n (L : List Gm) (k : Nat) (h : k < L.length) : ((L.take (k + 1)).map (·.n)).sum = ((L.take k).map (·.n)).sum + (L[k]'h).n := by
  rw [List.take_succ_eq_append_getElem h, List.map_append, List.sum_append, List.map_singleton]; simp only [List.sum_cons, List.sum_nil, Int.add_zero]
theorem grams_part (P : List Pr) (k : Nat) : 0 ≤ (((gramsP P).take k).map (·.n)).sum ∧ (((gramsP P).take k).map (·.n)).sum ≤ (P.length : Nat) := by
  have hp : ∀ g ∈ gramsP P, 0 ≤ g.n := fun g hg => by rw [((gramsP_ok P).cnt g hg).1]; exact Int.natCast_nonneg _
  have h0 := grams_sum P
  have split : ((gramsP P).map (·.n)).sum = (((gramsP P).take k).map (·.n)).sum + (((gramsP P).drop k).map (·.n)).sum := by
    rw [← List.sum_append, ← List.map_append, List.take_append_drop]
  have nn : ∀ L : List Gm, (∀ g ∈ L, 0 ≤ g.n) → 0 ≤ (L.map (·.n)).sum := fun L => by
    induction L with
    | nil => intro _; exact Int.le_refl _
    | cons g L ih => intro h; rw [List.map_cons, List.sum_cons]; have := h g (List.mem_cons_self ..); have := ih fun x hx => h x (List.mem_cons_of_mem _ hx); omega
  have h1 := nn ((gramsP P).take k) fun g hg => hp g (List.mem_of_mem_take hg)
  have h2 := nn ((gramsP P).drop k) fun g hg => hp g (List.mem_of_mem_drop hg)
  omega
theorem size57 : (Tryz.prog.info? 61).map (·.size) = some 3 := by kernel_rfl
theorem und57 : ∃ d, Tryz.prog.underlying 61 = some d ∧ d.isRow = true := ⟨_, Tryz.underlying61, rfl⟩
set_option maxHeartbeats 3200000 in
theorem newlist_any (p q : Option Addr) (c d : Nat) (l : List It) (w : World) (hR : Its w p l) (hc : l.length ≤ c) (hm : c ≤ maxLen) (hl : l.length ≤ 1000) (hG : Gs w q (gramsP (pw l))) (hd : (gramsP (pw l)).length ≤ d) (hdm : d ≤ maxLen) :
    Calls Tryz.prog 21 #[.slice p l.length c, .slice q (gramsP (pw l)).length d] w fun e w' => e = .returned (LV.v ⟨p, c, l⟩) ∧ Below w.heap.size w w' := by
  have ht := fun W h => total_any p c l W h hc hm (Nat.le_trans hl (by omega))
  have HT := Lib.hid ht
  have HP := Lib.hid (grams_part (pw l))
  have HS := Lib.hid (grams_sum (pw l))
  have hpl : (pw l).length ≤ 1001 := by unfold pw; rw [prs_len]; have := wds_len l; omega
  have HR := Lib.hid hR; have HG := Lib.hid hG
  clear ht hG hR
  unfold maxLen at hm hdm
  generalize gramsP (pw l) = L at *
  have hv := heap_alloc_new w (.cells #[.slice none 0 0, .int .i64 0, .int .i64 0] 61)
  have hb0 : Below w.heap.size w (w.alloc (.cells #[.slice none 0 0, .int .i64 0, .int .i64 0] 61)) := blw (Below.refl _ _) _
  go_enter Tryz.func21, Tryz.ntmps21
  go_wp2_with fail
  generalize (w.alloc (.cells #[.slice none 0 0, .int .i64 0, .int .i64 0] 61)) = w1 at *
  go_loopw [5, 10] (fun v i wr => ∃ k : Nat, k ≤ L.length ∧ i = .int .i64 k ∧ v = .int .i64 ((L.take k).map (·.n)).sum ∧ Below w.heap.size w wr ∧ wr.heap[w.heap.size]? = some (.cells #[.slice none 0 0, .int .i64 0, .int .i64 0] 61)) (fun _ i _ => L.length - (intOf i).toNat)
  case atStart => exact ⟨0, Nat.zero_le _, rfl, rfl, hb0, hv⟩
  case round =>
    clear hv hb0
    obtain ⟨k, hk, rfl, rfl, hB, hv⟩ := hrel
    by_cases hlt : k < L.length
    · obtain ⟨a, rfl, ha, c0, c1, c2⟩ := (HG.out.call hB).row k hlt
      have hn := gsum_n L k hlt
      have h2 := HP.out k
      have h3 := HP.out (k + 1)
      rw [hn] at h3
      have HN := Lib.hid hn
      clear hn
      generalize L[k] = x at *
      generalize ((L.take k).map (·.n)).sum = m0 at *
      have hlv : w.heap.size < wr.heap.size := (Array.getElem?_eq_some_iff.1 hv).1
      have HV := Lib.hid (And.intro hB hv)
      clear hB hv
      go_wp2_with fail
      go_roundw
      case rel =>
        obtain ⟨hB, hv⟩ := HV.out
        exact ⟨k + 1, hlt, by go_num, by rw [HN.out], blw hB _, by rw [heap_alloc_old _ _ hlv]; exact hv⟩
      case measure => simp [intOf]; omega
    · obtain rfl : k = L.length := by omega
      rw [List.take_length, HS.out]
      have hT := HT.out wr (HR.out.call hB)
      have HT2 := Lib.hid hT
      have HV := Lib.hid (And.intro hB hv)
      clear hT hB hv
      go_wp2_with fail
      refine HT2.out.mono ?_; rintro e w2 ⟨rfl, hb2⟩
      obtain ⟨hB, hv⟩ := HV.out
      have hlv : w.heap.size < wr.heap.size := (Array.getElem?_eq_some_iff.1 hv).1
      have hv2 : w2.heap[w.heap.size]? = _ := (hb2.block _ hlv).trans hv
      have hB2 := BelowOn hB hb2
      have n0 : w2.cell? ⟨w.heap.size, 0, none⟩ = some (.slice none 0 0) := by rw [Lib.cell_of_heap hv2]; rfl
      have n1 : w2.cell? ⟨w.heap.size, 1, none⟩ = some (.int .i64 0) := by rw [Lib.cell_of_heap hv2]; rfl
      have n2 : w2.cell? ⟨w.heap.size, 2, none⟩ = some (.int .i64 0) := by rw [Lib.cell_of_heap hv2]; rfl
      have f0 : w2.frozen? ⟨w.heap.size, 0, none⟩ = false := Lib.frozen_of_heap hv2 _
      have f1 : w2.frozen? ⟨w.heap.size, 1, none⟩ = false := Lib.frozen_of_heap hv2 _
      have f2 : w2.frozen? ⟨w.heap.size, 2, none⟩ = false := Lib.frozen_of_heap hv2 _
      have hth : w2.there w.heap.size 0 3 := fun j hj => ⟨by rw [Lib.cell_of_heap hv2]; match j, hj with | 0, _ => rfl | 1, _ => rfl | 2, _ => rfl, Lib.frozen_of_heap hv2 _⟩
      have hsame := World.rangeAt_setCells_same w2 w.heap.size 0 [.slice p l.length c, .int .i64 (wtL l), .int .i64 ((pw l).length : Nat)] hth
      have hg := setCells_grown [.slice p l.length c, .int .i64 (wtL l), .int .i64 ((pw l).length : Nat)] w2 w.heap.size 0
      have hb4 := below_of_grow hB2 hg hB2.size (Nat.le_refl _)
      obtain ⟨dd, hu, hdd⟩ := und57
      have hld := run_loadVar_mid (P := Tryz.prog) _ w.heap.size 0 61 [.slice p l.length c, .int .i64 (wtL l), .int .i64 ((pw l).length : Nat)] dd hsame hu hdd size57
      have HB4 := Lib.hid hb4
      have hld' : (loadVar 61 ⟨w.heap.size, 0, none⟩).run Tryz.prog (((w2.setCell ⟨w.heap.size, 0, none⟩ (.slice p l.length c)).setCell ⟨w.heap.size, 1, none⟩ (.int .i64 (wtL l))).setCell ⟨w.heap.size, 2, none⟩ (.int .i64 ((pw l).length : Nat))) = _ := hld
      have HLD := Lib.hid hld'
      clear hv hv2 hB hB2 hsame hg hb4 hu hdd hld hld' hth HV hb2
      go_wp2_with fail
      have hld := HLD.out
      refine bodyPost_ret (v := .agg #[.slice p l.length c, .int .i64 (wtL l), .int .i64 ((pw l).length : Nat)]) (by simp [results, Tryz.results21, asAddr, Result.andThen, hld, Act.put]; rfl) rfl ⟨rfl, HB4.out⟩
end Go.Proofs.YthfgpagmepdblaaGreat
namespace Go.Proofs.YthfgpagmepdblaaGreat
open Go.ChangeShapes Go.WideShapes Go.ChangeAt Go.RowKit Go.Maps
set_option linter.unusedVariables false
set_option linter.unusedSimpArgs false
set_option maxRecDepth 100000

set_option maxHeartbeats 3200000 in
theorem clone_any (p : Option Addr) (c : Nat) (l : List It) (w : World) (hR : Its w p l) (hc : l.length ≤ c) (hm : c ≤ maxLen) (hl : l.length ≤ 1000000) :
    Calls Tryz.prog 30 #[.slice p l.length c] w fun e w' => ∃ q d, e = .returned (.slice q l.length d) ∧ l.length ≤ d ∧ d ≤ maxLen ∧ Its w' q l ∧ (0 < l.length → ∀ a, q = some a → w.heap.size ≤ a.block) ∧ Below w.heap.size w w' := by
  cases p with
  | none =>
    have h0 : l = [] := by
      cases l with
      | nil => rfl
      | cons x t => obtain ⟨a, e, _⟩ := hR (by simp); cases e
    subst h0
    have hq := fun W => Lib.run_eql_slice_nil (P := Tryz.prog) W 23 43 none 0 c 0 0 Tryz.underlying23
    go_enter Tryz.func30, Tryz.ntmps30
    go_wp2_with fail
    go_ret
    exact ⟨none, 0, rfl, Nat.le_refl _, Nat.zero_le _, Its.nil _ _, (fun h => absurd h (by simp)), Below.refl _ _⟩
  | some a0 =>
    have hown : OwnT w.heap.size [] (.slice (some ⟨w.heap.size, 0, none⟩) 0 0) (w.alloc (.cells #[] 43)) := World.ownsRow_made w #[] 0 (Nat.le_refl _) (Nat.zero_le _) rfl
    have hb0 : Below w.heap.size w (w.alloc (.cells #[] 43)) := blw (Below.refl _ _) _
    have hI := hR.call hb0
    obtain ⟨v', w4, hrun, hown4, hg4⟩ := append_toks _ 23 w.heap.size [] l _ _ c hown hI hb0.size (by simp; omega)
    replace hg4 : (w.alloc (.cells #[] 43)).grownBy w4 (some w.heap.size) := hg4
    have hB4 : Below w.heap.size w w4 := hb0.grown hg4 hb0.size (fun j hj => by injection hj with hj; omega)
    have HX := Lib.hid (And.intro hown4 hB4)
    clear hown hb0 hI hown4 hB4 hg4 hR
    rw [List.nil_append] at HX
    have hq := fun W => Lib.run_eql_slice_nil (P := Tryz.prog) W 23 43 (some a0) l.length c 0 0 Tryz.underlying23
    go_enter Tryz.func30, Tryz.ntmps30
    go_wp2_with (first
      | (at_builtin; refine Lib.wpList_append_run _ rfl _ _ 23 23 rfl _ _ rfl rfl v' w4 hrun ?_))
    go_ret
    obtain ⟨hown4, hB4⟩ := HX.out
    have hlt := hown4.lt
    obtain ⟨q, d, rfl, h1, h2, h3⟩ := OwnT.its hown4
    exact ⟨q, d, rfl, h1, h2, h3, fun _ a ha => (hlt a.block (by rw [ha]; rfl)).1, hB4⟩
set_option maxHeartbeats 3200000 in
theorem new_any (w : World) : Calls Tryz.prog 6 #[] w fun e w' => e = .returned (.pointer (some ⟨w.heap.size + 2, 0, none⟩)) ∧ Ix w' (w.heap.size + 2) (fun k => w.heap.size ≤ k ∧ k < w'.heap.size) 0 [] ∧ Below w.heap.size w w' := by
  have hb0 : Below w.heap.size w (((w.alloc (.map #[] 0)).alloc (.map #[] 0)).alloc (.cells #[.map (some w.heap.size), .map (some (w.heap.size + 1))] 51)) := blw (blw (blw (Below.refl _ _) _) _) _
  have hs : (((w.alloc (.map #[] 0)).alloc (.map #[] 0)).alloc (.cells #[.map (some w.heap.size), .map (some (w.heap.size + 1))] 51)).heap.size = w.heap.size + 3 := by simp
  have h1 : MapN 3 vInt LV.v (w.alloc (.map #[] 0)) w.heap.size 0 (fun _ => none) := MapN.made w
  have h2 : MapAt 74 Pr.v vMp ((w.alloc (.map #[] 0)).alloc (.map #[] 0)) (w.heap.size + 1) 0 (fun _ => none) := by
    have := MapAt.made (kt := 74) (kv := Pr.v) (enc := vMp) (w.alloc (.map #[] 0))
    rwa [show (w.alloc (.map #[] 0)).heap.size = w.heap.size + 1 by simp] at this
  have h1' := (h1.call (blw (Below.refl _ _) (.map #[] 0))).call (blw (Below.refl _ _) (.cells #[.map (some w.heap.size), .map (some (w.heap.size + 1))] 51))
  have h2' := h2.call (blw (Below.refl _ _) (.cells #[.map (some w.heap.size), .map (some (w.heap.size + 1))] 51))
  have hX : (((w.alloc (.map #[] 0)).alloc (.map #[] 0)).alloc (.cells #[.map (some w.heap.size), .map (some (w.heap.size + 1))] 51)).heap[w.heap.size + 2]? = some (.cells #[.map (some w.heap.size), .map (some (w.heap.size + 1))] 51) := by
    have := heap_alloc_new ((w.alloc (.map #[] 0)).alloc (.map #[] 0)) (.cells #[.map (some w.heap.size), .map (some (w.heap.size + 1))] 51)
    rwa [show ((w.alloc (.map #[] 0)).alloc (.map #[] 0)).heap.size = w.heap.size + 2 by simp] at this
  have HX : Ix (((w.alloc (.map #[] 0)).alloc (.map #[] 0)).alloc (.cells #[.map (some w.heap.size), .map (some (w.heap.size + 1))] 51)) (w.heap.size + 2) (fun k => w.heap.size ≤ k ∧ k < (((w.alloc (.map #[] 0)).alloc (.map #[] 0)).alloc (.cells #[.map (some w.heap.size), .map (some (w.heap.size + 1))] 51)).heap.size) 0 [] := by
    refine ⟨w.heap.size, w.heap.size + 1, (fun k => k = w.heap.size + 1), fun _ => none, fun _ => none, ⟨by rw [Lib.cell_of_heap hX]; rfl, by rw [Lib.cell_of_heap hX]; rfl, ?_, h1', fun i => rfl, fun i e he => (by cases he), fun s hs => (by cases hs), List.nodup_nil, ?_, ?_, fun k hk => hk.2⟩, ⟨h2', rfl, ?_, ?_, fun y b he => (by cases he), fun y _ i => rfl, fun y z b he => (by cases he)⟩⟩
    · unfold fp; omega
    · exact ⟨by omega, by rw [hs]; omega⟩
    · intro k hk
      unfold fp at hk
      exact ⟨by omega, by rw [hs]; omega⟩
    · show ¬ w.heap.size = w.heap.size + 1; omega
    · intro b hb; rw [hs]; omega
  have HY := Lib.hid (And.intro HX hb0)
  clear HX hb0 hs h1 h2 h1' h2' hX
  have hmm := @run_makeMap Tryz.prog
  go_enter Tryz.func6, Tryz.ntmps6
  go_wp2_with fail
  go_ret
  exact ⟨rfl, HY.out⟩
set_option maxHeartbeats 1600000 in
theorem len_any {w : World} {X N : Nat} {R : Nat → Prop} {S : List Sto} (h : Ix w X R N S) : Calls Tryz.prog 10 #[.pointer (some ⟨X, 0, none⟩)] w fun e w' => e = .returned (.int .i64 (S.length : Nat)) ∧ w' = w := by
  obtain ⟨b1, b2, G, LS, H, h1, h2⟩ := h
  have x0 := h1.x0
  have hl := fun ty => h1.map.len (T := 48) Tryz.underlying48 ty
  clear h1 h2
  go_enter Tryz.func10, Tryz.ntmps10
  go_wp2_with fail
  go_ret
  exact ⟨rfl, rfl⟩
end Go.Proofs.YthfgpagmepdblaaGreat
namespace Go.Proofs.YthfgpagmepdblaaGreat
open Go.ChangeShapes Go.WideShapes Go.ChangeAt Go.RowKit Go.Maps
set_option linter.unusedVariables false
set_option linter.unusedSimpArgs false
set_option maxRecDepth 100000

theorem zeroMp (w : World) : (zeroValue 63).run Tryz.prog w = .ok (.map none) w := by kernel_rfl
theorem zeroLs (w : World) : (zeroValue 61).run Tryz.prog w = .ok (.agg #[.slice none 0 0, .int .i64 0, .int .i64 0]) w := by kernel_rfl
theorem vMp_pick (x : Option Nat) : pickE vMp (.map none) x = .map x := by cases x <;> rfl
def upd (C : Pr → Int → Option Int) (y : Pr) (i : Int) (v : Option Int) (z : Pr) (j : Int) : Option Int := if z = y ∧ j = i then v else C z j
theorem upd_at (C : Pr → Int → Option Int) (y : Pr) (i : Int) (v : Option Int) : upd C y i v y = fun j => if j = i then v else C y j := by
  funext j; unfold upd; by_cases h : j = i
  · rw [if_pos ⟨rfl, h⟩, if_pos h]
  · rw [if_neg (fun c => h c.2), if_neg h]
theorem upd_off (C : Pr → Int → Option Int) (y : Pr) (i : Int) (v : Option Int) (z : Pr) (h : z ≠ y) : upd C y i v z = C z := by
  funext j; unfold upd; rw [if_neg (fun c => h c.1)]
section
variable {w : World} {G : Nat → Prop} {b1 b2 N : Nat} {C : Pr → Int → Option Int} {H : Pr → Option Nat}
/-- One block of the pairs has turned. -/
theorem HoldH.turn {M : Nat} {w' : World} {y : Pr} {b : Nat} {g : Int → Option Int} (h : HoldH w G b1 b2 N C H) (hN : N ≤ M) (hy : H y = some b) (hg : w.grownBy w' (some b)) (hm : MapAt 3 vInt vInt w' b M g) (C' : Pr → Int → Option Int) (e : C' y = g) (e' : ∀ z, z ≠ y → C' z = C z) : HoldH w' G b1 b2 M C' H := by
  refine ⟨(h.top.other hg (fun e => (h.inn y b hy).2.1 e.symm)).mono hN, h.g2, h.n1, fun k hk => Nat.lt_of_lt_of_le (h.lt k hk) hg.size, fun z bz hz => ?_, fun z hz i => ?_, h.sep⟩
  · obtain ⟨h1, h2, h3⟩ := h.inn z bz hz
    refine ⟨h1, h2, ?_⟩
    by_cases ez : z = y
    · subst ez
      have : bz = b := by rw [hz] at hy; injection hy
      subst this
      rw [e]; exact hm
    · rw [e' z ez]
      exact (h3.other hg (fun c => ez (h.sep z y bz hz (by rw [hy, c])))).mono hN
  · have ez : z ≠ y := fun c => by rw [c, hy] at hz; cases hz
    rw [e' z ez]; exact h.out z hz i
theorem HoldH.put (h : HoldH w G b1 b2 N C H) (hN : N < maxLen) {y : Pr} {b : Nat} (hy : H y = some b) {i : Int} (hi : (Lit.int .i64 i).wf = true) (v : Int) :
    ∃ w', (Instr.mapUpdate 63 (.map (some b)) (.int .i64 i) (.int .i64 v)).run Tryz.prog w = .ok () w' ∧ HoldH w' G b1 b2 (N + 1) (upd C y i (some v)) H ∧ w.grownBy w' (some b) := by
  obtain ⟨_, _, h3⟩ := h.inn y b hy
  obtain ⟨w', hr, hm, hg⟩ := h3.put (T := 63) k3 vInt_inj Tryz.underlying63 hN (key_int hi) v
  exact ⟨w', hr, h.turn (Nat.le_succ N) hy hg hm _ (by rw [upd_at]) (fun z hz => upd_off C y i (some v) z hz), hg⟩
theorem HoldH.del (h : HoldH w G b1 b2 N C H) {y : Pr} {b : Nat} (hy : H y = some b) {i : Int} (hi : (Lit.int .i64 i).wf = true) (ty : TypeId) :
    ∃ w', (Builtin.delete_ #[63, 3] ty #[.map (some b), .int .i64 i]).run Tryz.prog w = .ok (.tuple #[]) w' ∧ HoldH w' G b1 b2 N (upd C y i none) H ∧ w.grownBy w' (some b) := by
  obtain ⟨_, _, h3⟩ := h.inn y b hy
  obtain ⟨w', hr, hm, hg⟩ := h3.del (T := 63) k3 vInt_inj Tryz.underlying63 (key_int hi) ty
  exact ⟨w', hr, h.turn (Nat.le_refl N) hy hg hm _ (by rw [upd_at]) (fun z hz => upd_off C y i none z hz), hg⟩
/-- A map of its own for a pair that has none. -/
theorem HoldH.new (h : HoldH w G b1 b2 N C H) (hN : N < maxLen) {y : Pr} (hy : H y = none) (hb1 : b1 < w.heap.size) {l : Lit} (hk : keyOf Tryz.prog 74 y.v = some l) :
    ∃ w', (Instr.mapUpdate 49 (.map (some b2)) y.v (.map (some w.heap.size))).run Tryz.prog (w.alloc (.map #[] 0)) = .ok () w' ∧
      HoldH w' (fun k => G k ∨ k = w.heap.size) b1 b2 (N + 1) C (fun z => if z = y then some w.heap.size else H z) ∧ (w.alloc (.map #[] 0)).grownBy w' (some b2) := by
  have hb := (Below.refl w.heap.size w).alloc (Nat.le_refl _) (.map #[] 0)
  have hc := h.call hb
  have hnew : MapAt 3 vInt vInt (w.alloc (.map #[] 0)) w.heap.size 0 (fun _ => none) := MapAt.made w
  have hs : (w.alloc (.map #[] 0)).heap.size = w.heap.size + 1 := by simp
  obtain ⟨w', hr, hm, hg⟩ := hc.top.put (T := 49) kIp prv_inj Tryz.underlying49 hN hk w.heap.size
  have g2 := h.lt b2 h.g2
  refine ⟨w', hr, ⟨hm, .inl h.g2, ?_, ?_, ?_, ?_, ?_⟩, hg⟩
  · rintro (c | c)
    · exact h.n1 c
    · omega
  · intro k hk'
    have := hg.size
    rcases hk' with hk' | rfl
    · have := h.lt k hk'; omega
    · omega
  · intro z b hz
    by_cases ez : z = y
    · subst ez
      simp only [if_true] at hz
      injection hz with hz
      subst hz
      refine ⟨.inr rfl, by omega, ?_⟩
      have : C z = fun _ => none := funext fun i => h.out z hy i
      rw [this]
      exact (hnew.other hg (by omega)).mono (Nat.zero_le _)
    · simp only [if_neg ez] at hz
      obtain ⟨h1, h2, h3⟩ := hc.inn z b hz
      exact ⟨.inl h1, h2, (h3.other hg h2).mono (Nat.le_succ N)⟩
  · intro z hz i
    by_cases ez : z = y
    · simp only [if_pos ez] at hz; cases hz
    · simp only [if_neg ez] at hz; exact h.out z hz i
  · intro z z' b hz hz'
    by_cases ez : z = y <;> by_cases ez' : z' = y
    · rw [ez, ez']
    · simp only [if_pos ez] at hz; simp only [if_neg ez'] at hz'
      injection hz with hz
      have := h.lt b (h.inn z' b hz').1; omega
    · simp only [if_neg ez] at hz; simp only [if_pos ez'] at hz'
      injection hz' with hz'
      have := h.lt b (h.inn z b hz).1; omega
    · simp only [if_neg ez] at hz; simp only [if_neg ez'] at hz'
      exact h.sep z z' b hz hz'
/-- An empty map of a pair is given up. -/
theorem HoldH.drop (h : HoldH w G b1 b2 N C H) {y : Pr} {b : Nat} (hy : H y = some b) (h0 : ∀ i, C y i = none) {l : Lit} (hk : keyOf Tryz.prog 74 y.v = some l) (ty : TypeId) :
    ∃ w', (Builtin.delete_ #[49, 74] ty #[.map (some b2), y.v]).run Tryz.prog w = .ok (.tuple #[]) w' ∧ HoldH w' G b1 b2 N C (fun z => if z = y then none else H z) ∧ w.grownBy w' (some b2) := by
  obtain ⟨w', hr, hm, hg⟩ := h.top.del (T := 49) kIp prv_inj Tryz.underlying49 hk ty
  refine ⟨w', hr, ⟨hm, h.g2, h.n1, fun k hk' => Nat.lt_of_lt_of_le (h.lt k hk') hg.size, fun z bz hz => ?_, fun z hz i => ?_, fun z z' bz hz hz' => ?_⟩, hg⟩
  · by_cases ez : z = y
    · simp only [if_pos ez] at hz; cases hz
    · simp only [if_neg ez] at hz
      obtain ⟨h1, h2, h3⟩ := h.inn z bz hz
      exact ⟨h1, h2, h3.other hg h2⟩
  · by_cases ez : z = y
    · rw [ez]; exact h0 i
    · simp only [if_neg ez] at hz; exact h.out z hz i
  · by_cases ez : z = y
    · simp only [if_pos ez] at hz; cases hz
    by_cases ez' : z' = y
    · simp only [if_pos ez'] at hz'; cases hz'
    simp only [if_neg ez] at hz; simp only [if_neg ez'] at hz'
    exact h.sep z z' bz hz hz'
theorem HoldH.kgrown {w' : World} {b : Nat} (hg : w.grownBy w' (some b)) (hb : G b) : Kept G w w' := Kept.grown hg fun k e _ => by injection e with e; subst e; exact hb
end

/-! ### on the way -/
/-- What the pairs say when the first k of a list's grams are in. -/
def cK (S : List Sto) (i : Int) (L : List Gm) (C0 : Pr → Option Int) (k : Nat) (y : Pr) (j : Int) : Option Int := if j = i then (if y ∈ gkeys (L.take k) then C0 y else none) else hC S y j
theorem cK_zero (S : List Sto) (i : Int) (L : List Gm) (C0 : Pr → Option Int) (h : lkS S i = none) (y : Pr) (j : Int) : hC S y j = cK S i L C0 0 y j := by
  unfold cK
  by_cases e : j = i
  · subst e; rw [if_pos rfl, if_neg (by simp [gkeys])]; unfold hC; rw [h]; rfl
  · rw [if_neg e]
theorem cK_next (S : List Sto) (i : Int) (L : List Gm) (C0 : Pr → Option Int) (k : Nat) (h : k < L.length) (v : Int) (hv : C0 (L[k]'h).key = some v) (y : Pr) (j : Int) : upd (cK S i L C0 k) (L[k]'h).key i (some v) y j = cK S i L C0 (k + 1) y j := by
  have e : gkeys (L.take (k + 1)) = gkeys (L.take k) ++ [(L[k]'h).key] := by unfold gkeys; rw [List.take_succ_eq_append_getElem h, List.map_append]; rfl
  unfold upd cK
  rw [e]
  by_cases ej : j = i
  · by_cases ey : y = (L[k]'h).key
    · subst ey; rw [if_pos ⟨rfl, ej⟩, if_pos ej, if_pos (by simp), hv]
    · rw [if_neg (fun c => ey c.1), if_pos ej, if_pos ej]
      have : (y ∈ gkeys (L.take k) ++ [(L[k]'h).key]) ↔ y ∈ gkeys (L.take k) := by simp [ey]
      simp only [this]
  · rw [if_neg (fun c => ej c.2), if_neg ej, if_neg ej]
theorem gk_all (P : List Pr) (y : Pr) : y ∈ gkeys (gramsP P) ↔ y ∈ P := by
  have h := gramsP_ok P
  unfold gkeys
  rw [List.mem_map]
  constructor
  · rintro ⟨g, hg, rfl⟩; exact (h.cnt g hg).2
  · intro hy; obtain ⟨g, hg, e⟩ := h.all y hy; exact ⟨g, hg, e⟩
theorem cK_all (S : List Sto) (i : Int) (l : List It) (h : lkS S i = none) (y : Pr) (j : Int) : cK S i (gramsP (pw l)) (pC l) (gramsP (pw l)).length y j = hC (S ++ [⟨i, l⟩]) y j := by
  unfold cK hC
  rw [List.take_length, lkS_add S i l h]
  by_cases e : j = i
  · rw [if_pos e, if_pos e]
    show _ = pC l y
    by_cases hy : y ∈ gkeys (gramsP (pw l))
    · rw [if_pos hy]
    · rw [if_neg hy]
      unfold pC; rw [if_neg (fun c => hy ((gk_all _ _).2 c))]
  · rw [if_neg e, if_neg e]
theorem gram_pC (l : List It) (g : Gm) (h : g ∈ gramsP (pw l)) : pC l g.key = some g.n := by
  have h1 := (gramsP_ok (pw l)).cnt g h
  unfold pC; rw [if_pos h1.2, h1.1]
/-- What the pairs say when the first k of a list's grams are struck out. -/
def dK (S : List Sto) (i : Int) (L : List Gm) (k : Nat) (y : Pr) (j : Int) : Option Int := if j = i ∧ y ∈ gkeys (L.take k) then none else hC S y j
theorem dK_next (S : List Sto) (i : Int) (L : List Gm) (k : Nat) (h : k < L.length) (y : Pr) (j : Int) : upd (dK S i L k) (L[k]'h).key i none y j = dK S i L (k + 1) y j := by
  have e : gkeys (L.take (k + 1)) = gkeys (L.take k) ++ [(L[k]'h).key] := by unfold gkeys; rw [List.take_succ_eq_append_getElem h, List.map_append]; rfl
  unfold upd dK
  rw [e]
  by_cases ej : j = i
  · by_cases ey : y = (L[k]'h).key
    · subst ey; rw [if_pos ⟨rfl, ej⟩, if_pos ⟨ej, by simp⟩]
    · rw [if_neg (fun c => ey c.1)]
      have : (y ∈ gkeys (L.take k) ++ [(L[k]'h).key]) ↔ y ∈ gkeys (L.take k) := by simp [ey]
      simp only [this]
  · rw [if_neg (fun c => ej c.2), if_neg (fun c => ej c.1), if_neg (fun c => ej c.1)]
theorem dK_all (S : List Sto) (i : Int) (l : List It) (h : lkS S i = some l) (y : Pr) (j : Int) : dK S i (gramsP (pw l)) (gramsP (pw l)).length y j = hC (dlS S i) y j := by
  unfold dK
  rw [List.take_length]
  by_cases e : j = i
  · subst e
    have e2 : hC (dlS S j) y j = none := by unfold hC; rw [lkS_del, if_pos rfl]; rfl
    rw [e2]
    by_cases hy : y ∈ gkeys (gramsP (pw l))
    · rw [if_pos ⟨rfl, hy⟩]
    · rw [if_neg (fun c => hy c.2)]
      unfold hC; rw [h]
      show pC l y = none
      unfold pC; rw [if_neg (fun c => hy ((gk_all _ _).2 c))]
  · rw [if_neg (fun c => e c.1)]
    unfold hC; rw [lkS_del, if_neg e]
theorem pw_size {l : List It} (h : LOk l) : ∀ y ∈ pw l, y.f.size ≤ maxLen ∧ y.s.size ≤ maxLen := by
  refine prsF_mem (wds l) (fun x hx => ?_) ⟨#[]⟩ (Nat.zero_le _)
  unfold wds at hx; rw [List.mem_map] at hx
  obtain ⟨y, hy, rfl⟩ := hx
  rw [low_size]
  exact Nat.le_trans (h.ok y (List.mem_filter.1 hy).1).2 (by unfold maxLen; omega)
theorem gram_key {l : List It} (h : LOk l) (g : Gm) (hg : g ∈ gramsP (pw l)) : ∃ kl, keyOf Tryz.prog 74 (Pr.v g.key) = some kl := by
  have h1 := pw_size h _ ((gramsP_ok (pw l)).cnt g hg).2
  exact key_ip g.key h1.1 h1.2
theorem pgrams_len (l : List It) : (gramsP (pw l)).length ≤ l.length + 1 := by
  have h := gramsP_ok (pw l)
  have h1 := grams_sum (pw l)
  have h2 : ∀ L : List Gm, (∀ g ∈ L, 1 ≤ g.n) → (L.length : Int) ≤ (L.map (·.n)).sum := fun L => by
    induction L with
    | nil => intro _; exact Int.le_refl _
    | cons g L ih => intro hh; rw [List.map_cons, List.sum_cons, List.length_cons]; have := hh g (List.mem_cons_self ..); have := ih fun x hx => hh x (List.mem_cons_of_mem _ hx); push_cast; omega
  have h3 := h2 (gramsP (pw l)) fun g hg => by
    rw [(h.cnt g hg).1]
    have := List.count_pos_iff.2 (h.cnt g hg).2
    omega
  have h4 : (pw l).length ≤ l.length + 1 := by unfold pw; rw [prs_len]; have := wds_len l; omega
  omega
end Go.Proofs.YthfgpagmepdblaaGreat
