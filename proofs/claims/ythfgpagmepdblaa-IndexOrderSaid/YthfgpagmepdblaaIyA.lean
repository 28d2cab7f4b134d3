/- Index: the walk of IndexFull. Index: lists of lists of tokens; contract of base. Index: the walks of IndexMisses and IndexShrinks. -/
import Derived.Test.YthfgpagmepdblaaIxE
import Derived.Test.YthfgpagmepdblaaScA
import Derived.Test.YthfgpagmepdblaaIxA
import Derived.ArgAppend
import Derived.Deep.DeepAppendRoom
namespace Go.Proofs.Ythfgpagmepdblaa
open Go.ChangeShapes Go.WideShapes Go.ChangeAt Go.RowKit Go.Maps
set_option linter.unusedVariables false
set_option linter.unusedSimpArgs false
set_option maxRecDepth 100000

theorem wf_i64 {z : Int} (h0 : -9223372036854775808 ≤ z) (h1 : z ≤ 9223372036854775807) : (Lit.int .i64 z).wf = true := by
  have e0 : IntKind.i64.min = -9223372036854775808 := by decide
  have e1 : IntKind.i64.max = 9223372036854775807 := by decide
  simp only [Lit.wf, e0, e1, Bool.and_eq_true, decide_eq_true_eq]; exact ⟨h0, h1⟩
def aT : List It := [⟨6, ⟨#[97]⟩, 0⟩]
def stF (k : Nat) : List Sto := (List.range k).map fun (j : Nat) => ⟨(j : Int), aT⟩
theorem stF_len (k : Nat) : (stF k).length = k := by unfold stF; simp
theorem stF_next (k : Nat) : stF k ++ [⟨(k : Int), aT⟩] = stF (k + 1) := by unfold stF; rw [List.range_succ, List.map_append]; rfl
theorem stF_mem (k : Nat) (s : Sto) (h : s ∈ stF k) : ∃ j : Nat, j < k ∧ s = ⟨(j : Int), aT⟩ := by
  unfold stF at h
  rw [List.mem_map] at h
  obtain ⟨j, hj, rfl⟩ := h
  exact ⟨j, List.mem_range.1 hj, rfl⟩
theorem stF_free (k : Nat) (i : Int) (h : (k : Int) ≤ i ∨ i < 0) : lkS (stF k) i = none := by
  rw [lkS_none]
  intro s hs c
  obtain ⟨j, hj, rfl⟩ := stF_mem k s hs
  simp at c; omega
theorem stF_nodup (k : Nat) : ((stF k).map (·.id)).Nodup := by
  unfold stF
  rw [List.map_map, List.Nodup, List.pairwise_map]
  exact List.nodup_range.imp fun {a b} h e => h (Int.ofNat.inj (show ((a : Nat) : Int) = (b : Nat) from e))
theorem stF_has (k : Nat) (j : Nat) (h : j < k) : lkS (stF k) (j : Int) ≠ none := by
  have : (⟨(j : Int), aT⟩ : Sto) ∈ stF k := by unfold stF; rw [List.mem_map]; exact ⟨j, List.mem_range.2 h, rfl⟩
  have h2 : lkS (stF k) (j : Int) = some aT := lkS_of (stF_nodup k) this
  rw [h2]; simp
theorem stF_add (i : Nat) : addB (stF (min i 1024)) (i : Int) = decide ((i : Int) < 1024) ∧ addS (stF (min i 1024)) (i : Int) aT = stF (min (i + 1) 1024) := by
  have h0 := stF_free (min i 1024) (i : Int) (.inl (by omega))
  have h1 : addB (stF (min i 1024)) (i : Int) = decide ((i : Int) < 1024) := by
    unfold addB; rw [h0, stF_len]
    rw [Bool.eq_iff_iff]; simp; omega
  refine ⟨h1, ?_⟩
  unfold addS
  rw [h1]
  by_cases h : (i : Int) < 1024
  · rw [if_pos (by simpa using h), show min i 1024 = i by omega, show min (i + 1) 1024 = i + 1 by omega, stF_next]
  · rw [if_neg (by simpa using h), show min i 1024 = min (i + 1) 1024 by omega]
/-- What is stored at the end. -/
def endF (m : Nat) : List Sto := dlS (stF m) 3 ++ [⟨-1, []⟩]
theorem endF_add (m : Nat) (h : m ≤ 1024) (h3 : 3 < m) : addB (dlS (stF m) 3) (-1) = true ∧ addS (dlS (stF m) 3) (-1) [] = endF m := by
  have h0 : lkS (dlS (stF m) 3) (-1) = none := by rw [lkS_del, if_neg (by decide)]; exact stF_free m (-1) (.inr (by decide))
  have h1 : (dlS (stF m) 3).length = m - 1 := by rw [del_len (stF_nodup m) 3 (stF_has m 3 h3), stF_len]
  have h2 : addB (dlS (stF m) 3) (-1) = true := by unfold addB; rw [h0, h1]; simp; omega
  exact ⟨h2, by unfold addS; rw [if_pos h2]; rfl⟩
theorem endF_len (m : Nat) (h3 : 3 < m) : (endF m).length = m := by
  unfold endF; rw [List.length_append, del_len (stF_nodup m) 3 (stF_has m 3 h3), stF_len]; simp; omega
theorem aT_cand : isCand aT 100 aT = true ∧ isCand aT 100 [] = false := by decide +kernel
theorem endF_cand (m : Nat) (h3 : 3 < m) : (cand (isCand aT 100) (endF m)).length = m - 1 := by
  rw [(cand_perm _ _).length_eq, List.length_map]
  unfold endF
  rw [List.filter_append, List.length_append]
  have h1 : (dlS (stF m) 3).filter (fun s => isCand aT 100 s.l) = dlS (stF m) 3 := by
    rw [List.filter_eq_self]
    intro s hs
    obtain ⟨j, _, rfl⟩ := stF_mem m s (List.mem_filter.1 hs).1
    exact aT_cand.1
  rw [h1, del_len (stF_nodup m) 3 (stF_has m 3 h3), stF_len]
  simp [aT_cand.2]
set_option maxHeartbeats 6400000 in
theorem full_law (a0 : Int) (w : World) (h0 : (Lit.int .i64 a0).wf = true) : Calls Try.prog 6 #[.int .i64 a0] w fun e w' => e = .returned (.bool true) ∧ Below w.heap.size w w' := by
  have l1 : LOk aT := lok_of _ (by decide) (by decide +kernel)
  have l0 : LOk [] := lok_of _ (by decide) (by decide +kernel)
  obtain ⟨r, hr, hn⟩ : ∃ r : Nat, r < 4 ∧ wrap64 (1023 + wrap64 ((IntKind.u64.wrap a0).tmod 4)) = ((1023 + r : Nat) : Int) := by
    have hw : 0 ≤ IntKind.u64.wrap a0 := by show 0 ≤ a0 % 18446744073709551616; omega
    refine ⟨((IntKind.u64.wrap a0) % 4).toNat, by omega, ?_⟩
    rw [Int.tmod_eq_emod_of_nonneg hw]
    unfold wrap64
    omega
  have HN := Lib.hid hn
  clear hn
  go_enter Try.func6, Try.ntmps6
  go_wp2_with fail
  rw [HN.out]
  have hn1 : 1023 + r ≤ 1026 := by omega
  have hn2 : 1023 ≤ 1023 + r := by omega
  generalize 1023 + r = n at *
  refine (new_any w).mono ?_; rintro e w1 ⟨rfl, hX, hb1⟩
  generalize hXE : w.heap.size + 2 = X at *
  have HX1 := Lib.hid hX; have HB1 := Lib.hid hb1
  have hs1 : w.heap.size ≤ w1.heap.size := hb1.size
  clear hX hb1 HN hr
  go_wp2_with fail
  have hb2 : Below w1.heap.size w1 _ := blw (Below.refl _ _) (.cells (icells aT).toArray 43)
  have hI2 : Its _ _ aT := Its.litT (heap_alloc_new w1 (.cells (icells aT).toArray 43)) rfl
  have hX2 := HX1.out.call hb2
  have hB2 := BelowOn HB1.out hb2
  have hR2 : ∀ k, (w.heap.size ≤ k ∧ k < w1.heap.size) → w.heap.size ≤ k ∧ k ≠ w1.heap.size := fun k hk => ⟨hk.1, by omega⟩
  generalize htb : w1.heap.size = tb at *
  clear hb2 HX1 HB1
  go_loopw [5] (fun v wr => ∃ (i : Nat) (R : Nat → Prop), i ≤ n ∧ v = .int .i64 i ∧ Ix wr X R (1000 * i) (stF (min i 1024)) ∧ Aside (∀ k, R k → w.heap.size ≤ k ∧ k ≠ tb) ∧ Its wr (some ⟨tb, 0, none⟩) aT ∧ Below w.heap.size w wr) (fun v _ => n - (intOf v).toNat)
  case atStart => exact ⟨0, _, Nat.zero_le _, rfl, hX2, hR2, hI2, hB2⟩
  case round =>
    clear hX2 hI2 hB2 hR2
    obtain ⟨i, R, hi, rfl, hX, hR, hI, hB⟩ := hrel
    have htl : tb < wr.heap.size := by obtain ⟨a, e, h, _⟩ := hI (by decide); injection e with e; rw [← e] at h; exact h
    by_cases hlt : i < n
    · have hA := add_any hX (i := (i : Int)) (wf_i64 (by omega) (by omega)) hI (show aT.length ≤ 1 from Nat.le_refl _) (by decide) l1 (by omega)
      rw [(stF_add i).1, (stF_add i).2] at hA
      have HA := Lib.hid hA; have HI := Lib.hid hI; have HB := Lib.hid hB; have HR := Lib.hid hR
      have hle : w.heap.size ≤ wr.heap.size := hB.size
      have ik : (i : Int) < (n : Int) := by omega
      clear hA hX hI hB hR
      by_cases hm : (i : Int) < 1024
      · have q : decide ((i : Int) < 1024) = true := by simpa using hm
        rw [q] at HA
        clear q
        go_wp2_with fail
        refine HA.out.mono ?_; rintro e w3 ⟨rfl, R3, hX3, hR3, hK3⟩
        have HX := Lib.hid (And.intro hX3 (And.intro hR3 hK3))
        clear hX3 hR3 hK3
        go_wp2_with fail
        go_roundw
        case rel =>
          obtain ⟨hX3, hR3, hK3⟩ := HX.out
          exact ⟨i + 1, R3, hlt, by go_num, hX3.mono (by omega), (fun k hk => (hR3 k hk).elim (HR.out.out k) (fun c => ⟨by omega, by omega⟩)), HI.out.kept hK3 (fun _ a ha c => by injection ha with ha; rw [← ha] at c; exact (HR.out.out _ c).2 rfl), HB.out.trans (hK3.toBelow hle (fun k hk => (HR.out.out k hk).1))⟩
        case measure => simp [intOf]; omega
      · have q : decide ((i : Int) < 1024) = false := by simpa using hm
        rw [q] at HA
        clear q
        go_wp2_with fail
        refine HA.out.mono ?_; rintro e w3 ⟨rfl, R3, hX3, hR3, hK3⟩
        have HX := Lib.hid (And.intro hX3 (And.intro hR3 hK3))
        clear hX3 hR3 hK3
        go_wp2_with fail
        go_roundw
        case rel =>
          obtain ⟨hX3, hR3, hK3⟩ := HX.out
          exact ⟨i + 1, R3, hlt, by go_num, hX3.mono (by omega), (fun k hk => (hR3 k hk).elim (HR.out.out k) (fun c => ⟨by omega, by omega⟩)), HI.out.kept hK3 (fun _ a ha c => by injection ha with ha; rw [← ha] at c; exact (HR.out.out _ c).2 rfl), HB.out.trans (hK3.toBelow hle (fun k hk => (HR.out.out k hk).1))⟩
        case measure => simp [intOf]; omega
    · obtain rfl : i = n := by omega
      have hmn : min (i : Int) 1024 = ((min i 1024 : Nat) : Int) := by omega
      have hm1 : 1023 ≤ min i 1024 := by omega
      have hm2 : min i 1024 ≤ 1024 := by omega
      have hl1 := stF_len (min i 1024)
      have hadd := endF_add (min i 1024) hm2 (by omega)
      have hel := endF_len (min i 1024) (by omega)
      have hec := endF_cand (min i 1024) (by omega)
      have hhas := stF_has (min i 1024) 3 (by omega)
      generalize min i 1024 = m at *
      have hLen := len_any hX
      rw [hl1] at hLen
      have hRem := remove_any hX (i := 3) (by decide) (by omega)
      rw [show decide (lkS (stF m) 3 ≠ none) = true from decide_eq_true hhas] at hRem
      have HLEN := Lib.hid hLen; have HREM := Lib.hid hRem; have HAD := Lib.hid hadd; have HEL := Lib.hid hel; have HEC := Lib.hid hec; have HB := Lib.hid hB; have HR := Lib.hid hR; have HI := Lib.hid hI
      have hle : w.heap.size ≤ wr.heap.size := hB.size
      clear hLen hRem hadd hel hec hB hR hI hX hhas hl1
      go_wp2_with fail
      refine HLEN.out.mono ?_; rintro e w3 ⟨rfl, rfl⟩
      go_wp2_with fail
      refine HREM.out.mono ?_; rintro e w3 ⟨rfl, R3, hX3, hR3, hK3⟩
      have hA := add_any hX3 (i := -1) (by decide) (Its.nil w3 none) (Nat.le_refl 0) (Nat.zero_le _) l0 (by omega)
      rw [HAD.out.1, HAD.out.2] at hA
      have hle3 := hK3.size
      have HA := Lib.hid hA
      have HI3 := Lib.hid (HI.out.kept hK3 (fun _ a ha c => by injection ha with ha; rw [← ha] at c; exact (HR.out.out _ c).2 rfl)); have HB3 := Lib.hid (HB.out.trans (hK3.toBelow hle (fun k hk => (HR.out.out k hk).1)))
      have HR3 := Lib.hid (show ∀ k, R3 k → w.heap.size ≤ k ∧ k ≠ tb from fun k hk => (hR3 k hk).elim (HR.out.out k) (fun c => ⟨by omega, by omega⟩))
      clear hA hX3 hR3 hK3 HREM HLEN HI HB HR
      go_wp2_with fail
      refine HA.out.mono ?_; rintro e w4 ⟨rfl, R4, hX4, hR4, hK4⟩
      have hLen := len_any hX4
      rw [HEL.out] at hLen
      have HLEN := Lib.hid hLen; have HX4 := Lib.hid hX4
      have HI4 := Lib.hid (HI3.out.kept hK4 (fun _ a ha c => by injection ha with ha; rw [← ha] at c; exact (HR3.out _ c).2 rfl)); have HB4 := Lib.hid (HB3.out.trans (hK4.toBelow (by omega) (fun k hk => (HR3.out k hk).1)))
      clear hLen hX4 hR4 hK4 HA HI3 HB3 HR3
      go_wp2_with fail
      refine HLEN.out.mono ?_; rintro e w5 ⟨rfl, rfl⟩
      have hC := cand_any HX4.out HI4.out (show aT.length ≤ 1 from Nat.le_refl _) (by decide) l1 100 (by omega) (by rw [HEL.out]; omega)
      have hcl := HEC.out
      generalize cand (isCand aT 100) (endF m) = C at *
      have HC := Lib.hid hC
      have hcl2 : (C.length : Int) = (m : Int) - 1 := by omega
      clear hC HLEN HX4 HI4
      go_wp2_with fail
      refine HC.out.mono ?_; rintro e w6 hE
      obtain ⟨p6, c6, rfl, _, _, _, hb6⟩ := EndN.f hE
      have HB6 := Lib.hid (HB4.out.trans (hb6.mono HB4.out.size))
      clear hE hb6
      go_wp2_with fail
      refine (iknown_any _).mono ?_; rintro e w7 ⟨rfl, hb7⟩
      have HB7 := Lib.hid (HB6.out.trans (hb7.mono HB6.out.size))
      clear hb7
      go_wp2_with fail
      go_ret
      exact ⟨rfl, HB7.out⟩
end Go.Proofs.Ythfgpagmepdblaa
namespace Go.Proofs.Ythfgpagmepdblaa
open Go.ChangeShapes Go.WideShapes Go.ChangeAt Go.RowKit Go.Maps Go.Sort
set_option linter.unusedVariables false
set_option linter.unusedSimpArgs false
set_option maxRecDepth 100000

def lvS (x : LV) : Value := .slice x.p x.l.length x.c
def lenc (x : LV) : List Value := [lvS x]
theorem infoL : (Try.prog.info? 28).map (fun i => (i.zero, i.size, i.bytes)) = some (some (.slice none 0 0), 1, 24) := by kernel_rfl
theorem eL : El 24 28 1 24 (.slice none 0 0) lenc := ⟨Try.underlying24, info_parts infoL, rfl, by omega, fun _ => rfl, fun x u hu => by simp [lenc] at hu; subst hu; rfl⟩
/-- What a list of base has, when r lists are there. -/
structure BOk (r : Nat) (l : List It) : Prop where
  k : kindV l
  len : l.length ≤ 14
  txt : ∀ y ∈ l, y.t.size ≤ 200 + r
theorem BOk.mono {r s : Nat} {l : List It} (h : BOk r l) (hs : r ≤ s) : BOk s l := ⟨h.k, h.len, fun y hy => by have := h.txt y hy; omega⟩
theorem nearL_size (M : List Int) (l : List It) (B : Nat) (hB : 4 ≤ B) (h : ∀ x ∈ l, x.t.size ≤ B) : ∀ x ∈ nearL M l, x.t.size ≤ B + 1 :=
  nearK_all (P := fun x => x.t.size ≤ B + 1) M l (by show 4 ≤ B + 1; omega) (fun x hx => by have := h x hx; omega) (fun x hx => by
    have := h x hx
    unfold sfxT; split
    · show (x.t ++ ⟨#[115]⟩).size ≤ B + 1
      rw [ByteArray.size_append]; show x.t.size + 1 ≤ B + 1; omega
    · omega) 0
theorem BOk.near {r : Nat} {l : List It} (h : BOk r l) (M : List Int) (hM : M.length = 5) : BOk (r + 1) (nearL M l) :=
  ⟨nearL_kind M l h.k, by have := nearL_few M l; omega, fun y hy => by have := nearL_size M l (200 + r) (by omega) h.txt y hy; omega⟩
theorem frag_kinds {f : List It} (h : errL [] f = 0) : kindsOk f := fun x hx => by
  have hp := valid_proper _ h x hx
  unfold properB at hp
  split at hp
  · omega
  · split at hp
    · omega
    · split at hp
      · omega
      · split at hp
        · omega
        · cases hp
theorem BOk.frag (L : List Int) (m r : Nat) : BOk r ((toks (fragG L true false m 5).1).take 14) := by
  have hf := (frag_ok L true false m 5 (by omega)).1
  refine ⟨fun x hx => kinds_toks _ (frag_kinds hf.e) x (List.mem_of_mem_take hx), by rw [List.length_take]; omega, fun y hy => ?_⟩
  have h1 := toks_txt (fragG L true false m 5).1
  have h2 := hf.txt
  have := txt_mem _ y (List.mem_of_mem_take hy)
  omega
/-- What base has in hand. -/
structure BaseR (w : World) (pn : Option Addr) (cn : Nat) (L : List Int) (LL : List LV) (v : Value) (m : Nat) (W : World) : Prop where
  below : Below w.heap.size w W
  nums : NumsAt W w.heap.size pn cn L m
  own : OwnL 28 1 lenc (w.heap.size + 1) LL v W
  its : ∀ x ∈ LL, Its W x.p x.l ∧ x.l.length ≤ x.c ∧ x.c ≤ maxLen ∧ (0 < x.l.length → ∀ a, x.p = some a → w.heap.size < a.block ∧ v.ownBlock ≠ some a.block)
  ok : ∀ x ∈ LL, BOk LL.length x.l
  plo : 0 < L.length → ∀ a, pn = some a → a.block < w.heap.size
section
variable {w W W' : World} {pn : Option Addr} {cn m : Nat} {L : List Int} {LL : List LV} {v : Value}
theorem BaseR.call (h : BaseR w pn cn L LL v m W) (hb : Below W.heap.size W W') : BaseR w pn cn L LL v m W' :=
  ⟨BelowOn h.below hb, h.nums.call hb, h.own.call hb, fun x hx => ⟨(h.its x hx).1.call hb, (h.its x hx).2⟩, h.ok, h.plo⟩
theorem BaseR.drew (h : BaseR w pn cn L LL v m W) : BaseR w pn cn L LL v m W.drew := h.call (drew_below W)
theorem BaseR.next (h : BaseR w pn cn L LL v m W) {m' : Nat} (hg : W.grownBy W' (some w.heap.size)) (hN : NumsAt W' w.heap.size pn cn L m') : BaseR w pn cn L LL v m' W' :=
  ⟨below_of_grow h.below hg h.below.size (Nat.le_refl _), hN, h.own.other hg (by omega),
    fun x hx => ⟨(h.its x hx).1.kept (F := fun k => k = w.heap.size) (Kept.grown hg fun k e _ => by injection e with e; exact e.symm) (fun h0 a ha c => by have := ((h.its x hx).2.2.2 h0 a ha).1; omega), (h.its x hx).2⟩, h.ok, h.plo⟩
theorem BaseR.push (h : BaseR w pn cn L LL v m W) {y : LV} {g n c : Nat} (hown : OwnL 28 1 lenc (w.heap.size + 1) (LL ++ [y]) (.slice (some ⟨g, 0, none⟩) n c) W') (hgr : W.grownBy W' v.ownBlock) (hloc : v.ownBlock = some g ∨ W.heap.size ≤ g)
    (hI : Its W y.p y.l) (hc : y.l.length ≤ y.c) (hm : y.c ≤ maxLen) (hy : 0 < y.l.length → ∀ a, y.p = some a → w.heap.size < a.block ∧ v.ownBlock ≠ some a.block) (hok : BOk (LL.length + 1) y.l) : BaseR w pn cn L (LL ++ [y]) (.slice (some ⟨g, 0, none⟩) n c) m W' := by
  have hlt := fun k e => h.own.lt k e
  have hk : Kept (fun k => v.ownBlock = some k) W W' := Kept.grown hgr fun k e _ => e
  have hb : Below (w.heap.size + 1) W W' := ⟨hgr.os, hgr.tape, hgr.output, hgr.size, fun k hk => hgr.block k (by have := h.nums.lt; omega) (fun e => by have := (hlt k e.symm).1; omega)⟩
  have sep : ∀ x : LV, Its W x.p x.l → (0 < x.l.length → ∀ a, x.p = some a → w.heap.size < a.block ∧ v.ownBlock ≠ some a.block) → 0 < x.l.length → ∀ a, x.p = some a → w.heap.size < a.block ∧ (Value.slice (some ⟨g, 0, none⟩) n c).ownBlock ≠ some a.block := fun x hi hx h0 a ha => by
    refine ⟨(hx h0 a ha).1, fun e => ?_⟩
    have e' : g = a.block := by simpa [Value.ownBlock] using e
    rcases hloc with c | c
    · exact (hx h0 a ha).2 (by rw [c, e'])
    · obtain ⟨a2, e2, h2, _⟩ := hi h0
      rw [ha] at e2; injection e2 with e2
      rw [← e2] at h2; omega
  refine ⟨h.below.trans (hb.mono (by omega)), h.nums.keep hb.size (hb.block _ (by omega)) (fun h0 a ha => hb.block _ (by have := h.plo h0 a ha; omega)), hown, fun x hx => ?_, fun x hx => ?_, h.plo⟩
  · rcases List.mem_append.1 hx with hx | hx
    · obtain ⟨q1, q2, q3, q4⟩ := h.its x hx
      exact ⟨q1.kept hk (fun h0 a ha => (q4 h0 a ha).2), q2, q3, sep x q1 q4⟩
    · rw [List.mem_singleton] at hx; subst hx
      exact ⟨hI.kept hk (fun h0 a ha => (hy h0 a ha).2), hc, hm, sep x hI hy⟩
  · rw [List.length_append]
    rcases List.mem_append.1 hx with hx | hx
    · exact (h.ok x hx).mono (Nat.le_add_right _ _)
    · rw [List.mem_singleton] at hx; subst hx; exact hok
theorem BaseR.start (pn : Option Addr) (cn : Nat) (L : List Int) (w : World) (hL : Ones w (Value.int .i64) pn L) (wL : ∀ i (h : i < L.length), (Lit.int .i64 (L[i]'h)).wf = true) (hc : L.length ≤ cn) (hm : cn ≤ maxLen) :
    BaseR w pn cn L [] (.slice none 0 0) 0 (w.alloc (.cells #[.slice pn L.length cn, .int .i64 0] 49)) :=
  ⟨blw (Below.refl _ _) _, NumsAt.made hL wL hc hm, OwnL.nil _ _, fun x hx => (by cases hx), fun x hx => (by cases hx), fun h0 => ones_any hL h0⟩
theorem BaseR.row (h : BaseR w pn cn L LL v m W) (i : Nat) (hi : i < LL.length) : ∃ p c, v = .slice p LL.length c ∧ LL.length ≤ c ∧ c ≤ maxLen ∧ Ones W lvS p LL := by
  obtain ⟨p, c, h1, h2, h3, h4⟩ := OwnL.ones (en := lvS) h.own
  exact ⟨p, c, h1, h2, h3, h4⟩
end
theorem cellsL (LL : List LV) : cellsOf lenc LL = LL.map lvS := by
  unfold cellsOf
  induction LL with
  | nil => rfl
  | cons x LL ih => rw [List.flatMap_cons, ih]; rfl
/-- One list behind others, whose row stays readable. -/
theorem append_row {base : Nat} {w : World} (ty : TypeId) {LL : List LV} {ad : Addr} {cap : Nat} (hown : OwnL 28 1 lenc base LL (.slice (some ad) LL.length cap) w) (y : LV) (B : Nat) (hB : w.heap[B]? = some (.cells #[lvS y] 28 (0, 0))) (hl : LL.length ≤ 1000) (hbase : base ≤ w.heap.size) :
    ∃ g' cap' w', (Builtin.append_ #[24, 24] ty #[.slice (some ad) LL.length cap, .slice (some ⟨B, 0, none⟩) 1 1]).run Try.prog w = .ok (.slice (some ⟨g', 0, none⟩) (LL.length + 1) cap') w' ∧
      OwnL 28 1 lenc base (LL ++ [y]) (.slice (some ⟨g', 0, none⟩) (LL.length + 1) cap') w' ∧ w.grownBy w' (some ad.block) ∧ ((Value.slice (some ad) LL.length cap).ownBlock = some g' ∨ w.heap.size ≤ g') ∧ Ones w' lvS (some ad) LL := by
  obtain ⟨i, hi, hz0, hz1, hz2⟩ := eL.hi
  have hn : ∀ j u, (lenc y)[j]? = some u → w.cell? ((⟨B, 0, none⟩ : Addr).add j) = some u := by rw [show lenc y = (#[lvS y] : Array Value).toList from rfl]; exact World.news_of_block hB
  have hone : ∀ u ∈ lenc y, u.oneCell' = true := eL.one y
  have hcat : cellsOf lenc (LL ++ [y]) = cellsOf lenc LL ++ lenc y := by unfold cellsOf; rw [List.flatMap_append]; simp
  obtain ⟨p0, c0, e0, h1, h2, h3⟩ := OwnL.ones (en := lvS) hown
  injection e0 with e1 _ e3
  subst e1; subst e3
  rcases id hown.2 with ⟨hv, _⟩ | ⟨g, cap', cur, hv, hbg, hh, hnc, hcm, hcs2, ht⟩
  · injection hv with h; cases h
  injection hv with a1 a2 a3
  injection a1 with a1
  subst a1; subst a3
  by_cases hr : LL.length < cap
  · obtain ⟨w', hrun, h5, h6⟩ := run_append_own_spare (P := Try.prog) w base 24 ty 28 i 1 eL.ht hi hz1 g LL.length cap (cellsOf lenc LL) hown ⟨B, 0, none⟩ 1 1 (lenc y) rfl hn hone (by omega)
    have hown2 : OwnL 28 1 lenc base (LL ++ [y]) (.slice (some ⟨g, 0, none⟩) (LL.length + 1) cap) w' := by
      unfold OwnL; rw [List.length_append, hcat]; exact h5
    obtain ⟨p2, c2, e2, _, _, h7⟩ := OwnL.ones (en := lvS) hown2
    injection e2 with e2
    subst e2
    refine ⟨g, cap, w', hrun, hown2, h6, .inl rfl, fun h0 => ?_⟩
    obtain ⟨a, ea, q1, q2⟩ := h7 (by simp)
    refine ⟨a, ea, q1, fun j hj => ?_⟩
    have := q2 j (by simp; omega)
    rwa [List.getElem_append_left hj] at this
  · have h0 : 0 < LL.length ∨ LL.length = 0 := by omega
    have holds : ∀ j u, (cellsOf lenc LL)[j]? = some u → w.cell? ((⟨g, 0, none⟩ : Addr).add j) = some u := fun j u hj => by
      have hj1 : j < LL.length := by have := (List.getElem?_eq_some_iff.1 hj).1; rw [cellsOf_len eL] at this; omega
      obtain ⟨a, ea, q1, q2⟩ := h3 (by omega)
      injection ea with ea
      subst ea
      rw [q2 j hj1]
      rw [cellsL, List.getElem?_map, List.getElem?_eq_getElem hj1] at hj
      exact hj
    obtain ⟨v', w', hrun, h5, h6⟩ := run_append_arg_grows (P := Try.prog) w 24 ty 28 i (.slice none 0 0) 1 24 eL.ht hi hz0 hz1 hz2 rfl (by omega) ⟨g, 0, none⟩ LL.length cap (cellsOf lenc LL) (cellsOf_len eL LL) holds ⟨B, 0, none⟩ 1 1 (lenc y) rfl hn (by omega) (by unfold maxLen; omega) (by omega)
    rcases id h5.2 with ⟨hv2, h8⟩ | ⟨g', cap', cur', hv2, hbg', hh', hnc', hcm', hcs', ht'⟩
    · omega
    · subst hv2
      refine ⟨g', cap', w', hrun, ?_, h6.but _, .inr hbg', h3.call ((Below.refl _ _).grown h6 (Nat.le_refl _) (fun j hj => by cases hj))⟩
      unfold OwnL
      rw [List.length_append, hcat]
      exact ownsRow_base h5 hbase
/-- Lists of tokens as a law has them: all in blocks below B. -/
structure BB (W : World) (B : Nat) (p : Option Addr) (LL : List LV) : Prop where
  ones : Ones W lvS p LL
  lo : 0 < LL.length → ∀ a, p = some a → a.block < B
  its : ∀ x ∈ LL, Its W x.p x.l ∧ x.l.length ≤ x.c ∧ x.c ≤ maxLen ∧ (0 < x.l.length → ∀ a, x.p = some a → a.block < B)
  ok : ∀ x ∈ LL, BOk 8 x.l
  bs : B ≤ W.heap.size
theorem BB.keep {W W' : World} {B : Nat} {p : Option Addr} {LL : List LV} (h : BB W B p LL) (hb : Below B W W') : BB W' B p LL :=
  ⟨ones_keep h.ones hb.size (fun h0 a ha => hb.block _ (h.lo h0 a ha)), h.lo, fun x hx => ⟨(h.its x hx).1.kept (F := fun k => B ≤ k) ⟨hb.os, hb.tape, hb.output, hb.size, fun k hk hn => hb.block k (by omega)⟩ (fun h0 a ha c => by have := (h.its x hx).2.2.2 h0 a ha; omega), (h.its x hx).2⟩, h.ok, Nat.le_trans h.bs hb.size⟩
theorem BB.call {W W' : World} {B : Nat} {p : Option Addr} {LL : List LV} (h : BB W B p LL) (hb : Below W.heap.size W W') : BB W' B p LL := h.keep (hb.mono h.bs)
theorem BOk.lok {r : Nat} {l : List It} (h : BOk r l) (hr : r ≤ 800) : LOk l := ⟨by have := h.len; omega, fun x hx => ⟨wf_kind (h.k x hx), by have := h.txt x hx; omega⟩⟩
set_option maxHeartbeats 25600000 in
theorem base_any (pn : Option Addr) (cn : Nat) (L : List Int) (w : World) (hL : Ones w (Value.int .i64) pn L) (wL : ∀ i (h : i < L.length), (Lit.int .i64 (L[i]'h)).wf = true) (hc : L.length ≤ cn) (hm : cn ≤ maxLen) :
    Calls Try.prog 8 #[.slice pn L.length cn] w fun e w' => ∃ q c LL, e = .returned (.slice q LL.length c) ∧ LL.length ≤ 8 ∧ LL.length ≤ c ∧ c ≤ maxLen ∧ BB w' w'.heap.size q LL ∧ Below w.heap.size w w' := by
  have hS := BaseR.start pn cn L w hL wL hc hm
  have HNX := Lib.hid (fun W (m : Nat) (n : Int) (k : Nat) hk hN (h1 : m ≤ 1000) (h2 : 1 ≤ n) (h3 : n ≤ 1000) => next_any w.heap.size pn cn L m n k hk W hN (by omega) h2 (by omega))
  have HFR := Lib.hid (fun W (m : Nat) hN hlo (h1 : m ≤ 1000) => fragment_any w.heap.size pn cn L m true false 5 5 rfl W hN hlo (by omega) (by omega))
  have HLT := Lib.hid (fun m n (h : 0 < n) => nx_lt L m n h)
  clear hL wL hc hm
  go_enter Try.func8, Try.ntmps8
  go_wp2_with fail
  generalize (w.alloc (.cells #[.slice pn L.length cn, .int .i64 0] 49)) = w1 at *
  refine (HNX.out w1 0 9 9 rfl hS.nums (by omega) (by omega) (by omega)).mono ?_; rintro e w2 ⟨rfl, hg2, hN2⟩
  have hR2 := hS.next hg2 hN2
  have hk9 := HLT.out 0 9 (by omega)
  generalize nx L 0 9 = K at *
  clear hS hg2 hN2
  go_wp2_with fail
  go_loopw [4, 5] (fun v i wr => ∃ (k m : Nat) (LL : List LV), i = .int .i64 k ∧ k + LL.length ≤ 8 ∧ m ≤ 60 * LL.length + 1 ∧ BaseR w pn cn L LL v m wr) (fun _ i _ => (intOf i).toNat)
  case atStart => exact ⟨K, 1, [], rfl, by simp; omega, by simp, hR2⟩
  case round =>
    clear hR2
    obtain ⟨k, m, LL, rfl, hkL, hmL, hR⟩ := hrel
    obtain ⟨pv, cv, hv, hv1, hv2, hv3⟩ := OwnL.ones (en := lvS) hR.own
    by_cases hk0 : k = 0
    · subst hk0
      obtain ⟨hq1, hq2⟩ : (LL.length ≤ 8) ∧ True := ⟨by omega, trivial⟩
      have HR := Lib.hid hR
      subst hv
      have HV := Lib.hid (And.intro hv1 (And.intro hv2 hv3))
      clear hR hv1 hv2 hv3
      go_wp2_with fail
      go_ret
      obtain ⟨hv1, hv2, hv3⟩ := HV.out
      have hR := HR.out
      refine ⟨pv, cv, LL, rfl, hq1, hv1, hv2, ⟨hv3, fun h0 a ha => ?_, fun x hx => ?_, fun x hx => (hR.ok x hx).mono hq1, Nat.le_refl _⟩, hR.below⟩
      · obtain ⟨a2, e2, h2, _⟩ := hv3 h0
        rw [ha] at e2; injection e2 with e2; rw [e2]; exact h2
      · obtain ⟨q1, q2, q3, q4⟩ := hR.its x hx
        refine ⟨q1, q2, q3, fun h0 a ha => ?_⟩
        obtain ⟨a2, e2, h2, _⟩ := q1 h0
        rw [ha] at e2; injection e2 with e2; rw [e2]; exact h2
    · have ik : (0 : Int) < (k : Int) := by omega
      have hk1 : IntKind.i64.wrap ((k : Int) - 1) = ((k - 1 : Nat) : Int) := by rw [show (k : Int) - 1 = ((k - 1 : Nat) : Int) by omega]; exact IntWalk.i64_in _ ⟨by omega, by omega⟩
      by_cases hLL : LL.length = 0
      · obtain rfl : LL = [] := List.length_eq_zero_iff.1 hLL
        clear hLL
        subst hv
        obtain ⟨mm, hmm⟩ : ∃ mm, mm = m := ⟨m, rfl⟩
        have hR8 : BaseR w pn cn L [] (.slice pv 0 cv) mm wr := by rw [hmm]; exact hR
        have hmm1 : mm ≤ 2 := by rw [List.length_nil] at hmL; omega
        have hkL : k ≤ 8 := by rw [List.length_nil] at hkL; omega
        clear hR hv1 hv2 hv3 hmm hmL
        go_wp2_with fail
        refine (HFR.out _ mm hR8.nums (fun h0 a ha => by have := hR8.plo h0 a ha; have := hR8.nums.lt; omega) (by omega)).mono ?_; rintro e w5 ⟨v5, rfl, hg5, hN5, hO5⟩
        have hR5 := hR8.next hg5 hN5
        have hfo := frag_ok L true false mm 5 (by omega)
        have hfl := hfo.1.len; have hft := hfo.1.txt; have hfm := hfo.2.2
        have HBF := Lib.hid (BOk.frag L mm (0 + 1))
        have hs5 : _ ≤ w5.heap.size := hg5.size
        generalize (fragG L true false mm 5).2 = m5 at *
        generalize (fragG L true false mm 5).1 = F at *
        obtain ⟨pf, cf, rfl, hf1, hf2, hf3⟩ := OwnL.its hO5
        have HR5 := Lib.hid hR5
        have HTK := Lib.hid (rtokens_any pf cf F w5 hf3 hf1 hf2 (by omega))
        have htl := toks_len F
        have HRL := Lib.hid (show ∀ k2, (Value.slice pv 0 cv).ownBlock = some k2 → k2 < w5.heap.size from fun k2 e => (hR5.own.lt k2 e).2)
        have hwl : w.heap.size < w5.heap.size := hR5.nums.lt
        clear hR8 hg5 hN5 hO5 hR5 hf3 hfo
        go_wp2_with fail
        refine HTK.out.mono ?_; rintro e w6 ⟨v6, rfl, hA6⟩
        have hb6 := hA6.below
        have hO6 := hA6.own
        have hlt6 := hO6.lt
        obtain ⟨pt, ct, rfl, ht1, ht2, ht3⟩ := OwnT.its hO6
        have hR6 := HR5.out.call hb6
        have htk : Its w6 pt ((toks F).take 14) := its_takeD ht3 14
        have hmn : min ((toks F).length : Int) 14 = ((((toks F).take 14).length : Nat) : Int) := by rw [List.length_take]; omega
        have hmc : ((((toks F).take 14).length : Nat) : Int) ≤ (ct : Int) := by rw [List.length_take]; omega
        have hmz : (0 : Int) ≤ ((((toks F).take 14).length : Nat) : Int) := by omega
        have hmc2 : ((toks F).take 14).length ≤ ct := by omega
        have hpt : ∀ a, pt = some a → w5.heap.size ≤ a.block ∧ a.block < w6.heap.size := fun a ha => hlt6 a.block (by rw [ha]; rfl)
        generalize (toks F).length = TL at *
        generalize (toks F).take 14 = Y at *
        have HR6 := Lib.hid hR6; have HTK2 := Lib.hid htk; have HPT := Lib.hid hpt
        have hnew := heap_alloc_new w6 (.cells #[.slice pt Y.length ct] 28)
        have hb7 : Below w6.heap.size w6 (w6.alloc (.cells #[.slice pt Y.length ct] 28)) := blw (Below.refl _ _) _
        have hR7 := hR6.call hb7
        have HCT := Lib.hid ht2
        have hTK7 := Lib.hid (htk.call hb7)
        clear hA6 hb6 hO6 hlt6 ht1 ht2 ht3 hR6 htk hpt hnew hb7 HTK HR5 HR6 HTK2
        go_wp2_with (at_builtin; refine wpl_app eL _ rfl _ _ rfl (w.heap.size + 1) ([] : List LV) _ rfl hR7.own (by have := hR7.nums.lt; omega) (⟨pt, ct, Y⟩ : LV) _ _ rfl (heap_alloc_new _ _) rfl (by omega) (by unfold maxLen; omega) ?_; intro g9 cap9 w9 hown9 hg9 hloc9)
        have hR9 := hR7.push hown9 hg9 (hloc9.imp id (fun e => Nat.le_of_eq e.symm)) (y := ⟨pt, ct, Y⟩) hTK7.out hmc2 HCT.out (fun h0 a ha => ⟨by have := (HPT.out a ha).1; omega, fun e => by have := (HPT.out a ha).1; have := HRL.out _ e; omega⟩) HBF.out
        have HR9 := Lib.hid hR9
        clear hR9 hR7 hown9 hg9 hloc9 hTK7
        go_wp2_with fail
        go_roundw
        case rel =>
          exact ⟨k - 1, m5, ([] : List LV) ++ [⟨pt, ct, Y⟩], by go_num, by rw [List.length_append, List.length_singleton]; omega, by rw [List.length_append, List.length_singleton]; omega, HR9.out⟩
        case measure => simp [intOf]; omega
      · have hl0 : (0 : Int) < (LL.length : Int) := by omega
        have hN2 := HNX.out wr m 2 2 rfl hR.nums (by omega) (by omega) (by omega)
        have HN2 := Lib.hid hN2; have HR := Lib.hid hR
        have hx2 := HLT.out m 2 (by omega)
        subst hv
        have HV := Lib.hid (And.intro hv1 (And.intro hv2 hv3))
        clear hN2 hR hv1 hv2 hv3
        generalize nx L m 2 = N2 at *
        go_wp2_with fail
        refine HN2.out.mono ?_; rintro e w3 ⟨rfl, hg3, hN3⟩
        have hR3 := HR.out.next hg3 hN3
        clear HN2 HR hg3 hN3
        by_cases hz2 : N2 = 0
        · have q0 : ((N2 : Int) == 0) = true := by simp [hz2]
          have HR3 := Lib.hid hR3
          clear hz2 hR3
          go_wp2_with fail
          refine wp_region_held_drew (S := fun _ => True) (by kernel_rfl) (trivial) (fun hHeld => ?_)
          have hR4 := HR3.out.drew
          generalize w3.drew = w4 at *
          clear HR3
          refine wpAnyH_take (i := 0) (v := ?_) rfl (by kernel_rfl) (by kernel_rfl) (by kernel_rfl) (fun _ _ _ h => h) (Or.inl ⟨by rfl, ?_⟩) hHeld ?_
          rotate_left
          · (intro w hSw; skip; go_simp; try with_reducible rfl)
          try simp only [Act.put, List.getElem_toArray, List.getElem_cons_zero, List.getElem_cons_succ, List.setIfInBounds_toArray, List.set_cons_zero, List.set_cons_succ]
          refine wpAnyH_take (i := 1) (v := ?_) rfl (by kernel_rfl) (by kernel_rfl) (by kernel_rfl) (fun _ _ _ h => h) (Or.inl ⟨by rfl, ?_⟩) hHeld ?_
          rotate_left
          · (intro w hSw; skip; go_simp; try with_reducible rfl)
          try simp only [Act.put, List.getElem_toArray, List.getElem_cons_zero, List.getElem_cons_succ, List.setIfInBounds_toArray, List.set_cons_zero, List.set_cons_succ]
          refine wpAnyH_take (i := 2) (v := ?_) rfl (by kernel_rfl) (by kernel_rfl) (by kernel_rfl) (fun _ _ _ h => h) (Or.inl ⟨by rfl, ?_⟩) hHeld ?_
          rotate_left
          · (intro w hSw; skip; go_simp; try with_reducible rfl)
          try simp only [Act.put, List.getElem_toArray, List.getElem_cons_zero, List.getElem_cons_succ, List.setIfInBounds_toArray, List.set_cons_zero, List.set_cons_succ]
          refine wpAnyH_take (i := 3) (v := ?_) rfl (by kernel_rfl) (by kernel_rfl) (by kernel_rfl) (fun _ _ _ h => h) (Or.inl ⟨by rfl, ?_⟩) hHeld ?_
          rotate_left
          · (intro w hSw; skip; go_simp; try with_reducible rfl)
          try simp only [Act.put, List.getElem_toArray, List.getElem_cons_zero, List.getElem_cons_succ, List.setIfInBounds_toArray, List.set_cons_zero, List.set_cons_succ]
          refine wpAnyH_take (i := 4) (v := ?_) rfl (by kernel_rfl) (by kernel_rfl) (by kernel_rfl) (fun _ _ _ h => h) (Or.inl ⟨by rfl, ?_⟩) hHeld ?_
          rotate_left
          · (intro w hSw; skip; go_simp; try with_reducible rfl)
          try simp only [Act.put, List.getElem_toArray, List.getElem_cons_zero, List.getElem_cons_succ, List.setIfInBounds_toArray, List.set_cons_zero, List.set_cons_succ]
          refine wpAnyH_take (i := 8) (v := ?_) rfl (by kernel_rfl) (by kernel_rfl) (by kernel_rfl) (fun _ _ _ h => h) (Or.inl ⟨by rfl, ?_⟩) hHeld ?_
          rotate_left
          · (intro w hSw; skip; go_simp; try with_reducible rfl)
          try simp only [Act.put, List.getElem_toArray, List.getElem_cons_zero, List.getElem_cons_succ, List.setIfInBounds_toArray, List.set_cons_zero, List.set_cons_succ]
          refine wpAnyH_take (i := 10) (v := ?_) rfl (by kernel_rfl) (by kernel_rfl) (by kernel_rfl) (fun _ _ _ h => h) (Or.inl ⟨by rfl, ?_⟩) hHeld ?_
          rotate_left
          · (intro w hSw; skip; go_simp; try with_reducible rfl)
          try simp only [Act.put, List.getElem_toArray, List.getElem_cons_zero, List.getElem_cons_succ, List.setIfInBounds_toArray, List.set_cons_zero, List.set_cons_succ]
          refine wpAnyH_take (i := 12) (v := ?_) rfl (by kernel_rfl) (by kernel_rfl) (by kernel_rfl) (fun _ _ _ h => h) (Or.inl ⟨by rfl, ?_⟩) hHeld ?_
          rotate_left
          · (intro w hSw; skip; go_simp; try with_reducible rfl)
          try simp only [Act.put, List.getElem_toArray, List.getElem_cons_zero, List.getElem_cons_succ, List.setIfInBounds_toArray, List.set_cons_zero, List.set_cons_succ]
          refine wpAnyH_take (i := 14) (v := ?_) rfl (by kernel_rfl) (by kernel_rfl) (by kernel_rfl) (fun _ _ _ h => h) (Or.inl ⟨by rfl, ?_⟩) hHeld ?_
          rotate_left
          · (intro w hSw; skip; go_simp; try with_reducible rfl)
          try simp only [Act.put, List.getElem_toArray, List.getElem_cons_zero, List.getElem_cons_succ, List.setIfInBounds_toArray, List.set_cons_zero, List.set_cons_succ]
          have hxl := HLT.out (m + 1) LL.length (by omega)
          have hN5 := HNX.out w4 (m + 1) (LL.length : Int) LL.length rfl hR4.nums (by omega) (by omega) (by omega)
          generalize nx L (m + 1) LL.length = N at *
          refine wpAnyH_ready (rs := [5]) (by kernel_rfl) (by simp) ?_
          refine (AllReadyH.cons rfl (fun K hK => ?_) AllReadyH.nil)
          go_simp
          refine hN5.mono ?_; rintro e w5 ⟨rfl, hg5, hN5⟩
          refine hK.out _ _ trivial (fun hHeld => ?_)
          clear hK K
          try simp only [Act.put, List.getElem_toArray, List.getElem_cons_zero, List.getElem_cons_succ, List.setIfInBounds_toArray, List.set_cons_zero, List.set_cons_succ]
          have hR5 := hR4.next hg5 hN5
          clear hR4 hg5 hN5 hHeld
          obtain ⟨hv1, hv2, _⟩ := HV.out
          obtain ⟨p5, c5, hv5, _, _, hv3⟩ := OwnL.ones (en := lvS) hR5.own
          injection hv5 with e5 _ e6; subst e5; subst e6
          obtain ⟨ad, rfl, hadl, hadc⟩ := hv3 (by omega)
          have hcN := hadc N (by omega)
          have hNi : (N : Int) < (LL.length : Int) := by omega
          obtain ⟨x, hx⟩ : ∃ x, x = LL[N] := ⟨_, rfl⟩
          have hxm : x ∈ LL := hx ▸ List.getElem_mem _
          rw [← hx] at hcN
          have hcN' : w5.cell? (ad.add N) = some (.slice x.p x.l.length x.c) := hcN
          have hgb : (Value.slice (some ad) LL.length cv).ownBlock = some ad.block := rfl
          have hgl := hR5.own.lt ad.block hgb
          have hkeepN : ∀ W W' : World, Kept (fun k => k = w.heap.size) W W' → W.cell? (ad.add N) = some (.slice x.p x.l.length x.c) → W'.cell? (ad.add N) = some (.slice x.p x.l.length x.c) := fun W W' k h => k.cell h (by rw [add_block]; omega)
          obtain ⟨hxi, hxc, hxmx, hxb⟩ := hR5.its x hxm
          have hxo := hR5.ok x hxm
          have HXO := Lib.hid hxo; have HXX := Lib.hid hxm
          have HXN := Lib.hid hx
          clear hadc hcN hx hxi hxo hxb
          refine wpAnyH_mono (S' := fun W => W.cell? (ad.add N) = some (.slice x.p x.l.length x.c)) (fun _ _ => trivial) _ _ _ _ ?_
          have hHeld := hcN'
          refine wpAnyH_take (i := 6) (v := ?_) rfl (by kernel_rfl) (by kernel_rfl) (by kernel_rfl) (fun _ _ _ h => h) (Or.inl ⟨by rfl, ?_⟩) hHeld ?_
          rotate_left
          · (intro w hSw; skip; go_simp; try with_reducible rfl)
          try simp only [Act.put, List.getElem_toArray, List.getElem_cons_zero, List.getElem_cons_succ, List.setIfInBounds_toArray, List.set_cons_zero, List.set_cons_succ]
          refine wpAnyH_take (i := 7) (v := ?_) rfl (by kernel_rfl) (by kernel_rfl) (by kernel_rfl) (fun _ _ _ h => h) (Or.inl ⟨by rfl, ?_⟩) hHeld ?_
          rotate_left
          · (intro w hSw; skip; go_simp; try with_reducible rfl)
          try simp only [Act.put, List.getElem_toArray, List.getElem_cons_zero, List.getElem_cons_succ, List.setIfInBounds_toArray, List.set_cons_zero, List.set_cons_succ]
          have hlt0 := HLT.out (m + 1 + 1) 12 (by omega)
          have hNN0 := HNX.out w5 (m + 1 + 1) 12 12 rfl hR5.nums (by omega) (by omega) (by omega)
          generalize nx L (m + 1 + 1) 12 = A0 at *
          refine wpAnyH_ready (rs := [9]) (by kernel_rfl) (by simp) ?_
          refine (AllReadyH.cons rfl (fun K hK => ?_) AllReadyH.nil)
          go_simp
          refine hNN0.mono ?_; rintro e v0 ⟨rfl, hg0, hNu0⟩
          have hcell0 := hkeepN _ _ (Kept.grown hg0 fun k e _ => by injection e with e; exact e.symm) hHeld
          refine hK.out _ _ hcell0 (fun hHeld => ?_)
          clear hK K
          try simp only [Act.put, List.getElem_toArray, List.getElem_cons_zero, List.getElem_cons_succ, List.setIfInBounds_toArray, List.set_cons_zero, List.set_cons_succ]
          have hRR0 := hR5.next hg0 hNu0
          clear hR5 hg0 hNu0 hNN0 hcell0
          have hlt1 := HLT.out (m + 1 + 1 + 1) 12 (by omega)
          have hNN1 := HNX.out v0 (m + 1 + 1 + 1) 12 12 rfl hRR0.nums (by omega) (by omega) (by omega)
          generalize nx L (m + 1 + 1 + 1) 12 = A1 at *
          refine wpAnyH_ready (rs := [11]) (by kernel_rfl) (by simp) ?_
          refine (AllReadyH.cons rfl (fun K hK => ?_) AllReadyH.nil)
          go_simp
          refine hNN1.mono ?_; rintro e v1 ⟨rfl, hg1, hNu1⟩
          have hcell1 := hkeepN _ _ (Kept.grown hg1 fun k e _ => by injection e with e; exact e.symm) hHeld
          refine hK.out _ _ hcell1 (fun hHeld => ?_)
          clear hK K
          try simp only [Act.put, List.getElem_toArray, List.getElem_cons_zero, List.getElem_cons_succ, List.setIfInBounds_toArray, List.set_cons_zero, List.set_cons_succ]
          have hRR1 := hRR0.next hg1 hNu1
          clear hRR0 hg1 hNu1 hNN1 hcell1
          have hlt2 := HLT.out (m + 1 + 1 + 1 + 1) 12 (by omega)
          have hNN2 := HNX.out v1 (m + 1 + 1 + 1 + 1) 12 12 rfl hRR1.nums (by omega) (by omega) (by omega)
          generalize nx L (m + 1 + 1 + 1 + 1) 12 = A2 at *
          refine wpAnyH_ready (rs := [13]) (by kernel_rfl) (by simp) ?_
          refine (AllReadyH.cons rfl (fun K hK => ?_) AllReadyH.nil)
          go_simp
          refine hNN2.mono ?_; rintro e v2 ⟨rfl, hg2, hNu2⟩
          have hcell2 := hkeepN _ _ (Kept.grown hg2 fun k e _ => by injection e with e; exact e.symm) hHeld
          refine hK.out _ _ hcell2 (fun hHeld => ?_)
          clear hK K
          try simp only [Act.put, List.getElem_toArray, List.getElem_cons_zero, List.getElem_cons_succ, List.setIfInBounds_toArray, List.set_cons_zero, List.set_cons_succ]
          have hRR2 := hRR1.next hg2 hNu2
          clear hRR1 hg2 hNu2 hNN2 hcell2
          have hlt3 := HLT.out (m + 1 + 1 + 1 + 1 + 1) 12 (by omega)
          have hNN3 := HNX.out v2 (m + 1 + 1 + 1 + 1 + 1) 12 12 rfl hRR2.nums (by omega) (by omega) (by omega)
          generalize nx L (m + 1 + 1 + 1 + 1 + 1) 12 = A3 at *
          refine wpAnyH_ready (rs := [15]) (by kernel_rfl) (by simp) ?_
          refine (AllReadyH.cons rfl (fun K hK => ?_) AllReadyH.nil)
          go_simp
          refine hNN3.mono ?_; rintro e v3 ⟨rfl, hg3, hNu3⟩
          have hcell3 := hkeepN _ _ (Kept.grown hg3 fun k e _ => by injection e with e; exact e.symm) hHeld
          refine hK.out _ _ hcell3 (fun hHeld => ?_)
          clear hK K
          try simp only [Act.put, List.getElem_toArray, List.getElem_cons_zero, List.getElem_cons_succ, List.setIfInBounds_toArray, List.set_cons_zero, List.set_cons_succ]
          have hRR3 := hRR2.next hg3 hNu3
          clear hRR2 hg3 hNu3 hNN3 hcell3
          obtain ⟨hxi, hxc2, hxmx2, hxb⟩ := hRR3.its x HXX.out
          have hm5 : ((heap_alloc_new v3 (.cells #[.int .i64 (A0 : Nat), .int .i64 (A1 : Nat), .int .i64 (A2 : Nat), .int .i64 7, .int .i64 (A3 : Nat)] 3)) = (heap_alloc_new v3 (.cells #[.int .i64 (A0 : Nat), .int .i64 (A1 : Nat), .int .i64 (A2 : Nat), .int .i64 7, .int .i64 (A3 : Nat)] 3))) := rfl
          have hO5 : Ones _ (Value.int .i64) _ [(A0 : Int), (A1 : Int), (A2 : Int), 7, (A3 : Int)] := ones_litN (heap_alloc_new v3 (.cells #[.int .i64 (A0 : Nat), .int .i64 (A1 : Nat), .int .i64 (A2 : Nat), .int .i64 7, .int .i64 (A3 : Nat)] 3)) rfl
          have hb5 : Below v3.heap.size v3 (v3.alloc (.cells #[.int .i64 (A0 : Nat), .int .i64 (A1 : Nat), .int .i64 (A2 : Nat), .int .i64 7, .int .i64 (A3 : Nat)] 3)) := blw (Below.refl _ _) _
          have hR6 := hRR3.call hb5
          have hc6 := hkeepN _ _ (Kept.below hb5) hHeld
          have hI6 := hxi.call hb5
          have hw6 : ∀ i (h : i < [(A0 : Int), (A1 : Int), (A2 : Int), 7, (A3 : Int)].length), (Lit.int .i64 ([(A0 : Int), (A1 : Int), (A2 : Int), 7, (A3 : Int)][i]'h)).wf = true := fun i h => by
            have : i = 0 ∨ i = 1 ∨ i = 2 ∨ i = 3 ∨ i = 4 := by simp at h; omega
            rcases this with rfl | rfl | rfl | rfl | rfl
            all_goals exact wf_i64 (by (try simp only [List.getElem_cons_zero, List.getElem_cons_succ]); omega) (by (try simp only [List.getElem_cons_zero, List.getElem_cons_succ]); omega)
          have HNR := Lib.hid (near_any x.p (some ⟨v3.heap.size, 0, none⟩) x.c 5 x.l [(A0 : Int), (A1 : Int), (A2 : Int), 7, (A3 : Int)] _ hI6 hxc hxmx hO5 hw6 (by simp) (by unfold maxLen; omega) (by have := HXO.out.len; omega) (fun y hy => by have := HXO.out.txt y hy; omega))
          have HBN := Lib.hid (HXO.out.near [(A0 : Int), (A1 : Int), (A2 : Int), 7, (A3 : Int)] rfl)
          have HR6 := Lib.hid hR6
          clear hm5 hO5 hRR3 hR6 hI6 hw6 hxi hxb
          refine wpAnyH_ready (rs := [16]) (by kernel_rfl) (by simp) ?_
          refine (AllReadyH.cons rfl (fun K hK => ?_) AllReadyH.nil)
          go_simp
          refine hK.out _ _ hc6 (fun hHeld => ?_)
          clear hK K hc6
          try simp only [Act.put, List.getElem_toArray, List.getElem_cons_zero, List.getElem_cons_succ, List.setIfInBounds_toArray, List.set_cons_zero, List.set_cons_succ]
          skip
          generalize (v3.alloc (.cells #[.int .i64 (A0 : Nat), .int .i64 (A1 : Nat), .int .i64 (A2 : Nat), .int .i64 7, .int .i64 (A3 : Nat)] 3)) = v4 at *
          generalize v3.heap.size = lb at *
          generalize hMM : [(A0 : Int), (A1 : Int), (A2 : Int), 7, (A3 : Int)] = MM at *
          have hM5 : MM.length = 5 := by rw [← hMM]; rfl
          rw [hM5] at HNR
          clear hMM hb5
          refine wpAnyH_ready (rs := [17]) (by kernel_rfl) (by simp) ?_
          refine (AllReadyH.cons rfl (fun K hK => ?_) AllReadyH.nil)
          go_simp
          refine HNR.out.mono ?_; rintro e v5 ⟨v6, rfl, hA6⟩
          have hb6 := hA6.below
          have hlt6 := hA6.own.lt
          obtain ⟨pt, ct, rfl, ht1, ht2, ht3⟩ := OwnT.its hA6.own
          have hc7 := hkeepN _ _ (Kept.below hb6) hHeld
          refine hK.out _ _ hc7 (fun hHeld => ?_)
          clear hK K hc7
          try simp only [Act.put, List.getElem_toArray, List.getElem_cons_zero, List.getElem_cons_succ, List.setIfInBounds_toArray, List.set_cons_zero, List.set_cons_succ]
          have hR7 := HR6.out.call hb6
          have hpt : ∀ a, pt = some a → v4.heap.size ≤ a.block ∧ a.block < v5.heap.size := fun a ha => hlt6 a.block (by rw [ha]; rfl)
          have hs4 := HR6.out.nums.lt
          have hgl4 := (HR6.out.own.lt ad.block hgb).2
          generalize nearL MM x.l = Y at *
          have hnew := heap_alloc_new v5 (.cells #[.slice pt Y.length ct] 28)
          have hb7 : Below v5.heap.size v5 (v5.alloc (.cells #[.slice pt Y.length ct] 28)) := blw (Below.refl _ _) _
          have hR8 := hR7.call hb7; have hI8 := ht3.call hb7
          have hc8 := hkeepN _ _ (Kept.below hb7) hHeld
          have HX8 := Lib.hid (And.intro hR8 (And.intro hI8 (And.intro hnew (And.intro ht1 (And.intro ht2 hpt)))))
          clear hA6 hlt6 HNR HR6 hb6 hR7 ht1 ht2 ht3 hpt hnew hb7 hR8 hI8
          refine wpAnyH_ready (rs := [18]) (by kernel_rfl) (by simp) ?_
          refine (AllReadyH.cons rfl (fun K hK => ?_) AllReadyH.nil)
          go_simp
          refine hK.out _ _ hc8 (fun hHeld => ?_)
          clear hK K hc8
          try simp only [Act.put, List.getElem_toArray, List.getElem_cons_zero, List.getElem_cons_succ, List.setIfInBounds_toArray, List.set_cons_zero, List.set_cons_succ]
          obtain ⟨hR8, hI8, hnew, ht1, ht2, hpt⟩ := HX8.out
          generalize (v5.alloc (.cells #[.slice pt Y.length ct] 28)) = v7 at *
          obtain ⟨g9, cap9, v8, hrun, hown9, hg9, hloc9, hone9⟩ := append_row 24 hR8.own (⟨pt, ct, Y⟩ : LV) v5.heap.size hnew (by omega) (by have := hR8.nums.lt; omega)
          have hR9 := hR8.push hown9 hg9 hloc9 (y := ⟨pt, ct, Y⟩) hI8 ht1 ht2 (fun h0 a ha => ⟨by have := (hpt a ha).1; omega, fun e => by rw [hgb] at e; injection e with e; have := (hpt a ha).1; omega⟩) HBN.out
          have hc9 : v8.cell? (ad.add N) = some (.slice x.p x.l.length x.c) := by
            obtain ⟨a, ea, _, q2⟩ := hone9 (by omega)
            injection ea with ea
            have h8 := q2 N hxl
            rw [← HXN.out, ← ea] at h8
            exact h8
          have HR9 := Lib.hid hR9
          clear hR8 hI8 hnew ht1 ht2 hpt hR9 hown9 hg9 hloc9 hone9 HX8
          refine wpAnyH_ready (rs := [19]) (by kernel_rfl) (by simp) ?_
          refine (AllReadyH.cons rfl (fun K hK => ?_) AllReadyH.nil)
          refine step_of_wp rfl ?_
          refine Lib.wp_append_run v7 _ _ 24 24 rfl _ _ rfl rfl _ v8 hrun ?_
          refine hK.out _ _ hc9 (fun hHeld => ?_)
          clear hK K hc9
          try simp only [Act.put, List.getElem_toArray, List.getElem_cons_zero, List.getElem_cons_succ, List.setIfInBounds_toArray, List.set_cons_zero, List.set_cons_succ]
          refine wpAnyH_take (i := 20) (v := ?_) rfl (by kernel_rfl) (by kernel_rfl) (by kernel_rfl) (fun _ _ _ h => h) (Or.inl ⟨by rfl, ?_⟩) hHeld ?_
          rotate_left
          · (intro w hSw; skip; go_simp; try with_reducible rfl)
          try simp only [Act.put, List.getElem_toArray, List.getElem_cons_zero, List.getElem_cons_succ, List.setIfInBounds_toArray, List.set_cons_zero, List.set_cons_succ]
          refine wpAnyH_done (by kernel_rfl) ?_ _
          clear hrun hHeld
          go_wp2_with fail
          go_roundw
          case rel =>
            exact ⟨k - 1, _, LL ++ [⟨pt, ct, Y⟩], by go_num, by rw [List.length_append, List.length_singleton]; omega, by rw [List.length_append, List.length_singleton]; omega, HR9.out⟩
          case measure => simp [intOf]; omega
        · have q0 : ((N2 : Int) == 0) = false := by simp [hz2]
          obtain ⟨mm, hmm⟩ : ∃ mm, mm = m + 1 := ⟨m + 1, rfl⟩
          have hR8 : BaseR w pn cn L LL (.slice pv LL.length cv) mm w3 := by rw [hmm]; exact hR3
          have hmm1 : mm ≤ 60 * LL.length + 2 := by omega
          clear hR3 hmm hmL HV hz2
          go_wp2_with fail
          refine (HFR.out _ mm hR8.nums (fun h0 a ha => by have := hR8.plo h0 a ha; have := hR8.nums.lt; omega) (by omega)).mono ?_; rintro e w5 ⟨v5, rfl, hg5, hN5, hO5⟩
          have hR5 := hR8.next hg5 hN5
          have hfo := frag_ok L true false mm 5 (by omega)
          have hfl := hfo.1.len; have hft := hfo.1.txt; have hfm := hfo.2.2
          have HBF := Lib.hid (BOk.frag L mm (LL.length + 1))
          have hs5 : _ ≤ w5.heap.size := hg5.size
          generalize (fragG L true false mm 5).2 = m5 at *
          generalize (fragG L true false mm 5).1 = F at *
          obtain ⟨pf, cf, rfl, hf1, hf2, hf3⟩ := OwnL.its hO5
          have HR5 := Lib.hid hR5
          have HTK := Lib.hid (rtokens_any pf cf F w5 hf3 hf1 hf2 (by omega))
          have htl := toks_len F
          have HRL := Lib.hid (show ∀ k2, (Value.slice pv LL.length cv).ownBlock = some k2 → k2 < w5.heap.size from fun k2 e => (hR5.own.lt k2 e).2)
          have hwl : w.heap.size < w5.heap.size := hR5.nums.lt
          clear hR8 hg5 hN5 hO5 hR5 hf3 hfo
          go_wp2_with fail
          refine HTK.out.mono ?_; rintro e w6 ⟨v6, rfl, hA6⟩
          have hb6 := hA6.below
          have hO6 := hA6.own
          have hlt6 := hO6.lt
          obtain ⟨pt, ct, rfl, ht1, ht2, ht3⟩ := OwnT.its hO6
          have hR6 := HR5.out.call hb6
          have htk : Its w6 pt ((toks F).take 14) := its_takeD ht3 14
          have hmn : min ((toks F).length : Int) 14 = ((((toks F).take 14).length : Nat) : Int) := by rw [List.length_take]; omega
          have hmc : ((((toks F).take 14).length : Nat) : Int) ≤ (ct : Int) := by rw [List.length_take]; omega
          have hmz : (0 : Int) ≤ ((((toks F).take 14).length : Nat) : Int) := by omega
          have hmc2 : ((toks F).take 14).length ≤ ct := by omega
          have hpt : ∀ a, pt = some a → w5.heap.size ≤ a.block ∧ a.block < w6.heap.size := fun a ha => hlt6 a.block (by rw [ha]; rfl)
          generalize (toks F).length = TL at *
          generalize (toks F).take 14 = Y at *
          have HR6 := Lib.hid hR6; have HTK2 := Lib.hid htk; have HPT := Lib.hid hpt
          have hnew := heap_alloc_new w6 (.cells #[.slice pt Y.length ct] 28)
          have hb7 : Below w6.heap.size w6 (w6.alloc (.cells #[.slice pt Y.length ct] 28)) := blw (Below.refl _ _) _
          have hR7 := hR6.call hb7
          have HCT := Lib.hid ht2
          have hTK7 := Lib.hid (htk.call hb7)
          clear hA6 hb6 hO6 hlt6 ht1 ht2 ht3 hR6 htk hpt hnew hb7 HTK HR5 HR6 HTK2
          go_wp2_with (at_builtin; refine wpl_app eL _ rfl _ _ rfl (w.heap.size + 1) LL _ rfl hR7.own (by have := hR7.nums.lt; omega) (⟨pt, ct, Y⟩ : LV) _ _ rfl (heap_alloc_new _ _) rfl (by omega) (by unfold maxLen; omega) ?_; intro g9 cap9 w9 hown9 hg9 hloc9)
          have hR9 := hR7.push hown9 hg9 (hloc9.imp id (fun e => Nat.le_of_eq e.symm)) (y := ⟨pt, ct, Y⟩) hTK7.out hmc2 HCT.out (fun h0 a ha => ⟨by have := (HPT.out a ha).1; omega, fun e => by have := (HPT.out a ha).1; have := HRL.out _ e; omega⟩) HBF.out
          have HR9 := Lib.hid hR9
          clear hR9 hR7 hown9 hg9 hloc9 hTK7
          go_wp2_with fail
          go_roundw
          case rel =>
            exact ⟨k - 1, m5, LL ++ [⟨pt, ct, Y⟩], by go_num, by rw [List.length_append, List.length_singleton]; omega, by rw [List.length_append, List.length_singleton]; omega, HR9.out⟩
          case measure => simp [intOf]; omega
end Go.Proofs.Ythfgpagmepdblaa
namespace Go.Proofs.Ythfgpagmepdblaa
open Go.ChangeShapes Go.WideShapes Go.ChangeAt Go.RowKit Go.Maps
set_option linter.unusedVariables false
set_option linter.unusedSimpArgs false
set_option maxRecDepth 100000

/-- Lists under the numbers 0, 1, and so on. -/
def stB (f : Nat → List It) (k : Nat) : List Sto := (List.range k).map fun (j : Nat) => ⟨(j : Int), f j⟩
theorem stB_len (f : Nat → List It) (k : Nat) : (stB f k).length = k := by unfold stB; simp
theorem stB_next (f : Nat → List It) (k : Nat) : stB f k ++ [⟨(k : Int), f k⟩] = stB f (k + 1) := by unfold stB; rw [List.range_succ, List.map_append]; rfl
theorem stB_mem (f : Nat → List It) (k : Nat) (s : Sto) (h : s ∈ stB f k) : ∃ j : Nat, j < k ∧ s = ⟨(j : Int), f j⟩ := by
  unfold stB at h
  rw [List.mem_map] at h
  obtain ⟨j, hj, rfl⟩ := h
  exact ⟨j, List.mem_range.1 hj, rfl⟩
theorem stB_in (f : Nat → List It) (k j : Nat) (h : j < k) : (⟨(j : Int), f j⟩ : Sto) ∈ stB f k := by unfold stB; rw [List.mem_map]; exact ⟨j, List.mem_range.2 h, rfl⟩
theorem stB_add (f : Nat → List It) (k : Nat) (hk : k < 1024) : addB (stB f k) (k : Int) = true ∧ addS (stB f k) (k : Int) (f k) = stB f (k + 1) := by
  have h0 : lkS (stB f k) (k : Int) = none := by
    rw [lkS_none]
    intro s hs c
    obtain ⟨j, hj, rfl⟩ := stB_mem f k s hs
    simp at c; omega
  have h1 : addB (stB f k) (k : Int) = true := by unfold addB; rw [h0, stB_len]; simp; exact hk
  exact ⟨h1, by unfold addS; rw [if_pos h1, stB_next]⟩
/-- The list at a place. -/
def lf (LL : List LV) (j : Nat) : List It := (LL[j]?.map (·.l)).getD []
theorem lf_at (LL : List LV) (j : Nat) (h : j < LL.length) : lf LL j = (LL[j]'h).l := by unfold lf; rw [List.getElem?_eq_getElem h]; rfl
theorem bou_small (a b : List It) (ha : a.length ≤ 40) (hb : b.length ≤ 40) : bouN a b ≤ 1073741824 := by
  have := bou_le a b (by omega) (by omega); have := dis_small a b ha hb; omega
set_option maxHeartbeats 12800000 in
theorem misses_law (p0 : Option Addr) (c0 : Nat) (l : List Int) (p1 : Option Addr) (c1 : Nat) (m : List Int) (wh pc : Int) (w : World) (r0 : Ones w (Value.int .i64) p0 l) (o0 : ∀ i (h : i < l.length), (Lit.int .i64 (l[i]'h)).wf = true) (n0 : l.length ≤ c0) (m0 : c0 ≤ maxLen) (r1 : Ones w (Value.int .i64) p1 m) (o1 : ∀ i (h : i < m.length), (Lit.int .i64 (m[i]'h)).wf = true) (n1 : m.length ≤ c1) (m1 : c1 ≤ maxLen) (w2h : (Lit.int .i64 wh).wf = true) (w3h : (Lit.int .i64 pc).wf = true) :
    Calls Try.prog 3 #[.slice p0 l.length c0, .slice p1 m.length c1, .int .i64 wh, .int .i64 pc] w fun e w' => e = .returned (.bool true) ∧ Below w.heap.size w w' := by
  have leave : ∀ W, Below w.heap.size w W → Calls Try.prog 7 #[] W fun e w' => e = .returned (.bool true) ∧ Below w.heap.size w w' := fun W h => (iknown_any W).mono fun e w' ⟨a, b⟩ => ⟨a, h.trans (b.mono h.size)⟩
  have HLV := Lib.hid leave
  clear leave
  by_cases hl1 : 150 < l.length
  · have q1 : (150 : Int) < (l.length : Int) := by omega
    go_enter Try.func3, Try.ntmps3
    go_wp2_with fail
    refine (HLV.out _ (Below.refl _ _)).mono ?_; rintro e w1 ⟨rfl, hb⟩
    have HB := Lib.hid hb; clear hb
    go_wp2_with fail
    go_ret
    exact ⟨rfl, HB.out⟩
  by_cases hl2 : 60 < m.length
  · have q1 : ¬ (150 : Int) < (l.length : Int) := by omega
    have q2 : (60 : Int) < (m.length : Int) := by omega
    go_enter Try.func3, Try.ntmps3
    go_wp2_with fail
    refine (HLV.out _ (Below.refl _ _)).mono ?_; rintro e w1 ⟨rfl, hb⟩
    have HB := Lib.hid hb; clear hb
    go_wp2_with fail
    go_ret
    exact ⟨rfl, HB.out⟩
  have q1 : ¬ (150 : Int) < (l.length : Int) := by omega
  have q2 : ¬ (60 : Int) < (m.length : Int) := by omega
  have HBS := Lib.hid (base_any p0 c0 l w r0 o0 n0 m0)
  have HM := Lib.hid (And.intro r1 (And.intro o1 (And.intro n1 m1)))
  clear r0 o0 n0 m0 r1 o1 n1 m1
  go_enter Try.func3, Try.ntmps3
  go_wp2_with fail
  refine HBS.out.mono ?_; rintro e w1 ⟨q, cq, LL, rfl, hL8, hLc, hcm, hBB, hb1⟩
  have HB1 := Lib.hid hb1; have HBB := Lib.hid hBB
  clear hBB hb1 HBS q1 q2
  by_cases hL0 : LL.length = 0
  · obtain rfl : LL = [] := List.length_eq_zero_iff.1 hL0
    clear hL0
    go_wp2_with fail
    refine (HLV.out _ HB1.out).mono ?_; rintro e w2 ⟨rfl, hb⟩
    have HB := Lib.hid hb; clear hb
    go_wp2_with fail
    go_ret
    exact ⟨rfl, HB.out⟩
  have hLn : ((LL.length : Int) == 0) = false := by simp; exact fun c => hL0 (by rw [c]; rfl)
  go_wp2_with fail
  refine (new_any w1).mono ?_; rintro e w2 ⟨rfl, hX, hb2⟩
  generalize hXE : w1.heap.size + 2 = X at *
  generalize hBE : w1.heap.size = B at *
  have hB2 := HB1.out.trans (hb2.mono (by rw [← hBE]; exact HB1.out.size))
  have hBB2 := HBB.out.keep hb2
  have hwB : w.heap.size ≤ B := by rw [← hBE]; exact HB1.out.size
  have hX0 : Ix w2 X (fun k => B ≤ k ∧ k < w2.heap.size) (1000 * 0) (stB (lf LL) 0) := hX
  have hR0 : ∀ j, (B ≤ j ∧ j < w2.heap.size) → B ≤ j := fun j h => h.1
  clear hX hb2 HB1 HBB hXE hBE
  go_wp2_with fail
  go_loopw [36] (fun v wr => ∃ (k : Nat) (R : Nat → Prop), k ≤ LL.length ∧ v = .int .i64 k ∧ Ix wr X R (1000 * k) (stB (lf LL) k) ∧ Aside (∀ j, R j → B ≤ j) ∧ BB wr B q LL ∧ Below w.heap.size w wr) (fun v _ => LL.length - (intOf v).toNat)
  case atStart => exact ⟨0, _, Nat.zero_le _, rfl, hX0, hR0, hBB2, hB2⟩
  case round =>
    clear hX0 hR0 hBB2 hB2
    obtain ⟨k, R, hk, rfl, hX, hR, hBB, hB⟩ := hrel
    by_cases hlt : k < LL.length
    · obtain ⟨ad, rfl, had, hcell⟩ := one_row hBB.ones k hlt
      obtain ⟨hI, hxc, hxm, _⟩ := hBB.its _ (List.getElem_mem hlt)
      have hok := (hBB.ok _ (List.getElem_mem hlt)).lok (by omega)
      have hA := add_any hX (i := (k : Int)) (wf_i64 (by omega) (by omega)) hI hxc hxm hok (by omega)
      have hadd := stB_add (lf LL) k (by omega)
      rw [lf_at LL k hlt] at hadd
      rw [hadd.1, hadd.2] at hA
      have ik : (k : Int) < (LL.length : Int) := by omega
      have hcell2 : wr.cell? (ad.add k) = some (.slice (LL[k]).p (LL[k]).l.length (LL[k]).c) := hcell
      generalize LL[k] = x at *
      have HA := Lib.hid hA; have HR := Lib.hid hR.out; have HBB := Lib.hid hBB; have HB := Lib.hid hB
      have hle : w.heap.size ≤ wr.heap.size := hB.size
      have hleB : B ≤ wr.heap.size := hBB.bs
      clear hA hX hR hBB hB hI hxc hxm hok hadd hcell
      go_wp2_with fail
      refine HA.out.mono ?_; rintro e w3 ⟨rfl, R3, hX3, hR3, hK3⟩
      have HX := Lib.hid (And.intro hX3 (And.intro hR3 hK3))
      clear hX3 hR3 hK3 hcell2
      go_wp2_with fail
      go_roundw
      case rel =>
        obtain ⟨hX3, hR3, hK3⟩ := HX.out
        exact ⟨k + 1, R3, hlt, by go_num, hX3.mono (by omega), (fun j hj => (hR3 j hj).elim (HR.out j) (fun c => by omega)), HBB.out.keep (hK3.toBelow hleB HR.out), HB.out.trans (hK3.toBelow hle (fun j hj => by have := HR.out j hj; omega))⟩
      case measure => simp [intOf]; omega
    · obtain rfl : k = LL.length := by omega
      have hwf : w.heap.size ≤ wr.heap.size := hB.size
      have HX := Lib.hid hX; have HBB := Lib.hid hBB; have HB := Lib.hid hB
      clear hX hBB hB hR
      have hPl := place_any wh (LL.length : Int) wr (by omega) (by omega) w2h
      have hj1 : 0 ≤ wh % (LL.length : Int) := Int.emod_nonneg _ (by omega)
      have hj2 : wh % (LL.length : Int) < (LL.length : Int) := Int.emod_lt_of_pos _ (by omega)
      obtain ⟨j, hj⟩ : ∃ j : Nat, wh % (LL.length : Int) = (j : Int) := ⟨(wh % (LL.length : Int)).toNat, by omega⟩
      rw [hj] at hPl hj1 hj2
      have hjl : j < LL.length := by omega
      obtain ⟨ad, rfl, had, hcell⟩ := one_row HBB.out.ones j hjl
      obtain ⟨hI, hxc, hxm, _⟩ := HBB.out.its _ (List.getElem_mem hjl)
      have hok := HBB.out.ok _ (List.getElem_mem hjl)
      have hcell2 : wr.cell? (ad.add j) = some (.slice (LL[j]).p (LL[j]).l.length (LL[j]).c) := hcell
      obtain ⟨rm, om, nm, mm⟩ := HM.out
      have hNr := near_any (LL[j]).p p1 (LL[j]).c c1 (LL[j]).l m wr hI hxc hxm (ones_keep rm HB.out.size (fun h0 a ha => HB.out.block _ (ones_any rm h0 a ha))) om nm mm (by have := hok.len; omega) (fun y hy => by have := hok.txt y hy; omega)
      have hql : (nearL m (LL[j]).l).length ≤ 28 := by have := nearL_len m (LL[j]).l; have := hok.len; omega
      have hqk := nearL_kind m (LL[j]).l hok.k
      have hqt := nearL_size m (LL[j]).l 208 (by omega) hok.txt
      generalize LL[j] = x at *
      generalize nearL m x.l = Q at *
      have HPL := Lib.hid hPl; have HNR := Lib.hid hNr
      have HQ := Lib.hid (And.intro hqk hqt)
      clear hPl hNr hI hxc hxm hok hcell hqk hqt rm om nm mm hj HM
      go_wp2_with fail
      refine HPL.out.mono ?_; rintro e w3 ⟨rfl, rfl⟩
      go_wp2_with fail
      refine HNR.out.mono ?_; rintro e w3 hE
      obtain ⟨pq, cq2, rfl, hq1, hq2, hq3, hb3, _⟩ := EndT.g hE
      have HX3 := Lib.hid (HX.out.call hb3); have HBB3 := Lib.hid (HBB.out.call hb3); have HB3 := Lib.hid (HB.out.trans (hb3.mono hwf)); have HQ3 := Lib.hid hq3
      have hPp := place_any pc 100 w3 (by omega) (by omega) w3h
      have hp1 : 0 ≤ pc % 100 := Int.emod_nonneg _ (by omega)
      have hp2 : pc % 100 < 100 := Int.emod_lt_of_pos _ (by omega)
      generalize pc % 100 = P0 at *
      have HPP := Lib.hid hPp
      clear hE hb3 hq3 HX HBB HB HNR HPL hPp hcell2
      go_wp2_with fail
      refine HPP.out.mono ?_; rintro e w4 ⟨rfl, rfl⟩
      have hwP : IntKind.i64.wrap (1 + P0) = 1 + P0 := IntWalk.i64_in _ ⟨by omega, by omega⟩
      have hlq : LOk Q := ⟨by omega, fun y hy => ⟨wf_kind (HQ.out.1 y hy), by have := HQ.out.2 y hy; omega⟩⟩
      have hC := cand_any HX3.out HQ3.out hq1 hq2 hlq (1 + P0) (by omega) (by rw [stB_len]; omega)
      have HC := Lib.hid hC
      have HTR := Lib.hid (show ∀ j, j < LL.length → (1 + P0 ≤ ((pct Q (lf LL j) : Nat) : Int)) → (j : Int) ∈ cand (isCand Q (1 + P0)) (stB (lf LL) LL.length) from fun j hj hp => by
        rw [cand_mem]
        refine ⟨_, stB_in (lf LL) _ j hj, ?_, rfl⟩
        have hk := HBB3.out.ok _ (List.getElem_mem hj)
        rw [lf_at LL j hj] at hp
        show isCand Q (1 + P0) (lf LL j) = true
        rw [lf_at LL j hj]
        exact isCand_reach Q _ HQ.out.1 hk.k (by omega) (by have := hk.len; omega) (1 + P0) (by omega) (by omega) hp)
      generalize cand (isCand Q (1 + P0)) (stB (lf LL) LL.length) = C at *
      clear hC hlq HPP HX3
      go_wp2_with fail
      refine HC.out.mono ?_; rintro e w5 hE
      obtain ⟨p5, c5, rfl, hc5, hm5, hO5, hb5⟩ := EndN.f hE
      have hBB5 := HBB3.out.call hb5; have hQ5 := HQ3.out.call hb5; have hB5 := HB3.out.trans (hb5.mono HB3.out.size)
      clear hE hb5 HBB3 HQ3 HB3 HC
      go_wp2_with fail
      go_loopw [65] (fun v wr => ∃ k : Nat, k ≤ LL.length ∧ v = .int .i64 k ∧ BB wr B (some ad) LL ∧ Its wr pq Q ∧ Ones wr (Value.int .i64) p5 C ∧ Below w.heap.size w wr) (fun v _ => LL.length - (intOf v).toNat)
      case atStart => exact ⟨0, Nat.zero_le _, rfl, hBB5, hQ5, hO5, hB5⟩
      case round =>
        clear hBB5 hQ5 hO5 hB5
        obtain ⟨k, hk, rfl, hBB, hQ6, hO6, hB⟩ := hrel
        by_cases hlt : k < LL.length
        · obtain ⟨ad6, e6, had6, hcell⟩ := one_row hBB.ones k hlt
          injection e6 with e6
          subst e6
          obtain ⟨hI, hxc, hxm, _⟩ := hBB.its _ (List.getElem_mem hlt)
          have hok := hBB.ok _ (List.getElem_mem hlt)
          have hcell2 : wr.cell? (ad.add k) = some (.slice (LL[k]).p (LL[k]).l.length (LL[k]).c) := hcell
          have htr := HTR.out k hlt
          rw [lf_at LL k hlt] at htr
          have hP := rpercent_any pq (LL[k]).p cq2 (LL[k]).c Q (LL[k]).l wr hQ6 hI hq1 hxc hq2 hxm (by omega) (by have := hok.len; omega) (fun y hy => by have := HQ.out.2 y hy; omega) (fun y hy => by have := hok.txt y hy; omega) (Nat.le_trans (dis_small _ _ (by omega) (by have := hok.len; omega)) (by omega))
          have ik : (k : Int) < (LL.length : Int) := by omega
          generalize LL[k] = y at *
          generalize hPCT : pct Q y.l = PC at *
          have HP := Lib.hid hP; have HBB := Lib.hid hBB; have HQ6 := Lib.hid hQ6; have HO6 := Lib.hid hO6; have HB := Lib.hid hB
          clear hP hBB hQ6 hO6 hB hI hxc hxm hok hcell hPCT
          by_cases hge : 1 + P0 ≤ (PC : Int)
          · have hin := htr hge
            have hge2 : (PC : Int) ≥ 1 + P0 := hge
            have HIN := Lib.hid hin
            clear htr hin
            go_wp2_with fail
            refine HP.out.mono ?_; rintro e w7 ⟨rfl, hb7⟩
            have hO7 := HO6.out.call hb7
            have hH := has_any p5 c5 C (k : Int) w7 hO7 hc5 hm5
            rw [decide_eq_true HIN.out] at hH
            have HH := Lib.hid hH
            have HF := Lib.hid (And.intro (HBB.out.call hb7) (And.intro (HQ6.out.call hb7) (And.intro hO7 (HB.out.trans (hb7.mono HB.out.size)))))
            clear hH hO7 hb7 hcell2
            go_wp2_with fail
            refine HH.out.mono ?_; rintro e w8 ⟨rfl, rfl⟩
            go_wp2_with fail
            go_roundw
            case rel =>
              obtain ⟨f1, f2, f3, f4⟩ := HF.out
              exact ⟨k + 1, hlt, by go_num, f1, f2, f3, f4⟩
            case measure => simp [intOf]; omega
          · have hge2 : ¬ (PC : Int) ≥ 1 + P0 := hge
            clear htr
            go_wp2_with fail
            refine HP.out.mono ?_; rintro e w7 ⟨rfl, hb7⟩
            have HF := Lib.hid (And.intro (HBB.out.call hb7) (And.intro (HQ6.out.call hb7) (And.intro (HO6.out.call hb7) (HB.out.trans (hb7.mono HB.out.size)))))
            clear hb7 hcell2
            go_wp2_with fail
            go_roundw
            case rel =>
              obtain ⟨f1, f2, f3, f4⟩ := HF.out
              exact ⟨k + 1, hlt, by go_num, f1, f2, f3, f4⟩
            case measure => simp [intOf]; omega
        · obtain rfl : k = LL.length := by omega
          have HB := Lib.hid hB
          clear hB hBB hQ6 hO6
          go_wp2_with fail
          refine (HLV.out _ HB.out).mono ?_; rintro e w9 ⟨rfl, hb9⟩
          have HB9 := Lib.hid hb9; clear hb9
          go_wp2_with fail
          go_ret
          exact ⟨rfl, HB9.out⟩
end Go.Proofs.Ythfgpagmepdblaa
