/- Index: the walk of IndexFull. Index: lists of lists of tokens; contract of base. -/
import Derived.Test.YthfgpagmepdblaaGreatIxE
import Derived.Test.YthfgpagmepdblaaGreatScA
import Derived.Test.YthfgpagmepdblaaGreatIxA
import Derived.ArgAppend
import Derived.Deep.DeepAppendRoom
namespace Go.Proofs.YthfgpagmepdblaaGreat
open Go.ChangeShapes Go.WideShapes Go.ChangeAt Go.RowKit Go.Maps
set_option linter.unusedVariables false
set_option linter.unusedSimpArgs false
set_option maxRecDepth 100000

theorem wf_i64 {z : Int} (h0 : -9223372036854775808 ≤ z) (h1 : z ≤ 9223372036854775807) : (Lit.int .i64 z).wf = true := by
  have e0 : IntKind.i64.min = -9223372036854775808 := by decide
  have e1 : IntKind.i64.max = 9223372036854775807 := by decide
  simp only [Lit.wf, e0, e1, Bool.and_eq_true, decide_eq_true_eq]; exact ⟨h0, h1⟩
def aT : List It := [⟨6, ⟨#[97]⟩, 0⟩]
def stF (k : Nat) : List Sto := (List.range k).map fun (j : Nat) => ⟨(j : Int), aT⟩
theorem stF_len (k : Nat) : (stF k).length = k := by unfold stF; simp
theorem stF_next (k : Nat) : stF k ++ [⟨(k : Int), aT⟩] = stF (k + 1) := by unfold stF; rw [List.range_succ, List.map_append]; rfl
theorem stF_mem (k : Nat) (s : Sto) (h : s ∈ stF k) : ∃ j : Nat, j < k ∧ s = ⟨(j : Int), aT⟩ := by
  unfold stF at h
  rw [List.mem_map] at h
  obtain ⟨j, hj, rfl⟩ := h
  exact ⟨j, List.mem_range.1 hj, rfl⟩
theorem stF_free (k : Nat) (i : Int) (h : (k : Int) ≤ i ∨ i < 0) : lkS (stF k) i = none := by
  rw [lkS_none]
  intro s hs c
  obtain ⟨j, hj, rfl⟩ := stF_mem k s hs
  simp at c; omega
theorem stF_nodup (k : Nat) : ((stF k).map (·.id)).Nodup := by
  unfold stF
  rw [List.map_map, List.Nodup, List.pairwise_map]
  exact List.nodup_range.imp fun {a b} h e => h (Int.ofNat.inj (show ((a : Nat) : Int) = (b : Nat) from e))
theorem stF_has (k : Nat) (j : Nat) (h : j < k) : lkS (stF k) (j : Int) ≠ none := by
  have : (⟨(j : Int), aT⟩ : Sto) ∈ stF k := by unfold stF; rw [List.mem_map]; exact ⟨j, List.mem_range.2 h, rfl⟩
  have h2 : lkS (stF k) (j : Int) = some aT := lkS_of (stF_nodup k) this
  rw [h2]; simp
theorem stF_add (i : Nat) : addB (stF (min i 1024)) (i : Int) = decide ((i : Int) < 1024) ∧ addS (stF (min i 1024)) (i : Int) aT = stF (min (i + 1) 1024) := by
  have h0 := stF_free (min i 1024) (i : Int) (.inl (by omega))
  have h1 : addB (stF (min i 1024)) (i : Int) = decide ((i : Int) < 1024) := by
    unfold addB; rw [h0, stF_len]
    rw [Bool.eq_iff_iff]; simp; omega
  refine ⟨h1, ?_⟩
  unfold addS
  rw [h1]
  by_cases h : (i : Int) < 1024
  · rw [if_pos (by simpa using h), show min i 1024 = i by omega, show min (i + 1) 1024 = i + 1 by omega, stF_next]
  · rw [if_neg (by simpa using h), show min i 1024 = min (i + 1) 1024 by omega]
/-- What is stored at the end. -/
def endF (m : Nat) : List Sto := dlS (stF m) 3 ++ [⟨-1, []⟩]
theorem endF_add (m : Nat) (h : m ≤ 1024) (h3 : 3 < m) : addB (dlS (stF m) 3) (-1) = true ∧ addS (dlS (stF m) 3) (-1) [] = endF m := by
  have h0 : lkS (dlS (stF m) 3) (-1) = none := by rw [lkS_del, if_neg (by decide)]; exact stF_free m (-1) (.inr (by decide))
  have h1 : (dlS (stF m) 3).length = m - 1 := by rw [del_len (stF_nodup m) 3 (stF_has m 3 h3), stF_len]
  have h2 : addB (dlS (stF m) 3) (-1) = true := by unfold addB; rw [h0, h1]; simp; omega
  exact ⟨h2, by unfold addS; rw [if_pos h2]; rfl⟩
theorem endF_len (m : Nat) (h3 : 3 < m) : (endF m).length = m := by
  unfold endF; rw [List.length_append, del_len (stF_nodup m) 3 (stF_has m 3 h3), stF_len]; simp; omega
theorem aT_cand : isCand aT 100 aT = true ∧ isCand aT 100 [] = false := by decide +kernel
theorem endF_cand (m : Nat) (h3 : 3 < m) : (cand (isCand aT 100) (endF m)).length = m - 1 := by
  rw [(cand_perm _ _).length_eq, List.length_map]
  unfold endF
  rw [List.filter_append, List.length_append]
  have h1 : (dlS (stF m) 3).filter (fun s => isCand aT 100 s.l) = dlS (stF m) 3 := by
    rw [List.filter_eq_self]
    intro s hs
    obtain ⟨j, _, rfl⟩ := stF_mem m s (List.mem_filter.1 hs).1
    exact aT_cand.1
  rw [h1, del_len (stF_nodup m) 3 (stF_has m 3 h3), stF_len]
  simp [aT_cand.2]
end Go.Proofs.YthfgpagmepdblaaGreat
namespace Go.Proofs.YthfgpagmepdblaaGreat
open Go.ChangeShapes Go.WideShapes Go.ChangeAt Go.RowKit Go.Maps Go.Sort
set_option linter.unusedVariables false
set_option linter.unusedSimpArgs false
set_option maxRecDepth 100000

def lvS (x : LV) : Value := .slice x.p x.l.length x.c
def lenc (x : LV) : List Value := [lvS x]
theorem infoL : (Tryz.prog.info? 23).map (fun i => (i.zero, i.size, i.bytes)) = some (some (.slice none 0 0), 1, 24) := by kernel_rfl
theorem eL : El 28 23 1 24 (.slice none 0 0) lenc := ⟨Tryz.underlying28, info_parts infoL, rfl, by omega, fun _ => rfl, fun x u hu => by simp [lenc] at hu; subst hu; rfl⟩
/-- What a list of base has, when r lists are there. -/
structure BOk (r : Nat) (l : List It) : Prop where
  k : kindV l
  len : l.length ≤ 14
  txt : ∀ y ∈ l, y.t.size ≤ 200 + r
theorem BOk.mono {r s : Nat} {l : List It} (h : BOk r l) (hs : r ≤ s) : BOk s l := ⟨h.k, h.len, fun y hy => by have := h.txt y hy; omega⟩
theorem nearL_size (M : List Int) (l : List It) (B : Nat) (hB : 4 ≤ B) (h : ∀ x ∈ l, x.t.size ≤ B) : ∀ x ∈ nearL M l, x.t.size ≤ B + 1 :=
  nearK_all (P := fun x => x.t.size ≤ B + 1) M l (by show 4 ≤ B + 1; omega) (fun x hx => by have := h x hx; omega) (fun x hx => by
    have := h x hx
    unfold sfxT; split
    · show (x.t ++ ⟨#[115]⟩).size ≤ B + 1
      rw [ByteArray.size_append]; show x.t.size + 1 ≤ B + 1; omega
    · omega) 0
theorem BOk.near {r : Nat} {l : List It} (h : BOk r l) (M : List Int) (hM : M.length = 5) : BOk (r + 1) (nearL M l) :=
  ⟨nearL_kind M l h.k, by have := nearL_few M l; omega, fun y hy => by have := nearL_size M l (200 + r) (by omega) h.txt y hy; omega⟩
theorem frag_kinds {f : List It} (h : errL [] f = 0) : kindsOk f := fun x hx => by
  have hp := valid_proper _ h x hx
  unfold properB at hp
  split at hp
  · omega
  · split at hp
    · omega
    · split at hp
      · omega
      · split at hp
        · omega
        · cases hp
theorem BOk.frag (L : List Int) (m r : Nat) : BOk r ((toks (fragG L true false m 5).1).take 14) := by
  have hf := (frag_ok L true false m 5 (by omega)).1
  refine ⟨fun x hx => kinds_toks _ (frag_kinds hf.e) x (List.mem_of_mem_take hx), by rw [List.length_take]; omega, fun y hy => ?_⟩
  have h1 := toks_txt (fragG L true false m 5).1
  have h2 := hf.txt
  have := txt_mem _ y (List.mem_of_mem_take hy)
  omega
/-- What base has in hand. -/
structure BaseR (w : World) (pn : Option Addr) (cn : Nat) (L : List Int) (LL : List LV) (v : Value) (m : Nat) (W : World) : Prop where
  below : Below w.heap.size w W
  nums : NumsAt W w.heap.size pn cn L m
  own : OwnL 23 1 lenc (w.heap.size + 1) LL v W
  its : ∀ x ∈ LL, Its W x.p x.l ∧ x.l.length ≤ x.c ∧ x.c ≤ maxLen ∧ (0 < x.l.length → ∀ a, x.p = some a → w.heap.size < a.block ∧ v.ownBlock ≠ some a.block)
  ok : ∀ x ∈ LL, BOk LL.length x.l
  plo : 0 < L.length → ∀ a, pn = some a → a.block < w.heap.size
section
variable {w W W' : World} {pn : Option Addr} {cn m : Nat} {L : List Int} {LL : List LV} {v : Value}
theorem BaseR.call (h : BaseR w pn cn L LL v m W) (hb : Below W.heap.size W W') : BaseR w pn cn L LL v m W' :=
  ⟨BelowOn h.below hb, h.nums.call hb, h.own.call hb, fun x hx => ⟨(h.its x hx).1.call hb, (h.its x hx).2⟩, h.ok, h.plo⟩
theorem BaseR.drew (h : BaseR w pn cn L LL v m W) : BaseR w pn cn L LL v m W.drew := h.call (drew_below W)
theorem BaseR.next (h : BaseR w pn cn L LL v m W) {m' : Nat} (hg : W.grownBy W' (some w.heap.size)) (hN : NumsAt W' w.heap.size pn cn L m') : BaseR w pn cn L LL v m' W' :=
  ⟨below_of_grow h.below hg h.below.size (Nat.le_refl _), hN, h.own.other hg (by omega),
    fun x hx => ⟨(h.its x hx).1.kept (F := fun k => k = w.heap.size) (Kept.grown hg fun k e _ => by injection e with e; exact e.symm) (fun h0 a ha c => by have := ((h.its x hx).2.2.2 h0 a ha).1; omega), (h.its x hx).2⟩, h.ok, h.plo⟩
theorem BaseR.push (h : BaseR w pn cn L LL v m W) {y : LV} {g n c : Nat} (hown : OwnL 23 1 lenc (w.heap.size + 1) (LL ++ [y]) (.slice (some ⟨g, 0, none⟩) n c) W') (hgr : W.grownBy W' v.ownBlock) (hloc : v.ownBlock = some g ∨ W.heap.size ≤ g)
    (hI : Its W y.p y.l) (hc : y.l.length ≤ y.c) (hm : y.c ≤ maxLen) (hy : 0 < y.l.length → ∀ a, y.p = some a → w.heap.size < a.block ∧ v.ownBlock ≠ some a.block) (hok : BOk (LL.length + 1) y.l) : BaseR w pn cn L (LL ++ [y]) (.slice (some ⟨g, 0, none⟩) n c) m W' := by
  have hlt := fun k e => h.own.lt k e
  have hk : Kept (fun k => v.ownBlock = some k) W W' := Kept.grown hgr fun k e _ => e
  have hb : Below (w.heap.size + 1) W W' := ⟨hgr.os, hgr.tape, hgr.output, hgr.size, fun k hk => hgr.block k (by have := h.nums.lt; omega) (fun e => by have := (hlt k e.symm).1; omega)⟩
  have sep : ∀ x : LV, Its W x.p x.l → (0 < x.l.length → ∀ a, x.p = some a → w.heap.size < a.block ∧ v.ownBlock ≠ some a.block) → 0 < x.l.length → ∀ a, x.p = some a → w.heap.size < a.block ∧ (Value.slice (some ⟨g, 0, none⟩) n c).ownBlock ≠ some a.block := fun x hi hx h0 a ha => by
    refine ⟨(hx h0 a ha).1, fun e => ?_⟩
    have e' : g = a.block := by simpa [Value.ownBlock] using e
    rcases hloc with c | c
    · exact (hx h0 a ha).2 (by rw [c, e'])
    · obtain ⟨a2, e2, h2, _⟩ := hi h0
      rw [ha] at e2; injection e2 with e2
      rw [← e2] at h2; omega
  refine ⟨h.below.trans (hb.mono (by omega)), h.nums.keep hb.size (hb.block _ (by omega)) (fun h0 a ha => hb.block _ (by have := h.plo h0 a ha; omega)), hown, fun x hx => ?_, fun x hx => ?_, h.plo⟩
  · rcases List.mem_append.1 hx with hx | hx
    · obtain ⟨q1, q2, q3, q4⟩ := h.its x hx
      exact ⟨q1.kept hk (fun h0 a ha => (q4 h0 a ha).2), q2, q3, sep x q1 q4⟩
    · rw [List.mem_singleton] at hx; subst hx
      exact ⟨hI.kept hk (fun h0 a ha => (hy h0 a ha).2), hc, hm, sep x hI hy⟩
  · rw [List.length_append]
    rcases List.mem_append.1 hx with hx | hx
    · exact (h.ok x hx).mono (Nat.le_add_right _ _)
    · rw [List.mem_singleton] at hx; subst hx; exact hok
theorem BaseR.start (pn : Option Addr) (cn : Nat) (L : List Int) (w : World) (hL : Ones w (Value.int .i64) pn L) (wL : ∀ i (h : i < L.length), (Lit.int .i64 (L[i]'h)).wf = true) (hc : L.length ≤ cn) (hm : cn ≤ maxLen) :
    BaseR w pn cn L [] (.slice none 0 0) 0 (w.alloc (.cells #[.slice pn L.length cn, .int .i64 0] 33)) :=
  ⟨blw (Below.refl _ _) _, NumsAt.made hL wL hc hm, OwnL.nil _ _, fun x hx => (by cases hx), fun x hx => (by cases hx), fun h0 => ones_any hL h0⟩
theorem BaseR.row (h : BaseR w pn cn L LL v m W) (i : Nat) (hi : i < LL.length) : ∃ p c, v = .slice p LL.length c ∧ LL.length ≤ c ∧ c ≤ maxLen ∧ Ones W lvS p LL := by
  obtain ⟨p, c, h1, h2, h3, h4⟩ := OwnL.ones (en := lvS) h.own
  exact ⟨p, c, h1, h2, h3, h4⟩
end
theorem cellsL (LL : List LV) : cellsOf lenc LL = LL.map lvS := by
  unfold cellsOf
  induction LL with
  | nil => rfl
  | cons x LL ih => rw [List.flatMap_cons, ih]; rfl
/-- One list behind others, whose row stays readable. -/
theorem append_row {base : Nat} {w : World} (ty : TypeId) {LL : List LV} {ad : Addr} {cap : Nat} (hown : OwnL 23 1 lenc base LL (.slice (some ad) LL.length cap) w) (y : LV) (B : Nat) (hB : w.heap[B]? = some (.cells #[lvS y] 23 (0, 0))) (hl : LL.length ≤ 1000) (hbase : base ≤ w.heap.size) :
    ∃ g' cap' w', (Builtin.append_ #[28, 28] ty #[.slice (some ad) LL.length cap, .slice (some ⟨B, 0, none⟩) 1 1]).run Tryz.prog w = .ok (.slice (some ⟨g', 0, none⟩) (LL.length + 1) cap') w' ∧
      OwnL 23 1 lenc base (LL ++ [y]) (.slice (some ⟨g', 0, none⟩) (LL.length + 1) cap') w' ∧ w.grownBy w' (some ad.block) ∧ ((Value.slice (some ad) LL.length cap).ownBlock = some g' ∨ w.heap.size ≤ g') ∧ Ones w' lvS (some ad) LL := by
  obtain ⟨i, hi, hz0, hz1, hz2⟩ := eL.hi
  have hn : ∀ j u, (lenc y)[j]? = some u → w.cell? ((⟨B, 0, none⟩ : Addr).add j) = some u := by rw [show lenc y = (#[lvS y] : Array Value).toList from rfl]; exact World.news_of_block hB
  have hone : ∀ u ∈ lenc y, u.oneCell' = true := eL.one y
  have hcat : cellsOf lenc (LL ++ [y]) = cellsOf lenc LL ++ lenc y := by unfold cellsOf; rw [List.flatMap_append]; simp
  obtain ⟨p0, c0, e0, h1, h2, h3⟩ := OwnL.ones (en := lvS) hown
  injection e0 with e1 _ e3
  subst e1; subst e3
  rcases id hown.2 with ⟨hv, _⟩ | ⟨g, cap', cur, hv, hbg, hh, hnc, hcm, hcs2, ht⟩
  · injection hv with h; cases h
  injection hv with a1 a2 a3
  injection a1 with a1
  subst a1; subst a3
  by_cases hr : LL.length < cap
  · obtain ⟨w', hrun, h5, h6⟩ := run_append_own_spare (P := Tryz.prog) w base 28 ty 23 i 1 eL.ht hi hz1 g LL.length cap (cellsOf lenc LL) hown ⟨B, 0, none⟩ 1 1 (lenc y) rfl hn hone (by omega)
    have hown2 : OwnL 23 1 lenc base (LL ++ [y]) (.slice (some ⟨g, 0, none⟩) (LL.length + 1) cap) w' := by
      unfold OwnL; rw [List.length_append, hcat]; exact h5
    obtain ⟨p2, c2, e2, _, _, h7⟩ := OwnL.ones (en := lvS) hown2
    injection e2 with e2
    subst e2
    refine ⟨g, cap, w', hrun, hown2, h6, .inl rfl, fun h0 => ?_⟩
    obtain ⟨a, ea, q1, q2⟩ := h7 (by simp)
    refine ⟨a, ea, q1, fun j hj => ?_⟩
    have := q2 j (by simp; omega)
    rwa [List.getElem_append_left hj] at this
  · have h0 : 0 < LL.length ∨ LL.length = 0 := by omega
    have holds : ∀ j u, (cellsOf lenc LL)[j]? = some u → w.cell? ((⟨g, 0, none⟩ : Addr).add j) = some u := fun j u hj => by
      have hj1 : j < LL.length := by have := (List.getElem?_eq_some_iff.1 hj).1; rw [cellsOf_len eL] at this; omega
      obtain ⟨a, ea, q1, q2⟩ := h3 (by omega)
      injection ea with ea
      subst ea
      rw [q2 j hj1]
      rw [cellsL, List.getElem?_map, List.getElem?_eq_getElem hj1] at hj
      exact hj
    obtain ⟨v', w', hrun, h5, h6⟩ := run_append_arg_grows (P := Tryz.prog) w 28 ty 23 i (.slice none 0 0) 1 24 eL.ht hi hz0 hz1 hz2 rfl (by omega) ⟨g, 0, none⟩ LL.length cap (cellsOf lenc LL) (cellsOf_len eL LL) holds ⟨B, 0, none⟩ 1 1 (lenc y) rfl hn (by omega) (by unfold maxLen; omega) (by omega)
    rcases id h5.2 with ⟨hv2, h8⟩ | ⟨g', cap', cur', hv2, hbg', hh', hnc', hcm', hcs', ht'⟩
    · omega
    · subst hv2
      refine ⟨g', cap', w', hrun, ?_, h6.but _, .inr hbg', h3.call ((Below.refl _ _).grown h6 (Nat.le_refl _) (fun j hj => by cases hj))⟩
      unfold OwnL
      rw [List.length_append, hcat]
      exact ownsRow_base h5 hbase
/-- Lists of tokens as a law has them: all in blocks below B. -/
structure BB (W : World) (B : Nat) (p : Option Addr) (LL : List LV) : Prop where
  ones : Ones W lvS p LL
  lo : 0 < LL.length → ∀ a, p = some a → a.block < B
  its : ∀ x ∈ LL, Its W x.p x.l ∧ x.l.length ≤ x.c ∧ x.c ≤ maxLen ∧ (0 < x.l.length → ∀ a, x.p = some a → a.block < B)
  ok : ∀ x ∈ LL, BOk 8 x.l
  bs : B ≤ W.heap.size
theorem BB.keep {W W' : World} {B : Nat} {p : Option Addr} {LL : List LV} (h : BB W B p LL) (hb : Below B W W') : BB W' B p LL :=
  ⟨ones_keep h.ones hb.size (fun h0 a ha => hb.block _ (h.lo h0 a ha)), h.lo, fun x hx => ⟨(h.its x hx).1.kept (F := fun k => B ≤ k) ⟨hb.os, hb.tape, hb.output, hb.size, fun k hk hn => hb.block k (by omega)⟩ (fun h0 a ha c => by have := (h.its x hx).2.2.2 h0 a ha; omega), (h.its x hx).2⟩, h.ok, Nat.le_trans h.bs hb.size⟩
theorem BB.call {W W' : World} {B : Nat} {p : Option Addr} {LL : List LV} (h : BB W B p LL) (hb : Below W.heap.size W W') : BB W' B p LL := h.keep (hb.mono h.bs)
theorem BOk.lok {r : Nat} {l : List It} (h : BOk r l) (hr : r ≤ 800) : LOk l := ⟨by have := h.len; omega, fun x hx => ⟨wf_kind (h.k x hx), by have := h.txt x hx; omega⟩⟩
/-- The lists lie in blocks from B on. -/
def BL (B : Nat) (p : Option Addr) (LL : List LV) : Prop := (0 < LL.length → ∀ a, p = some a → B ≤ a.block) ∧ ∀ x ∈ LL, 0 < x.l.length → ∀ a, x.p = some a → B ≤ a.block
theorem BB.keptF {F : Nat → Prop} {W W' : World} {B lo : Nat} {p : Option Addr} {LL : List LV} (h : BB W B p LL) (hl : BL lo p LL) (k : Kept F W W') (hF : ∀ j, F j → j < lo ∨ B ≤ j) : BB W' B p LL :=
  ⟨ones_keep h.ones k.size (fun h0 a ha => k.block _ (by have := h.lo h0 a ha; have := h.bs; omega) (fun c => by have := hF _ c; have := h.lo h0 a ha; have := hl.1 h0 a ha; omega)), h.lo,
    fun x hx => ⟨(h.its x hx).1.kept k (fun h0 a ha c => by have := hF _ c; have := (h.its x hx).2.2.2 h0 a ha; have := hl.2 x hx h0 a ha; omega), (h.its x hx).2⟩, h.ok, Nat.le_trans h.bs k.size⟩
set_option maxHeartbeats 25600000 in
theorem base_lo_any (pn : Option Addr) (cn : Nat) (L : List Int) (w : World) (hL : Ones w (Value.int .i64) pn L) (wL : ∀ i (h : i < L.length), (Lit.int .i64 (L[i]'h)).wf = true) (hc : L.length ≤ cn) (hm : cn ≤ maxLen) :
    Calls Tryz.prog 7 #[.slice pn L.length cn] w fun e w' => ∃ q c LL, e = .returned (.slice q LL.length c) ∧ LL.length ≤ 8 ∧ LL.length ≤ c ∧ c ≤ maxLen ∧ BB w' w'.heap.size q LL ∧ Below w.heap.size w w' ∧ BL w.heap.size q LL := by
  have hS := BaseR.start pn cn L w hL wL hc hm
  have HNX := Lib.hid (fun W (m : Nat) (n : Int) (k : Nat) hk hN (h1 : m ≤ 1000) (h2 : 1 ≤ n) (h3 : n ≤ 1000) => next_any w.heap.size pn cn L m n k hk W hN (by omega) h2 (by omega))
  have HFR := Lib.hid (fun W (m : Nat) hN hlo (h1 : m ≤ 1000) => fragment_any w.heap.size pn cn L m true false 5 5 rfl W hN hlo (by omega) (by omega))
  have HLT := Lib.hid (fun m n (h : 0 < n) => nx_lt L m n h)
  clear hL wL hc hm
  go_enter Tryz.func7, Tryz.ntmps7
  go_wp2_with fail
  generalize (w.alloc (.cells #[.slice pn L.length cn, .int .i64 0] 33)) = w1 at *
  refine (HNX.out w1 0 9 9 rfl hS.nums (by omega) (by omega) (by omega)).mono ?_; rintro e w2 ⟨rfl, hg2, hN2⟩
  have hR2 := hS.next hg2 hN2
  have hk9 := HLT.out 0 9 (by omega)
  generalize nx L 0 9 = K at *
  clear hS hg2 hN2
  go_wp2_with fail
  go_loopw [4, 5] (fun v i wr => ∃ (k m : Nat) (LL : List LV), i = .int .i64 k ∧ k + LL.length ≤ 8 ∧ m ≤ 60 * LL.length + 1 ∧ BaseR w pn cn L LL v m wr) (fun _ i _ => (intOf i).toNat)
  case atStart => exact ⟨K, 1, [], rfl, by simp; omega, by simp, hR2⟩
  case round =>
    clear hR2
    obtain ⟨k, m, LL, rfl, hkL, hmL, hR⟩ := hrel
    obtain ⟨pv, cv, hv, hv1, hv2, hv3⟩ := OwnL.ones (en := lvS) hR.own
    by_cases hk0 : k = 0
    · subst hk0
      obtain ⟨hq1, hq2⟩ : (LL.length ≤ 8) ∧ True := ⟨by omega, trivial⟩
      have HR := Lib.hid hR
      subst hv
      have HV := Lib.hid (And.intro hv1 (And.intro hv2 hv3))
      clear hR hv1 hv2 hv3
      go_wp2_with fail
      go_ret
      obtain ⟨hv1, hv2, hv3⟩ := HV.out
      have hR := HR.out
      refine ⟨pv, cv, LL, rfl, hq1, hv1, hv2, ⟨hv3, fun h0 a ha => ?_, fun x hx => ?_, fun x hx => (hR.ok x hx).mono hq1, Nat.le_refl _⟩, hR.below, fun h0 a ha => by have := (hR.own.lt a.block (by rw [ha]; rfl)).1; omega, fun x hx h0 a ha => by have := ((hR.its x hx).2.2.2 h0 a ha).1; omega⟩
      · obtain ⟨a2, e2, h2, _⟩ := hv3 h0
        rw [ha] at e2; injection e2 with e2; rw [e2]; exact h2
      · obtain ⟨q1, q2, q3, q4⟩ := hR.its x hx
        refine ⟨q1, q2, q3, fun h0 a ha => ?_⟩
        obtain ⟨a2, e2, h2, _⟩ := q1 h0
        rw [ha] at e2; injection e2 with e2; rw [e2]; exact h2
    · have ik : (0 : Int) < (k : Int) := by omega
      have hk1 : IntKind.i64.wrap ((k : Int) - 1) = ((k - 1 : Nat) : Int) := by rw [show (k : Int) - 1 = ((k - 1 : Nat) : Int) by omega]; exact IntWalk.i64_in _ ⟨by omega, by omega⟩
      by_cases hLL : LL.length = 0
      · obtain rfl : LL = [] := List.length_eq_zero_iff.1 hLL
        clear hLL
        subst hv
        obtain ⟨mm, hmm⟩ : ∃ mm, mm = m := ⟨m, rfl⟩
        have hR8 : BaseR w pn cn L [] (.slice pv 0 cv) mm wr := by rw [hmm]; exact hR
        have hmm1 : mm ≤ 2 := by rw [List.length_nil] at hmL; omega
        have hkL : k ≤ 8 := by rw [List.length_nil] at hkL; omega
        clear hR hv1 hv2 hv3 hmm hmL
        go_wp2_with fail
        refine (HFR.out _ mm hR8.nums (fun h0 a ha => by have := hR8.plo h0 a ha; have := hR8.nums.lt; omega) (by omega)).mono ?_; rintro e w5 ⟨v5, rfl, hg5, hN5, hO5⟩
        have hR5 := hR8.next hg5 hN5
        have hfo := frag_ok L true false mm 5 (by omega)
        have hfl := hfo.1.len; have hft := hfo.1.txt; have hfm := hfo.2.2
        have HBF := Lib.hid (BOk.frag L mm (0 + 1))
        have hs5 : _ ≤ w5.heap.size := hg5.size
        generalize (fragG L true false mm 5).2 = m5 at *
        generalize (fragG L true false mm 5).1 = F at *
        obtain ⟨pf, cf, rfl, hf1, hf2, hf3⟩ := OwnL.its hO5
        have HR5 := Lib.hid hR5
        have HTK := Lib.hid (rtokens_any pf cf F w5 hf3 hf1 hf2 (by omega))
        have htl := toks_len F
        have HRL := Lib.hid (show ∀ k2, (Value.slice pv 0 cv).ownBlock = some k2 → k2 < w5.heap.size from fun k2 e => (hR5.own.lt k2 e).2)
        have hwl : w.heap.size < w5.heap.size := hR5.nums.lt
        clear hR8 hg5 hN5 hO5 hR5 hf3 hfo
        go_wp2_with fail
        refine HTK.out.mono ?_; rintro e w6 ⟨v6, rfl, hA6⟩
        have hb6 := hA6.below
        have hO6 := hA6.own
        have hlt6 := hO6.lt
        obtain ⟨pt, ct, rfl, ht1, ht2, ht3⟩ := OwnT.its hO6
        have hR6 := HR5.out.call hb6
        have htk : Its w6 pt ((toks F).take 14) := its_takeD ht3 14
        have hmn : min ((toks F).length : Int) 14 = ((((toks F).take 14).length : Nat) : Int) := by rw [List.length_take]; omega
        have hmc : ((((toks F).take 14).length : Nat) : Int) ≤ (ct : Int) := by rw [List.length_take]; omega
        have hmz : (0 : Int) ≤ ((((toks F).take 14).length : Nat) : Int) := by omega
        have hmc2 : ((toks F).take 14).length ≤ ct := by omega
        have hpt : ∀ a, pt = some a → w5.heap.size ≤ a.block ∧ a.block < w6.heap.size := fun a ha => hlt6 a.block (by rw [ha]; rfl)
        generalize (toks F).length = TL at *
        generalize (toks F).take 14 = Y at *
        have HR6 := Lib.hid hR6; have HTK2 := Lib.hid htk; have HPT := Lib.hid hpt
        have hnew := heap_alloc_new w6 (.cells #[.slice pt Y.length ct] 23)
        have hb7 : Below w6.heap.size w6 (w6.alloc (.cells #[.slice pt Y.length ct] 23)) := blw (Below.refl _ _) _
        have hR7 := hR6.call hb7
        have HCT := Lib.hid ht2
        have hTK7 := Lib.hid (htk.call hb7)
        clear hA6 hb6 hO6 hlt6 ht1 ht2 ht3 hR6 htk hpt hnew hb7 HTK HR5 HR6 HTK2
        go_wp2_with (at_builtin; refine wpl_app eL _ rfl _ _ rfl (w.heap.size + 1) ([] : List LV) _ rfl hR7.own (by have := hR7.nums.lt; omega) (⟨pt, ct, Y⟩ : LV) _ _ rfl (heap_alloc_new _ _) rfl (by omega) (by unfold maxLen; omega) ?_; intro g9 cap9 w9 hown9 hg9 hloc9)
        have hR9 := hR7.push hown9 hg9 (hloc9.imp id (fun e => Nat.le_of_eq e.symm)) (y := ⟨pt, ct, Y⟩) hTK7.out hmc2 HCT.out (fun h0 a ha => ⟨by have := (HPT.out a ha).1; omega, fun e => by have := (HPT.out a ha).1; have := HRL.out _ e; omega⟩) HBF.out
        have HR9 := Lib.hid hR9
        clear hR9 hR7 hown9 hg9 hloc9 hTK7
        go_wp2_with fail
        go_roundw
        case rel =>
          exact ⟨k - 1, m5, ([] : List LV) ++ [⟨pt, ct, Y⟩], by go_num, by rw [List.length_append, List.length_singleton]; omega, by rw [List.length_append, List.length_singleton]; omega, HR9.out⟩
        case measure => simp [intOf]; omega
      · have hl0 : (0 : Int) < (LL.length : Int) := by omega
        have hN2 := HNX.out wr m 2 2 rfl hR.nums (by omega) (by omega) (by omega)
        have HN2 := Lib.hid hN2; have HR := Lib.hid hR
        have hx2 := HLT.out m 2 (by omega)
        subst hv
        have HV := Lib.hid (And.intro hv1 (And.intro hv2 hv3))
        clear hN2 hR hv1 hv2 hv3
        generalize nx L m 2 = N2 at *
        go_wp2_with fail
        refine HN2.out.mono ?_; rintro e w3 ⟨rfl, hg3, hN3⟩
        have hR3 := HR.out.next hg3 hN3
        clear HN2 HR hg3 hN3
        by_cases hz2 : N2 = 0
        · have q0 : ((N2 : Int) == 0) = true := by simp [hz2]
          have HR3 := Lib.hid hR3
          clear hz2 hR3
          go_wp2_with fail
          refine wp_region_held_drew (S := fun _ => True) (by kernel_rfl) (trivial) (fun hHeld => ?_)
          have hR4 := HR3.out.drew
          generalize w3.drew = w4 at *
          clear HR3
          refine wpAnyH_take (i := 0) (v := ?_) rfl (by kernel_rfl) (by kernel_rfl) (by kernel_rfl) (fun _ _ _ h => h) (Or.inl ⟨by rfl, ?_⟩) hHeld ?_
          rotate_left
          · (intro w hSw; skip; go_simp; try with_reducible rfl)
          try simp only [Act.put, List.getElem_toArray, List.getElem_cons_zero, List.getElem_cons_succ, List.setIfInBounds_toArray, List.set_cons_zero, List.set_cons_succ]
          refine wpAnyH_take (i := 1) (v := ?_) rfl (by kernel_rfl) (by kernel_rfl) (by kernel_rfl) (fun _ _ _ h => h) (Or.inl ⟨by rfl, ?_⟩) hHeld ?_
          rotate_left
          · (intro w hSw; skip; go_simp; try with_reducible rfl)
          try simp only [Act.put, List.getElem_toArray, List.getElem_cons_zero, List.getElem_cons_succ, List.setIfInBounds_toArray, List.set_cons_zero, List.set_cons_succ]
          refine wpAnyH_take (i := 2) (v := ?_) rfl (by kernel_rfl) (by kernel_rfl) (by kernel_rfl) (fun _ _ _ h => h) (Or.inl ⟨by rfl, ?_⟩) hHeld ?_
          rotate_left
          · (intro w hSw; skip; go_simp; try with_reducible rfl)
          try simp only [Act.put, List.getElem_toArray, List.getElem_cons_zero, List.getElem_cons_succ, List.setIfInBounds_toArray, List.set_cons_zero, List.set_cons_succ]
          refine wpAnyH_take (i := 3) (v := ?_) rfl (by kernel_rfl) (by kernel_rfl) (by kernel_rfl) (fun _ _ _ h => h) (Or.inl ⟨by rfl, ?_⟩) hHeld ?_
          rotate_left
          · (intro w hSw; skip; go_simp; try with_reducible rfl)
          try simp only [Act.put, List.getElem_toArray, List.getElem_cons_zero, List.getElem_cons_succ, List.setIfInBounds_toArray, List.set_cons_zero, List.set_cons_succ]
          refine wpAnyH_take (i := 4) (v := ?_) rfl (by kernel_rfl) (by kernel_rfl) (by kernel_rfl) (fun _ _ _ h => h) (Or.inl ⟨by rfl, ?_⟩) hHeld ?_
          rotate_left
          · (intro w hSw; skip; go_simp; try with_reducible rfl)
          try simp only [Act.put, List.getElem_toArray, List.getElem_cons_zero, List.getElem_cons_succ, List.setIfInBounds_toArray, List.set_cons_zero, List.set_cons_succ]
          refine wpAnyH_take (i := 8) (v := ?_) rfl (by kernel_rfl) (by kernel_rfl) (by kernel_rfl) (fun _ _ _ h => h) (Or.inl ⟨by rfl, ?_⟩) hHeld ?_
          rotate_left
          · (intro w hSw; skip; go_simp; try with_reducible rfl)
          try simp only [Act.put, List.getElem_toArray, List.getElem_cons_zero, List.getElem_cons_succ, List.setIfInBounds_toArray, List.set_cons_zero, List.set_cons_succ]
          refine wpAnyH_take (i := 10) (v := ?_) rfl (by kernel_rfl) (by kernel_rfl) (by kernel_rfl) (fun _ _ _ h => h) (Or.inl ⟨by rfl, ?_⟩) hHeld ?_
          rotate_left
          · (intro w hSw; skip; go_simp; try with_reducible rfl)
          try simp only [Act.put, List.getElem_toArray, List.getElem_cons_zero, List.getElem_cons_succ, List.setIfInBounds_toArray, List.set_cons_zero, List.set_cons_succ]
          refine wpAnyH_take (i := 12) (v := ?_) rfl (by kernel_rfl) (by kernel_rfl) (by kernel_rfl) (fun _ _ _ h => h) (Or.inl ⟨by rfl, ?_⟩) hHeld ?_
          rotate_left
          · (intro w hSw; skip; go_simp; try with_reducible rfl)
          try simp only [Act.put, List.getElem_toArray, List.getElem_cons_zero, List.getElem_cons_succ, List.setIfInBounds_toArray, List.set_cons_zero, List.set_cons_succ]
          refine wpAnyH_take (i := 14) (v := ?_) rfl (by kernel_rfl) (by kernel_rfl) (by kernel_rfl) (fun _ _ _ h => h) (Or.inl ⟨by rfl, ?_⟩) hHeld ?_
          rotate_left
          · (intro w hSw; skip; go_simp; try with_reducible rfl)
          try simp only [Act.put, List.getElem_toArray, List.getElem_cons_zero, List.getElem_cons_succ, List.setIfInBounds_toArray, List.set_cons_zero, List.set_cons_succ]
          have hxl := HLT.out (m + 1) LL.length (by omega)
          have hN5 := HNX.out w4 (m + 1) (LL.length : Int) LL.length rfl hR4.nums (by omega) (by omega) (by omega)
          generalize nx L (m + 1) LL.length = N at *
          refine wpAnyH_ready (rs := [5]) (by kernel_rfl) (by simp) ?_
          refine (AllReadyH.cons rfl (fun K hK => ?_) AllReadyH.nil)
          go_simp
          refine hN5.mono ?_; rintro e w5 ⟨rfl, hg5, hN5⟩
          refine hK.out _ _ trivial (fun hHeld => ?_)
          clear hK K
          try simp only [Act.put, List.getElem_toArray, List.getElem_cons_zero, List.getElem_cons_succ, List.setIfInBounds_toArray, List.set_cons_zero, List.set_cons_succ]
          have hR5 := hR4.next hg5 hN5
          clear hR4 hg5 hN5 hHeld
          obtain ⟨hv1, hv2, _⟩ := HV.out
          obtain ⟨p5, c5, hv5, _, _, hv3⟩ := OwnL.ones (en := lvS) hR5.own
          injection hv5 with e5 _ e6; subst e5; subst e6
          obtain ⟨ad, rfl, hadl, hadc⟩ := hv3 (by omega)
          have hcN := hadc N (by omega)
          have hNi : (N : Int) < (LL.length : Int) := by omega
          obtain ⟨x, hx⟩ : ∃ x, x = LL[N] := ⟨_, rfl⟩
          have hxm : x ∈ LL := hx ▸ List.getElem_mem _
          rw [← hx] at hcN
          have hcN' : w5.cell? (ad.add N) = some (.slice x.p x.l.length x.c) := hcN
          have hgb : (Value.slice (some ad) LL.length cv).ownBlock = some ad.block := rfl
          have hgl := hR5.own.lt ad.block hgb
          have hkeepN : ∀ W W' : World, Kept (fun k => k = w.heap.size) W W' → W.cell? (ad.add N) = some (.slice x.p x.l.length x.c) → W'.cell? (ad.add N) = some (.slice x.p x.l.length x.c) := fun W W' k h => k.cell h (by rw [add_block]; omega)
          obtain ⟨hxi, hxc, hxmx, hxb⟩ := hR5.its x hxm
          have hxo := hR5.ok x hxm
          have HXO := Lib.hid hxo; have HXX := Lib.hid hxm
          have HXN := Lib.hid hx
          clear hadc hcN hx hxi hxo hxb
          refine wpAnyH_mono (S' := fun W => W.cell? (ad.add N) = some (.slice x.p x.l.length x.c)) (fun _ _ => trivial) _ _ _ _ ?_
          have hHeld := hcN'
          refine wpAnyH_take (i := 6) (v := ?_) rfl (by kernel_rfl) (by kernel_rfl) (by kernel_rfl) (fun _ _ _ h => h) (Or.inl ⟨by rfl, ?_⟩) hHeld ?_
          rotate_left
          · (intro w hSw; skip; go_simp; try with_reducible rfl)
          try simp only [Act.put, List.getElem_toArray, List.getElem_cons_zero, List.getElem_cons_succ, List.setIfInBounds_toArray, List.set_cons_zero, List.set_cons_succ]
          refine wpAnyH_take (i := 7) (v := ?_) rfl (by kernel_rfl) (by kernel_rfl) (by kernel_rfl) (fun _ _ _ h => h) (Or.inl ⟨by rfl, ?_⟩) hHeld ?_
          rotate_left
          · (intro w hSw; skip; go_simp; try with_reducible rfl)
          try simp only [Act.put, List.getElem_toArray, List.getElem_cons_zero, List.getElem_cons_succ, List.setIfInBounds_toArray, List.set_cons_zero, List.set_cons_succ]
          have hlt0 := HLT.out (m + 1 + 1) 12 (by omega)
          have hNN0 := HNX.out w5 (m + 1 + 1) 12 12 rfl hR5.nums (by omega) (by omega) (by omega)
          generalize nx L (m + 1 + 1) 12 = A0 at *
          refine wpAnyH_ready (rs := [9]) (by kernel_rfl) (by simp) ?_
          refine (AllReadyH.cons rfl (fun K hK => ?_) AllReadyH.nil)
          go_simp
          refine hNN0.mono ?_; rintro e v0 ⟨rfl, hg0, hNu0⟩
          have hcell0 := hkeepN _ _ (Kept.grown hg0 fun k e _ => by injection e with e; exact e.symm) hHeld
          refine hK.out _ _ hcell0 (fun hHeld => ?_)
          clear hK K
          try simp only [Act.put, List.getElem_toArray, List.getElem_cons_zero, List.getElem_cons_succ, List.setIfInBounds_toArray, List.set_cons_zero, List.set_cons_succ]
          have hRR0 := hR5.next hg0 hNu0
          clear hR5 hg0 hNu0 hNN0 hcell0
          have hlt1 := HLT.out (m + 1 + 1 + 1) 12 (by omega)
          have hNN1 := HNX.out v0 (m + 1 + 1 + 1) 12 12 rfl hRR0.nums (by omega) (by omega) (by omega)
          generalize nx L (m + 1 + 1 + 1) 12 = A1 at *
          refine wpAnyH_ready (rs := [11]) (by kernel_rfl) (by simp) ?_
          refine (AllReadyH.cons rfl (fun K hK => ?_) AllReadyH.nil)
          go_simp
          refine hNN1.mono ?_; rintro e v1 ⟨rfl, hg1, hNu1⟩
          have hcell1 := hkeepN _ _ (Kept.grown hg1 fun k e _ => by injection e with e; exact e.symm) hHeld
          refine hK.out _ _ hcell1 (fun hHeld => ?_)
          clear hK K
          try simp only [Act.put, List.getElem_toArray, List.getElem_cons_zero, List.getElem_cons_succ, List.setIfInBounds_toArray, List.set_cons_zero, List.set_cons_succ]
          have hRR1 := hRR0.next hg1 hNu1
          clear hRR0 hg1 hNu1 hNN1 hcell1
          have hlt2 := HLT.out (m + 1 + 1 + 1 + 1) 12 (by omega)
          have hNN2 := HNX.out v1 (m + 1 + 1 + 1 + 1) 12 12 rfl hRR1.nums (by omega) (by omega) (by omega)
          generalize nx L (m + 1 + 1 + 1 + 1) 12 = A2 at *
          refine wpAnyH_ready (rs := [13]) (by kernel_rfl) (by simp) ?_
          refine (AllReadyH.cons rfl (fun K hK => ?_) AllReadyH.nil)
          go_simp
          refine hNN2.mono ?_; rintro e v2 ⟨rfl, hg2, hNu2⟩
          have hcell2 := hkeepN _ _ (Kept.grown hg2 fun k e _ => by injection e with e; exact e.symm) hHeld
          refine hK.out _ _ hcell2 (fun hHeld => ?_)
          clear hK K
          try simp only [Act.put, List.getElem_toArray, List.getElem_cons_zero, List.getElem_cons_succ, List.setIfInBounds_toArray, List.set_cons_zero, List.set_cons_succ]
          have hRR2 := hRR1.next hg2 hNu2
          clear hRR1 hg2 hNu2 hNN2 hcell2
          have hlt3 := HLT.out (m + 1 + 1 + 1 + 1 + 1) 12 (by omega)
          have hNN3 := HNX.out v2 (m + 1 + 1 + 1 + 1 + 1) 12 12 rfl hRR2.nums (by omega) (by omega) (by omega)
          generalize nx L (m + 1 + 1 + 1 + 1 + 1) 12 = A3 at *
          refine wpAnyH_ready (rs := [15]) (by kernel_rfl) (by simp) ?_
          refine (AllReadyH.cons rfl (fun K hK => ?_) AllReadyH.nil)
          go_simp
          refine hNN3.mono ?_; rintro e v3 ⟨rfl, hg3, hNu3⟩
          have hcell3 := hkeepN _ _ (Kept.grown hg3 fun k e _ => by injection e with e; exact e.symm) hHeld
          refine hK.out _ _ hcell3 (fun hHeld => ?_)
          clear hK K
          try simp only [Act.put, List.getElem_toArray, List.getElem_cons_zero, List.getElem_cons_succ, List.setIfInBounds_toArray, List.set_cons_zero, List.set_cons_succ]
          have hRR3 := hRR2.next hg3 hNu3
          clear hRR2 hg3 hNu3 hNN3 hcell3
          obtain ⟨hxi, hxc2, hxmx2, hxb⟩ := hRR3.its x HXX.out
          have hm5 : ((heap_alloc_new v3 (.cells #[.int .i64 (A0 : Nat), .int .i64 (A1 : Nat), .int .i64 (A2 : Nat), .int .i64 7, .int .i64 (A3 : Nat)] 3)) = (heap_alloc_new v3 (.cells #[.int .i64 (A0 : Nat), .int .i64 (A1 : Nat), .int .i64 (A2 : Nat), .int .i64 7, .int .i64 (A3 : Nat)] 3))) := rfl
          have hO5 : Ones _ (Value.int .i64) _ [(A0 : Int), (A1 : Int), (A2 : Int), 7, (A3 : Int)] := ones_litN (heap_alloc_new v3 (.cells #[.int .i64 (A0 : Nat), .int .i64 (A1 : Nat), .int .i64 (A2 : Nat), .int .i64 7, .int .i64 (A3 : Nat)] 3)) rfl
          have hb5 : Below v3.heap.size v3 (v3.alloc (.cells #[.int .i64 (A0 : Nat), .int .i64 (A1 : Nat), .int .i64 (A2 : Nat), .int .i64 7, .int .i64 (A3 : Nat)] 3)) := blw (Below.refl _ _) _
          have hR6 := hRR3.call hb5
          have hc6 := hkeepN _ _ (Kept.below hb5) hHeld
          have hI6 := hxi.call hb5
          have hw6 : ∀ i (h : i < [(A0 : Int), (A1 : Int), (A2 : Int), 7, (A3 : Int)].length), (Lit.int .i64 ([(A0 : Int), (A1 : Int), (A2 : Int), 7, (A3 : Int)][i]'h)).wf = true := fun i h => by
            have : i = 0 ∨ i = 1 ∨ i = 2 ∨ i = 3 ∨ i = 4 := by simp at h; omega
            rcases this with rfl | rfl | rfl | rfl | rfl
            all_goals exact wf_i64 (by (try simp only [List.getElem_cons_zero, List.getElem_cons_succ]); omega) (by (try simp only [List.getElem_cons_zero, List.getElem_cons_succ]); omega)
          have HNR := Lib.hid (near_any x.p (some ⟨v3.heap.size, 0, none⟩) x.c 5 x.l [(A0 : Int), (A1 : Int), (A2 : Int), 7, (A3 : Int)] _ hI6 hxc hxmx hO5 hw6 (by simp) (by unfold maxLen; omega) (by have := HXO.out.len; omega) (fun y hy => by have := HXO.out.txt y hy; omega))
          have HBN := Lib.hid (HXO.out.near [(A0 : Int), (A1 : Int), (A2 : Int), 7, (A3 : Int)] rfl)
          have HR6 := Lib.hid hR6
          clear hm5 hO5 hRR3 hR6 hI6 hw6 hxi hxb
          refine wpAnyH_ready (rs := [16]) (by kernel_rfl) (by simp) ?_
          refine (AllReadyH.cons rfl (fun K hK => ?_) AllReadyH.nil)
          go_simp
          refine hK.out _ _ hc6 (fun hHeld => ?_)
          clear hK K hc6
          try simp only [Act.put, List.getElem_toArray, List.getElem_cons_zero, List.getElem_cons_succ, List.setIfInBounds_toArray, List.set_cons_zero, List.set_cons_succ]
          skip
          generalize (v3.alloc (.cells #[.int .i64 (A0 : Nat), .int .i64 (A1 : Nat), .int .i64 (A2 : Nat), .int .i64 7, .int .i64 (A3 : Nat)] 3)) = v4 at *
          generalize v3.heap.size = lb at *
          generalize hMM : [(A0 : Int), (A1 : Int), (A2 : Int), 7, (A3 : Int)] = MM at *
          have hM5 : MM.length = 5 := by rw [← hMM]; rfl
          rw [hM5] at HNR
          clear hMM hb5
          refine wpAnyH_ready (rs := [17]) (by kernel_rfl) (by simp) ?_
          refine (AllReadyH.cons rfl (fun K hK => ?_) AllReadyH.nil)
          go_simp
          refine HNR.out.mono ?_; rintro e v5 ⟨v6, rfl, hA6⟩
          have hb6 := hA6.below
          have hlt6 := hA6.own.lt
          obtain ⟨pt, ct, rfl, ht1, ht2, ht3⟩ := OwnT.its hA6.own
          have hc7 := hkeepN _ _ (Kept.below hb6) hHeld
          refine hK.out _ _ hc7 (fun hHeld => ?_)
          clear hK K hc7
          try simp only [Act.put, List.getElem_toArray, List.getElem_cons_zero, List.getElem_cons_succ, List.setIfInBounds_toArray, List.set_cons_zero, List.set_cons_succ]
          have hR7 := HR6.out.call hb6
          have hpt : ∀ a, pt = some a → v4.heap.size ≤ a.block ∧ a.block < v5.heap.size := fun a ha => hlt6 a.block (by rw [ha]; rfl)
          have hs4 := HR6.out.nums.lt
          have hgl4 := (HR6.out.own.lt ad.block hgb).2
          generalize nearL MM x.l = Y at *
          have hnew := heap_alloc_new v5 (.cells #[.slice pt Y.length ct] 23)
          have hb7 : Below v5.heap.size v5 (v5.alloc (.cells #[.slice pt Y.length ct] 23)) := blw (Below.refl _ _) _
          have hR8 := hR7.call hb7; have hI8 := ht3.call hb7
          have hc8 := hkeepN _ _ (Kept.below hb7) hHeld
          have HX8 := Lib.hid (And.intro hR8 (And.intro hI8 (And.intro hnew (And.intro ht1 (And.intro ht2 hpt)))))
          clear hA6 hlt6 HNR HR6 hb6 hR7 ht1 ht2 ht3 hpt hnew hb7 hR8 hI8
          refine wpAnyH_ready (rs := [18]) (by kernel_rfl) (by simp) ?_
          refine (AllReadyH.cons rfl (fun K hK => ?_) AllReadyH.nil)
          go_simp
          refine hK.out _ _ hc8 (fun hHeld => ?_)
          clear hK K hc8
          try simp only [Act.put, List.getElem_toArray, List.getElem_cons_zero, List.getElem_cons_succ, List.setIfInBounds_toArray, List.set_cons_zero, List.set_cons_succ]
          obtain ⟨hR8, hI8, hnew, ht1, ht2, hpt⟩ := HX8.out
          generalize (v5.alloc (.cells #[.slice pt Y.length ct] 23)) = v7 at *
          obtain ⟨g9, cap9, v8, hrun, hown9, hg9, hloc9, hone9⟩ := append_row 28 hR8.own (⟨pt, ct, Y⟩ : LV) v5.heap.size hnew (by omega) (by have := hR8.nums.lt; omega)
          have hR9 := hR8.push hown9 hg9 hloc9 (y := ⟨pt, ct, Y⟩) hI8 ht1 ht2 (fun h0 a ha => ⟨by have := (hpt a ha).1; omega, fun e => by rw [hgb] at e; injection e with e; have := (hpt a ha).1; omega⟩) HBN.out
          have hc9 : v8.cell? (ad.add N) = some (.slice x.p x.l.length x.c) := by
            obtain ⟨a, ea, _, q2⟩ := hone9 (by omega)
            injection ea with ea
            have h8 := q2 N hxl
            rw [← HXN.out, ← ea] at h8
            exact h8
          have HR9 := Lib.hid hR9
          clear hR8 hI8 hnew ht1 ht2 hpt hR9 hown9 hg9 hloc9 hone9 HX8
          refine wpAnyH_ready (rs := [19]) (by kernel_rfl) (by simp) ?_
          refine (AllReadyH.cons rfl (fun K hK => ?_) AllReadyH.nil)
          refine step_of_wp rfl ?_
          refine Lib.wp_append_run v7 _ _ 28 28 rfl _ _ rfl rfl _ v8 hrun ?_
          refine hK.out _ _ hc9 (fun hHeld => ?_)
          clear hK K hc9
          try simp only [Act.put, List.getElem_toArray, List.getElem_cons_zero, List.getElem_cons_succ, List.setIfInBounds_toArray, List.set_cons_zero, List.set_cons_succ]
          refine wpAnyH_take (i := 20) (v := ?_) rfl (by kernel_rfl) (by kernel_rfl) (by kernel_rfl) (fun _ _ _ h => h) (Or.inl ⟨by rfl, ?_⟩) hHeld ?_
          rotate_left
          · (intro w hSw; skip; go_simp; try with_reducible rfl)
          try simp only [Act.put, List.getElem_toArray, List.getElem_cons_zero, List.getElem_cons_succ, List.setIfInBounds_toArray, List.set_cons_zero, List.set_cons_succ]
          refine wpAnyH_done (by kernel_rfl) ?_ _
          clear hrun hHeld
          go_wp2_with fail
          go_roundw
          case rel =>
            exact ⟨k - 1, _, LL ++ [⟨pt, ct, Y⟩], by go_num, by rw [List.length_append, List.length_singleton]; omega, by rw [List.length_append, List.length_singleton]; omega, HR9.out⟩
          case measure => simp [intOf]; omega
        · have q0 : ((N2 : Int) == 0) = false := by simp [hz2]
          obtain ⟨mm, hmm⟩ : ∃ mm, mm = m + 1 := ⟨m + 1, rfl⟩
          have hR8 : BaseR w pn cn L LL (.slice pv LL.length cv) mm w3 := by rw [hmm]; exact hR3
          have hmm1 : mm ≤ 60 * LL.length + 2 := by omega
          clear hR3 hmm hmL HV hz2
          go_wp2_with fail
          refine (HFR.out _ mm hR8.nums (fun h0 a ha => by have := hR8.plo h0 a ha; have := hR8.nums.lt; omega) (by omega)).mono ?_; rintro e w5 ⟨v5, rfl, hg5, hN5, hO5⟩
          have hR5 := hR8.next hg5 hN5
          have hfo := frag_ok L true false mm 5 (by omega)
          have hfl := hfo.1.len; have hft := hfo.1.txt; have hfm := hfo.2.2
          have HBF := Lib.hid (BOk.frag L mm (LL.length + 1))
          have hs5 : _ ≤ w5.heap.size := hg5.size
          generalize (fragG L true false mm 5).2 = m5 at *
          generalize (fragG L true false mm 5).1 = F at *
          obtain ⟨pf, cf, rfl, hf1, hf2, hf3⟩ := OwnL.its hO5
          have HR5 := Lib.hid hR5
          have HTK := Lib.hid (rtokens_any pf cf F w5 hf3 hf1 hf2 (by omega))
          have htl := toks_len F
          have HRL := Lib.hid (show ∀ k2, (Value.slice pv LL.length cv).ownBlock = some k2 → k2 < w5.heap.size from fun k2 e => (hR5.own.lt k2 e).2)
          have hwl : w.heap.size < w5.heap.size := hR5.nums.lt
          clear hR8 hg5 hN5 hO5 hR5 hf3 hfo
          go_wp2_with fail
          refine HTK.out.mono ?_; rintro e w6 ⟨v6, rfl, hA6⟩
          have hb6 := hA6.below
          have hO6 := hA6.own
          have hlt6 := hO6.lt
          obtain ⟨pt, ct, rfl, ht1, ht2, ht3⟩ := OwnT.its hO6
          have hR6 := HR5.out.call hb6
          have htk : Its w6 pt ((toks F).take 14) := its_takeD ht3 14
          have hmn : min ((toks F).length : Int) 14 = ((((toks F).take 14).length : Nat) : Int) := by rw [List.length_take]; omega
          have hmc : ((((toks F).take 14).length : Nat) : Int) ≤ (ct : Int) := by rw [List.length_take]; omega
          have hmz : (0 : Int) ≤ ((((toks F).take 14).length : Nat) : Int) := by omega
          have hmc2 : ((toks F).take 14).length ≤ ct := by omega
          have hpt : ∀ a, pt = some a → w5.heap.size ≤ a.block ∧ a.block < w6.heap.size := fun a ha => hlt6 a.block (by rw [ha]; rfl)
          generalize (toks F).length = TL at *
          generalize (toks F).take 14 = Y at *
          have HR6 := Lib.hid hR6; have HTK2 := Lib.hid htk; have HPT := Lib.hid hpt
          have hnew := heap_alloc_new w6 (.cells #[.slice pt Y.length ct] 23)
          have hb7 : Below w6.heap.size w6 (w6.alloc (.cells #[.slice pt Y.length ct] 23)) := blw (Below.refl _ _) _
          have hR7 := hR6.call hb7
          have HCT := Lib.hid ht2
          have hTK7 := Lib.hid (htk.call hb7)
          clear hA6 hb6 hO6 hlt6 ht1 ht2 ht3 hR6 htk hpt hnew hb7 HTK HR5 HR6 HTK2
          go_wp2_with (at_builtin; refine wpl_app eL _ rfl _ _ rfl (w.heap.size + 1) LL _ rfl hR7.own (by have := hR7.nums.lt; omega) (⟨pt, ct, Y⟩ : LV) _ _ rfl (heap_alloc_new _ _) rfl (by omega) (by unfold maxLen; omega) ?_; intro g9 cap9 w9 hown9 hg9 hloc9)
          have hR9 := hR7.push hown9 hg9 (hloc9.imp id (fun e => Nat.le_of_eq e.symm)) (y := ⟨pt, ct, Y⟩) hTK7.out hmc2 HCT.out (fun h0 a ha => ⟨by have := (HPT.out a ha).1; omega, fun e => by have := (HPT.out a ha).1; have := HRL.out _ e; omega⟩) HBF.out
          have HR9 := Lib.hid hR9
          clear hR9 hR7 hown9 hg9 hloc9 hTK7
          go_wp2_with fail
          go_roundw
          case rel =>
            exact ⟨k - 1, m5, LL ++ [⟨pt, ct, Y⟩], by go_num, by rw [List.length_append, List.length_singleton]; omega, by rw [List.length_append, List.length_singleton]; omega, HR9.out⟩
          case measure => simp [intOf]; omega
theorem base_any (pn : Option Addr) (cn : Nat) (L : List Int) (w : World) (hL : Ones w (Value.int .i64) pn L) (wL : ∀ i (h : i < L.length), (Lit.int .i64 (L[i]'h)).wf = true) (hc : L.length ≤ cn) (hm : cn ≤ maxLen) :
    Calls Tryz.prog 7 #[.slice pn L.length cn] w fun e w' => ∃ q c LL, e = .returned (.slice q LL.length c) ∧ LL.length ≤ 8 ∧ LL.length ≤ c ∧ c ≤ maxLen ∧ BB w' w'.heap.size q LL ∧ Below w.heap.size w w' :=
  (base_lo_any pn cn L w hL wL hc hm).mono fun e w' ⟨q, c, LL, a1, a2, a3, a4, a5, a6, _⟩ => ⟨q, c, LL, a1, a2, a3, a4, a5, a6⟩
end Go.Proofs.YthfgpagmepdblaaGreat
