/- What the rows' condition on the listed variables gives: Itoa's contract. Plain mathematics of raw contents with longer forms: they read as the fragment. Contracts of the reference's byteOf and Block. The contract of the reference's Encode, at the format of markup. Items that lie elsewhere stay when a row grows. Contracts of the generator's raw contents at the format of markup. What is read behind a written fragment. A block around a written fragment. Plain mathematics of MarkupParts: what a document that could be divided is made of. Plain mathematics of MarkupParts: a generated document can be divided. The contract of the generator's documents at the format of markup. The contract of the law's changed: a string of the same length. The walk of MarkupParts. The law MarkupParts holds for every input. -/
import Derived.Test.YtphkpokoeaagfaaDoorRows
import Derived.Test.YtphkpokoeaagfaaDoorKtF
import Derived.Shelf.Vars
import Derived.LaidMore
import Derived.MakeChecks
import Derived.LaidHandle
import Derived.Lib.LaidU8
import Derived.Lib.AppendIntMem
import Derived.Test.YtphkpokoeaagfaaDoorRvl
import Derived.Test.YtphkpokoeaagfaaDoorIt
import Derived.Test.YtphkpokoeaagfaaDoorAcc
import Derived.Test.YtphkpokoeaagfaaDoorFst
import Derived.Test.YtphkpokoeaagfaaDoorLin
import Derived.Test.YtphkpokoeaagfaaDoorRsl
import Derived.Test.YtphkpokoeaagfaaDoorKtA
import Derived.Deep.RegionLaw
import Derived.Test.YtphkpokoeaagfaaDoorNxt
import Derived.Lib.ConvBytes
import Derived.Lib.SlBytesRow
import Derived.Lib.UnsafeStr
import Derived.Deep.Cut
import Derived.Deep.DeepCutAuto
import Derived.WalkKit
import Derived.ProofKit
import Derived.OpenShut
import Derived.ChangeOld
import Derived.Below
import Derived.Carry
import Derived.SizedLaws
import Derived.Test.YtphkpokoeaagfaaDoorCards
import Derived.Test.YtphkpokoeaagfaaDoorTie
import Derived.Stop.Joined
import Derived.SevenTiedAt
import Derived.Lay
import Derived.Test.YtphkpokoeaagfaaDoorArf
namespace Go.Proofs.YtphkpokoeaagfaaDoor
open Go.ChangeShapes Go.WideShapes Go.ChangeAt Go.RowKit
set_option linter.unusedVariables false
set_option maxRecDepth 100000

theorem gPow : Tryd.prog.globalNamed "internal/strconv.uint64pow10" = some 0 := by kernel_rfl
theorem tPow : (Tryd.prog.globals[0]?).map (·.type) = some 151 := by kernel_rfl
theorem cellsU64 : Tryd.prog.cellsOf 141 = 1 := by kernel_rfl
theorem cellsPow : Tryd.prog.cellsOf 151 = 20 := by kernel_rfl
theorem laidData : (Rows.laid_internal_strconv_uint64pow10 : DataW Unit) = Lib.tabData .u64 Lib.pow10Tab := by rfl
abbrev laidL : List (String × DataW Unit) := [("math/bits.deBruijn32tab", Rows.laid_math_bits_deBruijn32tab), ("math/bits.deBruijn64tab", Rows.laid_math_bits_deBruijn64tab), ("internal/strconv.uint64pow10", Rows.laid_internal_strconv_uint64pow10)]
theorem itoa_of_laid {W : World} (h : laidMetH Tryd.prog laidL W) : ItoaOk 1000000000 W := by
  rw [MakeChecks.laidMetH_plain _ _ _ (by kernel_rfl)] at h
  have hT : Lib.TabIs Tryd.prog W "internal/strconv.uint64pow10" .u64 Lib.pow10Tab := by
    obtain ⟨g, t, cs, fuel, p, hg, ht, hv, hd⟩ := Lib.laidMet.reads h (n := "internal/strconv.uint64pow10") (d := Rows.laid_internal_strconv_uint64pow10) (.tail _ (.tail _ (.head _)))
    obtain rfl := Option.some.inj (gPow.symm.trans hg)
    obtain rfl := Option.some.inj (tPow.symm.trans ht)
    unfold Lib.TabIs
    rw [laidData] at hd
    rw [hv, ← Lib.cells_of_tab Tryd.underlying151 Tryd.underlying141 cellsU64 cellsPow hd]
  exact ItoaOk.of (fun w1 hb => Lib.tabBelow_of_tabIs hT w1 hb) (by decide)
theorem mx_of_shaped {W : World} (h : W.ShapedOpen Tryd.prog) : Mx W := cell_of_shapedOpen_int (zero := #[.int .i64 0]) (t := 3) (g := 1) h (of_decide_eq_true (by kernel_rfl)) (by kernel_rfl) rfl (by kernel_rfl) (by kernel_rfl) Tryd.underlying3
end Go.Proofs.YtphkpokoeaagfaaDoor
namespace Go.Proofs.YtphkpokoeaagfaaDoor
set_option linter.unusedVariables false
set_option maxRecDepth 100000
open Go.Lib

/-- What a position may be written as. -/
def PieM (x : It) (t : List UInt8) : Prop := t = e1M x ∨ (x.k = 1 ∧ x.t = ⟨#[62]⟩ ∧ t = [38, 103, 116, 59]) ∨ (x.k = 1 ∧ x.t = ⟨#[125]⟩ ∧ t = [38, 114, 98, 59])
theorem pie_wordM (x : It) (h : One x) (hb : isT x.k = true → blk x = false) {t : List UInt8} (ht : PieM x t) : WordM t (unN x) := by
  rcases ht with rfl | ⟨h1, h2, rfl⟩ | ⟨h1, h2, rfl⟩
  · exact word_enc h hb
  · obtain ⟨c, rfl⟩ := one_bT h h1
    have hc : c = 62 := by
      have h2 : bsL [c] = bsL [62] := h2
      have := bsL_inj h2
      injection this
    subst hc
    exact wordM_ref ([103, 116, 59], 62) (by simp [refW])
  · obtain ⟨c, rfl⟩ := one_bT h h1
    have hc : c = 125 := by
      have h2 : bsL [c] = bsL [125] := h2
      have := bsL_inj h2
      injection this
    subst hc
    exact wordM_ref ([114, 98, 59], 125) (by simp [refW])
theorem pie_lenM {x : It} (hx : x.t.size ≤ 1024) {t : List UInt8} (ht : PieM x t) : t.length ≤ 6010 := by
  have h1 := e1M_len hx
  rcases ht with rfl | ⟨_, _, rfl⟩ | ⟨_, _, rfl⟩
  · omega
  · simp
  · simp
/-- Bytes that are the positions, one behind the other, each in one of its forms. -/
def RawsM (xs : List It) (raw : List UInt8) : Prop := ∃ ws : Ws, raw = flatW ws ∧ itW ws = xs ∧ ∀ w ∈ ws, PieM w.2 w.1
theorem RawsM.nil : RawsM [] [] := ⟨[], rfl, rfl, fun w h => by cases h⟩
theorem RawsM.snoc {xs : List It} {raw : List UInt8} (h : RawsM xs raw) {x : It} {t : List UInt8} (ht : PieM x t) : RawsM (xs ++ [x]) (raw ++ t) := by
  obtain ⟨ws, e1, e2, e3⟩ := h
  refine ⟨ws ++ [(t, x)], ?_, ?_, fun w hw => ?_⟩
  · rw [flatW_append, ← e1, flatW_cons, flatW_nil, List.append_nil]
  · show (ws ++ [(t, x)]).map Prod.snd = _
    rw [List.map_append]; show itW ws ++ [x] = _; rw [e2]
  · rcases List.mem_append.1 hw with hw | hw
    · exact e3 w hw
    · obtain rfl := List.mem_singleton.1 hw; exact ht
/-- A raw content of a fragment reads as it. -/
theorem raws_wordsM {f : List It} (h : valE f = 0) (hm : MadeOk f) {raw : List UInt8} (hr : RawsM (expI f) raw) : ∃ ws : Ws, raw = flatW ws ∧ itW ws = (expI f).map unN ∧ AllM ws ∧ dcM raw = (f, offs 0 ws, 0, 0) := by
  obtain ⟨ws, e1, e2, e3⟩ := hr
  obtain ⟨h1, h2, h3⟩ := valE_zero h
  have hnb := noBlk_exp hm.nb
  have hall : AllM (ws.map fun w => (w.1, unN w.2)) := fun w hw => by
    rw [List.mem_map] at hw
    obtain ⟨v, hv, rfl⟩ := hw
    have hx : v.2 ∈ expI f := by rw [← e2]; exact List.mem_map.2 ⟨v, hv, rfl⟩
    exact pie_wordM v.2 (exp_ok h3 v.2 hx) (hnb v.2 hx) (e3 v hv)
  have hfl : flatW (ws.map fun w => (w.1, unN w.2)) = raw := by
    rw [e1]
    clear e1 e2 e3 hall
    induction ws with
    | nil => rfl
    | cons w t ih => rw [List.map_cons, flatW_cons, flatW_cons, ih]
  have hit : itW (ws.map fun w => (w.1, unN w.2)) = (expI f).map unN := by
    rw [← e2]; unfold itW; rw [List.map_map, List.map_map]; rfl
  have hlen : (ws.map fun w => (w.1, unN w.2)).length = lenI f := by
    rw [List.length_map, ← expI_len, ← e2]; unfold itW; rw [List.length_map]
  obtain ⟨n, hn⟩ := hm.run
  have hd := dcM_words hall (by rw [hit]; exact hn) (by rw [norm_exp, norm_valid f h3]; exact h1) (by rw [hlen]; exact h2)
  rw [hfl, norm_exp, norm_valid f h3] at hd
  exact ⟨_, hfl.symm, hit, hall, hd⟩
end Go.Proofs.YtphkpokoeaagfaaDoor
namespace Go.Proofs.YtphkpokoeaagfaaDoor
open Go.ChangeShapes Go.WideShapes Go.ChangeAt Go.RowKit
set_option linter.unusedVariables false
set_option linter.unusedSimpArgs false
set_option maxRecDepth 100000

theorem rconv_byte (w : World) (c : UInt8) : (convert 22 9 (.slice (some ⟨w.heap.size, 0, none⟩) 1 1)).run Tryd.prog (w.alloc (.cells #[.int .u8 (c.toNat : Int)] 5)) = .ok (.string ⟨#[c]⟩) (w.alloc (.cells #[.int .u8 (c.toNat : Int)] 5)) :=
  Lib.run_convert_whole (P := Tryd.prog) _ 22 5 9 Tryd.underlying22 Tryd.underlying5 Tryd.underlying9 w.heap.size 0 ⟨#[c]⟩ (fun i hi => by
    have hi' : i < 1 := hi
    obtain rfl : i = 0 := by omega
    rw [Nat.zero_add, Lib.cell_of_heap (heap_alloc_new w _)]; rfl) 1
theorem u8_of_eq {c k : UInt8} (h : ((c.toNat : Int) == (k.toNat : Int)) = true) : c = k := by
  rw [beq_iff_eq] at h
  exact UInt8.toNat_inj.1 (by omega)
set_option maxHeartbeats 1600000 in
theorem byteof_ref (c : UInt8) (w : World) : Calls Tryd.prog 112 #[.int .i64 1, .int .u8 (c.toNat : Int)] w fun e w' => e = .returned (.string (bsL (byM c))) ∧ Below w.heap.size w w' := by
  have b0 : (0 : Int) ≤ (c.toNat : Int) := by omega
  have b1 : (c.toNat : Int) ≤ 255 := by have := c.toNat_lt; omega
  have hcv := rconv_byte w c
  have hB : Below w.heap.size w (w.alloc (.cells #[.int .u8 (c.toNat : Int)] 5)) := blw (Below.refl _ _) _
  by_cases h60 : c = 60
  · have he : bsL (byM c) = ⟨#[38, 108, 116, 59]⟩ := by rw [h60]; rfl
    have HE := Lib.hid he
    have q0 : ((c.toNat : Int) == 60) = true := by rw [h60]; rfl
    clear he h60
    go_enter Tryd.func112, Tryd.ntmps112
    go_wp2_with fail
    go_ret
    exact ⟨by rw [HE.out]; rfl, hB⟩
  by_cases h38 : c = 38
  · have he : bsL (byM c) = ⟨#[38, 97, 109, 112, 59]⟩ := by rw [h38]; rfl
    have HE := Lib.hid he
    have q0 : ((c.toNat : Int) == 38) = true := by rw [h38]; rfl
    clear he h38
    go_enter Tryd.func112, Tryd.ntmps112
    go_wp2_with fail
    (try simp only [Exit.inBlock, Exit.then])
    go_ret
    exact ⟨by rw [HE.out]; rfl, hB⟩
  by_cases h123 : c = 123
  · have he : bsL (byM c) = ⟨#[38, 108, 98, 59]⟩ := by rw [h123]; rfl
    have HE := Lib.hid he
    have q0 : ((c.toNat : Int) == 123) = true := by rw [h123]; rfl
    clear he h123
    go_enter Tryd.func112, Tryd.ntmps112
    go_wp2_with fail
    (try simp only [Exit.inBlock, Exit.then])
    go_ret
    exact ⟨by rw [HE.out]; rfl, hB⟩
  have q0 : ((c.toNat : Int) == 60) = false := u8_int_ne h60
  have q1 : ((c.toNat : Int) == 38) = false := u8_int_ne h38
  have q2 : ((c.toNat : Int) == 123) = false := u8_int_ne h123
  have he : bsL (byM c) = ⟨#[c]⟩ := by unfold byM; rw [if_neg h60, if_neg h38, if_neg h123]; rfl
  have HE := Lib.hid he
  clear he h60 h38 h123
  go_enter Tryd.func112, Tryd.ntmps112
  go_wp2_with fail
  go_ret
  exact ⟨by rw [HE.out]; rfl, hB⟩
theorem block_ref (n : ByteArray) (w : World) : Calls Tryd.prog 58 #[.string n] w fun e w' => e = .returned (.bool (blkN n)) ∧ w = w' := by
  by_cases h0 : n = ⟨#[112]⟩
  · subst h0
    go_enter Tryd.func58, Tryd.ntmps58
    go_wp2
    all_goals go_ret
    all_goals exact ⟨rfl, rfl⟩
  by_cases h1 : n = ⟨#[104]⟩
  · subst h1
    go_enter Tryd.func58, Tryd.ntmps58
    go_wp2
    all_goals go_ret
    all_goals exact ⟨rfl, rfl⟩
  by_cases h2 : n = ⟨#[108, 105]⟩
  · subst h2
    go_enter Tryd.func58, Tryd.ntmps58
    go_wp2
    all_goals go_ret
    all_goals exact ⟨rfl, rfl⟩
  by_cases h3 : n = ⟨#[116, 100]⟩
  · subst h3
    go_enter Tryd.func58, Tryd.ntmps58
    go_wp2
    all_goals go_ret
    all_goals exact ⟨rfl, rfl⟩
  have s0 := lst_ne [112] h0
  have s1 := lst_ne [104] h1
  have s2 := lst_ne [108, 105] h2
  have s3 := lst_ne [116, 100] h3
  by_cases h4 : n = ⟨#[116, 105, 116, 108, 101]⟩
  · subst h4
    go_enter Tryd.func58, Tryd.ntmps58
    go_wp2
    all_goals go_ret
    all_goals exact ⟨rfl, rfl⟩
  · have he : blkN n = false := by unfold blkN; rw [decide_eq_false_iff_not]; rintro (h | h | h | h | h) <;> contradiction
    have s4 := lst_ne [116, 105, 116, 108, 101] h4
    rw [he]
    clear h0 h1 h2 h3 h4 he
    go_enter Tryd.func58, Tryd.ntmps58
    go_wp2
    all_goals go_ret
    all_goals exact ⟨ret_bool (by simp), rfl⟩
end Go.Proofs.YtphkpokoeaagfaaDoor
namespace Go.Proofs.YtphkpokoeaagfaaDoor
open Go.ChangeShapes Go.WideShapes Go.ChangeAt Go.RowKit
set_option linter.unusedVariables false
set_option linter.unusedSimpArgs false
set_option maxRecDepth 100000

theorem any_at {f : List It} {k : Nat} (hk : k < f.length) (h : isT (f[k]'hk).k = true) (hb : blk (f[k]'hk) = true) : anyB (tagsL f) = true := by
  unfold anyB
  rw [List.any_eq_true]
  exact ⟨_, mem_tags.2 ⟨List.getElem_mem hk, h⟩, hb⟩
theorem any_none {f : List It} (h : ∀ k (hk : k < f.length), isT (f[k]'hk).k = true → blk (f[k]'hk) = false) : anyB (tagsL f) = false := any_tags (fun x hx ht => by
  obtain ⟨i, hi, rfl⟩ := List.mem_iff_getElem.1 hx
  exact h i hi ht)
theorem bs_three (L : List UInt8) (a t b : ByteArray) : bsL L ++ (a ++ t ++ b) = bsL (L ++ (a.data.toList ++ t.data.toList ++ b.data.toList)) := by
  rw [← bsL_append, ← bsL_append, ← bsL_append, bsL_of, bsL_of, bsL_of]
theorem bs_2 (L : List UInt8) {x : It} (h : x.k = 2) : bsL L ++ (⟨#[60]⟩ ++ x.t ++ ⟨#[62]⟩) = bsL (L ++ e1M x) := by rw [e1M_2 h, bs_three]
theorem bs_3 (L : List UInt8) {x : It} (h : x.k = 3) : bsL L ++ (⟨#[60, 47]⟩ ++ x.t ++ ⟨#[62]⟩) = bsL (L ++ e1M x) := by rw [e1M_3 h, ← bsL_append, bsL_of]
theorem bs_4 (L : List UInt8) {x : It} (h : x.k = 4) : bsL L ++ (⟨#[60]⟩ ++ x.t ++ ⟨#[47, 62]⟩) = bsL (L ++ e1M x) := by rw [e1M_4 h, bs_three]
theorem bs_5 (L : List UInt8) {x : It} (h : x.k = 5) : bsL L ++ (⟨#[123]⟩ ++ x.t ++ ⟨#[125]⟩) = bsL (L ++ e1M x) := by rw [e1M_5 h, bs_three]
theorem bs_t (L : List UInt8) {x : It} (h : x.k = 1) : bsL (L ++ encT x.t.data.toList) = bsL (L ++ e1M x) := by rw [e1M_1 h]
theorem bs_next (L : List UInt8) (s : ByteArray) (j : Nat) (h : j < s.size) : bsL (L ++ encT (s.data.toList.take j)) ++ bsL (byM s[j]) = bsL (L ++ encT (s.data.toList.take (j + 1))) := by
  rw [bsL_append, encT_next s j h, List.append_assoc]
theorem proper_flat {x : It} (hp : properB x = true) (h : isT x.k = false) : x.k = 1 ∨ x.k = 5 := by
  rcases proper_kinds hp with q | q | q
  · exact .inl q
  · rw [h] at q; cases q
  · exact .inr q
set_option maxHeartbeats 3200000 in
theorem refencode_any (p : Option Addr) (cap : Nat) (f : List It) (w : World) (hR : Its w p f) (hO : Oks f) (hc : f.length ≤ cap) (hm : cap ≤ maxLen) :
    Calls Tryd.prog 85 #[.int .i64 1, .slice p f.length cap] w fun e w' => e = .returned (.tuple #[.string (encE f).1, .int .i64 (encE f).2]) ∧ Below w.heap.size w w' := by
  have hv := fun w hR => rvalidate_any p cap f w hR hO hc hm
  by_cases h : valE f = 0
  · have h512 := (valE_zero h).1
    have hit := fun k hk => eitem_small h k hk
    have hln := fun k hk => enc_len h k hk
    have hok : anyB (tagsL f) = false → encE f = (bsL (encM f), 0) := encE_ok h
    have hbad : anyB (tagsL f) = true → encE f = (.empty, 7) := encE_tag h
    have hnt := any_none (f := f)
    rw [h] at hv
    have HV := Lib.hid hv; have HI := Lib.hid hit; have HL := Lib.hid hln; have HOK := Lib.hid hok; have HBD := Lib.hid hbad; have HNT := Lib.hid hnt
    clear hv hit hln hok hbad hnt h
    unfold maxLen at hm
    go_enter Tryd.func85, Tryd.ntmps85
    go_wp2_with fail
    refine (HV.out _ hR).mono ?_; rintro e w1 ⟨rfl, hb⟩
    go_wp2_with fail
    go_loopw [7, 18] (fun v i wr => ∃ (k : Nat), k ≤ f.length ∧ i = .int .i64 k ∧ v = .string (bsL (encM (f.take k))) ∧ (∀ j (hj : j < f.length), j < k → isT (f[j]'hj).k = true → blk (f[j]'hj) = false) ∧ Below w.heap.size w wr) (fun _ i _ => f.length - (intOf i).toNat)
    case atStart => exact ⟨0, Nat.zero_le _, rfl, rfl, fun j _ h => absurd h (Nat.not_lt_zero j), hb⟩
    case round =>
      obtain ⟨k, hk, rfl, rfl, hNo, hB⟩ := hrel
      have hNO := Lib.hid hNo
      clear hNo
      by_cases hlt : k < f.length
      · obtain ⟨ad, rfl, had, c0, c1, c2⟩ := (hR.call hB).row k hlt
        obtain ⟨hp, hts⟩ := HI.out k hlt
        have hl := HL.out k hk
        have hn := encM_next f k hlt
        have htg : isT (f[k]'hlt).k = true → blk (f[k]'hlt) = true → encE f = (.empty, 7) := fun q r => HBD.out (any_at hlt q r)
        have hno2 : (isT (f[k]'hlt).k = true → blk (f[k]'hlt) = false) → ∀ j (hj : j < f.length), j < k + 1 → isT (f[j]'hj).k = true → blk (f[j]'hj) = false := fun q j hj hjk => by
          by_cases e : j = k
          · subst e; exact q
          · exact hNO.out j hj (by omega)
        generalize f[k] = x at *
        generalize encM (f.take k) = L at *
        have hfl : isT x.k = false → x.k = 1 ∨ x.k = 5 := proper_flat hp
        have HN := Lib.hid hn; have HTG := Lib.hid htg; have HNO2 := Lib.hid hno2; have HFL := Lib.hid hfl
        clear hn htg hno2 hp hfl
        have V := Var3.new wr x.k x.t x.id
        have hB1 := blw hB (.cells #[.int .i64 x.k, .string x.t, .int .i64 x.id] 40)
        obtain ⟨v0, v1, v2, vl⟩ := id V
        have ht := fun W => ristag_any x.k x.t x.id W
        have hnm := fun W => rname_any x.t W (by unfold maxLen; omega)
        have hbl := fun W => block_ref (nameB x.t) W
        have HNM := Lib.hid hnm
        clear hnm
        cases hq : isT x.k
        case true =>
          rw [hq] at ht
          have HT := Lib.hid ht
          have hk3 : x.k = 2 ∨ x.k = 3 ∨ x.k = 4 := by unfold isT at hq; simpa using hq
          have hbk' : blkN (nameB x.t) = blk x := rfl
          rw [hbk'] at hbl
          clear hbk' ht
          cases hb : blk x
          case true =>
            have he := HTG.out hq hb
            have HE := Lib.hid he
            rw [hb] at hbl
            have HBL := Lib.hid hbl
            clear he hq hbl hb hk3
            go_wp2_with fail
            refine (HT.out _).mono ?_; rintro e w2 ⟨rfl, hb2⟩
            have V2 := V.call hb2
            have hB2 := BelowOn hB1 hb2
            clear V v0 v1 v2 vl
            obtain ⟨v0, v1, v2, vl⟩ := id V2
            go_wp2_with fail
            refine (HNM.out _).mono ?_; rintro e w3 ⟨rfl, rfl⟩
            go_wp2_with fail
            refine (HBL.out _).mono ?_; rintro e w4 ⟨rfl, rfl⟩
            go_wp2_with fail
            go_ret2
            exact ⟨by rw [HE.out]; rfl, hB2⟩
          have hno3 := HNO2.out (fun _ => hb)
          have HN3 := Lib.hid hno3
          rw [hb] at hbl
          have HBL := Lib.hid hbl
          clear hq hbl hb hno3
          go_wp2_with fail
          refine (HT.out _).mono ?_; rintro e w2 ⟨rfl, hb2⟩
          have V2 := V.call hb2
          have hB2 := BelowOn hB1 hb2
          clear V v0 v1 v2 vl
          obtain ⟨v0, v1, v2, vl⟩ := id V2
          go_wp2_with fail
          refine (HNM.out _).mono ?_; rintro e w3 ⟨rfl, rfl⟩
          go_wp2_with fail
          refine (HBL.out _).mono ?_; rintro e w4 ⟨rfl, rfl⟩
          have hB4 := hB2
          rcases hk3 with h2 | h3 | h4
          · have hfin := bs_2 L h2
            have HF := Lib.hid hfin
            have s1 : (⟨#[60]⟩ : ByteArray).size = 1 := rfl
            have s2 : (⟨#[62]⟩ : ByteArray).size = 1 := rfl
            have z0 : (bsL L).size = L.length := bsL_size L
            have z1 : ¬ (9223372036854775807 < 1 + x.t.size) := by omega
            have z2 : ¬ (9223372036854775807 < (⟨#[60]⟩ ++ x.t : ByteArray).size + 1) := by
              rw [ByteArray.size_append, s1]; omega
            have z3 : ¬ (9223372036854775807 < (bsL L).size + ((⟨#[60]⟩ ++ x.t ++ ⟨#[62]⟩ : ByteArray)).size) := by
              rw [ByteArray.size_append, ByteArray.size_append, s1, s2]; omega
            have q1 : (x.k == 1) = false := by rw [h2]; rfl
            have q2 : (x.k == 2) = true := by rw [h2]; rfl
            clear hfin h2 s1 s2 z0
            generalize bsL L = S at *
            go_wp2_with fail
            go_roundw
            case rel => exact ⟨k + 1, hlt, by go_num, by rw [HN.out, ← HF.out], fun j hj hjk => HN3.out j hj hjk, hB4⟩
            case measure => simp [intOf]; omega
          · have hfin := bs_3 L h3
            have HF := Lib.hid hfin
            have s1 : (⟨#[60, 47]⟩ : ByteArray).size = 2 := rfl
            have s2 : (⟨#[62]⟩ : ByteArray).size = 1 := rfl
            have z0 : (bsL L).size = L.length := bsL_size L
            have z1 : ¬ (9223372036854775807 < 2 + x.t.size) := by omega
            have z2 : ¬ (9223372036854775807 < (⟨#[60, 47]⟩ ++ x.t : ByteArray).size + 1) := by
              rw [ByteArray.size_append, s1]; omega
            have z3 : ¬ (9223372036854775807 < (bsL L).size + ((⟨#[60, 47]⟩ ++ x.t ++ ⟨#[62]⟩ : ByteArray)).size) := by
              rw [ByteArray.size_append, ByteArray.size_append, s1, s2]; omega
            have q1 : (x.k == 1) = false := by rw [h3]; rfl
            have q2 : (x.k == 2) = false := by rw [h3]; rfl
            have q3 : (x.k == 3) = true := by rw [h3]; rfl
            clear hfin h3 s1 s2 z0
            generalize bsL L = S at *
            go_wp2_with fail
            go_roundw
            case rel => exact ⟨k + 1, hlt, by go_num, by rw [HN.out, ← HF.out], fun j hj hjk => HN3.out j hj hjk, hB4⟩
            case measure => simp [intOf]; omega
          · have hfin := bs_4 L h4
            have HF := Lib.hid hfin
            have s1 : (⟨#[60]⟩ : ByteArray).size = 1 := rfl
            have s2 : (⟨#[47, 62]⟩ : ByteArray).size = 2 := rfl
            have z0 : (bsL L).size = L.length := bsL_size L
            have z1 : ¬ (9223372036854775807 < 1 + x.t.size) := by omega
            have z2 : ¬ (9223372036854775807 < (⟨#[60]⟩ ++ x.t : ByteArray).size + 2) := by
              rw [ByteArray.size_append, s1]; omega
            have z3 : ¬ (9223372036854775807 < (bsL L).size + ((⟨#[60]⟩ ++ x.t ++ ⟨#[47, 62]⟩ : ByteArray)).size) := by
              rw [ByteArray.size_append, ByteArray.size_append, s1, s2]; omega
            have q1 : (x.k == 1) = false := by rw [h4]; rfl
            have q2 : (x.k == 2) = false := by rw [h4]; rfl
            have q3 : (x.k == 3) = false := by rw [h4]; rfl
            have q4 : (x.k == 4) = true := by rw [h4]; rfl
            clear hfin h4 s1 s2 z0
            generalize bsL L = S at *
            go_wp2_with fail
            go_roundw
            case rel => exact ⟨k + 1, hlt, by go_num, by rw [HN.out, ← HF.out], fun j hj hjk => HN3.out j hj hjk, hB4⟩
            case measure => simp [intOf]; omega
        case false =>
          have hkd := HFL.out hq
          have hno3 := HNO2.out (fun e => by rw [hq] at e; cases e)
          have HN3 := Lib.hid hno3
          rw [hq] at ht
          have HT := Lib.hid ht
          clear ht hq hno3
          rcases hkd with h1 | h5
          · have q1 : (x.k == 1) = true := by rw [h1]; rfl
            have hfin := bs_t L h1
            have HF := Lib.hid hfin
            clear hfin h1
            go_wp2_with fail
            refine (HT.out _).mono ?_; rintro e w2 ⟨rfl, hb2⟩
            have V2 := V.call hb2
            have hB2 := BelowOn hB1 hb2
            clear V v0 v1 v2 vl
            obtain ⟨v0, v1, v2, vl⟩ := id V2
            go_wp2_with fail
            go_loopw [7, 10] (fun v i wi => ∃ (j : Nat), j ≤ x.t.size ∧ i = .int .i64 j ∧ v = .string (bsL (L ++ encT (x.t.data.toList.take j))) ∧ Var3 wi wr.heap.size x.k x.t x.id ∧ Below w.heap.size w wi) (fun _ i _ => x.t.size - (intOf i).toNat)
            case atStart => exact ⟨0, Nat.zero_le _, rfl, by simp [encT], V2, hB2⟩
            case round =>
              obtain ⟨j, hj, rfl, rfl, V3, hB3⟩ := hrel
              obtain ⟨v0, v1, v2, vl⟩ := id V3
              by_cases hjl : j < x.t.size
              · have hnx := bs_next L x.t j hjl
                have htl := encT_take x.t j (by omega)
                have hbl := byM_len x.t[j]
                have hz : ¬ (9223372036854775807 < (bsL (L ++ encT (x.t.data.toList.take j))).size + (bsL (byM x.t[j])).size) := by
                  rw [bsL_size, bsL_size, List.length_append]; omega
                have hbo := fun W => byteof_ref x.t[j] W
                have HB0 := Lib.hid hbo; have HX := Lib.hid hnx
                clear hbo hnx htl hbl
                generalize bsL (L ++ encT (x.t.data.toList.take j)) = S at *
                generalize hU : bsL (byM x.t[j]) = U at *
                clear hU
                go_wp2_with fail
                refine (HB0.out _).mono ?_; rintro e w4 ⟨rfl, hb4⟩
                go_wp2_with fail
                go_roundw
                case rel => exact ⟨j + 1, hjl, by go_num, by rw [← HX.out], V3.call hb4, BelowOn hB3 hb4⟩
                case measure => simp [intOf]; omega
              · have hj' : x.t.data.toList.take j = x.t.data.toList := List.take_of_length_le (by simp; omega)
                rw [hj', HF.out]
                go_wp2_with fail
                go_roundw
                case rel => exact ⟨k + 1, hlt, by go_num, by rw [HN.out], fun j hj hjk => HN3.out j hj hjk, hB3⟩
                case measure => simp [intOf]; omega
          · have q5 : (x.k == 5) = true := by rw [h5]; rfl
            have q1 : (x.k == 1) = false := by rw [h5]; rfl
            have q2 : (x.k == 2) = false := by rw [h5]; rfl
            have q3 : (x.k == 3) = false := by rw [h5]; rfl
            have q4 : (x.k == 4) = false := by rw [h5]; rfl
            have hfin := bs_5 L h5
            have HF := Lib.hid hfin
            have s1 : (⟨#[123]⟩ : ByteArray).size = 1 := rfl
            have s2 : (⟨#[125]⟩ : ByteArray).size = 1 := rfl
            have z0 : (bsL L).size = L.length := bsL_size L
            have z1 : ¬ (9223372036854775807 < 1 + x.t.size) := by omega
            have z2 : ¬ (9223372036854775807 < (⟨#[123]⟩ ++ x.t : ByteArray).size + 1) := by
              rw [ByteArray.size_append, s1]; omega
            have z3 : ¬ (9223372036854775807 < (bsL L).size + ((⟨#[123]⟩ ++ x.t ++ ⟨#[125]⟩ : ByteArray)).size) := by
              rw [ByteArray.size_append, ByteArray.size_append, s1, s2]; omega
            clear hfin h5 s1 s2 z0
            generalize bsL L = S at *
            go_wp2_with fail
            refine (HT.out _).mono ?_; rintro e w2 ⟨rfl, hb2⟩
            have V2 := V.call hb2
            have hB2 := BelowOn hB1 hb2
            clear V v0 v1 v2 vl
            obtain ⟨v0, v1, v2, vl⟩ := id V2
            go_wp2_with fail
            go_roundw
            case rel => exact ⟨k + 1, hlt, by go_num, by rw [HN.out, ← HF.out], fun j hj hjk => HN3.out j hj hjk, hB2⟩
            case measure => simp [intOf]; omega
      · obtain rfl : k = f.length := by omega
        have he := HOK.out (HNT.out (fun j hj => hNO.out j hj hj))
        have HE := Lib.hid he
        clear he
        rw [List.take_length]
        go_wp2_with fail
        go_ret2
        exact ⟨by rw [HE.out]; rfl, hB⟩
  · rw [encE_bad h]
    have q : (valE f == 0) = false := by simpa using h
    have HV := Lib.hid hv
    clear hv h
    generalize valE f = E at *
    go_enter Tryd.func85, Tryd.ntmps85
    go_wp2_with fail
    refine (HV.out _ hR).mono ?_; rintro e w1 ⟨rfl, hb⟩
    go_wp2_with fail
    go_ret2
    exact ⟨rfl, hb⟩
end Go.Proofs.YtphkpokoeaagfaaDoor
namespace Go.Proofs.YtphkpokoeaagfaaDoor
open Go.ChangeShapes Go.WideShapes Go.ChangeAt Go.RowKit
set_option linter.unusedVariables false
theorem Its.past {W w1 : World} {p : Option Addr} {l : List It} {row : Option Nat} (h : Its W p l) (hg : W.grownBy w1 row) (hn : ∀ a, p = some a → row ≠ some a.block) : Its w1 p l := fun h0 => by
  obtain ⟨a, ha, hlt, _⟩ := h h0
  refine (h.keep hg.size (fun b hb => ?_)) h0
  refine hg.block _ ?_ (fun e => hn b hb e.symm)
  rw [ha] at hb; injection hb with hb; subst hb; exact hlt
end Go.Proofs.YtphkpokoeaagfaaDoor
namespace Go.Proofs.YtphkpokoeaagfaaDoor
open Go.ChangeShapes Go.WideShapes Go.ChangeAt Go.RowKit
set_option linter.unusedVariables false
set_option linter.unusedSimpArgs false
set_option maxRecDepth 100000

/-- What longer makes of an item's bytes. -/
def LngR (y : It) (T t : List UInt8) : Prop := t = T ∨ (y.k = 1 ∧ y.t = ⟨#[62]⟩ ∧ t = [38, 103, 116, 59]) ∨ (y.k = 1 ∧ y.t = ⟨#[125]⟩ ∧ t = [38, 114, 98, 59])
def EndL (b : Nat) (p : Option Addr) (cap : Nat) (L : List Int) (m : Nat) (P : List UInt8 → Prop) (w : World) (e : Ending) (w' : World) : Prop := ∃ t m', e = .returned (.string (bsL t)) ∧ P t ∧ m' ≤ m + 1 ∧ w.grownBy w' (some b) ∧ NumsAt w' b p cap L m'
set_option maxHeartbeats 3200000 in
theorem longer_any (b : Nat) (p : Option Addr) (cap : Nat) (L : List Int) (m : Nat) (y : It) (T : List UInt8) (w : World) (h : NumsAt w b p cap L m) (hm : m ≤ 900000) (hT : T.length ≤ 100000) :
    Calls Tryd.prog 86 #[.pointer (some ⟨b, 0, none⟩), .int .i64 1, .agg #[.int .i64 y.k, .string y.t, .int .i64 y.id], .string (bsL T)] w (EndL b p cap L m (LngR y T) w) := by
  obtain ⟨yk, yt, yi⟩ := y
  obtain ⟨v0, v1, v2, v3⟩ := Var3.new w yk yt yi
  have hal := h.call (blw (Below.refl _ _) (.cells #[.int .i64 yk, .string yt, .int .i64 yi] 40))
  have hca := chg_below (b := b) (blw (Below.refl w.heap.size w) (.cells #[.int .i64 yk, .string yt, .int .i64 yi] 40))
  have hd : True := trivial
  dsimp only
  generalize hB : bsL T = B
  have HB := Lib.hid hB
  clear hB
  by_cases h62 : yt = ⟨#[62]⟩
  · have s1 : (yt.toList == [62]) = true := by rw [Go.ByteArray.toList_eq, h62]; rfl
    have s2 : (yt.toList == [125]) = false := lst_ne [125] (by rw [h62]; decide)
    by_cases hk : yk = 1
    · have q1 : (yk == 1) = true := by rw [hk]; rfl
      have HR := Lib.hid (show LngR ⟨yk, yt, yi⟩ T [38, 103, 116, 59] from .inr (.inl ⟨hk, h62, rfl⟩))
      clear hd hk; try clear h62
      try clear h125
      go_enter Tryd.func86, Tryd.ntmps86
      go_wp2_with fail
      (try simp only [Exit.inBlock, Exit.then])
      go_ret
      exact ⟨[38, 103, 116, 59], m, rfl, HR.out, by omega, hca, hal⟩
    · have q1 : (yk == 1) = false := by simpa using hk
      have HR := Lib.hid (show LngR ⟨yk, yt, yi⟩ T T from .inl rfl)
      clear hd hk; try clear h62
      try clear h125
      go_enter Tryd.func86, Tryd.ntmps86
      go_wp2_with fail
      (try simp only [Exit.inBlock, Exit.then])
      go_ret
      exact ⟨T, m, by rw [HB.out]; rfl, HR.out, by omega, hca, hal⟩
  have s1 := lst_ne [62] h62
  by_cases h125 : yt = ⟨#[125]⟩
  · have s2 : (yt.toList == [125]) = true := by rw [Go.ByteArray.toList_eq, h125]; rfl
    by_cases hk : yk = 1
    · have q1 : (yk == 1) = true := by rw [hk]; rfl
      have HR := Lib.hid (show LngR ⟨yk, yt, yi⟩ T [38, 114, 98, 59] from .inr (.inr ⟨hk, h125, rfl⟩))
      clear hd hk; try clear h62
      try clear h125
      go_enter Tryd.func86, Tryd.ntmps86
      go_wp2_with fail
      (try simp only [Exit.inBlock, Exit.then])
      go_ret
      exact ⟨[38, 114, 98, 59], m, rfl, HR.out, by omega, hca, hal⟩
    · have q1 : (yk == 1) = false := by simpa using hk
      have HR := Lib.hid (show LngR ⟨yk, yt, yi⟩ T T from .inl rfl)
      clear hd hk; try clear h62
      try clear h125
      go_enter Tryd.func86, Tryd.ntmps86
      go_wp2_with fail
      (try simp only [Exit.inBlock, Exit.then])
      go_ret
      exact ⟨T, m, by rw [HB.out]; rfl, HR.out, by omega, hca, hal⟩
  have s2 := lst_ne [125] h125
  have HR := Lib.hid (show LngR ⟨yk, yt, yi⟩ T T from .inl rfl)
  clear hd h62 h125
  go_enter Tryd.func86, Tryd.ntmps86
  go_wp2_with fail
  (try simp only [Exit.inBlock, Exit.then])
  go_ret
  exact ⟨T, m, by rw [HB.out]; rfl, HR.out, by omega, hca, hal⟩
theorem lng_pie {y x : It} {t : List UInt8} (hx : expX y = [x]) (h : LngR y (e1M x) t) : PieM x t := by
  have key : y.k = 1 → x.k = 1 ∧ x.t = y.t := fun hk => by
    rw [expX_text hk] at hx
    obtain ⟨c, hc⟩ : ∃ c, y.t.data.toList = [c] := by
      have := congrArg List.length hx
      rw [List.length_map] at this
      exact List.length_eq_one_iff.1 this
    rw [hc] at hx
    injection hx with hx
    subst hx
    refine ⟨rfl, ?_⟩
    have := bsL_of y.t
    rw [hc] at this
    rw [← this]; rfl
  rcases h with h | ⟨h1, h2, h3⟩ | ⟨h1, h2, h3⟩
  · exact .inl h
  · exact .inr (.inl ⟨(key h1).1, by rw [(key h1).2]; exact h2, h3⟩)
  · exact .inr (.inr ⟨(key h1).1, by rw [(key h1).2]; exact h2, h3⟩)
theorem one_size {x : It} (h : One x) : x.t.size ≤ 1024 := by
  rcases h with ⟨h1, h2, h3⟩ | ⟨h1, h2⟩
  · omega
  · exact etxt_small h2 (by unfold wid; split <;> omega)
/-- The slice of one position, and what it is written as. -/
theorem one_slice {F : List It} (hv : valE F = 0) (ht : noBlk F) (i : Nat) (hi : i < lenI F) : ∃ x : It, (expI F).take (i + 1) = (expI F).take i ++ [x] ∧ expI (slI F 0 i (i + 1)) = [x] ∧ valE (slI F 0 i (i + 1)) = 0 ∧ encE (slI F 0 i (i + 1)) = (bsL (e1M x), 0) ∧ x.t.size ≤ 1024 := by
  have hl := expI_len F
  have hi' : i < (expI F).length := by omega
  refine ⟨(expI F)[i], ?_, ?_, sl_valid hv i (i + 1), ?_, ?_⟩
  · rw [List.take_add_one, List.getElem?_eq_getElem hi']; rfl
  · rw [exp_cut F i (i + 1) (by omega) (by omega), Nat.add_sub_cancel_left, List.drop_eq_getElem_cons hi']; rfl
  · have h1 : anyB (tagsL (slI F 0 i (i + 1))) = false := any_tags (fun y hy ht2 => by
      exact ht y (sl_tags F 0 i (i + 1) y hy ht2) ht2)
    rw [encE_ok (sl_valid hv i (i + 1)) h1, ← encM_exp]
    unfold encM
    rw [exp_cut F i (i + 1) (by omega) (by omega), Nat.add_sub_cancel_left, List.drop_eq_getElem_cons hi']
    simp only [List.take_succ_cons, List.take_zero, List.flatMap_cons, List.flatMap_nil, List.append_nil]
  · exact one_size (exp_ok (valE_zero hv).2.2 (expI F)[i] (List.getElem_mem _))

def EndRw (F : List It) (b : Nat) (p : Option Addr) (cap : Nat) (L : List Int) (m : Nat) (w : World) (e : Ending) (w' : World) : Prop := ∃ (raw : List UInt8) (m' : Nat), e = .returned (.string (bsL raw)) ∧ RawsM (expI F) raw ∧ raw.length ≤ 6010 * lenI F ∧ m' ≤ m + 2 * lenI F ∧ w.grownBy w' (some b) ∧ NumsAt w' b p cap L m'
set_option maxHeartbeats 6400000 in
theorem mkraws_any (b : Nat) (p : Option Addr) (cap : Nat) (L : List Int) (m : Nat) (pf : Option Addr) (cf : Nat) (F : List It) (w : World) (h : NumsAt w b p cap L m) (hm : m ≤ 800000) (hF : Its w pf F) (hsep : 0 < F.length → ∀ a, pf = some a → some b ≠ some a.block) (hc : F.length ≤ cf) (hcm : cf ≤ maxLen) (hv : valE F = 0) (ht : noBlk F) (htx : txtI F ≤ 140737488355328) :
    Calls Tryd.prog 43 #[.pointer (some ⟨b, 0, none⟩), .int .i64 1, .slice pf F.length cf] w (EndRw F b p cap L m w) := by
  obtain ⟨h1, h2, h3⟩ := valE_zero hv
  have hO := oks_valid h3 htx
  have hlen := fun W i => rlength_any pf cf F W i hc hcm (by omega)
  have hsl := fun k (hk : k < lenI F) W i => rslice_yes pf cf F k (k + 1) W i hO hc hcm (by omega) (by omega) (by omega) (by omega)
  have hone := fun k hk => one_slice hv ht k hk
  have henc := fun k (hk : k < lenI F) q c W (i : Its W q (slI F 0 k (k + 1))) (a : (slI F 0 k (k + 1)).length ≤ c) (b : c ≤ maxLen) => refencode_any q c (slI F 0 k (k + 1)) W i (oks_valid (valE_zero (sl_valid hv k (k + 1))).2.2 (by have := txt_sl F 0 k (k + 1); omega)) a b
  have hnx := fun m (hm : m ≤ 900000) W h => next_any b p cap L m 3 3 rfl W h (by omega) (by omega) (by omega)
  have hlg := fun m (hm : m ≤ 900000) y T (hT : T.length ≤ 100000) W h => longer_any b p cap L m y T W h hm hT
  have hpe : ∀ x : It, x.t.size ≤ 1024 → ∀ t, PieM x t → t.length ≤ 6010 := fun x hx t ht => pie_lenM hx ht
  have HL := Lib.hid hlen; have HS := Lib.hid hsl; have HO := Lib.hid hone; have HE := Lib.hid henc; have HN := Lib.hid hnx; have HG := Lib.hid hlg; have HP := Lib.hid hsep; have HPE := Lib.hid hpe
  have HX := Lib.hid (expI_len F)
  clear hlen hsl hone henc hnx hlg hsep hpe hO h3 htx hv ht h1
  go_enter Tryd.func43, Tryd.ntmps43
  go_wp2_with fail
  go_loopw [7, 8] (fun v i wr => ∃ (k m' : Nat) (rl : List UInt8), k ≤ lenI F ∧ i = .int .i64 k ∧ v = .string (bsL rl) ∧ Hid (RawsM ((expI F).take k) rl) ∧ rl.length ≤ 6010 * k ∧ m' ≤ m + 2 * k ∧ w.grownBy wr (some b) ∧ NumsAt wr b p cap L m') (fun _ i _ => lenI F - (intOf i).toNat)
  case atStart => exact ⟨0, m, [], Nat.zero_le _, rfl, rfl, Lib.hid RawsM.nil, Nat.zero_le _, Nat.le_refl _, chg_below (Below.refl _ _), h⟩
  case round =>
    obtain ⟨k, m', rl, hk, rfl, rfl, HR, hrl, hm', hgr, hN⟩ := hrel
    have hFr : Its wr pf F := fun h0 => hF.past hgr (HP.out h0) h0
    by_cases hlt : k < lenI F
    · obtain ⟨x, htk, hex, hve, hen, hxs⟩ := HO.out k hlt
      have hS := fun W i => HS.out k hlt W i
      have hE := fun q c W i a b => HE.out k hlt q c W i a b
      rw [hen] at hE
      dsimp only at hE
      have HEX := Lib.hid hex; have HTK := Lib.hid htk
      have el : (e1M x).length ≤ 6000 := e1M_len hxs
      clear hex htk hen hve
      generalize slI F 0 k (k + 1) = X at *
      have hpx := HPE.out x hxs
      have SS := Lib.hid hS; have EE := Lib.hid hE; have PX := Lib.hid hpx
      clear hS hE hpx
      have n1 := fun W h => HN.out m' (by omega) W h
      have g1 := fun y W h => HG.out (m' + 1) (by omega) y (e1M x) (by omega) W h
      have N1 := Lib.hid n1; have G1 := Lib.hid g1; clear n1 g1
      go_wp2_with fail
      refine (HL.out _ hFr).mono ?_; rintro e w1 ⟨rfl, rfl⟩
      go_wp2_with fail
      refine (SS.out _ hFr).mono ?_; rintro e w2 ⟨v, rfl, hA⟩
      obtain ⟨px, cx, rfl, ha, hb, hi⟩ := hA.own.its
      have hadr := OwnL.addr hA.own
      have hsx : ∀ a, px = some a → some b ≠ some a.block := fun a ha e => by
        have h1 := (hadr a ha).1
        have h2 := hN.lt
        injection e with e
        omega
      have HSX := Lib.hid hsx
      clear hsx hadr
      have hN2 := hN.call hA.below
      have hgr2 := chg_trans hgr (chg_below (b := b) hA.below)
      clear hA
      go_wp2_with fail
      refine (EE.out _ _ _ hi ha hb).mono ?_; rintro e w3 ⟨rfl, hb3⟩
      have hN3 := hN2.call hb3
      have hgr3 := chg_trans hgr2 (chg_below (b := b) hb3)
      have hi3 := hi.call hb3
      clear hi hN2 hgr2 hb3 hFr
      have sz : (bsL rl).size + (bsL (e1M x)).size ≤ 100000000 := by rw [bsL_size, bsL_size]; omega
      have sz1 : ¬ (9223372036854775807 < (bsL rl).size + (bsL (e1M x)).size) := by omega
      have hcat : bsL rl ++ bsL (e1M x) = bsL (rl ++ e1M x) := by rw [bsL_append]
      have hfin : ∀ t m2 (W : World), PieM x t → m2 ≤ m' + 2 → w.grownBy W (some b) → NumsAt W b p cap L m2 → ∃ (k1 m1 : Nat) (rl1 : List UInt8), k1 ≤ lenI F ∧ Value.int .i64 ((k : Int) + 1) = .int .i64 k1 ∧ Value.string (bsL (rl ++ t)) = .string (bsL rl1) ∧ Hid (RawsM ((expI F).take k1) rl1) ∧ rl1.length ≤ 6010 * k1 ∧ m1 ≤ m + 2 * k1 ∧ w.grownBy W (some b) ∧ NumsAt W b p cap L m1 := fun t m2 W ht h1 h2 h3 =>
        ⟨k + 1, m2, rl ++ t, hlt, by go_num, rfl, Lib.hid (by rw [HTK.out]; exact HR.out.snoc ht), by rw [List.length_append]; have := PX.out t ht; omega, by omega, h2, h3⟩
      have HFIN := Lib.hid hfin; have HCAT := Lib.hid hcat
      clear hfin hcat
      by_cases hx1 : X.length = 1
      · have q1 : ((X.length : Int) == 1) = true := by rw [hx1]; rfl
        obtain ⟨y, hX⟩ : ∃ y, X = [y] := List.length_eq_one_iff.1 hx1
        have hy : expX y = [x] := by have := HEX.out; rw [hX] at this; unfold expI at this; simpa using this
        have hN0 := N1.out
        have hxy : X[0]'(by omega) = y := by subst hX; rfl
        have hrw : ∀ W, Its W px X → _ := fun W i => i.row 0 (by omega)
        rw [hxy] at hrw
        have HRW := Lib.hid hrw
        have hHY := Lib.hid hy; have g1 := G1.out y
        have GY := Lib.hid g1
        have i0 : (0 : Int) < (X.length : Int) := by omega
        clear hX hxy hy hN0 hrw g1
        have hr := nx_lt L m' 3 (by omega)
        generalize nx L m' 3 = r at *
        go_wp2_with fail
        refine (N1.out _ hN3).mono ?_; rintro e w4 ⟨rfl, hg4, hN4⟩
        by_cases hr0 : r = 0
        · have q2 : ((r : Int) == 0) = true := by rw [hr0]; rfl
          have hgr4 := chg_trans hgr3 hg4
          obtain ⟨ad, rfl, had, c0, c1, c2⟩ := HRW.out _ (hi3.past hg4 HSX.out)
          have k0 : w4.cell? ad = some (.int .i64 y.k) := by simpa [Addr.add] using c0
          have k1 : w4.cell? ⟨ad.block, ad.off + 1, none⟩ = some (.string y.t) := by simpa [Addr.add] using c1
          have k2 : w4.cell? ⟨ad.block, ad.off + 2, none⟩ = some (.int .i64 y.id) := by simpa [Addr.add] using c2
          go_wp2_with fail
          refine (GY.out _ hN4).mono ?_; rintro e w5 ⟨t, m2, rfl, hL, hm2, hg5, hN5⟩
          have hpt := lng_pie hHY.out hL
          have htl := PX.out t hpt
          have hgr5 := chg_trans hgr4 hg5
          have szt : (bsL rl).size + (bsL t).size ≤ 100000000 := by rw [bsL_size, bsL_size]; omega
          have sz2 : ¬ (9223372036854775807 < (bsL rl).size + (bsL t).size) := by omega
          have HCT := Lib.hid (show bsL rl ++ bsL t = bsL (rl ++ t) by rw [bsL_append])
          have HPT := Lib.hid hpt
          clear hL hpt szt hg5
          go_wp2_with fail
          go_roundw
          case rel => rw [HCT.out]; exact HFIN.out _ m2 w5 HPT.out (by omega) hgr5 hN5
          case measure => simp [intOf]; omega
        · have q2 : ((r : Int) == 0) = false := by rw [beq_eq_false_iff_ne]; omega
          have hgr4 := chg_trans hgr3 hg4
          go_wp2_with fail
          go_roundw
          case rel => rw [HCAT.out]; exact HFIN.out _ (m' + 1) w4 (.inl rfl) (by omega) hgr4 hN4
          case measure => simp [intOf]; omega
      · have q1 : ((X.length : Int) == 1) = false := by rw [beq_eq_false_iff_ne]; omega
        go_wp2_with fail
        go_roundw
        case rel => rw [HCAT.out]; exact HFIN.out _ m' w3 (.inl rfl) (by omega) hgr3 hN3
        case measure => simp [intOf]; omega
    · obtain rfl : k = lenI F := by omega
      have hR := HR.out
      rw [List.take_of_length_le (by rw [HX.out]; exact Nat.le_refl _)] at hR
      have HRR := Lib.hid hR
      clear hR HR
      go_wp2_with fail
      refine (HL.out _ hFr).mono ?_; rintro e w1 ⟨rfl, rfl⟩
      go_wp2_with fail
      go_ret
      exact ⟨rl, m', rfl, HRR.out, hrl, hm', hgr, hN⟩
/-- What raws answers. -/
def EndRaw (F : List It) (w : World) (e : Ending) (w' : World) : Prop := ∃ (raw : List UInt8) (p : Option Addr) (c : Nat), e = .returned (.tuple #[.string (bsL raw), .slice p F.length c]) ∧ RawsM (expI F) raw ∧ raw.length ≤ 6010 * lenI F ∧ F.length ≤ c ∧ c ≤ maxLen ∧ Its w' p F ∧ Below w.heap.size w w'
set_option maxHeartbeats 1600000 in
theorem raws_any (p0 : Option Addr) (c0 : Nat) (L0 : List Int) (p1 : Option Addr) (c1 : Nat) (L1 : List Int) (w : World) (r0 : Ones w (Value.int .i64) p0 L0) (o0 : ∀ i (h : i < L0.length), (Lit.int .i64 (L0[i]'h)).wf = true) (n0 : L0.length ≤ c0) (m0 : c0 ≤ maxLen)
    (r1 : Ones w (Value.int .i64) p1 L1) (o1 : ∀ i (h : i < L1.length), (Lit.int .i64 (L1[i]'h)).wf = true) (n1 : L1.length ≤ c1) (m1 : c1 ≤ maxLen) :
    Calls Tryd.prog 20 #[.slice p0 L0.length c0, .slice p1 L1.length c1] w (EndRaw (mk L0 true true) w) := by
  have hmd := rmade_any p0 c0 L0 w r0 o0 n0 m0
  unfold EndF at hmd
  have hok := mk_ok L0 true true
  have g1 := hok.len; have g2 := hok.txt
  have hv := hok.valid (by decide)
  have ht := (mk_made L0).nb
  generalize mk L0 true true = F at *
  have hN := fun W (h : Ones W (Value.int .i64) p1 L1) => NumsAt.made (w := W) h o1 n1 m1
  have hmr := fun b pf cf W h i s hc hcm => mkraws_any b p1 c1 L1 0 pf cf F W h (by omega) i s hc hcm hv ht (by omega)
  have HN := Lib.hid hN; have HM := Lib.hid hmr
  clear hN hmr hok hv ht o0 o1
  go_enter Tryd.func20, Tryd.ntmps20
  go_wp2_with fail
  refine hmd.mono ?_; rintro e w2 ⟨p2, c2, rfl, a2, b2, i2, hb⟩
  have r1 := r1.call hb
  go_wp2_with fail
  have hi3 := i2.call (blw (Below.refl _ w2) (.cells #[.slice p1 L1.length c1, .int .i64 0] 52))
  refine (HM.out w2.heap.size p2 c2 _ (HN.out w2 r1) hi3 (fun h0 a ha e => ?_) a2 b2).mono ?_
  · obtain ⟨a', h1, h2, _⟩ := i2 h0
    rw [ha] at h1; injection h1 with h1; injection e with e; rw [h1] at e; omega
  · rintro e w3 ⟨raw, m', rfl, hraw, hlen, hm', hg, hN3⟩
    have hb3 : Below w2.heap.size w2 w3 := (blw (Below.refl w2.heap.size w2) _).trans (grown_below hg (Nat.le_refl _) (by simp))
    have i3 := i2.call hb3
    have hb4 := BelowOn hb hb3
    have HRAW := Lib.hid hraw
    clear hraw hN3 hg hb3 hi3 i2 hmd
    go_wp2_with fail
    go_ret2
    exact ⟨raw, p2, c2, rfl, HRAW.out, hlen, a2, b2, i3, hb4⟩
end Go.Proofs.YtphkpokoeaagfaaDoor
namespace Go.Proofs.YtphkpokoeaagfaaDoor
open Go.ChangeShapes Go.WideShapes Go.ChangeAt Go.RowKit
set_option linter.unusedVariables false
set_option linter.unusedSimpArgs false
set_option maxRecDepth 100000

/-- A written fragment with bytes behind it. -/
theorem dec_behind {f : List It} (h : valE f = 0) (hm : MadeOk f) (t : List UInt8) : ∃ E S n, decN [] [] [] 0 0 (encM f ++ t) = decN E S [] n (encM f).length t ∧ (norm E).length = f.length ∧ S.length = lenI f := by
  obtain ⟨h1, h2, h3⟩ := valE_zero h
  obtain ⟨n, hr⟩ := hm.run
  have hd := dec_wordsM (wsE f) t [] [] [] 0 0 (expI f) [] n (wsE_all h3 hm.nb) (by rw [wsE_it]; exact hr) (by rw [List.nil_append, norm_exp, norm_valid f h3]; exact h1) (by rw [wsE_len]; simpa using h2)
  rw [wsE_flat, List.nil_append, List.nil_append, Nat.zero_add] at hd
  refine ⟨expI f, sts 0 (wsE f), n, hd, by rw [norm_exp, norm_valid f h3], ?_⟩
  have := congrArg List.length (sts_offs (wsE f) 0)
  rw [List.length_append] at this
  have h4 : (offs 0 (wsE f)).length = (wsE f).length + 1 := by
    have : ∀ (ws : Ws) p, (offs p ws).length = ws.length + 1 := by
      intro ws
      induction ws with
      | nil => intro p; rfl
      | cons w ws ih => intro p; show (offs (p + w.1.length) ws).length + 1 = _; rw [ih]; rfl
    exact this _ _
  rw [h4] at this
  simp only [List.length_cons, List.length_nil] at this
  rw [← wsE_len]; omega
theorem norm_more (E : List It) (y : It) : (norm (E ++ [y])).length ≤ (norm E).length + 1 := by rw [norm_snoc]; exact normS_len _ _
theorem numM_no (op : List It) (z : It) (n : Nat) (tx : ByteArray) (h : nameB z.t ≠ tx) : numM (op ++ [z]) n ⟨3, tx, 0⟩ = none := by
  unfold numM
  rw [if_neg (show ¬ (3 : Int) = 2 by decide), if_neg (show ¬ (3 : Int) = 4 by decide), if_pos rfl, List.getLast?_concat]
  dsimp only
  rw [if_neg h]
def tlN : Nat → List UInt8
  | 0 => [60, 47, 98, 62]
  | 1 => [60, 98, 62, 60, 47, 105, 62]
  | 2 => [60, 98, 62]
  | 3 => [60, 105, 62, 60, 98, 62, 60, 47, 105, 62, 60, 47, 98, 62]
  | _ => [60, 98, 47, 62, 60, 47, 98, 62]
def atN : Nat → Nat
  | 0 => 0
  | 1 => 3
  | 2 => 3
  | 3 => 6
  | _ => 4
theorem dec_tail (j : Nat) (E : List It) (S : List Nat) (n p : Nat) (h1 : (norm E).length ≤ 100) (h2 : S.length ≤ 900) : decN E S [] n p (tlN j) = ([], [], p + atN j, 7) := by
  have e0 : elM [60, 47, 98, 62] = some (⟨3, ⟨#[98]⟩, 0⟩, 4) := by kernel_rfl
  have step : ∀ (x : It) (k : Nat) (s : List UInt8) (y : It) (op' : List It) (n' : Nat), elM s = some (x, k) → numM [] n x = some (y, op', n') → decN E S [] n p s = decN (E ++ [y]) (S ++ [p]) op' n' (p + k) (s.drop k) := fun x k s y op' n' he hn =>
    decN_more E S [] n p s he hn (by have := norm_more E y; omega) (by omega)
  match j with
  | 0 => exact decN_tag E S [] n p _ e0 rfl
  | 1 =>
    rw [show tlN 1 = [60, 98, 62, 60, 47, 105, 62] from rfl, step ⟨2, ⟨#[98]⟩, 0⟩ 3 _ _ _ _ (by kernel_rfl) rfl]
    exact decN_tag _ _ _ _ _ _ (x := ⟨3, ⟨#[105]⟩, 0⟩) (k := 4) (by kernel_rfl) (numM_no [] _ _ _ (show nameB ⟨#[98]⟩ ≠ ⟨#[105]⟩ by decide +kernel))
  | 2 =>
    rw [show tlN 2 = [60, 98, 62] from rfl, step ⟨2, ⟨#[98]⟩, 0⟩ 3 _ _ _ _ (by kernel_rfl) rfl]
    show decN _ _ _ _ _ [] = _
    rw [decN_nil, if_neg (by simp)]
    rfl
  | 3 =>
    rw [show tlN 3 = [60, 105, 62, 60, 98, 62, 60, 47, 105, 62, 60, 47, 98, 62] from rfl, step ⟨2, ⟨#[105]⟩, 0⟩ 3 _ _ _ _ (by kernel_rfl) rfl]
    rw [decN_more _ _ _ _ _ _ (x := ⟨2, ⟨#[98]⟩, 0⟩) (k := 3) (by kernel_rfl) rfl (by
      refine Nat.le_trans (norm_more _ _) ?_
      refine Nat.le_trans (Nat.add_le_add_right (norm_more _ _) 1) ?_
      omega) (by rw [List.length_append]; simp; omega)]
    exact decN_tag _ _ _ _ _ _ (x := ⟨3, ⟨#[105]⟩, 0⟩) (k := 4) (by kernel_rfl) (numM_no _ _ _ _ (show nameB ⟨#[98]⟩ ≠ ⟨#[105]⟩ by decide +kernel))
  | j + 4 =>
    rw [show tlN (j + 4) = [60, 98, 47, 62, 60, 47, 98, 62] from rfl, step ⟨4, ⟨#[98]⟩, 0⟩ 4 _ _ _ _ (by kernel_rfl) rfl]
    exact decN_tag _ _ _ _ _ _ (x := ⟨3, ⟨#[98]⟩, 0⟩) (k := 4) e0 rfl
theorem dec_nest (j : Nat) (L : List Int) : dcM (encM (mk L true true) ++ tlN j) = ([], [], (encM (mk L true true)).length + atN j, 7) := by
  obtain ⟨E, S, n, h1, h2, h3⟩ := dec_behind (mk_valid L) (mk_made L) (tlN j)
  have hk := mk_ok L true true
  have := hk.len; have := hk.lenI
  show decN [] [] [] 0 0 _ = _
  rw [h1]
  exact dec_tail j E S n _ (by omega) (by omega)
end Go.Proofs.YtphkpokoeaagfaaDoor
namespace Go.Proofs.YtphkpokoeaagfaaDoor
open Go.ChangeShapes Go.WideShapes Go.ChangeAt Go.RowKit
set_option linter.unusedVariables false
set_option linter.unusedSimpArgs false
set_option maxRecDepth 100000

theorem con_lt {s : ByteArray} (h : isCon s = true) {c : UInt8} (hc : c ∈ s.data.toList) : c ≠ 60 := by
  have := con_mem h hc
  unfold conB at this; simp at this
  refine u8_ne ?_
  show _ ≠ (60 : Int); omega
theorem nm_lt {s : ByteArray} (h : isNm s = true) {c : UInt8} (hc : c ∈ s.data.toList) : c ≠ 60 := by
  have := nm_mem h hc
  unfold nmB at this; simp at this
  refine u8_ne ?_
  show _ ≠ (60 : Int); omega
/-- Only the first byte of a word opens a tag. -/
theorem word_lt {y : It} (h : One y) : ∀ c ∈ (e1M y).drop 1, c ≠ 60 := by
  rcases h with ⟨h1, h2, h3⟩ | ⟨h1, hp⟩
  · obtain ⟨b, rfl⟩ := one_bT (.inl ⟨h1, h2, h3⟩) h1
    have e : e1M (bT b) = byM b := by show [b].flatMap byM = _; simp
    rw [e]
    intro c hc
    unfold byM at hc
    split at hc
    · simp at hc; rcases hc with rfl | rfl | rfl <;> decide
    · split at hc
      · simp at hc; rcases hc with rfl | rfl | rfl | rfl <;> decide
      · split at hc
        · simp at hc; rcases hc with rfl | rfl | rfl <;> decide
        · simp at hc
  · rcases proper_kinds hp with hk | hk | hk
    · exact absurd hk h1
    · obtain ⟨_, _, p3, p2⟩ := isT_proper hk hp
      have hk' : y.k = 2 ∨ y.k = 3 ∨ y.k = 4 := by unfold isT at hk; simpa using hk
      rcases hk' with hk | hk | hk
      · have hc := p2 (.inl hk)
        intro c hcm
        have ew : e1M y = 60 :: (y.t.data.toList ++ [62]) := by unfold e1M; rw [if_neg h1, if_pos hk]
        rw [ew] at hcm
        rcases List.mem_append.1 (show c ∈ y.t.data.toList ++ [62] from hcm) with hcm | hcm
        · exact con_lt hc hcm
        · rw [List.mem_singleton.1 hcm]; decide
      · have hc := p3 hk
        intro c hcm
        have ew : e1M y = 60 :: (47 :: y.t.data.toList ++ [62]) := by unfold e1M; rw [if_neg h1, if_neg (by omega), if_pos hk]
        rw [ew] at hcm
        rcases List.mem_append.1 (show c ∈ 47 :: y.t.data.toList ++ [62] from hcm) with hcm | hcm
        · rcases List.mem_cons.1 hcm with rfl | hcm
          · decide
          · exact nm_lt hc hcm
        · rw [List.mem_singleton.1 hcm]; decide
      · have hc := p2 (.inr hk)
        intro c hcm
        have ew : e1M y = 60 :: ((y.t.data.toList ++ [47]) ++ [62]) := by unfold e1M; rw [if_neg h1, if_neg (by omega), if_neg (by omega), if_pos hk]
        rw [ew] at hcm
        rcases List.mem_append.1 (show c ∈ (y.t.data.toList ++ [47]) ++ [62] from hcm) with hcm | hcm
        · rcases List.mem_append.1 hcm with hcm | hcm
          · exact con_lt hc hcm
          · rw [List.mem_singleton.1 hcm]; decide
        · rw [List.mem_singleton.1 hcm]; decide
    · rw [slot_proper hk] at hp
      simp only [Bool.and_eq_true, decide_eq_true_eq] at hp
      have ew : e1M y = 123 :: (y.t.data.toList ++ [125]) := by unfold e1M; rw [if_neg h1, if_neg (by omega), if_neg (by omega), if_neg (by omega)]
      intro c hcm
      rw [ew] at hcm
      rcases List.mem_append.1 (show c ∈ y.t.data.toList ++ [125] from hcm) with hcm | hcm
      · exact nm_lt hp.1 hcm
      · rw [List.mem_singleton.1 hcm]; decide
/-- The names of blocks. -/
structure BN (nm : ByteArray) : Prop where
  ne : ∀ c ∈ nm.data.toList, c ≠ 62
  blk : blkN (nameB nm) = true
  con : isCon nm = true
  nam : nameB nm = nm
  pos : nm ≠ .empty
  hd : nm.data.toList.head? ≠ some 33
  few : nm.size ≤ 5
/-- No element begins with a closing tag of a block. -/
theorem el_close {nm : ByteArray} (h : BN nm) (r : List UInt8) : elM ((clB nm).data.toList ++ r) = none := by
  have hc : (clB nm).data.toList ++ r = 60 :: ((47 :: nm.data.toList) ++ 62 :: r) := by unfold clB; simp
  rw [hc, elM_60]
  unfold inlT
  cases hr : rdT ((47 :: nm.data.toList) ++ 62 :: r) with
  | none => rfl
  | some y =>
    unfold rdT at hr
    rw [upto_app 62 (47 :: nm.data.toList) r (fun c hcm => by
      rcases List.mem_cons.1 hcm with rfl | hcm
      · decide
      · exact h.ne c hcm)] at hr
    split at hr
    · injection hr with hr
      subst hr
      dsimp only
      rw [show tgM (47 :: nm.data.toList) = ⟨3, nm, 0⟩ from tg_close nm]
      have : blk ⟨3, nm, 0⟩ = true := h.blk
      rw [if_pos this]
    · cases hr
theorem el_open {nm : ByteArray} (h : BN nm) (r : List UInt8) : elM (60 :: (nm.data.toList ++ 62 :: r)) = none := by
  rw [elM_60]
  unfold inlT
  rw [rdT_of nm.data.toList r h.ne (by rw [tg_open nm h.con]; exact h.con), tg_open nm h.con]
  have : blk ⟨2, nm, 0⟩ = true := h.blk
  dsimp only
  rw [if_pos this]
theorem no_close {nm : ByteArray} (h : BN nm) (t : List UInt8) : ∀ (ws : Ws), (∀ w ∈ ws, WordM w.1 w.2 ∧ ∀ c ∈ w.1.drop 1, c ≠ 60) → ∀ i, i < (flatW ws).length → Lib.occAt (flatW ws ++ t) (clB nm).data.toList i = false := by
  intro ws
  induction ws with
  | nil => intro _ i hi; cases hi
  | cons w ws ih =>
    intro hw i hi
    obtain ⟨hW, hlt⟩ := hw w (by simp)
    rw [flatW_cons] at hi ⊢
    rw [List.append_assoc]
    rw [List.length_append] at hi
    rcases Nat.lt_or_ge i w.1.length with hiw | hiw
    · rw [Bool.eq_false_iff]
      intro ho
      unfold Lib.occAt at ho
      rw [List.isPrefixOf_iff_prefix] at ho
      obtain ⟨r, hr⟩ := ho
      cases i with
      | zero =>
        rw [List.drop_zero] at hr
        have := hW.2.2 (flatW ws ++ t)
        rw [← hr, el_close h r] at this
        cases this
      | succ i =>
        have h1 : (w.1 ++ (flatW ws ++ t))[i + 1]? = some 60 := by
          have : ((w.1 ++ (flatW ws ++ t)).drop (i + 1))[0]? = some 60 := by rw [← hr]; unfold clB; simp
          rwa [List.getElem?_drop] at this
        rw [List.getElem?_append_left hiw] at h1
        refine hlt 60 ?_ rfl
        refine List.mem_of_getElem? (i := i) ?_
        rw [List.getElem?_drop, Nat.add_comm]; exact h1
    · have := ih (fun v hv => hw v (by simp [hv])) (i - w.1.length) (by omega)
      unfold Lib.occAt at this ⊢
      rw [List.drop_append, List.drop_of_length_le hiw, List.nil_append]
      exact this
theorem words_ok {f : List It} (h : valE f = 0) (hm : MadeOk f) : ∀ w ∈ wsE f, WordM w.1 w.2 ∧ ∀ c ∈ w.1.drop 1, c ≠ 60 := fun w hw => by
  obtain ⟨_, _, h3⟩ := valE_zero h
  refine ⟨wsE_all h3 hm.nb w hw, ?_⟩
  unfold wsE at hw
  rw [List.mem_map] at hw
  obtain ⟨y, hy, rfl⟩ := hw
  exact word_lt (exp_ok h3 y hy)
theorem cut_found {nm : ByteArray} (hb : BN nm) {f : List It} (h : valE f = 0) (hm : MadeOk f) : Lib.cut (encM f ++ (clB nm).data.toList) (clB nm).data.toList = (encM f, [], true) := by
  have hi : Lib.index (encM f ++ (clB nm).data.toList) (clB nm).data.toList = ((encM f).length : Int) := by
    refine Lib.index_first (by rw [List.length_append]; omega) ?_ (fun j hj => ?_)
    · unfold Lib.occAt
      rw [List.drop_left' rfl, List.isPrefixOf_iff_prefix]
      exact List.prefix_refl _
    · have := no_close hb (clB nm).data.toList (wsE f) (words_ok h hm) j (by rw [wsE_flat]; exact hj)
      rwa [wsE_flat] at this
  unfold Lib.cut
  rw [hi, if_pos (by omega)]
  have e1 : (((encM f).length : Nat) : Int).toNat = (encM f).length := rfl
  rw [e1, List.take_left' rfl, List.drop_of_length_le (by rw [List.length_append]; omega)]
theorem cut_none {nm : ByteArray} (hb : BN nm) {f : List It} (h : valE f = 0) (hm : MadeOk f) : Lib.cut (encM f) (clB nm).data.toList = (encM f, [], false) := by
  have hi : Lib.index (encM f) (clB nm).data.toList = -1 := by
    refine Lib.index_none (fun j hj => ?_)
    rcases Nat.lt_or_ge j (encM f).length with hlt | hge
    · have := no_close hb [] (wsE f) (words_ok h hm) j (by rw [wsE_flat]; exact hlt)
      rwa [wsE_flat, List.append_nil] at this
    · unfold Lib.occAt
      rw [List.drop_of_length_le hge, Bool.eq_false_iff]
      intro e
      rw [List.isPrefixOf_iff_prefix] at e
      have := e.length_le
      rw [ll_size, clB_size] at this
      simp at this
  unfold Lib.cut
  rw [hi, if_neg (by omega)]
theorem upto_sign (r : List UInt8) : upto 60 (60 :: r) = [] := by unfold upto; rw [List.takeWhile_cons, if_neg (by decide)]
theorem nx_open {nm : ByteArray} (h : BN nm) (r : List UInt8) (p : Nat) : nxB p (60 :: (nm.data.toList ++ 62 :: r)) = (p + (nm.size + 2), nm, true) := by
  unfold nxB
  rw [upto_sign]
  show hdK (p + 0) (60 :: (nm.data.toList ++ 62 :: r)) = _
  rw [hdK_step _ _ (by simp)]
  have hc : comM (60 :: (nm.data.toList ++ 62 :: r)) = none := by
    unfold comM btw
    have hp : Lib.hasPrefix (60 :: (nm.data.toList ++ 62 :: r)) [60, 33, 45, 45] = false := by
      rw [Bool.eq_false_iff]
      intro e
      unfold Lib.hasPrefix at e
      rw [List.isPrefixOf_iff_prefix] at e
      obtain ⟨z, hz⟩ := e
      have hz : (33 :: ([45, 45] ++ z)) = nm.data.toList ++ 62 :: r := by
        have := congrArg List.tail hz
        simpa using this
      have hne : nm.data.toList ≠ [] := fun e => by
        have := (bytes_nil nm).1 e
        exact h.pos (by rw [← bsL_of nm, e]; rfl)
      have h1 := head_app (b := 62 :: r) hne
      rw [← hz] at h1
      exact h.hd h1.symm
    rw [hp, if_neg (by simp)]
  rw [hc]
  dsimp only
  have ht : rdT ((60 :: (nm.data.toList ++ 62 :: r)).drop 1) = some (⟨2, nm, 0⟩, nm.data.toList.length + 2) := by
    show rdT (nm.data.toList ++ 62 :: r) = _
    rw [rdT_of nm.data.toList r h.ne (by rw [tg_open nm h.con]; exact h.con), tg_open nm h.con]
  rw [ht]
  have hb : blk ⟨2, nm, 0⟩ = true := h.blk
  dsimp only
  rw [if_pos hb, if_pos rfl, ll_size, h.nam, Nat.add_zero]
/-- The three documents of the law, and the content with a block's tag behind it. -/
def dFull (nm raw : ByteArray) : ByteArray := ⟨#[60]⟩ ++ nm ++ ⟨#[62]⟩ ++ raw ++ ⟨#[60, 47]⟩ ++ nm ++ ⟨#[62]⟩
def dTag (nm raw : ByteArray) : ByteArray := raw ++ ⟨#[60]⟩ ++ nm ++ ⟨#[62]⟩
def dHead (nm raw : ByteArray) : ByteArray := ⟨#[60]⟩ ++ nm ++ ⟨#[62]⟩ ++ raw
section
variable {nm : ByteArray} {f : List It}
theorem dFull_list : (dFull nm (bsL (encM f))).data.toList = 60 :: (nm.data.toList ++ 62 :: (encM f ++ (clB nm).data.toList)) := by
  unfold dFull clB
  simp [ByteArray.data_append, bsL_list]
theorem dHead_list : (dHead nm (bsL (encM f))).data.toList = 60 :: (nm.data.toList ++ 62 :: encM f) := by
  unfold dHead
  simp [ByteArray.data_append, bsL_list]
theorem dTag_list : (dTag nm (bsL (encM f))).data.toList = encM f ++ (60 :: (nm.data.toList ++ [62])) := by
  unfold dTag
  simp [ByteArray.data_append, bsL_list]
theorem dFull_size : (dFull nm (bsL (encM f))).size = nm.size + 2 + (encM f).length + (nm.size + 3) := by
  rw [← ll_size, dFull_list]; simp [clB_size]; omega
theorem dHead_size : (dHead nm (bsL (encM f))).size = nm.size + 2 + (encM f).length := by
  rw [← ll_size, dHead_list]; simp; omega
theorem dec_tagB (hb : BN nm) (h : valE f = 0) (hm : MadeOk f) (h1 : lenI f ≤ 900) : dcM (dTag nm (bsL (encM f))).data.toList = ([], [], (encM f).length, 2) := by
  obtain ⟨E, S, n, e1, e2, e3⟩ := dec_behind h hm (60 :: (nm.data.toList ++ [62]))
  rw [dTag_list]
  show decN [] [] [] 0 0 _ = _
  rw [e1]
  exact decN_none _ _ _ _ _ _ (by simp) (el_open hb [])
theorem spl_full (hb : BN nm) (h : valE f = 0) (hm : MadeOk f) (hs : (dFull nm (bsL (encM f))).size ≤ 65536) : ∃ x z, splB (dFull nm (bsL (encM f))) = ([x, ⟨true, keyR 1, bsL (encM f)⟩, z], 0, 0) := by
  have hl := dFull_list (nm := nm) (f := f)
  have hz := dFull_size (nm := nm) (f := f)
  generalize dFull nm (bsL (encM f)) = D at *
  have hnx : nxB 0 (D.data.toList.drop 0) = (nm.size + 2, nm, true) := by
    rw [List.drop_zero, hl, nx_open hb, Nat.zero_add]
  have hd : D.data.toList.drop (nm.size + 2) = encM f ++ (clB nm).data.toList := by
    rw [hl]
    show (nm.data.toList ++ 62 :: (encM f ++ (clB nm).data.toList)).drop (nm.size + 1) = _
    rw [List.drop_append, List.drop_of_length_le (by rw [ll_size]; omega), ll_size, Nat.add_sub_cancel_left]; rfl
  have hru : ruM nm (nm.size + 2) D = (bsL (encM f), 0, 0, nm.size + 2 + (encM f).length) := by
    unfold ruM
    rw [hd, cut_found hb h hm]
    unfold ruC
    rw [dec_made h hm]; rfl
  have hbe : behB nm D (nm.size + 2 + (encM f).length) = D.size := by
    have hd2 : D.data.toList.drop (nm.size + 2 + (encM f).length) = (clB nm).data.toList := by
      rw [← List.drop_drop, hd, List.drop_left' rfl]
    unfold behB
    rw [hd2, if_pos (by unfold hasP Lib.hasPrefix; rw [List.isPrefixOf_iff_prefix]; exact List.prefix_refl _), clB_size, hz]
  unfold splB
  rw [if_neg (by omega), splN_more (Nat.zero_le _) hnx hb.pos (by rw [hru]), hru]
  dsimp only
  rw [hbe, splN_end (q := D.size) (Nat.le_refl _) (by
    rw [List.drop_of_length_le (by rw [ll_size]; exact Nat.le_refl _)]
    unfold nxB
    show hdK (D.size + 0) [] = _
    rw [hdK_nil, Nat.add_zero])]
  exact ⟨_, _, rfl⟩
theorem spl_head (hb : BN nm) (h : valE f = 0) (hm : MadeOk f) (hs : (dHead nm (bsL (encM f))).size ≤ 65536) : splB (dHead nm (bsL (encM f))) = ([], nm.size + 2 + (encM f).length, 2) := by
  have hl := dHead_list (nm := nm) (f := f)
  have hz := dHead_size (nm := nm) (f := f)
  generalize dHead nm (bsL (encM f)) = D at *
  have hnx : nxB 0 (D.data.toList.drop 0) = (nm.size + 2, nm, true) := by
    rw [List.drop_zero, hl, nx_open hb, Nat.zero_add]
  have hd : D.data.toList.drop (nm.size + 2) = encM f := by
    rw [hl]
    show (nm.data.toList ++ 62 :: encM f).drop (nm.size + 1) = _
    rw [List.drop_append, List.drop_of_length_le (by rw [ll_size]; omega), ll_size, Nat.add_sub_cancel_left]; rfl
  have hru : ruM nm (nm.size + 2) D = (.empty, D.size, 2, nm.size + 2) := by
    unfold ruM
    rw [hd, cut_none hb h hm]
    unfold ruC
    rw [dec_made h hm]; rfl
  unfold splB
  rw [if_neg (by omega), splN_err (Nat.zero_le _) hnx hb.pos (by rw [hru]; show (2 : Int) ≠ 0; decide), hru, hz]
end
end Go.Proofs.YtphkpokoeaagfaaDoor
namespace Go.Proofs.YtphkpokoeaagfaaDoor
set_option linter.unusedVariables false
set_option linter.unusedSimpArgs false

/-- The parts so far: skeleton and units by turns, whose bytes are the first ones, and every unit can be decoded. -/
structure PInv (D : ByteArray) (ps : List Pt) (a : Nat) : Prop where
  even : ps.length % 2 = 0
  alt : ∀ i (h : i < ps.length), (ps[i]'h).u = decide (i % 2 = 1) ∧ (((ps[i]'h).key = .empty) ↔ (ps[i]'h).u = false) ∧ ((ps[i]'h).u = true → (dcM (ps[i]'h).raw.data.toList).2.2.2 = 0)
  cat : ps.flatMap (fun x => x.raw.data.toList) = D.data.toList.take a
  le : a ≤ D.size
/-- What the parts of a document are. -/
structure POk (D : ByteArray) (ps : List Pt) : Prop where
  odd : ps.length % 2 = 1
  alt : ∀ i (h : i < ps.length), (ps[i]'h).u = decide (i % 2 = 1) ∧ (((ps[i]'h).key = .empty) ↔ (ps[i]'h).u = false) ∧ ((ps[i]'h).u = true → (dcM (ps[i]'h).raw.data.toList).2.2.2 = 0)
  cat : ps.flatMap (fun x => x.raw.data.toList) = D.data.toList
theorem ext_listM (D : ByteArray) (a b : Nat) : (D.extract a b).data.toList = (D.data.toList.drop a).take (b - a) := by simp [ByteArray.extract, ByteArray.copySlice]
theorem take_moreM (l : List UInt8) (a b : Nat) (h : a ≤ b) : l.take a ++ (l.drop a).take (b - a) = l.take b := by
  conv => rhs; rw [show b = a + (b - a) by omega, List.take_add]
theorem PInv.start (D : ByteArray) : PInv D [] 0 := ⟨rfl, fun i h => (by cases h), rfl, Nat.zero_le _⟩
theorem PInv.done {D : ByteArray} {ps : List Pt} {a b : Nat} (h : PInv D ps a) (hab : a ≤ b) (hb : D.size ≤ b) : POk D (ps ++ [⟨false, .empty, D.extract a b⟩]) := by
  refine ⟨by rw [List.length_append]; have := h.even; simp; omega, fun i hi => ?_, ?_⟩
  · rw [List.length_append] at hi
    by_cases hl : i < ps.length
    · rw [List.getElem_append_left hl]; exact h.alt i hl
    · have hi2 : i = ps.length := by simp at hi; omega
      subst hi2
      rw [List.getElem_append_right (Nat.le_refl _)]
      have he := h.even
      simp only [Nat.sub_self, List.getElem_cons_zero]
      refine ⟨?_, by first | trivial | simp, by simp⟩
      rw [decide_eq_false (by omega)]
  · rw [List.flatMap_append, h.cat]
    show _ ++ ((D.extract a b).data.toList ++ []) = _
    rw [List.append_nil, ext_listM, take_moreM _ _ _ hab, List.take_of_length_le (by simpa using hb)]
theorem PInv.unit {D : ByteArray} {ps : List Pt} {a b n : Nat} {key raw : ByteArray} (h : PInv D ps a) (h1 : a ≤ b) (h3 : b + n ≤ D.size) (hk : key ≠ .empty) (hr : raw.data.toList = (D.data.toList.drop b).take n) (hd : (dcM raw.data.toList).2.2.2 = 0) : PInv D (ps ++ [⟨false, .empty, D.extract a b⟩, ⟨true, key, raw⟩]) (b + n) := by
  have he := h.even
  refine ⟨by rw [List.length_append]; show (ps.length + 2) % 2 = 0; omega, fun i hi => ?_, ?_, h3⟩
  · rw [List.length_append] at hi
    by_cases hl : i < ps.length
    · rw [List.getElem_append_left hl]; exact h.alt i hl
    · rw [List.getElem_append_right (by omega)]
      have hi2 : i = ps.length ∨ i = ps.length + 1 := by simp at hi; omega
      rcases hi2 with rfl | rfl
      · simp only [Nat.sub_self, List.getElem_cons_zero]
        refine ⟨?_, by first | trivial | simp, by simp⟩
        rw [decide_eq_false (by omega)]
      · simp only [Nat.add_sub_cancel_left, List.getElem_cons_succ, List.getElem_cons_zero]
        refine ⟨?_, by simp [hk], by simp [hd]⟩
        rw [decide_eq_true (by omega)]
  · rw [List.flatMap_append, h.cat]
    show _ ++ ((D.extract a b).data.toList ++ (raw.data.toList ++ [])) = _
    rw [List.append_nil, ext_listM, hr, ← List.append_assoc, take_moreM _ _ _ h1, List.take_add]
theorem keyM_ne (r : Nat) : keyR r ≠ .empty := fun e => by
  have h : (keyR r).size = 0 := by rw [e]; rfl
  unfold keyR at h
  rw [bsL_size, Go.Lib.decDigits_length] at h
  have := Go.Lib.nDigits_pos r
  omega
theorem cut_take (l c : List UInt8) : (Lib.cut l c).1 = l.take (Lib.cut l c).1.length := by
  unfold Lib.cut
  split
  · simp
  · simp
/-- What readUnit answers where it finds nothing wrong. -/
theorem ru_ok {nm : ByteArray} {q : Nat} {D : ByteArray} (h : (ruM nm q D).2.2.1 = 0) : ∃ n, (ruM nm q D).1.data.toList = (D.data.toList.drop q).take n ∧ (ruM nm q D).2.2.2 = q + n ∧ n ≤ D.size - q ∧ (dcM (ruM nm q D).1.data.toList).2.2.2 = 0 := by
  have ht := cut_take (D.data.toList.drop q) (clB nm).data.toList
  have hl := cut_len (D.data.toList.drop q) (clB nm).data.toList
  rw [List.length_drop, ll_size] at hl
  unfold ruM at h ⊢
  generalize Lib.cut (D.data.toList.drop q) (clB nm).data.toList = cc at *
  unfold ruC at h ⊢
  split at h
  · rename_i h0
    split at h
    · rename_i h1
      rw [if_pos h0, if_pos h1]
      exact ⟨cc.1.length, by rw [bsL_list]; exact ht, rfl, hl, by rw [bsL_list]; exact h0⟩
    · cases h
  · rename_i h0
    exact absurd h h0
theorem hd_end : ∀ (m q : Nat) (r : List UInt8), r.length ≤ m → (hdM m q r).2.2 = true → (hdM m q r).2.1 = .empty → (hdM m q r).1 = q + r.length := by
  intro m
  induction m with
  | zero => intro q r h _ _; have : r = [] := List.length_eq_zero_iff.1 (by omega); subst this; rfl
  | succ m ih =>
    intro q r h h1 h2
    unfold hdM at h1 h2 ⊢
    by_cases hr : r = []
    · subst hr; rw [if_pos rfl]; rfl
    · rw [if_neg hr] at h1 h2 ⊢
      cases hc : comM r with
      | some n =>
        rw [hc] at h1 h2
        dsimp only at h1 h2 ⊢
        have hcl := comM_len hc
        have hul := upto_lenD 60 (r.drop n)
        rw [List.length_drop] at hul
        have hp : 0 < r.length := List.length_pos_iff.2 hr
        have := ih _ _ (by simp only [List.length_drop]; omega) h1 h2
        rw [this, List.length_drop, List.length_drop]; omega
      | none =>
        rw [hc] at h1 h2
        dsimp only at h1 h2 ⊢
        cases ht : rdT (r.drop 1) with
        | none => rw [ht] at h1; cases h1
        | some y =>
          obtain ⟨x, n⟩ := y
          rw [ht] at h1 h2
          obtain ⟨hn1, hn2, _⟩ := rdT_len ht
          rw [List.length_drop] at hn2
          have hp : 0 < r.length := List.length_pos_iff.2 hr
          have hul := upto_lenD 60 (r.drop n)
          rw [List.length_drop] at hul
          dsimp only at h1 h2 ⊢
          split at h1
          · rename_i hb
            rw [if_pos hb] at h2 ⊢
            split at h1
            · rename_i hk
              rw [if_pos hk] at h2
              exfalso
              have hz : (nameB x.t).size = 0 := by rw [show nameB x.t = .empty from h2]; rfl
              unfold blk blkN at hb
              rw [decide_eq_true_eq] at hb
              rcases hb with h | h | h | h | h <;> rw [h] at hz <;> exact absurd hz (by decide)
            · cases h1
          · rename_i hb
            rw [if_neg hb] at h2 ⊢
            have := ih _ _ (by simp only [List.length_drop]; omega) h1 h2
            rw [this, List.length_drop, List.length_drop]; omega
theorem nx_end {D : ByteArray} {p : Nat} (hp : p ≤ D.size) (h1 : (nxB p (D.data.toList.drop p)).2.2 = true) (h2 : (nxB p (D.data.toList.drop p)).2.1 = .empty) : (nxB p (D.data.toList.drop p)).1 = D.size := by
  unfold nxB hdK at h1 h2 ⊢
  have hul := upto_lenD 60 (D.data.toList.drop p)
  rw [List.length_drop, ll_size] at hul
  rw [hd_end _ _ _ (Nat.le_refl _) h1 h2, List.length_drop, List.length_drop, ll_size]
  omega
/-- What Split answers is a divided document, or no parts at all. -/
theorem splM_both (D : ByteArray) : ∀ (m : Nat) (ps : List Pt) (sk p key : Nat), PInv D ps sk → sk ≤ p → p ≤ D.size → ((splM D m ps sk p key).2.2 = 0 → POk D (splM D m ps sk p key).1) ∧ ((splM D m ps sk p key).2.2 ≠ 0 → (splM D m ps sk p key).1 = []) := by
  intro m
  induction m with
  | zero => intro ps sk p key _ _ _; exact ⟨fun h => (by cases h), fun _ => rfl⟩
  | succ m ih =>
    intro ps sk p key hI hsk hp
    obtain ⟨h1, h2, h3⟩ := nxB_pos p (D.data.toList.drop p)
    rw [List.length_drop, ll_size] at h2
    unfold splM
    by_cases hk : (nxB p (D.data.toList.drop p)).2.2 = false
    · rw [if_pos hk]; exact ⟨fun h => (by cases h), fun _ => rfl⟩
    rw [if_neg hk]
    by_cases hn : (nxB p (D.data.toList.drop p)).2.1 = .empty
    · rw [if_pos hn]
      have he := nx_end hp (by simpa using hk) hn
      exact ⟨fun _ => hI.done (by omega) (by omega), fun h => absurd rfl h⟩
    rw [if_neg hn]
    by_cases hr : (ruM (nxB p (D.data.toList.drop p)).2.1 (nxB p (D.data.toList.drop p)).1 D).2.2.1 ≠ 0
    · rw [if_pos hr]
      exact ⟨fun h => absurd h hr, fun _ => rfl⟩
    rw [if_neg hr]
    have hr0 := Decidable.not_not.1 hr
    obtain ⟨n, hn1, hn2, hn3, hn4⟩ := ru_ok hr0
    have hsp := splM_pos hp hn
    have hbb := behB_pos (nxB p (D.data.toList.drop p)).2.1 D (ruM (nxB p (D.data.toList.drop p)).2.1 (nxB p (D.data.toList.drop p)).1 D).2.2.2 (by rw [hn2]; omega)
    refine ih _ _ _ _ ?_ hbb.1 hsp.2
    rw [hn2]
    exact hI.unit (by omega) (by omega) (keyM_ne key) hn1 hn4
end Go.Proofs.YtphkpokoeaagfaaDoor
namespace Go.Proofs.YtphkpokoeaagfaaDoor
open Go.ChangeShapes Go.WideShapes Go.ChangeAt Go.RowKit
set_option linter.unusedVariables false
set_option linter.unusedSimpArgs false
set_option maxRecDepth 100000

theorem nx_skip {c : UInt8} (hc : c ≠ 60) (r : List UInt8) (p : Nat) : nxB p (c :: r) = nxB (p + 1) r := by
  have hu : upto 60 (c :: r) = c :: upto 60 r := by unfold upto; rw [List.takeWhile_cons, if_pos (by simpa using hc)]
  unfold nxB
  rw [hu]
  show hdK (p + ((upto 60 r).length + 1)) (r.drop (upto 60 r).length) = hdK (p + 1 + (upto 60 r).length) (r.drop (upto 60 r).length)
  rw [show p + ((upto 60 r).length + 1) = p + 1 + (upto 60 r).length by omega]
theorem nx_sign (r : List UInt8) (p : Nat) : nxB p (60 :: r) = hdK p (60 :: r) := by
  unfold nxB
  rw [upto_sign]
  rfl
theorem com_none {c : UInt8} (hc : c ≠ 33) (r : List UInt8) : comM (60 :: c :: r) = none := by
  unfold comM btw
  have hp : Lib.hasPrefix (60 :: c :: r) [60, 33, 45, 45] = false := by
    rw [Bool.eq_false_iff]
    intro e
    unfold Lib.hasPrefix at e
    rw [List.isPrefixOf_iff_prefix] at e
    obtain ⟨z, hz⟩ := e
    have h1 := congrArg (fun l => l.tail.head?) hz
    have h2 : some (33 : UInt8) = some c := h1
    injection h2 with h2
    exact hc h2.symm
  rw [hp, if_neg (by simp)]
theorem nx_tag (u : List UInt8) {c : UInt8} {t : List UInt8} (hu : u = c :: t) (h33 : c ≠ 33) (h62 : ∀ x ∈ u, x ≠ 62) (hok : okM (tgM u) = true) (r : List UInt8) (p : Nat) : nxB p (60 :: (u ++ 62 :: r)) = if blk (tgM u) = true then (if (tgM u).k = 2 then (p + (u.length + 2), nameB (tgM u).t, true) else (p, .empty, false)) else nxB (p + (u.length + 2)) r := by
  have hc : comM (60 :: (u ++ 62 :: r)) = none := by rw [hu]; exact com_none h33 _
  have ht : rdT ((60 :: (u ++ 62 :: r)).drop 1) = some (tgM u, u.length + 2) := rdT_of u r h62 hok
  have hd : (60 :: (u ++ 62 :: r)).drop (u.length + 2) = r := by
    show (u ++ 62 :: r).drop (u.length + 1) = r
    rw [List.drop_append, List.drop_of_length_le (by omega), Nat.add_sub_cancel_left]; rfl
  rw [nx_sign, hdK_step _ _ (by simp), hc]
  dsimp only
  rw [ht]
  dsimp only
  rw [hd]
/-- What may stand between units. -/
def gapM : List (List UInt8) := [[], [60, 104, 116, 109, 108, 62], [60, 33, 45, 45, 32, 60, 112, 62, 32, 45, 45, 62, 120], [10], [60, 104, 114, 47, 62]]
theorem ix_com (r : List UInt8) : Lib.index ([32, 60, 112, 62, 32, 45, 45, 62] ++ r) [45, 45, 62] = (5 : Nat) := by
  refine Lib.index_first (by simp) ?_ (fun j hj => ?_)
  · rfl
  · have : j = 0 ∨ j = 1 ∨ j = 2 ∨ j = 3 ∨ j = 4 := by omega
    rcases this with rfl | rfl | rfl | rfl | rfl <;> rfl
theorem com_some (r : List UInt8) : comM ([60, 33, 45, 45, 32, 60, 112, 62, 32, 45, 45, 62] ++ r) = some 12 := by
  unfold comM btw
  have hp : Lib.hasPrefix ([60, 33, 45, 45, 32, 60, 112, 62, 32, 45, 45, 62] ++ r) [60, 33, 45, 45] = true := rfl
  have hi : Lib.index (([60, 33, 45, 45, 32, 60, 112, 62, 32, 45, 45, 62] ++ r).drop ([60, 33, 45, 45] : List UInt8).length) [45, 45, 62] = (5 : Nat) := ix_com r
  rw [hp, hi]
  rfl
theorem gap_nx (G : List UInt8) (hG : G ∈ gapM) (r : List UInt8) (p : Nat) : nxB p (G ++ r) = nxB (p + G.length) r := by
  unfold gapM at hG
  simp only [List.mem_cons, List.not_mem_nil, or_false] at hG
  rcases hG with rfl | rfl | rfl | rfl | rfl
  · rfl
  · exact (nx_tag [104, 116, 109, 108] rfl (by decide) (by decide) (by decide +kernel) r p).trans (if_neg (by decide +kernel))
  · show nxB p (60 :: ([33, 45, 45, 32, 60, 112, 62, 32, 45, 45, 62] ++ (120 :: r))) = _
    rw [nx_sign, hdK_step _ _ (by simp)]
    have := com_some (120 :: r)
    rw [show (60 :: ([33, 45, 45, 32, 60, 112, 62, 32, 45, 45, 62] ++ (120 :: r)) : List UInt8) = [60, 33, 45, 45, 32, 60, 112, 62, 32, 45, 45, 62] ++ (120 :: r) from rfl, this]
    dsimp only
    rw [show ([60, 33, 45, 45, 32, 60, 112, 62, 32, 45, 45, 62] ++ (120 :: r) : List UInt8).drop 12 = 120 :: r from rfl, nx_skip (by decide)]
    rfl
  · exact nx_skip (by decide) r p
  · exact (nx_tag [104, 114, 47] rfl (by decide) (by decide) (by decide +kernel) r p).trans (if_neg (by decide +kernel))
/-- An opening tag's text, and its name, a block's. -/
structure UnitM (u : List UInt8) (nm : ByteArray) : Prop where
  bn : BN nm
  nx : ∀ r p, nxB p (60 :: (u ++ 62 :: r)) = (p + (u.length + 2), nm, true)
  few : u.length ≤ 11
/-- A raw content that a unit may have. -/
structure RawU (nm : ByteArray) (raw : List UInt8) : Prop where
  dec : (dcM raw).2.2.2 = 0
  cut : ∀ t, Lib.cut (raw ++ ((clB nm).data.toList ++ t)) (clB nm).data.toList = (raw, t, true)
inductive DivM : List UInt8 → Prop
  | gap (G : List UInt8) (hG : G ∈ gapM) : DivM G
  | unit (G u : List UInt8) (nm : ByteArray) (raw r : List UInt8) (hG : G ∈ gapM) (hU : UnitM u nm) (hR : RawU nm raw) (h : DivM r) : DivM (G ++ (60 :: (u ++ 62 :: (raw ++ ((clB nm).data.toList ++ r)))))
theorem DivM.snoc {C : List UInt8} (h : DivM C) {u : List UInt8} {nm : ByteArray} {raw G : List UInt8} (hG : G ∈ gapM) (hU : UnitM u nm) (hR : RawU nm raw) : DivM (C ++ (60 :: (u ++ 62 :: (raw ++ ((clB nm).data.toList ++ G))))) := by
  induction h with
  | gap G' hG' => exact .unit G' u nm raw G hG' hU hR (.gap G hG)
  | unit G' u' nm' raw' r hG' hU' hR' hr ih =>
    have := DivM.unit G' u' nm' raw' _ hG' hU' hR' ih
    simpa using this
theorem div_spl (D : ByteArray) {r : List UInt8} (h : DivM r) : ∀ (ps : List Pt) (sk p key : Nat), p ≤ D.size → D.data.toList.drop p = r → (splN ps sk p key D).2.2 = 0 := by
  induction h with
  | gap G hG =>
    intro ps sk p key hp hd
    rw [splN_end (q := p + G.length) hp (by
      have := gap_nx G hG [] p
      rw [List.append_nil] at this
      rw [hd, this]
      unfold nxB
      show hdK (p + G.length + 0) [] = _
      rw [hdK_nil]; rfl)]
  | unit G u nm raw r hG hU hR hr ih =>
    intro ps sk p key hp hd
    have hlen := congrArg List.length hd
    rw [List.length_drop, ll_size] at hlen
    simp only [List.length_append, List.length_cons, ll_size] at hlen
    have hnx : nxB p (D.data.toList.drop p) = (p + G.length + (u.length + 2), nm, true) := by rw [hd, gap_nx G hG, hU.nx]
    have hdq : D.data.toList.drop (p + G.length + (u.length + 2)) = raw ++ ((clB nm).data.toList ++ r) := by
      rw [Nat.add_assoc, ← List.drop_drop, hd, ← List.drop_drop, List.drop_left' rfl]
      show (u ++ 62 :: (raw ++ ((clB nm).data.toList ++ r))).drop (u.length + 1) = _
      rw [List.drop_append, List.drop_of_length_le (by omega), Nat.add_sub_cancel_left]; rfl
    generalize hq : p + G.length + (u.length + 2) = q at *
    have hru : ruM nm q D = (bsL raw, 0, 0, q + raw.length) := by
      unfold ruM
      rw [hdq, hR.cut]
      unfold ruC
      rw [if_pos hR.dec, if_pos rfl]
    have hdr : D.data.toList.drop (q + raw.length) = (clB nm).data.toList ++ r := by rw [← List.drop_drop, hdq, List.drop_left' rfl]
    have hbe : behB nm D (q + raw.length) = q + raw.length + (clB nm).size := by
      unfold behB
      rw [hdr, if_pos (by unfold hasP Lib.hasPrefix; rw [List.isPrefixOf_iff_prefix]; exact List.prefix_append _ _)]
    rw [splN_more hp hnx hU.bn.pos (by rw [hru]), hru]
    dsimp only
    rw [hbe]
    refine ih _ _ _ _ (by omega) ?_
    rw [← List.drop_drop, hdr, List.drop_left' (ll_size _)]
theorem div_splB {C : List UInt8} (h : DivM C) (hz : C.length ≤ 65536) : (splB (bsL C)).2.2 = 0 := by
  unfold splB
  rw [if_neg (by rw [bsL_size]; omega)]
  exact div_spl (bsL C) h _ _ _ _ (Nat.zero_le _) (by rw [List.drop_zero, bsL_list])
theorem pie_lt {x : It} (h : One x) {t : List UInt8} (ht : PieM x t) : ∀ c ∈ t.drop 1, c ≠ 60 := by
  rcases ht with rfl | ⟨_, _, rfl⟩ | ⟨_, _, rfl⟩
  · exact word_lt h
  · decide
  · decide
/-- A generated raw content may be a unit's. -/
theorem raws_unit {nm : ByteArray} (hb : BN nm) {f : List It} (h : valE f = 0) (hm : MadeOk f) {raw : List UInt8} (hr : RawsM (expI f) raw) : RawU nm raw := by
  refine ⟨?_, fun t => ?_⟩
  · obtain ⟨ws, _, _, _, e⟩ := raws_wordsM h hm hr
    rw [e]
  · obtain ⟨ws, e1, e2, e3⟩ := hr
    obtain ⟨_, _, h3⟩ := valE_zero h
    have hnb := noBlk_exp hm.nb
    have hall : ∀ w ∈ (ws.map fun w => (w.1, unN w.2)), WordM w.1 w.2 ∧ ∀ c ∈ w.1.drop 1, c ≠ 60 := fun w hw => by
      rw [List.mem_map] at hw
      obtain ⟨v, hv, rfl⟩ := hw
      have hx : v.2 ∈ expI f := by rw [← e2]; exact List.mem_map.2 ⟨v, hv, rfl⟩
      exact ⟨pie_wordM v.2 (exp_ok h3 v.2 hx) (hnb v.2 hx) (e3 v hv), pie_lt (exp_ok h3 v.2 hx) (e3 v hv)⟩
    have hfl : flatW (ws.map fun w => (w.1, unN w.2)) = raw := by
      rw [e1]
      clear e1 e2 e3 hall
      induction ws with
      | nil => rfl
      | cons w t ih => rw [List.map_cons, flatW_cons, flatW_cons, ih]
    have hi : Lib.index (raw ++ ((clB nm).data.toList ++ t)) (clB nm).data.toList = (raw.length : Int) := by
      refine Lib.index_first (by simp only [List.length_append]; omega) ?_ (fun j hj => ?_)
      · unfold Lib.occAt
        rw [List.drop_left' rfl, List.isPrefixOf_iff_prefix]
        exact List.prefix_append _ _
      · have := no_close hb ((clB nm).data.toList ++ t) _ hall j (by rw [hfl]; exact hj)
        rwa [hfl] at this
    unfold Lib.cut
    rw [hi, if_pos (by omega)]
    have e1 : ((raw.length : Nat) : Int).toNat = raw.length := rfl
    rw [e1, List.take_left' rfl]
    have e2 : (raw ++ ((clB nm).data.toList ++ t)).drop (raw.length + (clB nm).data.toList.length) = t := by
      rw [← List.drop_drop, List.drop_left' rfl, List.drop_left' rfl]
    rw [e2]
theorem unit_of {u : List UInt8} {nm : ByteArray} {c : UInt8} {t : List UInt8} (hu : u = c :: t) (h33 : c ≠ 33) (h62 : ∀ x ∈ u, x ≠ 62) (hok : okM (tgM u) = true) (hbl : blk (tgM u) = true) (hk : (tgM u).k = 2) (hnm : nameB (tgM u).t = nm) (hb : BN nm) (hf : u.length ≤ 11) : UnitM u nm :=
  ⟨hb, fun r p => by rw [nx_tag u hu h33 h62 hok, if_pos hbl, if_pos hk, hnm], hf⟩
theorem bnm_p : BN ⟨#[112]⟩ := ⟨by decide, by decide +kernel, by decide +kernel, by decide +kernel, by decide, by decide, by decide⟩
theorem bnm_li : BN ⟨#[108, 105]⟩ := ⟨by decide, by decide +kernel, by decide +kernel, by decide +kernel, by decide, by decide, by decide⟩
theorem bnm_title : BN ⟨#[116, 105, 116, 108, 101]⟩ := ⟨by decide, by decide +kernel, by decide +kernel, by decide +kernel, by decide, by decide, by decide⟩
def hdM9 : List ByteArray := [⟨#[]⟩, ⟨#[60, 104, 116, 109, 108, 62]⟩, ⟨#[60, 33, 45, 45, 32, 60, 112, 62, 32, 45, 45, 62, 120]⟩]
def nmM9 : List ByteArray := [⟨#[112]⟩, ⟨#[108, 105]⟩, ⟨#[116, 105, 116, 108, 101]⟩]
def atM9 : List ByteArray := [⟨#[]⟩, ⟨#[32, 99, 61, 34, 49, 34]⟩]
def tlM9 : List ByteArray := [⟨#[]⟩, ⟨#[10]⟩, ⟨#[60, 104, 114, 47, 62]⟩]
theorem hd_gap {G : ByteArray} (h : G ∈ hdM9) : G.data.toList ∈ gapM ∧ G.size ≤ 13 := by
  unfold hdM9 at h
  simp only [List.mem_cons, List.not_mem_nil, or_false] at h
  rcases h with rfl | rfl | rfl <;> decide
theorem tl_gap {G : ByteArray} (h : G ∈ tlM9) : G.data.toList ∈ gapM ∧ G.size ≤ 5 := by
  unfold tlM9 at h
  simp only [List.mem_cons, List.not_mem_nil, or_false] at h
  rcases h with rfl | rfl | rfl <;> decide
theorem nm_at {nm a : ByteArray} (h : nm ∈ nmM9) (h2 : a ∈ atM9) : UnitM (nm.data.toList ++ a.data.toList) nm ∧ nm.size ≤ 5 ∧ a.size ≤ 6 := by
  unfold nmM9 at h; unfold atM9 at h2
  simp only [List.mem_cons, List.not_mem_nil, or_false] at h h2
  rcases h with rfl | rfl | rfl <;> rcases h2 with rfl | rfl
  · exact ⟨unit_of (c := 112) (t := []) rfl (by decide) (by decide) (by decide +kernel) (by decide +kernel) (by decide +kernel) (by decide +kernel) bnm_p (by decide), by decide, by decide⟩
  · exact ⟨unit_of (c := 112) rfl (by decide) (by decide) (by decide +kernel) (by decide +kernel) (by decide +kernel) (by decide +kernel) bnm_p (by decide), by decide, by decide⟩
  · exact ⟨unit_of (c := 108) rfl (by decide) (by decide) (by decide +kernel) (by decide +kernel) (by decide +kernel) (by decide +kernel) bnm_li (by decide), by decide, by decide⟩
  · exact ⟨unit_of (c := 108) rfl (by decide) (by decide) (by decide +kernel) (by decide +kernel) (by decide +kernel) (by decide +kernel) bnm_li (by decide), by decide, by decide⟩
  · exact ⟨unit_of (c := 116) rfl (by decide) (by decide) (by decide +kernel) (by decide +kernel) (by decide +kernel) (by decide +kernel) bnm_title (by decide), by decide, by decide⟩
  · exact ⟨unit_of (c := 116) rfl (by decide) (by decide) (by decide +kernel) (by decide +kernel) (by decide +kernel) (by decide +kernel) bnm_title (by decide), by decide, by decide⟩
/-- What Data's round adds. -/
def unitB (nm a raw G : ByteArray) : ByteArray := ⟨#[60]⟩ ++ nm ++ a ++ ⟨#[62]⟩ ++ raw ++ ⟨#[60, 47]⟩ ++ nm ++ ⟨#[62]⟩ ++ G
theorem unitB_div {D nm a G : ByteArray} (h : DivM D.data.toList) (hn : nm ∈ nmM9) (ha : a ∈ atM9) (hG : G ∈ tlM9) {f : List It} (hv : valE f = 0) (hm : MadeOk f) {raw : List UInt8} (hr : RawsM (expI f) raw) : DivM (D ++ unitB nm a (bsL raw) G).data.toList ∧ (unitB nm a (bsL raw) G).size ≤ 30 + raw.length := by
  obtain ⟨hU, z1, z2⟩ := nm_at hn ha
  obtain ⟨hg, z3⟩ := tl_gap hG
  have := h.snoc hg hU (raws_unit hU.bn hv hm hr)
  have e : (D ++ unitB nm a (bsL raw) G).data.toList = D.data.toList ++ (60 :: ((nm.data.toList ++ a.data.toList) ++ 62 :: (raw ++ ((clB nm).data.toList ++ G.data.toList)))) := by
    unfold unitB clB
    simp [ByteArray.data_append, bsL_list]
  rw [e]
  refine ⟨this, ?_⟩
  unfold unitB
  simp only [ByteArray.size_append, bsL_size]
  have y1 : (⟨#[60]⟩ : ByteArray).size = 1 := rfl
  have y2 : (⟨#[62]⟩ : ByteArray).size = 1 := rfl
  have y3 : (⟨#[60, 47]⟩ : ByteArray).size = 2 := rfl
  omega
theorem pickM_mem (l : List ByteArray) (k : Nat) (hk : k < l.length) : pickB l k ∈ l := pickB_all (P := fun x => x ∈ l) l (fun x h => h) k hk
theorem div_splD {D : ByteArray} (h : DivM D.data.toList) (hz : D.size ≤ 65536) : (splB D).2.2 = 0 := by
  have := div_splB h (by rw [ll_size]; exact hz)
  rwa [bsL_of] at this
theorem byMs_len : ∀ l : List UInt8, (l.flatMap byM).length ≤ 5 * l.length := by
  intro l
  induction l with
  | nil => exact Nat.zero_le _
  | cons c t ih =>
    rw [List.flatMap_cons, List.length_append, List.length_cons]
    have : (byM c).length ≤ 5 := by
      unfold byM
      split
      · decide
      · split
        · decide
        · split
          · decide
          · show 1 ≤ 5; omega
    omega
theorem e1M_short (x : It) : (e1M x).length ≤ 5 * x.t.size + 3 := by
  have hs : x.t.data.toList.length = x.t.size := ll_size _
  unfold e1M
  split
  · have := byMs_len x.t.data.toList; omega
  · split
    · simp only [List.length_cons, List.length_append, List.length_nil, hs]; omega
    · split
      · simp only [List.length_cons, List.length_append, List.length_nil, hs]; omega
      · split <;> (simp only [List.length_cons, List.length_append, List.length_nil, hs]; omega)
theorem pie_short {x : It} {t : List UInt8} (h : PieM x t) : t.length ≤ 5 * x.t.size + 3 := by
  rcases h with rfl | ⟨_, h, rfl⟩ | ⟨_, h, rfl⟩
  · exact e1M_short x
  · rw [h]; decide
  · rw [h]; decide
theorem words_short : ∀ ws : Ws, (∀ w ∈ ws, PieM w.2 w.1) → (flatW ws).length ≤ 5 * txtI (itW ws) + 3 * ws.length := by
  intro ws
  induction ws with
  | nil => intro _; exact Nat.zero_le _
  | cons w t ih =>
    intro h
    have h1 := ih (fun v hv => h v (List.mem_cons_of_mem _ hv))
    have h2 := pie_short (h w (List.mem_cons_self ..))
    have e : txtI (itW (w :: t)) = w.2.t.size + txtI (itW t) := rfl
    rw [flatW_cons, List.length_append, e, List.length_cons]
    omega
theorem txt_exp (l : List It) : txtI (expI l) = txtI l := by
  induction l with
  | nil => rfl
  | cons x t ih =>
    have e1 : ∀ a b : List It, txtI (a ++ b) = txtI a + txtI b := fun a b => by unfold txtI; rw [List.map_append, List.sum_append]
    have e2 : txtI (x :: t) = x.t.size + txtI t := rfl
    rw [expI_cons, e1, ih, e2]
    congr 1
    by_cases hk : x.k = 1
    · rw [expX_text hk, ← ll_size]
      generalize x.t.data.toList = l
      induction l with
      | nil => rfl
      | cons c l ih2 =>
        have : txtI ((c :: l).map bT) = 1 + txtI (l.map bT) := rfl
        rw [this, ih2, List.length_cons]; omega
    · unfold expX; rw [if_neg hk]
      show x.t.size + 0 = _
      omega
theorem raws_short {f : List It} {raw : List UInt8} (h : RawsM (expI f) raw) : raw.length ≤ 5 * txtI f + 3 * lenI f := by
  obtain ⟨ws, rfl, e2, e3⟩ := h
  have h1 := words_short ws e3
  have h2 : ws.length = lenI f := by rw [← expI_len, ← e2]; unfold itW; rw [List.length_map]
  rw [e2, txt_exp, h2] at h1
  exact h1
end Go.Proofs.YtphkpokoeaagfaaDoor
namespace Go.Proofs.YtphkpokoeaagfaaDoor
open Go.ChangeShapes Go.WideShapes Go.ChangeAt Go.RowKit
set_option linter.unusedVariables false
set_option linter.unusedSimpArgs false
set_option maxRecDepth 100000

/-- What Data answers: a document that can be divided. -/
def EndDa (b : Nat) (w : World) (e : Ending) (w' : World) : Prop := ∃ D : ByteArray, e = .returned (.string D) ∧ (splB D).2.2 = 0 ∧ D.size ≤ 10000 ∧ w.grownBy w' (some b)
set_option maxHeartbeats 12800000 in
theorem data_any (b : Nat) (p : Option Addr) (cap : Nat) (L : List Int) (w : World) (h : NumsAt w b p cap L 0) :
    Calls Tryd.prog 21 #[.pointer (some ⟨b, 0, none⟩), .int .i64 1, .int .i64 4] w (EndDa b w) := by
  have hn2 := fun m (hm : m ≤ 900000) W h => next_any b p cap L m 2 2 rfl W h (by omega) (by omega) (by omega)
  have hn3 := fun m (hm : m ≤ 900000) W h => next_any b p cap L m 3 3 rfl W h (by omega) (by omega) (by omega)
  have hn5 := fun m (hm : m ≤ 900000) W h => next_any b p cap L m 5 5 rfl W h (by omega) (by omega) (by omega)
  have hfr := fun m (hm : m ≤ 100000) W (h : NumsAt W b p cap L m) => fragment_any b p cap L m true true 5 5 rfl W h (fun h0 a ha => ones_any h.ones h0 a ha) hm (by omega)
  have hfo := fun m => frag_ok L true true m 5 (by omega)
  have hff := fun m => frag_m L m 5
  have hrw := fun m (hm : m ≤ 800000) pf cf (F : List It) (hF : FragOk 5 F) (ht : noBlk F) W h i s hc hcm => mkraws_any b p cap L m pf cf F W h hm i s hc hcm (hF.valid (by omega)) ht (by have := hF.txt; omega)
  have hk1 := nx_lt L 0 3 (by omega)
  have hG := hd_gap (pickM_mem hdM9 (nx L 0 3) hk1)
  have hK := nx_lt L 1 5 (by omega)
  have H2 := Lib.hid hn2; have H3 := Lib.hid hn3; have HFR := Lib.hid hfr; have HFO := Lib.hid hfo; have HFF := Lib.hid hff; have HRW := Lib.hid hrw
  have N1 := Lib.hid (hn3 0 (by omega)); have N2 := Lib.hid (hn5 1 (by omega))
  have HNL := Lib.hid (fun m => nx_lt L m 3 (by omega)); have HNL2 := Lib.hid (fun m => nx_lt L m 2 (by omega))
  clear hn2 hn3 hn5 hfr hfo hff hrw
  generalize hk0 : nx L 0 3 = k0 at *
  generalize nx L 1 5 = K at *
  have HQ := Lib.hid (DivM.gap _ hG.1)
  have hz0 := hG.2
  clear hG
  have hlt := h.lt
  go_enter Tryd.func21, Tryd.ntmps21
  go_wp2_with fail
  refine (N1.out _ (h.call (blw (Below.refl _ _) _))).mono ?_
  rintro e w1 ⟨rfl, hg, hN⟩
  have hB := (hg.block w.heap.size (by simp) (fun e => by injection e with e; omega)).trans (heap_alloc_new w _)
  have hc := pick_row hB hdM9 rfl k0 hk1
  have hgr := chg_trans (chg_below (b := b) (blw (Below.refl w.heap.size w) _)) hg
  have hk3 : (k0 : Int) < 3 := by omega
  generalize pickB hdM9 k0 = G0 at *
  clear hg hB
  go_wp2_with fail
  refine (N2.out _ hN).mono ?_
  rintro e w2 ⟨rfl, hg2, hN2⟩
  have hgr2 := chg_trans hgr hg2
  clear hc hg2 hgr hN N1 N2
  go_wp2_with fail
  go_loopw [7, 9] (fun v i wr => ∃ (n m : Nat) (D : ByteArray), n ≤ K ∧ i = .int .i64 (n : Int) ∧ v = .string D ∧ Hid (DivM D.data.toList) ∧ D.size ≤ 13 + 1300 * (K - n) ∧ m ≤ 2 + 400 * (K - n) ∧ w.grownBy wr (some b) ∧ NumsAt wr b p cap L m) (fun _ i _ => (intOf i).toNat)
  case atStart => exact ⟨K, 2, G0, Nat.le_refl _, rfl, rfl, HQ, by omega, by omega, hgr2, hN2⟩
  case round =>
    obtain ⟨n, m, D, hn, rfl, rfl, HC, hCl, hm, hgr, hN⟩ := hrel
    by_cases hn0 : 0 < n
    · obtain ⟨n, rfl⟩ : ∃ j, n = j + 1 := ⟨n - 1, by omega⟩
      have hf1 := HFR.out m (by omega)
      have hf2 := HFO.out m
      have hf3 := HFF.out m
      obtain ⟨hok, hm1, hm2⟩ := hf2
      generalize (fragG L true true m 5).1 = F at *
      generalize (fragG L true true m 5).2 = m1 at *
      have gl := hok.len; have gt := hok.txt; have gi := hok.lenI
      have hv := hok.valid (by omega)
      have hr1 := fun pf cf W h i s hc hcm => HRW.out m1 (by omega) pf cf F hok hf3.nb W h i s hc hcm
      have hrs : ∀ raw, RawsM (expI F) raw → raw.length ≤ 1000 ∧ ∀ nm a G, nm ∈ nmM9 → a ∈ atM9 → G ∈ tlM9 → DivM (D ++ unitB nm a (bsL raw) G).data.toList ∧ (unitB nm a (bsL raw) G).size ≤ 30 + raw.length := fun raw hr => ⟨by have := raws_short hr; omega, fun nm a G hn ha hG => unitB_div HC.out hn ha hG hv hf3 hr⟩
      have HF1 := Lib.hid hf1; have HR1 := Lib.hid hr1; have HRS := Lib.hid hrs
      clear hf1 hf3 hr1 hrs hv hok
      go_wp2_with fail
      refine (HF1.out _ hN).mono ?_
      rintro e w3 ⟨vf, rfl, hg3, hN3, hown⟩
      obtain ⟨pf, cf, rfl, fa, fb, fi⟩ := hown.its
      have hadr := OwnL.addr hown
      have hNlt := hN.lt
      have hgr3 := chg_trans hgr hg3
      have hsep : 0 < F.length → ∀ a, pf = some a → some b ≠ some a.block := fun _ a ha e => by
        have := (hadr a ha).1
        injection e with e
        omega
      clear hown hadr hg3
      go_wp2_with fail
      refine (HR1.out pf cf w3 hN3 fi hsep fa fb).mono ?_
      rintro e w4 ⟨raw, m2, rfl, hraw, hrl, hm3, hg4, hN4⟩
      obtain ⟨hrz, hdiv⟩ := HRS.out raw hraw
      have hgr4 := chg_trans hgr3 hg4
      have hn3 := H3.out m2 (by omega)
      have hkr := HNL.out m2
      have hmn := pickM_mem nmM9 (nx L m2 3) hkr
      have hka := HNL2.out (m2 + 1)
      have hma := pickM_mem atM9 (nx L (m2 + 1) 2) hka
      have hn2 := H2.out (m2 + 1) (by omega)
      have hkt := HNL.out (m2 + 2)
      have hmt := pickM_mem tlM9 (nx L (m2 + 2) 3) hkt
      have hn4 := H3.out (m2 + 2) (by omega)
      generalize nx L m2 3 = kr at *
      generalize nx L (m2 + 1) 2 = ka at *
      generalize nx L (m2 + 2) 3 = kt at *
      have HN3 := Lib.hid hn3; have HN2 := Lib.hid hn2; have HN4 := Lib.hid hn4
      have hdv := hdiv _ _ _ hmn hma hmt
      clear hraw hdiv hn3 hn2 hn4 hg4 fi hsep hN3
      go_wp2_with fail
      refine (HN3.out _ (hN4.call (blw (Below.refl _ _) _))).mono ?_
      rintro e w5 ⟨rfl, hg5, hN5⟩
      have hlt4 : b < w4.heap.size := hN4.lt
      have hB5 := (hg5.block w4.heap.size (by simp) (fun e => by injection e with e; omega)).trans (heap_alloc_new w4 _)
      have hc := pick_row hB5 nmM9 rfl kr hkr
      have hgr5 := chg_trans (chg_trans hgr4 (chg_below (b := b) (blw (Below.refl w4.heap.size w4) _))) hg5
      have hkr3 : (kr : Int) < 3 := by omega
      clear hB5 hg5
      go_wp2_with fail
      have hNN := hN5.call ((Below.refl _ _).drew)
      have hGG := chg_trans hgr5 (chg_below (b := b) ((Below.refl w5.heap.size w5).drew))
      have HNX := Lib.hid hdv.1
      have hlen : (D ++ unitB (pickB nmM9 kr) (pickB atM9 ka) (bsL raw) (pickB tlM9 kt)).size ≤ 13 + 1300 * (K - n) := by rw [ByteArray.size_append]; have := hdv.2; omega
      have hz1 := (nm_at hmn hma).2.1; have hz2 := (nm_at hmn hma).2.2; have hz3 := (tl_gap hmt).2
      have hsr : (bsL raw).size ≤ 1000 := by rw [bsL_size]; exact hrz
      have hka2 : (ka : Int) < 2 := by omega
      have hkt3 : (kt : Int) < 3 := by omega
      generalize bsL raw = sr at *
      have e1 : (⟨#[60]⟩ : ByteArray).size = 1 := rfl
      have e2 : (⟨#[62]⟩ : ByteArray).size = 1 := rfl
      have e3 : (⟨#[60, 47]⟩ : ByteArray).size = 2 := rfl
      have z1 : ¬ (9223372036854775807 < 1 + (pickB nmM9 kr).size) := by omega
      have z2 : ¬ (9223372036854775807 < ((⟨#[60]⟩ : ByteArray) ++ pickB nmM9 kr).size + (pickB atM9 ka).size) := by simp only [ByteArray.size_append]; omega
      have z3 : ¬ (9223372036854775807 < ((⟨#[60]⟩ : ByteArray) ++ pickB nmM9 kr ++ pickB atM9 ka).size + 1) := by simp only [ByteArray.size_append]; omega
      have z4 : ¬ (9223372036854775807 < ((⟨#[60]⟩ : ByteArray) ++ pickB nmM9 kr ++ pickB atM9 ka ++ ⟨#[62]⟩).size + sr.size) := by simp only [ByteArray.size_append]; omega
      have z5 : ¬ (9223372036854775807 < ((⟨#[60]⟩ : ByteArray) ++ pickB nmM9 kr ++ pickB atM9 ka ++ ⟨#[62]⟩ ++ sr).size + 2) := by simp only [ByteArray.size_append]; omega
      have z6 : ¬ (9223372036854775807 < ((⟨#[60]⟩ : ByteArray) ++ pickB nmM9 kr ++ pickB atM9 ka ++ ⟨#[62]⟩ ++ sr ++ ⟨#[60, 47]⟩).size + (pickB nmM9 kr).size) := by simp only [ByteArray.size_append]; omega
      have z7 : ¬ (9223372036854775807 < ((⟨#[60]⟩ : ByteArray) ++ pickB nmM9 kr ++ pickB atM9 ka ++ ⟨#[62]⟩ ++ sr ++ ⟨#[60, 47]⟩ ++ pickB nmM9 kr).size + 1) := by simp only [ByteArray.size_append]; omega
      have z8 : ¬ (9223372036854775807 < ((⟨#[60]⟩ : ByteArray) ++ pickB nmM9 kr ++ pickB atM9 ka ++ ⟨#[62]⟩ ++ sr ++ ⟨#[60, 47]⟩ ++ pickB nmM9 kr ++ ⟨#[62]⟩).size + (pickB tlM9 kt).size) := by simp only [ByteArray.size_append]; omega
      have z9 : ¬ (9223372036854775807 < D.size + ((⟨#[60]⟩ : ByteArray) ++ pickB nmM9 kr ++ pickB atM9 ka ++ ⟨#[62]⟩ ++ sr ++ ⟨#[60, 47]⟩ ++ pickB nmM9 kr ++ ⟨#[62]⟩ ++ pickB tlM9 kt).size) := by simp only [ByteArray.size_append]; omega
      have y2 : ¬ (9223372036854775807 < 1 + (pickB nmM9 kr).size + (pickB atM9 ka).size) := by omega
      have y3 : ¬ (9223372036854775807 < 1 + (pickB nmM9 kr).size + (pickB atM9 ka).size + 1) := by omega
      have y4 : ¬ (9223372036854775807 < 1 + (pickB nmM9 kr).size + (pickB atM9 ka).size + 1 + sr.size) := by omega
      have y5 : ¬ (9223372036854775807 < 1 + (pickB nmM9 kr).size + (pickB atM9 ka).size + 1 + sr.size + 2) := by omega
      have y6 : ¬ (9223372036854775807 < 1 + (pickB nmM9 kr).size + (pickB atM9 ka).size + 1 + sr.size + 2 + (pickB nmM9 kr).size) := by omega
      have y7 : ¬ (9223372036854775807 < 1 + (pickB nmM9 kr).size + (pickB atM9 ka).size + 1 + sr.size + 2 + (pickB nmM9 kr).size + 1) := by omega
      have y8 : ¬ (9223372036854775807 < 1 + (pickB nmM9 kr).size + (pickB atM9 ka).size + 1 + sr.size + 2 + (pickB nmM9 kr).size + 1 + (pickB tlM9 kt).size) := by omega
      have y9 : ¬ (9223372036854775807 < D.size + (1 + (pickB nmM9 kr).size + (pickB atM9 ka).size + 1 + sr.size + 2 + (pickB nmM9 kr).size + 1 + (pickB tlM9 kt).size)) := by omega
      clear e1 e2 e3 hz1 hz2 hz3 hc hdv hmn hma hmt hN5 hgr5 hgr4 hN4 hgr3 hgr hN
      refine wp_region_held_drew (S := fun _ => True) (by kernel_rfl) (trivial) (fun hHeld => ?_)
      refine wpAnyH_take (i := 0) (v := ?_) rfl (by kernel_rfl) (by kernel_rfl) (by kernel_rfl) (fun _ _ _ h => h) (Or.inl ⟨by rfl, ?_⟩) hHeld ?_
      rotate_left
      · (intro w hSw; (try dsimp only at hSw); go_simp; try with_reducible rfl)
      try simp only [Act.put, List.getElem_toArray, List.getElem_cons_zero, List.getElem_cons_succ, List.setIfInBounds_toArray, List.set_cons_zero, List.set_cons_succ]
      refine wpAnyH_take (i := 1) (v := ?_) rfl (by kernel_rfl) (by kernel_rfl) (by kernel_rfl) (fun _ _ _ h => h) (Or.inl ⟨by rfl, ?_⟩) hHeld ?_
      rotate_left
      · (intro w hSw; (try dsimp only at hSw); go_simp; try with_reducible rfl)
      try simp only [Act.put, List.getElem_toArray, List.getElem_cons_zero, List.getElem_cons_succ, List.setIfInBounds_toArray, List.set_cons_zero, List.set_cons_succ]
      refine wpAnyH_take (i := 2) (v := ?_) rfl (by kernel_rfl) (by kernel_rfl) (by kernel_rfl) (fun _ _ _ h => h) (Or.inl ⟨by rfl, ?_⟩) hHeld ?_
      rotate_left
      · (intro w hSw; (try dsimp only at hSw); go_simp; try with_reducible rfl)
      try simp only [Act.put, List.getElem_toArray, List.getElem_cons_zero, List.getElem_cons_succ, List.setIfInBounds_toArray, List.set_cons_zero, List.set_cons_succ]
      refine wpAnyH_take (i := 4) (v := ?_) rfl (by kernel_rfl) (by kernel_rfl) (by kernel_rfl) (fun _ _ _ h => h) (Or.inl ⟨by rfl, ?_⟩) hHeld ?_
      rotate_left
      · (intro w hSw; (try dsimp only at hSw); go_simp; try with_reducible rfl)
      try simp only [Act.put, List.getElem_toArray, List.getElem_cons_zero, List.getElem_cons_succ, List.setIfInBounds_toArray, List.set_cons_zero, List.set_cons_succ]
      refine wpAnyH_take (i := 10) (v := ?_) rfl (by kernel_rfl) (by kernel_rfl) (by kernel_rfl) (fun _ _ _ h => h) (Or.inl ⟨by rfl, ?_⟩) hHeld ?_
      rotate_left
      · (intro w hSw; (try dsimp only at hSw); go_simp; try with_reducible rfl)
      try simp only [Act.put, List.getElem_toArray, List.getElem_cons_zero, List.getElem_cons_succ, List.setIfInBounds_toArray, List.set_cons_zero, List.set_cons_succ]
      refine wpAnyH_take (i := 13) (v := ?_) rfl (by kernel_rfl) (by kernel_rfl) (by kernel_rfl) (fun _ _ _ h => h) (Or.inl ⟨by rfl, ?_⟩) hHeld ?_
      rotate_left
      · (intro w hSw; (try dsimp only at hSw); go_simp; try with_reducible rfl)
      try simp only [Act.put, List.getElem_toArray, List.getElem_cons_zero, List.getElem_cons_succ, List.setIfInBounds_toArray, List.set_cons_zero, List.set_cons_succ]
      refine wpAnyH_take (i := 17) (v := ?_) rfl (by kernel_rfl) (by kernel_rfl) (by kernel_rfl) (fun _ _ _ h => h) (Or.inl ⟨by rfl, ?_⟩) hHeld ?_
      rotate_left
      · (intro w hSw; (try dsimp only at hSw); go_simp; try with_reducible rfl)
      try simp only [Act.put, List.getElem_toArray, List.getElem_cons_zero, List.getElem_cons_succ, List.setIfInBounds_toArray, List.set_cons_zero, List.set_cons_succ]
      refine wpAnyH_ready (rs := [3, 5, 16]) (by kernel_rfl) (by simp) ?_
      refine AllReadyH.cons rfl (fun K hK => ?_) (AllReadyH.cons rfl (fun K hK => ?_) (AllReadyH.cons rfl (fun K hK => ?_) (AllReadyH.nil)))
      · skip
        have nn : (w5.drew).heap.size = w5.heap.size := by simp
        have hA := heap_at nn (Obj.cells #[.string ⟨#[]⟩, .string ⟨#[32, 99, 61, 34, 49, 34]⟩] 9)
        have lhA : w5.heap.size ≠ b := by have := hNN.lt; rw [nn] at this; omega
        have hNN := hNN.call (blw (Below.refl _ _) (Obj.cells #[.string ⟨#[]⟩, .string ⟨#[32, 99, 61, 34, 49, 34]⟩] 9))
        have hGG := chg_trans hGG (chg_below (b := b) (blw (Below.refl _ _) (Obj.cells #[.string ⟨#[]⟩, .string ⟨#[32, 99, 61, 34, 49, 34]⟩] 9)))
        clear nn
        go_simp
        refine hK.out _ _ (trivial) (fun hHeld => ?_)
        clear hK K
        try simp only [Act.put, List.getElem_toArray, List.getElem_cons_zero, List.getElem_cons_succ, List.setIfInBounds_toArray, List.set_cons_zero, List.set_cons_succ]
        refine wpAnyH_mono (S' := fun W : World => W.heap[w5.heap.size]? = some (Obj.cells #[.string ⟨#[]⟩, .string ⟨#[32, 99, 61, 34, 49, 34]⟩] 9 (0, 0))) (fun _ _ => trivial) _ _ _ _ ?_
        have hHeld : (fun W : World => W.heap[w5.heap.size]? = some (Obj.cells #[.string ⟨#[]⟩, .string ⟨#[32, 99, 61, 34, 49, 34]⟩] 9 (0, 0))) _ := hA
        refine wpAnyH_ready (rs := [5, 16]) (by kernel_rfl) (by simp) ?_
        refine AllReadyH.cons rfl (fun K hK => ?_) (AllReadyH.cons rfl (fun K hK => ?_) (AllReadyH.nil))
        · skip
          go_simp
          refine (HN2.out _ hNN).mono ?_; rintro e v1 ⟨rfl, hg, hNN⟩
          have hGG := chg_trans hGG hg
          have hA := carry_next hA hg lhA
          clear hg
          go_wp2_with fail
          refine hK.out _ _ (hA) (fun hHeld => ?_)
          clear hK K
          try simp only [Act.put, List.getElem_toArray, List.getElem_cons_zero, List.getElem_cons_succ, List.setIfInBounds_toArray, List.set_cons_zero, List.set_cons_succ]
          refine wpAnyH_take (i := 6) (v := ?_) rfl (by kernel_rfl) (by kernel_rfl) (by kernel_rfl) (fun _ _ _ h => h) (Or.inl ⟨by rfl, ?_⟩) hHeld ?_
          rotate_left
          · (intro w hSw; (try dsimp only at hSw); go_simp; try with_reducible rfl)
          try simp only [Act.put, List.getElem_toArray, List.getElem_cons_zero, List.getElem_cons_succ, List.setIfInBounds_toArray, List.set_cons_zero, List.set_cons_succ]
          refine wpAnyH_take (i := 7) (v := ?_) rfl (by kernel_rfl) (by kernel_rfl) (by kernel_rfl) (fun _ _ _ h => h) (Or.inl ⟨by rfl, ?_⟩) hHeld ?_
          rotate_left
          · (intro w hSw; (first | have hc := pick_row hSw atM9 rfl ka hka | have hc := pick_row hSw.1 atM9 rfl ka hka | have hc := pick_row hSw.2 atM9 rfl ka hka); go_simp; try with_reducible rfl)
          try simp only [Act.put, List.getElem_toArray, List.getElem_cons_zero, List.getElem_cons_succ, List.setIfInBounds_toArray, List.set_cons_zero, List.set_cons_succ]
          refine wpAnyH_take (i := 8) (v := ?_) rfl (by kernel_rfl) (by kernel_rfl) (by kernel_rfl) (fun _ _ _ h => h) (Or.inl ⟨by rfl, ?_⟩) hHeld ?_
          rotate_left
          · (intro w hSw; (try dsimp only at hSw); go_simp; try with_reducible rfl)
          try simp only [Act.put, List.getElem_toArray, List.getElem_cons_zero, List.getElem_cons_succ, List.setIfInBounds_toArray, List.set_cons_zero, List.set_cons_succ]
          refine wpAnyH_take (i := 9) (v := ?_) rfl (by kernel_rfl) (by kernel_rfl) (by kernel_rfl) (fun _ _ _ h => h) (Or.inl ⟨by rfl, ?_⟩) hHeld ?_
          rotate_left
          · (intro w hSw; (try dsimp only at hSw); go_simp; try with_reducible rfl)
          try simp only [Act.put, List.getElem_toArray, List.getElem_cons_zero, List.getElem_cons_succ, List.setIfInBounds_toArray, List.set_cons_zero, List.set_cons_succ]
          refine wpAnyH_take (i := 11) (v := ?_) rfl (by kernel_rfl) (by kernel_rfl) (by kernel_rfl) (fun _ _ _ h => h) (Or.inl ⟨by rfl, ?_⟩) hHeld ?_
          rotate_left
          · (intro w hSw; (try dsimp only at hSw); go_simp; try with_reducible rfl)
          try simp only [Act.put, List.getElem_toArray, List.getElem_cons_zero, List.getElem_cons_succ, List.setIfInBounds_toArray, List.set_cons_zero, List.set_cons_succ]
          refine wpAnyH_take (i := 12) (v := ?_) rfl (by kernel_rfl) (by kernel_rfl) (by kernel_rfl) (fun _ _ _ h => h) (Or.inl ⟨by rfl, ?_⟩) hHeld ?_
          rotate_left
          · (intro w hSw; (try dsimp only at hSw); go_simp; try with_reducible rfl)
          try simp only [Act.put, List.getElem_toArray, List.getElem_cons_zero, List.getElem_cons_succ, List.setIfInBounds_toArray, List.set_cons_zero, List.set_cons_succ]
          refine wpAnyH_take (i := 14) (v := ?_) rfl (by kernel_rfl) (by kernel_rfl) (by kernel_rfl) (fun _ _ _ h => h) (Or.inl ⟨by rfl, ?_⟩) hHeld ?_
          rotate_left
          · (intro w hSw; (try dsimp only at hSw); go_simp; try with_reducible rfl)
          try simp only [Act.put, List.getElem_toArray, List.getElem_cons_zero, List.getElem_cons_succ, List.setIfInBounds_toArray, List.set_cons_zero, List.set_cons_succ]
          refine wpAnyH_take (i := 15) (v := ?_) rfl (by kernel_rfl) (by kernel_rfl) (by kernel_rfl) (fun _ _ _ h => h) (Or.inl ⟨by rfl, ?_⟩) hHeld ?_
          rotate_left
          · (intro w hSw; (try dsimp only at hSw); go_simp; try with_reducible rfl)
          try simp only [Act.put, List.getElem_toArray, List.getElem_cons_zero, List.getElem_cons_succ, List.setIfInBounds_toArray, List.set_cons_zero, List.set_cons_succ]
          refine wpAnyH_ready (rs := [16, 18]) (by kernel_rfl) (by simp) ?_
          refine AllReadyH.cons rfl (fun K hK => ?_) (AllReadyH.cons rfl (fun K hK => ?_) (AllReadyH.nil))
          · skip
            have nn : (v1).heap.size = v1.heap.size := by simp
            have hX := heap_at nn (Obj.cells #[.string ⟨#[]⟩, .string ⟨#[10]⟩, .string ⟨#[60, 104, 114, 47, 62]⟩] 9)
            have hA := carry_alloc hA (Obj.cells #[.string ⟨#[]⟩, .string ⟨#[10]⟩, .string ⟨#[60, 104, 114, 47, 62]⟩] 9)
            have lhX : v1.heap.size ≠ b := by have := hNN.lt; rw [nn] at this; omega
            have hNN := hNN.call (blw (Below.refl _ _) (Obj.cells #[.string ⟨#[]⟩, .string ⟨#[10]⟩, .string ⟨#[60, 104, 114, 47, 62]⟩] 9))
            have hGG := chg_trans hGG (chg_below (b := b) (blw (Below.refl _ _) (Obj.cells #[.string ⟨#[]⟩, .string ⟨#[10]⟩, .string ⟨#[60, 104, 114, 47, 62]⟩] 9)))
            clear nn
            go_simp
            refine hK.out _ _ (hA) (fun hHeld => ?_)
            clear hK K
            try simp only [Act.put, List.getElem_toArray, List.getElem_cons_zero, List.getElem_cons_succ, List.setIfInBounds_toArray, List.set_cons_zero, List.set_cons_succ]
            refine wpAnyH_mono (S' := fun W : World => W.heap[w5.heap.size]? = some (Obj.cells #[.string ⟨#[]⟩, .string ⟨#[32, 99, 61, 34, 49, 34]⟩] 9 (0, 0)) ∧ W.heap[v1.heap.size]? = some (Obj.cells #[.string ⟨#[]⟩, .string ⟨#[10]⟩, .string ⟨#[60, 104, 114, 47, 62]⟩] 9 (0, 0))) (fun _ h => h.1) _ _ _ _ ?_
            have hHeld : (fun W : World => W.heap[w5.heap.size]? = some (Obj.cells #[.string ⟨#[]⟩, .string ⟨#[32, 99, 61, 34, 49, 34]⟩] 9 (0, 0)) ∧ W.heap[v1.heap.size]? = some (Obj.cells #[.string ⟨#[]⟩, .string ⟨#[10]⟩, .string ⟨#[60, 104, 114, 47, 62]⟩] 9 (0, 0))) _ := ⟨hA, hX⟩
            refine wpAnyH_ready (rs := [18]) (by kernel_rfl) (by simp) ?_
            refine AllReadyH.cons rfl (fun K hK => ?_) (AllReadyH.nil)
            · skip
              go_simp
              refine (HN4.out _ hNN).mono ?_; rintro e v2 ⟨rfl, hg, hNN⟩
              have hGG := chg_trans hGG hg
              have hA := carry_next hA hg lhA
              have hX := carry_next hX hg lhX
              clear hg
              go_wp2_with fail
              refine hK.out _ _ (⟨hA, hX⟩) (fun hHeld => ?_)
              clear hK K
              try simp only [Act.put, List.getElem_toArray, List.getElem_cons_zero, List.getElem_cons_succ, List.setIfInBounds_toArray, List.set_cons_zero, List.set_cons_succ]
              refine wpAnyH_take (i := 19) (v := ?_) rfl (by kernel_rfl) (by kernel_rfl) (by kernel_rfl) (fun _ _ _ h => h) (Or.inl ⟨by rfl, ?_⟩) hHeld ?_
              rotate_left
              · (intro w hSw; (try dsimp only at hSw); go_simp; try with_reducible rfl)
              try simp only [Act.put, List.getElem_toArray, List.getElem_cons_zero, List.getElem_cons_succ, List.setIfInBounds_toArray, List.set_cons_zero, List.set_cons_succ]
              refine wpAnyH_take (i := 20) (v := ?_) rfl (by kernel_rfl) (by kernel_rfl) (by kernel_rfl) (fun _ _ _ h => h) (Or.inl ⟨by rfl, ?_⟩) hHeld ?_
              rotate_left
              · (intro w hSw; (first | have hc := pick_row hSw tlM9 rfl kt hkt | have hc := pick_row hSw.1 tlM9 rfl kt hkt | have hc := pick_row hSw.2 tlM9 rfl kt hkt); go_simp; try with_reducible rfl)
              try simp only [Act.put, List.getElem_toArray, List.getElem_cons_zero, List.getElem_cons_succ, List.setIfInBounds_toArray, List.set_cons_zero, List.set_cons_succ]
              refine wpAnyH_take (i := 21) (v := ?_) rfl (by kernel_rfl) (by kernel_rfl) (by kernel_rfl) (fun _ _ _ h => h) (Or.inl ⟨by rfl, ?_⟩) hHeld ?_
              rotate_left
              · (intro w hSw; (try dsimp only at hSw); go_simp; try with_reducible rfl)
              try simp only [Act.put, List.getElem_toArray, List.getElem_cons_zero, List.getElem_cons_succ, List.setIfInBounds_toArray, List.set_cons_zero, List.set_cons_succ]
              refine wpAnyH_take (i := 22) (v := ?_) rfl (by kernel_rfl) (by kernel_rfl) (by kernel_rfl) (fun _ _ _ h => h) (Or.inl ⟨by rfl, ?_⟩) hHeld ?_
              rotate_left
              · (intro w hSw; (try dsimp only at hSw); go_simp; try with_reducible rfl)
              try simp only [Act.put, List.getElem_toArray, List.getElem_cons_zero, List.getElem_cons_succ, List.setIfInBounds_toArray, List.set_cons_zero, List.set_cons_succ]
              refine wpAnyH_ready (rs := [23]) (by kernel_rfl) (by simp) ?_
              refine AllReadyH.cons rfl (fun K hK => ?_) AllReadyH.nil
              go_simp
              refine hK.out _ _ (⟨hA, hX⟩) (fun hHeld => ?_)
              clear hK K
              refine wpAnyH_done (by kernel_rfl) ?_ _
              go_wp2_with fail
              go_roundw
              case rel => exact ⟨n, m2 + 2 + 1, _, by omega, by first | go_num | (congr 1; omega), rfl, HNX, hlen, by omega, hGG, hNN⟩
              case measure => simp [intOf]
          · skip
            go_simp
            refine (HN4.out _ hNN).mono ?_; rintro e v3 ⟨rfl, hg, hNN⟩
            have hGG := chg_trans hGG hg
            have hA := carry_next hA hg lhA
            clear hg
            go_wp2_with fail
            refine hK.out _ _ (hA) (fun hHeld => ?_)
            clear hK K
            try simp only [Act.put, List.getElem_toArray, List.getElem_cons_zero, List.getElem_cons_succ, List.setIfInBounds_toArray, List.set_cons_zero, List.set_cons_succ]
            refine wpAnyH_ready (rs := [16]) (by kernel_rfl) (by simp) ?_
            refine AllReadyH.cons rfl (fun K hK => ?_) (AllReadyH.nil)
            · skip
              have nn : (v3).heap.size = v3.heap.size := by simp
              have hX := heap_at nn (Obj.cells #[.string ⟨#[]⟩, .string ⟨#[10]⟩, .string ⟨#[60, 104, 114, 47, 62]⟩] 9)
              have hA := carry_alloc hA (Obj.cells #[.string ⟨#[]⟩, .string ⟨#[10]⟩, .string ⟨#[60, 104, 114, 47, 62]⟩] 9)
              have lhX : v3.heap.size ≠ b := by have := hNN.lt; rw [nn] at this; omega
              have hNN := hNN.call (blw (Below.refl _ _) (Obj.cells #[.string ⟨#[]⟩, .string ⟨#[10]⟩, .string ⟨#[60, 104, 114, 47, 62]⟩] 9))
              have hGG := chg_trans hGG (chg_below (b := b) (blw (Below.refl _ _) (Obj.cells #[.string ⟨#[]⟩, .string ⟨#[10]⟩, .string ⟨#[60, 104, 114, 47, 62]⟩] 9)))
              clear nn
              go_simp
              refine hK.out _ _ (hA) (fun hHeld => ?_)
              clear hK K
              try simp only [Act.put, List.getElem_toArray, List.getElem_cons_zero, List.getElem_cons_succ, List.setIfInBounds_toArray, List.set_cons_zero, List.set_cons_succ]
              refine wpAnyH_mono (S' := fun W : World => W.heap[w5.heap.size]? = some (Obj.cells #[.string ⟨#[]⟩, .string ⟨#[32, 99, 61, 34, 49, 34]⟩] 9 (0, 0)) ∧ W.heap[v3.heap.size]? = some (Obj.cells #[.string ⟨#[]⟩, .string ⟨#[10]⟩, .string ⟨#[60, 104, 114, 47, 62]⟩] 9 (0, 0))) (fun _ h => h.1) _ _ _ _ ?_
              have hHeld : (fun W : World => W.heap[w5.heap.size]? = some (Obj.cells #[.string ⟨#[]⟩, .string ⟨#[32, 99, 61, 34, 49, 34]⟩] 9 (0, 0)) ∧ W.heap[v3.heap.size]? = some (Obj.cells #[.string ⟨#[]⟩, .string ⟨#[10]⟩, .string ⟨#[60, 104, 114, 47, 62]⟩] 9 (0, 0))) _ := ⟨hA, hX⟩
              refine wpAnyH_take (i := 19) (v := ?_) rfl (by kernel_rfl) (by kernel_rfl) (by kernel_rfl) (fun _ _ _ h => h) (Or.inl ⟨by rfl, ?_⟩) hHeld ?_
              rotate_left
              · (intro w hSw; (try dsimp only at hSw); go_simp; try with_reducible rfl)
              try simp only [Act.put, List.getElem_toArray, List.getElem_cons_zero, List.getElem_cons_succ, List.setIfInBounds_toArray, List.set_cons_zero, List.set_cons_succ]
              refine wpAnyH_take (i := 20) (v := ?_) rfl (by kernel_rfl) (by kernel_rfl) (by kernel_rfl) (fun _ _ _ h => h) (Or.inl ⟨by rfl, ?_⟩) hHeld ?_
              rotate_left
              · (intro w hSw; (first | have hc := pick_row hSw tlM9 rfl kt hkt | have hc := pick_row hSw.1 tlM9 rfl kt hkt | have hc := pick_row hSw.2 tlM9 rfl kt hkt); go_simp; try with_reducible rfl)
              try simp only [Act.put, List.getElem_toArray, List.getElem_cons_zero, List.getElem_cons_succ, List.setIfInBounds_toArray, List.set_cons_zero, List.set_cons_succ]
              refine wpAnyH_take (i := 21) (v := ?_) rfl (by kernel_rfl) (by kernel_rfl) (by kernel_rfl) (fun _ _ _ h => h) (Or.inl ⟨by rfl, ?_⟩) hHeld ?_
              rotate_left
              · (intro w hSw; (try dsimp only at hSw); go_simp; try with_reducible rfl)
              try simp only [Act.put, List.getElem_toArray, List.getElem_cons_zero, List.getElem_cons_succ, List.setIfInBounds_toArray, List.set_cons_zero, List.set_cons_succ]
              refine wpAnyH_take (i := 22) (v := ?_) rfl (by kernel_rfl) (by kernel_rfl) (by kernel_rfl) (fun _ _ _ h => h) (Or.inl ⟨by rfl, ?_⟩) hHeld ?_
              rotate_left
              · (intro w hSw; (try dsimp only at hSw); go_simp; try with_reducible rfl)
              try simp only [Act.put, List.getElem_toArray, List.getElem_cons_zero, List.getElem_cons_succ, List.setIfInBounds_toArray, List.set_cons_zero, List.set_cons_succ]
              refine wpAnyH_ready (rs := [23]) (by kernel_rfl) (by simp) ?_
              refine AllReadyH.cons rfl (fun K hK => ?_) AllReadyH.nil
              go_simp
              refine hK.out _ _ (⟨hA, hX⟩) (fun hHeld => ?_)
              clear hK K
              refine wpAnyH_done (by kernel_rfl) ?_ _
              go_wp2_with fail
              go_roundw
              case rel => exact ⟨n, m2 + 2 + 1, _, by omega, by first | go_num | (congr 1; omega), rfl, HNX, hlen, by omega, hGG, hNN⟩
              case measure => simp [intOf]
        · skip
          have nn : ((w5.drew).alloc (Obj.cells #[.string ⟨#[]⟩, .string ⟨#[32, 99, 61, 34, 49, 34]⟩] 9)).heap.size = w5.heap.size + 1 := by simp
          have hX := heap_at nn (Obj.cells #[.string ⟨#[]⟩, .string ⟨#[10]⟩, .string ⟨#[60, 104, 114, 47, 62]⟩] 9)
          have hA := carry_alloc hA (Obj.cells #[.string ⟨#[]⟩, .string ⟨#[10]⟩, .string ⟨#[60, 104, 114, 47, 62]⟩] 9)
          have lhX : w5.heap.size + 1 ≠ b := by have := hNN.lt; rw [nn] at this; omega
          have hNN := hNN.call (blw (Below.refl _ _) (Obj.cells #[.string ⟨#[]⟩, .string ⟨#[10]⟩, .string ⟨#[60, 104, 114, 47, 62]⟩] 9))
          have hGG := chg_trans hGG (chg_below (b := b) (blw (Below.refl _ _) (Obj.cells #[.string ⟨#[]⟩, .string ⟨#[10]⟩, .string ⟨#[60, 104, 114, 47, 62]⟩] 9)))
          clear nn
          go_simp
          refine hK.out _ _ (hA) (fun hHeld => ?_)
          clear hK K
          try simp only [Act.put, List.getElem_toArray, List.getElem_cons_zero, List.getElem_cons_succ, List.setIfInBounds_toArray, List.set_cons_zero, List.set_cons_succ]
          refine wpAnyH_mono (S' := fun W : World => W.heap[w5.heap.size]? = some (Obj.cells #[.string ⟨#[]⟩, .string ⟨#[32, 99, 61, 34, 49, 34]⟩] 9 (0, 0)) ∧ W.heap[w5.heap.size + 1]? = some (Obj.cells #[.string ⟨#[]⟩, .string ⟨#[10]⟩, .string ⟨#[60, 104, 114, 47, 62]⟩] 9 (0, 0))) (fun _ h => h.1) _ _ _ _ ?_
          have hHeld : (fun W : World => W.heap[w5.heap.size]? = some (Obj.cells #[.string ⟨#[]⟩, .string ⟨#[32, 99, 61, 34, 49, 34]⟩] 9 (0, 0)) ∧ W.heap[w5.heap.size + 1]? = some (Obj.cells #[.string ⟨#[]⟩, .string ⟨#[10]⟩, .string ⟨#[60, 104, 114, 47, 62]⟩] 9 (0, 0))) _ := ⟨hA, hX⟩
          refine wpAnyH_ready (rs := [5]) (by kernel_rfl) (by simp) ?_
          refine AllReadyH.cons rfl (fun K hK => ?_) (AllReadyH.nil)
          · skip
            go_simp
            refine (HN2.out _ hNN).mono ?_; rintro e v4 ⟨rfl, hg, hNN⟩
            have hGG := chg_trans hGG hg
            have hA := carry_next hA hg lhA
            have hX := carry_next hX hg lhX
            clear hg
            go_wp2_with fail
            refine hK.out _ _ (⟨hA, hX⟩) (fun hHeld => ?_)
            clear hK K
            try simp only [Act.put, List.getElem_toArray, List.getElem_cons_zero, List.getElem_cons_succ, List.setIfInBounds_toArray, List.set_cons_zero, List.set_cons_succ]
            refine wpAnyH_take (i := 6) (v := ?_) rfl (by kernel_rfl) (by kernel_rfl) (by kernel_rfl) (fun _ _ _ h => h) (Or.inl ⟨by rfl, ?_⟩) hHeld ?_
            rotate_left
            · (intro w hSw; (try dsimp only at hSw); go_simp; try with_reducible rfl)
            try simp only [Act.put, List.getElem_toArray, List.getElem_cons_zero, List.getElem_cons_succ, List.setIfInBounds_toArray, List.set_cons_zero, List.set_cons_succ]
            refine wpAnyH_take (i := 7) (v := ?_) rfl (by kernel_rfl) (by kernel_rfl) (by kernel_rfl) (fun _ _ _ h => h) (Or.inl ⟨by rfl, ?_⟩) hHeld ?_
            rotate_left
            · (intro w hSw; (first | have hc := pick_row hSw atM9 rfl ka hka | have hc := pick_row hSw.1 atM9 rfl ka hka | have hc := pick_row hSw.2 atM9 rfl ka hka); go_simp; try with_reducible rfl)
            try simp only [Act.put, List.getElem_toArray, List.getElem_cons_zero, List.getElem_cons_succ, List.setIfInBounds_toArray, List.set_cons_zero, List.set_cons_succ]
            refine wpAnyH_take (i := 8) (v := ?_) rfl (by kernel_rfl) (by kernel_rfl) (by kernel_rfl) (fun _ _ _ h => h) (Or.inl ⟨by rfl, ?_⟩) hHeld ?_
            rotate_left
            · (intro w hSw; (try dsimp only at hSw); go_simp; try with_reducible rfl)
            try simp only [Act.put, List.getElem_toArray, List.getElem_cons_zero, List.getElem_cons_succ, List.setIfInBounds_toArray, List.set_cons_zero, List.set_cons_succ]
            refine wpAnyH_take (i := 9) (v := ?_) rfl (by kernel_rfl) (by kernel_rfl) (by kernel_rfl) (fun _ _ _ h => h) (Or.inl ⟨by rfl, ?_⟩) hHeld ?_
            rotate_left
            · (intro w hSw; (try dsimp only at hSw); go_simp; try with_reducible rfl)
            try simp only [Act.put, List.getElem_toArray, List.getElem_cons_zero, List.getElem_cons_succ, List.setIfInBounds_toArray, List.set_cons_zero, List.set_cons_succ]
            refine wpAnyH_take (i := 11) (v := ?_) rfl (by kernel_rfl) (by kernel_rfl) (by kernel_rfl) (fun _ _ _ h => h) (Or.inl ⟨by rfl, ?_⟩) hHeld ?_
            rotate_left
            · (intro w hSw; (try dsimp only at hSw); go_simp; try with_reducible rfl)
            try simp only [Act.put, List.getElem_toArray, List.getElem_cons_zero, List.getElem_cons_succ, List.setIfInBounds_toArray, List.set_cons_zero, List.set_cons_succ]
            refine wpAnyH_take (i := 12) (v := ?_) rfl (by kernel_rfl) (by kernel_rfl) (by kernel_rfl) (fun _ _ _ h => h) (Or.inl ⟨by rfl, ?_⟩) hHeld ?_
            rotate_left
            · (intro w hSw; (try dsimp only at hSw); go_simp; try with_reducible rfl)
            try simp only [Act.put, List.getElem_toArray, List.getElem_cons_zero, List.getElem_cons_succ, List.setIfInBounds_toArray, List.set_cons_zero, List.set_cons_succ]
            refine wpAnyH_take (i := 14) (v := ?_) rfl (by kernel_rfl) (by kernel_rfl) (by kernel_rfl) (fun _ _ _ h => h) (Or.inl ⟨by rfl, ?_⟩) hHeld ?_
            rotate_left
            · (intro w hSw; (try dsimp only at hSw); go_simp; try with_reducible rfl)
            try simp only [Act.put, List.getElem_toArray, List.getElem_cons_zero, List.getElem_cons_succ, List.setIfInBounds_toArray, List.set_cons_zero, List.set_cons_succ]
            refine wpAnyH_take (i := 15) (v := ?_) rfl (by kernel_rfl) (by kernel_rfl) (by kernel_rfl) (fun _ _ _ h => h) (Or.inl ⟨by rfl, ?_⟩) hHeld ?_
            rotate_left
            · (intro w hSw; (try dsimp only at hSw); go_simp; try with_reducible rfl)
            try simp only [Act.put, List.getElem_toArray, List.getElem_cons_zero, List.getElem_cons_succ, List.setIfInBounds_toArray, List.set_cons_zero, List.set_cons_succ]
            refine wpAnyH_ready (rs := [18]) (by kernel_rfl) (by simp) ?_
            refine AllReadyH.cons rfl (fun K hK => ?_) (AllReadyH.nil)
            · skip
              go_simp
              refine (HN4.out _ hNN).mono ?_; rintro e v5 ⟨rfl, hg, hNN⟩
              have hGG := chg_trans hGG hg
              have hA := carry_next hA hg lhA
              have hX := carry_next hX hg lhX
              clear hg
              go_wp2_with fail
              refine hK.out _ _ (⟨hA, hX⟩) (fun hHeld => ?_)
              clear hK K
              try simp only [Act.put, List.getElem_toArray, List.getElem_cons_zero, List.getElem_cons_succ, List.setIfInBounds_toArray, List.set_cons_zero, List.set_cons_succ]
              refine wpAnyH_take (i := 19) (v := ?_) rfl (by kernel_rfl) (by kernel_rfl) (by kernel_rfl) (fun _ _ _ h => h) (Or.inl ⟨by rfl, ?_⟩) hHeld ?_
              rotate_left
              · (intro w hSw; (try dsimp only at hSw); go_simp; try with_reducible rfl)
              try simp only [Act.put, List.getElem_toArray, List.getElem_cons_zero, List.getElem_cons_succ, List.setIfInBounds_toArray, List.set_cons_zero, List.set_cons_succ]
              refine wpAnyH_take (i := 20) (v := ?_) rfl (by kernel_rfl) (by kernel_rfl) (by kernel_rfl) (fun _ _ _ h => h) (Or.inl ⟨by rfl, ?_⟩) hHeld ?_
              rotate_left
              · (intro w hSw; (first | have hc := pick_row hSw tlM9 rfl kt hkt | have hc := pick_row hSw.1 tlM9 rfl kt hkt | have hc := pick_row hSw.2 tlM9 rfl kt hkt); go_simp; try with_reducible rfl)
              try simp only [Act.put, List.getElem_toArray, List.getElem_cons_zero, List.getElem_cons_succ, List.setIfInBounds_toArray, List.set_cons_zero, List.set_cons_succ]
              refine wpAnyH_take (i := 21) (v := ?_) rfl (by kernel_rfl) (by kernel_rfl) (by kernel_rfl) (fun _ _ _ h => h) (Or.inl ⟨by rfl, ?_⟩) hHeld ?_
              rotate_left
              · (intro w hSw; (try dsimp only at hSw); go_simp; try with_reducible rfl)
              try simp only [Act.put, List.getElem_toArray, List.getElem_cons_zero, List.getElem_cons_succ, List.setIfInBounds_toArray, List.set_cons_zero, List.set_cons_succ]
              refine wpAnyH_take (i := 22) (v := ?_) rfl (by kernel_rfl) (by kernel_rfl) (by kernel_rfl) (fun _ _ _ h => h) (Or.inl ⟨by rfl, ?_⟩) hHeld ?_
              rotate_left
              · (intro w hSw; (try dsimp only at hSw); go_simp; try with_reducible rfl)
              try simp only [Act.put, List.getElem_toArray, List.getElem_cons_zero, List.getElem_cons_succ, List.setIfInBounds_toArray, List.set_cons_zero, List.set_cons_succ]
              refine wpAnyH_ready (rs := [23]) (by kernel_rfl) (by simp) ?_
              refine AllReadyH.cons rfl (fun K hK => ?_) AllReadyH.nil
              go_simp
              refine hK.out _ _ (⟨hA, hX⟩) (fun hHeld => ?_)
              clear hK K
              refine wpAnyH_done (by kernel_rfl) ?_ _
              go_wp2_with fail
              go_roundw
              case rel => exact ⟨n, m2 + 2 + 1, _, by omega, by first | go_num | (congr 1; omega), rfl, HNX, hlen, by omega, hGG, hNN⟩
              case measure => simp [intOf]
      · skip
        go_simp
        refine (HN2.out _ hNN).mono ?_; rintro e v6 ⟨rfl, hg, hNN⟩
        have hGG := chg_trans hGG hg
        clear hg
        go_wp2_with fail
        refine hK.out _ _ (trivial) (fun hHeld => ?_)
        clear hK K
        try simp only [Act.put, List.getElem_toArray, List.getElem_cons_zero, List.getElem_cons_succ, List.setIfInBounds_toArray, List.set_cons_zero, List.set_cons_succ]
        refine wpAnyH_ready (rs := [3, 16, 18]) (by kernel_rfl) (by simp) ?_
        refine AllReadyH.cons rfl (fun K hK => ?_) (AllReadyH.cons rfl (fun K hK => ?_) (AllReadyH.cons rfl (fun K hK => ?_) (AllReadyH.nil)))
        · skip
          have nn : (v6).heap.size = v6.heap.size := by simp
          have hA := heap_at nn (Obj.cells #[.string ⟨#[]⟩, .string ⟨#[32, 99, 61, 34, 49, 34]⟩] 9)
          have lhA : v6.heap.size ≠ b := by have := hNN.lt; rw [nn] at this; omega
          have hNN := hNN.call (blw (Below.refl _ _) (Obj.cells #[.string ⟨#[]⟩, .string ⟨#[32, 99, 61, 34, 49, 34]⟩] 9))
          have hGG := chg_trans hGG (chg_below (b := b) (blw (Below.refl _ _) (Obj.cells #[.string ⟨#[]⟩, .string ⟨#[32, 99, 61, 34, 49, 34]⟩] 9)))
          clear nn
          go_simp
          refine hK.out _ _ (trivial) (fun hHeld => ?_)
          clear hK K
          try simp only [Act.put, List.getElem_toArray, List.getElem_cons_zero, List.getElem_cons_succ, List.setIfInBounds_toArray, List.set_cons_zero, List.set_cons_succ]
          refine wpAnyH_mono (S' := fun W : World => W.heap[v6.heap.size]? = some (Obj.cells #[.string ⟨#[]⟩, .string ⟨#[32, 99, 61, 34, 49, 34]⟩] 9 (0, 0))) (fun _ _ => trivial) _ _ _ _ ?_
          have hHeld : (fun W : World => W.heap[v6.heap.size]? = some (Obj.cells #[.string ⟨#[]⟩, .string ⟨#[32, 99, 61, 34, 49, 34]⟩] 9 (0, 0))) _ := hA
          refine wpAnyH_take (i := 6) (v := ?_) rfl (by kernel_rfl) (by kernel_rfl) (by kernel_rfl) (fun _ _ _ h => h) (Or.inl ⟨by rfl, ?_⟩) hHeld ?_
          rotate_left
          · (intro w hSw; (try dsimp only at hSw); go_simp; try with_reducible rfl)
          try simp only [Act.put, List.getElem_toArray, List.getElem_cons_zero, List.getElem_cons_succ, List.setIfInBounds_toArray, List.set_cons_zero, List.set_cons_succ]
          refine wpAnyH_take (i := 7) (v := ?_) rfl (by kernel_rfl) (by kernel_rfl) (by kernel_rfl) (fun _ _ _ h => h) (Or.inl ⟨by rfl, ?_⟩) hHeld ?_
          rotate_left
          · (intro w hSw; (first | have hc := pick_row hSw atM9 rfl ka hka | have hc := pick_row hSw.1 atM9 rfl ka hka | have hc := pick_row hSw.2 atM9 rfl ka hka); go_simp; try with_reducible rfl)
          try simp only [Act.put, List.getElem_toArray, List.getElem_cons_zero, List.getElem_cons_succ, List.setIfInBounds_toArray, List.set_cons_zero, List.set_cons_succ]
          refine wpAnyH_take (i := 8) (v := ?_) rfl (by kernel_rfl) (by kernel_rfl) (by kernel_rfl) (fun _ _ _ h => h) (Or.inl ⟨by rfl, ?_⟩) hHeld ?_
          rotate_left
          · (intro w hSw; (try dsimp only at hSw); go_simp; try with_reducible rfl)
          try simp only [Act.put, List.getElem_toArray, List.getElem_cons_zero, List.getElem_cons_succ, List.setIfInBounds_toArray, List.set_cons_zero, List.set_cons_succ]
          refine wpAnyH_take (i := 9) (v := ?_) rfl (by kernel_rfl) (by kernel_rfl) (by kernel_rfl) (fun _ _ _ h => h) (Or.inl ⟨by rfl, ?_⟩) hHeld ?_
          rotate_left
          · (intro w hSw; (try dsimp only at hSw); go_simp; try with_reducible rfl)
          try simp only [Act.put, List.getElem_toArray, List.getElem_cons_zero, List.getElem_cons_succ, List.setIfInBounds_toArray, List.set_cons_zero, List.set_cons_succ]
          refine wpAnyH_take (i := 11) (v := ?_) rfl (by kernel_rfl) (by kernel_rfl) (by kernel_rfl) (fun _ _ _ h => h) (Or.inl ⟨by rfl, ?_⟩) hHeld ?_
          rotate_left
          · (intro w hSw; (try dsimp only at hSw); go_simp; try with_reducible rfl)
          try simp only [Act.put, List.getElem_toArray, List.getElem_cons_zero, List.getElem_cons_succ, List.setIfInBounds_toArray, List.set_cons_zero, List.set_cons_succ]
          refine wpAnyH_take (i := 12) (v := ?_) rfl (by kernel_rfl) (by kernel_rfl) (by kernel_rfl) (fun _ _ _ h => h) (Or.inl ⟨by rfl, ?_⟩) hHeld ?_
          rotate_left
          · (intro w hSw; (try dsimp only at hSw); go_simp; try with_reducible rfl)
          try simp only [Act.put, List.getElem_toArray, List.getElem_cons_zero, List.getElem_cons_succ, List.setIfInBounds_toArray, List.set_cons_zero, List.set_cons_succ]
          refine wpAnyH_take (i := 14) (v := ?_) rfl (by kernel_rfl) (by kernel_rfl) (by kernel_rfl) (fun _ _ _ h => h) (Or.inl ⟨by rfl, ?_⟩) hHeld ?_
          rotate_left
          · (intro w hSw; (try dsimp only at hSw); go_simp; try with_reducible rfl)
          try simp only [Act.put, List.getElem_toArray, List.getElem_cons_zero, List.getElem_cons_succ, List.setIfInBounds_toArray, List.set_cons_zero, List.set_cons_succ]
          refine wpAnyH_take (i := 15) (v := ?_) rfl (by kernel_rfl) (by kernel_rfl) (by kernel_rfl) (fun _ _ _ h => h) (Or.inl ⟨by rfl, ?_⟩) hHeld ?_
          rotate_left
          · (intro w hSw; (try dsimp only at hSw); go_simp; try with_reducible rfl)
          try simp only [Act.put, List.getElem_toArray, List.getElem_cons_zero, List.getElem_cons_succ, List.setIfInBounds_toArray, List.set_cons_zero, List.set_cons_succ]
          refine wpAnyH_ready (rs := [16, 18]) (by kernel_rfl) (by simp) ?_
          refine AllReadyH.cons rfl (fun K hK => ?_) (AllReadyH.cons rfl (fun K hK => ?_) (AllReadyH.nil))
          · skip
            have nn : ((v6).alloc (Obj.cells #[.string ⟨#[]⟩, .string ⟨#[32, 99, 61, 34, 49, 34]⟩] 9)).heap.size = v6.heap.size + 1 := by simp
            have hX := heap_at nn (Obj.cells #[.string ⟨#[]⟩, .string ⟨#[10]⟩, .string ⟨#[60, 104, 114, 47, 62]⟩] 9)
            have hA := carry_alloc hA (Obj.cells #[.string ⟨#[]⟩, .string ⟨#[10]⟩, .string ⟨#[60, 104, 114, 47, 62]⟩] 9)
            have lhX : v6.heap.size + 1 ≠ b := by have := hNN.lt; rw [nn] at this; omega
            have hNN := hNN.call (blw (Below.refl _ _) (Obj.cells #[.string ⟨#[]⟩, .string ⟨#[10]⟩, .string ⟨#[60, 104, 114, 47, 62]⟩] 9))
            have hGG := chg_trans hGG (chg_below (b := b) (blw (Below.refl _ _) (Obj.cells #[.string ⟨#[]⟩, .string ⟨#[10]⟩, .string ⟨#[60, 104, 114, 47, 62]⟩] 9)))
            clear nn
            go_simp
            refine hK.out _ _ (hA) (fun hHeld => ?_)
            clear hK K
            try simp only [Act.put, List.getElem_toArray, List.getElem_cons_zero, List.getElem_cons_succ, List.setIfInBounds_toArray, List.set_cons_zero, List.set_cons_succ]
            refine wpAnyH_mono (S' := fun W : World => W.heap[v6.heap.size]? = some (Obj.cells #[.string ⟨#[]⟩, .string ⟨#[32, 99, 61, 34, 49, 34]⟩] 9 (0, 0)) ∧ W.heap[v6.heap.size + 1]? = some (Obj.cells #[.string ⟨#[]⟩, .string ⟨#[10]⟩, .string ⟨#[60, 104, 114, 47, 62]⟩] 9 (0, 0))) (fun _ h => h.1) _ _ _ _ ?_
            have hHeld : (fun W : World => W.heap[v6.heap.size]? = some (Obj.cells #[.string ⟨#[]⟩, .string ⟨#[32, 99, 61, 34, 49, 34]⟩] 9 (0, 0)) ∧ W.heap[v6.heap.size + 1]? = some (Obj.cells #[.string ⟨#[]⟩, .string ⟨#[10]⟩, .string ⟨#[60, 104, 114, 47, 62]⟩] 9 (0, 0))) _ := ⟨hA, hX⟩
            refine wpAnyH_ready (rs := [18]) (by kernel_rfl) (by simp) ?_
            refine AllReadyH.cons rfl (fun K hK => ?_) (AllReadyH.nil)
            · skip
              go_simp
              refine (HN4.out _ hNN).mono ?_; rintro e v7 ⟨rfl, hg, hNN⟩
              have hGG := chg_trans hGG hg
              have hA := carry_next hA hg lhA
              have hX := carry_next hX hg lhX
              clear hg
              go_wp2_with fail
              refine hK.out _ _ (⟨hA, hX⟩) (fun hHeld => ?_)
              clear hK K
              try simp only [Act.put, List.getElem_toArray, List.getElem_cons_zero, List.getElem_cons_succ, List.setIfInBounds_toArray, List.set_cons_zero, List.set_cons_succ]
              refine wpAnyH_take (i := 19) (v := ?_) rfl (by kernel_rfl) (by kernel_rfl) (by kernel_rfl) (fun _ _ _ h => h) (Or.inl ⟨by rfl, ?_⟩) hHeld ?_
              rotate_left
              · (intro w hSw; (try dsimp only at hSw); go_simp; try with_reducible rfl)
              try simp only [Act.put, List.getElem_toArray, List.getElem_cons_zero, List.getElem_cons_succ, List.setIfInBounds_toArray, List.set_cons_zero, List.set_cons_succ]
              refine wpAnyH_take (i := 20) (v := ?_) rfl (by kernel_rfl) (by kernel_rfl) (by kernel_rfl) (fun _ _ _ h => h) (Or.inl ⟨by rfl, ?_⟩) hHeld ?_
              rotate_left
              · (intro w hSw; (first | have hc := pick_row hSw tlM9 rfl kt hkt | have hc := pick_row hSw.1 tlM9 rfl kt hkt | have hc := pick_row hSw.2 tlM9 rfl kt hkt); go_simp; try with_reducible rfl)
              try simp only [Act.put, List.getElem_toArray, List.getElem_cons_zero, List.getElem_cons_succ, List.setIfInBounds_toArray, List.set_cons_zero, List.set_cons_succ]
              refine wpAnyH_take (i := 21) (v := ?_) rfl (by kernel_rfl) (by kernel_rfl) (by kernel_rfl) (fun _ _ _ h => h) (Or.inl ⟨by rfl, ?_⟩) hHeld ?_
              rotate_left
              · (intro w hSw; (try dsimp only at hSw); go_simp; try with_reducible rfl)
              try simp only [Act.put, List.getElem_toArray, List.getElem_cons_zero, List.getElem_cons_succ, List.setIfInBounds_toArray, List.set_cons_zero, List.set_cons_succ]
              refine wpAnyH_take (i := 22) (v := ?_) rfl (by kernel_rfl) (by kernel_rfl) (by kernel_rfl) (fun _ _ _ h => h) (Or.inl ⟨by rfl, ?_⟩) hHeld ?_
              rotate_left
              · (intro w hSw; (try dsimp only at hSw); go_simp; try with_reducible rfl)
              try simp only [Act.put, List.getElem_toArray, List.getElem_cons_zero, List.getElem_cons_succ, List.setIfInBounds_toArray, List.set_cons_zero, List.set_cons_succ]
              refine wpAnyH_ready (rs := [23]) (by kernel_rfl) (by simp) ?_
              refine AllReadyH.cons rfl (fun K hK => ?_) AllReadyH.nil
              go_simp
              refine hK.out _ _ (⟨hA, hX⟩) (fun hHeld => ?_)
              clear hK K
              refine wpAnyH_done (by kernel_rfl) ?_ _
              go_wp2_with fail
              go_roundw
              case rel => exact ⟨n, m2 + 2 + 1, _, by omega, by first | go_num | (congr 1; omega), rfl, HNX, hlen, by omega, hGG, hNN⟩
              case measure => simp [intOf]
          · skip
            go_simp
            refine (HN4.out _ hNN).mono ?_; rintro e v8 ⟨rfl, hg, hNN⟩
            have hGG := chg_trans hGG hg
            have hA := carry_next hA hg lhA
            clear hg
            go_wp2_with fail
            refine hK.out _ _ (hA) (fun hHeld => ?_)
            clear hK K
            try simp only [Act.put, List.getElem_toArray, List.getElem_cons_zero, List.getElem_cons_succ, List.setIfInBounds_toArray, List.set_cons_zero, List.set_cons_succ]
            refine wpAnyH_ready (rs := [16]) (by kernel_rfl) (by simp) ?_
            refine AllReadyH.cons rfl (fun K hK => ?_) (AllReadyH.nil)
            · skip
              have nn : (v8).heap.size = v8.heap.size := by simp
              have hX := heap_at nn (Obj.cells #[.string ⟨#[]⟩, .string ⟨#[10]⟩, .string ⟨#[60, 104, 114, 47, 62]⟩] 9)
              have hA := carry_alloc hA (Obj.cells #[.string ⟨#[]⟩, .string ⟨#[10]⟩, .string ⟨#[60, 104, 114, 47, 62]⟩] 9)
              have lhX : v8.heap.size ≠ b := by have := hNN.lt; rw [nn] at this; omega
              have hNN := hNN.call (blw (Below.refl _ _) (Obj.cells #[.string ⟨#[]⟩, .string ⟨#[10]⟩, .string ⟨#[60, 104, 114, 47, 62]⟩] 9))
              have hGG := chg_trans hGG (chg_below (b := b) (blw (Below.refl _ _) (Obj.cells #[.string ⟨#[]⟩, .string ⟨#[10]⟩, .string ⟨#[60, 104, 114, 47, 62]⟩] 9)))
              clear nn
              go_simp
              refine hK.out _ _ (hA) (fun hHeld => ?_)
              clear hK K
              try simp only [Act.put, List.getElem_toArray, List.getElem_cons_zero, List.getElem_cons_succ, List.setIfInBounds_toArray, List.set_cons_zero, List.set_cons_succ]
              refine wpAnyH_mono (S' := fun W : World => W.heap[v6.heap.size]? = some (Obj.cells #[.string ⟨#[]⟩, .string ⟨#[32, 99, 61, 34, 49, 34]⟩] 9 (0, 0)) ∧ W.heap[v8.heap.size]? = some (Obj.cells #[.string ⟨#[]⟩, .string ⟨#[10]⟩, .string ⟨#[60, 104, 114, 47, 62]⟩] 9 (0, 0))) (fun _ h => h.1) _ _ _ _ ?_
              have hHeld : (fun W : World => W.heap[v6.heap.size]? = some (Obj.cells #[.string ⟨#[]⟩, .string ⟨#[32, 99, 61, 34, 49, 34]⟩] 9 (0, 0)) ∧ W.heap[v8.heap.size]? = some (Obj.cells #[.string ⟨#[]⟩, .string ⟨#[10]⟩, .string ⟨#[60, 104, 114, 47, 62]⟩] 9 (0, 0))) _ := ⟨hA, hX⟩
              refine wpAnyH_take (i := 19) (v := ?_) rfl (by kernel_rfl) (by kernel_rfl) (by kernel_rfl) (fun _ _ _ h => h) (Or.inl ⟨by rfl, ?_⟩) hHeld ?_
              rotate_left
              · (intro w hSw; (try dsimp only at hSw); go_simp; try with_reducible rfl)
              try simp only [Act.put, List.getElem_toArray, List.getElem_cons_zero, List.getElem_cons_succ, List.setIfInBounds_toArray, List.set_cons_zero, List.set_cons_succ]
              refine wpAnyH_take (i := 20) (v := ?_) rfl (by kernel_rfl) (by kernel_rfl) (by kernel_rfl) (fun _ _ _ h => h) (Or.inl ⟨by rfl, ?_⟩) hHeld ?_
              rotate_left
              · (intro w hSw; (first | have hc := pick_row hSw tlM9 rfl kt hkt | have hc := pick_row hSw.1 tlM9 rfl kt hkt | have hc := pick_row hSw.2 tlM9 rfl kt hkt); go_simp; try with_reducible rfl)
              try simp only [Act.put, List.getElem_toArray, List.getElem_cons_zero, List.getElem_cons_succ, List.setIfInBounds_toArray, List.set_cons_zero, List.set_cons_succ]
              refine wpAnyH_take (i := 21) (v := ?_) rfl (by kernel_rfl) (by kernel_rfl) (by kernel_rfl) (fun _ _ _ h => h) (Or.inl ⟨by rfl, ?_⟩) hHeld ?_
              rotate_left
              · (intro w hSw; (try dsimp only at hSw); go_simp; try with_reducible rfl)
              try simp only [Act.put, List.getElem_toArray, List.getElem_cons_zero, List.getElem_cons_succ, List.setIfInBounds_toArray, List.set_cons_zero, List.set_cons_succ]
              refine wpAnyH_take (i := 22) (v := ?_) rfl (by kernel_rfl) (by kernel_rfl) (by kernel_rfl) (fun _ _ _ h => h) (Or.inl ⟨by rfl, ?_⟩) hHeld ?_
              rotate_left
              · (intro w hSw; (try dsimp only at hSw); go_simp; try with_reducible rfl)
              try simp only [Act.put, List.getElem_toArray, List.getElem_cons_zero, List.getElem_cons_succ, List.setIfInBounds_toArray, List.set_cons_zero, List.set_cons_succ]
              refine wpAnyH_ready (rs := [23]) (by kernel_rfl) (by simp) ?_
              refine AllReadyH.cons rfl (fun K hK => ?_) AllReadyH.nil
              go_simp
              refine hK.out _ _ (⟨hA, hX⟩) (fun hHeld => ?_)
              clear hK K
              refine wpAnyH_done (by kernel_rfl) ?_ _
              go_wp2_with fail
              go_roundw
              case rel => exact ⟨n, m2 + 2 + 1, _, by omega, by first | go_num | (congr 1; omega), rfl, HNX, hlen, by omega, hGG, hNN⟩
              case measure => simp [intOf]
        · skip
          have nn : (v6).heap.size = v6.heap.size := by simp
          have hX := heap_at nn (Obj.cells #[.string ⟨#[]⟩, .string ⟨#[10]⟩, .string ⟨#[60, 104, 114, 47, 62]⟩] 9)
          have lhX : v6.heap.size ≠ b := by have := hNN.lt; rw [nn] at this; omega
          have hNN := hNN.call (blw (Below.refl _ _) (Obj.cells #[.string ⟨#[]⟩, .string ⟨#[10]⟩, .string ⟨#[60, 104, 114, 47, 62]⟩] 9))
          have hGG := chg_trans hGG (chg_below (b := b) (blw (Below.refl _ _) (Obj.cells #[.string ⟨#[]⟩, .string ⟨#[10]⟩, .string ⟨#[60, 104, 114, 47, 62]⟩] 9)))
          clear nn
          go_simp
          refine hK.out _ _ (trivial) (fun hHeld => ?_)
          clear hK K
          try simp only [Act.put, List.getElem_toArray, List.getElem_cons_zero, List.getElem_cons_succ, List.setIfInBounds_toArray, List.set_cons_zero, List.set_cons_succ]
          refine wpAnyH_mono (S' := fun W : World => W.heap[v6.heap.size]? = some (Obj.cells #[.string ⟨#[]⟩, .string ⟨#[10]⟩, .string ⟨#[60, 104, 114, 47, 62]⟩] 9 (0, 0))) (fun _ _ => trivial) _ _ _ _ ?_
          have hHeld : (fun W : World => W.heap[v6.heap.size]? = some (Obj.cells #[.string ⟨#[]⟩, .string ⟨#[10]⟩, .string ⟨#[60, 104, 114, 47, 62]⟩] 9 (0, 0))) _ := hX
          refine wpAnyH_ready (rs := [3, 18]) (by kernel_rfl) (by simp) ?_
          refine AllReadyH.cons rfl (fun K hK => ?_) (AllReadyH.cons rfl (fun K hK => ?_) (AllReadyH.nil))
          · skip
            have nn : ((v6).alloc (Obj.cells #[.string ⟨#[]⟩, .string ⟨#[10]⟩, .string ⟨#[60, 104, 114, 47, 62]⟩] 9)).heap.size = v6.heap.size + 1 := by simp
            have hA := heap_at nn (Obj.cells #[.string ⟨#[]⟩, .string ⟨#[32, 99, 61, 34, 49, 34]⟩] 9)
            have hX := carry_alloc hX (Obj.cells #[.string ⟨#[]⟩, .string ⟨#[32, 99, 61, 34, 49, 34]⟩] 9)
            have lhA : v6.heap.size + 1 ≠ b := by have := hNN.lt; rw [nn] at this; omega
            have hNN := hNN.call (blw (Below.refl _ _) (Obj.cells #[.string ⟨#[]⟩, .string ⟨#[32, 99, 61, 34, 49, 34]⟩] 9))
            have hGG := chg_trans hGG (chg_below (b := b) (blw (Below.refl _ _) (Obj.cells #[.string ⟨#[]⟩, .string ⟨#[32, 99, 61, 34, 49, 34]⟩] 9)))
            clear nn
            go_simp
            refine hK.out _ _ (hX) (fun hHeld => ?_)
            clear hK K
            try simp only [Act.put, List.getElem_toArray, List.getElem_cons_zero, List.getElem_cons_succ, List.setIfInBounds_toArray, List.set_cons_zero, List.set_cons_succ]
            refine wpAnyH_mono (S' := fun W : World => W.heap[v6.heap.size]? = some (Obj.cells #[.string ⟨#[]⟩, .string ⟨#[10]⟩, .string ⟨#[60, 104, 114, 47, 62]⟩] 9 (0, 0)) ∧ W.heap[v6.heap.size + 1]? = some (Obj.cells #[.string ⟨#[]⟩, .string ⟨#[32, 99, 61, 34, 49, 34]⟩] 9 (0, 0))) (fun _ h => h.1) _ _ _ _ ?_
            have hHeld : (fun W : World => W.heap[v6.heap.size]? = some (Obj.cells #[.string ⟨#[]⟩, .string ⟨#[10]⟩, .string ⟨#[60, 104, 114, 47, 62]⟩] 9 (0, 0)) ∧ W.heap[v6.heap.size + 1]? = some (Obj.cells #[.string ⟨#[]⟩, .string ⟨#[32, 99, 61, 34, 49, 34]⟩] 9 (0, 0))) _ := ⟨hX, hA⟩
            refine wpAnyH_take (i := 6) (v := ?_) rfl (by kernel_rfl) (by kernel_rfl) (by kernel_rfl) (fun _ _ _ h => h) (Or.inl ⟨by rfl, ?_⟩) hHeld ?_
            rotate_left
            · (intro w hSw; (try dsimp only at hSw); go_simp; try with_reducible rfl)
            try simp only [Act.put, List.getElem_toArray, List.getElem_cons_zero, List.getElem_cons_succ, List.setIfInBounds_toArray, List.set_cons_zero, List.set_cons_succ]
            refine wpAnyH_take (i := 7) (v := ?_) rfl (by kernel_rfl) (by kernel_rfl) (by kernel_rfl) (fun _ _ _ h => h) (Or.inl ⟨by rfl, ?_⟩) hHeld ?_
            rotate_left
            · (intro w hSw; (first | have hc := pick_row hSw atM9 rfl ka hka | have hc := pick_row hSw.1 atM9 rfl ka hka | have hc := pick_row hSw.2 atM9 rfl ka hka); go_simp; try with_reducible rfl)
            try simp only [Act.put, List.getElem_toArray, List.getElem_cons_zero, List.getElem_cons_succ, List.setIfInBounds_toArray, List.set_cons_zero, List.set_cons_succ]
            refine wpAnyH_take (i := 8) (v := ?_) rfl (by kernel_rfl) (by kernel_rfl) (by kernel_rfl) (fun _ _ _ h => h) (Or.inl ⟨by rfl, ?_⟩) hHeld ?_
            rotate_left
            · (intro w hSw; (try dsimp only at hSw); go_simp; try with_reducible rfl)
            try simp only [Act.put, List.getElem_toArray, List.getElem_cons_zero, List.getElem_cons_succ, List.setIfInBounds_toArray, List.set_cons_zero, List.set_cons_succ]
            refine wpAnyH_take (i := 9) (v := ?_) rfl (by kernel_rfl) (by kernel_rfl) (by kernel_rfl) (fun _ _ _ h => h) (Or.inl ⟨by rfl, ?_⟩) hHeld ?_
            rotate_left
            · (intro w hSw; (try dsimp only at hSw); go_simp; try with_reducible rfl)
            try simp only [Act.put, List.getElem_toArray, List.getElem_cons_zero, List.getElem_cons_succ, List.setIfInBounds_toArray, List.set_cons_zero, List.set_cons_succ]
            refine wpAnyH_take (i := 11) (v := ?_) rfl (by kernel_rfl) (by kernel_rfl) (by kernel_rfl) (fun _ _ _ h => h) (Or.inl ⟨by rfl, ?_⟩) hHeld ?_
            rotate_left
            · (intro w hSw; (try dsimp only at hSw); go_simp; try with_reducible rfl)
            try simp only [Act.put, List.getElem_toArray, List.getElem_cons_zero, List.getElem_cons_succ, List.setIfInBounds_toArray, List.set_cons_zero, List.set_cons_succ]
            refine wpAnyH_take (i := 12) (v := ?_) rfl (by kernel_rfl) (by kernel_rfl) (by kernel_rfl) (fun _ _ _ h => h) (Or.inl ⟨by rfl, ?_⟩) hHeld ?_
            rotate_left
            · (intro w hSw; (try dsimp only at hSw); go_simp; try with_reducible rfl)
            try simp only [Act.put, List.getElem_toArray, List.getElem_cons_zero, List.getElem_cons_succ, List.setIfInBounds_toArray, List.set_cons_zero, List.set_cons_succ]
            refine wpAnyH_take (i := 14) (v := ?_) rfl (by kernel_rfl) (by kernel_rfl) (by kernel_rfl) (fun _ _ _ h => h) (Or.inl ⟨by rfl, ?_⟩) hHeld ?_
            rotate_left
            · (intro w hSw; (try dsimp only at hSw); go_simp; try with_reducible rfl)
            try simp only [Act.put, List.getElem_toArray, List.getElem_cons_zero, List.getElem_cons_succ, List.setIfInBounds_toArray, List.set_cons_zero, List.set_cons_succ]
            refine wpAnyH_take (i := 15) (v := ?_) rfl (by kernel_rfl) (by kernel_rfl) (by kernel_rfl) (fun _ _ _ h => h) (Or.inl ⟨by rfl, ?_⟩) hHeld ?_
            rotate_left
            · (intro w hSw; (try dsimp only at hSw); go_simp; try with_reducible rfl)
            try simp only [Act.put, List.getElem_toArray, List.getElem_cons_zero, List.getElem_cons_succ, List.setIfInBounds_toArray, List.set_cons_zero, List.set_cons_succ]
            refine wpAnyH_ready (rs := [18]) (by kernel_rfl) (by simp) ?_
            refine AllReadyH.cons rfl (fun K hK => ?_) (AllReadyH.nil)
            · skip
              go_simp
              refine (HN4.out _ hNN).mono ?_; rintro e v9 ⟨rfl, hg, hNN⟩
              have hGG := chg_trans hGG hg
              have hX := carry_next hX hg lhX
              have hA := carry_next hA hg lhA
              clear hg
              go_wp2_with fail
              refine hK.out _ _ (⟨hX, hA⟩) (fun hHeld => ?_)
              clear hK K
              try simp only [Act.put, List.getElem_toArray, List.getElem_cons_zero, List.getElem_cons_succ, List.setIfInBounds_toArray, List.set_cons_zero, List.set_cons_succ]
              refine wpAnyH_take (i := 19) (v := ?_) rfl (by kernel_rfl) (by kernel_rfl) (by kernel_rfl) (fun _ _ _ h => h) (Or.inl ⟨by rfl, ?_⟩) hHeld ?_
              rotate_left
              · (intro w hSw; (try dsimp only at hSw); go_simp; try with_reducible rfl)
              try simp only [Act.put, List.getElem_toArray, List.getElem_cons_zero, List.getElem_cons_succ, List.setIfInBounds_toArray, List.set_cons_zero, List.set_cons_succ]
              refine wpAnyH_take (i := 20) (v := ?_) rfl (by kernel_rfl) (by kernel_rfl) (by kernel_rfl) (fun _ _ _ h => h) (Or.inl ⟨by rfl, ?_⟩) hHeld ?_
              rotate_left
              · (intro w hSw; (first | have hc := pick_row hSw tlM9 rfl kt hkt | have hc := pick_row hSw.1 tlM9 rfl kt hkt | have hc := pick_row hSw.2 tlM9 rfl kt hkt); go_simp; try with_reducible rfl)
              try simp only [Act.put, List.getElem_toArray, List.getElem_cons_zero, List.getElem_cons_succ, List.setIfInBounds_toArray, List.set_cons_zero, List.set_cons_succ]
              refine wpAnyH_take (i := 21) (v := ?_) rfl (by kernel_rfl) (by kernel_rfl) (by kernel_rfl) (fun _ _ _ h => h) (Or.inl ⟨by rfl, ?_⟩) hHeld ?_
              rotate_left
              · (intro w hSw; (try dsimp only at hSw); go_simp; try with_reducible rfl)
              try simp only [Act.put, List.getElem_toArray, List.getElem_cons_zero, List.getElem_cons_succ, List.setIfInBounds_toArray, List.set_cons_zero, List.set_cons_succ]
              refine wpAnyH_take (i := 22) (v := ?_) rfl (by kernel_rfl) (by kernel_rfl) (by kernel_rfl) (fun _ _ _ h => h) (Or.inl ⟨by rfl, ?_⟩) hHeld ?_
              rotate_left
              · (intro w hSw; (try dsimp only at hSw); go_simp; try with_reducible rfl)
              try simp only [Act.put, List.getElem_toArray, List.getElem_cons_zero, List.getElem_cons_succ, List.setIfInBounds_toArray, List.set_cons_zero, List.set_cons_succ]
              refine wpAnyH_ready (rs := [23]) (by kernel_rfl) (by simp) ?_
              refine AllReadyH.cons rfl (fun K hK => ?_) AllReadyH.nil
              go_simp
              refine hK.out _ _ (⟨hX, hA⟩) (fun hHeld => ?_)
              clear hK K
              refine wpAnyH_done (by kernel_rfl) ?_ _
              go_wp2_with fail
              go_roundw
              case rel => exact ⟨n, m2 + 2 + 1, _, by omega, by first | go_num | (congr 1; omega), rfl, HNX, hlen, by omega, hGG, hNN⟩
              case measure => simp [intOf]
          · skip
            go_simp
            refine (HN4.out _ hNN).mono ?_; rintro e v10 ⟨rfl, hg, hNN⟩
            have hGG := chg_trans hGG hg
            have hX := carry_next hX hg lhX
            clear hg
            go_wp2_with fail
            refine hK.out _ _ (hX) (fun hHeld => ?_)
            clear hK K
            try simp only [Act.put, List.getElem_toArray, List.getElem_cons_zero, List.getElem_cons_succ, List.setIfInBounds_toArray, List.set_cons_zero, List.set_cons_succ]
            refine wpAnyH_take (i := 19) (v := ?_) rfl (by kernel_rfl) (by kernel_rfl) (by kernel_rfl) (fun _ _ _ h => h) (Or.inl ⟨by rfl, ?_⟩) hHeld ?_
            rotate_left
            · (intro w hSw; (try dsimp only at hSw); go_simp; try with_reducible rfl)
            try simp only [Act.put, List.getElem_toArray, List.getElem_cons_zero, List.getElem_cons_succ, List.setIfInBounds_toArray, List.set_cons_zero, List.set_cons_succ]
            refine wpAnyH_take (i := 20) (v := ?_) rfl (by kernel_rfl) (by kernel_rfl) (by kernel_rfl) (fun _ _ _ h => h) (Or.inl ⟨by rfl, ?_⟩) hHeld ?_
            rotate_left
            · (intro w hSw; (first | have hc := pick_row hSw tlM9 rfl kt hkt | have hc := pick_row hSw.1 tlM9 rfl kt hkt | have hc := pick_row hSw.2 tlM9 rfl kt hkt); go_simp; try with_reducible rfl)
            try simp only [Act.put, List.getElem_toArray, List.getElem_cons_zero, List.getElem_cons_succ, List.setIfInBounds_toArray, List.set_cons_zero, List.set_cons_succ]
            refine wpAnyH_ready (rs := [3]) (by kernel_rfl) (by simp) ?_
            refine AllReadyH.cons rfl (fun K hK => ?_) (AllReadyH.nil)
            · skip
              have nn : (v10).heap.size = v10.heap.size := by simp
              have hA := heap_at nn (Obj.cells #[.string ⟨#[]⟩, .string ⟨#[32, 99, 61, 34, 49, 34]⟩] 9)
              have hX := carry_alloc hX (Obj.cells #[.string ⟨#[]⟩, .string ⟨#[32, 99, 61, 34, 49, 34]⟩] 9)
              have lhA : v10.heap.size ≠ b := by have := hNN.lt; rw [nn] at this; omega
              have hNN := hNN.call (blw (Below.refl _ _) (Obj.cells #[.string ⟨#[]⟩, .string ⟨#[32, 99, 61, 34, 49, 34]⟩] 9))
              have hGG := chg_trans hGG (chg_below (b := b) (blw (Below.refl _ _) (Obj.cells #[.string ⟨#[]⟩, .string ⟨#[32, 99, 61, 34, 49, 34]⟩] 9)))
              clear nn
              go_simp
              refine hK.out _ _ (hX) (fun hHeld => ?_)
              clear hK K
              try simp only [Act.put, List.getElem_toArray, List.getElem_cons_zero, List.getElem_cons_succ, List.setIfInBounds_toArray, List.set_cons_zero, List.set_cons_succ]
              refine wpAnyH_mono (S' := fun W : World => W.heap[v6.heap.size]? = some (Obj.cells #[.string ⟨#[]⟩, .string ⟨#[10]⟩, .string ⟨#[60, 104, 114, 47, 62]⟩] 9 (0, 0)) ∧ W.heap[v10.heap.size]? = some (Obj.cells #[.string ⟨#[]⟩, .string ⟨#[32, 99, 61, 34, 49, 34]⟩] 9 (0, 0))) (fun _ h => h.1) _ _ _ _ ?_
              have hHeld : (fun W : World => W.heap[v6.heap.size]? = some (Obj.cells #[.string ⟨#[]⟩, .string ⟨#[10]⟩, .string ⟨#[60, 104, 114, 47, 62]⟩] 9 (0, 0)) ∧ W.heap[v10.heap.size]? = some (Obj.cells #[.string ⟨#[]⟩, .string ⟨#[32, 99, 61, 34, 49, 34]⟩] 9 (0, 0))) _ := ⟨hX, hA⟩
              refine wpAnyH_take (i := 6) (v := ?_) rfl (by kernel_rfl) (by kernel_rfl) (by kernel_rfl) (fun _ _ _ h => h) (Or.inl ⟨by rfl, ?_⟩) hHeld ?_
              rotate_left
              · (intro w hSw; (try dsimp only at hSw); go_simp; try with_reducible rfl)
              try simp only [Act.put, List.getElem_toArray, List.getElem_cons_zero, List.getElem_cons_succ, List.setIfInBounds_toArray, List.set_cons_zero, List.set_cons_succ]
              refine wpAnyH_take (i := 7) (v := ?_) rfl (by kernel_rfl) (by kernel_rfl) (by kernel_rfl) (fun _ _ _ h => h) (Or.inl ⟨by rfl, ?_⟩) hHeld ?_
              rotate_left
              · (intro w hSw; (first | have hc := pick_row hSw atM9 rfl ka hka | have hc := pick_row hSw.1 atM9 rfl ka hka | have hc := pick_row hSw.2 atM9 rfl ka hka); go_simp; try with_reducible rfl)
              try simp only [Act.put, List.getElem_toArray, List.getElem_cons_zero, List.getElem_cons_succ, List.setIfInBounds_toArray, List.set_cons_zero, List.set_cons_succ]
              refine wpAnyH_take (i := 8) (v := ?_) rfl (by kernel_rfl) (by kernel_rfl) (by kernel_rfl) (fun _ _ _ h => h) (Or.inl ⟨by rfl, ?_⟩) hHeld ?_
              rotate_left
              · (intro w hSw; (try dsimp only at hSw); go_simp; try with_reducible rfl)
              try simp only [Act.put, List.getElem_toArray, List.getElem_cons_zero, List.getElem_cons_succ, List.setIfInBounds_toArray, List.set_cons_zero, List.set_cons_succ]
              refine wpAnyH_take (i := 9) (v := ?_) rfl (by kernel_rfl) (by kernel_rfl) (by kernel_rfl) (fun _ _ _ h => h) (Or.inl ⟨by rfl, ?_⟩) hHeld ?_
              rotate_left
              · (intro w hSw; (try dsimp only at hSw); go_simp; try with_reducible rfl)
              try simp only [Act.put, List.getElem_toArray, List.getElem_cons_zero, List.getElem_cons_succ, List.setIfInBounds_toArray, List.set_cons_zero, List.set_cons_succ]
              refine wpAnyH_take (i := 11) (v := ?_) rfl (by kernel_rfl) (by kernel_rfl) (by kernel_rfl) (fun _ _ _ h => h) (Or.inl ⟨by rfl, ?_⟩) hHeld ?_
              rotate_left
              · (intro w hSw; (try dsimp only at hSw); go_simp; try with_reducible rfl)
              try simp only [Act.put, List.getElem_toArray, List.getElem_cons_zero, List.getElem_cons_succ, List.setIfInBounds_toArray, List.set_cons_zero, List.set_cons_succ]
              refine wpAnyH_take (i := 12) (v := ?_) rfl (by kernel_rfl) (by kernel_rfl) (by kernel_rfl) (fun _ _ _ h => h) (Or.inl ⟨by rfl, ?_⟩) hHeld ?_
              rotate_left
              · (intro w hSw; (try dsimp only at hSw); go_simp; try with_reducible rfl)
              try simp only [Act.put, List.getElem_toArray, List.getElem_cons_zero, List.getElem_cons_succ, List.setIfInBounds_toArray, List.set_cons_zero, List.set_cons_succ]
              refine wpAnyH_take (i := 14) (v := ?_) rfl (by kernel_rfl) (by kernel_rfl) (by kernel_rfl) (fun _ _ _ h => h) (Or.inl ⟨by rfl, ?_⟩) hHeld ?_
              rotate_left
              · (intro w hSw; (try dsimp only at hSw); go_simp; try with_reducible rfl)
              try simp only [Act.put, List.getElem_toArray, List.getElem_cons_zero, List.getElem_cons_succ, List.setIfInBounds_toArray, List.set_cons_zero, List.set_cons_succ]
              refine wpAnyH_take (i := 15) (v := ?_) rfl (by kernel_rfl) (by kernel_rfl) (by kernel_rfl) (fun _ _ _ h => h) (Or.inl ⟨by rfl, ?_⟩) hHeld ?_
              rotate_left
              · (intro w hSw; (try dsimp only at hSw); go_simp; try with_reducible rfl)
              try simp only [Act.put, List.getElem_toArray, List.getElem_cons_zero, List.getElem_cons_succ, List.setIfInBounds_toArray, List.set_cons_zero, List.set_cons_succ]
              refine wpAnyH_take (i := 21) (v := ?_) rfl (by kernel_rfl) (by kernel_rfl) (by kernel_rfl) (fun _ _ _ h => h) (Or.inl ⟨by rfl, ?_⟩) hHeld ?_
              rotate_left
              · (intro w hSw; (try dsimp only at hSw); go_simp; try with_reducible rfl)
              try simp only [Act.put, List.getElem_toArray, List.getElem_cons_zero, List.getElem_cons_succ, List.setIfInBounds_toArray, List.set_cons_zero, List.set_cons_succ]
              refine wpAnyH_take (i := 22) (v := ?_) rfl (by kernel_rfl) (by kernel_rfl) (by kernel_rfl) (fun _ _ _ h => h) (Or.inl ⟨by rfl, ?_⟩) hHeld ?_
              rotate_left
              · (intro w hSw; (try dsimp only at hSw); go_simp; try with_reducible rfl)
              try simp only [Act.put, List.getElem_toArray, List.getElem_cons_zero, List.getElem_cons_succ, List.setIfInBounds_toArray, List.set_cons_zero, List.set_cons_succ]
              refine wpAnyH_ready (rs := [23]) (by kernel_rfl) (by simp) ?_
              refine AllReadyH.cons rfl (fun K hK => ?_) AllReadyH.nil
              go_simp
              refine hK.out _ _ (⟨hX, hA⟩) (fun hHeld => ?_)
              clear hK K
              refine wpAnyH_done (by kernel_rfl) ?_ _
              go_wp2_with fail
              go_roundw
              case rel => exact ⟨n, m2 + 2 + 1, _, by omega, by first | go_num | (congr 1; omega), rfl, HNX, hlen, by omega, hGG, hNN⟩
              case measure => simp [intOf]
        · skip
          go_simp
          refine (HN4.out _ hNN).mono ?_; rintro e v11 ⟨rfl, hg, hNN⟩
          have hGG := chg_trans hGG hg
          clear hg
          go_wp2_with fail
          refine hK.out _ _ (trivial) (fun hHeld => ?_)
          clear hK K
          try simp only [Act.put, List.getElem_toArray, List.getElem_cons_zero, List.getElem_cons_succ, List.setIfInBounds_toArray, List.set_cons_zero, List.set_cons_succ]
          refine wpAnyH_ready (rs := [3, 16]) (by kernel_rfl) (by simp) ?_
          refine AllReadyH.cons rfl (fun K hK => ?_) (AllReadyH.cons rfl (fun K hK => ?_) (AllReadyH.nil))
          · skip
            have nn : (v11).heap.size = v11.heap.size := by simp
            have hA := heap_at nn (Obj.cells #[.string ⟨#[]⟩, .string ⟨#[32, 99, 61, 34, 49, 34]⟩] 9)
            have lhA : v11.heap.size ≠ b := by have := hNN.lt; rw [nn] at this; omega
            have hNN := hNN.call (blw (Below.refl _ _) (Obj.cells #[.string ⟨#[]⟩, .string ⟨#[32, 99, 61, 34, 49, 34]⟩] 9))
            have hGG := chg_trans hGG (chg_below (b := b) (blw (Below.refl _ _) (Obj.cells #[.string ⟨#[]⟩, .string ⟨#[32, 99, 61, 34, 49, 34]⟩] 9)))
            clear nn
            go_simp
            refine hK.out _ _ (trivial) (fun hHeld => ?_)
            clear hK K
            try simp only [Act.put, List.getElem_toArray, List.getElem_cons_zero, List.getElem_cons_succ, List.setIfInBounds_toArray, List.set_cons_zero, List.set_cons_succ]
            refine wpAnyH_mono (S' := fun W : World => W.heap[v11.heap.size]? = some (Obj.cells #[.string ⟨#[]⟩, .string ⟨#[32, 99, 61, 34, 49, 34]⟩] 9 (0, 0))) (fun _ _ => trivial) _ _ _ _ ?_
            have hHeld : (fun W : World => W.heap[v11.heap.size]? = some (Obj.cells #[.string ⟨#[]⟩, .string ⟨#[32, 99, 61, 34, 49, 34]⟩] 9 (0, 0))) _ := hA
            refine wpAnyH_take (i := 6) (v := ?_) rfl (by kernel_rfl) (by kernel_rfl) (by kernel_rfl) (fun _ _ _ h => h) (Or.inl ⟨by rfl, ?_⟩) hHeld ?_
            rotate_left
            · (intro w hSw; (try dsimp only at hSw); go_simp; try with_reducible rfl)
            try simp only [Act.put, List.getElem_toArray, List.getElem_cons_zero, List.getElem_cons_succ, List.setIfInBounds_toArray, List.set_cons_zero, List.set_cons_succ]
            refine wpAnyH_take (i := 7) (v := ?_) rfl (by kernel_rfl) (by kernel_rfl) (by kernel_rfl) (fun _ _ _ h => h) (Or.inl ⟨by rfl, ?_⟩) hHeld ?_
            rotate_left
            · (intro w hSw; (first | have hc := pick_row hSw atM9 rfl ka hka | have hc := pick_row hSw.1 atM9 rfl ka hka | have hc := pick_row hSw.2 atM9 rfl ka hka); go_simp; try with_reducible rfl)
            try simp only [Act.put, List.getElem_toArray, List.getElem_cons_zero, List.getElem_cons_succ, List.setIfInBounds_toArray, List.set_cons_zero, List.set_cons_succ]
            refine wpAnyH_take (i := 8) (v := ?_) rfl (by kernel_rfl) (by kernel_rfl) (by kernel_rfl) (fun _ _ _ h => h) (Or.inl ⟨by rfl, ?_⟩) hHeld ?_
            rotate_left
            · (intro w hSw; (try dsimp only at hSw); go_simp; try with_reducible rfl)
            try simp only [Act.put, List.getElem_toArray, List.getElem_cons_zero, List.getElem_cons_succ, List.setIfInBounds_toArray, List.set_cons_zero, List.set_cons_succ]
            refine wpAnyH_take (i := 9) (v := ?_) rfl (by kernel_rfl) (by kernel_rfl) (by kernel_rfl) (fun _ _ _ h => h) (Or.inl ⟨by rfl, ?_⟩) hHeld ?_
            rotate_left
            · (intro w hSw; (try dsimp only at hSw); go_simp; try with_reducible rfl)
            try simp only [Act.put, List.getElem_toArray, List.getElem_cons_zero, List.getElem_cons_succ, List.setIfInBounds_toArray, List.set_cons_zero, List.set_cons_succ]
            refine wpAnyH_take (i := 11) (v := ?_) rfl (by kernel_rfl) (by kernel_rfl) (by kernel_rfl) (fun _ _ _ h => h) (Or.inl ⟨by rfl, ?_⟩) hHeld ?_
            rotate_left
            · (intro w hSw; (try dsimp only at hSw); go_simp; try with_reducible rfl)
            try simp only [Act.put, List.getElem_toArray, List.getElem_cons_zero, List.getElem_cons_succ, List.setIfInBounds_toArray, List.set_cons_zero, List.set_cons_succ]
            refine wpAnyH_take (i := 12) (v := ?_) rfl (by kernel_rfl) (by kernel_rfl) (by kernel_rfl) (fun _ _ _ h => h) (Or.inl ⟨by rfl, ?_⟩) hHeld ?_
            rotate_left
            · (intro w hSw; (try dsimp only at hSw); go_simp; try with_reducible rfl)
            try simp only [Act.put, List.getElem_toArray, List.getElem_cons_zero, List.getElem_cons_succ, List.setIfInBounds_toArray, List.set_cons_zero, List.set_cons_succ]
            refine wpAnyH_take (i := 14) (v := ?_) rfl (by kernel_rfl) (by kernel_rfl) (by kernel_rfl) (fun _ _ _ h => h) (Or.inl ⟨by rfl, ?_⟩) hHeld ?_
            rotate_left
            · (intro w hSw; (try dsimp only at hSw); go_simp; try with_reducible rfl)
            try simp only [Act.put, List.getElem_toArray, List.getElem_cons_zero, List.getElem_cons_succ, List.setIfInBounds_toArray, List.set_cons_zero, List.set_cons_succ]
            refine wpAnyH_take (i := 15) (v := ?_) rfl (by kernel_rfl) (by kernel_rfl) (by kernel_rfl) (fun _ _ _ h => h) (Or.inl ⟨by rfl, ?_⟩) hHeld ?_
            rotate_left
            · (intro w hSw; (try dsimp only at hSw); go_simp; try with_reducible rfl)
            try simp only [Act.put, List.getElem_toArray, List.getElem_cons_zero, List.getElem_cons_succ, List.setIfInBounds_toArray, List.set_cons_zero, List.set_cons_succ]
            refine wpAnyH_ready (rs := [16]) (by kernel_rfl) (by simp) ?_
            refine AllReadyH.cons rfl (fun K hK => ?_) (AllReadyH.nil)
            · skip
              have nn : ((v11).alloc (Obj.cells #[.string ⟨#[]⟩, .string ⟨#[32, 99, 61, 34, 49, 34]⟩] 9)).heap.size = v11.heap.size + 1 := by simp
              have hX := heap_at nn (Obj.cells #[.string ⟨#[]⟩, .string ⟨#[10]⟩, .string ⟨#[60, 104, 114, 47, 62]⟩] 9)
              have hA := carry_alloc hA (Obj.cells #[.string ⟨#[]⟩, .string ⟨#[10]⟩, .string ⟨#[60, 104, 114, 47, 62]⟩] 9)
              have lhX : v11.heap.size + 1 ≠ b := by have := hNN.lt; rw [nn] at this; omega
              have hNN := hNN.call (blw (Below.refl _ _) (Obj.cells #[.string ⟨#[]⟩, .string ⟨#[10]⟩, .string ⟨#[60, 104, 114, 47, 62]⟩] 9))
              have hGG := chg_trans hGG (chg_below (b := b) (blw (Below.refl _ _) (Obj.cells #[.string ⟨#[]⟩, .string ⟨#[10]⟩, .string ⟨#[60, 104, 114, 47, 62]⟩] 9)))
              clear nn
              go_simp
              refine hK.out _ _ (hA) (fun hHeld => ?_)
              clear hK K
              try simp only [Act.put, List.getElem_toArray, List.getElem_cons_zero, List.getElem_cons_succ, List.setIfInBounds_toArray, List.set_cons_zero, List.set_cons_succ]
              refine wpAnyH_mono (S' := fun W : World => W.heap[v11.heap.size]? = some (Obj.cells #[.string ⟨#[]⟩, .string ⟨#[32, 99, 61, 34, 49, 34]⟩] 9 (0, 0)) ∧ W.heap[v11.heap.size + 1]? = some (Obj.cells #[.string ⟨#[]⟩, .string ⟨#[10]⟩, .string ⟨#[60, 104, 114, 47, 62]⟩] 9 (0, 0))) (fun _ h => h.1) _ _ _ _ ?_
              have hHeld : (fun W : World => W.heap[v11.heap.size]? = some (Obj.cells #[.string ⟨#[]⟩, .string ⟨#[32, 99, 61, 34, 49, 34]⟩] 9 (0, 0)) ∧ W.heap[v11.heap.size + 1]? = some (Obj.cells #[.string ⟨#[]⟩, .string ⟨#[10]⟩, .string ⟨#[60, 104, 114, 47, 62]⟩] 9 (0, 0))) _ := ⟨hA, hX⟩
              refine wpAnyH_take (i := 19) (v := ?_) rfl (by kernel_rfl) (by kernel_rfl) (by kernel_rfl) (fun _ _ _ h => h) (Or.inl ⟨by rfl, ?_⟩) hHeld ?_
              rotate_left
              · (intro w hSw; (try dsimp only at hSw); go_simp; try with_reducible rfl)
              try simp only [Act.put, List.getElem_toArray, List.getElem_cons_zero, List.getElem_cons_succ, List.setIfInBounds_toArray, List.set_cons_zero, List.set_cons_succ]
              refine wpAnyH_take (i := 20) (v := ?_) rfl (by kernel_rfl) (by kernel_rfl) (by kernel_rfl) (fun _ _ _ h => h) (Or.inl ⟨by rfl, ?_⟩) hHeld ?_
              rotate_left
              · (intro w hSw; (first | have hc := pick_row hSw tlM9 rfl kt hkt | have hc := pick_row hSw.1 tlM9 rfl kt hkt | have hc := pick_row hSw.2 tlM9 rfl kt hkt); go_simp; try with_reducible rfl)
              try simp only [Act.put, List.getElem_toArray, List.getElem_cons_zero, List.getElem_cons_succ, List.setIfInBounds_toArray, List.set_cons_zero, List.set_cons_succ]
              refine wpAnyH_take (i := 21) (v := ?_) rfl (by kernel_rfl) (by kernel_rfl) (by kernel_rfl) (fun _ _ _ h => h) (Or.inl ⟨by rfl, ?_⟩) hHeld ?_
              rotate_left
              · (intro w hSw; (try dsimp only at hSw); go_simp; try with_reducible rfl)
              try simp only [Act.put, List.getElem_toArray, List.getElem_cons_zero, List.getElem_cons_succ, List.setIfInBounds_toArray, List.set_cons_zero, List.set_cons_succ]
              refine wpAnyH_take (i := 22) (v := ?_) rfl (by kernel_rfl) (by kernel_rfl) (by kernel_rfl) (fun _ _ _ h => h) (Or.inl ⟨by rfl, ?_⟩) hHeld ?_
              rotate_left
              · (intro w hSw; (try dsimp only at hSw); go_simp; try with_reducible rfl)
              try simp only [Act.put, List.getElem_toArray, List.getElem_cons_zero, List.getElem_cons_succ, List.setIfInBounds_toArray, List.set_cons_zero, List.set_cons_succ]
              refine wpAnyH_ready (rs := [23]) (by kernel_rfl) (by simp) ?_
              refine AllReadyH.cons rfl (fun K hK => ?_) AllReadyH.nil
              go_simp
              refine hK.out _ _ (⟨hA, hX⟩) (fun hHeld => ?_)
              clear hK K
              refine wpAnyH_done (by kernel_rfl) ?_ _
              go_wp2_with fail
              go_roundw
              case rel => exact ⟨n, m2 + 2 + 1, _, by omega, by first | go_num | (congr 1; omega), rfl, HNX, hlen, by omega, hGG, hNN⟩
              case measure => simp [intOf]
          · skip
            have nn : (v11).heap.size = v11.heap.size := by simp
            have hX := heap_at nn (Obj.cells #[.string ⟨#[]⟩, .string ⟨#[10]⟩, .string ⟨#[60, 104, 114, 47, 62]⟩] 9)
            have lhX : v11.heap.size ≠ b := by have := hNN.lt; rw [nn] at this; omega
            have hNN := hNN.call (blw (Below.refl _ _) (Obj.cells #[.string ⟨#[]⟩, .string ⟨#[10]⟩, .string ⟨#[60, 104, 114, 47, 62]⟩] 9))
            have hGG := chg_trans hGG (chg_below (b := b) (blw (Below.refl _ _) (Obj.cells #[.string ⟨#[]⟩, .string ⟨#[10]⟩, .string ⟨#[60, 104, 114, 47, 62]⟩] 9)))
            clear nn
            go_simp
            refine hK.out _ _ (trivial) (fun hHeld => ?_)
            clear hK K
            try simp only [Act.put, List.getElem_toArray, List.getElem_cons_zero, List.getElem_cons_succ, List.setIfInBounds_toArray, List.set_cons_zero, List.set_cons_succ]
            refine wpAnyH_mono (S' := fun W : World => W.heap[v11.heap.size]? = some (Obj.cells #[.string ⟨#[]⟩, .string ⟨#[10]⟩, .string ⟨#[60, 104, 114, 47, 62]⟩] 9 (0, 0))) (fun _ _ => trivial) _ _ _ _ ?_
            have hHeld : (fun W : World => W.heap[v11.heap.size]? = some (Obj.cells #[.string ⟨#[]⟩, .string ⟨#[10]⟩, .string ⟨#[60, 104, 114, 47, 62]⟩] 9 (0, 0))) _ := hX
            refine wpAnyH_take (i := 19) (v := ?_) rfl (by kernel_rfl) (by kernel_rfl) (by kernel_rfl) (fun _ _ _ h => h) (Or.inl ⟨by rfl, ?_⟩) hHeld ?_
            rotate_left
            · (intro w hSw; (try dsimp only at hSw); go_simp; try with_reducible rfl)
            try simp only [Act.put, List.getElem_toArray, List.getElem_cons_zero, List.getElem_cons_succ, List.setIfInBounds_toArray, List.set_cons_zero, List.set_cons_succ]
            refine wpAnyH_take (i := 20) (v := ?_) rfl (by kernel_rfl) (by kernel_rfl) (by kernel_rfl) (fun _ _ _ h => h) (Or.inl ⟨by rfl, ?_⟩) hHeld ?_
            rotate_left
            · (intro w hSw; (first | have hc := pick_row hSw tlM9 rfl kt hkt | have hc := pick_row hSw.1 tlM9 rfl kt hkt | have hc := pick_row hSw.2 tlM9 rfl kt hkt); go_simp; try with_reducible rfl)
            try simp only [Act.put, List.getElem_toArray, List.getElem_cons_zero, List.getElem_cons_succ, List.setIfInBounds_toArray, List.set_cons_zero, List.set_cons_succ]
            refine wpAnyH_ready (rs := [3]) (by kernel_rfl) (by simp) ?_
            refine AllReadyH.cons rfl (fun K hK => ?_) (AllReadyH.nil)
            · skip
              have nn : ((v11).alloc (Obj.cells #[.string ⟨#[]⟩, .string ⟨#[10]⟩, .string ⟨#[60, 104, 114, 47, 62]⟩] 9)).heap.size = v11.heap.size + 1 := by simp
              have hA := heap_at nn (Obj.cells #[.string ⟨#[]⟩, .string ⟨#[32, 99, 61, 34, 49, 34]⟩] 9)
              have hX := carry_alloc hX (Obj.cells #[.string ⟨#[]⟩, .string ⟨#[32, 99, 61, 34, 49, 34]⟩] 9)
              have lhA : v11.heap.size + 1 ≠ b := by have := hNN.lt; rw [nn] at this; omega
              have hNN := hNN.call (blw (Below.refl _ _) (Obj.cells #[.string ⟨#[]⟩, .string ⟨#[32, 99, 61, 34, 49, 34]⟩] 9))
              have hGG := chg_trans hGG (chg_below (b := b) (blw (Below.refl _ _) (Obj.cells #[.string ⟨#[]⟩, .string ⟨#[32, 99, 61, 34, 49, 34]⟩] 9)))
              clear nn
              go_simp
              refine hK.out _ _ (hX) (fun hHeld => ?_)
              clear hK K
              try simp only [Act.put, List.getElem_toArray, List.getElem_cons_zero, List.getElem_cons_succ, List.setIfInBounds_toArray, List.set_cons_zero, List.set_cons_succ]
              refine wpAnyH_mono (S' := fun W : World => W.heap[v11.heap.size]? = some (Obj.cells #[.string ⟨#[]⟩, .string ⟨#[10]⟩, .string ⟨#[60, 104, 114, 47, 62]⟩] 9 (0, 0)) ∧ W.heap[v11.heap.size + 1]? = some (Obj.cells #[.string ⟨#[]⟩, .string ⟨#[32, 99, 61, 34, 49, 34]⟩] 9 (0, 0))) (fun _ h => h.1) _ _ _ _ ?_
              have hHeld : (fun W : World => W.heap[v11.heap.size]? = some (Obj.cells #[.string ⟨#[]⟩, .string ⟨#[10]⟩, .string ⟨#[60, 104, 114, 47, 62]⟩] 9 (0, 0)) ∧ W.heap[v11.heap.size + 1]? = some (Obj.cells #[.string ⟨#[]⟩, .string ⟨#[32, 99, 61, 34, 49, 34]⟩] 9 (0, 0))) _ := ⟨hX, hA⟩
              refine wpAnyH_take (i := 6) (v := ?_) rfl (by kernel_rfl) (by kernel_rfl) (by kernel_rfl) (fun _ _ _ h => h) (Or.inl ⟨by rfl, ?_⟩) hHeld ?_
              rotate_left
              · (intro w hSw; (try dsimp only at hSw); go_simp; try with_reducible rfl)
              try simp only [Act.put, List.getElem_toArray, List.getElem_cons_zero, List.getElem_cons_succ, List.setIfInBounds_toArray, List.set_cons_zero, List.set_cons_succ]
              refine wpAnyH_take (i := 7) (v := ?_) rfl (by kernel_rfl) (by kernel_rfl) (by kernel_rfl) (fun _ _ _ h => h) (Or.inl ⟨by rfl, ?_⟩) hHeld ?_
              rotate_left
              · (intro w hSw; (first | have hc := pick_row hSw atM9 rfl ka hka | have hc := pick_row hSw.1 atM9 rfl ka hka | have hc := pick_row hSw.2 atM9 rfl ka hka); go_simp; try with_reducible rfl)
              try simp only [Act.put, List.getElem_toArray, List.getElem_cons_zero, List.getElem_cons_succ, List.setIfInBounds_toArray, List.set_cons_zero, List.set_cons_succ]
              refine wpAnyH_take (i := 8) (v := ?_) rfl (by kernel_rfl) (by kernel_rfl) (by kernel_rfl) (fun _ _ _ h => h) (Or.inl ⟨by rfl, ?_⟩) hHeld ?_
              rotate_left
              · (intro w hSw; (try dsimp only at hSw); go_simp; try with_reducible rfl)
              try simp only [Act.put, List.getElem_toArray, List.getElem_cons_zero, List.getElem_cons_succ, List.setIfInBounds_toArray, List.set_cons_zero, List.set_cons_succ]
              refine wpAnyH_take (i := 9) (v := ?_) rfl (by kernel_rfl) (by kernel_rfl) (by kernel_rfl) (fun _ _ _ h => h) (Or.inl ⟨by rfl, ?_⟩) hHeld ?_
              rotate_left
              · (intro w hSw; (try dsimp only at hSw); go_simp; try with_reducible rfl)
              try simp only [Act.put, List.getElem_toArray, List.getElem_cons_zero, List.getElem_cons_succ, List.setIfInBounds_toArray, List.set_cons_zero, List.set_cons_succ]
              refine wpAnyH_take (i := 11) (v := ?_) rfl (by kernel_rfl) (by kernel_rfl) (by kernel_rfl) (fun _ _ _ h => h) (Or.inl ⟨by rfl, ?_⟩) hHeld ?_
              rotate_left
              · (intro w hSw; (try dsimp only at hSw); go_simp; try with_reducible rfl)
              try simp only [Act.put, List.getElem_toArray, List.getElem_cons_zero, List.getElem_cons_succ, List.setIfInBounds_toArray, List.set_cons_zero, List.set_cons_succ]
              refine wpAnyH_take (i := 12) (v := ?_) rfl (by kernel_rfl) (by kernel_rfl) (by kernel_rfl) (fun _ _ _ h => h) (Or.inl ⟨by rfl, ?_⟩) hHeld ?_
              rotate_left
              · (intro w hSw; (try dsimp only at hSw); go_simp; try with_reducible rfl)
              try simp only [Act.put, List.getElem_toArray, List.getElem_cons_zero, List.getElem_cons_succ, List.setIfInBounds_toArray, List.set_cons_zero, List.set_cons_succ]
              refine wpAnyH_take (i := 14) (v := ?_) rfl (by kernel_rfl) (by kernel_rfl) (by kernel_rfl) (fun _ _ _ h => h) (Or.inl ⟨by rfl, ?_⟩) hHeld ?_
              rotate_left
              · (intro w hSw; (try dsimp only at hSw); go_simp; try with_reducible rfl)
              try simp only [Act.put, List.getElem_toArray, List.getElem_cons_zero, List.getElem_cons_succ, List.setIfInBounds_toArray, List.set_cons_zero, List.set_cons_succ]
              refine wpAnyH_take (i := 15) (v := ?_) rfl (by kernel_rfl) (by kernel_rfl) (by kernel_rfl) (fun _ _ _ h => h) (Or.inl ⟨by rfl, ?_⟩) hHeld ?_
              rotate_left
              · (intro w hSw; (try dsimp only at hSw); go_simp; try with_reducible rfl)
              try simp only [Act.put, List.getElem_toArray, List.getElem_cons_zero, List.getElem_cons_succ, List.setIfInBounds_toArray, List.set_cons_zero, List.set_cons_succ]
              refine wpAnyH_take (i := 21) (v := ?_) rfl (by kernel_rfl) (by kernel_rfl) (by kernel_rfl) (fun _ _ _ h => h) (Or.inl ⟨by rfl, ?_⟩) hHeld ?_
              rotate_left
              · (intro w hSw; (try dsimp only at hSw); go_simp; try with_reducible rfl)
              try simp only [Act.put, List.getElem_toArray, List.getElem_cons_zero, List.getElem_cons_succ, List.setIfInBounds_toArray, List.set_cons_zero, List.set_cons_succ]
              refine wpAnyH_take (i := 22) (v := ?_) rfl (by kernel_rfl) (by kernel_rfl) (by kernel_rfl) (fun _ _ _ h => h) (Or.inl ⟨by rfl, ?_⟩) hHeld ?_
              rotate_left
              · (intro w hSw; (try dsimp only at hSw); go_simp; try with_reducible rfl)
              try simp only [Act.put, List.getElem_toArray, List.getElem_cons_zero, List.getElem_cons_succ, List.setIfInBounds_toArray, List.set_cons_zero, List.set_cons_succ]
              refine wpAnyH_ready (rs := [23]) (by kernel_rfl) (by simp) ?_
              refine AllReadyH.cons rfl (fun K hK => ?_) AllReadyH.nil
              go_simp
              refine hK.out _ _ (⟨hX, hA⟩) (fun hHeld => ?_)
              clear hK K
              refine wpAnyH_done (by kernel_rfl) ?_ _
              go_wp2_with fail
              go_roundw
              case rel => exact ⟨n, m2 + 2 + 1, _, by omega, by first | go_num | (congr 1; omega), rfl, HNX, hlen, by omega, hGG, hNN⟩
              case measure => simp [intOf]
      · skip
        have nn : (w5.drew).heap.size = w5.heap.size := by simp
        have hX := heap_at nn (Obj.cells #[.string ⟨#[]⟩, .string ⟨#[10]⟩, .string ⟨#[60, 104, 114, 47, 62]⟩] 9)
        have lhX : w5.heap.size ≠ b := by have := hNN.lt; rw [nn] at this; omega
        have hNN := hNN.call (blw (Below.refl _ _) (Obj.cells #[.string ⟨#[]⟩, .string ⟨#[10]⟩, .string ⟨#[60, 104, 114, 47, 62]⟩] 9))
        have hGG := chg_trans hGG (chg_below (b := b) (blw (Below.refl _ _) (Obj.cells #[.string ⟨#[]⟩, .string ⟨#[10]⟩, .string ⟨#[60, 104, 114, 47, 62]⟩] 9)))
        clear nn
        go_simp
        refine hK.out _ _ (trivial) (fun hHeld => ?_)
        clear hK K
        try simp only [Act.put, List.getElem_toArray, List.getElem_cons_zero, List.getElem_cons_succ, List.setIfInBounds_toArray, List.set_cons_zero, List.set_cons_succ]
        refine wpAnyH_mono (S' := fun W : World => W.heap[w5.heap.size]? = some (Obj.cells #[.string ⟨#[]⟩, .string ⟨#[10]⟩, .string ⟨#[60, 104, 114, 47, 62]⟩] 9 (0, 0))) (fun _ _ => trivial) _ _ _ _ ?_
        have hHeld : (fun W : World => W.heap[w5.heap.size]? = some (Obj.cells #[.string ⟨#[]⟩, .string ⟨#[10]⟩, .string ⟨#[60, 104, 114, 47, 62]⟩] 9 (0, 0))) _ := hX
        refine wpAnyH_ready (rs := [3, 5]) (by kernel_rfl) (by simp) ?_
        refine AllReadyH.cons rfl (fun K hK => ?_) (AllReadyH.cons rfl (fun K hK => ?_) (AllReadyH.nil))
        · skip
          have nn : ((w5.drew).alloc (Obj.cells #[.string ⟨#[]⟩, .string ⟨#[10]⟩, .string ⟨#[60, 104, 114, 47, 62]⟩] 9)).heap.size = w5.heap.size + 1 := by simp
          have hA := heap_at nn (Obj.cells #[.string ⟨#[]⟩, .string ⟨#[32, 99, 61, 34, 49, 34]⟩] 9)
          have hX := carry_alloc hX (Obj.cells #[.string ⟨#[]⟩, .string ⟨#[32, 99, 61, 34, 49, 34]⟩] 9)
          have lhA : w5.heap.size + 1 ≠ b := by have := hNN.lt; rw [nn] at this; omega
          have hNN := hNN.call (blw (Below.refl _ _) (Obj.cells #[.string ⟨#[]⟩, .string ⟨#[32, 99, 61, 34, 49, 34]⟩] 9))
          have hGG := chg_trans hGG (chg_below (b := b) (blw (Below.refl _ _) (Obj.cells #[.string ⟨#[]⟩, .string ⟨#[32, 99, 61, 34, 49, 34]⟩] 9)))
          clear nn
          go_simp
          refine hK.out _ _ (hX) (fun hHeld => ?_)
          clear hK K
          try simp only [Act.put, List.getElem_toArray, List.getElem_cons_zero, List.getElem_cons_succ, List.setIfInBounds_toArray, List.set_cons_zero, List.set_cons_succ]
          refine wpAnyH_mono (S' := fun W : World => W.heap[w5.heap.size]? = some (Obj.cells #[.string ⟨#[]⟩, .string ⟨#[10]⟩, .string ⟨#[60, 104, 114, 47, 62]⟩] 9 (0, 0)) ∧ W.heap[w5.heap.size + 1]? = some (Obj.cells #[.string ⟨#[]⟩, .string ⟨#[32, 99, 61, 34, 49, 34]⟩] 9 (0, 0))) (fun _ h => h.1) _ _ _ _ ?_
          have hHeld : (fun W : World => W.heap[w5.heap.size]? = some (Obj.cells #[.string ⟨#[]⟩, .string ⟨#[10]⟩, .string ⟨#[60, 104, 114, 47, 62]⟩] 9 (0, 0)) ∧ W.heap[w5.heap.size + 1]? = some (Obj.cells #[.string ⟨#[]⟩, .string ⟨#[32, 99, 61, 34, 49, 34]⟩] 9 (0, 0))) _ := ⟨hX, hA⟩
          refine wpAnyH_ready (rs := [5]) (by kernel_rfl) (by simp) ?_
          refine AllReadyH.cons rfl (fun K hK => ?_) (AllReadyH.nil)
          · skip
            go_simp
            refine (HN2.out _ hNN).mono ?_; rintro e v12 ⟨rfl, hg, hNN⟩
            have hGG := chg_trans hGG hg
            have hX := carry_next hX hg lhX
            have hA := carry_next hA hg lhA
            clear hg
            go_wp2_with fail
            refine hK.out _ _ (⟨hX, hA⟩) (fun hHeld => ?_)
            clear hK K
            try simp only [Act.put, List.getElem_toArray, List.getElem_cons_zero, List.getElem_cons_succ, List.setIfInBounds_toArray, List.set_cons_zero, List.set_cons_succ]
            refine wpAnyH_take (i := 6) (v := ?_) rfl (by kernel_rfl) (by kernel_rfl) (by kernel_rfl) (fun _ _ _ h => h) (Or.inl ⟨by rfl, ?_⟩) hHeld ?_
            rotate_left
            · (intro w hSw; (try dsimp only at hSw); go_simp; try with_reducible rfl)
            try simp only [Act.put, List.getElem_toArray, List.getElem_cons_zero, List.getElem_cons_succ, List.setIfInBounds_toArray, List.set_cons_zero, List.set_cons_succ]
            refine wpAnyH_take (i := 7) (v := ?_) rfl (by kernel_rfl) (by kernel_rfl) (by kernel_rfl) (fun _ _ _ h => h) (Or.inl ⟨by rfl, ?_⟩) hHeld ?_
            rotate_left
            · (intro w hSw; (first | have hc := pick_row hSw atM9 rfl ka hka | have hc := pick_row hSw.1 atM9 rfl ka hka | have hc := pick_row hSw.2 atM9 rfl ka hka); go_simp; try with_reducible rfl)
            try simp only [Act.put, List.getElem_toArray, List.getElem_cons_zero, List.getElem_cons_succ, List.setIfInBounds_toArray, List.set_cons_zero, List.set_cons_succ]
            refine wpAnyH_take (i := 8) (v := ?_) rfl (by kernel_rfl) (by kernel_rfl) (by kernel_rfl) (fun _ _ _ h => h) (Or.inl ⟨by rfl, ?_⟩) hHeld ?_
            rotate_left
            · (intro w hSw; (try dsimp only at hSw); go_simp; try with_reducible rfl)
            try simp only [Act.put, List.getElem_toArray, List.getElem_cons_zero, List.getElem_cons_succ, List.setIfInBounds_toArray, List.set_cons_zero, List.set_cons_succ]
            refine wpAnyH_take (i := 9) (v := ?_) rfl (by kernel_rfl) (by kernel_rfl) (by kernel_rfl) (fun _ _ _ h => h) (Or.inl ⟨by rfl, ?_⟩) hHeld ?_
            rotate_left
            · (intro w hSw; (try dsimp only at hSw); go_simp; try with_reducible rfl)
            try simp only [Act.put, List.getElem_toArray, List.getElem_cons_zero, List.getElem_cons_succ, List.setIfInBounds_toArray, List.set_cons_zero, List.set_cons_succ]
            refine wpAnyH_take (i := 11) (v := ?_) rfl (by kernel_rfl) (by kernel_rfl) (by kernel_rfl) (fun _ _ _ h => h) (Or.inl ⟨by rfl, ?_⟩) hHeld ?_
            rotate_left
            · (intro w hSw; (try dsimp only at hSw); go_simp; try with_reducible rfl)
            try simp only [Act.put, List.getElem_toArray, List.getElem_cons_zero, List.getElem_cons_succ, List.setIfInBounds_toArray, List.set_cons_zero, List.set_cons_succ]
            refine wpAnyH_take (i := 12) (v := ?_) rfl (by kernel_rfl) (by kernel_rfl) (by kernel_rfl) (fun _ _ _ h => h) (Or.inl ⟨by rfl, ?_⟩) hHeld ?_
            rotate_left
            · (intro w hSw; (try dsimp only at hSw); go_simp; try with_reducible rfl)
            try simp only [Act.put, List.getElem_toArray, List.getElem_cons_zero, List.getElem_cons_succ, List.setIfInBounds_toArray, List.set_cons_zero, List.set_cons_succ]
            refine wpAnyH_take (i := 14) (v := ?_) rfl (by kernel_rfl) (by kernel_rfl) (by kernel_rfl) (fun _ _ _ h => h) (Or.inl ⟨by rfl, ?_⟩) hHeld ?_
            rotate_left
            · (intro w hSw; (try dsimp only at hSw); go_simp; try with_reducible rfl)
            try simp only [Act.put, List.getElem_toArray, List.getElem_cons_zero, List.getElem_cons_succ, List.setIfInBounds_toArray, List.set_cons_zero, List.set_cons_succ]
            refine wpAnyH_take (i := 15) (v := ?_) rfl (by kernel_rfl) (by kernel_rfl) (by kernel_rfl) (fun _ _ _ h => h) (Or.inl ⟨by rfl, ?_⟩) hHeld ?_
            rotate_left
            · (intro w hSw; (try dsimp only at hSw); go_simp; try with_reducible rfl)
            try simp only [Act.put, List.getElem_toArray, List.getElem_cons_zero, List.getElem_cons_succ, List.setIfInBounds_toArray, List.set_cons_zero, List.set_cons_succ]
            refine wpAnyH_ready (rs := [18]) (by kernel_rfl) (by simp) ?_
            refine AllReadyH.cons rfl (fun K hK => ?_) (AllReadyH.nil)
            · skip
              go_simp
              refine (HN4.out _ hNN).mono ?_; rintro e v13 ⟨rfl, hg, hNN⟩
              have hGG := chg_trans hGG hg
              have hX := carry_next hX hg lhX
              have hA := carry_next hA hg lhA
              clear hg
              go_wp2_with fail
              refine hK.out _ _ (⟨hX, hA⟩) (fun hHeld => ?_)
              clear hK K
              try simp only [Act.put, List.getElem_toArray, List.getElem_cons_zero, List.getElem_cons_succ, List.setIfInBounds_toArray, List.set_cons_zero, List.set_cons_succ]
              refine wpAnyH_take (i := 19) (v := ?_) rfl (by kernel_rfl) (by kernel_rfl) (by kernel_rfl) (fun _ _ _ h => h) (Or.inl ⟨by rfl, ?_⟩) hHeld ?_
              rotate_left
              · (intro w hSw; (try dsimp only at hSw); go_simp; try with_reducible rfl)
              try simp only [Act.put, List.getElem_toArray, List.getElem_cons_zero, List.getElem_cons_succ, List.setIfInBounds_toArray, List.set_cons_zero, List.set_cons_succ]
              refine wpAnyH_take (i := 20) (v := ?_) rfl (by kernel_rfl) (by kernel_rfl) (by kernel_rfl) (fun _ _ _ h => h) (Or.inl ⟨by rfl, ?_⟩) hHeld ?_
              rotate_left
              · (intro w hSw; (first | have hc := pick_row hSw tlM9 rfl kt hkt | have hc := pick_row hSw.1 tlM9 rfl kt hkt | have hc := pick_row hSw.2 tlM9 rfl kt hkt); go_simp; try with_reducible rfl)
              try simp only [Act.put, List.getElem_toArray, List.getElem_cons_zero, List.getElem_cons_succ, List.setIfInBounds_toArray, List.set_cons_zero, List.set_cons_succ]
              refine wpAnyH_take (i := 21) (v := ?_) rfl (by kernel_rfl) (by kernel_rfl) (by kernel_rfl) (fun _ _ _ h => h) (Or.inl ⟨by rfl, ?_⟩) hHeld ?_
              rotate_left
              · (intro w hSw; (try dsimp only at hSw); go_simp; try with_reducible rfl)
              try simp only [Act.put, List.getElem_toArray, List.getElem_cons_zero, List.getElem_cons_succ, List.setIfInBounds_toArray, List.set_cons_zero, List.set_cons_succ]
              refine wpAnyH_take (i := 22) (v := ?_) rfl (by kernel_rfl) (by kernel_rfl) (by kernel_rfl) (fun _ _ _ h => h) (Or.inl ⟨by rfl, ?_⟩) hHeld ?_
              rotate_left
              · (intro w hSw; (try dsimp only at hSw); go_simp; try with_reducible rfl)
              try simp only [Act.put, List.getElem_toArray, List.getElem_cons_zero, List.getElem_cons_succ, List.setIfInBounds_toArray, List.set_cons_zero, List.set_cons_succ]
              refine wpAnyH_ready (rs := [23]) (by kernel_rfl) (by simp) ?_
              refine AllReadyH.cons rfl (fun K hK => ?_) AllReadyH.nil
              go_simp
              refine hK.out _ _ (⟨hX, hA⟩) (fun hHeld => ?_)
              clear hK K
              refine wpAnyH_done (by kernel_rfl) ?_ _
              go_wp2_with fail
              go_roundw
              case rel => exact ⟨n, m2 + 2 + 1, _, by omega, by first | go_num | (congr 1; omega), rfl, HNX, hlen, by omega, hGG, hNN⟩
              case measure => simp [intOf]
        · skip
          go_simp
          refine (HN2.out _ hNN).mono ?_; rintro e v14 ⟨rfl, hg, hNN⟩
          have hGG := chg_trans hGG hg
          have hX := carry_next hX hg lhX
          clear hg
          go_wp2_with fail
          refine hK.out _ _ (hX) (fun hHeld => ?_)
          clear hK K
          try simp only [Act.put, List.getElem_toArray, List.getElem_cons_zero, List.getElem_cons_succ, List.setIfInBounds_toArray, List.set_cons_zero, List.set_cons_succ]
          refine wpAnyH_ready (rs := [3, 18]) (by kernel_rfl) (by simp) ?_
          refine AllReadyH.cons rfl (fun K hK => ?_) (AllReadyH.cons rfl (fun K hK => ?_) (AllReadyH.nil))
          · skip
            have nn : (v14).heap.size = v14.heap.size := by simp
            have hA := heap_at nn (Obj.cells #[.string ⟨#[]⟩, .string ⟨#[32, 99, 61, 34, 49, 34]⟩] 9)
            have hX := carry_alloc hX (Obj.cells #[.string ⟨#[]⟩, .string ⟨#[32, 99, 61, 34, 49, 34]⟩] 9)
            have lhA : v14.heap.size ≠ b := by have := hNN.lt; rw [nn] at this; omega
            have hNN := hNN.call (blw (Below.refl _ _) (Obj.cells #[.string ⟨#[]⟩, .string ⟨#[32, 99, 61, 34, 49, 34]⟩] 9))
            have hGG := chg_trans hGG (chg_below (b := b) (blw (Below.refl _ _) (Obj.cells #[.string ⟨#[]⟩, .string ⟨#[32, 99, 61, 34, 49, 34]⟩] 9)))
            clear nn
            go_simp
            refine hK.out _ _ (hX) (fun hHeld => ?_)
            clear hK K
            try simp only [Act.put, List.getElem_toArray, List.getElem_cons_zero, List.getElem_cons_succ, List.setIfInBounds_toArray, List.set_cons_zero, List.set_cons_succ]
            refine wpAnyH_mono (S' := fun W : World => W.heap[w5.heap.size]? = some (Obj.cells #[.string ⟨#[]⟩, .string ⟨#[10]⟩, .string ⟨#[60, 104, 114, 47, 62]⟩] 9 (0, 0)) ∧ W.heap[v14.heap.size]? = some (Obj.cells #[.string ⟨#[]⟩, .string ⟨#[32, 99, 61, 34, 49, 34]⟩] 9 (0, 0))) (fun _ h => h.1) _ _ _ _ ?_
            have hHeld : (fun W : World => W.heap[w5.heap.size]? = some (Obj.cells #[.string ⟨#[]⟩, .string ⟨#[10]⟩, .string ⟨#[60, 104, 114, 47, 62]⟩] 9 (0, 0)) ∧ W.heap[v14.heap.size]? = some (Obj.cells #[.string ⟨#[]⟩, .string ⟨#[32, 99, 61, 34, 49, 34]⟩] 9 (0, 0))) _ := ⟨hX, hA⟩
            refine wpAnyH_take (i := 6) (v := ?_) rfl (by kernel_rfl) (by kernel_rfl) (by kernel_rfl) (fun _ _ _ h => h) (Or.inl ⟨by rfl, ?_⟩) hHeld ?_
            rotate_left
            · (intro w hSw; (try dsimp only at hSw); go_simp; try with_reducible rfl)
            try simp only [Act.put, List.getElem_toArray, List.getElem_cons_zero, List.getElem_cons_succ, List.setIfInBounds_toArray, List.set_cons_zero, List.set_cons_succ]
            refine wpAnyH_take (i := 7) (v := ?_) rfl (by kernel_rfl) (by kernel_rfl) (by kernel_rfl) (fun _ _ _ h => h) (Or.inl ⟨by rfl, ?_⟩) hHeld ?_
            rotate_left
            · (intro w hSw; (first | have hc := pick_row hSw atM9 rfl ka hka | have hc := pick_row hSw.1 atM9 rfl ka hka | have hc := pick_row hSw.2 atM9 rfl ka hka); go_simp; try with_reducible rfl)
            try simp only [Act.put, List.getElem_toArray, List.getElem_cons_zero, List.getElem_cons_succ, List.setIfInBounds_toArray, List.set_cons_zero, List.set_cons_succ]
            refine wpAnyH_take (i := 8) (v := ?_) rfl (by kernel_rfl) (by kernel_rfl) (by kernel_rfl) (fun _ _ _ h => h) (Or.inl ⟨by rfl, ?_⟩) hHeld ?_
            rotate_left
            · (intro w hSw; (try dsimp only at hSw); go_simp; try with_reducible rfl)
            try simp only [Act.put, List.getElem_toArray, List.getElem_cons_zero, List.getElem_cons_succ, List.setIfInBounds_toArray, List.set_cons_zero, List.set_cons_succ]
            refine wpAnyH_take (i := 9) (v := ?_) rfl (by kernel_rfl) (by kernel_rfl) (by kernel_rfl) (fun _ _ _ h => h) (Or.inl ⟨by rfl, ?_⟩) hHeld ?_
            rotate_left
            · (intro w hSw; (try dsimp only at hSw); go_simp; try with_reducible rfl)
            try simp only [Act.put, List.getElem_toArray, List.getElem_cons_zero, List.getElem_cons_succ, List.setIfInBounds_toArray, List.set_cons_zero, List.set_cons_succ]
            refine wpAnyH_take (i := 11) (v := ?_) rfl (by kernel_rfl) (by kernel_rfl) (by kernel_rfl) (fun _ _ _ h => h) (Or.inl ⟨by rfl, ?_⟩) hHeld ?_
            rotate_left
            · (intro w hSw; (try dsimp only at hSw); go_simp; try with_reducible rfl)
            try simp only [Act.put, List.getElem_toArray, List.getElem_cons_zero, List.getElem_cons_succ, List.setIfInBounds_toArray, List.set_cons_zero, List.set_cons_succ]
            refine wpAnyH_take (i := 12) (v := ?_) rfl (by kernel_rfl) (by kernel_rfl) (by kernel_rfl) (fun _ _ _ h => h) (Or.inl ⟨by rfl, ?_⟩) hHeld ?_
            rotate_left
            · (intro w hSw; (try dsimp only at hSw); go_simp; try with_reducible rfl)
            try simp only [Act.put, List.getElem_toArray, List.getElem_cons_zero, List.getElem_cons_succ, List.setIfInBounds_toArray, List.set_cons_zero, List.set_cons_succ]
            refine wpAnyH_take (i := 14) (v := ?_) rfl (by kernel_rfl) (by kernel_rfl) (by kernel_rfl) (fun _ _ _ h => h) (Or.inl ⟨by rfl, ?_⟩) hHeld ?_
            rotate_left
            · (intro w hSw; (try dsimp only at hSw); go_simp; try with_reducible rfl)
            try simp only [Act.put, List.getElem_toArray, List.getElem_cons_zero, List.getElem_cons_succ, List.setIfInBounds_toArray, List.set_cons_zero, List.set_cons_succ]
            refine wpAnyH_take (i := 15) (v := ?_) rfl (by kernel_rfl) (by kernel_rfl) (by kernel_rfl) (fun _ _ _ h => h) (Or.inl ⟨by rfl, ?_⟩) hHeld ?_
            rotate_left
            · (intro w hSw; (try dsimp only at hSw); go_simp; try with_reducible rfl)
            try simp only [Act.put, List.getElem_toArray, List.getElem_cons_zero, List.getElem_cons_succ, List.setIfInBounds_toArray, List.set_cons_zero, List.set_cons_succ]
            refine wpAnyH_ready (rs := [18]) (by kernel_rfl) (by simp) ?_
            refine AllReadyH.cons rfl (fun K hK => ?_) (AllReadyH.nil)
            · skip
              go_simp
              refine (HN4.out _ hNN).mono ?_; rintro e v15 ⟨rfl, hg, hNN⟩
              have hGG := chg_trans hGG hg
              have hX := carry_next hX hg lhX
              have hA := carry_next hA hg lhA
              clear hg
              go_wp2_with fail
              refine hK.out _ _ (⟨hX, hA⟩) (fun hHeld => ?_)
              clear hK K
              try simp only [Act.put, List.getElem_toArray, List.getElem_cons_zero, List.getElem_cons_succ, List.setIfInBounds_toArray, List.set_cons_zero, List.set_cons_succ]
              refine wpAnyH_take (i := 19) (v := ?_) rfl (by kernel_rfl) (by kernel_rfl) (by kernel_rfl) (fun _ _ _ h => h) (Or.inl ⟨by rfl, ?_⟩) hHeld ?_
              rotate_left
              · (intro w hSw; (try dsimp only at hSw); go_simp; try with_reducible rfl)
              try simp only [Act.put, List.getElem_toArray, List.getElem_cons_zero, List.getElem_cons_succ, List.setIfInBounds_toArray, List.set_cons_zero, List.set_cons_succ]
              refine wpAnyH_take (i := 20) (v := ?_) rfl (by kernel_rfl) (by kernel_rfl) (by kernel_rfl) (fun _ _ _ h => h) (Or.inl ⟨by rfl, ?_⟩) hHeld ?_
              rotate_left
              · (intro w hSw; (first | have hc := pick_row hSw tlM9 rfl kt hkt | have hc := pick_row hSw.1 tlM9 rfl kt hkt | have hc := pick_row hSw.2 tlM9 rfl kt hkt); go_simp; try with_reducible rfl)
              try simp only [Act.put, List.getElem_toArray, List.getElem_cons_zero, List.getElem_cons_succ, List.setIfInBounds_toArray, List.set_cons_zero, List.set_cons_succ]
              refine wpAnyH_take (i := 21) (v := ?_) rfl (by kernel_rfl) (by kernel_rfl) (by kernel_rfl) (fun _ _ _ h => h) (Or.inl ⟨by rfl, ?_⟩) hHeld ?_
              rotate_left
              · (intro w hSw; (try dsimp only at hSw); go_simp; try with_reducible rfl)
              try simp only [Act.put, List.getElem_toArray, List.getElem_cons_zero, List.getElem_cons_succ, List.setIfInBounds_toArray, List.set_cons_zero, List.set_cons_succ]
              refine wpAnyH_take (i := 22) (v := ?_) rfl (by kernel_rfl) (by kernel_rfl) (by kernel_rfl) (fun _ _ _ h => h) (Or.inl ⟨by rfl, ?_⟩) hHeld ?_
              rotate_left
              · (intro w hSw; (try dsimp only at hSw); go_simp; try with_reducible rfl)
              try simp only [Act.put, List.getElem_toArray, List.getElem_cons_zero, List.getElem_cons_succ, List.setIfInBounds_toArray, List.set_cons_zero, List.set_cons_succ]
              refine wpAnyH_ready (rs := [23]) (by kernel_rfl) (by simp) ?_
              refine AllReadyH.cons rfl (fun K hK => ?_) AllReadyH.nil
              go_simp
              refine hK.out _ _ (⟨hX, hA⟩) (fun hHeld => ?_)
              clear hK K
              refine wpAnyH_done (by kernel_rfl) ?_ _
              go_wp2_with fail
              go_roundw
              case rel => exact ⟨n, m2 + 2 + 1, _, by omega, by first | go_num | (congr 1; omega), rfl, HNX, hlen, by omega, hGG, hNN⟩
              case measure => simp [intOf]
          · skip
            go_simp
            refine (HN4.out _ hNN).mono ?_; rintro e v16 ⟨rfl, hg, hNN⟩
            have hGG := chg_trans hGG hg
            have hX := carry_next hX hg lhX
            clear hg
            go_wp2_with fail
            refine hK.out _ _ (hX) (fun hHeld => ?_)
            clear hK K
            try simp only [Act.put, List.getElem_toArray, List.getElem_cons_zero, List.getElem_cons_succ, List.setIfInBounds_toArray, List.set_cons_zero, List.set_cons_succ]
            refine wpAnyH_take (i := 19) (v := ?_) rfl (by kernel_rfl) (by kernel_rfl) (by kernel_rfl) (fun _ _ _ h => h) (Or.inl ⟨by rfl, ?_⟩) hHeld ?_
            rotate_left
            · (intro w hSw; (try dsimp only at hSw); go_simp; try with_reducible rfl)
            try simp only [Act.put, List.getElem_toArray, List.getElem_cons_zero, List.getElem_cons_succ, List.setIfInBounds_toArray, List.set_cons_zero, List.set_cons_succ]
            refine wpAnyH_take (i := 20) (v := ?_) rfl (by kernel_rfl) (by kernel_rfl) (by kernel_rfl) (fun _ _ _ h => h) (Or.inl ⟨by rfl, ?_⟩) hHeld ?_
            rotate_left
            · (intro w hSw; (first | have hc := pick_row hSw tlM9 rfl kt hkt | have hc := pick_row hSw.1 tlM9 rfl kt hkt | have hc := pick_row hSw.2 tlM9 rfl kt hkt); go_simp; try with_reducible rfl)
            try simp only [Act.put, List.getElem_toArray, List.getElem_cons_zero, List.getElem_cons_succ, List.setIfInBounds_toArray, List.set_cons_zero, List.set_cons_succ]
            refine wpAnyH_ready (rs := [3]) (by kernel_rfl) (by simp) ?_
            refine AllReadyH.cons rfl (fun K hK => ?_) (AllReadyH.nil)
            · skip
              have nn : (v16).heap.size = v16.heap.size := by simp
              have hA := heap_at nn (Obj.cells #[.string ⟨#[]⟩, .string ⟨#[32, 99, 61, 34, 49, 34]⟩] 9)
              have hX := carry_alloc hX (Obj.cells #[.string ⟨#[]⟩, .string ⟨#[32, 99, 61, 34, 49, 34]⟩] 9)
              have lhA : v16.heap.size ≠ b := by have := hNN.lt; rw [nn] at this; omega
              have hNN := hNN.call (blw (Below.refl _ _) (Obj.cells #[.string ⟨#[]⟩, .string ⟨#[32, 99, 61, 34, 49, 34]⟩] 9))
              have hGG := chg_trans hGG (chg_below (b := b) (blw (Below.refl _ _) (Obj.cells #[.string ⟨#[]⟩, .string ⟨#[32, 99, 61, 34, 49, 34]⟩] 9)))
              clear nn
              go_simp
              refine hK.out _ _ (hX) (fun hHeld => ?_)
              clear hK K
              try simp only [Act.put, List.getElem_toArray, List.getElem_cons_zero, List.getElem_cons_succ, List.setIfInBounds_toArray, List.set_cons_zero, List.set_cons_succ]
              refine wpAnyH_mono (S' := fun W : World => W.heap[w5.heap.size]? = some (Obj.cells #[.string ⟨#[]⟩, .string ⟨#[10]⟩, .string ⟨#[60, 104, 114, 47, 62]⟩] 9 (0, 0)) ∧ W.heap[v16.heap.size]? = some (Obj.cells #[.string ⟨#[]⟩, .string ⟨#[32, 99, 61, 34, 49, 34]⟩] 9 (0, 0))) (fun _ h => h.1) _ _ _ _ ?_
              have hHeld : (fun W : World => W.heap[w5.heap.size]? = some (Obj.cells #[.string ⟨#[]⟩, .string ⟨#[10]⟩, .string ⟨#[60, 104, 114, 47, 62]⟩] 9 (0, 0)) ∧ W.heap[v16.heap.size]? = some (Obj.cells #[.string ⟨#[]⟩, .string ⟨#[32, 99, 61, 34, 49, 34]⟩] 9 (0, 0))) _ := ⟨hX, hA⟩
              refine wpAnyH_take (i := 6) (v := ?_) rfl (by kernel_rfl) (by kernel_rfl) (by kernel_rfl) (fun _ _ _ h => h) (Or.inl ⟨by rfl, ?_⟩) hHeld ?_
              rotate_left
              · (intro w hSw; (try dsimp only at hSw); go_simp; try with_reducible rfl)
              try simp only [Act.put, List.getElem_toArray, List.getElem_cons_zero, List.getElem_cons_succ, List.setIfInBounds_toArray, List.set_cons_zero, List.set_cons_succ]
              refine wpAnyH_take (i := 7) (v := ?_) rfl (by kernel_rfl) (by kernel_rfl) (by kernel_rfl) (fun _ _ _ h => h) (Or.inl ⟨by rfl, ?_⟩) hHeld ?_
              rotate_left
              · (intro w hSw; (first | have hc := pick_row hSw atM9 rfl ka hka | have hc := pick_row hSw.1 atM9 rfl ka hka | have hc := pick_row hSw.2 atM9 rfl ka hka); go_simp; try with_reducible rfl)
              try simp only [Act.put, List.getElem_toArray, List.getElem_cons_zero, List.getElem_cons_succ, List.setIfInBounds_toArray, List.set_cons_zero, List.set_cons_succ]
              refine wpAnyH_take (i := 8) (v := ?_) rfl (by kernel_rfl) (by kernel_rfl) (by kernel_rfl) (fun _ _ _ h => h) (Or.inl ⟨by rfl, ?_⟩) hHeld ?_
              rotate_left
              · (intro w hSw; (try dsimp only at hSw); go_simp; try with_reducible rfl)
              try simp only [Act.put, List.getElem_toArray, List.getElem_cons_zero, List.getElem_cons_succ, List.setIfInBounds_toArray, List.set_cons_zero, List.set_cons_succ]
              refine wpAnyH_take (i := 9) (v := ?_) rfl (by kernel_rfl) (by kernel_rfl) (by kernel_rfl) (fun _ _ _ h => h) (Or.inl ⟨by rfl, ?_⟩) hHeld ?_
              rotate_left
              · (intro w hSw; (try dsimp only at hSw); go_simp; try with_reducible rfl)
              try simp only [Act.put, List.getElem_toArray, List.getElem_cons_zero, List.getElem_cons_succ, List.setIfInBounds_toArray, List.set_cons_zero, List.set_cons_succ]
              refine wpAnyH_take (i := 11) (v := ?_) rfl (by kernel_rfl) (by kernel_rfl) (by kernel_rfl) (fun _ _ _ h => h) (Or.inl ⟨by rfl, ?_⟩) hHeld ?_
              rotate_left
              · (intro w hSw; (try dsimp only at hSw); go_simp; try with_reducible rfl)
              try simp only [Act.put, List.getElem_toArray, List.getElem_cons_zero, List.getElem_cons_succ, List.setIfInBounds_toArray, List.set_cons_zero, List.set_cons_succ]
              refine wpAnyH_take (i := 12) (v := ?_) rfl (by kernel_rfl) (by kernel_rfl) (by kernel_rfl) (fun _ _ _ h => h) (Or.inl ⟨by rfl, ?_⟩) hHeld ?_
              rotate_left
              · (intro w hSw; (try dsimp only at hSw); go_simp; try with_reducible rfl)
              try simp only [Act.put, List.getElem_toArray, List.getElem_cons_zero, List.getElem_cons_succ, List.setIfInBounds_toArray, List.set_cons_zero, List.set_cons_succ]
              refine wpAnyH_take (i := 14) (v := ?_) rfl (by kernel_rfl) (by kernel_rfl) (by kernel_rfl) (fun _ _ _ h => h) (Or.inl ⟨by rfl, ?_⟩) hHeld ?_
              rotate_left
              · (intro w hSw; (try dsimp only at hSw); go_simp; try with_reducible rfl)
              try simp only [Act.put, List.getElem_toArray, List.getElem_cons_zero, List.getElem_cons_succ, List.setIfInBounds_toArray, List.set_cons_zero, List.set_cons_succ]
              refine wpAnyH_take (i := 15) (v := ?_) rfl (by kernel_rfl) (by kernel_rfl) (by kernel_rfl) (fun _ _ _ h => h) (Or.inl ⟨by rfl, ?_⟩) hHeld ?_
              rotate_left
              · (intro w hSw; (try dsimp only at hSw); go_simp; try with_reducible rfl)
              try simp only [Act.put, List.getElem_toArray, List.getElem_cons_zero, List.getElem_cons_succ, List.setIfInBounds_toArray, List.set_cons_zero, List.set_cons_succ]
              refine wpAnyH_take (i := 21) (v := ?_) rfl (by kernel_rfl) (by kernel_rfl) (by kernel_rfl) (fun _ _ _ h => h) (Or.inl ⟨by rfl, ?_⟩) hHeld ?_
              rotate_left
              · (intro w hSw; (try dsimp only at hSw); go_simp; try with_reducible rfl)
              try simp only [Act.put, List.getElem_toArray, List.getElem_cons_zero, List.getElem_cons_succ, List.setIfInBounds_toArray, List.set_cons_zero, List.set_cons_succ]
              refine wpAnyH_take (i := 22) (v := ?_) rfl (by kernel_rfl) (by kernel_rfl) (by kernel_rfl) (fun _ _ _ h => h) (Or.inl ⟨by rfl, ?_⟩) hHeld ?_
              rotate_left
              · (intro w hSw; (try dsimp only at hSw); go_simp; try with_reducible rfl)
              try simp only [Act.put, List.getElem_toArray, List.getElem_cons_zero, List.getElem_cons_succ, List.setIfInBounds_toArray, List.set_cons_zero, List.set_cons_succ]
              refine wpAnyH_ready (rs := [23]) (by kernel_rfl) (by simp) ?_
              refine AllReadyH.cons rfl (fun K hK => ?_) AllReadyH.nil
              go_simp
              refine hK.out _ _ (⟨hX, hA⟩) (fun hHeld => ?_)
              clear hK K
              refine wpAnyH_done (by kernel_rfl) ?_ _
              go_wp2_with fail
              go_roundw
              case rel => exact ⟨n, m2 + 2 + 1, _, by omega, by first | go_num | (congr 1; omega), rfl, HNX, hlen, by omega, hGG, hNN⟩
              case measure => simp [intOf]
    · obtain rfl : n = 0 := by omega
      have HD := Lib.hid (div_splD HC.out (by omega))
      have hCz : D.size ≤ 10000 := by omega
      clear hn0
      go_wp2_with fail
      go_ret
      exact ⟨D, rfl, HD.out, hCz, hgr⟩
end Go.Proofs.YtphkpokoeaagfaaDoor
namespace Go.Proofs.YtphkpokoeaagfaaDoor
open Go.ChangeShapes Go.WideShapes Go.ChangeAt Go.RowKit
set_option linter.unusedVariables false
set_option linter.unusedSimpArgs false
set_option maxRecDepth 100000

theorem gbytes_below (w : World) (e : TypeId) (s : ByteArray) : Below w.heap.size w (Lib.bytesWorld w e s) :=
  Lib.below_freeze ((Below.drew (Below.refl _ w)).alloc (Nat.le_refl _) _) (p := ⟨w.heap.size, _, none⟩) (Nat.le_refl _) 1
theorem gconv_new (W : World) (T : ByteArray) : (convert 9 22 (.string T)).run Tryd.prog W = .ok (.slice (some ⟨W.heap.size, 0, none⟩) T.size (grownCap W T.size 0 5)) (Lib.bytesWorld W 5 T) :=
  Lib.run_convert_string_bytes W 9 22 5 T Tryd.underlying9 Tryd.underlying22 Tryd.underlying5
theorem gbytes_new (W : World) (T : ByteArray) : Lib.Bytes (Lib.bytesWorld W 5 T) W.heap.size 0 T := fun i h => by
  rw [Nat.zero_add, Lib.bytesWorld_cell W 5 T i h]
  have e : T.data.toList[i]? = some T[i] := by
    rw [List.getElem?_eq_getElem (by simpa using h)]; simp; rfl
  simp [List.getD, e]
/-- A text with one byte changed. -/
def chg (T : ByteArray) (i : Nat) (u : UInt8) : ByteArray := bsL (T.data.toList.set i u)
theorem chg_size (T : ByteArray) (i : Nat) (u : UInt8) : (chg T i u).size = T.size := by unfold chg; rw [bsL_size]; simp
theorem gbytes_set {W : World} {B : Nat} {T : ByteArray} (h : Lib.Bytes W B 0 T) (i : Nat) (hi : i < T.size) (u : UInt8) : Lib.Bytes (W.setCell ⟨B, i, none⟩ (.int .u8 (u.toNat : Int))) B 0 (chg T i u) := fun j hj => by
  have hz := chg_size T i u
  have hj' : j < T.size := by omega
  have e : (chg T i u)[j] = if i = j then u else T[j] := by
    have : (chg T i u).data.toList[j]'(by simpa using hj) = if i = j then u else T[j] := by
      unfold chg
      simp only [bsL_list]
      rw [List.getElem_set]
      split
      · rfl
      · simp; rfl
    rw [← this]; simp; rfl
  have ho := h j hj'
  have hm := h i hi
  rw [Nat.zero_add] at ho hm ⊢
  rw [e]
  by_cases hij : i = j
  · subst hij
    rw [if_pos rfl, World.cell?_setCell_same _ _ _ hm]
  · rw [if_neg hij, World.cell?_setCell_other _ _ _ _ (fun h => hij (by have := congrArg Addr.off h; simp at this; omega)), ho]
theorem gbytes_frozen (W : World) (T : ByteArray) (i : Nat) (hi : i < T.size) : (Lib.bytesWorld W 5 T).frozen? ⟨W.heap.size, i, none⟩ = false := by
  have := Lib.bytesWorld_at_new W 5 T
  unfold World.frozen?
  simp only [this]
  simp [Lib.bytesCells]
  omega
theorem gconv_back {W : World} {B : Nat} {V : ByteArray} (h : Lib.Bytes W B 0 V) (n c : Nat) (hn : V.size = n) : (convert 22 9 (.slice (some ⟨B, 0, none⟩) n c)).run Tryd.prog W = .ok (.string V) W := by
  subst hn
  exact Lib.run_convert_whole (P := Tryd.prog) W 22 5 9 Tryd.underlying22 Tryd.underlying5 Tryd.underlying9 B 0 V h c
set_option maxHeartbeats 1600000 in
theorem changed_any (T : ByteArray) (a : Int) (b : Int) (w : World) (hs : T.size ≤ 1000000000000) (ha : (Lit.int .i64 a).wf = true) (hb : (Lit.int .u8 b).wf = true) :
    Calls Tryd.prog 22 #[.string T, .int .i64 a, .int .u8 b] w fun e w' => ∃ V : ByteArray, e = .returned (.string V) ∧ V.size = T.size ∧ Below w.heap.size w w' := by
  obtain ⟨u, rfl⟩ : ∃ u : UInt8, b = (u.toNat : Int) := by
    have hb : 0 ≤ b ∧ b ≤ 255 := by simpa [Lit.wf, IntKind.min, IntKind.max, IntKind.signed, IntKind.bits] using hb
    exact ⟨UInt8.ofNat b.toNat, by rw [UInt8.toNat_ofNat']; omega⟩
  clear hb
  have pl := fun (h : 1 ≤ T.size) W => place_any a (T.size : Int) W (by omega) (by omega) ha
  have hI : 1 ≤ T.size → ∃ i : Nat, a % (T.size : Int) = i ∧ i < T.size := fun h => by
    have e0 := Int.emod_nonneg a (show (T.size : Int) ≠ 0 by omega)
    have e1 := Int.emod_lt_of_pos a (show (0 : Int) < (T.size : Int) by omega)
    obtain ⟨i, hi⟩ := Int.eq_ofNat_of_zero_le e0
    exact ⟨i, hi, by omega⟩
  have PL := Lib.hid pl; have HI := Lib.hid hI
  clear pl hI ha
  have hcn := gconv_new w T
  have hbn := gbytes_new w T
  have hfz := fun i hi => gbytes_frozen w T i hi
  have bl := gbytes_below w 5 T
  go_enter Tryd.func22, Tryd.ntmps22
  by_cases h0 : 0 < T.size
  · obtain ⟨i, hi, hi2⟩ := HI.out (by omega)
    have pl := fun W => PL.out (by omega) W
    rw [hi] at pl
    have P2 := Lib.hid pl; clear pl hi
    have hfz := hfz i hi2
    have hc := hbn i hi2
    rw [Nat.zero_add] at hc
    have hset := gbytes_set hbn i hi2 u
    have hcb := fun c => gconv_back hset T.size c (chg_size T i u)
    have j0 : (0 : Int) ≤ (i : Int) := by omega
    have j1 : (i : Int) < (T.size : Int) := by omega
    generalize Lib.bytesWorld w 5 T = wb at *
    go_wp2_with fail
    refine (P2.out _).mono ?_; rintro e w5 ⟨rfl, rfl⟩
    go_wp2_with fail
    go_ret
    exact ⟨_, rfl, chg_size T i u, bl.setCell (p := ⟨w.heap.size, i, none⟩) (Nat.le_refl _) _⟩
  · have i1 : decide (0 < T.size) = false := decide_eq_false (by omega)
    have hcb := fun c => gconv_back hbn T.size c rfl
    generalize Lib.bytesWorld w 5 T = wb at *
    go_wp2_with fail
    go_ret
    exact ⟨_, rfl, rfl, bl⟩
end Go.Proofs.YtphkpokoeaagfaaDoor
namespace Go.Proofs.YtphkpokoeaagfaaDoor
open Go.ChangeShapes Go.WideShapes Go.ChangeAt Go.RowKit
set_option linter.unusedVariables false
set_option linter.unusedSimpArgs false
set_option maxRecDepth 100000

theorem byte_ne {a b : ByteArray} (h : ¬ a = b) : (a.toList == b.toList) = false := by
  rw [beq_eq_false_iff_ne, Go.ByteArray.toList_eq, Go.ByteArray.toList_eq]
  intro e; exact h (by rw [← bsL_of a, e, bsL_of])
theorem ItoaOk.le {N M : Nat} {w : World} (h : ItoaOk N w) (hm : M ≤ N) : ItoaOk M w := fun r W hr hb => h r W (by omega) hb
theorem ItoaOk.call {N : Nat} {w w' : World} (h : ItoaOk N w) (hb : Below w.heap.size w w') : ItoaOk N w' := fun r W hr hb2 => h r W hr (BelowOn hb hb2)
theorem hidx0 (W : World) (a b : ByteArray) : Sem.run Tryd.prog (Instr.index 54 (.agg #[.string a, .string b]) (.int .i64 0)) W = .ok (.string a) W := by kernel_rfl
theorem hidx1 (W : World) (a b : ByteArray) : Sem.run Tryd.prog (Instr.index 54 (.agg #[.string a, .string b]) (.int .i64 1)) W = .ok (.string b) W := by kernel_rfl
def catP (ps : List Pt) (i : Nat) : List UInt8 := (ps.take i).flatMap (fun x => x.raw.data.toList)
theorem catP_next (ps : List Pt) (i : Nat) (h : i < ps.length) : bsL (catP ps i) ++ (ps[i]'h).raw = bsL (catP ps (i + 1)) := by
  unfold catP
  rw [List.take_add_one, List.getElem?_eq_getElem h, Option.toList_some, List.flatMap_append, ← bsL_append]
  congr 1
  simp [bsL_of]
theorem catP_le (ps : List Pt) (i : Nat) : (catP ps i).length ≤ (ps.flatMap (fun x => x.raw.data.toList)).length := by
  unfold catP
  conv => rhs; rw [← List.take_append_drop i ps, List.flatMap_append, List.length_append]
  omega
/-- What the law asks of the parts of a document that could be divided. -/
structure PFacts (u : ByteArray) (ps : List Pt) : Prop where
  odd : ps.length % 2 = 1
  yes : ∀ i (h : i < ps.length), i % 2 = 1 → (ps[i]'h).u = true ∧ ((ps[i]'h).key.toList.isEmpty = false) ∧ (dcM (ps[i]'h).raw.data.toList).2.2.2 = 0
  no : ∀ i (h : i < ps.length), ¬ i % 2 = 1 → (ps[i]'h).u = false ∧ (ps[i]'h).key = ⟨#[]⟩
  cat : bsL (catP ps ps.length) = u
  le : ∀ i, (bsL (catP ps i)).size ≤ u.size
  raw : ∀ i (h : i < ps.length), (ps[i]'h).raw.size ≤ u.size
theorem pfacts {u : ByteArray} {ps : List Pt} (h : POk u ps) : PFacts u ps := by
  have hcat : bsL (catP ps ps.length) = u := by unfold catP; rw [List.take_length, h.cat, bsL_of]
  have hle : ∀ i, (bsL (catP ps i)).size ≤ u.size := fun i => by
    rw [bsL_size]; have := catP_le ps i; rw [h.cat] at this; simpa using this
  refine ⟨h.odd, fun i hi h1 => ?_, fun i hi h1 => ?_, hcat, hle, fun i hi => ?_⟩
  · obtain ⟨a, b, c⟩ := h.alt i hi
    rw [decide_eq_true h1] at a
    refine ⟨a, ?_, c a⟩
    cases hk : (ps[i]'hi).key.toList.isEmpty
    · rfl
    · exfalso
      have : (ps[i]'hi).key = .empty := by
        rw [List.isEmpty_iff, Go.ByteArray.toList_eq] at hk
        rw [← bsL_of (ps[i]'hi).key, hk]; rfl
      rw [b.1 this] at a; cases a
  · obtain ⟨a, b, c⟩ := h.alt i hi
    rw [decide_eq_false h1] at a
    exact ⟨a, b.2 a⟩
  · have h1 := catP_next ps i hi
    have h2 := hle (i + 1)
    rw [← h1, ByteArray.size_append] at h2
    omega
theorem splBoth (D : ByteArray) : ((splB D).2.2 = 0 → POk D (splB D).1) ∧ ((splB D).2.2 ≠ 0 → (splB D).1 = []) := by
  unfold splB
  by_cases h : 65536 < D.size
  · rw [if_pos h]; exact ⟨fun h => (by cases h), fun _ => rfl⟩
  · rw [if_neg h]; exact splM_both D _ _ _ _ _ (PInv.start D) (Nat.le_refl _) (Nat.zero_le _)
set_option maxHeartbeats 12800000 in
theorem parts_any (p0 : Option Addr) (c0 : Nat) (a0 : List Int) (a1 a2 : Int) (w : World) (r0 : Ones w (Value.int .i64) p0 a0) (o0 : ∀ i (h : i < a0.length), (Lit.int .i64 (a0[i]'h)).wf = true) (n0 : a0.length ≤ c0) (m0 : c0 ≤ maxLen) (w1 : (Lit.int .i64 a1).wf = true) (w2 : (Lit.int .u8 a2).wf = true) (hI : ItoaOk 1000000000 w) (hMx : Mx w) :
    Calls Tryd.prog 6 #[.slice p0 a0.length c0, .int .i64 a1, .int .u8 a2] w fun e w' => e = .returned (.bool true) ∧ Below w.heap.size w w' := by
  have HK := Lib.hid (fun W (h : Below w.heap.size w W) => known_any W (hMx.call h))
  by_cases l0 : a0.length ≤ 200
  case neg =>
    have z0 : 200 < a0.length := by omega
    clear r0 o0 l0 w1 w2 hMx hI
    go_enter Tryd.func6, Tryd.ntmps6
    go_wp2_with fail
    refine (HK.out _ (Below.refl _ _)).mono ?_; rintro e w1 ⟨rfl, hb⟩
    go_wp2_with fail
    go_ret
    exact ⟨rfl, hb⟩
  have hnm := NumsAt.made r0 o0 n0 m0
  have hda := data_any w.heap.size p0 c0 a0 _ hnm
  unfold EndDa at hda
  have HDA := Lib.hid hda
  have hch := fun T W (h : ByteArray.size T ≤ 1000000000000) => changed_any T a1 a2 W h w1 w2
  have HCH := Lib.hid hch
  have hde := fun (u : ByteArray) W (hb : Below w.heap.size w W) (h : u.size ≤ 1000000) => decode_any u W (hMx.call hb) (by omega)
  have HDE := Lib.hid hde
  clear hda hnm hch hde r0 o0 w1 w2
  go_enter Tryd.func6, Tryd.ntmps6
  go_wp2_with fail
  refine HDA.out.mono ?_; rintro e w3 ⟨T, rfl, hok, hTz, hg⟩
  have bl : Below w.heap.size w w3 := (blw (Below.refl w.heap.size w) _).trans (grown_below hg (Nat.le_refl _) (by simp))
  clear hg
  go_wp2_with fail
  refine (HCH.out T _ (by omega)).mono ?_; rintro e w4 ⟨V, rfl, hVz, hb⟩
  have bl := BelowOn bl hb; clear hb
  have hsT := fun W (hb : Below w.heap.size w W) => split_any T W (hMx.call hb) (by omega) ((hI.call hb).le (by omega))
  have hsV := fun W (hb : Below w.heap.size w W) => split_any V W (hMx.call hb) (by omega) ((hI.call hb).le (by omega))
  clear hI hMx
  have hfT := pfacts ((splBoth T).1 hok)
  have hfV := fun h => pfacts ((splBoth V).1 h)
  have hnV := (splBoth V).2
  have hVT : (splB V).2.2 ≠ 0 → (V.toList == T.toList) = false := fun h => byte_ne (fun e => h (by rw [e]; exact hok))
  have hVz2 : V.size ≤ 10000 := by omega
  obtain ⟨RT, hRT⟩ : ∃ R, splB T = R := ⟨_, rfl⟩
  obtain ⟨RV, hRV⟩ : ∃ R, splB V = R := ⟨_, rfl⟩
  rw [hRT] at hsT hfT hok
  rw [hRV] at hsV hfV hnV hVT
  obtain ⟨PT, qT, eT⟩ := RT
  obtain ⟨PV, qV, eV⟩ := RV
  unfold EndS at hsT hsV
  dsimp only at hsT hsV hfT hfV hnV hVT hok
  subst hok
  have HST := Lib.hid hsT; have HSV := Lib.hid hsV; have HFT := Lib.hid hfT; have HFV := Lib.hid hfV; have HNV := Lib.hid hnV; have HVT := Lib.hid hVT
  clear hsT hsV hfT hfV hnV hVT hRT hRV hVz
  have ix0 := fun W => hidx0 W T V
  have ix1 := fun W => hidx1 W T V
  go_wp2_with fail
  go_loopw [32] (fun i wr => ∃ k : Nat, k ≤ 2 ∧ i = .int .i64 k ∧ Below w.heap.size w wr) (fun i _ => 2 - (intOf i).toNat)
  case atStart => exact ⟨0, by omega, rfl, bl⟩
  case round =>
    obtain ⟨k, hk, rfl, hB⟩ := hrel
    clear bl
    have hk3 : k = 0 ∨ k = 1 ∨ k = 2 := by omega
    rcases hk3 with rfl | rfl | rfl
    · go_wp2_with fail
      refine (HST.out _ hB).mono ?_; rintro e w6 ⟨pp, cc, rfl, x1, x2, hP6, hb⟩
      have hB6 := BelowOn hB hb
      clear hb hB
      have HF := Lib.hid HFT.out
      have HC0 := Lib.hid (show (⟨#[]⟩ : ByteArray) = bsL (catP PT 0) from rfl)
      have hodd := HF.out.odd
      generalize hPl : PT.length = N at *
      have hNb : N ≤ 9223372036854775807 := by unfold maxLen at x2; omega
      go_wp2_with fail
      go_loopw [13, 53] (fun v i wr => ∃ j : Nat, j ≤ N ∧ i = .int .i64 (j : Int) ∧ v = .string (bsL (catP PT j)) ∧ Below w6.heap.size w6 wr) (fun _ i _ => N - (intOf i).toNat)
      case atStart => exact ⟨0, Nat.zero_le _, rfl, by rw [← HC0.out], Below.refl _ _⟩
      case round =>
        obtain ⟨j, hj, rfl, rfl, hB7⟩ := hrel
        by_cases hlt : j < N
        · have hjl : j < PT.length := by omega
          obtain ⟨ad, hpp, had, d0, d1, d2⟩ := (hP6.call hB7).row j hjl
          subst hpp
          have hle := HF.out.le j
          have hrz := HF.out.raw j hjl
          have hnx := catP_next PT j hjl
          have hyes := HF.out.yes j hjl
          have hno := HF.out.no j hjl
          have hdr := fun W hb => HDE.out (PT[j]'hjl).raw W hb (by omega)
          unfold EndD at hdr
          have j1 : (j : Int) < (N : Int) := by omega
          generalize PT[j]'hjl = x at *
          have HNX := Lib.hid hnx
          clear hnx
          by_cases hm : j % 2 = 1
          · obtain ⟨g1, g2, g3⟩ := hyes hm
            rw [g1] at d0
            rw [g3] at hdr
            have q1 : (((j : Int) % 2) == 1) = true := by rw [beq_iff_eq]; omega
            have HDR := Lib.hid hdr
            generalize dcM x.raw.data.toList = Y at *
            clear hyes hno hdr g3
            generalize bsL (catP PT j) = S at *
            have z1 : ¬ (9223372036854775807 < S.size + x.raw.size) := by omega
            go_upto_region 16 with fail
            go_quiet (fail)
            have hB8 := BelowOn hB7 (below_qN wr nq)
            have d0' : (wr.drewN nq).cell? (ad.add (j * 3)) = some (.bool true) := d0
            clear d1
            go_wp2_with fail
            refine (HDR.out _ (BelowOn hB6 hB8)).mono ?_; rintro e w8 ⟨p9, c9, rfl, -, -, -, hb9⟩
            have hB9 := BelowOn hB8 hb9
            have e0 : w8.cell? (ad.add (j * 3)) = some (.bool true) := by
              rw [hb9.cell (p := ad.add (j * 3)) (by rw [add_block]; exact had)]; exact d0'
            clear d0 d0' d2 hb9
            go_wp2_with fail
            go_roundw
            case rel => exact ⟨j + 1, by omega, by go_num, by rw [HNX.out], hB9⟩
            case measure => simp [intOf]; omega
          · obtain ⟨g1, g2⟩ := hno hm
            rw [g1] at d0
            rw [g2] at d1
            have q1 : (((j : Int) % 2) == 1) = false := by rw [beq_eq_false_iff_ne]; omega
            have HDR := Lib.hid hdr
            generalize dcM x.raw.data.toList = Y at *
            clear hyes hno hdr g2
            generalize bsL (catP PT j) = S at *
            have z1 : ¬ (9223372036854775807 < S.size + x.raw.size) := by omega
            go_upto_region 16 with fail
            go_quiet (fail)
            have hB8 := BelowOn hB7 (below_qN wr nq)
            have d0' : (wr.drewN nq).cell? (ad.add (j * 3)) = some (.bool false) := d0
            clear d1
            go_wp2_with fail
            refine (HDR.out _ (BelowOn hB6 hB8)).mono ?_; rintro e w8 ⟨p9, c9, rfl, -, -, -, hb9⟩
            have hB9 := BelowOn hB8 hb9
            have e0 : w8.cell? (ad.add (j * 3)) = some (.bool false) := by
              rw [hb9.cell (p := ad.add (j * 3)) (by rw [add_block]; exact had)]; exact d0'
            clear d0 d0' d2 hb9
            go_wp2_with fail
            go_roundw
            case rel => exact ⟨j + 1, by omega, by go_num, by rw [HNX.out], hB9⟩
            case measure => simp [intOf]; omega
        · obtain rfl : j = N := by omega
          have hcS : bsL (catP PT j) = T := by rw [← hPl]; exact HF.out.cat
          generalize bsL (catP PT j) = S at *
          subst hcS
          have q2 : (((j : Int) % 2) != 1) = false := by
            have : (((j : Int) % 2) == 1) = true := by rw [beq_iff_eq]; omega
            rw [bne, this]; rfl
          have hB9 := BelowOn hB6 hB7
          go_wp2_with fail
          go_roundw
          case rel => exact ⟨1, by omega, by go_num, hB9⟩
          case measure => simp [intOf]
    · by_cases hv : eV = 0
      · subst hv
        have HFV2 := Lib.hid (HFV.out rfl)
        clear HFV HNV HVT
        go_wp2_with fail
        refine (HSV.out _ hB).mono ?_; rintro e w6 ⟨pp, cc, rfl, x1, x2, hP6, hb⟩
        have hB6 := BelowOn hB hb
        clear hb hB
        have HF := Lib.hid HFV2.out
        have HC0 := Lib.hid (show (⟨#[]⟩ : ByteArray) = bsL (catP PV 0) from rfl)
        have hodd := HF.out.odd
        generalize hPl : PV.length = N at *
        have hNb : N ≤ 9223372036854775807 := by unfold maxLen at x2; omega
        go_wp2_with fail
        go_loopw [13, 53] (fun v i wr => ∃ j : Nat, j ≤ N ∧ i = .int .i64 (j : Int) ∧ v = .string (bsL (catP PV j)) ∧ Below w6.heap.size w6 wr) (fun _ i _ => N - (intOf i).toNat)
        case atStart => exact ⟨0, Nat.zero_le _, rfl, by rw [← HC0.out], Below.refl _ _⟩
        case round =>
          obtain ⟨j, hj, rfl, rfl, hB7⟩ := hrel
          by_cases hlt : j < N
          · have hjl : j < PV.length := by omega
            obtain ⟨ad, hpp, had, d0, d1, d2⟩ := (hP6.call hB7).row j hjl
            subst hpp
            have hle := HF.out.le j
            have hrz := HF.out.raw j hjl
            have hnx := catP_next PV j hjl
            have hyes := HF.out.yes j hjl
            have hno := HF.out.no j hjl
            have hdr := fun W hb => HDE.out (PV[j]'hjl).raw W hb (by omega)
            unfold EndD at hdr
            have j1 : (j : Int) < (N : Int) := by omega
            generalize PV[j]'hjl = x at *
            have HNX := Lib.hid hnx
            clear hnx
            by_cases hm : j % 2 = 1
            · obtain ⟨g1, g2, g3⟩ := hyes hm
              rw [g1] at d0
              rw [g3] at hdr
              have q1 : (((j : Int) % 2) == 1) = true := by rw [beq_iff_eq]; omega
              have HDR := Lib.hid hdr
              generalize dcM x.raw.data.toList = Y at *
              clear hyes hno hdr g3
              generalize bsL (catP PV j) = S at *
              have z1 : ¬ (9223372036854775807 < S.size + x.raw.size) := by omega
              go_upto_region 16 with fail
              go_quiet (fail)
              have hB8 := BelowOn hB7 (below_qN wr nq)
              have d0' : (wr.drewN nq).cell? (ad.add (j * 3)) = some (.bool true) := d0
              clear d1
              go_wp2_with fail
              refine (HDR.out _ (BelowOn hB6 hB8)).mono ?_; rintro e w8 ⟨p9, c9, rfl, -, -, -, hb9⟩
              have hB9 := BelowOn hB8 hb9
              have e0 : w8.cell? (ad.add (j * 3)) = some (.bool true) := by
                rw [hb9.cell (p := ad.add (j * 3)) (by rw [add_block]; exact had)]; exact d0'
              clear d0 d0' d2 hb9
              go_wp2_with fail
              go_roundw
              case rel => exact ⟨j + 1, by omega, by go_num, by rw [HNX.out], hB9⟩
              case measure => simp [intOf]; omega
            · obtain ⟨g1, g2⟩ := hno hm
              rw [g1] at d0
              rw [g2] at d1
              have q1 : (((j : Int) % 2) == 1) = false := by rw [beq_eq_false_iff_ne]; omega
              have HDR := Lib.hid hdr
              generalize dcM x.raw.data.toList = Y at *
              clear hyes hno hdr g2
              generalize bsL (catP PV j) = S at *
              have z1 : ¬ (9223372036854775807 < S.size + x.raw.size) := by omega
              go_upto_region 16 with fail
              go_quiet (fail)
              have hB8 := BelowOn hB7 (below_qN wr nq)
              have d0' : (wr.drewN nq).cell? (ad.add (j * 3)) = some (.bool false) := d0
              clear d1
              go_wp2_with fail
              refine (HDR.out _ (BelowOn hB6 hB8)).mono ?_; rintro e w8 ⟨p9, c9, rfl, -, -, -, hb9⟩
              have hB9 := BelowOn hB8 hb9
              have e0 : w8.cell? (ad.add (j * 3)) = some (.bool false) := by
                rw [hb9.cell (p := ad.add (j * 3)) (by rw [add_block]; exact had)]; exact d0'
              clear d0 d0' d2 hb9
              go_wp2_with fail
              go_roundw
              case rel => exact ⟨j + 1, by omega, by go_num, by rw [HNX.out], hB9⟩
              case measure => simp [intOf]; omega
          · obtain rfl : j = N := by omega
            have hcS : bsL (catP PV j) = V := by rw [← hPl]; exact HF.out.cat
            generalize bsL (catP PV j) = S at *
            subst hcS
            have q2 : (((j : Int) % 2) != 1) = false := by
              have : (((j : Int) % 2) == 1) = true := by rw [beq_iff_eq]; omega
              rw [bne, this]; rfl
            have hB9 := BelowOn hB6 hB7
            go_wp2_with fail
            go_roundw
            case rel => exact ⟨2, by omega, by go_num, hB9⟩
            case measure => simp [intOf]
      · have hz := HNV.out hv
        have hvt := HVT.out hv
        have q : (eV != 0) = true := by simpa using hv
        subst hz
        clear HFV HNV HVT
        go_wp2_with fail
        refine (HSV.out _ hB).mono ?_; rintro e w6 ⟨pp, cc, rfl, x1, x2, hP6, hb⟩
        have hB6 := BelowOn hB hb
        clear hb hB hP6
        go_wp2_with fail
        go_roundw
        case rel => exact ⟨2, by omega, by go_num, hB6⟩
        case measure => simp [intOf]
    · go_wp2_with fail
      refine (HK.out _ hB).mono ?_; rintro e w7 ⟨rfl, hb⟩
      have bl := BelowOn hB hb; clear hb
      go_wp2_with fail
      go_ret
      exact ⟨rfl, bl⟩
end Go.Proofs.YtphkpokoeaagfaaDoor
namespace Go.Proofs.YtphkpokoeaagfaaDoor.markupParts
open Go.ChangeShapes Go.WideShapes Go.ChangeAt Go.RowKit
open Go.ChangeMaps (open_string shut_string)
set_option linter.unusedVariables false
set_option maxRecDepth 100000

theorem own : ownKnob Tryd.prog.godebug = none := by kernel_rfl
theorem laidOut : laidOutB Tryd.prog = true := by kernel_rfl


set_option maxHeartbeats 1600000 in
theorem walk (p0 : Option Addr) (c0 : Nat) (a0 : List Int) (a1 : Int) (a2 : Int) (w : World) (r0 : Ones w (Value.int .i64) p0 a0) (o0 : ∀ i (h : i < a0.length), (Lit.int .i64 (a0[i]'h)).wf = true) (n0 : a0.length ≤ c0) (m0 : c0 ≤ maxLen) (w1 : (Lit.int .i64 a1).wf = true) (w2 : (Lit.int .u8 a2).wf = true) (hE : ItoaOk 1000000000 w) (hMx : Mx w) :
    Calls Tryd.prog 6 #[.slice p0 a0.length c0, .int .i64 a1, .int .u8 a2] w fun e w' => e = .returned (.bool true) ∧ Below w.heap.size w w' := by
  exact parts_any p0 c0 a0 a1 a2 w r0 o0 n0 m0 w1 w2 hE hMx

theorem lifted (os : Os) (started : os.Started) (H : Type) (enc : TypeId × Value → H) :
    ReturnsInHanded {} Tryd.checked os 6 .any (fun w args => (Rows.markupPartsSpec.pre enc Tryd.prog Tryd.f6 Rows.markupPartsRow.domain false w args ∧ laidMetH Tryd.prog Rows.markupPartsRow.laid w) ∧ sizedMet enc Tryd.prog Tryd.f6 (OpenSpec.ofChange Rows.markupPartsSpec) false w args)
      (Rows.markupPartsSpec.post enc Tryd.prog Tryd.f6 false true false false) := by
  refine returnsInHanded_of_calls (C := Tryd.checked) own started (by kernel_rfl)
    (ChangeSpec.witness_shaped (enc := enc) (C := Tryd.checked) (os := os) (X := fun w _ => laidMetH Tryd.prog Rows.markupPartsRow.laid w) false (World.laidAll Tryd.prog os Rows.markupPartsRow.laid) #[.slice none 0 0, .int .i64 0, .int .u8 0] 8 (World.laidAll_os _ _ _) (World.shaped_of_ZipB (by kernel_rfl) (by kernel_rfl)) (by kernel_rfl) (by kernel_rfl) (by kernel_rfl) (by rw [MakeChecks.laidMetH_plain _ _ _ (by kernel_rfl)]; exact laidMet_laidAll _ (by kernel_rfl) (by kernel_rfl))) ?_
  intro w0 tape inp _ hsh _ hok hpre _
  obtain ⟨_, _, _, fn1, hfn1, _, _, _, _, hval0⟩ := hok
  obtain rfl : Tryd.f6 = fn1 := Option.some.inj (Tryd.func6.symm.trans hfn1)
  obtain ⟨⟨⟨ds, gs, before, hW0, hcnd⟩, hL0⟩, hz0⟩ := hpre
  have hW := DataW.Whole.of_heap (w' := w0.forCall tape inp) (by rfl) hW0
  have hsz0 := hz0.weights hW0
  have hL : laidMetH Tryd.prog Rows.markupPartsRow.laid (w0.forCall tape inp) := hL0.of_heap (by rfl)
  suffices hK : Calls Tryd.prog 6 inp.args (w0.forCall tape inp) fun e W' => ∃ v, e = .returned v ∧ Rows.markupPartsSpec.post enc Tryd.prog Tryd.f6 false true false false (w0.forCall tape inp) inp.args v W' from
    hK.mono fun e W' ⟨v, he, hp⟩ => by subst he; exact ChangeSpec.post_blind hp
  clear hW0 hz0 hL0
  generalize w0.forCall tape inp = W at *
  generalize inp.args = args at *
  generalize w0.heap.size = base at *
  have hval : ∀ (j : Nat) t v, Tryd.f6.params[j]? = some t → args[j]? = some v → Value.okWide Tryd.prog W .any base t v := hval0
  have hW' := hW
  have hlt : ∀ x ∈ before, x.block < W.heap.size := fun x hx => hW'.lt x hx
  obtain ⟨p, q, hA0, hV, rfl, hfz, hnd⟩ := hW
  have hA : DataW.TrodAll enc Tryd.prog W 0 (fun _ => true) true Tryd.f6.params.toList args.toList ds p := hA0
  rw [Tryd.params6] at hA hval hsz0
  obtain ⟨v0, vs0, d0, ds0, p0, q0, hargs, rfl, rfl, h0, r0⟩ := trodAll_cons hA
  obtain ⟨v1, vs1, d1, ds1, p1, q1, rfl, rfl, rfl, h1, r1⟩ := trodAll_cons r0
  obtain ⟨v2, vs2, d2, ds2, p2, q2, rfl, rfl, rfl, h2, r2⟩ := trodAll_cons r1
  obtain ⟨rfl, rfl, rfl⟩ := trodAll_nil r2
  obtain rfl : args = #[v0, v1, v2] := by cases args; simp_all
  obtain ⟨rfl, rfl⟩ := trodVars_none hV
  have hsz := hsz0; clear hsz0
  obtain ⟨pp0, c0, a0, rfl, n0, m0, y0, o0⟩ := opened_ints (okBase (hval 0 32 v0 rfl rfl)) h0
  obtain ⟨a1, rfl, -, -, w1⟩ := open_int Tryd.underlying3 (hval 1 3 v1 rfl rfl) h1
  obtain ⟨a2, rfl, -, -, w2⟩ := open_int Tryd.underlying5 (hval 2 5 v2 rfl rfl) h2
  clear hA0 hval0
  refine (walk pp0 c0 a0 a1 a2 W y0 o0 n0 m0 w1 w2 (itoa_of_laid hL) (mx_of_shaped hsh)).mono fun e W' ⟨he, bel⟩ => ?_
  subst he
  exact ⟨_, rfl, _, _, _, [], _, [], hW', trodAll_mk1 (shut_bool Tryd.underlying4 _), (trodAll_cons_mk (Below.trod laidOut (by kernel_rfl) (of_decide_eq_true (by kernel_rfl)) h0 bel (fun x hx => hlt x (by simp [hx]))) (trodAll_cons_mk (Below.trod laidOut (by kernel_rfl) (of_decide_eq_true (by kernel_rfl)) h1 bel (fun x hx => hlt x (by simp [hx]))) (trodAll_cons_mk (Below.trod laidOut (by kernel_rfl) (of_decide_eq_true (by kernel_rfl)) h2 bel (fun x hx => hlt x (by simp [hx]))) trodAll_mk0))), rfl, bel.frame _, fun h => by cases h⟩

theorem over : Rows.MarkupPartsSaid :=
  OpenClaim.holds_of_wide 6 Tryd.f6 rfl rfl rfl rfl rfl rfl rfl ⟨rfl, rfl, rfl, rfl, rfl⟩ rfl rfl rfl rfl rfl (by kernel_rfl) Tryd.func6 (by kernel_rfl)
    (of_decide_eq_true (by kernel_rfl)) (by unfold Func.isWrapper; first | (rw [if_pos (by decide +kernel)]; kernel_rfl) | (rw [if_neg (by decide +kernel)]; exact ⟨rfl, rfl⟩))
    (fun os started H enc _ => lifted os started H enc)

theorem proved : Rows.MarkupPartsCardSaid :=
  Claim7.holds_tied_plain_at .later [] [.data, .data, .data] true (true, "57ef196fd23df9bba85e5a26644ca28b94ab80892a4814cbd88e02ce20a34e9b") false
    over (fun _ h => by cases h) (by kernel_rfl) (fun _ h => by cases h) markupParts_row_tie rfl ⟨rfl, rfl⟩ (by kernel_rfl) rfl
    (fun f fn hf hfn => by
      obtain rfl : f = 6 := Option.some.inj ((show Tryd.prog.funcNamed "bitext/bitextlaw7.MarkupParts" = some 6 by kernel_rfl).symm.trans hf) |>.symm
      obtain rfl : fn = Tryd.f6 := (Option.some.inj (Tryd.func6.symm.trans hfn)).symm
      exact ⟨by kernel_rfl, fun j t ht => by
        rw [Tryd.params6] at ht
        have hm : t ∈ [32, 3, 5] := by simpa using Array.mem_of_getElem? ht
        have hall : ([32, 3, 5].all fun u => !Tryd.prog.wantsStandIn u) = true := by kernel_rfl
        exact (show Tryd.prog.wantsStandIn t = false by simpa using List.all_eq_true.1 hall t hm)⟩)
    (by kernel_rfl)
#print axioms proved
end Go.Proofs.YtphkpokoeaagfaaDoor.markupParts
