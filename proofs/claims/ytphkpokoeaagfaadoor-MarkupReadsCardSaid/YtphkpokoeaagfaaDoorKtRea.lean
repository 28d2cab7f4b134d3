/- What the rows' condition on the listed variables gives: Itoa's contract. Plain mathematics of raw contents with longer forms: they read as the fragment. Contracts of the reference's byteOf and Block. The contract of the reference's Encode, at the format of markup. Items that lie elsewhere stay when a row grows. Contracts of the generator's raw contents at the format of markup. The walk of MarkupReads. The law MarkupReads holds for every input. -/
import Derived.Test.YtphkpokoeaagfaaDoorRows
import Derived.Test.YtphkpokoeaagfaaDoorKtF
import Derived.Shelf.Vars
import Derived.LaidMore
import Derived.MakeChecks
import Derived.LaidHandle
import Derived.Lib.LaidU8
import Derived.Lib.AppendIntMem
import Derived.Test.YtphkpokoeaagfaaDoorRvl
import Derived.Test.YtphkpokoeaagfaaDoorIt
import Derived.Test.YtphkpokoeaagfaaDoorAcc
import Derived.Test.YtphkpokoeaagfaaDoorFst
import Derived.Test.YtphkpokoeaagfaaDoorLin
import Derived.Test.YtphkpokoeaagfaaDoorRsl
import Derived.Test.YtphkpokoeaagfaaDoorKtA
import Derived.Test.YtphkpokoeaagfaaDoorSam
import Derived.WalkKit
import Derived.ProofKit
import Derived.OpenShut
import Derived.ChangeOld
import Derived.Below
import Derived.Carry
import Derived.SizedLaws
import Derived.Test.YtphkpokoeaagfaaDoorCards
import Derived.Test.YtphkpokoeaagfaaDoorTie
import Derived.Stop.Joined
import Derived.SevenTiedAt
import Derived.Lay
import Derived.Test.YtphkpokoeaagfaaDoorArf
namespace Go.Proofs.YtphkpokoeaagfaaDoor
open Go.ChangeShapes Go.WideShapes Go.ChangeAt Go.RowKit
set_option linter.unusedVariables false
set_option maxRecDepth 100000

theorem gPow : Tryd.prog.globalNamed "internal/strconv.uint64pow10" = some 0 := by kernel_rfl
theorem tPow : (Tryd.prog.globals[0]?).map (·.type) = some 151 := by kernel_rfl
theorem cellsU64 : Tryd.prog.cellsOf 141 = 1 := by kernel_rfl
theorem cellsPow : Tryd.prog.cellsOf 151 = 20 := by kernel_rfl
theorem laidData : (Rows.laid_internal_strconv_uint64pow10 : DataW Unit) = Lib.tabData .u64 Lib.pow10Tab := by rfl
abbrev laidL : List (String × DataW Unit) := [("math/bits.deBruijn32tab", Rows.laid_math_bits_deBruijn32tab), ("math/bits.deBruijn64tab", Rows.laid_math_bits_deBruijn64tab), ("internal/strconv.uint64pow10", Rows.laid_internal_strconv_uint64pow10)]
theorem itoa_of_laid {W : World} (h : laidMetH Tryd.prog laidL W) : ItoaOk 1000000000 W := by
  rw [MakeChecks.laidMetH_plain _ _ _ (by kernel_rfl)] at h
  have hT : Lib.TabIs Tryd.prog W "internal/strconv.uint64pow10" .u64 Lib.pow10Tab := by
    obtain ⟨g, t, cs, fuel, p, hg, ht, hv, hd⟩ := Lib.laidMet.reads h (n := "internal/strconv.uint64pow10") (d := Rows.laid_internal_strconv_uint64pow10) (.tail _ (.tail _ (.head _)))
    obtain rfl := Option.some.inj (gPow.symm.trans hg)
    obtain rfl := Option.some.inj (tPow.symm.trans ht)
    unfold Lib.TabIs
    rw [laidData] at hd
    rw [hv, ← Lib.cells_of_tab Tryd.underlying151 Tryd.underlying141 cellsU64 cellsPow hd]
  exact ItoaOk.of (fun w1 hb => Lib.tabBelow_of_tabIs hT w1 hb) (by decide)
theorem mx_of_shaped {W : World} (h : W.ShapedOpen Tryd.prog) : Mx W := cell_of_shapedOpen_int (zero := #[.int .i64 0]) (t := 3) (g := 1) h (of_decide_eq_true (by kernel_rfl)) (by kernel_rfl) rfl (by kernel_rfl) (by kernel_rfl) Tryd.underlying3
end Go.Proofs.YtphkpokoeaagfaaDoor
namespace Go.Proofs.YtphkpokoeaagfaaDoor
set_option linter.unusedVariables false
set_option maxRecDepth 100000
open Go.Lib

/-- What a position may be written as. -/
def PieM (x : It) (t : List UInt8) : Prop := t = e1M x ∨ (x.k = 1 ∧ x.t = ⟨#[62]⟩ ∧ t = [38, 103, 116, 59]) ∨ (x.k = 1 ∧ x.t = ⟨#[125]⟩ ∧ t = [38, 114, 98, 59])
theorem pie_wordM (x : It) (h : One x) (hb : isT x.k = true → blk x = false) {t : List UInt8} (ht : PieM x t) : WordM t (unN x) := by
  rcases ht with rfl | ⟨h1, h2, rfl⟩ | ⟨h1, h2, rfl⟩
  · exact word_enc h hb
  · obtain ⟨c, rfl⟩ := one_bT h h1
    have hc : c = 62 := by
      have h2 : bsL [c] = bsL [62] := h2
      have := bsL_inj h2
      injection this
    subst hc
    exact wordM_ref ([103, 116, 59], 62) (by simp [refW])
  · obtain ⟨c, rfl⟩ := one_bT h h1
    have hc : c = 125 := by
      have h2 : bsL [c] = bsL [125] := h2
      have := bsL_inj h2
      injection this
    subst hc
    exact wordM_ref ([114, 98, 59], 125) (by simp [refW])
theorem pie_lenM {x : It} (hx : x.t.size ≤ 1024) {t : List UInt8} (ht : PieM x t) : t.length ≤ 6010 := by
  have h1 := e1M_len hx
  rcases ht with rfl | ⟨_, _, rfl⟩ | ⟨_, _, rfl⟩
  · omega
  · simp
  · simp
/-- Bytes that are the positions, one behind the other, each in one of its forms. -/
def RawsM (xs : List It) (raw : List UInt8) : Prop := ∃ ws : Ws, raw = flatW ws ∧ itW ws = xs ∧ ∀ w ∈ ws, PieM w.2 w.1
theorem RawsM.nil : RawsM [] [] := ⟨[], rfl, rfl, fun w h => by cases h⟩
theorem RawsM.snoc {xs : List It} {raw : List UInt8} (h : RawsM xs raw) {x : It} {t : List UInt8} (ht : PieM x t) : RawsM (xs ++ [x]) (raw ++ t) := by
  obtain ⟨ws, e1, e2, e3⟩ := h
  refine ⟨ws ++ [(t, x)], ?_, ?_, fun w hw => ?_⟩
  · rw [flatW_append, ← e1, flatW_cons, flatW_nil, List.append_nil]
  · show (ws ++ [(t, x)]).map Prod.snd = _
    rw [List.map_append]; show itW ws ++ [x] = _; rw [e2]
  · rcases List.mem_append.1 hw with hw | hw
    · exact e3 w hw
    · obtain rfl := List.mem_singleton.1 hw; exact ht
/-- A raw content of a fragment reads as it. -/
theorem raws_wordsM {f : List It} (h : valE f = 0) (hm : MadeOk f) {raw : List UInt8} (hr : RawsM (expI f) raw) : ∃ ws : Ws, raw = flatW ws ∧ itW ws = (expI f).map unN ∧ AllM ws ∧ dcM raw = (f, offs 0 ws, 0, 0) := by
  obtain ⟨ws, e1, e2, e3⟩ := hr
  obtain ⟨h1, h2, h3⟩ := valE_zero h
  have hnb := noBlk_exp hm.nb
  have hall : AllM (ws.map fun w => (w.1, unN w.2)) := fun w hw => by
    rw [List.mem_map] at hw
    obtain ⟨v, hv, rfl⟩ := hw
    have hx : v.2 ∈ expI f := by rw [← e2]; exact List.mem_map.2 ⟨v, hv, rfl⟩
    exact pie_wordM v.2 (exp_ok h3 v.2 hx) (hnb v.2 hx) (e3 v hv)
  have hfl : flatW (ws.map fun w => (w.1, unN w.2)) = raw := by
    rw [e1]
    clear e1 e2 e3 hall
    induction ws with
    | nil => rfl
    | cons w t ih => rw [List.map_cons, flatW_cons, flatW_cons, ih]
  have hit : itW (ws.map fun w => (w.1, unN w.2)) = (expI f).map unN := by
    rw [← e2]; unfold itW; rw [List.map_map, List.map_map]; rfl
  have hlen : (ws.map fun w => (w.1, unN w.2)).length = lenI f := by
    rw [List.length_map, ← expI_len, ← e2]; unfold itW; rw [List.length_map]
  obtain ⟨n, hn⟩ := hm.run
  have hd := dcM_words hall (by rw [hit]; exact hn) (by rw [norm_exp, norm_valid f h3]; exact h1) (by rw [hlen]; exact h2)
  rw [hfl, norm_exp, norm_valid f h3] at hd
  exact ⟨_, hfl.symm, hit, hall, hd⟩
end Go.Proofs.YtphkpokoeaagfaaDoor
namespace Go.Proofs.YtphkpokoeaagfaaDoor
open Go.ChangeShapes Go.WideShapes Go.ChangeAt Go.RowKit
set_option linter.unusedVariables false
set_option linter.unusedSimpArgs false
set_option maxRecDepth 100000

theorem rconv_byte (w : World) (c : UInt8) : (convert 22 9 (.slice (some ⟨w.heap.size, 0, none⟩) 1 1)).run Tryd.prog (w.alloc (.cells #[.int .u8 (c.toNat : Int)] 5)) = .ok (.string ⟨#[c]⟩) (w.alloc (.cells #[.int .u8 (c.toNat : Int)] 5)) :=
  Lib.run_convert_whole (P := Tryd.prog) _ 22 5 9 Tryd.underlying22 Tryd.underlying5 Tryd.underlying9 w.heap.size 0 ⟨#[c]⟩ (fun i hi => by
    have hi' : i < 1 := hi
    obtain rfl : i = 0 := by omega
    rw [Nat.zero_add, Lib.cell_of_heap (heap_alloc_new w _)]; rfl) 1
theorem u8_of_eq {c k : UInt8} (h : ((c.toNat : Int) == (k.toNat : Int)) = true) : c = k := by
  rw [beq_iff_eq] at h
  exact UInt8.toNat_inj.1 (by omega)
set_option maxHeartbeats 1600000 in
theorem byteof_ref (c : UInt8) (w : World) : Calls Tryd.prog 112 #[.int .i64 1, .int .u8 (c.toNat : Int)] w fun e w' => e = .returned (.string (bsL (byM c))) ∧ Below w.heap.size w w' := by
  have b0 : (0 : Int) ≤ (c.toNat : Int) := by omega
  have b1 : (c.toNat : Int) ≤ 255 := by have := c.toNat_lt; omega
  have hcv := rconv_byte w c
  have hB : Below w.heap.size w (w.alloc (.cells #[.int .u8 (c.toNat : Int)] 5)) := blw (Below.refl _ _) _
  by_cases h60 : c = 60
  · have he : bsL (byM c) = ⟨#[38, 108, 116, 59]⟩ := by rw [h60]; rfl
    have HE := Lib.hid he
    have q0 : ((c.toNat : Int) == 60) = true := by rw [h60]; rfl
    clear he h60
    go_enter Tryd.func112, Tryd.ntmps112
    go_wp2_with fail
    go_ret
    exact ⟨by rw [HE.out]; rfl, hB⟩
  by_cases h38 : c = 38
  · have he : bsL (byM c) = ⟨#[38, 97, 109, 112, 59]⟩ := by rw [h38]; rfl
    have HE := Lib.hid he
    have q0 : ((c.toNat : Int) == 38) = true := by rw [h38]; rfl
    clear he h38
    go_enter Tryd.func112, Tryd.ntmps112
    go_wp2_with fail
    (try simp only [Exit.inBlock, Exit.then])
    go_ret
    exact ⟨by rw [HE.out]; rfl, hB⟩
  by_cases h123 : c = 123
  · have he : bsL (byM c) = ⟨#[38, 108, 98, 59]⟩ := by rw [h123]; rfl
    have HE := Lib.hid he
    have q0 : ((c.toNat : Int) == 123) = true := by rw [h123]; rfl
    clear he h123
    go_enter Tryd.func112, Tryd.ntmps112
    go_wp2_with fail
    (try simp only [Exit.inBlock, Exit.then])
    go_ret
    exact ⟨by rw [HE.out]; rfl, hB⟩
  have q0 : ((c.toNat : Int) == 60) = false := u8_int_ne h60
  have q1 : ((c.toNat : Int) == 38) = false := u8_int_ne h38
  have q2 : ((c.toNat : Int) == 123) = false := u8_int_ne h123
  have he : bsL (byM c) = ⟨#[c]⟩ := by unfold byM; rw [if_neg h60, if_neg h38, if_neg h123]; rfl
  have HE := Lib.hid he
  clear he h60 h38 h123
  go_enter Tryd.func112, Tryd.ntmps112
  go_wp2_with fail
  go_ret
  exact ⟨by rw [HE.out]; rfl, hB⟩
theorem block_ref (n : ByteArray) (w : World) : Calls Tryd.prog 58 #[.string n] w fun e w' => e = .returned (.bool (blkN n)) ∧ w = w' := by
  by_cases h0 : n = ⟨#[112]⟩
  · subst h0
    go_enter Tryd.func58, Tryd.ntmps58
    go_wp2
    all_goals go_ret
    all_goals exact ⟨rfl, rfl⟩
  by_cases h1 : n = ⟨#[104]⟩
  · subst h1
    go_enter Tryd.func58, Tryd.ntmps58
    go_wp2
    all_goals go_ret
    all_goals exact ⟨rfl, rfl⟩
  by_cases h2 : n = ⟨#[108, 105]⟩
  · subst h2
    go_enter Tryd.func58, Tryd.ntmps58
    go_wp2
    all_goals go_ret
    all_goals exact ⟨rfl, rfl⟩
  by_cases h3 : n = ⟨#[116, 100]⟩
  · subst h3
    go_enter Tryd.func58, Tryd.ntmps58
    go_wp2
    all_goals go_ret
    all_goals exact ⟨rfl, rfl⟩
  have s0 := lst_ne [112] h0
  have s1 := lst_ne [104] h1
  have s2 := lst_ne [108, 105] h2
  have s3 := lst_ne [116, 100] h3
  by_cases h4 : n = ⟨#[116, 105, 116, 108, 101]⟩
  · subst h4
    go_enter Tryd.func58, Tryd.ntmps58
    go_wp2
    all_goals go_ret
    all_goals exact ⟨rfl, rfl⟩
  · have he : blkN n = false := by unfold blkN; rw [decide_eq_false_iff_not]; rintro (h | h | h | h | h) <;> contradiction
    have s4 := lst_ne [116, 105, 116, 108, 101] h4
    rw [he]
    clear h0 h1 h2 h3 h4 he
    go_enter Tryd.func58, Tryd.ntmps58
    go_wp2
    all_goals go_ret
    all_goals exact ⟨ret_bool (by simp), rfl⟩
end Go.Proofs.YtphkpokoeaagfaaDoor
namespace Go.Proofs.YtphkpokoeaagfaaDoor
open Go.ChangeShapes Go.WideShapes Go.ChangeAt Go.RowKit
set_option linter.unusedVariables false
set_option linter.unusedSimpArgs false
set_option maxRecDepth 100000

theorem any_at {f : List It} {k : Nat} (hk : k < f.length) (h : isT (f[k]'hk).k = true) (hb : blk (f[k]'hk) = true) : anyB (tagsL f) = true := by
  unfold anyB
  rw [List.any_eq_true]
  exact ⟨_, mem_tags.2 ⟨List.getElem_mem hk, h⟩, hb⟩
theorem any_none {f : List It} (h : ∀ k (hk : k < f.length), isT (f[k]'hk).k = true → blk (f[k]'hk) = false) : anyB (tagsL f) = false := any_tags (fun x hx ht => by
  obtain ⟨i, hi, rfl⟩ := List.mem_iff_getElem.1 hx
  exact h i hi ht)
theorem bs_three (L : List UInt8) (a t b : ByteArray) : bsL L ++ (a ++ t ++ b) = bsL (L ++ (a.data.toList ++ t.data.toList ++ b.data.toList)) := by
  rw [← bsL_append, ← bsL_append, ← bsL_append, bsL_of, bsL_of, bsL_of]
theorem bs_2 (L : List UInt8) {x : It} (h : x.k = 2) : bsL L ++ (⟨#[60]⟩ ++ x.t ++ ⟨#[62]⟩) = bsL (L ++ e1M x) := by rw [e1M_2 h, bs_three]
theorem bs_3 (L : List UInt8) {x : It} (h : x.k = 3) : bsL L ++ (⟨#[60, 47]⟩ ++ x.t ++ ⟨#[62]⟩) = bsL (L ++ e1M x) := by rw [e1M_3 h, ← bsL_append, bsL_of]
theorem bs_4 (L : List UInt8) {x : It} (h : x.k = 4) : bsL L ++ (⟨#[60]⟩ ++ x.t ++ ⟨#[47, 62]⟩) = bsL (L ++ e1M x) := by rw [e1M_4 h, bs_three]
theorem bs_5 (L : List UInt8) {x : It} (h : x.k = 5) : bsL L ++ (⟨#[123]⟩ ++ x.t ++ ⟨#[125]⟩) = bsL (L ++ e1M x) := by rw [e1M_5 h, bs_three]
theorem bs_t (L : List UInt8) {x : It} (h : x.k = 1) : bsL (L ++ encT x.t.data.toList) = bsL (L ++ e1M x) := by rw [e1M_1 h]
theorem bs_next (L : List UInt8) (s : ByteArray) (j : Nat) (h : j < s.size) : bsL (L ++ encT (s.data.toList.take j)) ++ bsL (byM s[j]) = bsL (L ++ encT (s.data.toList.take (j + 1))) := by
  rw [bsL_append, encT_next s j h, List.append_assoc]
theorem proper_flat {x : It} (hp : properB x = true) (h : isT x.k = false) : x.k = 1 ∨ x.k = 5 := by
  rcases proper_kinds hp with q | q | q
  · exact .inl q
  · rw [h] at q; cases q
  · exact .inr q
set_option maxHeartbeats 3200000 in
theorem refencode_any (p : Option Addr) (cap : Nat) (f : List It) (w : World) (hR : Its w p f) (hO : Oks f) (hc : f.length ≤ cap) (hm : cap ≤ maxLen) :
    Calls Tryd.prog 85 #[.int .i64 1, .slice p f.length cap] w fun e w' => e = .returned (.tuple #[.string (encE f).1, .int .i64 (encE f).2]) ∧ Below w.heap.size w w' := by
  have hv := fun w hR => rvalidate_any p cap f w hR hO hc hm
  by_cases h : valE f = 0
  · have h512 := (valE_zero h).1
    have hit := fun k hk => eitem_small h k hk
    have hln := fun k hk => enc_len h k hk
    have hok : anyB (tagsL f) = false → encE f = (bsL (encM f), 0) := encE_ok h
    have hbad : anyB (tagsL f) = true → encE f = (.empty, 7) := encE_tag h
    have hnt := any_none (f := f)
    rw [h] at hv
    have HV := Lib.hid hv; have HI := Lib.hid hit; have HL := Lib.hid hln; have HOK := Lib.hid hok; have HBD := Lib.hid hbad; have HNT := Lib.hid hnt
    clear hv hit hln hok hbad hnt h
    unfold maxLen at hm
    go_enter Tryd.func85, Tryd.ntmps85
    go_wp2_with fail
    refine (HV.out _ hR).mono ?_; rintro e w1 ⟨rfl, hb⟩
    go_wp2_with fail
    go_loopw [7, 18] (fun v i wr => ∃ (k : Nat), k ≤ f.length ∧ i = .int .i64 k ∧ v = .string (bsL (encM (f.take k))) ∧ (∀ j (hj : j < f.length), j < k → isT (f[j]'hj).k = true → blk (f[j]'hj) = false) ∧ Below w.heap.size w wr) (fun _ i _ => f.length - (intOf i).toNat)
    case atStart => exact ⟨0, Nat.zero_le _, rfl, rfl, fun j _ h => absurd h (Nat.not_lt_zero j), hb⟩
    case round =>
      obtain ⟨k, hk, rfl, rfl, hNo, hB⟩ := hrel
      have hNO := Lib.hid hNo
      clear hNo
      by_cases hlt : k < f.length
      · obtain ⟨ad, rfl, had, c0, c1, c2⟩ := (hR.call hB).row k hlt
        obtain ⟨hp, hts⟩ := HI.out k hlt
        have hl := HL.out k hk
        have hn := encM_next f k hlt
        have htg : isT (f[k]'hlt).k = true → blk (f[k]'hlt) = true → encE f = (.empty, 7) := fun q r => HBD.out (any_at hlt q r)
        have hno2 : (isT (f[k]'hlt).k = true → blk (f[k]'hlt) = false) → ∀ j (hj : j < f.length), j < k + 1 → isT (f[j]'hj).k = true → blk (f[j]'hj) = false := fun q j hj hjk => by
          by_cases e : j = k
          · subst e; exact q
          · exact hNO.out j hj (by omega)
        generalize f[k] = x at *
        generalize encM (f.take k) = L at *
        have hfl : isT x.k = false → x.k = 1 ∨ x.k = 5 := proper_flat hp
        have HN := Lib.hid hn; have HTG := Lib.hid htg; have HNO2 := Lib.hid hno2; have HFL := Lib.hid hfl
        clear hn htg hno2 hp hfl
        have V := Var3.new wr x.k x.t x.id
        have hB1 := blw hB (.cells #[.int .i64 x.k, .string x.t, .int .i64 x.id] 40)
        obtain ⟨v0, v1, v2, vl⟩ := id V
        have ht := fun W => ristag_any x.k x.t x.id W
        have hnm := fun W => rname_any x.t W (by unfold maxLen; omega)
        have hbl := fun W => block_ref (nameB x.t) W
        have HNM := Lib.hid hnm
        clear hnm
        cases hq : isT x.k
        case true =>
          rw [hq] at ht
          have HT := Lib.hid ht
          have hk3 : x.k = 2 ∨ x.k = 3 ∨ x.k = 4 := by unfold isT at hq; simpa using hq
          have hbk' : blkN (nameB x.t) = blk x := rfl
          rw [hbk'] at hbl
          clear hbk' ht
          cases hb : blk x
          case true =>
            have he := HTG.out hq hb
            have HE := Lib.hid he
            rw [hb] at hbl
            have HBL := Lib.hid hbl
            clear he hq hbl hb hk3
            go_wp2_with fail
            refine (HT.out _).mono ?_; rintro e w2 ⟨rfl, hb2⟩
            have V2 := V.call hb2
            have hB2 := BelowOn hB1 hb2
            clear V v0 v1 v2 vl
            obtain ⟨v0, v1, v2, vl⟩ := id V2
            go_wp2_with fail
            refine (HNM.out _).mono ?_; rintro e w3 ⟨rfl, rfl⟩
            go_wp2_with fail
            refine (HBL.out _).mono ?_; rintro e w4 ⟨rfl, rfl⟩
            go_wp2_with fail
            go_ret2
            exact ⟨by rw [HE.out]; rfl, hB2⟩
          have hno3 := HNO2.out (fun _ => hb)
          have HN3 := Lib.hid hno3
          rw [hb] at hbl
          have HBL := Lib.hid hbl
          clear hq hbl hb hno3
          go_wp2_with fail
          refine (HT.out _).mono ?_; rintro e w2 ⟨rfl, hb2⟩
          have V2 := V.call hb2
          have hB2 := BelowOn hB1 hb2
          clear V v0 v1 v2 vl
          obtain ⟨v0, v1, v2, vl⟩ := id V2
          go_wp2_with fail
          refine (HNM.out _).mono ?_; rintro e w3 ⟨rfl, rfl⟩
          go_wp2_with fail
          refine (HBL.out _).mono ?_; rintro e w4 ⟨rfl, rfl⟩
          have hB4 := hB2
          rcases hk3 with h2 | h3 | h4
          · have hfin := bs_2 L h2
            have HF := Lib.hid hfin
            have s1 : (⟨#[60]⟩ : ByteArray).size = 1 := rfl
            have s2 : (⟨#[62]⟩ : ByteArray).size = 1 := rfl
            have z0 : (bsL L).size = L.length := bsL_size L
            have z1 : ¬ (9223372036854775807 < 1 + x.t.size) := by omega
            have z2 : ¬ (9223372036854775807 < (⟨#[60]⟩ ++ x.t : ByteArray).size + 1) := by
              rw [ByteArray.size_append, s1]; omega
            have z3 : ¬ (9223372036854775807 < (bsL L).size + ((⟨#[60]⟩ ++ x.t ++ ⟨#[62]⟩ : ByteArray)).size) := by
              rw [ByteArray.size_append, ByteArray.size_append, s1, s2]; omega
            have q1 : (x.k == 1) = false := by rw [h2]; rfl
            have q2 : (x.k == 2) = true := by rw [h2]; rfl
            clear hfin h2 s1 s2 z0
            generalize bsL L = S at *
            go_wp2_with fail
            go_roundw
            case rel => exact ⟨k + 1, hlt, by go_num, by rw [HN.out, ← HF.out], fun j hj hjk => HN3.out j hj hjk, hB4⟩
            case measure => simp [intOf]; omega
          · have hfin := bs_3 L h3
            have HF := Lib.hid hfin
            have s1 : (⟨#[60, 47]⟩ : ByteArray).size = 2 := rfl
            have s2 : (⟨#[62]⟩ : ByteArray).size = 1 := rfl
            have z0 : (bsL L).size = L.length := bsL_size L
            have z1 : ¬ (9223372036854775807 < 2 + x.t.size) := by omega
            have z2 : ¬ (9223372036854775807 < (⟨#[60, 47]⟩ ++ x.t : ByteArray).size + 1) := by
              rw [ByteArray.size_append, s1]; omega
            have z3 : ¬ (9223372036854775807 < (bsL L).size + ((⟨#[60, 47]⟩ ++ x.t ++ ⟨#[62]⟩ : ByteArray)).size) := by
              rw [ByteArray.size_append, ByteArray.size_append, s1, s2]; omega
            have q1 : (x.k == 1) = false := by rw [h3]; rfl
            have q2 : (x.k == 2) = false := by rw [h3]; rfl
            have q3 : (x.k == 3) = true := by rw [h3]; rfl
            clear hfin h3 s1 s2 z0
            generalize bsL L = S at *
            go_wp2_with fail
            go_roundw
            case rel => exact ⟨k + 1, hlt, by go_num, by rw [HN.out, ← HF.out], fun j hj hjk => HN3.out j hj hjk, hB4⟩
            case measure => simp [intOf]; omega
          · have hfin := bs_4 L h4
            have HF := Lib.hid hfin
            have s1 : (⟨#[60]⟩ : ByteArray).size = 1 := rfl
            have s2 : (⟨#[47, 62]⟩ : ByteArray).size = 2 := rfl
            have z0 : (bsL L).size = L.length := bsL_size L
            have z1 : ¬ (9223372036854775807 < 1 + x.t.size) := by omega
            have z2 : ¬ (9223372036854775807 < (⟨#[60]⟩ ++ x.t : ByteArray).size + 2) := by
              rw [ByteArray.size_append, s1]; omega
            have z3 : ¬ (9223372036854775807 < (bsL L).size + ((⟨#[60]⟩ ++ x.t ++ ⟨#[47, 62]⟩ : ByteArray)).size) := by
              rw [ByteArray.size_append, ByteArray.size_append, s1, s2]; omega
            have q1 : (x.k == 1) = false := by rw [h4]; rfl
            have q2 : (x.k == 2) = false := by rw [h4]; rfl
            have q3 : (x.k == 3) = false := by rw [h4]; rfl
            have q4 : (x.k == 4) = true := by rw [h4]; rfl
            clear hfin h4 s1 s2 z0
            generalize bsL L = S at *
            go_wp2_with fail
            go_roundw
            case rel => exact ⟨k + 1, hlt, by go_num, by rw [HN.out, ← HF.out], fun j hj hjk => HN3.out j hj hjk, hB4⟩
            case measure => simp [intOf]; omega
        case false =>
          have hkd := HFL.out hq
          have hno3 := HNO2.out (fun e => by rw [hq] at e; cases e)
          have HN3 := Lib.hid hno3
          rw [hq] at ht
          have HT := Lib.hid ht
          clear ht hq hno3
          rcases hkd with h1 | h5
          · have q1 : (x.k == 1) = true := by rw [h1]; rfl
            have hfin := bs_t L h1
            have HF := Lib.hid hfin
            clear hfin h1
            go_wp2_with fail
            refine (HT.out _).mono ?_; rintro e w2 ⟨rfl, hb2⟩
            have V2 := V.call hb2
            have hB2 := BelowOn hB1 hb2
            clear V v0 v1 v2 vl
            obtain ⟨v0, v1, v2, vl⟩ := id V2
            go_wp2_with fail
            go_loopw [7, 10] (fun v i wi => ∃ (j : Nat), j ≤ x.t.size ∧ i = .int .i64 j ∧ v = .string (bsL (L ++ encT (x.t.data.toList.take j))) ∧ Var3 wi wr.heap.size x.k x.t x.id ∧ Below w.heap.size w wi) (fun _ i _ => x.t.size - (intOf i).toNat)
            case atStart => exact ⟨0, Nat.zero_le _, rfl, by simp [encT], V2, hB2⟩
            case round =>
              obtain ⟨j, hj, rfl, rfl, V3, hB3⟩ := hrel
              obtain ⟨v0, v1, v2, vl⟩ := id V3
              by_cases hjl : j < x.t.size
              · have hnx := bs_next L x.t j hjl
                have htl := encT_take x.t j (by omega)
                have hbl := byM_len x.t[j]
                have hz : ¬ (9223372036854775807 < (bsL (L ++ encT (x.t.data.toList.take j))).size + (bsL (byM x.t[j])).size) := by
                  rw [bsL_size, bsL_size, List.length_append]; omega
                have hbo := fun W => byteof_ref x.t[j] W
                have HB0 := Lib.hid hbo; have HX := Lib.hid hnx
                clear hbo hnx htl hbl
                generalize bsL (L ++ encT (x.t.data.toList.take j)) = S at *
                generalize hU : bsL (byM x.t[j]) = U at *
                clear hU
                go_wp2_with fail
                refine (HB0.out _).mono ?_; rintro e w4 ⟨rfl, hb4⟩
                go_wp2_with fail
                go_roundw
                case rel => exact ⟨j + 1, hjl, by go_num, by rw [← HX.out], V3.call hb4, BelowOn hB3 hb4⟩
                case measure => simp [intOf]; omega
              · have hj' : x.t.data.toList.take j = x.t.data.toList := List.take_of_length_le (by simp; omega)
                rw [hj', HF.out]
                go_wp2_with fail
                go_roundw
                case rel => exact ⟨k + 1, hlt, by go_num, by rw [HN.out], fun j hj hjk => HN3.out j hj hjk, hB3⟩
                case measure => simp [intOf]; omega
          · have q5 : (x.k == 5) = true := by rw [h5]; rfl
            have q1 : (x.k == 1) = false := by rw [h5]; rfl
            have q2 : (x.k == 2) = false := by rw [h5]; rfl
            have q3 : (x.k == 3) = false := by rw [h5]; rfl
            have q4 : (x.k == 4) = false := by rw [h5]; rfl
            have hfin := bs_5 L h5
            have HF := Lib.hid hfin
            have s1 : (⟨#[123]⟩ : ByteArray).size = 1 := rfl
            have s2 : (⟨#[125]⟩ : ByteArray).size = 1 := rfl
            have z0 : (bsL L).size = L.length := bsL_size L
            have z1 : ¬ (9223372036854775807 < 1 + x.t.size) := by omega
            have z2 : ¬ (9223372036854775807 < (⟨#[123]⟩ ++ x.t : ByteArray).size + 1) := by
              rw [ByteArray.size_append, s1]; omega
            have z3 : ¬ (9223372036854775807 < (bsL L).size + ((⟨#[123]⟩ ++ x.t ++ ⟨#[125]⟩ : ByteArray)).size) := by
              rw [ByteArray.size_append, ByteArray.size_append, s1, s2]; omega
            clear hfin h5 s1 s2 z0
            generalize bsL L = S at *
            go_wp2_with fail
            refine (HT.out _).mono ?_; rintro e w2 ⟨rfl, hb2⟩
            have V2 := V.call hb2
            have hB2 := BelowOn hB1 hb2
            clear V v0 v1 v2 vl
            obtain ⟨v0, v1, v2, vl⟩ := id V2
            go_wp2_with fail
            go_roundw
            case rel => exact ⟨k + 1, hlt, by go_num, by rw [HN.out, ← HF.out], fun j hj hjk => HN3.out j hj hjk, hB2⟩
            case measure => simp [intOf]; omega
      · obtain rfl : k = f.length := by omega
        have he := HOK.out (HNT.out (fun j hj => hNO.out j hj hj))
        have HE := Lib.hid he
        clear he
        rw [List.take_length]
        go_wp2_with fail
        go_ret2
        exact ⟨by rw [HE.out]; rfl, hB⟩
  · rw [encE_bad h]
    have q : (valE f == 0) = false := by simpa using h
    have HV := Lib.hid hv
    clear hv h
    generalize valE f = E at *
    go_enter Tryd.func85, Tryd.ntmps85
    go_wp2_with fail
    refine (HV.out _ hR).mono ?_; rintro e w1 ⟨rfl, hb⟩
    go_wp2_with fail
    go_ret2
    exact ⟨rfl, hb⟩
end Go.Proofs.YtphkpokoeaagfaaDoor
namespace Go.Proofs.YtphkpokoeaagfaaDoor
open Go.ChangeShapes Go.WideShapes Go.ChangeAt Go.RowKit
set_option linter.unusedVariables false
theorem Its.past {W w1 : World} {p : Option Addr} {l : List It} {row : Option Nat} (h : Its W p l) (hg : W.grownBy w1 row) (hn : ∀ a, p = some a → row ≠ some a.block) : Its w1 p l := fun h0 => by
  obtain ⟨a, ha, hlt, _⟩ := h h0
  refine (h.keep hg.size (fun b hb => ?_)) h0
  refine hg.block _ ?_ (fun e => hn b hb e.symm)
  rw [ha] at hb; injection hb with hb; subst hb; exact hlt
end Go.Proofs.YtphkpokoeaagfaaDoor
namespace Go.Proofs.YtphkpokoeaagfaaDoor
open Go.ChangeShapes Go.WideShapes Go.ChangeAt Go.RowKit
set_option linter.unusedVariables false
set_option linter.unusedSimpArgs false
set_option maxRecDepth 100000

/-- What longer makes of an item's bytes. -/
def LngR (y : It) (T t : List UInt8) : Prop := t = T ∨ (y.k = 1 ∧ y.t = ⟨#[62]⟩ ∧ t = [38, 103, 116, 59]) ∨ (y.k = 1 ∧ y.t = ⟨#[125]⟩ ∧ t = [38, 114, 98, 59])
def EndL (b : Nat) (p : Option Addr) (cap : Nat) (L : List Int) (m : Nat) (P : List UInt8 → Prop) (w : World) (e : Ending) (w' : World) : Prop := ∃ t m', e = .returned (.string (bsL t)) ∧ P t ∧ m' ≤ m + 1 ∧ w.grownBy w' (some b) ∧ NumsAt w' b p cap L m'
set_option maxHeartbeats 3200000 in
theorem longer_any (b : Nat) (p : Option Addr) (cap : Nat) (L : List Int) (m : Nat) (y : It) (T : List UInt8) (w : World) (h : NumsAt w b p cap L m) (hm : m ≤ 900000) (hT : T.length ≤ 100000) :
    Calls Tryd.prog 86 #[.pointer (some ⟨b, 0, none⟩), .int .i64 1, .agg #[.int .i64 y.k, .string y.t, .int .i64 y.id], .string (bsL T)] w (EndL b p cap L m (LngR y T) w) := by
  obtain ⟨yk, yt, yi⟩ := y
  obtain ⟨v0, v1, v2, v3⟩ := Var3.new w yk yt yi
  have hal := h.call (blw (Below.refl _ _) (.cells #[.int .i64 yk, .string yt, .int .i64 yi] 40))
  have hca := chg_below (b := b) (blw (Below.refl w.heap.size w) (.cells #[.int .i64 yk, .string yt, .int .i64 yi] 40))
  have hd : True := trivial
  dsimp only
  generalize hB : bsL T = B
  have HB := Lib.hid hB
  clear hB
  by_cases h62 : yt = ⟨#[62]⟩
  · have s1 : (yt.toList == [62]) = true := by rw [Go.ByteArray.toList_eq, h62]; rfl
    have s2 : (yt.toList == [125]) = false := lst_ne [125] (by rw [h62]; decide)
    by_cases hk : yk = 1
    · have q1 : (yk == 1) = true := by rw [hk]; rfl
      have HR := Lib.hid (show LngR ⟨yk, yt, yi⟩ T [38, 103, 116, 59] from .inr (.inl ⟨hk, h62, rfl⟩))
      clear hd hk; try clear h62
      try clear h125
      go_enter Tryd.func86, Tryd.ntmps86
      go_wp2_with fail
      (try simp only [Exit.inBlock, Exit.then])
      go_ret
      exact ⟨[38, 103, 116, 59], m, rfl, HR.out, by omega, hca, hal⟩
    · have q1 : (yk == 1) = false := by simpa using hk
      have HR := Lib.hid (show LngR ⟨yk, yt, yi⟩ T T from .inl rfl)
      clear hd hk; try clear h62
      try clear h125
      go_enter Tryd.func86, Tryd.ntmps86
      go_wp2_with fail
      (try simp only [Exit.inBlock, Exit.then])
      go_ret
      exact ⟨T, m, by rw [HB.out]; rfl, HR.out, by omega, hca, hal⟩
  have s1 := lst_ne [62] h62
  by_cases h125 : yt = ⟨#[125]⟩
  · have s2 : (yt.toList == [125]) = true := by rw [Go.ByteArray.toList_eq, h125]; rfl
    by_cases hk : yk = 1
    · have q1 : (yk == 1) = true := by rw [hk]; rfl
      have HR := Lib.hid (show LngR ⟨yk, yt, yi⟩ T [38, 114, 98, 59] from .inr (.inr ⟨hk, h125, rfl⟩))
      clear hd hk; try clear h62
      try clear h125
      go_enter Tryd.func86, Tryd.ntmps86
      go_wp2_with fail
      (try simp only [Exit.inBlock, Exit.then])
      go_ret
      exact ⟨[38, 114, 98, 59], m, rfl, HR.out, by omega, hca, hal⟩
    · have q1 : (yk == 1) = false := by simpa using hk
      have HR := Lib.hid (show LngR ⟨yk, yt, yi⟩ T T from .inl rfl)
      clear hd hk; try clear h62
      try clear h125
      go_enter Tryd.func86, Tryd.ntmps86
      go_wp2_with fail
      (try simp only [Exit.inBlock, Exit.then])
      go_ret
      exact ⟨T, m, by rw [HB.out]; rfl, HR.out, by omega, hca, hal⟩
  have s2 := lst_ne [125] h125
  have HR := Lib.hid (show LngR ⟨yk, yt, yi⟩ T T from .inl rfl)
  clear hd h62 h125
  go_enter Tryd.func86, Tryd.ntmps86
  go_wp2_with fail
  (try simp only [Exit.inBlock, Exit.then])
  go_ret
  exact ⟨T, m, by rw [HB.out]; rfl, HR.out, by omega, hca, hal⟩
theorem lng_pie {y x : It} {t : List UInt8} (hx : expX y = [x]) (h : LngR y (e1M x) t) : PieM x t := by
  have key : y.k = 1 → x.k = 1 ∧ x.t = y.t := fun hk => by
    rw [expX_text hk] at hx
    obtain ⟨c, hc⟩ : ∃ c, y.t.data.toList = [c] := by
      have := congrArg List.length hx
      rw [List.length_map] at this
      exact List.length_eq_one_iff.1 this
    rw [hc] at hx
    injection hx with hx
    subst hx
    refine ⟨rfl, ?_⟩
    have := bsL_of y.t
    rw [hc] at this
    rw [← this]; rfl
  rcases h with h | ⟨h1, h2, h3⟩ | ⟨h1, h2, h3⟩
  · exact .inl h
  · exact .inr (.inl ⟨(key h1).1, by rw [(key h1).2]; exact h2, h3⟩)
  · exact .inr (.inr ⟨(key h1).1, by rw [(key h1).2]; exact h2, h3⟩)
theorem one_size {x : It} (h : One x) : x.t.size ≤ 1024 := by
  rcases h with ⟨h1, h2, h3⟩ | ⟨h1, h2⟩
  · omega
  · exact etxt_small h2 (by unfold wid; split <;> omega)
/-- The slice of one position, and what it is written as. -/
theorem one_slice {F : List It} (hv : valE F = 0) (ht : noBlk F) (i : Nat) (hi : i < lenI F) : ∃ x : It, (expI F).take (i + 1) = (expI F).take i ++ [x] ∧ expI (slI F 0 i (i + 1)) = [x] ∧ valE (slI F 0 i (i + 1)) = 0 ∧ encE (slI F 0 i (i + 1)) = (bsL (e1M x), 0) ∧ x.t.size ≤ 1024 := by
  have hl := expI_len F
  have hi' : i < (expI F).length := by omega
  refine ⟨(expI F)[i], ?_, ?_, sl_valid hv i (i + 1), ?_, ?_⟩
  · rw [List.take_add_one, List.getElem?_eq_getElem hi']; rfl
  · rw [exp_cut F i (i + 1) (by omega) (by omega), Nat.add_sub_cancel_left, List.drop_eq_getElem_cons hi']; rfl
  · have h1 : anyB (tagsL (slI F 0 i (i + 1))) = false := any_tags (fun y hy ht2 => by
      exact ht y (sl_tags F 0 i (i + 1) y hy ht2) ht2)
    rw [encE_ok (sl_valid hv i (i + 1)) h1, ← encM_exp]
    unfold encM
    rw [exp_cut F i (i + 1) (by omega) (by omega), Nat.add_sub_cancel_left, List.drop_eq_getElem_cons hi']
    simp only [List.take_succ_cons, List.take_zero, List.flatMap_cons, List.flatMap_nil, List.append_nil]
  · exact one_size (exp_ok (valE_zero hv).2.2 (expI F)[i] (List.getElem_mem _))

def EndRw (F : List It) (b : Nat) (p : Option Addr) (cap : Nat) (L : List Int) (m : Nat) (w : World) (e : Ending) (w' : World) : Prop := ∃ (raw : List UInt8) (m' : Nat), e = .returned (.string (bsL raw)) ∧ RawsM (expI F) raw ∧ raw.length ≤ 6010 * lenI F ∧ m' ≤ m + 2 * lenI F ∧ w.grownBy w' (some b) ∧ NumsAt w' b p cap L m'
set_option maxHeartbeats 6400000 in
theorem mkraws_any (b : Nat) (p : Option Addr) (cap : Nat) (L : List Int) (m : Nat) (pf : Option Addr) (cf : Nat) (F : List It) (w : World) (h : NumsAt w b p cap L m) (hm : m ≤ 800000) (hF : Its w pf F) (hsep : 0 < F.length → ∀ a, pf = some a → some b ≠ some a.block) (hc : F.length ≤ cf) (hcm : cf ≤ maxLen) (hv : valE F = 0) (ht : noBlk F) (htx : txtI F ≤ 140737488355328) :
    Calls Tryd.prog 43 #[.pointer (some ⟨b, 0, none⟩), .int .i64 1, .slice pf F.length cf] w (EndRw F b p cap L m w) := by
  obtain ⟨h1, h2, h3⟩ := valE_zero hv
  have hO := oks_valid h3 htx
  have hlen := fun W i => rlength_any pf cf F W i hc hcm (by omega)
  have hsl := fun k (hk : k < lenI F) W i => rslice_yes pf cf F k (k + 1) W i hO hc hcm (by omega) (by omega) (by omega) (by omega)
  have hone := fun k hk => one_slice hv ht k hk
  have henc := fun k (hk : k < lenI F) q c W (i : Its W q (slI F 0 k (k + 1))) (a : (slI F 0 k (k + 1)).length ≤ c) (b : c ≤ maxLen) => refencode_any q c (slI F 0 k (k + 1)) W i (oks_valid (valE_zero (sl_valid hv k (k + 1))).2.2 (by have := txt_sl F 0 k (k + 1); omega)) a b
  have hnx := fun m (hm : m ≤ 900000) W h => next_any b p cap L m 3 3 rfl W h (by omega) (by omega) (by omega)
  have hlg := fun m (hm : m ≤ 900000) y T (hT : T.length ≤ 100000) W h => longer_any b p cap L m y T W h hm hT
  have hpe : ∀ x : It, x.t.size ≤ 1024 → ∀ t, PieM x t → t.length ≤ 6010 := fun x hx t ht => pie_lenM hx ht
  have HL := Lib.hid hlen; have HS := Lib.hid hsl; have HO := Lib.hid hone; have HE := Lib.hid henc; have HN := Lib.hid hnx; have HG := Lib.hid hlg; have HP := Lib.hid hsep; have HPE := Lib.hid hpe
  have HX := Lib.hid (expI_len F)
  clear hlen hsl hone henc hnx hlg hsep hpe hO h3 htx hv ht h1
  go_enter Tryd.func43, Tryd.ntmps43
  go_wp2_with fail
  go_loopw [7, 8] (fun v i wr => ∃ (k m' : Nat) (rl : List UInt8), k ≤ lenI F ∧ i = .int .i64 k ∧ v = .string (bsL rl) ∧ Hid (RawsM ((expI F).take k) rl) ∧ rl.length ≤ 6010 * k ∧ m' ≤ m + 2 * k ∧ w.grownBy wr (some b) ∧ NumsAt wr b p cap L m') (fun _ i _ => lenI F - (intOf i).toNat)
  case atStart => exact ⟨0, m, [], Nat.zero_le _, rfl, rfl, Lib.hid RawsM.nil, Nat.zero_le _, Nat.le_refl _, chg_below (Below.refl _ _), h⟩
  case round =>
    obtain ⟨k, m', rl, hk, rfl, rfl, HR, hrl, hm', hgr, hN⟩ := hrel
    have hFr : Its wr pf F := fun h0 => hF.past hgr (HP.out h0) h0
    by_cases hlt : k < lenI F
    · obtain ⟨x, htk, hex, hve, hen, hxs⟩ := HO.out k hlt
      have hS := fun W i => HS.out k hlt W i
      have hE := fun q c W i a b => HE.out k hlt q c W i a b
      rw [hen] at hE
      dsimp only at hE
      have HEX := Lib.hid hex; have HTK := Lib.hid htk
      have el : (e1M x).length ≤ 6000 := e1M_len hxs
      clear hex htk hen hve
      generalize slI F 0 k (k + 1) = X at *
      have hpx := HPE.out x hxs
      have SS := Lib.hid hS; have EE := Lib.hid hE; have PX := Lib.hid hpx
      clear hS hE hpx
      have n1 := fun W h => HN.out m' (by omega) W h
      have g1 := fun y W h => HG.out (m' + 1) (by omega) y (e1M x) (by omega) W h
      have N1 := Lib.hid n1; have G1 := Lib.hid g1; clear n1 g1
      go_wp2_with fail
      refine (HL.out _ hFr).mono ?_; rintro e w1 ⟨rfl, rfl⟩
      go_wp2_with fail
      refine (SS.out _ hFr).mono ?_; rintro e w2 ⟨v, rfl, hA⟩
      obtain ⟨px, cx, rfl, ha, hb, hi⟩ := hA.own.its
      have hadr := OwnL.addr hA.own
      have hsx : ∀ a, px = some a → some b ≠ some a.block := fun a ha e => by
        have h1 := (hadr a ha).1
        have h2 := hN.lt
        injection e with e
        omega
      have HSX := Lib.hid hsx
      clear hsx hadr
      have hN2 := hN.call hA.below
      have hgr2 := chg_trans hgr (chg_below (b := b) hA.below)
      clear hA
      go_wp2_with fail
      refine (EE.out _ _ _ hi ha hb).mono ?_; rintro e w3 ⟨rfl, hb3⟩
      have hN3 := hN2.call hb3
      have hgr3 := chg_trans hgr2 (chg_below (b := b) hb3)
      have hi3 := hi.call hb3
      clear hi hN2 hgr2 hb3 hFr
      have sz : (bsL rl).size + (bsL (e1M x)).size ≤ 100000000 := by rw [bsL_size, bsL_size]; omega
      have sz1 : ¬ (9223372036854775807 < (bsL rl).size + (bsL (e1M x)).size) := by omega
      have hcat : bsL rl ++ bsL (e1M x) = bsL (rl ++ e1M x) := by rw [bsL_append]
      have hfin : ∀ t m2 (W : World), PieM x t → m2 ≤ m' + 2 → w.grownBy W (some b) → NumsAt W b p cap L m2 → ∃ (k1 m1 : Nat) (rl1 : List UInt8), k1 ≤ lenI F ∧ Value.int .i64 ((k : Int) + 1) = .int .i64 k1 ∧ Value.string (bsL (rl ++ t)) = .string (bsL rl1) ∧ Hid (RawsM ((expI F).take k1) rl1) ∧ rl1.length ≤ 6010 * k1 ∧ m1 ≤ m + 2 * k1 ∧ w.grownBy W (some b) ∧ NumsAt W b p cap L m1 := fun t m2 W ht h1 h2 h3 =>
        ⟨k + 1, m2, rl ++ t, hlt, by go_num, rfl, Lib.hid (by rw [HTK.out]; exact HR.out.snoc ht), by rw [List.length_append]; have := PX.out t ht; omega, by omega, h2, h3⟩
      have HFIN := Lib.hid hfin; have HCAT := Lib.hid hcat
      clear hfin hcat
      by_cases hx1 : X.length = 1
      · have q1 : ((X.length : Int) == 1) = true := by rw [hx1]; rfl
        obtain ⟨y, hX⟩ : ∃ y, X = [y] := List.length_eq_one_iff.1 hx1
        have hy : expX y = [x] := by have := HEX.out; rw [hX] at this; unfold expI at this; simpa using this
        have hN0 := N1.out
        have hxy : X[0]'(by omega) = y := by subst hX; rfl
        have hrw : ∀ W, Its W px X → _ := fun W i => i.row 0 (by omega)
        rw [hxy] at hrw
        have HRW := Lib.hid hrw
        have hHY := Lib.hid hy; have g1 := G1.out y
        have GY := Lib.hid g1
        have i0 : (0 : Int) < (X.length : Int) := by omega
        clear hX hxy hy hN0 hrw g1
        have hr := nx_lt L m' 3 (by omega)
        generalize nx L m' 3 = r at *
        go_wp2_with fail
        refine (N1.out _ hN3).mono ?_; rintro e w4 ⟨rfl, hg4, hN4⟩
        by_cases hr0 : r = 0
        · have q2 : ((r : Int) == 0) = true := by rw [hr0]; rfl
          have hgr4 := chg_trans hgr3 hg4
          obtain ⟨ad, rfl, had, c0, c1, c2⟩ := HRW.out _ (hi3.past hg4 HSX.out)
          have k0 : w4.cell? ad = some (.int .i64 y.k) := by simpa [Addr.add] using c0
          have k1 : w4.cell? ⟨ad.block, ad.off + 1, none⟩ = some (.string y.t) := by simpa [Addr.add] using c1
          have k2 : w4.cell? ⟨ad.block, ad.off + 2, none⟩ = some (.int .i64 y.id) := by simpa [Addr.add] using c2
          go_wp2_with fail
          refine (GY.out _ hN4).mono ?_; rintro e w5 ⟨t, m2, rfl, hL, hm2, hg5, hN5⟩
          have hpt := lng_pie hHY.out hL
          have htl := PX.out t hpt
          have hgr5 := chg_trans hgr4 hg5
          have szt : (bsL rl).size + (bsL t).size ≤ 100000000 := by rw [bsL_size, bsL_size]; omega
          have sz2 : ¬ (9223372036854775807 < (bsL rl).size + (bsL t).size) := by omega
          have HCT := Lib.hid (show bsL rl ++ bsL t = bsL (rl ++ t) by rw [bsL_append])
          have HPT := Lib.hid hpt
          clear hL hpt szt hg5
          go_wp2_with fail
          go_roundw
          case rel => rw [HCT.out]; exact HFIN.out _ m2 w5 HPT.out (by omega) hgr5 hN5
          case measure => simp [intOf]; omega
        · have q2 : ((r : Int) == 0) = false := by rw [beq_eq_false_iff_ne]; omega
          have hgr4 := chg_trans hgr3 hg4
          go_wp2_with fail
          go_roundw
          case rel => rw [HCAT.out]; exact HFIN.out _ (m' + 1) w4 (.inl rfl) (by omega) hgr4 hN4
          case measure => simp [intOf]; omega
      · have q1 : ((X.length : Int) == 1) = false := by rw [beq_eq_false_iff_ne]; omega
        go_wp2_with fail
        go_roundw
        case rel => rw [HCAT.out]; exact HFIN.out _ m' w3 (.inl rfl) (by omega) hgr3 hN3
        case measure => simp [intOf]; omega
    · obtain rfl : k = lenI F := by omega
      have hR := HR.out
      rw [List.take_of_length_le (by rw [HX.out]; exact Nat.le_refl _)] at hR
      have HRR := Lib.hid hR
      clear hR HR
      go_wp2_with fail
      refine (HL.out _ hFr).mono ?_; rintro e w1 ⟨rfl, rfl⟩
      go_wp2_with fail
      go_ret
      exact ⟨rl, m', rfl, HRR.out, hrl, hm', hgr, hN⟩
/-- What raws answers. -/
def EndRaw (F : List It) (w : World) (e : Ending) (w' : World) : Prop := ∃ (raw : List UInt8) (p : Option Addr) (c : Nat), e = .returned (.tuple #[.string (bsL raw), .slice p F.length c]) ∧ RawsM (expI F) raw ∧ raw.length ≤ 6010 * lenI F ∧ F.length ≤ c ∧ c ≤ maxLen ∧ Its w' p F ∧ Below w.heap.size w w'
set_option maxHeartbeats 1600000 in
theorem raws_any (p0 : Option Addr) (c0 : Nat) (L0 : List Int) (p1 : Option Addr) (c1 : Nat) (L1 : List Int) (w : World) (r0 : Ones w (Value.int .i64) p0 L0) (o0 : ∀ i (h : i < L0.length), (Lit.int .i64 (L0[i]'h)).wf = true) (n0 : L0.length ≤ c0) (m0 : c0 ≤ maxLen)
    (r1 : Ones w (Value.int .i64) p1 L1) (o1 : ∀ i (h : i < L1.length), (Lit.int .i64 (L1[i]'h)).wf = true) (n1 : L1.length ≤ c1) (m1 : c1 ≤ maxLen) :
    Calls Tryd.prog 20 #[.slice p0 L0.length c0, .slice p1 L1.length c1] w (EndRaw (mk L0 true true) w) := by
  have hmd := rmade_any p0 c0 L0 w r0 o0 n0 m0
  unfold EndF at hmd
  have hok := mk_ok L0 true true
  have g1 := hok.len; have g2 := hok.txt
  have hv := hok.valid (by decide)
  have ht := (mk_made L0).nb
  generalize mk L0 true true = F at *
  have hN := fun W (h : Ones W (Value.int .i64) p1 L1) => NumsAt.made (w := W) h o1 n1 m1
  have hmr := fun b pf cf W h i s hc hcm => mkraws_any b p1 c1 L1 0 pf cf F W h (by omega) i s hc hcm hv ht (by omega)
  have HN := Lib.hid hN; have HM := Lib.hid hmr
  clear hN hmr hok hv ht o0 o1
  go_enter Tryd.func20, Tryd.ntmps20
  go_wp2_with fail
  refine hmd.mono ?_; rintro e w2 ⟨p2, c2, rfl, a2, b2, i2, hb⟩
  have r1 := r1.call hb
  go_wp2_with fail
  have hi3 := i2.call (blw (Below.refl _ w2) (.cells #[.slice p1 L1.length c1, .int .i64 0] 52))
  refine (HM.out w2.heap.size p2 c2 _ (HN.out w2 r1) hi3 (fun h0 a ha e => ?_) a2 b2).mono ?_
  · obtain ⟨a', h1, h2, _⟩ := i2 h0
    rw [ha] at h1; injection h1 with h1; injection e with e; rw [h1] at e; omega
  · rintro e w3 ⟨raw, m', rfl, hraw, hlen, hm', hg, hN3⟩
    have hb3 : Below w2.heap.size w2 w3 := (blw (Below.refl w2.heap.size w2) _).trans (grown_below hg (Nat.le_refl _) (by simp))
    have i3 := i2.call hb3
    have hb4 := BelowOn hb hb3
    have HRAW := Lib.hid hraw
    clear hraw hN3 hg hb3 hi3 i2 hmd
    go_wp2_with fail
    go_ret2
    exact ⟨raw, p2, c2, rfl, HRAW.out, hlen, a2, b2, i3, hb4⟩
end Go.Proofs.YtphkpokoeaagfaaDoor
namespace Go.Proofs.YtphkpokoeaagfaaDoor
open Go.ChangeShapes Go.WideShapes Go.ChangeAt Go.RowKit
set_option linter.unusedVariables false
set_option linter.unusedSimpArgs false
set_option maxRecDepth 100000

set_option maxHeartbeats 3200000 in
theorem reads_any (p0 : Option Addr) (c0 : Nat) (a0 : List Int) (p1 : Option Addr) (c1 : Nat) (a1 : List Int) (w : World) (r0 : Ones w (Value.int .i64) p0 a0) (o0 : ∀ i (h : i < a0.length), (Lit.int .i64 (a0[i]'h)).wf = true) (n0 : a0.length ≤ c0) (m0 : c0 ≤ maxLen)
    (r1 : Ones w (Value.int .i64) p1 a1) (o1 : ∀ i (h : i < a1.length), (Lit.int .i64 (a1[i]'h)).wf = true) (n1 : a1.length ≤ c1) (m1 : c1 ≤ maxLen) (hM : Mx w) :
    Calls Tryd.prog 5 #[.slice p0 a0.length c0, .slice p1 a1.length c1] w fun e w' => e = .returned (.bool true) ∧ Below w.heap.size w w' := by
  have HK := Lib.hid (fun W (h : Below w.heap.size w W) => known_any W (hM.call h))
  have HMX := Lib.hid hM
  clear hM
  by_cases l0 : a0.length ≤ 100
  case neg =>
    have z0 : 100 < a0.length := by omega
    clear r0 o0 l0 r1 o1
    go_enter Tryd.func5, Tryd.ntmps5
    go_wp2_with fail
    refine (HK.out _ (Below.refl _ _)).mono ?_; rintro e w1 ⟨rfl, hb⟩
    go_wp2_with fail
    go_ret
    exact ⟨rfl, hb⟩
  by_cases l1 : a1.length ≤ 200
  case neg =>
    have z1 : 200 < a1.length := by omega
    have q0 : decide (100 < a0.length) = false := decide_eq_false (by omega)
    clear r0 o0 l1 r1 o1
    go_enter Tryd.func5, Tryd.ntmps5
    go_wp2_with fail
    refine (HK.out _ (Below.refl _ _)).mono ?_; rintro e w1 ⟨rfl, hb⟩
    go_wp2_with fail
    go_ret
    exact ⟨rfl, hb⟩
  have q0 : decide (100 < a0.length) = false := decide_eq_false (by omega)
  have q1 : decide (200 < a1.length) = false := decide_eq_false (by omega)
  have RW := Lib.hid (raws_any p0 c0 a0 p1 c1 a1 w r0 o0 n0 m0 r1 o1 n1 m1)
  have hv := (mk_ok a0 true true).valid (by decide)
  have ht := mk_made a0
  have hle := (valE_zero hv).2.1
  unfold EndRaw at RW
  generalize mk a0 true true = F at *
  have hdd : ∀ raw : List UInt8, RawsM (expI F) raw → raw.length ≤ 6010 * lenI F → ∀ W, Mx W → Calls Tryd.prog 12 #[.string (bsL raw)] W fun e w' => ∃ p c, e = .returned (.tuple #[.slice p F.length c, .int .i64 0, .int .i64 0]) ∧ F.length ≤ c ∧ c ≤ maxLen ∧ Its w' p F ∧ Below W.heap.size W w' := fun raw hr hl W hX => by
    obtain ⟨ws, _, _, _, hd⟩ := raws_wordsM hv ht hr
    have := decode_any (bsL raw) W hX (by rw [bsL_size]; omega)
    rw [bsL_list, hd] at this
    exact this
  have ls := fun p q c d W (i : Its W p F) (j : Its W q F) (hc : F.length ≤ c) (hd : F.length ≤ d) (hcm : c ≤ maxLen) (hdm : d ≤ maxLen) => rsame_any p q c d F F W i j hc hd hcm hdm
  rw [decide_eq_true (rfl : F = F)] at ls
  have LS := Lib.hid ls; have DD := Lib.hid hdd
  clear ls hdd hv ht hle r0 o0 r1 o1
  go_enter Tryd.func5, Tryd.ntmps5
  go_wp2_with fail
  refine RW.out.mono ?_; rintro e w5 ⟨raw, p, c, rfl, hraw, hrl, ha, hc, hi, hb⟩
  have bl := hb; clear hb
  have D1 := Lib.hid (DD.out raw hraw hrl)
  clear hraw hrl
  generalize bsL raw = T at *
  go_wp2_with fail
  refine (D1.out _ (HMX.out.call bl)).mono ?_; rintro e w6 ⟨p3, c3, rfl, a3, b3, i3, hb⟩
  have hi := hi.call hb; have bl := BelowOn bl hb; clear hb
  go_wp2_with fail
  refine (LS.out _ _ _ _ _ i3 hi a3 ha b3 hc).mono ?_; rintro e w7 ⟨rfl, hb⟩
  have bl := BelowOn bl hb; clear hb i3 hi
  go_wp2_with fail
  refine (HK.out _ bl).mono ?_; rintro e w8 ⟨rfl, hb⟩
  have bl := BelowOn bl hb; clear hb
  go_wp2_with fail
  go_ret
  exact ⟨rfl, bl⟩
end Go.Proofs.YtphkpokoeaagfaaDoor
namespace Go.Proofs.YtphkpokoeaagfaaDoor.markupReads
open Go.ChangeShapes Go.WideShapes Go.ChangeAt Go.RowKit
open Go.ChangeMaps (open_string shut_string)
set_option linter.unusedVariables false
set_option maxRecDepth 100000

theorem own : ownKnob Tryd.prog.godebug = none := by kernel_rfl
theorem laidOut : laidOutB Tryd.prog = true := by kernel_rfl


set_option maxHeartbeats 1600000 in
theorem walk (p0 : Option Addr) (c0 : Nat) (a0 : List Int) (p1 : Option Addr) (c1 : Nat) (a1 : List Int) (w : World) (r0 : Ones w (Value.int .i64) p0 a0) (o0 : ∀ i (h : i < a0.length), (Lit.int .i64 (a0[i]'h)).wf = true) (n0 : a0.length ≤ c0) (m0 : c0 ≤ maxLen) (r1 : Ones w (Value.int .i64) p1 a1) (o1 : ∀ i (h : i < a1.length), (Lit.int .i64 (a1[i]'h)).wf = true) (n1 : a1.length ≤ c1) (m1 : c1 ≤ maxLen) (hE : ItoaOk 1000000000 w) (hMx : Mx w) :
    Calls Tryd.prog 5 #[.slice p0 a0.length c0, .slice p1 a1.length c1] w fun e w' => e = .returned (.bool true) ∧ Below w.heap.size w w' := by
  exact reads_any p0 c0 a0 p1 c1 a1 w r0 o0 n0 m0 r1 o1 n1 m1 hMx

theorem lifted (os : Os) (started : os.Started) (H : Type) (enc : TypeId × Value → H) :
    ReturnsInHanded {} Tryd.checked os 5 .any (fun w args => (Rows.markupReadsSpec.pre enc Tryd.prog Tryd.f5 Rows.markupReadsRow.domain false w args ∧ laidMetH Tryd.prog Rows.markupReadsRow.laid w) ∧ sizedMet enc Tryd.prog Tryd.f5 (OpenSpec.ofChange Rows.markupReadsSpec) false w args)
      (Rows.markupReadsSpec.post enc Tryd.prog Tryd.f5 false true false false) := by
  refine returnsInHanded_of_calls (C := Tryd.checked) own started (by kernel_rfl)
    (ChangeSpec.witness_shaped (enc := enc) (C := Tryd.checked) (os := os) (X := fun w _ => laidMetH Tryd.prog Rows.markupReadsRow.laid w) false (World.laidAll Tryd.prog os Rows.markupReadsRow.laid) #[.slice none 0 0, .slice none 0 0] 8 (World.laidAll_os _ _ _) (World.shaped_of_ZipB (by kernel_rfl) (by kernel_rfl)) (by kernel_rfl) (by kernel_rfl) (by kernel_rfl) (by rw [MakeChecks.laidMetH_plain _ _ _ (by kernel_rfl)]; exact laidMet_laidAll _ (by kernel_rfl) (by kernel_rfl))) ?_
  intro w0 tape inp _ hsh _ hok hpre _
  obtain ⟨_, _, _, fn1, hfn1, _, _, _, _, hval0⟩ := hok
  obtain rfl : Tryd.f5 = fn1 := Option.some.inj (Tryd.func5.symm.trans hfn1)
  obtain ⟨⟨⟨ds, gs, before, hW0, hcnd⟩, hL0⟩, hz0⟩ := hpre
  have hW := DataW.Whole.of_heap (w' := w0.forCall tape inp) (by rfl) hW0
  have hsz0 := hz0.weights hW0
  have hL : laidMetH Tryd.prog Rows.markupReadsRow.laid (w0.forCall tape inp) := hL0.of_heap (by rfl)
  suffices hK : Calls Tryd.prog 5 inp.args (w0.forCall tape inp) fun e W' => ∃ v, e = .returned v ∧ Rows.markupReadsSpec.post enc Tryd.prog Tryd.f5 false true false false (w0.forCall tape inp) inp.args v W' from
    hK.mono fun e W' ⟨v, he, hp⟩ => by subst he; exact ChangeSpec.post_blind hp
  clear hW0 hz0 hL0
  generalize w0.forCall tape inp = W at *
  generalize inp.args = args at *
  generalize w0.heap.size = base at *
  have hval : ∀ (j : Nat) t v, Tryd.f5.params[j]? = some t → args[j]? = some v → Value.okWide Tryd.prog W .any base t v := hval0
  have hW' := hW
  have hlt : ∀ x ∈ before, x.block < W.heap.size := fun x hx => hW'.lt x hx
  obtain ⟨p, q, hA0, hV, rfl, hfz, hnd⟩ := hW
  have hA : DataW.TrodAll enc Tryd.prog W 0 (fun _ => true) true Tryd.f5.params.toList args.toList ds p := hA0
  rw [Tryd.params5] at hA hval hsz0
  obtain ⟨v0, vs0, d0, ds0, p0, q0, hargs, rfl, rfl, h0, r0⟩ := trodAll_cons hA
  obtain ⟨v1, vs1, d1, ds1, p1, q1, rfl, rfl, rfl, h1, r1⟩ := trodAll_cons r0
  obtain ⟨rfl, rfl, rfl⟩ := trodAll_nil r1
  obtain rfl : args = #[v0, v1] := by cases args; simp_all
  obtain ⟨rfl, rfl⟩ := trodVars_none hV
  have hsz := hsz0; clear hsz0
  obtain ⟨pp0, c0, a0, rfl, n0, m0, y0, o0⟩ := opened_ints (okBase (hval 0 32 v0 rfl rfl)) h0
  obtain ⟨pp1, c1, a1, rfl, n1, m1, y1, o1⟩ := opened_ints (okBase (hval 1 32 v1 rfl rfl)) h1
  clear hA0 hval0
  refine (walk pp0 c0 a0 pp1 c1 a1 W y0 o0 n0 m0 y1 o1 n1 m1 (itoa_of_laid hL) (mx_of_shaped hsh)).mono fun e W' ⟨he, bel⟩ => ?_
  subst he
  exact ⟨_, rfl, _, _, _, [], _, [], hW', trodAll_mk1 (shut_bool Tryd.underlying4 _), (trodAll_cons_mk (Below.trod laidOut (by kernel_rfl) (of_decide_eq_true (by kernel_rfl)) h0 bel (fun x hx => hlt x (by simp [hx]))) (trodAll_cons_mk (Below.trod laidOut (by kernel_rfl) (of_decide_eq_true (by kernel_rfl)) h1 bel (fun x hx => hlt x (by simp [hx]))) trodAll_mk0)), rfl, bel.frame _, fun h => by cases h⟩

theorem over : Rows.MarkupReadsSaid :=
  OpenClaim.holds_of_wide 5 Tryd.f5 rfl rfl rfl rfl rfl rfl rfl ⟨rfl, rfl, rfl, rfl, rfl⟩ rfl rfl rfl rfl rfl (by kernel_rfl) Tryd.func5 (by kernel_rfl)
    (of_decide_eq_true (by kernel_rfl)) (by unfold Func.isWrapper; first | (rw [if_pos (by decide +kernel)]; kernel_rfl) | (rw [if_neg (by decide +kernel)]; exact ⟨rfl, rfl⟩))
    (fun os started H enc _ => lifted os started H enc)

theorem proved : Rows.MarkupReadsCardSaid :=
  Claim7.holds_tied_plain_at .later [] [.data, .data, .data] true (true, "57ef196fd23df9bba85e5a26644ca28b94ab80892a4814cbd88e02ce20a34e9b") false
    over (fun _ h => by cases h) (by kernel_rfl) (fun _ h => by cases h) markupReads_row_tie rfl ⟨rfl, rfl⟩ (by kernel_rfl) rfl
    (fun f fn hf hfn => by
      obtain rfl : f = 5 := Option.some.inj ((show Tryd.prog.funcNamed "bitext/bitextlaw7.MarkupReads" = some 5 by kernel_rfl).symm.trans hf) |>.symm
      obtain rfl : fn = Tryd.f5 := (Option.some.inj (Tryd.func5.symm.trans hfn)).symm
      exact ⟨by kernel_rfl, fun j t ht => by
        rw [Tryd.params5] at ht
        have hm : t ∈ [32, 32] := by simpa using Array.mem_of_getElem? ht
        have hall : ([32, 32].all fun u => !Tryd.prog.wantsStandIn u) = true := by kernel_rfl
        exact (show Tryd.prog.wantsStandIn t = false by simpa using List.all_eq_true.1 hall t hm)⟩)
    (by kernel_rfl)
#print axioms proved
end Go.Proofs.YtphkpokoeaagfaaDoor.markupReads
