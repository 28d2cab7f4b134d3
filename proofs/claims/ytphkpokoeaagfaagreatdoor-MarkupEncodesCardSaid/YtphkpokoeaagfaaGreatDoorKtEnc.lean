/- What the rows' condition on the listed variables gives: Itoa's contract. Plain mathematics of raw contents with longer forms: they read as the fragment. Contracts of the reference's byteOf and Block. The contract of the reference's Encode, at the format of markup. The walk of MarkupEncodes. The law MarkupEncodes holds for every input. -/
import Derived.Test.YtphkpokoeaagfaaGreatDoorRows
import Derived.Test.YtphkpokoeaagfaaGreatDoorKtF
import Derived.Shelf.Vars
import Derived.LaidMore
import Derived.MakeChecks
import Derived.LaidHandle
import Derived.Lib.LaidU8
import Derived.Lib.AppendIntMem
import Derived.Test.YtphkpokoeaagfaaGreatDoorRvl
import Derived.WalkKit
import Derived.ProofKit
import Derived.OpenShut
import Derived.ChangeOld
import Derived.Below
import Derived.Carry
import Derived.SizedLaws
import Derived.Test.YtphkpokoeaagfaaGreatDoorCards
import Derived.Test.YtphkpokoeaagfaaGreatDoorTie
import Derived.Stop.Joined
import Derived.SevenTiedAt
import Derived.Lay
import Derived.Test.YtphkpokoeaagfaaGreatDoorArf
namespace Go.Proofs.YtphkpokoeaagfaaGreatDoor
open Go.ChangeShapes Go.WideShapes Go.ChangeAt Go.RowKit
set_option linter.unusedVariables false
set_option maxRecDepth 100000

theorem gPow : Tryz.prog.globalNamed "internal/strconv.uint64pow10" = some 0 := by kernel_rfl
theorem tPow : (Tryz.prog.globals[0]?).map (·.type) = some 154 := by kernel_rfl
theorem cellsU64 : Tryz.prog.cellsOf 147 = 1 := by kernel_rfl
theorem cellsPow : Tryz.prog.cellsOf 154 = 20 := by kernel_rfl
theorem laidData : (Rows.laid_internal_strconv_uint64pow10 : DataW Unit) = Lib.tabData .u64 Lib.pow10Tab := by rfl
abbrev laidL : List (String × DataW Unit) := [("math/bits.deBruijn32tab", Rows.laid_math_bits_deBruijn32tab), ("math/bits.deBruijn64tab", Rows.laid_math_bits_deBruijn64tab), ("internal/strconv.uint64pow10", Rows.laid_internal_strconv_uint64pow10)]
theorem itoa_of_laid {W : World} (h : laidMetH Tryz.prog laidL W) : ItoaOk 1000000000 W := by
  rw [MakeChecks.laidMetH_plain _ _ _ (by kernel_rfl)] at h
  have hT : Lib.TabIs Tryz.prog W "internal/strconv.uint64pow10" .u64 Lib.pow10Tab := by
    obtain ⟨g, t, cs, fuel, p, hg, ht, hv, hd⟩ := Lib.laidMet.reads h (n := "internal/strconv.uint64pow10") (d := Rows.laid_internal_strconv_uint64pow10) (.tail _ (.tail _ (.head _)))
    obtain rfl := Option.some.inj (gPow.symm.trans hg)
    obtain rfl := Option.some.inj (tPow.symm.trans ht)
    unfold Lib.TabIs
    rw [laidData] at hd
    rw [hv, ← Lib.cells_of_tab Tryz.underlying154 Tryz.underlying147 cellsU64 cellsPow hd]
  exact ItoaOk.of (fun w1 hb => Lib.tabBelow_of_tabIs hT w1 hb) (by decide)
theorem mx_of_shaped {W : World} (h : W.ShapedOpen Tryz.prog) : Mx W := cell_of_shapedOpen_int (zero := #[.int .i64 0]) (t := 3) (g := 1) h (of_decide_eq_true (by kernel_rfl)) (by kernel_rfl) rfl (by kernel_rfl) (by kernel_rfl) Tryz.underlying3
end Go.Proofs.YtphkpokoeaagfaaGreatDoor
namespace Go.Proofs.YtphkpokoeaagfaaGreatDoor
set_option linter.unusedVariables false
set_option maxRecDepth 100000
open Go.Lib

/-- What a position may be written as. -/
def PieM (x : It) (t : List UInt8) : Prop := t = e1M x ∨ (x.k = 1 ∧ x.t = ⟨#[62]⟩ ∧ t = [38, 103, 116, 59]) ∨ (x.k = 1 ∧ x.t = ⟨#[125]⟩ ∧ t = [38, 114, 98, 59])
theorem pie_wordM (x : It) (h : One x) (hb : isT x.k = true → blk x = false) {t : List UInt8} (ht : PieM x t) : WordM t (unN x) := by
  rcases ht with rfl | ⟨h1, h2, rfl⟩ | ⟨h1, h2, rfl⟩
  · exact word_enc h hb
  · obtain ⟨c, rfl⟩ := one_bT h h1
    have hc : c = 62 := by
      have h2 : bsL [c] = bsL [62] := h2
      have := bsL_inj h2
      injection this
    subst hc
    exact wordM_ref ([103, 116, 59], 62) (by simp [refW])
  · obtain ⟨c, rfl⟩ := one_bT h h1
    have hc : c = 125 := by
      have h2 : bsL [c] = bsL [125] := h2
      have := bsL_inj h2
      injection this
    subst hc
    exact wordM_ref ([114, 98, 59], 125) (by simp [refW])
theorem pie_lenM {x : It} (hx : x.t.size ≤ 1024) {t : List UInt8} (ht : PieM x t) : t.length ≤ 6010 := by
  have h1 := e1M_len hx
  rcases ht with rfl | ⟨_, _, rfl⟩ | ⟨_, _, rfl⟩
  · omega
  · simp
  · simp
/-- Bytes that are the positions, one behind the other, each in one of its forms. -/
def RawsM (xs : List It) (raw : List UInt8) : Prop := ∃ ws : Ws, raw = flatW ws ∧ itW ws = xs ∧ ∀ w ∈ ws, PieM w.2 w.1
theorem RawsM.nil : RawsM [] [] := ⟨[], rfl, rfl, fun w h => by cases h⟩
theorem RawsM.snoc {xs : List It} {raw : List UInt8} (h : RawsM xs raw) {x : It} {t : List UInt8} (ht : PieM x t) : RawsM (xs ++ [x]) (raw ++ t) := by
  obtain ⟨ws, e1, e2, e3⟩ := h
  refine ⟨ws ++ [(t, x)], ?_, ?_, fun w hw => ?_⟩
  · rw [flatW_append, ← e1, flatW_cons, flatW_nil, List.append_nil]
  · show (ws ++ [(t, x)]).map Prod.snd = _
    rw [List.map_append]; show itW ws ++ [x] = _; rw [e2]
  · rcases List.mem_append.1 hw with hw | hw
    · exact e3 w hw
    · obtain rfl := List.mem_singleton.1 hw; exact ht
/-- A raw content of a fragment reads as it. -/
theorem raws_wordsM {f : List It} (h : valE f = 0) (hm : MadeOk f) {raw : List UInt8} (hr : RawsM (expI f) raw) : ∃ ws : Ws, raw = flatW ws ∧ itW ws = (expI f).map unN ∧ AllM ws ∧ dcM raw = (f, offs 0 ws, 0, 0) := by
  obtain ⟨ws, e1, e2, e3⟩ := hr
  obtain ⟨h1, h2, h3⟩ := valE_zero h
  have hnb := noBlk_exp hm.nb
  have hall : AllM (ws.map fun w => (w.1, unN w.2)) := fun w hw => by
    rw [List.mem_map] at hw
    obtain ⟨v, hv, rfl⟩ := hw
    have hx : v.2 ∈ expI f := by rw [← e2]; exact List.mem_map.2 ⟨v, hv, rfl⟩
    exact pie_wordM v.2 (exp_ok h3 v.2 hx) (hnb v.2 hx) (e3 v hv)
  have hfl : flatW (ws.map fun w => (w.1, unN w.2)) = raw := by
    rw [e1]
    clear e1 e2 e3 hall
    induction ws with
    | nil => rfl
    | cons w t ih => rw [List.map_cons, flatW_cons, flatW_cons, ih]
  have hit : itW (ws.map fun w => (w.1, unN w.2)) = (expI f).map unN := by
    rw [← e2]; unfold itW; rw [List.map_map, List.map_map]; rfl
  have hlen : (ws.map fun w => (w.1, unN w.2)).length = lenI f := by
    rw [List.length_map, ← expI_len, ← e2]; unfold itW; rw [List.length_map]
  obtain ⟨n, hn⟩ := hm.run
  have hd := dcM_words hall (by rw [hit]; exact hn) (by rw [norm_exp, norm_valid f h3]; exact h1) (by rw [hlen]; exact h2)
  rw [hfl, norm_exp, norm_valid f h3] at hd
  exact ⟨_, hfl.symm, hit, hall, hd⟩
end Go.Proofs.YtphkpokoeaagfaaGreatDoor
namespace Go.Proofs.YtphkpokoeaagfaaGreatDoor
open Go.ChangeShapes Go.WideShapes Go.ChangeAt Go.RowKit
set_option linter.unusedVariables false
set_option linter.unusedSimpArgs false
set_option maxRecDepth 100000

theorem rconv_byte (w : World) (c : UInt8) : (convert 67 9 (.slice (some ⟨w.heap.size, 0, none⟩) 1 1)).run Tryz.prog (w.alloc (.cells #[.int .u8 (c.toNat : Int)] 5)) = .ok (.string ⟨#[c]⟩) (w.alloc (.cells #[.int .u8 (c.toNat : Int)] 5)) :=
  Lib.run_convert_whole (P := Tryz.prog) _ 67 5 9 Tryz.underlying67 Tryz.underlying5 Tryz.underlying9 w.heap.size 0 ⟨#[c]⟩ (fun i hi => by
    have hi' : i < 1 := hi
    obtain rfl : i = 0 := by omega
    rw [Nat.zero_add, Lib.cell_of_heap (heap_alloc_new w _)]; rfl) 1
theorem u8_of_eq {c k : UInt8} (h : ((c.toNat : Int) == (k.toNat : Int)) = true) : c = k := by
  rw [beq_iff_eq] at h
  exact UInt8.toNat_inj.1 (by omega)
set_option maxHeartbeats 1600000 in
theorem byteof_ref (c : UInt8) (w : World) : Calls Tryz.prog 43 #[.int .i64 1, .int .u8 (c.toNat : Int)] w fun e w' => e = .returned (.string (bsL (byM c))) ∧ Below w.heap.size w w' := by
  have b0 : (0 : Int) ≤ (c.toNat : Int) := by omega
  have b1 : (c.toNat : Int) ≤ 255 := by have := c.toNat_lt; omega
  have hcv := rconv_byte w c
  have hB : Below w.heap.size w (w.alloc (.cells #[.int .u8 (c.toNat : Int)] 5)) := blw (Below.refl _ _) _
  by_cases h60 : c = 60
  · have he : bsL (byM c) = ⟨#[38, 108, 116, 59]⟩ := by rw [h60]; rfl
    have HE := Lib.hid he
    have q0 : ((c.toNat : Int) == 60) = true := by rw [h60]; rfl
    clear he h60
    go_enter Tryz.func43, Tryz.ntmps43
    go_wp2_with fail
    go_ret
    exact ⟨by rw [HE.out]; rfl, hB⟩
  by_cases h38 : c = 38
  · have he : bsL (byM c) = ⟨#[38, 97, 109, 112, 59]⟩ := by rw [h38]; rfl
    have HE := Lib.hid he
    have q0 : ((c.toNat : Int) == 38) = true := by rw [h38]; rfl
    clear he h38
    go_enter Tryz.func43, Tryz.ntmps43
    go_wp2_with fail
    (try simp only [Exit.inBlock, Exit.then])
    go_ret
    exact ⟨by rw [HE.out]; rfl, hB⟩
  by_cases h123 : c = 123
  · have he : bsL (byM c) = ⟨#[38, 108, 98, 59]⟩ := by rw [h123]; rfl
    have HE := Lib.hid he
    have q0 : ((c.toNat : Int) == 123) = true := by rw [h123]; rfl
    clear he h123
    go_enter Tryz.func43, Tryz.ntmps43
    go_wp2_with fail
    (try simp only [Exit.inBlock, Exit.then])
    go_ret
    exact ⟨by rw [HE.out]; rfl, hB⟩
  have q0 : ((c.toNat : Int) == 60) = false := u8_int_ne h60
  have q1 : ((c.toNat : Int) == 38) = false := u8_int_ne h38
  have q2 : ((c.toNat : Int) == 123) = false := u8_int_ne h123
  have he : bsL (byM c) = ⟨#[c]⟩ := by unfold byM; rw [if_neg h60, if_neg h38, if_neg h123]; rfl
  have HE := Lib.hid he
  clear he h60 h38 h123
  go_enter Tryz.func43, Tryz.ntmps43
  go_wp2_with fail
  go_ret
  exact ⟨by rw [HE.out]; rfl, hB⟩
theorem block_ref (n : ByteArray) (w : World) : Calls Tryz.prog 42 #[.string n] w fun e w' => e = .returned (.bool (blkN n)) ∧ w = w' := by
  by_cases h0 : n = ⟨#[112]⟩
  · subst h0
    go_enter Tryz.func42, Tryz.ntmps42
    go_wp2
    all_goals go_ret
    all_goals exact ⟨rfl, rfl⟩
  by_cases h1 : n = ⟨#[104]⟩
  · subst h1
    go_enter Tryz.func42, Tryz.ntmps42
    go_wp2
    all_goals go_ret
    all_goals exact ⟨rfl, rfl⟩
  by_cases h2 : n = ⟨#[108, 105]⟩
  · subst h2
    go_enter Tryz.func42, Tryz.ntmps42
    go_wp2
    all_goals go_ret
    all_goals exact ⟨rfl, rfl⟩
  by_cases h3 : n = ⟨#[116, 100]⟩
  · subst h3
    go_enter Tryz.func42, Tryz.ntmps42
    go_wp2
    all_goals go_ret
    all_goals exact ⟨rfl, rfl⟩
  have s0 := lst_ne [112] h0
  have s1 := lst_ne [104] h1
  have s2 := lst_ne [108, 105] h2
  have s3 := lst_ne [116, 100] h3
  by_cases h4 : n = ⟨#[116, 105, 116, 108, 101]⟩
  · subst h4
    go_enter Tryz.func42, Tryz.ntmps42
    go_wp2
    all_goals go_ret
    all_goals exact ⟨rfl, rfl⟩
  · have he : blkN n = false := by unfold blkN; rw [decide_eq_false_iff_not]; rintro (h | h | h | h | h) <;> contradiction
    have s4 := lst_ne [116, 105, 116, 108, 101] h4
    rw [he]
    clear h0 h1 h2 h3 h4 he
    go_enter Tryz.func42, Tryz.ntmps42
    go_wp2
    all_goals go_ret
    all_goals exact ⟨ret_bool (by simp), rfl⟩
end Go.Proofs.YtphkpokoeaagfaaGreatDoor
namespace Go.Proofs.YtphkpokoeaagfaaGreatDoor
open Go.ChangeShapes Go.WideShapes Go.ChangeAt Go.RowKit
set_option linter.unusedVariables false
set_option linter.unusedSimpArgs false
set_option maxRecDepth 100000

theorem any_at {f : List It} {k : Nat} (hk : k < f.length) (h : isT (f[k]'hk).k = true) (hb : blk (f[k]'hk) = true) : anyB (tagsL f) = true := by
  unfold anyB
  rw [List.any_eq_true]
  exact ⟨_, mem_tags.2 ⟨List.getElem_mem hk, h⟩, hb⟩
theorem any_none {f : List It} (h : ∀ k (hk : k < f.length), isT (f[k]'hk).k = true → blk (f[k]'hk) = false) : anyB (tagsL f) = false := any_tags (fun x hx ht => by
  obtain ⟨i, hi, rfl⟩ := List.mem_iff_getElem.1 hx
  exact h i hi ht)
theorem bs_three (L : List UInt8) (a t b : ByteArray) : bsL L ++ (a ++ t ++ b) = bsL (L ++ (a.data.toList ++ t.data.toList ++ b.data.toList)) := by
  rw [← bsL_append, ← bsL_append, ← bsL_append, bsL_of, bsL_of, bsL_of]
theorem bs_2 (L : List UInt8) {x : It} (h : x.k = 2) : bsL L ++ (⟨#[60]⟩ ++ x.t ++ ⟨#[62]⟩) = bsL (L ++ e1M x) := by rw [e1M_2 h, bs_three]
theorem bs_3 (L : List UInt8) {x : It} (h : x.k = 3) : bsL L ++ (⟨#[60, 47]⟩ ++ x.t ++ ⟨#[62]⟩) = bsL (L ++ e1M x) := by rw [e1M_3 h, ← bsL_append, bsL_of]
theorem bs_4 (L : List UInt8) {x : It} (h : x.k = 4) : bsL L ++ (⟨#[60]⟩ ++ x.t ++ ⟨#[47, 62]⟩) = bsL (L ++ e1M x) := by rw [e1M_4 h, bs_three]
theorem bs_5 (L : List UInt8) {x : It} (h : x.k = 5) : bsL L ++ (⟨#[123]⟩ ++ x.t ++ ⟨#[125]⟩) = bsL (L ++ e1M x) := by rw [e1M_5 h, bs_three]
theorem bs_t (L : List UInt8) {x : It} (h : x.k = 1) : bsL (L ++ encT x.t.data.toList) = bsL (L ++ e1M x) := by rw [e1M_1 h]
theorem bs_next (L : List UInt8) (s : ByteArray) (j : Nat) (h : j < s.size) : bsL (L ++ encT (s.data.toList.take j)) ++ bsL (byM s[j]) = bsL (L ++ encT (s.data.toList.take (j + 1))) := by
  rw [bsL_append, encT_next s j h, List.append_assoc]
theorem proper_flat {x : It} (hp : properB x = true) (h : isT x.k = false) : x.k = 1 ∨ x.k = 5 := by
  rcases proper_kinds hp with q | q | q
  · exact .inl q
  · rw [h] at q; cases q
  · exact .inr q
set_option maxHeartbeats 3200000 in
theorem refencode_any (p : Option Addr) (cap : Nat) (f : List It) (w : World) (hR : Its w p f) (hO : Oks f) (hc : f.length ≤ cap) (hm : cap ≤ maxLen) :
    Calls Tryz.prog 18 #[.int .i64 1, .slice p f.length cap] w fun e w' => e = .returned (.tuple #[.string (encE f).1, .int .i64 (encE f).2]) ∧ Below w.heap.size w w' := by
  have hv := fun w hR => rvalidate_any p cap f w hR hO hc hm
  by_cases h : valE f = 0
  · have h512 := (valE_zero h).1
    have hit := fun k hk => eitem_small h k hk
    have hln := fun k hk => enc_len h k hk
    have hok : anyB (tagsL f) = false → encE f = (bsL (encM f), 0) := encE_ok h
    have hbad : anyB (tagsL f) = true → encE f = (.empty, 7) := encE_tag h
    have hnt := any_none (f := f)
    rw [h] at hv
    have HV := Lib.hid hv; have HI := Lib.hid hit; have HL := Lib.hid hln; have HOK := Lib.hid hok; have HBD := Lib.hid hbad; have HNT := Lib.hid hnt
    clear hv hit hln hok hbad hnt h
    unfold maxLen at hm
    go_enter Tryz.func18, Tryz.ntmps18
    go_wp2_with fail
    refine (HV.out _ hR).mono ?_; rintro e w1 ⟨rfl, hb⟩
    go_wp2_with fail
    go_loopw [7, 18] (fun v i wr => ∃ (k : Nat), k ≤ f.length ∧ i = .int .i64 k ∧ v = .string (bsL (encM (f.take k))) ∧ (∀ j (hj : j < f.length), j < k → isT (f[j]'hj).k = true → blk (f[j]'hj) = false) ∧ Below w.heap.size w wr) (fun _ i _ => f.length - (intOf i).toNat)
    case atStart => exact ⟨0, Nat.zero_le _, rfl, rfl, fun j _ h => absurd h (Nat.not_lt_zero j), hb⟩
    case round =>
      obtain ⟨k, hk, rfl, rfl, hNo, hB⟩ := hrel
      have hNO := Lib.hid hNo
      clear hNo
      by_cases hlt : k < f.length
      · obtain ⟨ad, rfl, had, c0, c1, c2⟩ := (hR.call hB).row k hlt
        obtain ⟨hp, hts⟩ := HI.out k hlt
        have hl := HL.out k hk
        have hn := encM_next f k hlt
        have htg : isT (f[k]'hlt).k = true → blk (f[k]'hlt) = true → encE f = (.empty, 7) := fun q r => HBD.out (any_at hlt q r)
        have hno2 : (isT (f[k]'hlt).k = true → blk (f[k]'hlt) = false) → ∀ j (hj : j < f.length), j < k + 1 → isT (f[j]'hj).k = true → blk (f[j]'hj) = false := fun q j hj hjk => by
          by_cases e : j = k
          · subst e; exact q
          · exact hNO.out j hj (by omega)
        generalize f[k] = x at *
        generalize encM (f.take k) = L at *
        have hfl : isT x.k = false → x.k = 1 ∨ x.k = 5 := proper_flat hp
        have HN := Lib.hid hn; have HTG := Lib.hid htg; have HNO2 := Lib.hid hno2; have HFL := Lib.hid hfl
        clear hn htg hno2 hp hfl
        have V := Var3.new wr x.k x.t x.id
        have hB1 := blw hB (.cells #[.int .i64 x.k, .string x.t, .int .i64 x.id] 62)
        obtain ⟨v0, v1, v2, vl⟩ := id V
        have ht := fun W => ristag_any x.k x.t x.id W
        have hnm := fun W => rname_any x.t W (by unfold maxLen; omega)
        have hbl := fun W => block_ref (nameB x.t) W
        have HNM := Lib.hid hnm
        clear hnm
        cases hq : isT x.k
        case true =>
          rw [hq] at ht
          have HT := Lib.hid ht
          have hk3 : x.k = 2 ∨ x.k = 3 ∨ x.k = 4 := by unfold isT at hq; simpa using hq
          have hbk' : blkN (nameB x.t) = blk x := rfl
          rw [hbk'] at hbl
          clear hbk' ht
          cases hb : blk x
          case true =>
            have he := HTG.out hq hb
            have HE := Lib.hid he
            rw [hb] at hbl
            have HBL := Lib.hid hbl
            clear he hq hbl hb hk3
            go_wp2_with fail
            refine (HT.out _).mono ?_; rintro e w2 ⟨rfl, hb2⟩
            have V2 := V.call hb2
            have hB2 := BelowOn hB1 hb2
            clear V v0 v1 v2 vl
            obtain ⟨v0, v1, v2, vl⟩ := id V2
            go_wp2_with fail
            refine (HNM.out _).mono ?_; rintro e w3 ⟨rfl, rfl⟩
            go_wp2_with fail
            refine (HBL.out _).mono ?_; rintro e w4 ⟨rfl, rfl⟩
            go_wp2_with fail
            go_ret2
            exact ⟨by rw [HE.out]; rfl, hB2⟩
          have hno3 := HNO2.out (fun _ => hb)
          have HN3 := Lib.hid hno3
          rw [hb] at hbl
          have HBL := Lib.hid hbl
          clear hq hbl hb hno3
          go_wp2_with fail
          refine (HT.out _).mono ?_; rintro e w2 ⟨rfl, hb2⟩
          have V2 := V.call hb2
          have hB2 := BelowOn hB1 hb2
          clear V v0 v1 v2 vl
          obtain ⟨v0, v1, v2, vl⟩ := id V2
          go_wp2_with fail
          refine (HNM.out _).mono ?_; rintro e w3 ⟨rfl, rfl⟩
          go_wp2_with fail
          refine (HBL.out _).mono ?_; rintro e w4 ⟨rfl, rfl⟩
          have hB4 := hB2
          rcases hk3 with h2 | h3 | h4
          · have hfin := bs_2 L h2
            have HF := Lib.hid hfin
            have s1 : (⟨#[60]⟩ : ByteArray).size = 1 := rfl
            have s2 : (⟨#[62]⟩ : ByteArray).size = 1 := rfl
            have z0 : (bsL L).size = L.length := bsL_size L
            have z1 : ¬ (9223372036854775807 < 1 + x.t.size) := by omega
            have z2 : ¬ (9223372036854775807 < (⟨#[60]⟩ ++ x.t : ByteArray).size + 1) := by
              rw [ByteArray.size_append, s1]; omega
            have z3 : ¬ (9223372036854775807 < (bsL L).size + ((⟨#[60]⟩ ++ x.t ++ ⟨#[62]⟩ : ByteArray)).size) := by
              rw [ByteArray.size_append, ByteArray.size_append, s1, s2]; omega
            have q1 : (x.k == 1) = false := by rw [h2]; rfl
            have q2 : (x.k == 2) = true := by rw [h2]; rfl
            clear hfin h2 s1 s2 z0
            generalize bsL L = S at *
            go_wp2_with fail
            go_roundw
            case rel => exact ⟨k + 1, hlt, by go_num, by rw [HN.out, ← HF.out], fun j hj hjk => HN3.out j hj hjk, hB4⟩
            case measure => simp [intOf]; omega
          · have hfin := bs_3 L h3
            have HF := Lib.hid hfin
            have s1 : (⟨#[60, 47]⟩ : ByteArray).size = 2 := rfl
            have s2 : (⟨#[62]⟩ : ByteArray).size = 1 := rfl
            have z0 : (bsL L).size = L.length := bsL_size L
            have z1 : ¬ (9223372036854775807 < 2 + x.t.size) := by omega
            have z2 : ¬ (9223372036854775807 < (⟨#[60, 47]⟩ ++ x.t : ByteArray).size + 1) := by
              rw [ByteArray.size_append, s1]; omega
            have z3 : ¬ (9223372036854775807 < (bsL L).size + ((⟨#[60, 47]⟩ ++ x.t ++ ⟨#[62]⟩ : ByteArray)).size) := by
              rw [ByteArray.size_append, ByteArray.size_append, s1, s2]; omega
            have q1 : (x.k == 1) = false := by rw [h3]; rfl
            have q2 : (x.k == 2) = false := by rw [h3]; rfl
            have q3 : (x.k == 3) = true := by rw [h3]; rfl
            clear hfin h3 s1 s2 z0
            generalize bsL L = S at *
            go_wp2_with fail
            go_roundw
            case rel => exact ⟨k + 1, hlt, by go_num, by rw [HN.out, ← HF.out], fun j hj hjk => HN3.out j hj hjk, hB4⟩
            case measure => simp [intOf]; omega
          · have hfin := bs_4 L h4
            have HF := Lib.hid hfin
            have s1 : (⟨#[60]⟩ : ByteArray).size = 1 := rfl
            have s2 : (⟨#[47, 62]⟩ : ByteArray).size = 2 := rfl
            have z0 : (bsL L).size = L.length := bsL_size L
            have z1 : ¬ (9223372036854775807 < 1 + x.t.size) := by omega
            have z2 : ¬ (9223372036854775807 < (⟨#[60]⟩ ++ x.t : ByteArray).size + 2) := by
              rw [ByteArray.size_append, s1]; omega
            have z3 : ¬ (9223372036854775807 < (bsL L).size + ((⟨#[60]⟩ ++ x.t ++ ⟨#[47, 62]⟩ : ByteArray)).size) := by
              rw [ByteArray.size_append, ByteArray.size_append, s1, s2]; omega
            have q1 : (x.k == 1) = false := by rw [h4]; rfl
            have q2 : (x.k == 2) = false := by rw [h4]; rfl
            have q3 : (x.k == 3) = false := by rw [h4]; rfl
            have q4 : (x.k == 4) = true := by rw [h4]; rfl
            clear hfin h4 s1 s2 z0
            generalize bsL L = S at *
            go_wp2_with fail
            go_roundw
            case rel => exact ⟨k + 1, hlt, by go_num, by rw [HN.out, ← HF.out], fun j hj hjk => HN3.out j hj hjk, hB4⟩
            case measure => simp [intOf]; omega
        case false =>
          have hkd := HFL.out hq
          have hno3 := HNO2.out (fun e => by rw [hq] at e; cases e)
          have HN3 := Lib.hid hno3
          rw [hq] at ht
          have HT := Lib.hid ht
          clear ht hq hno3
          rcases hkd with h1 | h5
          · have q1 : (x.k == 1) = true := by rw [h1]; rfl
            have hfin := bs_t L h1
            have HF := Lib.hid hfin
            clear hfin h1
            go_wp2_with fail
            refine (HT.out _).mono ?_; rintro e w2 ⟨rfl, hb2⟩
            have V2 := V.call hb2
            have hB2 := BelowOn hB1 hb2
            clear V v0 v1 v2 vl
            obtain ⟨v0, v1, v2, vl⟩ := id V2
            go_wp2_with fail
            go_loopw [7, 10] (fun v i wi => ∃ (j : Nat), j ≤ x.t.size ∧ i = .int .i64 j ∧ v = .string (bsL (L ++ encT (x.t.data.toList.take j))) ∧ Var3 wi wr.heap.size x.k x.t x.id ∧ Below w.heap.size w wi) (fun _ i _ => x.t.size - (intOf i).toNat)
            case atStart => exact ⟨0, Nat.zero_le _, rfl, by simp [encT], V2, hB2⟩
            case round =>
              obtain ⟨j, hj, rfl, rfl, V3, hB3⟩ := hrel
              obtain ⟨v0, v1, v2, vl⟩ := id V3
              by_cases hjl : j < x.t.size
              · have hnx := bs_next L x.t j hjl
                have htl := encT_take x.t j (by omega)
                have hbl := byM_len x.t[j]
                have hz : ¬ (9223372036854775807 < (bsL (L ++ encT (x.t.data.toList.take j))).size + (bsL (byM x.t[j])).size) := by
                  rw [bsL_size, bsL_size, List.length_append]; omega
                have hbo := fun W => byteof_ref x.t[j] W
                have HB0 := Lib.hid hbo; have HX := Lib.hid hnx
                clear hbo hnx htl hbl
                generalize bsL (L ++ encT (x.t.data.toList.take j)) = S at *
                generalize hU : bsL (byM x.t[j]) = U at *
                clear hU
                go_wp2_with fail
                refine (HB0.out _).mono ?_; rintro e w4 ⟨rfl, hb4⟩
                go_wp2_with fail
                go_roundw
                case rel => exact ⟨j + 1, hjl, by go_num, by rw [← HX.out], V3.call hb4, BelowOn hB3 hb4⟩
                case measure => simp [intOf]; omega
              · have hj' : x.t.data.toList.take j = x.t.data.toList := List.take_of_length_le (by simp; omega)
                rw [hj', HF.out]
                go_wp2_with fail
                go_roundw
                case rel => exact ⟨k + 1, hlt, by go_num, by rw [HN.out], fun j hj hjk => HN3.out j hj hjk, hB3⟩
                case measure => simp [intOf]; omega
          · have q5 : (x.k == 5) = true := by rw [h5]; rfl
            have q1 : (x.k == 1) = false := by rw [h5]; rfl
            have q2 : (x.k == 2) = false := by rw [h5]; rfl
            have q3 : (x.k == 3) = false := by rw [h5]; rfl
            have q4 : (x.k == 4) = false := by rw [h5]; rfl
            have hfin := bs_5 L h5
            have HF := Lib.hid hfin
            have s1 : (⟨#[123]⟩ : ByteArray).size = 1 := rfl
            have s2 : (⟨#[125]⟩ : ByteArray).size = 1 := rfl
            have z0 : (bsL L).size = L.length := bsL_size L
            have z1 : ¬ (9223372036854775807 < 1 + x.t.size) := by omega
            have z2 : ¬ (9223372036854775807 < (⟨#[123]⟩ ++ x.t : ByteArray).size + 1) := by
              rw [ByteArray.size_append, s1]; omega
            have z3 : ¬ (9223372036854775807 < (bsL L).size + ((⟨#[123]⟩ ++ x.t ++ ⟨#[125]⟩ : ByteArray)).size) := by
              rw [ByteArray.size_append, ByteArray.size_append, s1, s2]; omega
            clear hfin h5 s1 s2 z0
            generalize bsL L = S at *
            go_wp2_with fail
            refine (HT.out _).mono ?_; rintro e w2 ⟨rfl, hb2⟩
            have V2 := V.call hb2
            have hB2 := BelowOn hB1 hb2
            clear V v0 v1 v2 vl
            obtain ⟨v0, v1, v2, vl⟩ := id V2
            go_wp2_with fail
            go_roundw
            case rel => exact ⟨k + 1, hlt, by go_num, by rw [HN.out, ← HF.out], fun j hj hjk => HN3.out j hj hjk, hB2⟩
            case measure => simp [intOf]; omega
      · obtain rfl : k = f.length := by omega
        have he := HOK.out (HNT.out (fun j hj => hNO.out j hj hj))
        have HE := Lib.hid he
        clear he
        rw [List.take_length]
        go_wp2_with fail
        go_ret2
        exact ⟨by rw [HE.out]; rfl, hB⟩
  · rw [encE_bad h]
    have q : (valE f == 0) = false := by simpa using h
    have HV := Lib.hid hv
    clear hv h
    generalize valE f = E at *
    go_enter Tryz.func18, Tryz.ntmps18
    go_wp2_with fail
    refine (HV.out _ hR).mono ?_; rintro e w1 ⟨rfl, hb⟩
    go_wp2_with fail
    go_ret2
    exact ⟨rfl, hb⟩
end Go.Proofs.YtphkpokoeaagfaaGreatDoor
namespace Go.Proofs.YtphkpokoeaagfaaGreatDoor
open Go.ChangeShapes Go.WideShapes Go.ChangeAt Go.RowKit
set_option linter.unusedVariables false
set_option linter.unusedSimpArgs false
set_option maxRecDepth 100000

/-- Is a list short? -/
def fewR (l : List It) : Bool := decide (l.length ≤ 30) && decide (txtI l ≤ 500)
theorem fewr_any (p : Option Addr) (cap : Nat) (l : List It) (w : World) (hR : Its w p l) (hO : Oks l) (hc : l.length ≤ cap) (hm : cap ≤ maxLen) :
    Calls Tryz.prog 15 #[.slice p l.length cap] w fun e w' => e = .returned (.bool (fewR l)) ∧ w = w' := by
  unfold maxLen at hm
  have hsum : l.length ≤ 30 → ∀ k, k ≤ l.length → txtI (l.take k) ≤ k * 140737488355328 := fun h30 k => by
    intro hk
    induction k with
    | zero => simp [txtI]
    | succ j ih =>
      rw [txtI_next l j (by omega)]
      have := ih (by omega)
      have h1 := (hO j (by omega)).t
      omega
  have HS := Lib.hid hsum; clear hsum
  go_enter Tryz.func15, Tryz.ntmps15
  go_wp2_with fail
  go_loop [3, 7] (fun v i => ∃ k : Nat, ∃ z : Int, k ≤ l.length ∧ i = .int .i64 k ∧ v = .int .i64 z ∧ Hid (l.length ≤ 30 → z = txtI (l.take k))) (fun _ i => l.length - (intOf i).toNat)
  case atStart => exact ⟨0, 0, Nat.zero_le _, rfl, rfl, Lib.hid (fun _ => rfl)⟩
  case round =>
    obtain ⟨k, z, hk, rfl, rfl, HZ⟩ := hrel
    by_cases hlt : k < l.length
    · obtain ⟨a, rfl, ha, c0, c1, c2⟩ := hR.row k hlt
      have hn := txtI_next l k hlt
      have HN := Lib.hid hn; clear hn
      go_wp2_with fail
      go_round
      case rel =>
        refine ⟨k + 1, _, hlt, by go_num, rfl, Lib.hid (fun h30 => ?_)⟩
        have b := HS.out h30 (k + 1) hlt
        rw [HN.out] at b ⊢
        rw [HZ.out h30]
        unfold wrap64
        omega
      case measure => simp [intOf]; omega
    · obtain rfl : k = l.length := by omega
      rw [List.take_length] at HZ
      by_cases h30 : l.length ≤ 30
      · have hz := HZ.out h30
        go_wp2_with fail
        go_ret
        exact ⟨ret_bool (by unfold fewR; rw [Bool.eq_iff_iff]; simp [h30]; omega), rfl⟩
      · go_wp2_with fail
        go_ret
        exact ⟨ret_bool (by unfold fewR; simp [h30]), rfl⟩

set_option maxHeartbeats 3200000 in
theorem encodes_any (p0 : Option Addr) (c0 : Nat) (a0 : List It) (p1 : Option Addr) (c1 : Nat) (a1 : List Int) (w : World) (r0 : Its w p0 a0) (o0 : Oks a0) (n0 : a0.length ≤ c0) (m0 : c0 ≤ maxLen) (r1 : Ones w (Value.int .i64) p1 a1) (o1 : ∀ i (h : i < a1.length), (Lit.int .i64 (a1[i]'h)).wf = true) (n1 : a1.length ≤ c1) (m1 : c1 ≤ maxLen) (hM : Mx w) :
    Calls Tryz.prog 4 #[.slice p0 a0.length c0, .slice p1 a1.length c1] w fun e w' => e = .returned (.bool true) ∧ Below w.heap.size w w' := by
  have HK := Lib.hid (fun W (h : Below w.heap.size w W) => known_any W (hM.call h))
  clear hM
  have hf := fun W i => fewr_any p0 c0 a0 W i o0 n0 m0
  have HFW := Lib.hid hf
  clear hf
  by_cases hB : fewR a0 = true ∧ a1.length ≤ 100
  case neg =>
    cases hfw : fewR a0
    · rw [hfw] at HFW
      clear hB hfw r1 o1
      go_enter Tryz.func4, Tryz.ntmps4
      go_wp2_with fail
      refine (HFW.out _ r0).mono ?_; rintro e w1 ⟨rfl, rfl⟩
      go_wp2_with fail
      refine (HK.out _ (Below.refl _ _)).mono ?_; rintro e w2 ⟨rfl, hb⟩
      go_wp2_with fail
      go_ret
      exact ⟨rfl, hb⟩
    · have z1 : 100 < a1.length := by
        by_cases h : a1.length ≤ 100
        · exact absurd ⟨hfw, h⟩ hB
        · omega
      rw [hfw] at HFW
      clear hB hfw r1 o1
      go_enter Tryz.func4, Tryz.ntmps4
      go_wp2_with fail
      refine (HFW.out _ r0).mono ?_; rintro e w1 ⟨rfl, rfl⟩
      go_wp2_with fail
      refine (HK.out _ (Below.refl _ _)).mono ?_; rintro e w2 ⟨rfl, hb⟩
      go_wp2_with fail
      go_ret
      exact ⟨rfl, hb⟩
  obtain ⟨hfw, l1⟩ := hB
  rw [hfw] at HFW
  clear hfw
  have q1 : decide (100 < a1.length) = false := decide_eq_false (by omega)
  have v1 : valE (mk a1 true false) = 0 := valE_of (by have := (mk_ok a1 true false).len; omega) (by have := (mk_ok a1 true false).lenI; omega) (mk_ok a1 true false).e
  have g2 := (mk_ok a1 true false).txt
  have x1 := oks_valid (valE_zero v1).2.2 (show txtI (mk a1 true false) ≤ 140737488355328 by omega)
  have hN := NumsAt.made r1 o1 n1 m1
  have hf := fragment_any w.heap.size p1 c1 a1 0 true false 8 8 rfl _ hN (fun h0 a ha => by have := ones_any r1 h0 a ha; simp; omega) (by omega) (by omega)
  have HF := Lib.hid hf; clear hf hN
  rw [show (fragG a1 true false 0 8).1 = mk a1 true false from rfl] at HF
  have hend : ∀ v w2, Below w.heap.size w w2 → OwnL 62 3 ienc w.heap.size (mk a1 true false) v w2 → EndF (mk a1 true false) w (.returned v) w2 := fun v w2 h1 h2 => EndI.f ⟨v, rfl, h1, h2⟩
  have HEND := Lib.hid hend; clear hend



  have e0 := fun W (i : Its W p0 a0) => encode_any p0 c0 a0 W i o0 n0 m0
  have e1 := fun W (i : Its W p0 a0) => refencode_any p0 c0 a0 W i o0 n0 m0
  generalize mk a1 true false = F at *
  have e2 := fun p c W (i : Its W p F) (a : F.length ≤ c) (b : c ≤ maxLen) => encode_any p c F W i x1 a b
  have e3 := fun p c W (i : Its W p F) (a : F.length ≤ c) (b : c ≤ maxLen) => refencode_any p c F W i x1 a b
  generalize (encE F).1 = SF at *
  generalize (encE F).2 = EF at *
  generalize (encE a0).1 = SA at *
  generalize (encE a0).2 = EA at *
  have E0 := Lib.hid e0; have E1 := Lib.hid e1; have E2 := Lib.hid e2; have E3 := Lib.hid e3
  clear e0 e1 e2 e3 v1 g2 x1 o1
  unfold maxLen at m1
  go_enter Tryz.func4, Tryz.ntmps4
  go_wp2_with fail
  refine (HFW.out _ r0).mono ?_; rintro e w1 ⟨rfl, rfl⟩
  go_wp2_with fail
  refine (HF.out).mono ?_
  rintro e w2 ⟨v, rfl, hg, hN2, hown⟩
  have hb : Below w.heap.size w w2 := (blw (Below.refl w.heap.size w) _).trans (grown_below hg (Nat.le_refl _) (by simp))
  have hown2 := ownsRow_base hown (show w.heap.size ≤ _ by simp)
  have h := HEND.out _ _ hb hown2
  obtain ⟨p4, c4, hv, a4, b4, i4, _⟩ := h
  injection hv with hv
  subst hv
  clear hN2 hown hown2 hg
  have bl := hb
  have r0 := r0.call hb
  clear hb
  go_wp2_with fail
  refine (E0.out _ r0).mono ?_; rintro e w3 ⟨rfl, hb⟩
  have r0 := r0.call hb; have i4 := i4.call hb; have bl := BelowOn bl hb; clear hb
  go_wp2_with fail
  refine (E1.out _ r0).mono ?_; rintro e w4 ⟨rfl, hb⟩
  have i4 := i4.call hb; have bl := BelowOn bl hb; clear hb r0
  go_wp2_with fail
  refine (E2.out _ _ _ i4 a4 b4).mono ?_; rintro e w5 ⟨rfl, hb⟩
  have i4 := i4.call hb; have bl := BelowOn bl hb; clear hb
  go_wp2_with fail
  refine (E3.out _ _ _ i4 a4 b4).mono ?_; rintro e w6 ⟨rfl, hb⟩
  have bl := BelowOn bl hb; clear hb i4
  go_wp2_with fail
  refine (HK.out _ bl).mono ?_; rintro e w7 ⟨rfl, hb⟩
  have bl := BelowOn bl hb; clear hb
  go_wp2_with fail
  go_ret
  exact ⟨rfl, bl⟩
end Go.Proofs.YtphkpokoeaagfaaGreatDoor
namespace Go.Proofs.YtphkpokoeaagfaaGreatDoor.markupEncodes
open Go.ChangeShapes Go.WideShapes Go.ChangeAt Go.RowKit
open Go.ChangeMaps (open_string shut_string)
set_option linter.unusedVariables false
set_option maxRecDepth 100000

theorem own : ownKnob Tryz.prog.godebug = none := by kernel_rfl
theorem laidOut : laidOutB Tryz.prog = true := by kernel_rfl


set_option maxHeartbeats 1600000 in
theorem walk (p0 : Option Addr) (c0 : Nat) (a0 : List It) (p1 : Option Addr) (c1 : Nat) (a1 : List Int) (w : World) (r0 : Its w p0 a0) (o0 : Oks a0) (n0 : a0.length ≤ c0) (m0 : c0 ≤ maxLen) (r1 : Ones w (Value.int .i64) p1 a1) (o1 : ∀ i (h : i < a1.length), (Lit.int .i64 (a1[i]'h)).wf = true) (n1 : a1.length ≤ c1) (m1 : c1 ≤ maxLen) (hE : ItoaOk 1000000000 w) (hMx : Mx w) :
    Calls Tryz.prog 4 #[.slice p0 a0.length c0, .slice p1 a1.length c1] w fun e w' => e = .returned (.bool true) ∧ Below w.heap.size w w' := by
  exact encodes_any p0 c0 a0 p1 c1 a1 w r0 o0 n0 m0 r1 o1 n1 m1 hMx

theorem lifted (os : Os) (started : os.Started) (H : Type) (enc : TypeId × Value → H) :
    ReturnsInHanded {} Tryz.checked os 4 .any (fun w args => (Rows.markupEncodesSpec.pre enc Tryz.prog Tryz.f4 Rows.markupEncodesRow.domain false w args ∧ laidMetH Tryz.prog Rows.markupEncodesRow.laid w) ∧ sizedMet enc Tryz.prog Tryz.f4 (OpenSpec.ofChange Rows.markupEncodesSpec) false w args)
      (Rows.markupEncodesSpec.post enc Tryz.prog Tryz.f4 false true false false) := by
  refine returnsInHanded_of_calls (C := Tryz.checked) own started (by kernel_rfl)
    (ChangeSpec.witness_shaped (enc := enc) (C := Tryz.checked) (os := os) (X := fun w _ => laidMetH Tryz.prog Rows.markupEncodesRow.laid w) false (World.laidAll Tryz.prog os Rows.markupEncodesRow.laid) #[.slice none 0 0, .slice none 0 0] 8 (World.laidAll_os _ _ _) (World.shaped_of_ZipB (by kernel_rfl) (by kernel_rfl)) (by kernel_rfl) (by kernel_rfl) (by kernel_rfl) (by rw [MakeChecks.laidMetH_plain _ _ _ (by kernel_rfl)]; exact laidMet_laidAll _ (by kernel_rfl) (by kernel_rfl))) ?_
  intro w0 tape inp _ hsh _ hok hpre _
  obtain ⟨_, _, _, fn1, hfn1, _, _, _, _, hval0⟩ := hok
  obtain rfl : Tryz.f4 = fn1 := Option.some.inj (Tryz.func4.symm.trans hfn1)
  obtain ⟨⟨⟨ds, gs, before, hW0, hcnd⟩, hL0⟩, hz0⟩ := hpre
  have hW := DataW.Whole.of_heap (w' := w0.forCall tape inp) (by rfl) hW0
  have hsz0 := hz0.weights hW0
  have hL : laidMetH Tryz.prog Rows.markupEncodesRow.laid (w0.forCall tape inp) := hL0.of_heap (by rfl)
  suffices hK : Calls Tryz.prog 4 inp.args (w0.forCall tape inp) fun e W' => ∃ v, e = .returned v ∧ Rows.markupEncodesSpec.post enc Tryz.prog Tryz.f4 false true false false (w0.forCall tape inp) inp.args v W' from
    hK.mono fun e W' ⟨v, he, hp⟩ => by subst he; exact ChangeSpec.post_blind hp
  clear hW0 hz0 hL0
  generalize w0.forCall tape inp = W at *
  generalize inp.args = args at *
  generalize w0.heap.size = base at *
  have hval : ∀ (j : Nat) t v, Tryz.f4.params[j]? = some t → args[j]? = some v → Value.okWide Tryz.prog W .any base t v := hval0
  have hW' := hW
  have hlt : ∀ x ∈ before, x.block < W.heap.size := fun x hx => hW'.lt x hx
  obtain ⟨p, q, hA0, hV, rfl, hfz, hnd⟩ := hW
  have hA : DataW.TrodAll enc Tryz.prog W 0 (fun _ => true) true Tryz.f4.params.toList args.toList ds p := hA0
  rw [Tryz.params4] at hA hval hsz0
  obtain ⟨v0, vs0, d0, ds0, p0, q0, hargs, rfl, rfl, h0, r0⟩ := trodAll_cons hA
  obtain ⟨v1, vs1, d1, ds1, p1, q1, rfl, rfl, rfl, h1, r1⟩ := trodAll_cons r0
  obtain ⟨rfl, rfl, rfl⟩ := trodAll_nil r1
  obtain rfl : args = #[v0, v1] := by cases args; simp_all
  obtain ⟨rfl, rfl⟩ := trodVars_none hV
  have hsz := hsz0; clear hsz0
  obtain ⟨pp0, c0, a0, rfl, n0, m0, y0, o0⟩ := opened_f (okBase (hval 0 24 v0 rfl rfl)) h0 (fun n hn => by simpa using List.all_eq_true.1 hsz n (DataW.weights_mem_each (j := 0) rfl rfl n hn))
  obtain ⟨pp1, c1, a1, rfl, n1, m1, y1, o1⟩ := opened_ints (okBase (hval 1 22 v1 rfl rfl)) h1
  clear hA0 hval0
  refine (walk pp0 c0 a0 pp1 c1 a1 W y0 o0 n0 m0 y1 o1 n1 m1 (itoa_of_laid hL) (mx_of_shaped hsh)).mono fun e W' ⟨he, bel⟩ => ?_
  subst he
  exact ⟨_, rfl, _, _, _, [], _, [], hW', trodAll_mk1 (shut_bool Tryz.underlying4 _), (trodAll_cons_mk (Below.trod laidOut (by kernel_rfl) (of_decide_eq_true (by kernel_rfl)) h0 bel (fun x hx => hlt x (by simp [hx]))) (trodAll_cons_mk (Below.trod laidOut (by kernel_rfl) (of_decide_eq_true (by kernel_rfl)) h1 bel (fun x hx => hlt x (by simp [hx]))) trodAll_mk0)), rfl, bel.frame _, fun h => by cases h⟩

theorem over : Rows.MarkupEncodesSaid :=
  OpenClaim.holds_of_wide 4 Tryz.f4 rfl rfl rfl rfl rfl rfl rfl ⟨rfl, rfl, rfl, rfl, rfl⟩ rfl rfl rfl rfl rfl (by kernel_rfl) Tryz.func4 (by kernel_rfl)
    (of_decide_eq_true (by kernel_rfl)) (by unfold Func.isWrapper; first | (rw [if_pos (by decide +kernel)]; kernel_rfl) | (rw [if_neg (by decide +kernel)]; exact ⟨rfl, rfl⟩))
    (fun os started H enc _ => lifted os started H enc)

theorem proved : Rows.MarkupEncodesCardSaid :=
  Claim7.holds_tied_plain_at .later [] [.data, .data, .data] true (true, "6b21d13ca0f84958d516b7b1fdc343a5244796e13f488021b762b64f30b35b11") false
    over (fun _ h => by cases h) (by kernel_rfl) (fun _ h => by cases h) markupEncodes_row_tie rfl ⟨rfl, rfl⟩ (by kernel_rfl) rfl
    (fun f fn hf hfn => by
      obtain rfl : f = 4 := Option.some.inj ((show Tryz.prog.funcNamed "bitext/bitextlaw7.MarkupEncodes" = some 4 by kernel_rfl).symm.trans hf) |>.symm
      obtain rfl : fn = Tryz.f4 := (Option.some.inj (Tryz.func4.symm.trans hfn)).symm
      exact ⟨by kernel_rfl, fun j t ht => by
        rw [Tryz.params4] at ht
        have hm : t ∈ [24, 22] := by simpa using Array.mem_of_getElem? ht
        have hall : ([24, 22].all fun u => !Tryz.prog.wantsStandIn u) = true := by kernel_rfl
        exact (show Tryz.prog.wantsStandIn t = false by simpa using List.all_eq_true.1 hall t hm)⟩)
    (by kernel_rfl)
#print axioms proved
end Go.Proofs.YtphkpokoeaagfaaGreatDoor.markupEncodes
