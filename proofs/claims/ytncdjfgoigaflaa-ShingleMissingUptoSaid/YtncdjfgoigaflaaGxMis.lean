/- Shingle: arguments of bounded bulk: grams whose texts are short. Shingle: the walk of ShingleMissing, for arguments of bounded bulk. The law ShingleMissing holds for every input of bounded bulk. -/
import Derived.Test.YtncdjfgoigaflaaSgE
import Derived.Test.YtncdjfgoigaflaaRows
import Derived.WalkKit
import Derived.ProofKit
import Derived.OpenShut
import Derived.ChangeOld
import Derived.Below
import Derived.Carry
import Derived.SizedLaws
import Derived.Test.YtncdjfgoigaflaaTka
import Derived.JoinedCond
namespace Go.Proofs.Ytncdjfgoigaflaa
open Go.ChangeShapes Go.WideShapes Go.ChangeAt Go.RowKit
set_option linter.unusedVariables false
set_option linter.unusedSimpArgs false
set_option maxRecDepth 100000

theorem bulk_one {H : Type} (d : DataW H) : 1 ≤ Rows.uptoBulk d := by
  cases d with
  | lit l => cases l <;> simp [Rows.uptoBulk]
  | _ => simp [Rows.uptoBulk]
theorem bulk_mem {H : Type} {d : DataW H} {l : List (DataW H)} (h : d ∈ l) : Rows.uptoBulk d ≤ Rows.uptoBulkAll l := by
  induction l with
  | nil => cases h
  | cons x r ih =>
    rw [Rows.uptoBulkAll]
    rcases List.mem_cons.1 h with rfl | h
    · omega
    · have := ih h; omega
theorem bulk_len {H : Type} (l : List (DataW H)) : l.length ≤ Rows.uptoBulkAll l := by
  induction l with
  | nil => simp
  | cons x r ih => rw [Rows.uptoBulkAll, List.length_cons]; have := bulk_one x; omega
theorem bulk_gram {H : Type} (a b : List UInt8) (n : Int) : a.length ≤ Rows.uptoBulk (.agg [.lit (.string a), .lit (.string b), .lit (.int .i64 n)] : DataW H) ∧ b.length ≤ Rows.uptoBulk (.agg [.lit (.string a), .lit (.string b), .lit (.int .i64 n)] : DataW H) := by
  simp [Rows.uptoBulk, Rows.uptoBulkAll]; omega
/-- Short grams. -/
def GUps (l : List Gm) : Prop := ∀ g ∈ l, g.f.size ≤ 1048576 ∧ g.s.size ≤ 1048576
section
variable {H : Type} {enc : TypeId × Value → H} {W : World} {base : Nat} {sp : Nat → Bool} {held : Bool}
theorem opened_gu {v : Value} {d : DataW H} {p : List MemPlace} (hv : Value.okWide Try.prog W .any base 30 v) (h : DataW.Trod enc Try.prog W base (fun _ => true) held 30 v d p) (hz : Rows.uptoBulk d ≤ 1048576) :
    ∃ (p : Option Addr) (cap : Nat) (l : List Gm), v = .slice p l.length cap ∧ l.length ≤ cap ∧ cap ≤ maxLen ∧ Gs W p l ∧ GUps l ∧ l.length ≤ 1048576 := by
  obtain ⟨a0, len, cap, rfl⟩ := okWide_slice Try.underlying30 hv
  obtain ⟨fuel, hf⟩ := h
  rcases Go.Deep.open_slice Try.underlying30 hf with ⟨hcs, _⟩ | ⟨a, len', cap', m, n, D, Pl, hcs, _, hl, hm, hmm, hd, hx⟩
  · simp [Value.cells] at hcs
    obtain ⟨rfl, rfl, rfl⟩ := hcs
    exact ⟨none, 0, [], rfl, Nat.le_refl _, Nat.zero_le _, Gs.nil _ _, fun g hg => (by cases hg), Nat.zero_le _⟩
  · simp [Value.cells] at hcs
    obtain ⟨rfl, rfl, rfl⟩ := hcs
    have hlm : len ≤ m := by rw [hmm]; simp; exact hl
    have hd' : d = .slice ((List.range len).map D) ((List.range (m - len)).map fun j => D (len + j)) := by simpa using congrArg Prod.fst hd
    have hall : Rows.uptoBulkAll ((List.range len).map D) ≤ 1048576 := by rw [hd', Rows.uptoBulk] at hz; omega
    have hcount := bulk_len ((List.range len).map D)
    have each : ∀ i, ∃ y : Gm, i < len → (y.f.size ≤ 1048576 ∧ y.s.size ≤ 1048576) ∧ W.cell? (a.add (i * 3)) = some (.string y.f) ∧ W.cell? (a.add (i * 3 + 1)) = some (.string y.s) ∧ W.cell? (a.add (i * 3 + 2)) = some (.int .i64 y.n) := fun i => by
      by_cases hi : i < len
      · obtain ⟨cs', h1, h2⟩ := hx i (by omega)
        obtain ⟨y, hk, rfl, hdi⟩ := read_gram h2
        have hb : Rows.uptoBulk (D i) ≤ 1048576 := Nat.le_trans (bulk_mem (List.mem_map.2 ⟨i, by simpa using hi, rfl⟩)) hall
        have hdi' : D i = .agg [.lit (.string y.f.data.toList), .lit (.string y.s.data.toList), .lit (.int .i64 y.n)] := hdi
        rw [hdi'] at hb
        have hg := bulk_gram (H := H) y.f.data.toList y.s.data.toList y.n
        have e3 : y.f.data.toList.length = y.f.size := by simp
        have e4 : y.s.data.toList.length = y.s.size := by simp
        rw [e3, e4] at hg
        rw [cellsG] at h1
        obtain ⟨_, _, hcell⟩ := World.cells?_some h1
        have e0 := hcell 0 (by omega)
        have e1 := hcell 1 (by omega)
        have e2 := hcell 2 (by omega)
        rw [Go.Deep.add_add] at e0 e1 e2
        exact ⟨y, fun _ => ⟨⟨by omega, by omega⟩, by simpa [genc] using e0, by simpa [genc] using e1, by simpa [genc] using e2⟩⟩
      · exact ⟨⟨.empty, .empty, 0⟩, fun h => absurd h hi⟩
    obtain ⟨f, hf⟩ := Classical.axiomOfChoice each
    refine ⟨some a, cap, (List.range len).map f, by simp, by simpa using hl, hm, fun h0 => ⟨a, rfl, ?_, fun i hi => ?_⟩, fun g hg => ?_, by simp at hcount ⊢; omega⟩
    · have := World.block_lt_of_cell? W _ (hf 0 (by simpa using h0)).2.1
      simpa [add_block] using this
    · have hi' : i < len := by simpa using hi
      simpa using (hf i hi').2
    · obtain ⟨i, hi, rfl⟩ := List.mem_map.1 hg
      exact (hf i (by simpa using hi)).1
end
/-! ### how much grams hold -/
def gsz (L : List Gm) (k : Nat) : Nat := ((L.take k).map fun g => 1 + g.f.size + g.s.size).sum
theorem gsz_next (L : List Gm) (k : Nat) (h : k < L.length) : gsz L (k + 1) = gsz L k + (1 + (L[k]'h).f.size + (L[k]'h).s.size) := by
  unfold gsz; rw [List.take_succ_eq_append_getElem h, List.map_append, List.sum_append]; simp
theorem gsz_le (L : List Gm) (h : GUps L) : ∀ k, k ≤ L.length → gsz L k ≤ k * 2097153 := fun k => by
  intro hk
  induction k with
  | zero => unfold gsz; simp
  | succ j ih =>
    rw [gsz_next L j (by omega)]
    have := ih (by omega)
    have h2 := h _ (List.getElem_mem (show j < L.length by omega))
    have e : (j + 1) * 2097153 = j * 2097153 + 2097153 := by omega
    omega
theorem gsz_all (L : List Gm) : L.length ≤ gsz L L.length ∧ ∀ g ∈ L, g.f.size ≤ gsz L L.length ∧ g.s.size ≤ gsz L L.length := by
  unfold gsz
  rw [List.take_length]
  induction L with
  | nil => exact ⟨Nat.zero_le _, fun g hg => (by cases hg)⟩
  | cons x r ih =>
    simp only [List.map_cons, List.sum_cons, List.length_cons]
    refine ⟨by have := ih.1; omega, fun g hg => ?_⟩
    rcases List.mem_cons.1 hg with rfl | hg
    · constructor <;> omega
    · have := ih.2 g hg; constructor <;> omega
end Go.Proofs.Ytncdjfgoigaflaa
namespace Go.Proofs.Ytncdjfgoigaflaa
open Go.ChangeShapes Go.WideShapes Go.ChangeAt Go.RowKit
set_option linter.unusedVariables false
set_option linter.unusedSimpArgs false
set_option maxRecDepth 100000

theorem misL_self (a : List Gm) : misL a a = 0 := by unfold misL; rw [misN_self]; rfl
/-- Grams that stand, with all that the contracts ask. -/
structure Gr (W : World) (p : Option Addr) (c : Nat) (A : List Gm) : Prop where
  gs : Gs W p A
  le : A.length ≤ c
  cm : c ≤ maxLen
  len : A.length ≤ 1000
  ok : ∀ x ∈ A, x.f.size ≤ maxLen ∧ x.s.size ≤ maxLen
theorem Gr.call {W W' : World} {p : Option Addr} {c : Nat} {A : List Gm} (h : Gr W p c A) (hb : Below W.heap.size W W') : Gr W' p c A := ⟨h.gs.call hb, h.le, h.cm, h.len, h.ok⟩
theorem Gr.mis {W : World} {p q : Option Addr} {c d : Nat} {A B : List Gm} (h : Gr W p c A) (k : Gr W q d B) : Calls Try.prog 19 #[.slice p A.length c, .slice q B.length d] W fun e w' => e = .returned (.int .i64 (misL A B : Nat)) ∧ Below W.heap.size W w' :=
  missing_any p q c d A B W h.gs k.gs h.le k.le h.cm k.cm h.len k.len h.ok k.ok
theorem Gr.rmis {W : World} {p q : Option Addr} {c d : Nat} {A B : List Gm} (h : Gr W p c A) (k : Gr W q d B) : Calls Try.prog 20 #[.slice p A.length c, .slice q B.length d] W fun e w' => e = .returned (.int .i64 (misL A B : Nat)) ∧ Below W.heap.size W w' :=
  rmissing_any p q c d A B W h.gs k.gs h.le k.le h.cm k.cm h.len k.len
theorem gr_words (l : List Int) {W : World} {p : Option Addr} {c : Nat} (h : Gs W p (gramsL (wsL l))) (hc : (gramsL (wsL l)).length ≤ c) (hm : c ≤ maxLen) : Gr W p c (gramsL (wsL l)) :=
  ⟨h, hc, hm, by have := gramsL_len (wsL l); have := wsL_len l; omega, grams_size _ (wsL_size l)⟩
set_option maxHeartbeats 12800000 in
theorem missing_law (pa : Option Addr) (ca : Nat) (a : List Gm) (pb : Option Addr) (cb : Nat) (b : List Gm) (p0 : Option Addr) (c0 : Nat) (l : List Int) (p1 : Option Addr) (c1 : Nat) (m : List Int) (w : World)
    (ra : Gs w pa a) (ua : GUps a) (la : a.length ≤ 1048576) (na : a.length ≤ ca) (ma : ca ≤ maxLen) (rb : Gs w pb b) (ub : GUps b) (lb : b.length ≤ 1048576) (nb : b.length ≤ cb) (mb : cb ≤ maxLen)
    (r0 : Ones w (Value.int .i64) p0 l) (o0 : ∀ i (h : i < l.length), (Lit.int .i64 (l[i]'h)).wf = true) (n0 : l.length ≤ c0) (m0 : c0 ≤ maxLen)
    (r1 : Ones w (Value.int .i64) p1 m) (o1 : ∀ i (h : i < m.length), (Lit.int .i64 (m[i]'h)).wf = true) (n1 : m.length ≤ c1) (m1 : c1 ≤ maxLen) :
    Calls Try.prog 5 #[.slice pa a.length ca, .slice pb b.length cb, .slice p0 l.length c0, .slice p1 m.length c1] w fun e w' => e = .returned (.bool true) ∧ Below w.heap.size w w' := by
  have WL := Lib.hid (fun W (h : Ones W (Value.int .i64) p0 l) => words14_any p0 c0 l W h o0 n0 m0)
  have WM := Lib.hid (fun W (h : Ones W (Value.int .i64) p1 m) => words14_any p1 c1 m W h o1 n1 m1)
  have GL := Lib.hid (fun W p c (h : Ones W Value.string p (wsL l)) i j => rgrams_any p c (wsL l) W h i j (by have := wsL_len l; omega))
  have GM := Lib.hid (fun W p c (h : Ones W Value.string p (wsL m)) i j => rgrams_any p c (wsL m) W h i j (by have := wsL_len m; omega))
  have KL := Lib.hid (fun W p c h i j => gr_words l (W := W) (p := p) (c := c) h i j)
  have KM := Lib.hid (fun W p c h i j => gr_words m (W := W) (p := p) (c := c) h i j)
  have R0 := Lib.hid r0; have R1 := Lib.hid r1
  have hok : ∀ g ∈ a ++ b, g.f.size ≤ 1048576 ∧ g.s.size ≤ 1048576 := fun g hg => by
    rcases List.mem_append.1 hg with h | h
    · exact ua g h
    · exact ub g h
  have HSL := Lib.hid (gsz_le (a ++ b) hok)
  have HSA := Lib.hid (gsz_all (a ++ b))
  have HSN := Lib.hid (fun k h => gsz_next (a ++ b) k h)
  have HUP := Lib.hid hok
  have HA0 := Lib.hid (show gsz (a ++ b) (a ++ b).length ≤ 400 → Gr w pa ca a by
    intro h
    have hs := gsz_all (a ++ b)
    rw [List.length_append] at hs h
    exact ⟨ra, na, ma, by omega, fun x hx => by have := hs.2 x (List.mem_append_left _ hx); unfold maxLen; omega⟩)
  have HB0 := Lib.hid (show gsz (a ++ b) (a ++ b).length ≤ 400 → Gr w pb cb b by
    intro h
    have hs := gsz_all (a ++ b)
    rw [List.length_append] at hs h
    exact ⟨rb, nb, mb, by omega, fun x hx => by have := hs.2 x (List.mem_append_right _ hx); unfold maxLen; omega⟩)
  have leave : ∀ W, Below w.heap.size w W → Calls Try.prog 11 #[] W fun e w' => e = .returned (.bool true) ∧ Below w.heap.size w w' := fun W h => (hknown_any W).mono (fun e w' hh => ⟨hh.1, BelowOn h hh.2⟩)
  have LV := Lib.hid leave
  have hz0 : gsz (a ++ b) 0 = 0 := rfl
  clear leave r0 r1 o0 o1 ua ub hok
  unfold maxLen at m0 m1 ma mb
  have lL : (a ++ b).length ≤ 2097152 := by rw [List.length_append]; omega
  have MS := Lib.hid (misL_self a)
  go_enter Try.func5, Try.ntmps5
  have tok : True := trivial
  go_wp2_with (first
    | (at_builtin; have _t := tok; refine wpl_catG rfl _ _ rfl w [] a _ rfl (Acc.start w) pa _ ca rfl rfl ra (by simp; omega) ?_; intro v1 u1 hA1; rw [List.nil_append] at hA1; clear tok)
    | (at_builtin; refine wpl_catG rfl _ _ rfl w a b v1 rfl hA1 pb _ cb rfl rfl (rb.call hA1.below) (by omega) ?_; intro v2 w2 hA2; clear hA1; generalize hL : a ++ b = L at *; clear hL; obtain ⟨pc, cc, rfl, ic, jc, hC⟩ := OwnG.gs hA2.own; have hbw := hA2.below; clear hA2))
  clear ra rb
  unfold maxLen at jc
  have HC := Lib.hid hC; have HW := Lib.hid hbw
  clear hC hbw
  go_wp2_with fail
  go_loopw [9, 19] (fun n i wr => ∃ k : Nat, k ≤ L.length ∧ i = .int .i64 k ∧ n = .int .i64 (gsz L k : Nat) ∧ Below w2.heap.size w2 wr) (fun _ i _ => L.length - (intOf i).toNat)
  case atStart => exact ⟨0, Nat.zero_le _, rfl, by rw [hz0]; rfl, Below.refl _ _⟩
  case round =>
    obtain ⟨k, hk, rfl, rfl, hB⟩ := hrel
    have hle := HSL.out k hk
    have hle2 : gsz L k ≤ 4398048608256 := by omega
    by_cases hlt : k < L.length
    · obtain ⟨ad, rfl, had, x0, x1, x2⟩ := (HC.out.call hB).row k hlt
      have hnx := HSN.out k hlt
      have hup := HUP.out _ (List.getElem_mem hlt)
      have HNX := Lib.hid hnx
      have ik : (k : Int) < (L.length : Int) := by omega
      have HB2 := Lib.hid (blw hB (.cells #[.string (L[k]'hlt).f, .string (L[k]'hlt).s, .int .i64 (L[k]'hlt).n] 35))
      clear hnx hle hB
      generalize gsz L k = S at *
      generalize L[k] = X at *
      go_wp2_with fail
      go_roundw
      case rel => exact ⟨k + 1, hlt, by go_num, by rw [HNX.out]; go_num, HB2.out⟩
      case measure => simp [intOf]; omega
    · obtain rfl : k = L.length := by omega
      have hWr := BelowOn HW.out hB
      clear hle hB HC HW HSL HSN HUP HSA
      have A1 := HA0.out; have B1 := HB0.out
      have HA1 := Lib.hid A1; have HB1 := Lib.hid B1
      clear A1 B1 HA0 HB0
      generalize gsz L L.length = S at *
      have HWR := Lib.hid hWr
      clear hWr
      by_cases hS : 400 < S
      · have q0 : (400 : Int) < (S : Int) := by omega
        go_wp2_with fail
        refine (LV.out _ HWR.out).mono ?_; rintro e w3 ⟨rfl, hb⟩
        go_wp2_with fail
        go_ret
        exact ⟨rfl, hb⟩
      · have q0 : ¬ (400 : Int) < (S : Int) := by omega
        have HA := Lib.hid ((HA1.out (by omega)).call HWR.out)
        have HB := Lib.hid ((HB1.out (by omega)).call HWR.out)
        clear HA1 HB1 hS hle2
        go_wp2_with fail
        refine (WL.out _ (R0.out.call HWR.out)).mono ?_; rintro e w3 he
        obtain ⟨p3, c3, rfl, i3, j3, hV, hb3⟩ := EndW.f he
        have HV := Lib.hid hV
        clear he hV WL R0
        go_wp2_with fail
        refine (GL.out _ _ _ HV.out i3 j3).mono ?_; rintro e w4 he
        obtain ⟨p4, c4, rfl, i4, j4, hG, hb4⟩ := EndG.f he
        have HX := Lib.hid (KL.out _ _ _ hG i4 j4)
        replace HWR := Lib.hid (BelowOn (BelowOn HWR.out hb3) hb4)
        replace HA := Lib.hid ((HA.out.call hb3).call hb4)
        replace HB := Lib.hid ((HB.out.call hb3).call hb4)
        unfold maxLen at j3 j4
        clear he hG hb3 hb4 HV GL KL
        generalize gramsL (wsL l) = X at *
        go_wp2_with fail
        refine (WM.out _ (R1.out.call HWR.out)).mono ?_; rintro e w5 he
        obtain ⟨p5, c5, rfl, i5, j5, hV, hb5⟩ := EndW.f he
        have HV := Lib.hid hV
        clear he hV WM R1
        go_wp2_with fail
        refine (GM.out _ _ _ HV.out i5 j5).mono ?_; rintro e w6 he
        obtain ⟨p6, c6, rfl, i6, j6, hG, hb6⟩ := EndG.f he
        have HY := Lib.hid (KM.out _ _ _ hG i6 j6)
        replace HWR := Lib.hid (BelowOn (BelowOn HWR.out hb5) hb6)
        replace HA := Lib.hid ((HA.out.call hb5).call hb6)
        replace HB := Lib.hid ((HB.out.call hb5).call hb6)
        replace HX := Lib.hid ((HX.out.call hb5).call hb6)
        unfold maxLen at j5 j6
        clear he hG hb5 hb6 HV GM KM
        generalize gramsL (wsL m) = Y at *
        obtain ⟨x1, X1⟩ : ∃ x : Nat, x = misL a b := ⟨_, rfl⟩
        obtain ⟨x2, X2⟩ : ∃ x : Nat, x = misL X Y := ⟨_, rfl⟩
        have N1 := Lib.hid X1; have N2 := Lib.hid X2
        clear X1 X2
        have hh := HA.out.mis HB.out
        rw [← N1.out] at hh
        have HH := Lib.hid hh; clear hh
        go_wp2_with fail
        refine HH.out.mono ?_; rintro e w7 ⟨rfl, hb⟩
        replace HA := Lib.hid (HA.out.call hb); replace HB := Lib.hid (HB.out.call hb); replace HX := Lib.hid (HX.out.call hb); replace HY := Lib.hid (HY.out.call hb); replace HWR := Lib.hid (BelowOn HWR.out hb)
        clear hb HH
        have hh := HA.out.rmis HB.out
        rw [← N1.out] at hh
        have HH := Lib.hid hh; clear hh
        go_wp2_with fail
        refine HH.out.mono ?_; rintro e w8 ⟨rfl, hb⟩
        replace HA := Lib.hid (HA.out.call hb); replace HB := Lib.hid (HB.out.call hb); replace HX := Lib.hid (HX.out.call hb); replace HY := Lib.hid (HY.out.call hb); replace HWR := Lib.hid (BelowOn HWR.out hb)
        clear hb HH
        have hh := HX.out.mis HY.out
        rw [← N2.out] at hh
        have HH := Lib.hid hh; clear hh
        go_wp2_with fail
        refine HH.out.mono ?_; rintro e w9 ⟨rfl, hb⟩
        replace HA := Lib.hid (HA.out.call hb); replace HB := Lib.hid (HB.out.call hb); replace HX := Lib.hid (HX.out.call hb); replace HY := Lib.hid (HY.out.call hb); replace HWR := Lib.hid (BelowOn HWR.out hb)
        clear hb HH
        have hh := HX.out.rmis HY.out
        rw [← N2.out] at hh
        have HH := Lib.hid hh; clear hh
        go_wp2_with fail
        refine HH.out.mono ?_; rintro e w10 ⟨rfl, hb⟩
        replace HA := Lib.hid (HA.out.call hb); replace HWR := Lib.hid (BelowOn HWR.out hb)
        clear hb HH HB HX HY
        have hh := HA.out.mis HA.out
        rw [MS.out] at hh
        have HH := Lib.hid hh; clear hh
        go_wp2_with fail
        refine HH.out.mono ?_; rintro e w11 ⟨rfl, hb⟩
        replace HWR := Lib.hid (BelowOn HWR.out hb)
        clear hb HH HA
        go_wp2_with fail
        refine (LV.out _ HWR.out).mono ?_; rintro e w12 ⟨rfl, hb⟩
        go_wp2_with fail
        go_ret
        exact ⟨rfl, hb⟩
end Go.Proofs.Ytncdjfgoigaflaa
namespace Go.Proofs.Ytncdjfgoigaflaa.shingleMissing
open Go.ChangeShapes Go.WideShapes Go.ChangeAt Go.RowKit
open Go.ChangeMaps (open_string shut_string)
set_option linter.unusedVariables false
set_option maxRecDepth 100000

theorem own : ownKnob Try.prog.godebug = none := by kernel_rfl
theorem laidOut : laidOutB Try.prog = true := by kernel_rfl


theorem lifted (os : Os) (started : os.Started) (H : Type) (enc : TypeId × Value → H) (F : Stop.Interp) :
    ReturnsInHanded {} Try.checked os 5 .any ((Rows.OpenSpec.upto Rows.shingleMissingSpec).pre6 enc Try.prog Try.f5 Rows.shingleMissingUptoRow.domain false) (((Rows.OpenSpec.upto Rows.shingleMissingSpec).at F).post enc Try.prog Try.f5 false true false false) := by
  refine returnsInHanded_of_cond (C := Try.checked) (s := Rows.OpenSpec.upto Rows.shingleMissingSpec) (k := Rows.uptoSmall) rfl own started (by kernel_rfl) Try.func5
    (OpenSpec.witness (enc := enc) (C := Try.checked) (s := Rows.OpenSpec.upto Rows.shingleMissingSpec) (k := Rows.uptoSmall) rfl false ⟨#[], #[.slice none 0 0, .slice none 0 0, .slice none 0 0, .slice none 0 0], []⟩ 8 (by kernel_rfl) (by kernel_rfl) (by kernel_rfl)
      (x := ([.nil, .nil, .nil, .nil], [], [])) (by kernel_rfl) rfl (by kernel_rfl)) ?_
  intro W base args ds gs before hval0 hW _ hk _
  show Calls Try.prog 5 args W fun e W' => ∃ v, e = .returned v ∧ Rows.shingleMissingSpec.post enc Try.prog Try.f5 false true false false W args v W'
  have hval : ∀ (j : Nat) t v, Try.f5.params[j]? = some t → args[j]? = some v → Value.okWide Try.prog W .any base t v := hval0
  have hW' := hW
  have hlt : ∀ x ∈ before, x.block < W.heap.size := fun x hx => hW'.lt x hx
  obtain ⟨p, q, hA0, hV, rfl, hfz, hnd⟩ := hW
  have hA : DataW.TrodAll enc Try.prog W 0 (fun _ => true) true Try.f5.params.toList args.toList ds p := hA0
  rw [Try.params5] at hA hval
  obtain ⟨v0, vs0, d0, ds0, p0, q0, hargs, rfl, rfl, h0, r0⟩ := trodAll_cons hA
  obtain ⟨v1, vs1, d1, ds1, p1, q1, rfl, rfl, rfl, h1, r1⟩ := trodAll_cons r0
  obtain ⟨v2, vs2, d2, ds2, p2, q2, rfl, rfl, rfl, h2, r2⟩ := trodAll_cons r1
  obtain ⟨v3, vs3, d3, ds3, p3, q3, rfl, rfl, rfl, h3, r3⟩ := trodAll_cons r2
  obtain ⟨rfl, rfl, rfl⟩ := trodAll_nil r3
  obtain rfl : args = #[v0, v1, v2, v3] := by cases args; simp_all
  obtain ⟨rfl, rfl⟩ := trodVars_none hV
  have hk1 : Rows.uptoBulkAll [d0, d1, d2, d3] ≤ 1048576 := of_decide_eq_true hk
  simp only [Rows.uptoBulkAll] at hk1
  obtain ⟨pp0, c0, a0, rfl, n0, m0, y0, o0, l0⟩ := opened_gu (base := 0) (okBase (hval 0 30 v0 rfl rfl)) h0 (show Rows.uptoBulk d0 ≤ 1048576 by omega)
  obtain ⟨pp1, c1, a1, rfl, n1, m1, y1, o1, l1⟩ := opened_gu (base := 0) (okBase (hval 1 30 v1 rfl rfl)) h1 (show Rows.uptoBulk d1 ≤ 1048576 by omega)
  obtain ⟨pp2, c2, a2, rfl, n2, m2, y2, o2⟩ := opened_ints (okBase (hval 2 24 v2 rfl rfl)) h2
  obtain ⟨pp3, c3, a3, rfl, n3, m3, y3, o3⟩ := opened_ints (okBase (hval 3 24 v3 rfl rfl)) h3
  clear hA0 hval0
  refine (missing_law pp0 c0 a0 pp1 c1 a1 pp2 c2 a2 pp3 c3 a3 W y0 o0 l0 n0 m0 y1 o1 l1 n1 m1 y2 o2 n2 m2 y3 o3 n3 m3).mono fun e W' ⟨he, bel⟩ => ?_
  subst he
  exact ⟨_, rfl, _, _, _, [], _, [], hW', trodAll_mk1 (shut_bool Try.underlying4 _), (trodAll_cons_mk (Below.trod laidOut (by kernel_rfl) (of_decide_eq_true (by kernel_rfl)) h0 bel (fun x hx => hlt x (by simp [hx]))) (trodAll_cons_mk (Below.trod laidOut (by kernel_rfl) (of_decide_eq_true (by kernel_rfl)) h1 bel (fun x hx => hlt x (by simp [hx]))) (trodAll_cons_mk (Below.trod laidOut (by kernel_rfl) (of_decide_eq_true (by kernel_rfl)) h2 bel (fun x hx => hlt x (by simp [hx]))) (trodAll_cons_mk (Below.trod laidOut (by kernel_rfl) (of_decide_eq_true (by kernel_rfl)) h3 bel (fun x hx => hlt x (by simp [hx]))) trodAll_mk0)))), rfl, bel.frame _, fun h => by cases h⟩

theorem over : Rows.shingleMissingUptoRow.holds Try.pinned (Rows.OpenSpec.upto Rows.shingleMissingSpec) :=
  OpenClaim.holds_of_cond 5 Try.f5 rfl rfl rfl rfl rfl rfl rfl ⟨rfl, rfl, rfl, rfl, rfl⟩ rfl rfl rfl rfl rfl (by kernel_rfl) Try.func5 (by kernel_rfl)
    (of_decide_eq_true (by kernel_rfl)) (by unfold Func.isWrapper; first | (rw [if_pos (by decide +kernel)]; kernel_rfl) | (rw [if_neg (by decide +kernel)]; exact ⟨rfl, rfl⟩))
    (fun os started H enc _ F => lifted os started H enc F)

theorem proved : Rows.ShingleMissingUptoSaid := over
#print axioms proved
end Go.Proofs.Ytncdjfgoigaflaa.shingleMissing
