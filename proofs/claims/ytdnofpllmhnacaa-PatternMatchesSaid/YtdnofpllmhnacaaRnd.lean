/- readNamed. -/
import Derived.Test.YtdnofpllmhnacaaRb
import Derived.Test.YtdnofpllmhnacaaNmd
namespace Go.Proofs.Ytdnofpllmhnacaa
open Go.ChangeShapes Go.WideShapes Go.ChangeAt Go.RowKit Go.Sort
set_option linter.unusedVariables false
set_option linter.unusedSimpArgs false
set_option maxRecDepth 100000

/-- What readNamed answers. -/
def NdEnd (R : Nat) (s : ByteArray) (w : World) (o : Option BSet) (m : Nat) (e : Ending) (w' : World) : Prop :=
  e = .returned (.tuple #[.agg (setC (o.getD emptyS)).toArray, .bool o.isSome]) ∧ Gr [R] w w' ∧ RD R s m w'
theorem notin {R B : Nat} (h : R < B) : R ∉ [B] := by simp; omega
set_option maxHeartbeats 1600000 in
theorem nd_no (R : Nat) (s : ByteArray) (n : Nat) (w : World) (h : RD R s n w) (he : pk s n ≠ 92) :
    Calls Try.prog 48 #[.pointer (some ⟨R, 0, none⟩)] w (NdEnd R s w none n) := by
  have hp := fun W h => peek_any R s n 0 W h (by omega)
  rw [Nat.add_zero] at hp
  have hq : ((pk s n : Int) != 92) = true := by simp; omega
  have hR := h.lt
  have h0 := SAtT.new 55 w
  have b0 := Gr.ofB (l := [R]) (blw (Below.refl w.heap.size w) (.cells (List.replicate 32 (Value.int .u8 0)).toArray 55))
  have r0 := h.call (blw (Below.refl _ _) (.cells (List.replicate 32 (Value.int .u8 0)).toArray 55))
  generalize pk s n = b at *
  have HP := Lib.hid hp; have H0 := Lib.hid (And.intro h0 (And.intro b0 r0)); clear hp h0 b0 r0
  go_enter Try.func48, Try.ntmps48
  go_wp2_with fail
  refine (HP.out _ H0.out.2.2).mono ?_; rintro e w1 ⟨rfl, hb1⟩
  have H1 := Lib.hid (And.intro (H0.out.1.call hb1) (And.intro (H0.out.2.1.below hb1) (H0.out.2.2.call hb1))); clear hb1 H0
  go_upto_region 2 with fail
  go_wp2_with (refine wpl_storeSet (by rfl) 55 (Or.inl rfl) _ _ (by rfl) w.heap.size emptyS emptyS (by rfl) (by rfl) H1.out.1 ?_; intro w5 h5 g5)
  have hld := SAtT.read (Or.inl rfl) h5
  have hg := H1.out.2.1.set g5 (Or.inr (Nat.le_refl _))
  have hr := H1.out.2.2.keep (Gr.of (l := [w.heap.size]) g5 (Or.inl (by simp))) (notin hR)
  (try simp only [Exit.inBlock, Exit.then])
  refine bodyPost_ret (v := .tuple #[.agg (setC emptyS).toArray, .bool false]) (by simp [results, Try.results48, asAddr, Result.andThen, hld, Act.put]) rfl ⟨rfl, hg, hr⟩
set_option maxHeartbeats 1600000 in
theorem nd_look (R : Nat) (s : ByteArray) (n : Nat) (w : World) (h : RD R s n w) (he : pk s n = 92) (hs : nmS (pk s (n + 1)) = none) :
    Calls Try.prog 48 #[.pointer (some ⟨R, 0, none⟩)] w (NdEnd R s w none n) := by
  have hp := fun W h => peek_any R s n 0 W h (by omega)
  have hp2 := fun W h => peek_any R s n 1 W h (by omega)
  rw [Nat.add_zero, he] at hp
  have hn := fun W => named_any (pk s (n + 1)) (pk_le s _) W
  rw [hs] at hn
  have hq : ((((92 : Nat) : Int)) != 92) = false := by decide
  have hR := h.lt
  have h0 := SAtT.new 55 w
  have b0 := Gr.ofB (l := [R]) (blw (Below.refl w.heap.size w) (.cells (List.replicate 32 (Value.int .u8 0)).toArray 55))
  have r0 := h.call (blw (Below.refl _ _) (.cells (List.replicate 32 (Value.int .u8 0)).toArray 55))
  have hb := pk_le s (n + 1)
  clear he hs
  generalize pk s (n + 1) = b at *
  have HP := Lib.hid hp; have HP2 := Lib.hid hp2; have HN := Lib.hid hn; have H0 := Lib.hid (And.intro h0 (And.intro b0 r0)); clear hp h0 b0 r0 hp2 hn
  go_enter Try.func48, Try.ntmps48
  go_wp2_with fail
  refine (HP.out _ H0.out.2.2).mono ?_; rintro e w1 ⟨rfl, hb1⟩
  have H1 := Lib.hid (And.intro (H0.out.1.call hb1) (And.intro (H0.out.2.1.below hb1) (H0.out.2.2.call hb1))); clear hb1 H0
  go_wp2_with fail
  refine (HP2.out _ H1.out.2.2).mono ?_; rintro e w2 ⟨rfl, hb2⟩
  have H2 := Lib.hid (And.intro (H1.out.1.call hb2) (And.intro (H1.out.2.1.below hb2) (H1.out.2.2.call hb2))); clear hb2 H1
  go_wp2_with fail
  refine (HN.out _).mono ?_; rintro e w3 ⟨rfl, hb3⟩
  have H3 := Lib.hid (And.intro (H2.out.1.call hb3) (And.intro (H2.out.2.1.below hb3) (H2.out.2.2.call hb3))); clear hb3 H2
  go_upto_region 4 with (refine wpl_storeSet (by rfl) 55 (Or.inl rfl) _ _ (by rfl) w.heap.size emptyS emptyS (by rfl) (by rfl) H3.out.1 ?_; intro w4 h4 g4)
  have H4 := Lib.hid (And.intro h4 (And.intro (H3.out.2.1.set g4 (Or.inr (Nat.le_refl _))) (H3.out.2.2.keep (Gr.of (l := [w.heap.size]) g4 (Or.inl (by simp))) (notin hR)))); clear h4 g4 H3
  go_upto_region 6 with fail
  go_wp2_with (first | (refine wpl_loadSet (by rfl) 55 (Or.inl rfl) _ (by rfl) w.heap.size emptyS (by rfl) H4.out.1 ?_) | (refine wpl_storeSet (by rfl) 55 (Or.inl rfl) _ _ (by rfl) w.heap.size emptyS emptyS (by rfl) (by rfl) H4.out.1 ?_; intro w5 h5 g5))
  have hld := SAtT.read (Or.inl rfl) h5
  have hg := H4.out.2.1.set g5 (Or.inr (Nat.le_refl _))
  have hr := H4.out.2.2.keep (Gr.of (l := [w.heap.size]) g5 (Or.inl (by simp))) (notin hR)
  (try simp only [Exit.inBlock, Exit.then])
  refine bodyPost_ret (v := .tuple #[.agg (setC emptyS).toArray, .bool false]) (by simp [results, Try.results48, asAddr, Result.andThen, hld, Act.put]) rfl ⟨rfl, hg, hr⟩
set_option maxHeartbeats 1600000 in
theorem nd_yes (R : Nat) (s : ByteArray) (n : Nat) (T : BSet) (w : World) (h : RD R s n w) (he : pk s n = 92) (hs : nmS (pk s (n + 1)) = some T) (hle : n + 2 ≤ s.size) :
    Calls Try.prog 48 #[.pointer (some ⟨R, 0, none⟩)] w (NdEnd R s w (some T) (n + 2)) := by
  have hp := fun W h => peek_any R s n 0 W h (by omega)
  have hp2 := fun W h => peek_any R s n 1 W h (by omega)
  rw [Nat.add_zero, he] at hp
  have hn := fun W => named_any (pk s (n + 1)) (pk_le s _) W
  rw [hs] at hn
  have hq : ((((92 : Nat) : Int)) != 92) = false := by decide
  have hR := h.lt
  have hsm := h.sm
  have h0 := SAtT.new 55 w
  have b0 := Gr.ofB (l := [R]) (blw (Below.refl w.heap.size w) (.cells (List.replicate 32 (Value.int .u8 0)).toArray 55))
  have r0 := h.call (blw (Below.refl _ _) (.cells (List.replicate 32 (Value.int .u8 0)).toArray 55))
  have hb := pk_le s (n + 1)
  clear he hs
  generalize pk s (n + 1) = b at *
  have hw : IntKind.i64.wrap ((n : Int) + 2) = (n : Int) + 2 := IntWalk.i64_in _ ⟨by omega, by omega⟩
  have HP := Lib.hid hp; have HP2 := Lib.hid hp2; have HN := Lib.hid hn; have H0 := Lib.hid (And.intro h0 (And.intro b0 r0)); clear hp h0 b0 r0 hp2 hn
  go_enter Try.func48, Try.ntmps48
  go_wp2_with fail
  refine (HP.out _ H0.out.2.2).mono ?_; rintro e w1 ⟨rfl, hb1⟩
  have H1 := Lib.hid (And.intro (H0.out.1.call hb1) (And.intro (H0.out.2.1.below hb1) (H0.out.2.2.call hb1))); clear hb1 H0
  go_wp2_with fail
  refine (HP2.out _ H1.out.2.2).mono ?_; rintro e w2 ⟨rfl, hb2⟩
  have H2 := Lib.hid (And.intro (H1.out.1.call hb2) (And.intro (H1.out.2.1.below hb2) (H1.out.2.2.call hb2))); clear hb2 H1
  go_wp2_with fail
  refine (HN.out _).mono ?_; rintro e w3 ⟨rfl, hb3⟩
  have H3 := Lib.hid (And.intro (H2.out.1.call hb3) (And.intro (H2.out.2.1.below hb3) (H2.out.2.2.call hb3))); clear hb3 H2
  simp only [Option.getD_some, Option.isSome_some]
  go_upto_region 4 with (refine wpl_storeSet (by rfl) 55 (Or.inl rfl) _ _ (by rfl) w.heap.size emptyS T (by rfl) (by rfl) H3.out.1 ?_; intro w4 h4 g4)
  have r4 := (H3.out.2.2.keep (Gr.of (l := [w.heap.size]) g4 (Or.inl (by simp))) (notin hR))
  have c1 := r4.c1
  have fr := Lib.frozen_of_heap r4.var 1
  have hz := setCell_at _ R 1 _ 54 (.int .i64 ((n : Int) + 2)) r4.var
  have g6 := grow_cell w4 R 1 (.int .i64 ((n : Int) + 2))
  have H4 := Lib.hid (And.intro h4 (And.intro (H3.out.2.1.set g4 (Or.inr (Nat.le_refl _))) r4)); clear h4 g4 H3 r4
  have H5 := Lib.hid (And.intro hz g6); clear hz g6
  go_upto_region 6 with fail
  have hh : SAtT 55 w.heap.size T (w4.setCell ⟨R, 1, none⟩ (.int .i64 ((n : Int) + 2))) := H4.out.1.keep H5.out.2 (by intro e; injection e with e; omega)
  have hgg := H4.out.2.1.set H5.out.2 (Or.inl (by simp))
  have hrr : RD R s (n + 2) (w4.setCell ⟨R, 1, none⟩ (.int .i64 ((n : Int) + 2))) := ⟨H5.out.1, hle, hsm⟩
  generalize w4.setCell ⟨R, 1, none⟩ (.int .i64 ((n : Int) + 2)) = w6 at *
  have H6 := Lib.hid (And.intro hh (And.intro hgg hrr)); clear hh hgg hrr H5 H4
  go_wp2_with (first | (refine wpl_loadSet (by rfl) 55 (Or.inl rfl) _ (by rfl) w.heap.size T (by rfl) H6.out.1 ?_) | (refine wpl_storeSet (by rfl) 55 (Or.inl rfl) _ _ (by rfl) w.heap.size T T (by rfl) (by rfl) H6.out.1 ?_; intro w5 h5 g5))
  have hld := SAtT.read (Or.inl rfl) h5
  have hg := H6.out.2.1.set g5 (Or.inr (Nat.le_refl _))
  have hr := H6.out.2.2.keep (Gr.of (l := [w.heap.size]) g5 (Or.inl (by simp))) (notin hR)
  (try simp only [Exit.inBlock, Exit.then])
  refine bodyPost_ret (v := .tuple #[.agg (setC T).toArray, .bool true]) (by simp [results, Try.results48, asAddr, Result.andThen, hld, Act.put]) rfl ⟨rfl, hg, hr⟩
/-- Where readNamed stops. -/
def ndN (s : ByteArray) (n : Nat) : Nat := if (ndF s n).isSome then n + 2 else n
theorem rdnamed_any (R : Nat) (s : ByteArray) (n : Nat) (w : World) (h : RD R s n w) :
    Calls Try.prog 48 #[.pointer (some ⟨R, 0, none⟩)] w (NdEnd R s w (ndF s n) (ndN s n)) := by
  unfold ndN
  cases hd : ndF s n with
  | some T =>
    have := nd_some hd
    exact nd_yes R s n T w h this.2.1 this.2.2 this.1
  | none =>
    by_cases he : pk s n = 92
    · exact nd_look R s n w h he (by unfold ndF at hd; rwa [if_pos he] at hd)
    · exact nd_no R s n w h he
end Go.Proofs.Ytdnofpllmhnacaa
