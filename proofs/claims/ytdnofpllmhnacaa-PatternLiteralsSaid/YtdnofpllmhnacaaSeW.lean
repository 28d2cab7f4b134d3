/- The walk of PatternSets. -/
import Derived.Test.YtdnofpllmhnacaaJnW
import Derived.Test.YtdnofpllmhnacaaRev
namespace Go.Proofs.Ytdnofpllmhnacaa
open Go.ChangeShapes Go.WideShapes Go.ChangeAt Go.RowKit Go.Sort
set_option linter.unusedVariables false
set_option linter.unusedSimpArgs false
set_option maxRecDepth 100000

/-- The letters of the named sets. -/
def ltL : List UInt8 := [115, 100, 108, 99, 109, 117]
def sLo (k : Nat) : ByteArray := ⟨#[92, ltL[k]!]⟩
def sUp (k : Nat) : ByteArray := ⟨#[92, ltL[k]! - 32]⟩
def sBr (k : Nat) : ByteArray := ⟨#[91, 92, ltL[k]!, 93]⟩
def tSet : Nat → BSet
  | 0 => clsS 2 256 | 1 => clsS 3 256 | 2 => clsS 4 256 | 3 => clsS 1 256 | 4 => clsS 5 256 | _ => rangeS emptyS 65 90
theorem six {Q : Nat → Prop} (h0 : Q 0) (h1 : Q 1) (h2 : Q 2) (h3 : Q 3) (h4 : Q 4) (h5 : Q 5) : ∀ k, k < 6 → Q k
  | 0, _ => h0 | 1, _ => h1 | 2, _ => h2 | 3, _ => h3 | 4, _ => h4 | 5, _ => h5 | n + 6, h => absurd h (by omega)
theorem parse_lo : ∀ k, k < 6 → parseF (sLo k) = ([⟨tSet k, 1, false⟩], 0, 0) := by
  refine six ?_ ?_ ?_ ?_ ?_ ?_ <;> kernel_rfl
theorem parse_up : ∀ k, k < 6 → parseF (sUp k) = ([⟨notS (tSet k), 1, false⟩], 0, 0) := by
  refine six ?_ ?_ ?_ ?_ ?_ ?_ <;> kernel_rfl
theorem parse_br : ∀ k, k < 6 → parseF (sBr k) = ([⟨orS emptyS (tSet k), 1, false⟩], 0, 0) := by
  refine six ?_ ?_ ?_ ?_ ?_ ?_ <;> kernel_rfl
theorem cell_lo (W : World) : ∀ k, k < 6 → (W.alloc (.cells #[.string ⟨#[92, 115]⟩, .string ⟨#[92, 100]⟩, .string ⟨#[92, 108]⟩, .string ⟨#[92, 99]⟩, .string ⟨#[92, 109]⟩, .string ⟨#[92, 117]⟩] 9)).cell? ⟨W.heap.size, k, none⟩ = some (.string (sLo k)) := by
  refine six ?_ ?_ ?_ ?_ ?_ ?_ <;> (rw [cell_of_row _ _ _ _ _ _ (heap_alloc_new W _)]; rfl)
theorem cell_up (W : World) : ∀ k, k < 6 → (W.alloc (.cells #[.string ⟨#[92, 83]⟩, .string ⟨#[92, 68]⟩, .string ⟨#[92, 76]⟩, .string ⟨#[92, 67]⟩, .string ⟨#[92, 77]⟩, .string ⟨#[92, 85]⟩] 9)).cell? ⟨W.heap.size, k, none⟩ = some (.string (sUp k)) := by
  refine six ?_ ?_ ?_ ?_ ?_ ?_ <;> (rw [cell_of_row _ _ _ _ _ _ (heap_alloc_new W _)]; rfl)
theorem cell_br (W : World) : ∀ k, k < 6 → (W.alloc (.cells #[.string ⟨#[91, 92, 115, 93]⟩, .string ⟨#[91, 92, 100, 93]⟩, .string ⟨#[91, 92, 108, 93]⟩, .string ⟨#[91, 92, 99, 93]⟩, .string ⟨#[91, 92, 109, 93]⟩, .string ⟨#[91, 92, 117, 93]⟩] 9)).cell? ⟨W.heap.size, k, none⟩ = some (.string (sBr k)) := by
  refine six ?_ ?_ ?_ ?_ ?_ ?_ <;> (rw [cell_of_row _ _ _ _ _ _ (heap_alloc_new W _)]; rfl)
theorem match_one (a : At) (b : Nat) : matchF [a] [b] = a.s b := by
  rw [Bool.eq_iff_iff, match_iff, Mat_one]
  unfold AM
  simp
/-- One atom that the law owns, where it lies. -/
theorem OwA.one {base : Nat} {a : At} {v : Value} {W : World} (h : OwA base [a] v W) : ∃ b c, v = .slice (some ⟨b, 0, none⟩) 1 c ∧ W.rangeAt b 0 a.cs ∧ b < W.heap.size ∧ base ≤ b ∧ (1 : Int) ≤ (c : Int) := by
  rcases h.2 with ⟨_, h0⟩ | ⟨g, cap, cur, hv, hg, hh, hle, hm, hs, ht⟩
  · simp at h0
  · subst hv
    obtain ⟨hr, hg, _, _⟩ := h.row
    have := hr.each 0 (by simp)
    rw [Nat.zero_mul] at this
    exact ⟨g, cap, rfl, this, hr.lt, hg, by simp at hle; omega⟩

/-- A load behind a guard that holds. -/
theorem wpList_load_wanted {P : Program} {ops : Array Oper} {rest : List Oper} {op : Oper} {a : Act} {w : World} {Q : Exit → Act → World → Prop} (hw : Region.wanted op (yielded ops a.tmps) = true) (ty : TypeId) (x : Operand) (ho : op.op = .load ty x)
    (b o : Nat) (hx : a.eval x = .pointer (some ⟨b, o, none⟩)) (cs : List Value) (d : TypeDesc) (hc : w.rangeAt b o cs)
    (hu : P.underlying ty = some d) (hd : d.isRow = true) (hi : (P.info? ty).map (·.size) = some cs.length)
    (h : wpList P ops Q rest (a.put op.dst (.agg cs.toArray)) w) : wpList P ops Q (op :: rest) a w :=
  wpList_step fun K hK => by rw [if_pos hw]; exact wp_load_mid ty x ho b o hx cs d hc hu hd hi (hK _ _ h)
def AtB (b : Nat) (a : At) (base : Nat) (W : World) : Prop := W.rangeAt b 0 a.cs ∧ b < W.heap.size
theorem AtB.call {b base : Nat} {a : At} {W W' : World} (h : AtB b a base W) (g : Below W.heap.size W W') : AtB b a base W' := ⟨rangeAt_below h.1 (g.block b h.2), Nat.lt_of_lt_of_le h.2 g.size⟩
structure Tri (w : World) (a1 a2 a3 : At) (b1 b2 b3 : Nat) (W : World) : Prop where
  x : AtB b1 a1 0 W
  y : AtB b2 a2 0 W
  z : AtB b3 a3 0 W
  bel : Below w.heap.size w W
theorem Tri.call {w : World} {a1 a2 a3 : At} {b1 b2 b3 : Nat} {W W' : World} (h : Tri w a1 a2 a3 b1 b2 b3 W) (g : Below W.heap.size W W') : Tri w a1 a2 a3 b1 b2 b3 W' := ⟨h.x.call g, h.y.call g, h.z.call g, BelowOn h.bel g⟩
theorem hin_of (a : At) : (Try.prog.info? 37).map (·.size) = some a.cs.length := by rw [At.cs_length]; exact size37
theorem AtB.ats {b base : Nat} {a : At} {W : World} (h : AtB b a base W) : Ats W (some ⟨b, 0, none⟩) [a] := fun _ => ⟨b, 0, rfl, h.2, fun i hi => by
  obtain rfl : i = 0 := by simp at hi; exact hi
  rw [Nat.zero_mul, Nat.add_zero]; exact h.1⟩

set_option maxHeartbeats 6400000 in
theorem sets_any (a0 a1 : Int) (w : World) (w0 : (Lit.int .i64 a0).wf = true) (w1 : (Lit.int .u8 a1).wf = true) :
    Calls Try.prog 4 #[.int .i64 a0, .int .u8 a1] w fun e w' => e = .returned (.bool true) ∧ Below w.heap.size w w' := by
  have KN := Lib.hid known_any
  obtain ⟨c, rfl, hc⟩ : ∃ c : Nat, a1 = (c : Int) ∧ c < 256 := by
    have hb : 0 ≤ a1 ∧ a1 ≤ 255 := by simpa [Lit.wf, IntKind.min, IntKind.max, IntKind.signed, IntKind.bits] using w1
    exact ⟨a1.toNat, by omega, by omega⟩
  clear w1
  have hp := fun W => place_any a0 6 W (by omega) (by omega) w0
  obtain ⟨k, hk, hk6⟩ : ∃ k : Nat, a0 % 6 = (k : Int) ∧ k < 6 := by
    have := Int.emod_nonneg a0 (show (6 : Int) ≠ 0 by omega); have := Int.emod_lt_of_pos a0 (show (0 : Int) < 6 by omega)
    exact ⟨(a0 % 6).toNat, by omega, by omega⟩
  rw [hk] at hp
  have p1 := fun W => parse_any (sLo k) W (by rw [show (sLo k).size = 2 from rfl]; omega)
  have p2 := fun W => parse_any (sUp k) W (by rw [show (sUp k).size = 2 from rfl]; omega)
  have p3 := fun W => parse_any (sBr k) W (by rw [show (sBr k).size = 4 from rfl]; omega)
  rw [parse_lo k hk6] at p1
  rw [parse_up k hk6] at p2
  rw [parse_br k hk6] at p3
  have g1 := fun W => cell_lo W k hk6
  have g2 := fun W => cell_up W k hk6
  have g3 := fun W => cell_br W k hk6
  have d1 := fun W => contains_any ⟨tSet k, 1, false⟩ c hc W
  have d2 := fun W => contains_any ⟨notS (tSet k), 1, false⟩ c hc W
  have d3 := fun W => contains_any ⟨orS emptyS (tSet k), 1, false⟩ c hc W
  have dm := fun b cp W (h : AtB b ⟨tSet k, 1, false⟩ 0 W) hcp hcm => match_any (some ⟨b, 0, none⟩) cp [⟨tSet k, 1, false⟩] (mkB [c]) W h.ats hcp hcm (by simp) (by rw [mkB_size]; simp)
  rw [byt_mkB [c] (by simp; exact hc), match_one] at dm
  have hcv := fun W => conv_one W c hc
  dsimp only at d1 d2 d3 dm
  rw [show notS (tSet k) c = !(tSet k c) from rfl] at d2
  rw [show orS emptyS (tSet k) c = (tSet k c) from by unfold orS emptyS; simp] at d3
  generalize sLo k = s1 at *
  generalize sUp k = s2 at *
  generalize sBr k = s3 at *
  generalize hT1 : notS (tSet k) = T1 at *
  generalize hT2 : orS emptyS (tSet k) = T2 at *
  generalize tSet k c = x at *
  generalize tSet k = T0 at *
  have HP := Lib.hid hp; have P1 := Lib.hid p1; have P2 := Lib.hid p2; have P3 := Lib.hid p3; have G1 := Lib.hid g1; have G2 := Lib.hid g2; have G3 := Lib.hid g3
  have D1 := Lib.hid d1; have D2 := Lib.hid d2; have D3 := Lib.hid d3; have DM := Lib.hid dm; have HCV := Lib.hid hcv
  clear hp p1 p2 p3 g1 g2 g3 d1 d2 d3 dm hcv hT1 hT2 hk
  have y0 : (0 : Int) ≤ (k : Int) := by omega
  have y1 : (k : Int) < 6 := by omega
  obtain ⟨d, hu, hd⟩ := und37
  have HUD := Lib.hid (And.intro hu hd); clear hu hd
  go_enter Try.func4, Try.ntmps4
  go_wp2_with fail
  refine (HP.out _).mono ?_; rintro e w' ⟨rfl, rfl⟩
  have g1 := G1.out w
  go_wp2_with fail
  refine (P1.out _).mono ?_; rintro e w1 ⟨v1, rfl, o1, b1⟩
  clear g1
  obtain ⟨b1', c1, rfl, r1, l1, _, z1⟩ := o1.one
  have hcm1 : c1 ≤ maxLen := by obtain ⟨_, _, e, _, h, _⟩ := o1.ats; injection e with _ _ e; omega
  have H1 := Lib.hid (And.intro (show AtB b1' ⟨T0, 1, false⟩ 0 w1 from ⟨r1, l1⟩) (And.intro (BelowOn (blw (Below.refl _ _) _) b1) hcm1)); clear r1 l1 b1 o1 hcm1
  have g2 := G2.out w1
  go_wp2_with fail
  refine (P2.out _).mono ?_; rintro e w2 ⟨v2, rfl, o2, b2⟩
  clear g2
  obtain ⟨b2', c2, rfl, r2, l2, _, z2⟩ := o2.one
  have bb2 := BelowOn (blw (Below.refl w1.heap.size w1) (.cells #[.string ⟨#[92, 83]⟩, .string ⟨#[92, 68]⟩, .string ⟨#[92, 76]⟩, .string ⟨#[92, 67]⟩, .string ⟨#[92, 77]⟩, .string ⟨#[92, 85]⟩] 9)) b2
  have H2 := Lib.hid (And.intro (H1.out.1.call bb2) (And.intro (show AtB b2' ⟨T1, 1, false⟩ 0 w2 from ⟨r2, l2⟩) (BelowOn H1.out.2.1 bb2))); clear r2 l2 b2 o2 bb2
  have g3 := G3.out w2
  go_wp2_with fail
  refine (P3.out _).mono ?_; rintro e w3 ⟨v3, rfl, o3, b3⟩
  clear g3
  obtain ⟨b3', c3, rfl, r3, l3, _, z3⟩ := o3.one
  have bb3 := BelowOn (blw (Below.refl w2.heap.size w2) (.cells #[.string ⟨#[91, 92, 115, 93]⟩, .string ⟨#[91, 92, 100, 93]⟩, .string ⟨#[91, 92, 108, 93]⟩, .string ⟨#[91, 92, 99, 93]⟩, .string ⟨#[91, 92, 109, 93]⟩, .string ⟨#[91, 92, 117, 93]⟩] 9)) b3
  have H3 := Lib.hid (show Tri w ⟨T0, 1, false⟩ ⟨T1, 1, false⟩ ⟨T2, 1, false⟩ b1' b2' b3' w3 from ⟨H2.out.1.call bb3, H2.out.2.1.call bb3, ⟨r3, l3⟩, BelowOn H2.out.2.2 bb3⟩); clear r3 l3 b3 o3 bb3 H2
  go_upto_region 7 with fail
  go_wp2_with (refine wpList_load_mid (by rfl) 37 _ (by rfl) b1' 0 (by rfl) (At.cs ⟨T0, 1, false⟩) d H3.out.x.1 HUD.out.1 HUD.out.2 (hin_of _) ?_)
  refine (D1.out _).mono ?_; rintro e w4 ⟨rfl, b4⟩
  have H4 := Lib.hid (H3.out.call b4); clear b4 H3
  go_wp2_with (refine wpList_load_mid (by rfl) 37 _ (by rfl) b2' 0 (by rfl) (At.cs ⟨T1, 1, false⟩) d H4.out.y.1 HUD.out.1 HUD.out.2 (hin_of _) ?_)
  refine (D2.out _).mono ?_; rintro e w5 ⟨rfl, b5⟩
  have H5 := Lib.hid (H4.out.call b5); clear b5 H4
  have qx : ((!x) == (!x)) = true := by simp
  have qx2 : (x == x) = true := by simp
  go_wp2_with (refine wpList_load_wanted (by rfl) 37 _ (by rfl) b3' 0 (by rfl) (At.cs ⟨T2, 1, false⟩) d H5.out.z.1 HUD.out.1 HUD.out.2 (hin_of _) ?_)
  refine (D3.out _).mono ?_; rintro e w6 ⟨rfl, b6⟩
  have H6 := Lib.hid (H5.out.call b6); clear b6 H5
  have hcv := HCV.out w6
  go_wp2_with fail
  have H7 := Lib.hid (H6.out.call (blw (Below.refl _ _) (.cells #[.int .u8 (c : Int)] 5)))
  refine (DM.out b1' c1 _ H7.out.x (by simp; omega) H1.out.2.2).mono ?_; rintro e w8 ⟨rfl, b8⟩
  have H8 := Lib.hid (BelowOn H7.out.bel b8); clear b8
  go_wp2_with fail
  refine (KN.out _).mono ?_; rintro e w9 ⟨rfl, b9⟩
  have B9 := Lib.hid (BelowOn H8.out b9); clear b9
  go_wp2_with fail
  go_ret
  exact ⟨rfl, B9.out⟩
end Go.Proofs.Ytdnofpllmhnacaa
