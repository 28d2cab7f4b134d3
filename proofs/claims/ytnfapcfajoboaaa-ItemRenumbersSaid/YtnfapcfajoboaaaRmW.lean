/- The walk of ItemRenumbers. -/
import Derived.Test.YtnfapcfajoboaaaMad
import Derived.Test.YtnfapcfajoboaaaKno
import Derived.Test.YtnfapcfajoboaaaRnm
import Derived.Test.YtnfapcfajoboaaaCcW
namespace Go.Proofs.Ytnfapcfajoboaaa
open Go.ChangeShapes Go.WideShapes Go.ChangeAt Go.RowKit
set_option linter.unusedVariables false
set_option maxRecDepth 100000

/-- What Shape answers, by lengths alone. -/
def EndShL (n m : Nat) (b : Bool) (w : World) (e : Ending) (w' : World) : Prop := ∃ p1 c1 p2 c2, e = .returned (.tuple #[.slice p1 n c1, .slice p2 m c2, .bool b]) ∧ Below w.heap.size w w'
theorem EndSh.l {st : Option (List Int × List Int)} {w w' : World} {e : Ending} (h : EndSh st w e w') : EndShL (shC st).length (shO st).length st.isSome w e w' := by
  obtain ⟨p1, c1, p2, c2, he, _, _, _, _, _, _, hb⟩ := EndSh.u h
  exact ⟨p1, c1, p2, c2, he, hb⟩
theorem shC_map (f : Int → Int) (st : Option (List Int × List Int)) : (shC (mapSt f st)).length = (shC st).length := by
  cases st with
  | none => rfl
  | some x => obtain ⟨c, o⟩ := x; show (c.map f).length = _; rw [List.length_map]; rfl
theorem shO_map (f : Int → Int) (st : Option (List Int × List Int)) : (shO (mapSt f st)).length = (shO st).length := by
  cases st with
  | none => rfl
  | some x => obtain ⟨c, o⟩ := x; show (o.map f).length = _; rw [List.length_map]; rfl
theorem some_map (f : Int → Int) (st : Option (List Int × List Int)) : (mapSt f st).isSome = st.isSome := by cases st <;> rfl
theorem up_at (n k : Nat) (h : k < (upL n).length) : (upL n)[k]'h = (k : Int) + 1 := by
  have e : (upL n)[k]? = some ((k : Int) + 1) := by
    unfold upL; rw [List.getElem?_map, List.getElem?_range (by rw [upL_len] at h; exact h)]; rfl
  rw [List.getElem?_eq_getElem h] at e; exact Option.some.inj e

set_option maxHeartbeats 3200000 in
theorem renumbers_few (q : Option Addr) (d : Nat) (l : List Int) (w : World)
    (rl : Ones w (Value.int .i64) q l) (ol : ∀ i (h : i < l.length), (Lit.int .i64 (l[i]'h)).wf = true) (nl : l.length ≤ d) (ml : d ≤ maxLen)
    (ll : l.length ≤ 100) :
    Calls Try.prog 14 #[.slice q l.length d] w fun e w' => e = .returned (.bool true) ∧ Below w.heap.size w w' := by
  have m1 := fun W i => made_f q d l true false W i ol nl ml
  have gok := mk_ok l true false
  have g1 := gok.len; have g2 := gok.txt; have g3 := gok.lenI
  have go := oks_valid gok.e (by omega)
  have hu := nums_reno gok.e
  have hle := nums_le (mk l true false)
  obtain ⟨r1l, r1t, r1i, r1v, r1p, r1s, r1e⟩ := reno_ok gok
  have ro := oks_valid r1e (by omega)
  have rr := reno_reno gok.e (by omega)
  have sh2 := fun W x y i a m => (shape_any x y (reno (mk l true false)) W i a m (by omega)).mono fun _ _ x => EndSh.l x
  rw [r1s, shC_map, shO_map, some_map] at sh2
  have sh1 := fun W x y i a m => (shape_any x y (mk l true false) W i a m (by omega)).mono fun _ _ x => EndSh.l x
  unfold EndShL at sh1 sh2
  unfold EndF at m1
  have k1 : ∀ W x y, Its W x (mk l true false) → _ → _ → Calls Try.prog 40 #[.slice x (mk l true false).length y] W (EndF2 (reno (mk l true false)) W) := fun W x y i a m => renumber_any x y (mk l true false) W i go a m (by omega) (by omega)
  have k2 : ∀ W x y, Its W x (reno (mk l true false)) → _ → _ → Calls Try.prog 40 #[.slice x (reno (mk l true false)).length y] W (EndF2 (reno (reno (mk l true false))) W) := fun W x y i a m => renumber_any x y (reno (mk l true false)) W i ro a m (by omega) (by omega)
  rw [rr] at k2
  have n1 := fun W x y i a m => (numbers_any x y (reno (mk l true false)) W i ro a m (by omega)).mono fun _ _ h => EndN.f h
  have n2 := fun W x y i a m => (numbers_any x y (mk l true false) W i go a m (by omega)).mono fun _ _ h => EndN.f h
  rw [hu] at n1
  unfold EndNF at n1 n2
  unfold EndF2 at k1 k2
  have v1 := fun W x y i a m => validate_any x y (reno (mk l true false)) W i ro a m
  rw [r1v] at v1
  have z1 := fun W x y i a m => plain_any x y (mk l true false) W i a m (by omega)
  have z2 := fun W x y i a m => plain_any x y (reno (mk l true false)) W i a m (by omega)
  rw [r1p] at z2
  have hul : (upL (numsL (mk l true false)).length).length = (numsL (mk l true false)).length := upL_len _
  have hua := fun k (h : k < (upL (numsL (mk l true false)).length).length) => up_at (numsL (mk l true false)).length k h
  rw [← hul] at n2
  have hub : (upL (numsL (mk l true false)).length).length ≤ 100 := by omega
  generalize upL (numsL (mk l true false)).length = U at *
  generalize (⟨(plainL (mk l true false)).toArray⟩ : ByteArray) = tA at *
  generalize hS : shL (mk l true false) = st at *
  generalize (shC st).length = sa at *; generalize (shO st).length = sb at *; generalize st.isSome = sc at *
  generalize reno (mk l true false) = Y at *
  have q1 := fun W x x' y y' i i' a a' m m' => rsame_any x x' y y' Y Y W i i' a a' m m'
  rw [decide_eq_true rfl] at q1
  clear hul hS r1s
  have hnum := n2; clear n2
  generalize numsL (mk l true false) = NN at *
  generalize mk l true false = X at *
  have M1 := Lib.hid m1; have R1 := Lib.hid k1; have R2 := Lib.hid k2; have N1 := Lib.hid n1; have N2 := Lib.hid hnum; have K1 := Lib.hid sh1; have K2 := Lib.hid sh2
  have V1 := Lib.hid v1; have Z1 := Lib.hid z1; have Z2 := Lib.hid z2; have Q1 := Lib.hid q1; have HU := Lib.hid hua
  clear m1 k1 k2 n1 hnum sh1 sh2 v1 z1 z2 q1 hua gok g1 g2 g3 go hu hle r1l r1t r1i r1v r1p r1e ro rr ol
  have ql : decide (100 < l.length) = false := decide_eq_false (by omega)
  go_enter Try.func14, Try.ntmps14
  go_wp2_with fail
  refine (M1.out _ rl).mono ?_; rintro e w1 ⟨p1, c1, rfl, a1, b1, i1, hb⟩
  have bl := hb
  go_wp2_with fail
  refine (R1.out _ _ _ i1 a1 b1).mono ?_; rintro e w2 ⟨p2, c2, rfl, a2, b2, i2, hb⟩
  have i1 := i1.call hb; have bl := BelowOn bl hb
  go_wp2_with fail
  refine (N1.out _ _ _ i2 a2 b2).mono ?_; rintro e w3 ⟨p3, c3, rfl, a3, b3, i3, hb⟩
  have i1 := i1.call hb; have i2 := i2.call hb; have bl := BelowOn bl hb
  go_wp2_with fail
  unfold maxLen at b3
  go_loop [6, 25] (fun _ i => ∃ k : Nat, k ≤ U.length ∧ i = .int .i64 k) (fun _ i => U.length - (intOf i).toNat)
  case atStart => exact ⟨0, Nat.zero_le _, rfl⟩
  case round =>
    obtain ⟨k, hk, rfl⟩ := hrel
    by_cases hlt : k < U.length
    · obtain ⟨ad, rfl, had, c0⟩ := one_row i3 k hlt
      have hv := HU.out k hlt
      rw [hv] at c0
      clear hv
      have e1 : (((k : Int) + 1) == ((k : Int) + 1)) = true := by simp
      have e2 : k < 1000000 := by omega
      go_wp2_with fail
      go_round
      case rel => exact ⟨k + 1, hlt, by go_num⟩
      case measure => simp [intOf]; omega
    · obtain rfl : k = U.length := by omega
      go_wp2_with fail
      refine (K1.out _ _ _ i1 a1 b1).mono ?_; rintro e w4 ⟨q1, d1, q2, d2, rfl, hb⟩
      have i1 := i1.call hb; have i2 := i2.call hb; have i3 := i3.call hb; have bl := BelowOn bl hb
      go_wp2_with fail
      refine (K2.out _ _ _ i2 a2 b2).mono ?_; rintro e w5 ⟨q3, d3, q4, d4, rfl, hb⟩
      have i1 := i1.call hb; have i2 := i2.call hb; have i3 := i3.call hb; have bl := BelowOn bl hb
      go_wp2_with fail
      refine (V1.out _ _ _ i2 a2 b2).mono ?_; rintro e w6 ⟨rfl, hb⟩
      have i1 := i1.call hb; have i2 := i2.call hb; have i3 := i3.call hb; have bl := BelowOn bl hb
      go_wp2_with fail
      refine (N2.out _ _ _ i1 a1 b1).mono ?_; rintro e w7 ⟨p5, c5, rfl, a5, b5, i5, hb⟩
      have i1 := i1.call hb; have i2 := i2.call hb; have i3 := i3.call hb; have bl := BelowOn bl hb
      go_wp2_with fail
      refine (R2.out _ _ _ i2 a2 b2).mono ?_; rintro e w8 ⟨p6, c6, rfl, a6, b6, i6, hb⟩
      have i1 := i1.call hb; have i2 := i2.call hb; have i3 := i3.call hb; have bl := BelowOn bl hb
      go_wp2_with fail
      refine (Q1.out _ _ _ _ _ i6 i2 a6 a2 b6 b2).mono ?_; rintro e w9 ⟨rfl, hb⟩
      have i1 := i1.call hb; have i2 := i2.call hb; have i3 := i3.call hb; have bl := BelowOn bl hb
      go_wp2_with fail
      refine (Z1.out _ _ _ i1 a1 b1).mono ?_; rintro e w10 ⟨rfl, hb⟩
      have i2 := i2.call hb; have i3 := i3.call hb; have bl := BelowOn bl hb
      go_wp2_with fail
      refine (Z2.out _ _ _ i2 a2 b2).mono ?_; rintro e w11 ⟨rfl, hb⟩
      have i3 := i3.call hb; have bl := BelowOn bl hb
      go_wp2_with fail
      refine (known_any _).mono ?_; rintro e w12 ⟨rfl, hb⟩
      have i3 := i3.call hb; have bl := BelowOn bl hb
      go_wp2_with fail
      go_ret
      exact ⟨rfl, bl⟩

set_option maxHeartbeats 3200000 in
theorem renumbers_any (q : Option Addr) (d : Nat) (l : List Int) (w : World)
    (rl : Ones w (Value.int .i64) q l) (ol : ∀ i (h : i < l.length), (Lit.int .i64 (l[i]'h)).wf = true) (nl : l.length ≤ d) (ml : d ≤ maxLen) :
    Calls Try.prog 14 #[.slice q l.length d] w fun e w' => e = .returned (.bool true) ∧ Below w.heap.size w w' := by
  by_cases ll : l.length ≤ 100
  case neg =>
    have zl : 100 < l.length := by omega
    go_enter Try.func14, Try.ntmps14
    go_wp2_with fail
    refine (known_any _).mono ?_; rintro e w17 ⟨rfl, hb⟩
    go_wp2_with fail
    go_ret
    exact ⟨rfl, hb⟩
  exact renumbers_few q d l w rl ol nl ml ll
end Go.Proofs.Ytnfapcfajoboaaa
