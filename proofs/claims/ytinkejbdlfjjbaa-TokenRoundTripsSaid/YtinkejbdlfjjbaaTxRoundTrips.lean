/- The law's generator; the walks of TokenTokens, TokenJoins, TokenRoundTrips and TokenCounts. The law TokenRoundTrips holds for every input. -/
import Derived.Test.YtinkejbdlfjjbaaTkw
import Derived.Test.YtinkejbdlfjjbaaMad
import Derived.Test.YtinkejbdlfjjbaaSlm
import Derived.Test.YtinkejbdlfjjbaaRows
import Derived.WalkKit
import Derived.ProofKit
import Derived.OpenShut
import Derived.ChangeOld
import Derived.Below
import Derived.Carry
import Derived.SizedLaws
import Derived.Test.YtinkejbdlfjjbaaTka
namespace Go.Proofs.Ytinkejbdlfjjbaa
open Go.ChangeShapes Go.WideShapes Go.ChangeAt Go.RowKit
set_option linter.unusedVariables false
set_option linter.unusedSimpArgs false
set_option maxRecDepth 100000

set_option maxHeartbeats 1600000 in
theorem made_any (p : Option Addr) (cap : Nat) (L : List Int) (w : World) (hL : Ones w (Value.int .i64) p L) (hw : ∀ i (h : i < L.length), (Lit.int .i64 (L[i]'h)).wf = true) (hc : L.length ≤ cap) (hm : cap ≤ maxLen) :
    Calls Try.prog 15 #[.slice p L.length cap] w (EndF (mk L true false) w) := by
  have hN := NumsAt.made hL hw hc hm
  have hf := fragment_any w.heap.size p cap L 0 true false 8 8 rfl _ hN (fun h0 a ha => by have := ones_any hL h0 a ha; simp; omega) (by omega) (by omega)
  have HF := Lib.hid hf; clear hf hN
  unfold maxLen at hm
  go_enter Try.func15, Try.ntmps15
  go_wp2_with fail
  refine (HF.out).mono ?_
  rintro e w2 ⟨v, rfl, hg, hN2, hown⟩
  have hb : Below w.heap.size w w2 := (blw (Below.refl w.heap.size w) _).trans (grown_below hg (Nat.le_refl _) (by simp))
  have hown2 : OwnL 27 3 ienc w.heap.size (mk L true false) v w2 := ownsRow_base hown (by simp)
  clear hN2 hown hg
  go_wp2_with fail
  go_ret
  exact EndI.f ⟨_, rfl, hb, hown2⟩
theorem mk_kinds (L : List Int) : kindsOk (mk L true false) := fun x hx => by
  have hp := valid_proper _ (mk_ok L true false).e x hx
  unfold properB at hp
  split at hp
  · omega
  · split at hp
    · omega
    · split at hp
      · omega
      · split at hp
        · omega
        · cases hp

set_option maxHeartbeats 6400000 in
theorem tokens_law (p : Option Addr) (c : Nat) (f : List It) (s : ByteArray) (q : Option Addr) (d : Nat) (l : List Int) (w : World)
    (rf : Its w p f) (of : Oks f) (nf : f.length ≤ c) (mf : c ≤ maxLen) (ws : s.size ≤ 140737488355328) (rl : Ones w (Value.int .i64) q l) (ol : ∀ i (h : i < l.length), (Lit.int .i64 (l[i]'h)).wf = true) (nl : l.length ≤ d) (ml : d ≤ maxLen) :
    Calls Try.prog 3 #[.slice p f.length c, .string s, .slice q l.length d] w fun e w' => e = .returned (.bool true) ∧ Below w.heap.size w w' := by
  have h0 := fewt_any p c f w rf of nf mf
  cases e0 : fewT f
  · rw [e0] at h0
    have H0 := Lib.hid h0; clear h0
    go_enter Try.func3, Try.ntmps3
    go_wp2_with fail
    refine (H0.out).mono ?_; rintro e w1 ⟨rfl, rfl⟩
    go_wp2_with fail
    refine (known_any _).mono ?_; rintro e w17 ⟨rfl, hb⟩
    go_wp2_with fail
    go_ret
    exact ⟨rfl, hb⟩
  rw [e0] at h0
  by_cases hs : s.size ≤ 300
  case neg =>
    have H0 := Lib.hid h0; clear h0
    have z1 : 300 < s.size := by omega
    go_enter Try.func3, Try.ntmps3
    go_wp2_with fail
    refine (H0.out).mono ?_; rintro e w1 ⟨rfl, rfl⟩
    go_wp2_with fail
    refine (known_any _).mono ?_; rintro e w17 ⟨rfl, hb⟩
    go_wp2_with fail
    go_ret
    exact ⟨rfl, hb⟩
  have z1 : ¬ 300 < s.size := by omega
  by_cases hl : l.length ≤ 100
  case neg =>
    have H0 := Lib.hid h0; clear h0
    have z2 : 100 < l.length := by omega
    go_enter Try.func3, Try.ntmps3
    go_wp2_with fail
    refine (H0.out).mono ?_; rintro e w1 ⟨rfl, rfl⟩
    go_wp2_with fail
    refine (known_any _).mono ?_; rintro e w17 ⟨rfl, hb⟩
    go_wp2_with fail
    go_ret
    exact ⟨rfl, hb⟩
  have z2 : ¬ 100 < l.length := by omega
  have hfw : f.length ≤ 40 ∧ txtI f ≤ 600 := by
    unfold fewT at e0; rw [Bool.and_eq_true] at e0; exact ⟨of_decide_eq_true e0.1, of_decide_eq_true e0.2⟩
  have k1 := fun W i => (tokens_any p c f W i nf mf (by omega)).mono fun _ _ x => EndT.f x
  have k2 := fun W i => (rtokens_any p c f W i nf mf (by omega)).mono fun _ _ x => EndT.f x
  have ht : txtI [(⟨1, s, 0⟩ : It)] + [(⟨1, s, 0⟩ : It)].length ≤ 2000000000 := by show s.size + 0 + 1 ≤ _; omega
  have k3 : ∀ W a, Its W a [⟨1, s, 0⟩] → Calls Try.prog 13 #[.slice a 1 1] W (EndF (toks [⟨1, s, 0⟩]) W) := fun W a h => (tokens_any a 1 [⟨1, s, 0⟩] W h (Nat.le_refl 1) (by unfold maxLen; decide) ht).mono fun _ _ x => EndT.f x
  have k4 : ∀ W a, Its W a [⟨1, s, 0⟩] → Calls Try.prog 14 #[.slice a 1 1] W (EndF (toks [⟨1, s, 0⟩]) W) := fun W a h => (rtokens_any a 1 [⟨1, s, 0⟩] W h (Nat.le_refl 1) (by unfold maxLen; decide) ht).mono fun _ _ x => EndT.f x
  have m := fun W i => made_any q d l W i ol nl ml
  have gok := mk_ok l true false
  have g1 := gok.len; have g2 := gok.txt
  generalize mk l true false = G at *
  have k5 := fun W x y i a b => (tokens_any x y G W i a b (by omega)).mono fun _ _ x => EndT.f x
  have k6 := fun W x y i a b => (rtokens_any x y G W i a b (by omega)).mono fun _ _ x => EndT.f x
  have q1 := fun W x x' y y' i i' a a' b b' => stoks_any x x' y y' (toks f) (toks f) W i i' a a' b b'
  have q2 := fun W x x' y y' i i' a a' b b' => stoks_any x x' y y' (toks [⟨1, s, 0⟩]) (toks [⟨1, s, 0⟩]) W i i' a a' b b'
  have q3 := fun W x x' y y' i i' a a' b b' => stoks_any x x' y y' (toks G) (toks G) W i i' a a' b b'
  rw [decide_eq_true rfl] at q1 q2 q3
  generalize toks f = X1 at *
  generalize toks [⟨1, s, 0⟩] = X2 at *
  generalize toks G = X3 at *
  have K1 := Lib.hid k1; have K2 := Lib.hid k2; have K3 := Lib.hid k3; have K4 := Lib.hid k4; have K5 := Lib.hid k5; have K6 := Lib.hid k6
  have Q1 := Lib.hid q1; have Q2 := Lib.hid q2; have Q3 := Lib.hid q3; have M := Lib.hid m; have H0 := Lib.hid h0
  clear k1 k2 k3 k4 k5 k6 q1 q2 q3 m h0 gok g1 g2 hfw ht e0
  go_enter Try.func3, Try.ntmps3
  go_wp2_with fail
  refine (H0.out).mono ?_; rintro e w0 ⟨rfl, rfl⟩
  go_wp2_with fail
  have bl : Below w.heap.size w _ := blw (Below.refl _ _) (.cells (icells [⟨1, s, 0⟩]).toArray 27)
  have it : Its _ _ [⟨1, s, 0⟩] := Its.lit (heap_alloc_new w (.cells (icells [⟨1, s, 0⟩]).toArray 27)) rfl
  have rf := rf.call (blw (Below.refl _ _) (.cells (icells [⟨1, s, 0⟩]).toArray 27))
  have rl := rl.call (blw (Below.refl _ _) (.cells (icells [⟨1, s, 0⟩]).toArray 27))
  refine (K1.out _ rf).mono ?_; rintro e w1 ⟨p1, c1, rfl, a1, b1, i1, hb⟩
  have rf := rf.call hb; have rl := rl.call hb; have it := it.call hb; have bl := BelowOn bl hb
  go_wp2_with fail
  refine (K2.out _ rf).mono ?_; rintro e w2 ⟨p2, c2, rfl, a2, b2, i2, hb⟩
  have rl := rl.call hb; have it := it.call hb; have i1 := i1.call hb; have bl := BelowOn bl hb
  go_wp2_with fail
  refine (Q1.out _ _ _ _ _ i1 i2 a1 a2 b1 b2).mono ?_; rintro e w3 ⟨rfl, hb⟩
  have rl := rl.call hb; have it := it.call hb; have bl := BelowOn bl hb
  go_wp2_with fail
  refine (K3.out _ _ it).mono ?_; rintro e w4 ⟨p3, c3, rfl, a3, b3, i3, hb⟩
  have rl := rl.call hb; have it := it.call hb; have bl := BelowOn bl hb
  go_wp2_with fail
  refine (K4.out _ _ it).mono ?_; rintro e w5 ⟨p4, c4, rfl, a4, b4, i4, hb⟩
  have rl := rl.call hb; have i3 := i3.call hb; have bl := BelowOn bl hb
  go_wp2_with fail
  refine (Q2.out _ _ _ _ _ i3 i4 a3 a4 b3 b4).mono ?_; rintro e w6 ⟨rfl, hb⟩
  have rl := rl.call hb; have bl := BelowOn bl hb
  go_wp2_with fail
  refine (M.out _ rl).mono ?_; rintro e w7 ⟨p5, c5, rfl, a5, b5, i5, hb⟩
  have rl := rl.call hb; have bl := BelowOn bl hb
  go_wp2_with fail
  refine (K5.out _ _ _ i5 a5 b5).mono ?_; rintro e w8 ⟨p6, c6, rfl, a6, b6, i6, hb⟩
  have rl := rl.call hb; have bl := BelowOn bl hb
  go_wp2_with fail
  refine (M.out _ rl).mono ?_; rintro e w9 ⟨p7, c7, rfl, a7, b7, i7, hb⟩
  have i6 := i6.call hb; have bl := BelowOn bl hb
  go_wp2_with fail
  refine (K6.out _ _ _ i7 a7 b7).mono ?_; rintro e w10 ⟨p8, c8, rfl, a8, b8, i8, hb⟩
  have i6 := i6.call hb; have bl := BelowOn bl hb
  go_wp2_with fail
  refine (Q3.out _ _ _ _ _ i6 i8 a6 a8 b6 b8).mono ?_; rintro e w11 ⟨rfl, hb⟩
  have bl := BelowOn bl hb
  go_wp2_with fail
  refine (known_any _).mono ?_; rintro e w12 ⟨rfl, hb⟩
  have bl := BelowOn bl hb
  go_wp2_with fail
  go_ret
  exact ⟨rfl, bl⟩

set_option maxHeartbeats 6400000 in
theorem joins_law (p : Option Addr) (c : Nat) (f : List It) (w : World) (rf : Its w p f) (of : Oks f) (nf : f.length ≤ c) (mf : c ≤ maxLen) :
    Calls Try.prog 4 #[.slice p f.length c] w fun e w' => e = .returned (.bool true) ∧ Below w.heap.size w w' := by
  have hsum : f.length ≤ 60 → ∀ k, k ≤ f.length → txtI (f.take k) ≤ k * 140737488355328 := fun h60 k => by
    intro hk
    induction k with
    | zero => simp [txtI]
    | succ j ih =>
      rw [txtI_next f j (by omega)]
      have := ih (by omega)
      have h1 := (of j (by omega)).t
      omega
  have HS := Lib.hid hsum; clear hsum
  have hmain : f.length ≤ 60 → txtI f ≤ 1000 → (∀ W, Its W p f → Calls Try.prog 17 #[.slice p f.length c] W (EndF (norm (unL f)) W)) ∧ (∀ W, Its W p f → Calls Try.prog 18 #[.slice p f.length c] W (EndF (norm (unL f)) W)) := fun h1 h2 =>
    ⟨fun W i => join_any p c f W i nf mf (by omega), fun W i => rjoin_any p c f W i nf mf (by omega)⟩
  have q1 := fun W x x' y y' i i' a a' b b' => rsame_any x x' y y' (norm (unL f)) (norm (unL f)) W i i' a a' b b'
  rw [decide_eq_true rfl] at q1
  generalize norm (unL f) = X at *
  have HM := Lib.hid hmain; have Q1 := Lib.hid q1; clear hmain q1
  unfold maxLen at mf
  go_enter Try.func4, Try.ntmps4
  go_wp2_with fail
  go_loop [3, 7] (fun v i => ∃ k : Nat, ∃ z : Int, k ≤ f.length ∧ i = .int .i64 k ∧ v = .int .i64 z ∧ Hid (f.length ≤ 60 → z = txtI (f.take k))) (fun _ i => f.length - (intOf i).toNat)
  case atStart => exact ⟨0, 0, Nat.zero_le _, rfl, rfl, Lib.hid (fun _ => rfl)⟩
  case round =>
    obtain ⟨k, z, hk, rfl, rfl, HZ⟩ := hrel
    by_cases hlt : k < f.length
    · obtain ⟨a, rfl, ha, c0, c1, c2⟩ := rf.row k hlt
      have hn := txtI_next f k hlt
      have HN := Lib.hid hn; clear hn
      go_wp2_with fail
      go_round
      case rel =>
        refine ⟨k + 1, _, hlt, by go_num, rfl, Lib.hid (fun h60 => ?_)⟩
        have b := HS.out h60 (k + 1) hlt
        rw [HN.out] at b ⊢
        rw [HZ.out h60]
        unfold wrap64
        omega
      case measure => simp [intOf]; omega
    · obtain rfl : k = f.length := by omega
      rw [List.take_length] at HZ
      by_cases h60 : f.length ≤ 60
      · have hz := HZ.out h60
        have z1 : ¬ 60 < f.length := by omega
        clear HZ
        by_cases h1000 : z ≤ 1000
        · have z2 : ¬ 1000 < z := by omega
          obtain ⟨m1, m2⟩ := HM.out h60 (by omega)
          have K1 := Lib.hid m1; have K2 := Lib.hid m2; clear m1 m2 hz
          go_wp2_with fail
          refine (K1.out _ rf).mono ?_; rintro e w1 ⟨p1, c1, rfl, a1, b1, i1, hb⟩
          have rf := rf.call hb; have bl := hb
          go_wp2_with fail
          refine (K2.out _ rf).mono ?_; rintro e w2 ⟨p2, c2, rfl, a2, b2, i2, hb⟩
          have i1 := i1.call hb; have bl := BelowOn bl hb
          go_wp2_with fail
          refine (Q1.out _ _ _ _ _ i1 i2 a1 a2 b1 b2).mono ?_; rintro e w3 ⟨rfl, hb⟩
          have bl := BelowOn bl hb
          go_wp2_with fail
          refine (known_any _).mono ?_; rintro e w4 ⟨rfl, hb⟩
          have bl := BelowOn bl hb
          go_wp2_with fail
          go_ret
          exact ⟨rfl, bl⟩
        · have z2 : 1000 < z := by omega
          clear hz
          go_wp2_with fail
          refine (known_any _).mono ?_; rintro e w17 ⟨rfl, hb⟩
          go_wp2_with fail
          go_ret
          exact ⟨rfl, hb⟩
      · have z1 : 60 < f.length := by omega
        clear HZ
        go_wp2_with fail
        refine (known_any _).mono ?_; rintro e w17 ⟨rfl, hb⟩
        go_wp2_with fail
        go_ret
        exact ⟨rfl, hb⟩

set_option maxHeartbeats 6400000 in
theorem trips_law (q : Option Addr) (d : Nat) (l : List Int) (s : ByteArray) (w : World) (rl : Ones w (Value.int .i64) q l) (ol : ∀ i (h : i < l.length), (Lit.int .i64 (l[i]'h)).wf = true) (nl : l.length ≤ d) (ml : d ≤ maxLen) (ws : s.size ≤ 140737488355328) :
    Calls Try.prog 5 #[.slice q l.length d, .string s] w fun e w' => e = .returned (.bool true) ∧ Below w.heap.size w w' := by
  by_cases hl : l.length ≤ 100
  case neg =>
    have z2 : 100 < l.length := by omega
    go_enter Try.func5, Try.ntmps5
    go_wp2_with fail
    refine (known_any _).mono ?_; rintro e w17 ⟨rfl, hb⟩
    go_wp2_with fail
    go_ret
    exact ⟨rfl, hb⟩
  have z2 : ¬ 100 < l.length := by omega
  by_cases hs : s.size ≤ 300
  case neg =>
    have z1 : 300 < s.size := by omega
    go_enter Try.func5, Try.ntmps5
    go_wp2_with fail
    refine (known_any _).mono ?_; rintro e w17 ⟨rfl, hb⟩
    go_wp2_with fail
    go_ret
    exact ⟨rfl, hb⟩
  have z1 : ¬ 300 < s.size := by omega
  have m := fun W i => made_any q d l W i ol nl ml
  have gok := mk_ok l true false
  have gk := mk_kinds l
  have g1 := gok.len; have g2 := gok.txt
  generalize mk l true false = G at *
  have hc1 : ∀ W x y z, Its W x G → Its W z [⟨1, s, 0⟩] → Calls Try.prog 19 #[.slice x G.length y, .slice z 1 1] W (EndF (norm (G ++ [⟨1, s, 0⟩])) W) := fun W x y z i j =>
    (rconcat_any x z y 1 G [⟨1, s, 0⟩] W i j (by show G.length + 1 ≤ _; omega) (by show txtI G + (s.size + 0) ≤ _; omega)).mono fun _ _ x => EndI.f x
  have hlen : (norm (G ++ [⟨1, s, 0⟩])).length ≤ G.length + 1 := by have := norm_len (G ++ [⟨1, s, 0⟩]); simpa using this
  have htxt : txtI (norm (G ++ [⟨1, s, 0⟩])) ≤ txtI G + s.size := by have := txt_normed (G ++ [⟨1, s, 0⟩]); rw [txtI_snoc] at this; exact this
  have hkk : kindsOk (norm (G ++ [⟨1, s, 0⟩])) := kinds_norm _ (fun x hx => by
    rcases List.mem_append.1 hx with h | h
    · exact gk x h
    · rw [List.mem_singleton.1 h]; exact ⟨by show (1 : Int) ≤ 1; decide, by show (1 : Int) ≤ 5; decide⟩)
  have hnn := norm_norm (G ++ [⟨1, s, 0⟩])
  generalize norm (G ++ [⟨1, s, 0⟩]) = F at *
  have k1 := fun W x y i a b => (tokens_any x y F W i a b (by omega)).mono fun _ _ x => EndT.f x
  have h1 := toks_len F; have h2 := toks_txt F
  have j1 := fun W x y i a b => join_any x y (toks F) W i a b (by omega)
  rw [norm_toks F hkk, hnn] at j1
  generalize toks F = X at *
  have q1 := fun W x x' y y' i i' a a' b b' => rsame_any x x' y y' F F W i i' a a' b b'
  rw [decide_eq_true rfl] at q1
  have K1 := Lib.hid k1; have J1 := Lib.hid j1; have Q1 := Lib.hid q1; have M := Lib.hid m; have C := Lib.hid hc1
  clear k1 j1 q1 m hc1 gok gk g1 g2 hlen htxt hkk hnn h1 h2
  go_enter Try.func5, Try.ntmps5
  go_wp2_with fail
  refine (M.out _ rl).mono ?_; rintro e w1 ⟨p1, c1, rfl, a1, b1, i1, hb⟩
  have bl := hb
  go_wp2_with fail
  have hb := blw (Below.refl w1.heap.size w1) (.cells (icells [⟨1, s, 0⟩]).toArray 27)
  have it : Its _ _ [⟨1, s, 0⟩] := Its.lit (heap_alloc_new w1 (.cells (icells [⟨1, s, 0⟩]).toArray 27)) rfl
  have i1 := i1.call hb; have bl := BelowOn bl hb
  refine (C.out _ _ _ _ i1 it).mono ?_; rintro e w2 ⟨p2, c2, rfl, a2, b2, i2, hb⟩
  have i1 := i1.call hb; have it := it.call hb; have bl := BelowOn bl hb
  go_wp2_with fail
  refine (K1.out _ _ _ i2 a2 b2).mono ?_; rintro e w3 ⟨p3, c3, rfl, a3, b3, i3, hb⟩
  have i2 := i2.call hb; have bl := BelowOn bl hb
  go_wp2_with fail
  refine (J1.out _ _ _ i3 a3 b3).mono ?_; rintro e w4 ⟨p4, c4, rfl, a4, b4, i4, hb⟩
  have i2 := i2.call hb; have bl := BelowOn bl hb
  go_wp2_with fail
  refine (Q1.out _ _ _ _ _ i4 i2 a4 a2 b4 b2).mono ?_; rintro e w5 ⟨rfl, hb⟩
  have bl := BelowOn bl hb
  go_wp2_with fail
  refine (known_any _).mono ?_; rintro e w6 ⟨rfl, hb⟩
  have bl := BelowOn bl hb
  go_wp2_with fail
  go_ret
  exact ⟨rfl, bl⟩

set_option maxHeartbeats 6400000 in
theorem counts_law (p : Option Addr) (c : Nat) (f : List It) (q : Option Addr) (d : Nat) (g : List It) (w : World)
    (rf : Its w p f) (of : Oks f) (nf : f.length ≤ c) (mf : c ≤ maxLen) (rg : Its w q g) (og : Oks g) (ng : g.length ≤ d) (mg : d ≤ maxLen) :
    Calls Try.prog 9 #[.slice p f.length c, .slice q g.length d] w fun e w' => e = .returned (.bool true) ∧ Below w.heap.size w w' := by
  by_cases hf : f.length ≤ 80
  case neg =>
    have z1 : 80 < f.length := by omega
    go_enter Try.func9, Try.ntmps9
    go_wp2_with fail
    refine (known_any _).mono ?_; rintro e w17 ⟨rfl, hb⟩
    go_wp2_with fail
    go_ret
    exact ⟨rfl, hb⟩
  have z1 : ¬ 80 < f.length := by omega
  by_cases hg : g.length ≤ 80
  case neg =>
    have z2 : 80 < g.length := by omega
    go_enter Try.func9, Try.ntmps9
    go_wp2_with fail
    refine (known_any _).mono ?_; rintro e w17 ⟨rfl, hb⟩
    go_wp2_with fail
    go_ret
    exact ⟨rfl, hb⟩
  have z2 : ¬ 80 < g.length := by omega
  have t1 := fun W i => total_any p c f W i nf mf (by omega)
  have u1 := fun W i => rtotal_any p c f W i nf mf (by omega)
  have n1 := fun W i => count_any p c f W i nf mf (by omega)
  have o1 := fun W i => rcount_any p c f W i nf mf (by omega)
  have t2 := fun W i => total_any q d g W i ng mg (by omega)
  have n2 := fun W i => count_any q d g W i ng mg (by omega)
  have hl : (f ++ g).length = f.length + g.length := List.length_append
  have t3 := fun W x y i a m => total_any x y (f ++ g) W i a m (by omega)
  have n3 := fun W x y i a m => count_any x y (f ++ g) W i a m (by omega)
  rw [wtL_append] at t3
  rw [cntL_append] at n3
  have b1 := wtL_le f; have b2 := wtL_le g; have b3 := cntL_le f; have b4 := cntL_le g
  generalize wtL f = x1 at *
  generalize wtL g = x2 at *
  generalize cntL f = y1 at *
  generalize cntL g = y2 at *
  generalize hX : f ++ g = X at *
  have HX := Lib.hid hX; have HL := Lib.hid hl
  have T1 := Lib.hid t1; have U1 := Lib.hid u1; have N1 := Lib.hid n1; have O1 := Lib.hid o1; have T2 := Lib.hid t2; have N2 := Lib.hid n2
  have T3 := Lib.hid t3; have N3 := Lib.hid n3
  clear t1 u1 n1 o1 t2 n2 t3 n3 hX hl
  have hx1 : x1 ≤ 320 := by omega
  have hx2 : x2 ≤ 320 := by omega
  go_enter Try.func9, Try.ntmps9
  go_wp2_with (first | (at_builtin; refine wpl_catT rfl _ _ rfl w [] f _ rfl (Acc.start w) p _ _ rfl rfl rf (by simp; omega) ?_; intro v1 w1 hA1; have rg1 := rg.call hA1.below) | (at_builtin; refine wpl_catT rfl _ _ rfl w _ g _ rfl hA1 q _ _ rfl rfl rg1 (by simp; omega) ?_; intro v2 w2 hA2; rw [List.nil_append, HX.out] at hA2; obtain ⟨p3, c3, rfl, a3, b3, iX⟩ := OwnT.its hA2.own; have bl := hA2.below; have rf := rf.call bl; have rg := rg.call bl; clear hA1 hA2 rg1))
  refine (T1.out _ rf).mono ?_; rintro e w4 ⟨rfl, hb⟩
  have rf := rf.call hb; have rg := rg.call hb; have iX := iX.call hb; have bl := BelowOn bl hb
  go_wp2_with fail
  refine (U1.out _ rf).mono ?_; rintro e w5 ⟨rfl, hb⟩
  have rf := rf.call hb; have rg := rg.call hb; have iX := iX.call hb; have bl := BelowOn bl hb
  go_wp2_with fail
  refine (N1.out _ rf).mono ?_; rintro e w6 ⟨rfl, hb⟩
  have rf := rf.call hb; have rg := rg.call hb; have iX := iX.call hb; have bl := BelowOn bl hb
  go_wp2_with fail
  refine (O1.out _ rf).mono ?_; rintro e w7 ⟨rfl, hb⟩
  have rf := rf.call hb; have rg := rg.call hb; have iX := iX.call hb; have bl := BelowOn bl hb
  go_wp2_with fail
  refine (T3.out _ _ _ iX a3 b3).mono ?_; rintro e w8 ⟨rfl, hb⟩
  have rf := rf.call hb; have rg := rg.call hb; have iX := iX.call hb; have bl := BelowOn bl hb
  go_wp2_with fail
  refine (T1.out _ rf).mono ?_; rintro e w9 ⟨rfl, hb⟩
  have rf := rf.call hb; have rg := rg.call hb; have iX := iX.call hb; have bl := BelowOn bl hb
  go_wp2_with fail
  refine (T2.out _ rg).mono ?_; rintro e w10 ⟨rfl, hb⟩
  have rf := rf.call hb; have rg := rg.call hb; have iX := iX.call hb; have bl := BelowOn bl hb
  go_wp2_with fail
  refine (N3.out _ _ _ iX a3 b3).mono ?_; rintro e w11 ⟨rfl, hb⟩
  have rf := rf.call hb; have rg := rg.call hb; have iX := iX.call hb; have bl := BelowOn bl hb
  go_wp2_with fail
  refine (N1.out _ rf).mono ?_; rintro e w12 ⟨rfl, hb⟩
  have rf := rf.call hb; have rg := rg.call hb; have iX := iX.call hb; have bl := BelowOn bl hb
  go_wp2_with fail
  refine (N2.out _ rg).mono ?_; rintro e w13 ⟨rfl, hb⟩
  have rf := rf.call hb; have rg := rg.call hb; have iX := iX.call hb; have bl := BelowOn bl hb
  go_wp2_with fail
  refine (known_any _).mono ?_; rintro e w14 ⟨rfl, hb⟩
  have rf := rf.call hb; have rg := rg.call hb; have iX := iX.call hb; have bl := BelowOn bl hb
  go_wp2_with fail
  go_ret
  exact ⟨rfl, bl⟩
end Go.Proofs.Ytinkejbdlfjjbaa
namespace Go.Proofs.Ytinkejbdlfjjbaa.tokenRoundTrips
open Go.ChangeShapes Go.WideShapes Go.ChangeAt Go.RowKit
open Go.ChangeMaps (open_string shut_string)
set_option linter.unusedVariables false
set_option maxRecDepth 100000

theorem own : ownKnob Try.prog.godebug = none := by kernel_rfl
theorem laidOut : laidOutB Try.prog = true := by kernel_rfl


set_option maxHeartbeats 1600000 in
theorem walk (p0 : Option Addr) (c0 : Nat) (a0 : List Int) (a1 : ByteArray) (w : World) (r0 : Ones w (Value.int .i64) p0 a0) (o0 : ∀ i (h : i < a0.length), (Lit.int .i64 (a0[i]'h)).wf = true) (n0 : a0.length ≤ c0) (m0 : c0 ≤ maxLen) (w1 : a1.size ≤ 140737488355328) :
    Calls Try.prog 5 #[.slice p0 a0.length c0, .string a1] w fun e w' => e = .returned (.bool true) ∧ Below w.heap.size w w' := by
  exact trips_law p0 c0 a0 a1 w r0 o0 n0 m0 w1

theorem lifted (os : Os) (started : os.Started) (H : Type) (enc : TypeId × Value → H) :
    ReturnsInHanded {} Try.checked os 5 .any (Rows.tokenRoundTripsSpec.pre6 enc Try.prog Try.f5 Rows.tokenRoundTripsRow.domain false) (Rows.tokenRoundTripsSpec.post enc Try.prog Try.f5 false true false false) := by
  refine returnsInHanded_of_change_sized (C := Try.checked) own started (by kernel_rfl) Try.func5
    (ChangeSpec.witness6 (enc := enc) (C := Try.checked) false ⟨#[], #[.slice none 0 0, .string ByteArray.empty], []⟩ 8 (by kernel_rfl) (by kernel_rfl) (by kernel_rfl) (by kernel_rfl)) ?_
  intro W base args ds gs before hval0 hW hcnd hsz0 _
  have hval : ∀ (j : Nat) t v, Try.f5.params[j]? = some t → args[j]? = some v → Value.okWide Try.prog W .any base t v := hval0
  have hW' := hW
  have hlt : ∀ x ∈ before, x.block < W.heap.size := fun x hx => hW'.lt x hx
  obtain ⟨p, q, hA0, hV, rfl, hfz, hnd⟩ := hW
  have hA : DataW.TrodAll enc Try.prog W 0 (fun _ => true) true Try.f5.params.toList args.toList ds p := hA0
  rw [Try.params5] at hA hval hsz0
  obtain ⟨v0, vs0, d0, ds0, p0, q0, hargs, rfl, rfl, h0, r0⟩ := trodAll_cons hA
  obtain ⟨v1, vs1, d1, ds1, p1, q1, rfl, rfl, rfl, h1, r1⟩ := trodAll_cons r0
  obtain ⟨rfl, rfl, rfl⟩ := trodAll_nil r1
  obtain rfl : args = #[v0, v1] := by cases args; simp_all
  obtain ⟨rfl, rfl⟩ := trodVars_none hV
  have hsz := hsz0; clear hsz0
  obtain ⟨pp0, c0, a0, rfl, n0, m0, y0, o0⟩ := opened_ints (okBase (hval 0 23 v0 rfl rfl)) h0
  have z1 : ∀ n ∈ DataW.weights Try.prog 9 d1, n ≤ reachBytes := (fun n hn => by simpa using List.all_eq_true.1 hsz n (DataW.weights_mem_each (j := 1) rfl rfl n hn))
  obtain ⟨a1, rfl, e1, -, -⟩ := open_string Try.underlying9 (hval 1 9 v1 rfl rfl) h1
  have w1 : a1.size ≤ 140737488355328 := str_le e1 z1
  clear hA0 hval0
  refine (walk pp0 c0 a0 a1 W y0 o0 n0 m0 w1).mono fun e W' ⟨he, bel⟩ => ?_
  subst he
  exact ⟨_, rfl, _, _, _, [], _, [], hW', trodAll_mk1 (shut_bool Try.underlying4 _), (trodAll_cons_mk (Below.trod laidOut (by kernel_rfl) (of_decide_eq_true (by kernel_rfl)) h0 bel (fun x hx => hlt x (by simp [hx]))) (trodAll_cons_mk (Below.trod laidOut (by kernel_rfl) (of_decide_eq_true (by kernel_rfl)) h1 bel (fun x hx => hlt x (by simp [hx]))) trodAll_mk0)), rfl, bel.frame _, fun h => by cases h⟩

theorem over : Rows.tokenRoundTripsRow.holds Try.pinned (OpenSpec.ofChange Rows.tokenRoundTripsSpec) :=
  OpenClaim.holds_of_wide 5 Try.f5 rfl rfl rfl rfl rfl rfl rfl ⟨rfl, rfl, rfl, rfl, rfl⟩ rfl rfl rfl rfl rfl (by kernel_rfl) Try.func5 (by kernel_rfl)
    (of_decide_eq_true (by kernel_rfl)) (by unfold Func.isWrapper; first | (rw [if_pos (by decide +kernel)]; kernel_rfl) | (rw [if_neg (by decide +kernel)]; exact ⟨rfl, rfl⟩))
    (fun os started H enc _ => lifted os started H enc)

theorem proved : Rows.TokenRoundTripsSaid := over
#print axioms proved
end Go.Proofs.Ytinkejbdlfjjbaa.tokenRoundTrips
