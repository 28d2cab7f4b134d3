/- Items and fragments among the arguments, read at whatever bases. The walk of ResourceDecodes. The law ResourceDecodes holds for every input. -/
import Derived.Test.YtdbbjhbkhimbfaaDoorArg
import Derived.Test.YtdbbjhbkhimbfaaDoorRtU
import Derived.Test.YtdbbjhbkhimbfaaDoorRtV
import Derived.Test.YtdbbjhbkhimbfaaDoorSam
import Derived.Test.YtdbbjhbkhimbfaaDoorPrt
import Derived.Test.YtdbbjhbkhimbfaaDoorRows
import Derived.WalkKit
import Derived.ProofKit
import Derived.OpenShut
import Derived.ChangeOld
import Derived.Below
import Derived.Carry
import Derived.SizedLaws
import Derived.Test.YtdbbjhbkhimbfaaDoorCards
import Derived.Test.YtdbbjhbkhimbfaaDoorTie
import Derived.Stop.Joined
import Derived.SevenTiedAt
import Derived.Lay
import Derived.MakeChecks
import Derived.Test.YtdbbjhbkhimbfaaDoorRtD
namespace Go.Proofs.YtdbbjhbkhimbfaaDoor
open Go.ChangeShapes Go.WideShapes Go.ChangeAt Go.RowKit
set_option linter.unusedVariables false
set_option maxRecDepth 100000
section
variable {H : Type} {enc : TypeId × Value → H} {W : World} {base : Nat} {sp : Nat → Bool} {held : Bool}
theorem opened_x {v : Value} {d : DataW H} {p : List MemPlace} {b0 : Nat} (hv : Value.okWide Tryd.prog W .any b0 58 v) (h : DataW.Trod enc Tryd.prog W base sp held 58 v d p) (hz : ∀ n ∈ DataW.weights Tryd.prog 58 d, n ≤ reachBytes) : ∃ y : It, y.ok ∧ v = y.v := by
  obtain ⟨fuel, hf⟩ := h
  obtain ⟨y, hk, hi, hc, hd⟩ := read_item hf
  refine ⟨y, ⟨hk, text_le hd hz, hi⟩, ?_⟩
  obtain ⟨cs, rfl, _, _⟩ := hv
  have hc' : cs.toList = [Value.int IntKind.i64 y.k, Value.string y.t, Value.int IntKind.i64 y.id] := by simpa [Value.cells] using hc
  unfold It.v
  congr 1
  apply Array.ext'
  simpa using hc'
theorem opened_f {v : Value} {d : DataW H} {p : List MemPlace} {b0 : Nat} (hv : Value.okWide Tryd.prog W .any b0 29 v) (h : DataW.Trod enc Tryd.prog W base (fun _ => true) held 29 v d p) (hz : ∀ n ∈ DataW.weights Tryd.prog 29 d, n ≤ reachBytes) :
    ∃ (p : Option Addr) (cap : Nat) (l : List It), v = .slice p l.length cap ∧ l.length ≤ cap ∧ cap ≤ maxLen ∧ Its W p l ∧ Oks l := by
  obtain ⟨a0, len, cap, rfl⟩ := okWide_slice Tryd.underlying29 hv
  obtain ⟨fuel, hf⟩ := h
  rcases Go.Deep.open_slice Tryd.underlying29 hf with ⟨hcs, _⟩ | ⟨a, len', cap', m, n, D, Pl, hcs, _, hl, hm, hmm, hd, hx⟩
  · simp [Value.cells] at hcs
    obtain ⟨rfl, rfl, rfl⟩ := hcs
    exact ⟨none, 0, [], rfl, Nat.le_refl _, Nat.zero_le _, Its.nil _ _, fun i hi => by cases hi⟩
  · simp [Value.cells] at hcs
    obtain ⟨rfl, rfl, rfl⟩ := hcs
    have hlm : len ≤ m := by rw [hmm]; simp; exact hl
    have hd' : d = .slice ((List.range len).map D) ((List.range (m - len)).map fun j => D (len + j)) := by simpa using congrArg Prod.fst hd
    have each : ∀ i, ∃ y : It, i < len → y.ok ∧ W.cell? (a.add (i * 3)) = some (.int .i64 y.k) ∧ W.cell? (a.add (i * 3 + 1)) = some (.string y.t) ∧ W.cell? (a.add (i * 3 + 2)) = some (.int .i64 y.id) := fun i => by
      by_cases hi : i < len
      · obtain ⟨cs', h1, h2⟩ := hx i (by omega)
        obtain ⟨y, hk, hid, rfl, hdi⟩ := read_item h2
        have hz' : ∀ n ∈ DataW.weights Tryd.prog 58 (D i), n ≤ reachBytes := fun n hn => hz n (by
          rw [hd', DataW.weights, Tryd.underlying29]
          exact List.mem_cons_of_mem _ (List.mem_append_left _ (weights_all (List.mem_map.2 ⟨i, by simpa using hi, rfl⟩) hn)))
        rw [cells26] at h1
        obtain ⟨_, _, hcell⟩ := World.cells?_some h1
        have e0 := hcell 0 (by omega)
        have e1 := hcell 1 (by omega)
        have e2 := hcell 2 (by omega)
        rw [Go.Deep.add_add] at e0 e1 e2
        exact ⟨y, fun _ => ⟨⟨hk, text_le hdi hz', hid⟩, by simpa using e0, by simpa using e1, by simpa using e2⟩⟩
      · exact ⟨⟨0, .empty, 0⟩, fun h => absurd h hi⟩
    obtain ⟨f, hf⟩ := Classical.axiomOfChoice each
    refine ⟨some a, cap, (List.range len).map f, by simp, by simpa using hl, hm, fun h0 => ⟨a, rfl, ?_, fun i hi => ?_⟩, fun i hi => ?_⟩
    · have := World.block_lt_of_cell? W _ (hf 0 (by simpa using h0)).2.1
      simpa [add_block] using this
    · have hi' : i < len := by simpa using hi
      simpa using (hf i hi').2
    · have hi' : i < len := by simpa using hi
      simpa using (hf i hi').1
end
end Go.Proofs.YtdbbjhbkhimbfaaDoor
namespace Go.Proofs.YtdbbjhbkhimbfaaDoor
open Go.ChangeShapes Go.WideShapes Go.ChangeAt Go.RowKit
set_option linter.unusedVariables false
set_option linter.unusedSimpArgs false
set_option maxRecDepth 100000

theorem gidx0 (W : World) (a b c : ByteArray) : Sem.run Tryd.prog (Instr.index 40 (.agg #[.string a, .string b, .string c]) (.int .i64 0)) W = .ok (.string a) W := by kernel_rfl
theorem gidx1 (W : World) (a b c : ByteArray) : Sem.run Tryd.prog (Instr.index 40 (.agg #[.string a, .string b, .string c]) (.int .i64 1)) W = .ok (.string b) W := by kernel_rfl
theorem gidx2 (W : World) (a b c : ByteArray) : Sem.run Tryd.prog (Instr.index 40 (.agg #[.string a, .string b, .string c]) (.int .i64 2)) W = .ok (.string c) W := by kernel_rfl
theorem gboth (u : ByteArray) (h : u.size ≤ 1000000000000) : ∃ (L : List It) (cs : List Nat) (q : Nat) (er : Int), Hid (∀ W, Calls Tryd.prog 15 #[.string u] W (EndD (L, cs, q, er) W)) ∧ Hid (∀ W, Calls Tryd.prog 16 #[.string u] W (EndC cs er W)) ∧ Hid (∀ W, Calls Tryd.prog 20 #[.int .i64 2, .string u] W (EndR7 (L, cs, q, er) W)) :=
  ⟨(dec elR u.data.toList).1, (dec elR u.data.toList).2.1, (dec elR u.data.toList).2.2.1, (dec elR u.data.toList).2.2.2, Lib.hid fun W => decode_any u W h, Lib.hid fun W => cuts_any u W h, Lib.hid fun W => refdecode_any u W h⟩
set_option maxHeartbeats 12800000 in
theorem decodes_any (a0 : ByteArray) (p1 : Option Addr) (c1 : Nat) (a1 : List Int) (p2 : Option Addr) (c2 : Nat) (a2 : List Int) (a3 : Int) (a4 : Int) (w : World) (w0 : a0.size ≤ 140737488355328) (r1 : Ones w (Value.int .i64) p1 a1) (o1 : ∀ i (h : i < a1.length), (Lit.int .i64 (a1[i]'h)).wf = true) (n1 : a1.length ≤ c1) (m1 : c1 ≤ maxLen)
    (r2 : Ones w (Value.int .i64) p2 a2) (o2 : ∀ i (h : i < a2.length), (Lit.int .i64 (a2[i]'h)).wf = true) (n2 : a2.length ≤ c2) (m2 : c2 ≤ maxLen) (w3 : (Lit.int .i64 a3).wf = true) (w4 : (Lit.int .u8 a4).wf = true) :
    Calls Tryd.prog 4 #[.string a0, .slice p1 a1.length c1, .slice p2 a2.length c2, .int .i64 a3, .int .u8 a4] w fun e w' => e = .returned (.bool true) ∧ Below w.heap.size w w' := by
  have HK := Lib.hid known_any
  by_cases l0 : a0.size ≤ 300
  case neg =>
    have z0 : 300 < a0.size := by omega
    clear r1 o1 r2 o2 w3 w4 l0
    go_enter Tryd.func4, Tryd.ntmps4
    go_wp2_with fail
    refine (HK.out _).mono ?_; rintro e w1 ⟨rfl, hb⟩
    go_wp2_with fail
    go_ret
    exact ⟨rfl, hb⟩
  by_cases l1 : a1.length ≤ 80
  case neg =>
    have z1 : 80 < a1.length := by omega
    have q0 : decide (300 < a0.size) = false := decide_eq_false (by omega)
    clear r1 o1 r2 o2 w3 w4 l1
    go_enter Tryd.func4, Tryd.ntmps4
    go_wp2_with fail
    refine (HK.out _).mono ?_; rintro e w1 ⟨rfl, hb⟩
    go_wp2_with fail
    go_ret
    exact ⟨rfl, hb⟩
  by_cases l2 : a2.length ≤ 200
  case neg =>
    have z2 : 200 < a2.length := by omega
    have q0 : decide (300 < a0.size) = false := decide_eq_false (by omega)
    have q1 : decide (80 < a1.length) = false := decide_eq_false (by omega)
    clear r1 o1 r2 o2 w3 w4 l2
    go_enter Tryd.func4, Tryd.ntmps4
    go_wp2_with fail
    refine (HK.out _).mono ?_; rintro e w1 ⟨rfl, hb⟩
    go_wp2_with fail
    go_ret
    exact ⟨rfl, hb⟩
  have q0 : decide (300 < a0.size) = false := decide_eq_false (by omega)
  have q1 : decide (80 < a1.length) = false := decide_eq_false (by omega)
  have q2 : decide (200 < a2.length) = false := decide_eq_false (by omega)
  have RW := Lib.hid (raws_any p1 c1 a1 p2 c2 a2 w r1 o1 n1 m1 r2 o2 n2 m2)
  have hle := (valE_zero ((mk_ok a1 false true).valid (by decide))).2.1
  unfold EndRaw at RW
  generalize mk a1 false true = F at *
  have hch := fun T W (h : ByteArray.size T ≤ 1000000000000) => changed_any T a3 a4 W h w3 w4
  have HCH := Lib.hid hch
  obtain ⟨LA, cA, qA, eA, PA, CA, RA⟩ := gboth a0 (by omega)
  clear hch w3 w4 r1 o1 r2 o2 w0
  go_enter Tryd.func4, Tryd.ntmps4
  go_wp2_with fail
  refine RW.out.mono ?_; rintro e w5 ⟨raw, p, c, rfl, -, hrl, -, -, -, hb⟩
  have hTz : (bsL raw).size ≤ 1000000000000 := by rw [bsL_size]; omega
  generalize bsL raw = T at *
  have bl := hb; clear hb hrl
  obtain ⟨LB, cB, qB, eB, PB, CB, RB⟩ := gboth T hTz
  go_wp2_with fail
  refine (HCH.out T _ hTz).mono ?_; rintro e w6 ⟨V, rfl, hVz, hb⟩
  have bl := BelowOn bl hb; clear hb
  obtain ⟨LC, cC, qC, eC, PC, CC, RC⟩ := gboth V (by omega)
  clear hTz hVz
  have ix0 := fun W => gidx0 W a0 T V
  have ix1 := fun W => gidx1 W a0 T V
  have ix2 := fun W => gidx2 W a0 T V
  unfold EndD at PA PB PC
  unfold EndC at CA CB CC
  unfold EndR7 at RA RB RC
  dsimp only at PA PB PC CA CB CC RA RB RC
  go_wp2_with fail
  go_loopw [51] (fun i wr => ∃ k : Nat, k ≤ 3 ∧ i = .int .i64 k ∧ Below w.heap.size w wr) (fun i _ => 3 - (intOf i).toNat)
  case atStart => exact ⟨0, by omega, rfl, bl⟩
  case round =>
    obtain ⟨k, hk, rfl, hB⟩ := hrel
    clear bl
    have hk4 : k = 0 ∨ k = 1 ∨ k = 2 ∨ k = 3 := by omega
    rcases hk4 with rfl | rfl | rfl | rfl
    · have ls := fun p q c d W (i : Its W p LA) (j : Its W q LA) (hc : LA.length ≤ c) (hd : LA.length ≤ d) (hcm : c ≤ maxLen) (hdm : d ≤ maxLen) => rsame_any p q c d LA LA W i j hc hd hcm hdm
      rw [decide_eq_true (rfl : LA = LA)] at ls
      have lc := fun p q c d W (i : Ones W (Value.int .i64) p (nI cA)) (j : Ones W (Value.int .i64) q (nI cA)) (hc : (nI cA).length ≤ c) (hd : (nI cA).length ≤ d) (hcm : c ≤ maxLen) (hdm : d ≤ maxLen) => sameints_any p q c d (nI cA) (nI cA) W i j hc hd hcm hdm
      rw [decide_eq_true (rfl : nI cA = nI cA)] at lc
      have hnl : (nI cA).length = cA.length := nI_len cA
      rw [← hnl] at RA
      have LS := Lib.hid ls; have LC' := Lib.hid lc; clear ls lc hnl
      generalize nI cA = M at *
      have s2 : ((qA : Int) != (qA : Int)) = false := by simp
      have s3 : (eA != eA) = false := by simp
      go_wp2_with fail
      refine (PA.out _).mono ?_; rintro e w7 ⟨p3, c3, rfl, a4, b4, i4, hb⟩
      have bl := BelowOn hB hb; clear hb
      go_wp2_with fail
      refine (CA.out _).mono ?_; rintro e w8 ⟨p5, c5, rfl, a5, b5, i5, hb⟩
      have i4 := i4.call hb; have bl := BelowOn bl hb; clear hb
      go_wp2_with fail
      refine (RA.out _).mono ?_; rintro e w9 ⟨p6, c6, p7, c7, rfl, a6, b6, i6, a7, b7, i7, hb⟩
      have i4 := i4.call hb; have i5 := i5.call hb; have bl := BelowOn bl hb; clear hb
      go_wp2_with fail
      refine (LS.out _ _ _ _ _ i4 i6 a4 a6 b4 b6).mono ?_; rintro e w10 ⟨rfl, hb⟩
      have i5 := i5.call hb; have i7 := i7.call hb; have bl := BelowOn bl hb; clear hb i4 i6
      go_wp2_with fail
      refine (LC'.out _ _ _ _ _ i5 i7 a5 a7 b5 b7).mono ?_; rintro e w11 ⟨rfl, hb⟩
      have bl := BelowOn bl hb; clear hb i5 i7
      go_wp2_with fail
      go_roundw
      case rel => exact ⟨1, by omega, by go_num, bl⟩
      case measure => simp [intOf]
    · have ls := fun p q c d W (i : Its W p LB) (j : Its W q LB) (hc : LB.length ≤ c) (hd : LB.length ≤ d) (hcm : c ≤ maxLen) (hdm : d ≤ maxLen) => rsame_any p q c d LB LB W i j hc hd hcm hdm
      rw [decide_eq_true (rfl : LB = LB)] at ls
      have lc := fun p q c d W (i : Ones W (Value.int .i64) p (nI cB)) (j : Ones W (Value.int .i64) q (nI cB)) (hc : (nI cB).length ≤ c) (hd : (nI cB).length ≤ d) (hcm : c ≤ maxLen) (hdm : d ≤ maxLen) => sameints_any p q c d (nI cB) (nI cB) W i j hc hd hcm hdm
      rw [decide_eq_true (rfl : nI cB = nI cB)] at lc
      have hnl : (nI cB).length = cB.length := nI_len cB
      rw [← hnl] at RB
      have LS := Lib.hid ls; have LC' := Lib.hid lc; clear ls lc hnl
      generalize nI cB = M at *
      have s2 : ((qB : Int) != (qB : Int)) = false := by simp
      have s3 : (eB != eB) = false := by simp
      go_wp2_with fail
      refine (PB.out _).mono ?_; rintro e w7 ⟨p3, c3, rfl, a4, b4, i4, hb⟩
      have bl := BelowOn hB hb; clear hb
      go_wp2_with fail
      refine (CB.out _).mono ?_; rintro e w8 ⟨p5, c5, rfl, a5, b5, i5, hb⟩
      have i4 := i4.call hb; have bl := BelowOn bl hb; clear hb
      go_wp2_with fail
      refine (RB.out _).mono ?_; rintro e w9 ⟨p6, c6, p7, c7, rfl, a6, b6, i6, a7, b7, i7, hb⟩
      have i4 := i4.call hb; have i5 := i5.call hb; have bl := BelowOn bl hb; clear hb
      go_wp2_with fail
      refine (LS.out _ _ _ _ _ i4 i6 a4 a6 b4 b6).mono ?_; rintro e w10 ⟨rfl, hb⟩
      have i5 := i5.call hb; have i7 := i7.call hb; have bl := BelowOn bl hb; clear hb i4 i6
      go_wp2_with fail
      refine (LC'.out _ _ _ _ _ i5 i7 a5 a7 b5 b7).mono ?_; rintro e w11 ⟨rfl, hb⟩
      have bl := BelowOn bl hb; clear hb i5 i7
      go_wp2_with fail
      go_roundw
      case rel => exact ⟨2, by omega, by go_num, bl⟩
      case measure => simp [intOf]
    · have ls := fun p q c d W (i : Its W p LC) (j : Its W q LC) (hc : LC.length ≤ c) (hd : LC.length ≤ d) (hcm : c ≤ maxLen) (hdm : d ≤ maxLen) => rsame_any p q c d LC LC W i j hc hd hcm hdm
      rw [decide_eq_true (rfl : LC = LC)] at ls
      have lc := fun p q c d W (i : Ones W (Value.int .i64) p (nI cC)) (j : Ones W (Value.int .i64) q (nI cC)) (hc : (nI cC).length ≤ c) (hd : (nI cC).length ≤ d) (hcm : c ≤ maxLen) (hdm : d ≤ maxLen) => sameints_any p q c d (nI cC) (nI cC) W i j hc hd hcm hdm
      rw [decide_eq_true (rfl : nI cC = nI cC)] at lc
      have hnl : (nI cC).length = cC.length := nI_len cC
      rw [← hnl] at RC
      have LS := Lib.hid ls; have LC' := Lib.hid lc; clear ls lc hnl
      generalize nI cC = M at *
      have s2 : ((qC : Int) != (qC : Int)) = false := by simp
      have s3 : (eC != eC) = false := by simp
      go_wp2_with fail
      refine (PC.out _).mono ?_; rintro e w7 ⟨p3, c3, rfl, a4, b4, i4, hb⟩
      have bl := BelowOn hB hb; clear hb
      go_wp2_with fail
      refine (CC.out _).mono ?_; rintro e w8 ⟨p5, c5, rfl, a5, b5, i5, hb⟩
      have i4 := i4.call hb; have bl := BelowOn bl hb; clear hb
      go_wp2_with fail
      refine (RC.out _).mono ?_; rintro e w9 ⟨p6, c6, p7, c7, rfl, a6, b6, i6, a7, b7, i7, hb⟩
      have i4 := i4.call hb; have i5 := i5.call hb; have bl := BelowOn bl hb; clear hb
      go_wp2_with fail
      refine (LS.out _ _ _ _ _ i4 i6 a4 a6 b4 b6).mono ?_; rintro e w10 ⟨rfl, hb⟩
      have i5 := i5.call hb; have i7 := i7.call hb; have bl := BelowOn bl hb; clear hb i4 i6
      go_wp2_with fail
      refine (LC'.out _ _ _ _ _ i5 i7 a5 a7 b5 b7).mono ?_; rintro e w11 ⟨rfl, hb⟩
      have bl := BelowOn bl hb; clear hb i5 i7
      go_wp2_with fail
      go_roundw
      case rel => exact ⟨3, by omega, by go_num, bl⟩
      case measure => simp [intOf]
    · go_wp2_with fail
      refine (HK.out _).mono ?_; rintro e w7 ⟨rfl, hb⟩
      have bl := BelowOn hB hb; clear hb
      go_wp2_with fail
      go_ret
      exact ⟨rfl, bl⟩
end Go.Proofs.YtdbbjhbkhimbfaaDoor
namespace Go.Proofs.YtdbbjhbkhimbfaaDoor.resourceDecodes
open Go.ChangeShapes Go.WideShapes Go.ChangeAt Go.RowKit
open Go.ChangeMaps (open_string shut_string)
set_option linter.unusedVariables false
set_option maxRecDepth 100000

theorem own : ownKnob Tryd.prog.godebug = none := by kernel_rfl
theorem laidOut : laidOutB Tryd.prog = true := by kernel_rfl


set_option maxHeartbeats 1600000 in
theorem walk (a0 : ByteArray) (p1 : Option Addr) (c1 : Nat) (a1 : List Int) (p2 : Option Addr) (c2 : Nat) (a2 : List Int) (a3 : Int) (a4 : Int) (w : World) (w0 : a0.size ≤ 140737488355328) (r1 : Ones w (Value.int .i64) p1 a1) (o1 : ∀ i (h : i < a1.length), (Lit.int .i64 (a1[i]'h)).wf = true) (n1 : a1.length ≤ c1) (m1 : c1 ≤ maxLen) (r2 : Ones w (Value.int .i64) p2 a2) (o2 : ∀ i (h : i < a2.length), (Lit.int .i64 (a2[i]'h)).wf = true) (n2 : a2.length ≤ c2) (m2 : c2 ≤ maxLen) (w3 : (Lit.int .i64 a3).wf = true) (w4 : (Lit.int .u8 a4).wf = true) :
    Calls Tryd.prog 4 #[.string a0, .slice p1 a1.length c1, .slice p2 a2.length c2, .int .i64 a3, .int .u8 a4] w fun e w' => e = .returned (.bool true) ∧ Below w.heap.size w w' := by
  exact decodes_any a0 p1 c1 a1 p2 c2 a2 a3 a4 w w0 r1 o1 n1 m1 r2 o2 n2 m2 w3 w4

theorem lifted (os : Os) (started : os.Started) (H : Type) (enc : TypeId × Value → H) :
    ReturnsInHanded {} Tryd.checked os 4 .any (fun w args => (Rows.resourceDecodesSpec.pre enc Tryd.prog Tryd.f4 Rows.resourceDecodesRow.domain false w args ∧ laidMetH Tryd.prog Rows.resourceDecodesRow.laid w) ∧ sizedMet enc Tryd.prog Tryd.f4 (OpenSpec.ofChange Rows.resourceDecodesSpec) false w args)
      (Rows.resourceDecodesSpec.post enc Tryd.prog Tryd.f4 false true false false) := by
  refine returnsInHanded_of_change_and (C := Tryd.checked) (X := fun w _ => laidMetH Tryd.prog Rows.resourceDecodesRow.laid w) (fun _ _ _ hh h => h.of_heap hh) own started (by kernel_rfl) Tryd.func4
    (ChangeSpec.witness_shaped (enc := enc) (C := Tryd.checked) (os := os) (X := fun w _ => laidMetH Tryd.prog Rows.resourceDecodesRow.laid w) false (World.laidAll Tryd.prog os Rows.resourceDecodesRow.laid) #[.string ByteArray.empty, .slice none 0 0, .slice none 0 0, .int .i64 0, .int .u8 0] 8 (World.laidAll_os _ _ _) (World.shaped_of_ZipB (by kernel_rfl) (by kernel_rfl)) (by kernel_rfl) (by kernel_rfl) (by kernel_rfl) (by rw [MakeChecks.laidMetH_plain _ _ _ (by kernel_rfl)]; exact laidMet_laidAll _ (by kernel_rfl) (by kernel_rfl))) ?_
  intro W base args ds gs before hval0 hW hcnd hsz0 hL _
  have hval : ∀ (j : Nat) t v, Tryd.f4.params[j]? = some t → args[j]? = some v → Value.okWide Tryd.prog W .any base t v := hval0
  have hW' := hW
  have hlt : ∀ x ∈ before, x.block < W.heap.size := fun x hx => hW'.lt x hx
  obtain ⟨p, q, hA0, hV, rfl, hfz, hnd⟩ := hW
  have hA : DataW.TrodAll enc Tryd.prog W 0 (fun _ => true) true Tryd.f4.params.toList args.toList ds p := hA0
  rw [Tryd.params4] at hA hval hsz0
  obtain ⟨v0, vs0, d0, ds0, p0, q0, hargs, rfl, rfl, h0, r0⟩ := trodAll_cons hA
  obtain ⟨v1, vs1, d1, ds1, p1, q1, rfl, rfl, rfl, h1, r1⟩ := trodAll_cons r0
  obtain ⟨v2, vs2, d2, ds2, p2, q2, rfl, rfl, rfl, h2, r2⟩ := trodAll_cons r1
  obtain ⟨v3, vs3, d3, ds3, p3, q3, rfl, rfl, rfl, h3, r3⟩ := trodAll_cons r2
  obtain ⟨v4, vs4, d4, ds4, p4, q4, rfl, rfl, rfl, h4, r4⟩ := trodAll_cons r3
  obtain ⟨rfl, rfl, rfl⟩ := trodAll_nil r4
  obtain rfl : args = #[v0, v1, v2, v3, v4] := by cases args; simp_all
  obtain ⟨rfl, rfl⟩ := trodVars_none hV
  have hsz := hsz0; clear hsz0
  have z0 : ∀ n ∈ DataW.weights Tryd.prog 9 d0, n ≤ reachBytes := (fun n hn => by simpa using List.all_eq_true.1 hsz n (DataW.weights_mem_each (j := 0) rfl rfl n hn))
  obtain ⟨a0, rfl, e0, -, -⟩ := open_string Tryd.underlying9 (hval 0 9 v0 rfl rfl) h0
  have w0 : a0.size ≤ 140737488355328 := str_le e0 z0
  obtain ⟨pp1, c1, a1, rfl, n1, m1, y1, o1⟩ := opened_ints (okBase (hval 1 32 v1 rfl rfl)) h1
  obtain ⟨pp2, c2, a2, rfl, n2, m2, y2, o2⟩ := opened_ints (okBase (hval 2 32 v2 rfl rfl)) h2
  obtain ⟨a3, rfl, -, -, w3⟩ := open_int Tryd.underlying3 (hval 3 3 v3 rfl rfl) h3
  obtain ⟨a4, rfl, -, -, w4⟩ := open_int Tryd.underlying5 (hval 4 5 v4 rfl rfl) h4
  clear hA0 hval0
  refine (walk a0 pp1 c1 a1 pp2 c2 a2 a3 a4 W w0 y1 o1 n1 m1 y2 o2 n2 m2 w3 w4).mono fun e W' ⟨he, bel⟩ => ?_
  subst he
  exact ⟨_, rfl, _, _, _, [], _, [], hW', trodAll_mk1 (shut_bool Tryd.underlying4 _), (trodAll_cons_mk (Below.trod laidOut (by kernel_rfl) (of_decide_eq_true (by kernel_rfl)) h0 bel (fun x hx => hlt x (by simp [hx]))) (trodAll_cons_mk (Below.trod laidOut (by kernel_rfl) (of_decide_eq_true (by kernel_rfl)) h1 bel (fun x hx => hlt x (by simp [hx]))) (trodAll_cons_mk (Below.trod laidOut (by kernel_rfl) (of_decide_eq_true (by kernel_rfl)) h2 bel (fun x hx => hlt x (by simp [hx]))) (trodAll_cons_mk (Below.trod laidOut (by kernel_rfl) (of_decide_eq_true (by kernel_rfl)) h3 bel (fun x hx => hlt x (by simp [hx]))) (trodAll_cons_mk (Below.trod laidOut (by kernel_rfl) (of_decide_eq_true (by kernel_rfl)) h4 bel (fun x hx => hlt x (by simp [hx]))) trodAll_mk0))))), rfl, bel.frame _, fun h => by cases h⟩

theorem over : Rows.ResourceDecodesSaid :=
  OpenClaim.holds_of_wide 4 Tryd.f4 rfl rfl rfl rfl rfl rfl rfl ⟨rfl, rfl, rfl, rfl, rfl⟩ rfl rfl rfl rfl rfl (by kernel_rfl) Tryd.func4 (by kernel_rfl)
    (of_decide_eq_true (by kernel_rfl)) (by unfold Func.isWrapper; first | (rw [if_pos (by decide +kernel)]; kernel_rfl) | (rw [if_neg (by decide +kernel)]; exact ⟨rfl, rfl⟩))
    (fun os started H enc _ => lifted os started H enc)

theorem proved : Rows.ResourceDecodesCardSaid :=
  Claim7.holds_tied_plain_at .later [] [.data, .pinned] true (true, "f09b7db72891a1549fa958fdcd354aacb82e65568e79bfd72673b4b2292d2c87") false
    over (fun _ h => by cases h) (by kernel_rfl) (fun _ h => by cases h) resourceDecodes_row_tie rfl ⟨rfl, rfl⟩ (by kernel_rfl) rfl
    (fun f fn hf hfn => by
      obtain rfl : f = 4 := Option.some.inj ((show Tryd.prog.funcNamed "bitext/bitextlaw8.ResourceDecodes" = some 4 by kernel_rfl).symm.trans hf) |>.symm
      obtain rfl : fn = Tryd.f4 := (Option.some.inj (Tryd.func4.symm.trans hfn)).symm
      exact ⟨by kernel_rfl, fun j t ht => by
        rw [Tryd.params4] at ht
        have hm : t ∈ [9, 32, 32, 3, 5] := by simpa using Array.mem_of_getElem? ht
        have hall : ([9, 32, 32, 3, 5].all fun u => !Tryd.prog.wantsStandIn u) = true := by kernel_rfl
        exact (show Tryd.prog.wantsStandIn t = false by simpa using List.all_eq_true.1 hall t hm)⟩)
    (by kernel_rfl)
#print axioms proved
end Go.Proofs.YtdbbjhbkhimbfaaDoor.resourceDecodes
