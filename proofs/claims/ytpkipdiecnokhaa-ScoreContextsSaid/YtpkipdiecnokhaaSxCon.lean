/- Score: the walk of ScoreContexts. Score: the walk of ScoreContexts. The law ScoreContexts holds for every input. -/
import Derived.Test.YtpkipdiecnokhaaDtL
import Derived.Test.YtpkipdiecnokhaaRows
import Derived.WalkKit
import Derived.ProofKit
import Derived.OpenShut
import Derived.ChangeOld
import Derived.Below
import Derived.Carry
import Derived.SizedLaws
import Derived.Test.YtpkipdiecnokhaaTka
namespace Go.Proofs.Ytpkipdiecnokhaa
open Go.ChangeShapes Go.WideShapes Go.ChangeAt Go.RowKit Go.Sort
set_option linter.unusedVariables false
set_option linter.unusedSimpArgs false
set_option maxRecDepth 100000

def ctB (s t : ByteArray) : Bool := !(s.toList.isEmpty) && (s.toList == t.toList)
def ctN (s t : ByteArray) : Nat := if ctB s t = true then 1 else 0
set_option maxHeartbeats 1600000 in
theorem context_any (s t u v : ByteArray) (w : World) :
    Calls Try.prog 25 #[.agg #[.slice none 0 0, .slice none 0 0, .string s, .string t, .string .empty, .string .empty, .int .i64 0, .int .i64 0], .agg #[.slice none 0 0, .string u, .string v, .int .i64 0, .int .i64 0, .int .i64 0]] w fun e w' => e = .returned (.int .i64 ((ctN s u + ctN t v : Nat) : Int)) ∧ Below w.heap.size w w' := by
  have h1 : ∀ W, Calls Try.prog 44 #[.string s, .string u] W fun e w' => e = .returned (.bool (ctB s u)) ∧ W = w' := fun W => samectx_any s u W
  have h2 : ∀ W, Calls Try.prog 44 #[.string t, .string v] W fun e w' => e = .returned (.bool (ctB t v)) ∧ W = w' := fun W => samectx_any t v W
  have H1 := Lib.hid h1; have H2 := Lib.hid h2
  clear h1 h2
  have HN1 := Lib.hid (show ctN s u = if ctB s u = true then 1 else 0 from rfl)
  have HN2 := Lib.hid (show ctN t v = if ctB t v = true then 1 else 0 from rfl)
  generalize ctB s u = B1 at *
  generalize ctB t v = B2 at *
  have hb : Below w.heap.size w ((w.alloc (.cells #[.slice none 0 0, .slice none 0 0, .string s, .string t, .string .empty, .string .empty, .int .i64 0, .int .i64 0] 38)).alloc (.cells #[.slice none 0 0, .string u, .string v, .int .i64 0, .int .i64 0, .int .i64 0] 40)) := blw (blw (Below.refl _ _) _) _
  have HB := Lib.hid hb
  clear hb
  go_enter Try.func25, Try.ntmps25
  go_wp2_with fail
  refine (H1.out _).mono ?_; rintro e w1 ⟨rfl, rfl⟩
  cases B1 with
  | false =>
    go_wp2_with fail
    refine (H2.out _).mono ?_; rintro e w1 ⟨rfl, rfl⟩
    cases B2 with
    | false =>
      go_wp2_with fail
      go_ret
      exact ⟨by rw [HN1.out, HN2.out]; rfl, HB.out⟩
    | true =>
      go_wp2_with fail
      go_ret
      exact ⟨by rw [HN1.out, HN2.out]; rfl, HB.out⟩
  | true =>
    go_wp2_with fail
    refine (H2.out _).mono ?_; rintro e w1 ⟨rfl, rfl⟩
    cases B2 with
    | false =>
      go_wp2_with fail
      go_ret
      exact ⟨by rw [HN1.out, HN2.out]; rfl, HB.out⟩
    | true =>
      go_wp2_with fail
      go_ret
      exact ⟨by rw [HN1.out, HN2.out]; rfl, HB.out⟩
end Go.Proofs.Ytpkipdiecnokhaa
namespace Go.Proofs.Ytpkipdiecnokhaa
open Go.ChangeShapes Go.WideShapes Go.ChangeAt Go.RowKit Go.Sort
set_option linter.unusedVariables false
set_option linter.unusedSimpArgs false
set_option maxRecDepth 100000

set_option maxHeartbeats 12800000 in
theorem contexts_law (a b c d : ByteArray) (same : Int) (w : World) (wa : a.size ≤ 140737488355328) (wb : b.size ≤ 140737488355328) (wc : c.size ≤ 140737488355328) (wd : d.size ≤ 140737488355328) (ws : (Lit.int .i64 same).wf = true) :
    Calls Try.prog 8 #[.string a, .string b, .string c, .string d, .int .i64 same] w fun e w' => e = .returned (.bool true) ∧ Below w.heap.size w w' := by
  have HC := Lib.hid (fun s t u v W => context_any s t u v W)
  by_cases hz : (400 : Int) < (a.size : Int) + (b.size : Int) + (c.size : Int) + (d.size : Int)
  · go_enter Try.func8, Try.ntmps8
    go_wp2_with fail
    refine (sknown_any _).mono ?_; rintro e w1 ⟨rfl, hb⟩
    go_wp2_with fail
    go_ret
    exact ⟨rfl, hb⟩
  go_enter Try.func8, Try.ntmps8
  go_upto_if 29 with (fail)
  generalize (bits BinOp.and IntKind.i64 same 1 == 1) = f1
  cases f1 with
  | true =>
    go_upto_if 33 with (fail)
    generalize (bits BinOp.and IntKind.i64 same 2 == 2) = f2
    cases f2 with
    | true =>
      cases ea : a.toList.isEmpty with
      | true =>
        have na : ctN a a = 0 := by unfold ctN ctB; rw [ea]; rfl
        cases eb : b.toList.isEmpty with
        | true =>
          have nb : ctN b b = 0 := by unfold ctN ctB; rw [eb]; rfl
          have HL := Lib.hid (fun W => HC.out a b a b W)
          rw [na, nb] at HL
          clear na nb HC
          go_wp2_with fail
          refine (HL.out _).mono ?_; rintro e w1 ⟨rfl, hb⟩
          have HB := Lib.hid (BelowOn (blw (blw (Below.refl w.heap.size w) _) _) hb)
          clear hb HL
          go_wp2_with fail
          refine (sknown_any _).mono ?_; rintro e w2 ⟨rfl, hb⟩
          go_wp2_with fail
          go_ret
          exact ⟨rfl, BelowOn HB.out hb⟩
        | false =>
          have nb : ctN b b = 1 := by unfold ctN ctB; rw [eb]; simp
          have HL := Lib.hid (fun W => HC.out a b a b W)
          rw [na, nb] at HL
          clear na nb HC
          go_wp2_with fail
          refine (HL.out _).mono ?_; rintro e w1 ⟨rfl, hb⟩
          have HB := Lib.hid (BelowOn (blw (blw (Below.refl w.heap.size w) _) _) hb)
          clear hb HL
          go_wp2_with fail
          refine (sknown_any _).mono ?_; rintro e w2 ⟨rfl, hb⟩
          go_wp2_with fail
          go_ret
          exact ⟨rfl, BelowOn HB.out hb⟩
      | false =>
        have na : ctN a a = 1 := by unfold ctN ctB; rw [ea]; simp
        cases eb : b.toList.isEmpty with
        | true =>
          have nb : ctN b b = 0 := by unfold ctN ctB; rw [eb]; rfl
          have HL := Lib.hid (fun W => HC.out a b a b W)
          rw [na, nb] at HL
          clear na nb HC
          go_wp2_with fail
          refine (HL.out _).mono ?_; rintro e w1 ⟨rfl, hb⟩
          have HB := Lib.hid (BelowOn (blw (blw (Below.refl w.heap.size w) _) _) hb)
          clear hb HL
          go_wp2_with fail
          refine (sknown_any _).mono ?_; rintro e w2 ⟨rfl, hb⟩
          go_wp2_with fail
          go_ret
          exact ⟨rfl, BelowOn HB.out hb⟩
        | false =>
          have nb : ctN b b = 1 := by unfold ctN ctB; rw [eb]; simp
          have HL := Lib.hid (fun W => HC.out a b a b W)
          rw [na, nb] at HL
          clear na nb HC
          go_wp2_with fail
          refine (HL.out _).mono ?_; rintro e w1 ⟨rfl, hb⟩
          have HB := Lib.hid (BelowOn (blw (blw (Below.refl w.heap.size w) _) _) hb)
          clear hb HL
          go_wp2_with fail
          refine (sknown_any _).mono ?_; rintro e w2 ⟨rfl, hb⟩
          go_wp2_with fail
          go_ret
          exact ⟨rfl, BelowOn HB.out hb⟩
    | false =>
      cases ea : a.toList.isEmpty with
      | true =>
        have na : ctN a a = 0 := by unfold ctN ctB; rw [ea]; rfl
        cases eb : b.toList.isEmpty with
        | true =>
          have nb : ctN b d = 0 := by unfold ctN ctB; rw [eb]; rfl
          have HL := Lib.hid (fun W => HC.out a b a d W)
          rw [na, nb] at HL
          clear na nb HC
          go_wp2_with fail
          refine (HL.out _).mono ?_; rintro e w1 ⟨rfl, hb⟩
          have HB := Lib.hid (BelowOn (blw (blw (Below.refl w.heap.size w) _) _) hb)
          clear hb HL
          go_wp2_with fail
          refine (sknown_any _).mono ?_; rintro e w2 ⟨rfl, hb⟩
          go_wp2_with fail
          go_ret
          exact ⟨rfl, BelowOn HB.out hb⟩
        | false =>
          cases qb : (b.toList == d.toList) with
          | true =>
            have nb : ctN b d = 1 := by unfold ctN ctB; rw [eb, qb]; rfl
            have HL := Lib.hid (fun W => HC.out a b a d W)
            rw [na, nb] at HL
            clear na nb HC
            go_wp2_with fail
            refine (HL.out _).mono ?_; rintro e w1 ⟨rfl, hb⟩
            have HB := Lib.hid (BelowOn (blw (blw (Below.refl w.heap.size w) _) _) hb)
            clear hb HL
            go_wp2_with fail
            refine (sknown_any _).mono ?_; rintro e w2 ⟨rfl, hb⟩
            go_wp2_with fail
            go_ret
            exact ⟨rfl, BelowOn HB.out hb⟩
          | false =>
            have nb : ctN b d = 0 := by unfold ctN ctB; rw [eb, qb]; rfl
            have HL := Lib.hid (fun W => HC.out a b a d W)
            rw [na, nb] at HL
            clear na nb HC
            go_wp2_with fail
            refine (HL.out _).mono ?_; rintro e w1 ⟨rfl, hb⟩
            have HB := Lib.hid (BelowOn (blw (blw (Below.refl w.heap.size w) _) _) hb)
            clear hb HL
            go_wp2_with fail
            refine (sknown_any _).mono ?_; rintro e w2 ⟨rfl, hb⟩
            go_wp2_with fail
            go_ret
            exact ⟨rfl, BelowOn HB.out hb⟩
      | false =>
        have na : ctN a a = 1 := by unfold ctN ctB; rw [ea]; simp
        cases eb : b.toList.isEmpty with
        | true =>
          have nb : ctN b d = 0 := by unfold ctN ctB; rw [eb]; rfl
          have HL := Lib.hid (fun W => HC.out a b a d W)
          rw [na, nb] at HL
          clear na nb HC
          go_wp2_with fail
          refine (HL.out _).mono ?_; rintro e w1 ⟨rfl, hb⟩
          have HB := Lib.hid (BelowOn (blw (blw (Below.refl w.heap.size w) _) _) hb)
          clear hb HL
          go_wp2_with fail
          refine (sknown_any _).mono ?_; rintro e w2 ⟨rfl, hb⟩
          go_wp2_with fail
          go_ret
          exact ⟨rfl, BelowOn HB.out hb⟩
        | false =>
          cases qb : (b.toList == d.toList) with
          | true =>
            have nb : ctN b d = 1 := by unfold ctN ctB; rw [eb, qb]; rfl
            have HL := Lib.hid (fun W => HC.out a b a d W)
            rw [na, nb] at HL
            clear na nb HC
            go_wp2_with fail
            refine (HL.out _).mono ?_; rintro e w1 ⟨rfl, hb⟩
            have HB := Lib.hid (BelowOn (blw (blw (Below.refl w.heap.size w) _) _) hb)
            clear hb HL
            go_wp2_with fail
            refine (sknown_any _).mono ?_; rintro e w2 ⟨rfl, hb⟩
            go_wp2_with fail
            go_ret
            exact ⟨rfl, BelowOn HB.out hb⟩
          | false =>
            have nb : ctN b d = 0 := by unfold ctN ctB; rw [eb, qb]; rfl
            have HL := Lib.hid (fun W => HC.out a b a d W)
            rw [na, nb] at HL
            clear na nb HC
            go_wp2_with fail
            refine (HL.out _).mono ?_; rintro e w1 ⟨rfl, hb⟩
            have HB := Lib.hid (BelowOn (blw (blw (Below.refl w.heap.size w) _) _) hb)
            clear hb HL
            go_wp2_with fail
            refine (sknown_any _).mono ?_; rintro e w2 ⟨rfl, hb⟩
            go_wp2_with fail
            go_ret
            exact ⟨rfl, BelowOn HB.out hb⟩
  | false =>
    go_upto_if 33 with (fail)
    generalize (bits BinOp.and IntKind.i64 same 2 == 2) = f2
    cases f2 with
    | true =>
      cases ea : a.toList.isEmpty with
      | true =>
        have na : ctN a c = 0 := by unfold ctN ctB; rw [ea]; rfl
        cases eb : b.toList.isEmpty with
        | true =>
          have nb : ctN b b = 0 := by unfold ctN ctB; rw [eb]; rfl
          have HL := Lib.hid (fun W => HC.out a b c b W)
          rw [na, nb] at HL
          clear na nb HC
          go_wp2_with fail
          refine (HL.out _).mono ?_; rintro e w1 ⟨rfl, hb⟩
          have HB := Lib.hid (BelowOn (blw (blw (Below.refl w.heap.size w) _) _) hb)
          clear hb HL
          go_wp2_with fail
          refine (sknown_any _).mono ?_; rintro e w2 ⟨rfl, hb⟩
          go_wp2_with fail
          go_ret
          exact ⟨rfl, BelowOn HB.out hb⟩
        | false =>
          have nb : ctN b b = 1 := by unfold ctN ctB; rw [eb]; simp
          have HL := Lib.hid (fun W => HC.out a b c b W)
          rw [na, nb] at HL
          clear na nb HC
          go_wp2_with fail
          refine (HL.out _).mono ?_; rintro e w1 ⟨rfl, hb⟩
          have HB := Lib.hid (BelowOn (blw (blw (Below.refl w.heap.size w) _) _) hb)
          clear hb HL
          go_wp2_with fail
          refine (sknown_any _).mono ?_; rintro e w2 ⟨rfl, hb⟩
          go_wp2_with fail
          go_ret
          exact ⟨rfl, BelowOn HB.out hb⟩
      | false =>
        cases qa : (a.toList == c.toList) with
        | true =>
          have na : ctN a c = 1 := by unfold ctN ctB; rw [ea, qa]; rfl
          cases eb : b.toList.isEmpty with
          | true =>
            have nb : ctN b b = 0 := by unfold ctN ctB; rw [eb]; rfl
            have HL := Lib.hid (fun W => HC.out a b c b W)
            rw [na, nb] at HL
            clear na nb HC
            go_wp2_with fail
            refine (HL.out _).mono ?_; rintro e w1 ⟨rfl, hb⟩
            have HB := Lib.hid (BelowOn (blw (blw (Below.refl w.heap.size w) _) _) hb)
            clear hb HL
            go_wp2_with fail
            refine (sknown_any _).mono ?_; rintro e w2 ⟨rfl, hb⟩
            go_wp2_with fail
            go_ret
            exact ⟨rfl, BelowOn HB.out hb⟩
          | false =>
            have nb : ctN b b = 1 := by unfold ctN ctB; rw [eb]; simp
            have HL := Lib.hid (fun W => HC.out a b c b W)
            rw [na, nb] at HL
            clear na nb HC
            go_wp2_with fail
            refine (HL.out _).mono ?_; rintro e w1 ⟨rfl, hb⟩
            have HB := Lib.hid (BelowOn (blw (blw (Below.refl w.heap.size w) _) _) hb)
            clear hb HL
            go_wp2_with fail
            refine (sknown_any _).mono ?_; rintro e w2 ⟨rfl, hb⟩
            go_wp2_with fail
            go_ret
            exact ⟨rfl, BelowOn HB.out hb⟩
        | false =>
          have na : ctN a c = 0 := by unfold ctN ctB; rw [ea, qa]; rfl
          cases eb : b.toList.isEmpty with
          | true =>
            have nb : ctN b b = 0 := by unfold ctN ctB; rw [eb]; rfl
            have HL := Lib.hid (fun W => HC.out a b c b W)
            rw [na, nb] at HL
            clear na nb HC
            go_wp2_with fail
            refine (HL.out _).mono ?_; rintro e w1 ⟨rfl, hb⟩
            have HB := Lib.hid (BelowOn (blw (blw (Below.refl w.heap.size w) _) _) hb)
            clear hb HL
            go_wp2_with fail
            refine (sknown_any _).mono ?_; rintro e w2 ⟨rfl, hb⟩
            go_wp2_with fail
            go_ret
            exact ⟨rfl, BelowOn HB.out hb⟩
          | false =>
            have nb : ctN b b = 1 := by unfold ctN ctB; rw [eb]; simp
            have HL := Lib.hid (fun W => HC.out a b c b W)
            rw [na, nb] at HL
            clear na nb HC
            go_wp2_with fail
            refine (HL.out _).mono ?_; rintro e w1 ⟨rfl, hb⟩
            have HB := Lib.hid (BelowOn (blw (blw (Below.refl w.heap.size w) _) _) hb)
            clear hb HL
            go_wp2_with fail
            refine (sknown_any _).mono ?_; rintro e w2 ⟨rfl, hb⟩
            go_wp2_with fail
            go_ret
            exact ⟨rfl, BelowOn HB.out hb⟩
    | false =>
      cases ea : a.toList.isEmpty with
      | true =>
        have na : ctN a c = 0 := by unfold ctN ctB; rw [ea]; rfl
        cases eb : b.toList.isEmpty with
        | true =>
          have nb : ctN b d = 0 := by unfold ctN ctB; rw [eb]; rfl
          have HL := Lib.hid (fun W => HC.out a b c d W)
          rw [na, nb] at HL
          clear na nb HC
          go_wp2_with fail
          refine (HL.out _).mono ?_; rintro e w1 ⟨rfl, hb⟩
          have HB := Lib.hid (BelowOn (blw (blw (Below.refl w.heap.size w) _) _) hb)
          clear hb HL
          go_wp2_with fail
          refine (sknown_any _).mono ?_; rintro e w2 ⟨rfl, hb⟩
          go_wp2_with fail
          go_ret
          exact ⟨rfl, BelowOn HB.out hb⟩
        | false =>
          cases qb : (b.toList == d.toList) with
          | true =>
            have nb : ctN b d = 1 := by unfold ctN ctB; rw [eb, qb]; rfl
            have HL := Lib.hid (fun W => HC.out a b c d W)
            rw [na, nb] at HL
            clear na nb HC
            go_wp2_with fail
            refine (HL.out _).mono ?_; rintro e w1 ⟨rfl, hb⟩
            have HB := Lib.hid (BelowOn (blw (blw (Below.refl w.heap.size w) _) _) hb)
            clear hb HL
            go_wp2_with fail
            refine (sknown_any _).mono ?_; rintro e w2 ⟨rfl, hb⟩
            go_wp2_with fail
            go_ret
            exact ⟨rfl, BelowOn HB.out hb⟩
          | false =>
            have nb : ctN b d = 0 := by unfold ctN ctB; rw [eb, qb]; rfl
            have HL := Lib.hid (fun W => HC.out a b c d W)
            rw [na, nb] at HL
            clear na nb HC
            go_wp2_with fail
            refine (HL.out _).mono ?_; rintro e w1 ⟨rfl, hb⟩
            have HB := Lib.hid (BelowOn (blw (blw (Below.refl w.heap.size w) _) _) hb)
            clear hb HL
            go_wp2_with fail
            refine (sknown_any _).mono ?_; rintro e w2 ⟨rfl, hb⟩
            go_wp2_with fail
            go_ret
            exact ⟨rfl, BelowOn HB.out hb⟩
      | false =>
        cases qa : (a.toList == c.toList) with
        | true =>
          have na : ctN a c = 1 := by unfold ctN ctB; rw [ea, qa]; rfl
          cases eb : b.toList.isEmpty with
          | true =>
            have nb : ctN b d = 0 := by unfold ctN ctB; rw [eb]; rfl
            have HL := Lib.hid (fun W => HC.out a b c d W)
            rw [na, nb] at HL
            clear na nb HC
            go_wp2_with fail
            refine (HL.out _).mono ?_; rintro e w1 ⟨rfl, hb⟩
            have HB := Lib.hid (BelowOn (blw (blw (Below.refl w.heap.size w) _) _) hb)
            clear hb HL
            go_wp2_with fail
            refine (sknown_any _).mono ?_; rintro e w2 ⟨rfl, hb⟩
            go_wp2_with fail
            go_ret
            exact ⟨rfl, BelowOn HB.out hb⟩
          | false =>
            cases qb : (b.toList == d.toList) with
            | true =>
              have nb : ctN b d = 1 := by unfold ctN ctB; rw [eb, qb]; rfl
              have HL := Lib.hid (fun W => HC.out a b c d W)
              rw [na, nb] at HL
              clear na nb HC
              go_wp2_with fail
              refine (HL.out _).mono ?_; rintro e w1 ⟨rfl, hb⟩
              have HB := Lib.hid (BelowOn (blw (blw (Below.refl w.heap.size w) _) _) hb)
              clear hb HL
              go_wp2_with fail
              refine (sknown_any _).mono ?_; rintro e w2 ⟨rfl, hb⟩
              go_wp2_with fail
              go_ret
              exact ⟨rfl, BelowOn HB.out hb⟩
            | false =>
              have nb : ctN b d = 0 := by unfold ctN ctB; rw [eb, qb]; rfl
              have HL := Lib.hid (fun W => HC.out a b c d W)
              rw [na, nb] at HL
              clear na nb HC
              go_wp2_with fail
              refine (HL.out _).mono ?_; rintro e w1 ⟨rfl, hb⟩
              have HB := Lib.hid (BelowOn (blw (blw (Below.refl w.heap.size w) _) _) hb)
              clear hb HL
              go_wp2_with fail
              refine (sknown_any _).mono ?_; rintro e w2 ⟨rfl, hb⟩
              go_wp2_with fail
              go_ret
              exact ⟨rfl, BelowOn HB.out hb⟩
        | false =>
          have na : ctN a c = 0 := by unfold ctN ctB; rw [ea, qa]; rfl
          cases eb : b.toList.isEmpty with
          | true =>
            have nb : ctN b d = 0 := by unfold ctN ctB; rw [eb]; rfl
            have HL := Lib.hid (fun W => HC.out a b c d W)
            rw [na, nb] at HL
            clear na nb HC
            go_wp2_with fail
            refine (HL.out _).mono ?_; rintro e w1 ⟨rfl, hb⟩
            have HB := Lib.hid (BelowOn (blw (blw (Below.refl w.heap.size w) _) _) hb)
            clear hb HL
            go_wp2_with fail
            refine (sknown_any _).mono ?_; rintro e w2 ⟨rfl, hb⟩
            go_wp2_with fail
            go_ret
            exact ⟨rfl, BelowOn HB.out hb⟩
          | false =>
            cases qb : (b.toList == d.toList) with
            | true =>
              have nb : ctN b d = 1 := by unfold ctN ctB; rw [eb, qb]; rfl
              have HL := Lib.hid (fun W => HC.out a b c d W)
              rw [na, nb] at HL
              clear na nb HC
              go_wp2_with fail
              refine (HL.out _).mono ?_; rintro e w1 ⟨rfl, hb⟩
              have HB := Lib.hid (BelowOn (blw (blw (Below.refl w.heap.size w) _) _) hb)
              clear hb HL
              go_wp2_with fail
              refine (sknown_any _).mono ?_; rintro e w2 ⟨rfl, hb⟩
              go_wp2_with fail
              go_ret
              exact ⟨rfl, BelowOn HB.out hb⟩
            | false =>
              have nb : ctN b d = 0 := by unfold ctN ctB; rw [eb, qb]; rfl
              have HL := Lib.hid (fun W => HC.out a b c d W)
              rw [na, nb] at HL
              clear na nb HC
              go_wp2_with fail
              refine (HL.out _).mono ?_; rintro e w1 ⟨rfl, hb⟩
              have HB := Lib.hid (BelowOn (blw (blw (Below.refl w.heap.size w) _) _) hb)
              clear hb HL
              go_wp2_with fail
              refine (sknown_any _).mono ?_; rintro e w2 ⟨rfl, hb⟩
              go_wp2_with fail
              go_ret
              exact ⟨rfl, BelowOn HB.out hb⟩
end Go.Proofs.Ytpkipdiecnokhaa
namespace Go.Proofs.Ytpkipdiecnokhaa.scoreContexts
open Go.ChangeShapes Go.WideShapes Go.ChangeAt Go.RowKit
open Go.ChangeMaps (open_string shut_string)
set_option linter.unusedVariables false
set_option maxRecDepth 100000

theorem own : ownKnob Try.prog.godebug = none := by kernel_rfl
theorem laidOut : laidOutB Try.prog = true := by kernel_rfl


set_option maxHeartbeats 1600000 in
theorem walk (a0 : ByteArray) (a1 : ByteArray) (a2 : ByteArray) (a3 : ByteArray) (a4 : Int) (w : World) (w0 : a0.size ≤ 140737488355328) (w1 : a1.size ≤ 140737488355328) (w2 : a2.size ≤ 140737488355328) (w3 : a3.size ≤ 140737488355328) (w4 : (Lit.int .i64 a4).wf = true) :
    Calls Try.prog 8 #[.string a0, .string a1, .string a2, .string a3, .int .i64 a4] w fun e w' => e = .returned (.bool true) ∧ Below w.heap.size w w' := by
  exact contexts_law a0 a1 a2 a3 a4 w w0 w1 w2 w3 w4

theorem lifted (os : Os) (started : os.Started) (H : Type) (enc : TypeId × Value → H) :
    ReturnsInHanded {} Try.checked os 8 .any (Rows.scoreContextsSpec.pre6 enc Try.prog Try.f8 Rows.scoreContextsRow.domain false) (Rows.scoreContextsSpec.post enc Try.prog Try.f8 false true false false) := by
  refine returnsInHanded_of_change_sized (C := Try.checked) own started (by kernel_rfl) Try.func8
    (ChangeSpec.witness6 (enc := enc) (C := Try.checked) false ⟨#[], #[.string ByteArray.empty, .string ByteArray.empty, .string ByteArray.empty, .string ByteArray.empty, .int .i64 0], []⟩ 8 (by kernel_rfl) (by kernel_rfl) (by kernel_rfl) (by kernel_rfl)) ?_
  intro W base args ds gs before hval0 hW hcnd hsz0 _
  have hval : ∀ (j : Nat) t v, Try.f8.params[j]? = some t → args[j]? = some v → Value.okWide Try.prog W .any base t v := hval0
  have hW' := hW
  have hlt : ∀ x ∈ before, x.block < W.heap.size := fun x hx => hW'.lt x hx
  obtain ⟨p, q, hA0, hV, rfl, hfz, hnd⟩ := hW
  have hA : DataW.TrodAll enc Try.prog W 0 (fun _ => true) true Try.f8.params.toList args.toList ds p := hA0
  rw [Try.params8] at hA hval hsz0
  obtain ⟨v0, vs0, d0, ds0, p0, q0, hargs, rfl, rfl, h0, r0⟩ := trodAll_cons hA
  obtain ⟨v1, vs1, d1, ds1, p1, q1, rfl, rfl, rfl, h1, r1⟩ := trodAll_cons r0
  obtain ⟨v2, vs2, d2, ds2, p2, q2, rfl, rfl, rfl, h2, r2⟩ := trodAll_cons r1
  obtain ⟨v3, vs3, d3, ds3, p3, q3, rfl, rfl, rfl, h3, r3⟩ := trodAll_cons r2
  obtain ⟨v4, vs4, d4, ds4, p4, q4, rfl, rfl, rfl, h4, r4⟩ := trodAll_cons r3
  obtain ⟨rfl, rfl, rfl⟩ := trodAll_nil r4
  obtain rfl : args = #[v0, v1, v2, v3, v4] := by cases args; simp_all
  obtain ⟨rfl, rfl⟩ := trodVars_none hV
  have hsz := hsz0; clear hsz0
  have z0 : ∀ n ∈ DataW.weights Try.prog 9 d0, n ≤ reachBytes := (fun n hn => by simpa using List.all_eq_true.1 hsz n (DataW.weights_mem_each (j := 0) rfl rfl n hn))
  obtain ⟨a0, rfl, e0, -, -⟩ := open_string Try.underlying9 (hval 0 9 v0 rfl rfl) h0
  have w0 : a0.size ≤ 140737488355328 := str_le e0 z0
  have z1 : ∀ n ∈ DataW.weights Try.prog 9 d1, n ≤ reachBytes := (fun n hn => by simpa using List.all_eq_true.1 hsz n (DataW.weights_mem_each (j := 1) rfl rfl n hn))
  obtain ⟨a1, rfl, e1, -, -⟩ := open_string Try.underlying9 (hval 1 9 v1 rfl rfl) h1
  have w1 : a1.size ≤ 140737488355328 := str_le e1 z1
  have z2 : ∀ n ∈ DataW.weights Try.prog 9 d2, n ≤ reachBytes := (fun n hn => by simpa using List.all_eq_true.1 hsz n (DataW.weights_mem_each (j := 2) rfl rfl n hn))
  obtain ⟨a2, rfl, e2, -, -⟩ := open_string Try.underlying9 (hval 2 9 v2 rfl rfl) h2
  have w2 : a2.size ≤ 140737488355328 := str_le e2 z2
  have z3 : ∀ n ∈ DataW.weights Try.prog 9 d3, n ≤ reachBytes := (fun n hn => by simpa using List.all_eq_true.1 hsz n (DataW.weights_mem_each (j := 3) rfl rfl n hn))
  obtain ⟨a3, rfl, e3, -, -⟩ := open_string Try.underlying9 (hval 3 9 v3 rfl rfl) h3
  have w3 : a3.size ≤ 140737488355328 := str_le e3 z3
  obtain ⟨a4, rfl, -, -, w4⟩ := open_int Try.underlying3 (hval 4 3 v4 rfl rfl) h4
  clear hA0 hval0
  refine (walk a0 a1 a2 a3 a4 W w0 w1 w2 w3 w4).mono fun e W' ⟨he, bel⟩ => ?_
  subst he
  exact ⟨_, rfl, _, _, _, [], _, [], hW', trodAll_mk1 (shut_bool Try.underlying4 _), (trodAll_cons_mk (Below.trod laidOut (by kernel_rfl) (of_decide_eq_true (by kernel_rfl)) h0 bel (fun x hx => hlt x (by simp [hx]))) (trodAll_cons_mk (Below.trod laidOut (by kernel_rfl) (of_decide_eq_true (by kernel_rfl)) h1 bel (fun x hx => hlt x (by simp [hx]))) (trodAll_cons_mk (Below.trod laidOut (by kernel_rfl) (of_decide_eq_true (by kernel_rfl)) h2 bel (fun x hx => hlt x (by simp [hx]))) (trodAll_cons_mk (Below.trod laidOut (by kernel_rfl) (of_decide_eq_true (by kernel_rfl)) h3 bel (fun x hx => hlt x (by simp [hx]))) (trodAll_cons_mk (Below.trod laidOut (by kernel_rfl) (of_decide_eq_true (by kernel_rfl)) h4 bel (fun x hx => hlt x (by simp [hx]))) trodAll_mk0))))), rfl, bel.frame _, fun h => by cases h⟩

theorem over : Rows.scoreContextsRow.holds Try.pinned (OpenSpec.ofChange Rows.scoreContextsSpec) :=
  OpenClaim.holds_of_wide 8 Try.f8 rfl rfl rfl rfl rfl rfl rfl ⟨rfl, rfl, rfl, rfl, rfl⟩ rfl rfl rfl rfl rfl (by kernel_rfl) Try.func8 (by kernel_rfl)
    (of_decide_eq_true (by kernel_rfl)) (by unfold Func.isWrapper; first | (rw [if_pos (by decide +kernel)]; kernel_rfl) | (rw [if_neg (by decide +kernel)]; exact ⟨rfl, rfl⟩))
    (fun os started H enc _ => lifted os started H enc)

theorem proved : Rows.ScoreContextsSaid := over
#print axioms proved
end Go.Proofs.Ytpkipdiecnokhaa.scoreContexts
