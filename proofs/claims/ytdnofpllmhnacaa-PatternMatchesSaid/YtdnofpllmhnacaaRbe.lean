/- The reference's brackets: whole. -/
import Derived.Test.YtdnofpllmhnacaaRba
import Derived.Test.YtdnofpllmhnacaaRbb
namespace Go.Proofs.Ytdnofpllmhnacaa
open Go.ChangeShapes Go.WideShapes Go.ChangeAt Go.RowKit Go.Sort
set_option linter.unusedVariables false
set_option linter.unusedSimpArgs false
set_option maxRecDepth 100000

set_option maxHeartbeats 12800000 in
theorem br_end (s : ByteArray) (i : Nat) (hi : i < s.size) (hsm : s.size ≤ 4000000000) (hin : ¬ i + 1 < s.size) (w : World) :
    Calls Try.prog 51 #[.string s, .int .i64 i] w (BrEnd w (brF s (i + 1))) := by
  obtain ⟨n, hn⟩ : ∃ n, n = i + 1 := ⟨_, rfl⟩
  have hns : n = s.size := by omega
  have hiv : ¬ pk s (i + 1) = 94 := by rw [pk_end (by omega)]; decide
  have hA : brA s (i + 1) = i + 1 := by unfold brA; rw [if_neg hiv]
  rw [br_eq', decide_eq_false hiv, hA, ← hn, hns, mbs_end]
  have s1 : SAtT 35 w.heap.size emptyS ((w.alloc (.cells (List.replicate 32 (Value.int .u8 0)).toArray 35)).alloc (.cells (List.replicate 32 (Value.int .u8 0)).toArray 35)) := (SAtT.new 35 w).call (blw (Below.refl _ _) _)
  have s2 : SAtT 35 (w.heap.size + 1) emptyS ((w.alloc (.cells (List.replicate 32 (Value.int .u8 0)).toArray 35)).alloc (.cells (List.replicate 32 (Value.int .u8 0)).toArray 35)) := by
    have := SAtT.new 35 (w.alloc (.cells (List.replicate 32 (Value.int .u8 0)).toArray 35))
    rwa [show (w.alloc (.cells (List.replicate 32 (Value.int .u8 0)).toArray 35)).heap.size = w.heap.size + 1 by simp] at this
  have s3 := blw (blw (Below.refl w.heap.size w) (.cells (List.replicate 32 (Value.int .u8 0)).toArray 35)) (.cells (List.replicate 32 (Value.int .u8 0)).toArray 35)
  have e1 : (i : Int) + 1 = (s.size : Int) := by omega
  have q0 : decide (s.size < s.size) = false := by simp
  have q1 : decide (s.size ≤ s.size) = true := by simp
  have H0 := Lib.hid (show BW w emptyS _ from ⟨s1, s2, s3⟩)
  clear s1 s2 s3 hn hns hiv hA hin
  go_enter Try.func51, Try.ntmps51
  go_wp2_with fail
  go_loopw [8, 10] (fun j c wr => j = .int .i64 s.size ∧ c = .int .i64 0 ∧ BW w emptyS wr) (fun j _ _ => s.size + 1 - (intOf j).toNat)
  case atStart => exact ⟨rfl, rfl, H0.out⟩
  case round =>
    obtain ⟨rfl, rfl, hW⟩ := hrel
    have HW := Lib.hid hW; clear hW H0
    go_upto_region 6 with fail
    go_wp2_with (first | (refine wpl_loadSet (by rfl) 35 (Or.inr rfl) _ (by rfl) (w.heap.size + 1) emptyS (by rfl) HW.out.b ?_) | (refine wpl_storeSet (by rfl) 35 (Or.inr rfl) _ _ (by rfl) w.heap.size emptyS emptyS (by rfl) (by rfl) HW.out.a ?_; intro w5 h5 g5))
    have hld := SAtT.read (Or.inr rfl) h5
    have hB := HW.out.bel.grown g5 HW.out.bel.size (fun j hj => by cases hj; omega)
    (try simp only [Exit.inBlock, Exit.then])
    refine bodyPost_ret (v := .tuple #[.agg (setC emptyS).toArray, .int .i64 0, .int .i64 ((s.size : Int))]) (by simp [results, Try.results51, asAddr, Result.andThen, hld, Act.put]) rfl ⟨emptyS, rfl, fun S h => (by cases h), hB⟩
theorem brackets_any (s : ByteArray) (i : Nat) (hi : i < s.size) (hsm : s.size ≤ 4000000000) (w : World) :
    Calls Try.prog 51 #[.string s, .int .i64 i] w (BrEnd w (brF s (i + 1))) := by
  by_cases hin : i + 1 < s.size
  · by_cases h : pk s (i + 1) = 94
    · exact br_true s i hi hsm h w
    · exact br_false s i hi hsm h hin w
  · exact br_end s i hi hsm hin w
end Go.Proofs.Ytdnofpllmhnacaa
