/- The law NotationLimits holds for every input. -/
import Derived.Test.YtaogjccmeajpoaaDoorRows
import Derived.WalkKit
import Derived.ProofKit
import Derived.OpenShut
import Derived.ChangeOld
import Derived.Below
import Derived.Carry
import Derived.SizedLaws
import Derived.Test.YtaogjccmeajpoaaDoorCards
import Derived.Test.YtaogjccmeajpoaaDoorTie
import Derived.Stop.Joined
import Derived.SevenTiedAt
import Derived.Test.YtaogjccmeajpoaaDoorArg
import Derived.Test.YtaogjccmeajpoaaDoorNtD
import Derived.Test.YtaogjccmeajpoaaDoorNtB
import Derived.Test.YtaogjccmeajpoaaDoorNtA
namespace Go.Proofs.YtaogjccmeajpoaaDoor.notationLimits
open Go.ChangeShapes Go.WideShapes Go.ChangeAt Go.RowKit
open Go.ChangeMaps (open_string shut_string)
set_option linter.unusedVariables false
set_option maxRecDepth 100000

theorem own : ownKnob Tryd.prog.godebug = none := by kernel_rfl
theorem laidOut : laidOutB Tryd.prog = true := by kernel_rfl

theorem add_toList (s t : ByteArray) : (s ++ t).data.toList = s.data.toList ++ t.data.toList := by simp [ByteArray.data_append]
/-- A slot, written {a}. -/
def slA : It := ⟨5, ⟨#[97]⟩, 0⟩
theorem slA_el : elL slA = [123, 97, 125] := by decide +kernel
theorem slA_proper : properB slA = true := by decide +kernel
theorem slA_k : slA.k ≠ 1 := by decide
theorem slA_err (f : List It) : errAt f slA = 0 := err_slot f slA slA_proper slA_k (by decide)
theorem go_slots (rest : List UInt8) : ∀ m j, j + m ≤ 512 → go (List.replicate j slA) j (3 * j) (fmtN (List.replicate m slA) ++ rest) = go (List.replicate (j + m) slA) (j + m) (3 * (j + m)) rest := by
  intro m
  induction m with
  | zero => intro j _; simp [fmtN]
  | succ m ih =>
    intro j h
    have e : fmtN (List.replicate (m + 1) slA) = elL slA ++ fmtN (List.replicate m slA) := by rw [List.replicate_succ]; rfl
    have e2 : List.replicate j slA ++ [slA] = List.replicate (j + 1) slA := List.replicate_succ'.symm
    have e3 : (elL slA).length = 3 := by rw [slA_el]; rfl
    rw [e, List.append_assoc, go_other _ slA j (3 * j) _ slA_proper slA_k (slA_err _) (by simp; omega) (by omega), e2, e3, show 3 * j + 3 = 3 * (j + 1) by omega, ih (j + 1) (by omega), show j + 1 + m = j + (m + 1) by omega]
/-- The notation of k slots. -/
def slL (k : Nat) : List UInt8 := fmtN (List.replicate k slA)
theorem slL_next (k : Nat) : slL (k + 1) = slL k ++ [123, 97, 125] := by
  unfold slL; rw [List.replicate_succ', fmtN_snoc, slA_el]
theorem slL_len (k : Nat) : (slL k).length = 3 * k := by
  induction k with
  | zero => rfl
  | succ k ih => rw [slL_next, List.length_append, ih]; simp; omega
theorem parse_slots (k : Nat) (h : k ≤ 512) : parseN (slL k) = (List.replicate k slA, 0, 0) := by
  have := go_slots [] k 0 (by omega)
  rw [List.append_nil, Nat.zero_add] at this
  exact this
theorem parse_slots_more (k : Nat) (h : 512 < k) : parseN (slL k) = ([], 1536, 3) := by
  obtain ⟨r, rfl⟩ : ∃ r, k = 512 + (r + 1) := ⟨k - 513, by omega⟩
  have e : slL (512 + (r + 1)) = fmtN (List.replicate 512 slA) ++ (elL slA ++ fmtN (List.replicate r slA)) := by
    unfold slL
    rw [← List.replicate_append_replicate, fmtN_append, List.replicate_succ]; rfl
  have h1 := go_slots (elL slA ++ fmtN (List.replicate r slA)) 512 0 (by omega)
  rw [Nat.zero_add] at h1
  rw [e]
  refine h1.trans (go_full _ _ _ _ (fun h => by rw [slA_el] at h; simp at h) (rd_el slA slA_proper slA_k _) (.inr (slA_err _)) (.inl ?_))
  rw [norm_other _ _ slA_k]; simp
theorem lenI_slots (k : Nat) : lenI (List.replicate k slA) = k := by
  unfold lenI; rw [List.map_replicate, List.sum_replicate_nat]; simp [wid, slA]
/-- A text of k letters. -/
def txL (k : Nat) : List UInt8 := List.replicate k 97
theorem wrU_a : wrU 97 = [97] := by decide +kernel
theorem txL_wr (k : Nat) : wrL (txL k) = txL k := by
  induction k with
  | zero => rfl
  | succ k ih =>
    have e : txL (k + 1) = 97 :: txL k := List.replicate_succ
    rw [e]; show wrU 97 ++ wrL (txL k) = _; rw [ih, wrU_a]; rfl
theorem txL_next (k : Nat) : txL (k + 1) = txL k ++ [97] := List.replicate_succ'
theorem txL_len (k : Nat) : (txL k).length = k := List.length_replicate
theorem parse_texts (k : Nat) (h : k ≤ 1024) : parseN (txL k) = (flush [] (txL k), 0, 0) := by
  have := go_text [] rfl (by simp) [] (txL k) [] 0 0 (by rw [txL_len]; omega)
  rw [List.append_nil, flush_nil, List.nil_append, txL_wr] at this
  exact this
theorem parse_texts_more (k : Nat) (h : 1024 < k) : parseN (txL k) = ([], 1024, 3) := by
  obtain ⟨r, rfl⟩ : ∃ r, k = 1024 + (r + 1) := ⟨k - 1025, by omega⟩
  have e : txL (1024 + (r + 1)) = wrL (txL 1024) ++ (wrU 97 ++ txL r) := by
    rw [txL_wr, wrU_a]; unfold txL; rw [← List.replicate_append_replicate, List.replicate_succ]; rfl
  have h1 := go_text [] rfl (by simp) (wrU 97 ++ txL r) (txL 1024) [] 0 0 (by rw [txL_len]; omega)
  rw [flush_nil, List.nil_append, txL_wr, txL_len, Nat.zero_add] at h1
  rw [e, txL_wr]
  refine h1.trans (go_full _ _ _ _ (fun h => by rw [wrU_a] at h; simp at h) (rd_byte 97 _) (.inl rfl) (.inr (by omega)))
theorem lenI_texts (k : Nat) : lenI (flush [] (txL k)) = k := by
  by_cases h : txL k = []
  · have := congrArg List.length h
    rw [txL_len] at this
    rw [h, flush_nil]; simp at this; subst this; rfl
  · rw [flush_some _ _ h]
    show (if (1 : Int) = 1 then (⟨(txL k).toArray⟩ : ByteArray).size else 1) + 0 = k
    rw [if_pos rfl]
    show (txL k).toArray.size + 0 = k
    simp [txL_len]

set_option maxHeartbeats 1600000 in
theorem walk (a0 : Int) (a1 : Bool) (w : World) (w0 : (Lit.int .i64 a0).wf = true) (hE : Env w.heap.size w) :
    Calls Tryd.prog 5 #[.int .i64 a0, .bool a1] w fun e w' => e = .returned (.bool true) ∧ Below w.heap.size w w' := by
  have HK := Lib.hid known_any
  have HE := Lib.hid hE
  clear hE
  obtain ⟨N, hN, hN5⟩ : ∃ N : Nat, wrap64 ((IntKind.u64.wrap a0).tmod 5) = (N : Int) ∧ N < 5 := by
    have h0 : 0 ≤ IntKind.u64.wrap a0 := by rw [IntKind.wrap_u64]; omega
    refine ⟨((IntKind.u64.wrap a0).tmod 5).toNat, ?_, ?_⟩
    · rw [Int.tmod_eq_emod_of_nonneg h0]; unfold wrap64; omega
    · rw [Int.tmod_eq_emod_of_nonneg h0]; omega
  cases a1
  · go_enter Tryd.func5, Tryd.ntmps5
    go_wp2_with fail
    rw [hN]
    go_loop [5, 7] (fun v i => ∃ (k : Nat) (s : ByteArray), k ≤ (1024 - 2) + N ∧ i = .int .i64 k ∧ v = .string s ∧ s.data.toList = txL k) (fun _ i => (1024 - 2) + N - (intOf i).toNat)
    case atStart => exact ⟨0, _, Nat.zero_le _, rfl, rfl, rfl⟩
    case round =>
      obtain ⟨k, s, hk, rfl, rfl, hs⟩ := hrel
      have hsl : s.size = k := by have := congrArg List.length hs; rw [txL_len] at this; simpa using this
      by_cases hlt : k < (1024 - 2) + N
      · have HS := Lib.hid hs; clear hs
        go_wp2_with fail
        go_round
        case rel => exact ⟨k + 1, _, hlt, by go_num, rfl, by rw [txL_next, ← HS.out]; exact add_toList _ _⟩
        case measure => simp [intOf]; omega
      · obtain rfl : k = (1024 - 2) + N := by omega
        have pp := fun W (hE : Env W.heap.size W) => parse_any s W (by omega) hE
        rw [hs] at pp
        by_cases hn : N ≤ 2
        · rw [parse_texts _ (by omega)] at pp
          unfold EndP at pp; dsimp only at pp
          have hlen := fun p c W (i : Its W p (flush [] (txL ((1024 - 2) + N)))) (a : (flush [] (txL ((1024 - 2) + N))).length ≤ c) (b : c ≤ maxLen) => rlength_any p c _ W i a b (by rw [lenI_texts]; omega)
          rw [lenI_texts] at hlen
          generalize (flush [] (txL ((1024 - 2) + N))) = F at *
          have PP := Lib.hid pp; have LL := Lib.hid hlen
          clear pp hlen hs
          go_wp2_with fail
          refine (PP.out _ HE.out).mono ?_; rintro e w1 ⟨p3, c3, rfl, a3, b3, i3, hb⟩
          have hE := HE.out.next hb; have bl := hb; clear hb
          go_wp2_with fail
          refine (LL.out _ _ _ i3 a3 b3).mono ?_; rintro e w2 ⟨rfl, rfl⟩
          go_wp2_with fail
          refine (HK.out _ hE).mono ?_; rintro e w6 ⟨rfl, hb⟩
          have bl := BelowOn bl hb; clear hb
          go_wp2_with fail
          go_ret
          exact ⟨rfl, bl⟩
        · rw [parse_texts_more _ (by omega)] at pp
          unfold EndP at pp; dsimp only at pp
          have PP := Lib.hid pp
          clear pp hs
          go_wp2_with fail
          refine (PP.out _ HE.out).mono ?_; rintro e w1 ⟨p3, c3, rfl, a3, b3, i3, hb⟩
          have hE := HE.out.next hb; have bl := hb; clear hb
          go_wp2_with fail
          refine (HK.out _ hE).mono ?_; rintro e w6 ⟨rfl, hb⟩
          have bl := BelowOn bl hb; clear hb
          go_wp2_with fail
          go_ret
          exact ⟨rfl, bl⟩
  · go_enter Tryd.func5, Tryd.ntmps5
    go_wp2_with fail
    rw [hN]
    go_loop [5, 7] (fun v i => ∃ (k : Nat) (s : ByteArray), k ≤ (512 - 2) + N ∧ i = .int .i64 k ∧ v = .string s ∧ s.data.toList = slL k) (fun _ i => (512 - 2) + N - (intOf i).toNat)
    case atStart => exact ⟨0, _, Nat.zero_le _, rfl, rfl, rfl⟩
    case round =>
      obtain ⟨k, s, hk, rfl, rfl, hs⟩ := hrel
      have hsl : s.size = 3 * k := by have := congrArg List.length hs; rw [slL_len] at this; simpa using this
      by_cases hlt : k < (512 - 2) + N
      · have HS := Lib.hid hs; clear hs
        go_wp2_with fail
        go_round
        case rel => exact ⟨k + 1, _, hlt, by go_num, rfl, by rw [slL_next, ← HS.out]; exact add_toList _ _⟩
        case measure => simp [intOf]; omega
      · obtain rfl : k = (512 - 2) + N := by omega
        have pp := fun W (hE : Env W.heap.size W) => parse_any s W (by omega) hE
        rw [hs] at pp
        by_cases hn : N ≤ 2
        · rw [parse_slots _ (by omega)] at pp
          unfold EndP at pp; dsimp only at pp
          have hlen := fun p c W (i : Its W p (List.replicate ((512 - 2) + N) slA)) (a : (List.replicate ((512 - 2) + N) slA).length ≤ c) (b : c ≤ maxLen) => rlength_any p c _ W i a b (by rw [lenI_slots]; omega)
          rw [lenI_slots] at hlen
          generalize (List.replicate ((512 - 2) + N) slA) = F at *
          have PP := Lib.hid pp; have LL := Lib.hid hlen
          clear pp hlen hs
          go_wp2_with fail
          refine (PP.out _ HE.out).mono ?_; rintro e w1 ⟨p3, c3, rfl, a3, b3, i3, hb⟩
          have hE := HE.out.next hb; have bl := hb; clear hb
          go_wp2_with fail
          refine (LL.out _ _ _ i3 a3 b3).mono ?_; rintro e w2 ⟨rfl, rfl⟩
          go_wp2_with fail
          refine (HK.out _ hE).mono ?_; rintro e w6 ⟨rfl, hb⟩
          have bl := BelowOn bl hb; clear hb
          go_wp2_with fail
          go_ret
          exact ⟨rfl, bl⟩
        · rw [parse_slots_more _ (by omega)] at pp
          unfold EndP at pp; dsimp only at pp
          have PP := Lib.hid pp
          clear pp hs
          go_wp2_with fail
          refine (PP.out _ HE.out).mono ?_; rintro e w1 ⟨p3, c3, rfl, a3, b3, i3, hb⟩
          have hE := HE.out.next hb; have bl := hb; clear hb
          go_wp2_with fail
          refine (HK.out _ hE).mono ?_; rintro e w6 ⟨rfl, hb⟩
          have bl := BelowOn bl hb; clear hb
          go_wp2_with fail
          go_ret
          exact ⟨rfl, bl⟩

theorem lifted (os : Os) (started : os.Started) (H : Type) (enc : TypeId × Value → H) :
    ReturnsInHanded {} Tryd.checked os 5 .any (fun w args => (Rows.notationLimitsSpec.pre enc Tryd.prog Tryd.f5 Rows.notationLimitsRow.domain false w args ∧ laidMetH Tryd.prog Rows.notationLimitsRow.laid w) ∧ sizedMet enc Tryd.prog Tryd.f5 (OpenSpec.ofChange Rows.notationLimitsSpec) false w args)
      (Rows.notationLimitsSpec.post enc Tryd.prog Tryd.f5 false true false false) := by
  refine returnsInHanded_of_change_and (C := Tryd.checked) (X := fun w _ => laidMetH Tryd.prog Rows.notationLimitsRow.laid w) (fun _ _ _ hh h => h.of_heap hh) own started (by kernel_rfl) Tryd.func5
    (ChangeSpec.witness_shaped (enc := enc) (C := Tryd.checked) (os := os) (X := fun w _ => laidMetH Tryd.prog Rows.notationLimitsRow.laid w) false (World.doorLaid Tryd.prog 62 os) #[.int .i64 0, .bool false] 8 rfl (World.shaped_of_RefB (by kernel_rfl) (by kernel_rfl)) (by kernel_rfl) (by kernel_rfl) (by kernel_rfl) (door_met os _)) ?_
  intro W base args ds gs before hval0 hW hcnd hsz0 hL _
  have hval : ∀ (j : Nat) t v, Tryd.f5.params[j]? = some t → args[j]? = some v → Value.okWide Tryd.prog W .any base t v := hval0
  have hW' := hW
  have hlt : ∀ x ∈ before, x.block < W.heap.size := fun x hx => hW'.lt x hx
  obtain ⟨p, q, hA0, hV, rfl, hfz, hnd⟩ := hW
  have hA : DataW.TrodAll enc Tryd.prog W 0 (fun _ => true) true Tryd.f5.params.toList args.toList ds p := hA0
  rw [Tryd.params5] at hA hval hsz0
  obtain ⟨v0, vs0, d0, ds0, p0, q0, hargs, rfl, rfl, h0, r0⟩ := trodAll_cons hA
  obtain ⟨v1, vs1, d1, ds1, p1, q1, rfl, rfl, rfl, h1, r1⟩ := trodAll_cons r0
  obtain ⟨rfl, rfl, rfl⟩ := trodAll_nil r1
  obtain rfl : args = #[v0, v1] := by cases args; simp_all
  obtain ⟨rfl, rfl⟩ := trodVars_none hV
  have hsz := hsz0; clear hsz0
  obtain ⟨a0, rfl, -, -, w0⟩ := open_int Tryd.underlying3 (hval 0 3 v0 rfl rfl) h0
  obtain ⟨a1, rfl, -, -⟩ := open_bool Tryd.underlying4 (hval 1 4 v1 rfl rfl) h1
  clear hA0 hval0
  refine (walk a0 a1 W w0 (env_of_laid hL)).mono fun e W' ⟨he, bel⟩ => ?_
  subst he
  exact ⟨_, rfl, _, _, _, [], _, [], hW', trodAll_mk1 (shut_bool Tryd.underlying4 _), (trodAll_cons_mk (Below.trod laidOut (by kernel_rfl) (of_decide_eq_true (by kernel_rfl)) h0 bel (fun x hx => hlt x (by simp [hx]))) (trodAll_cons_mk (Below.trod laidOut (by kernel_rfl) (of_decide_eq_true (by kernel_rfl)) h1 bel (fun x hx => hlt x (by simp [hx]))) trodAll_mk0)), rfl, bel.frame _, fun h => by cases h⟩

theorem over : Rows.NotationLimitsSaid :=
  OpenClaim.holds_of_wide 5 Tryd.f5 rfl rfl rfl rfl rfl rfl rfl ⟨rfl, rfl, rfl, rfl, rfl⟩ rfl rfl rfl rfl rfl (by kernel_rfl) Tryd.func5 (by kernel_rfl)
    (of_decide_eq_true (by kernel_rfl)) (by unfold Func.isWrapper; first | (rw [if_pos (by decide +kernel)]; kernel_rfl) | (rw [if_neg (by decide +kernel)]; exact ⟨rfl, rfl⟩))
    (fun os started H enc _ => lifted os started H enc)

theorem proved : Rows.NotationLimitsCardSaid :=
  Claim7.holds_tied_plain_at .later [] [.data, .data, .data, .sentinel, .sentinel] true (true, "529efb2a7584da621922325beb1b198cc1ba06798890591b00a81a613af15fc8") true
    over (fun _ h => by cases h) (by kernel_rfl) (fun _ h => by cases h) notationLimits_row_tie rfl ⟨rfl, rfl⟩ (by kernel_rfl) rfl
    (fun f fn hf hfn => by
      obtain rfl : f = 5 := Option.some.inj ((show Tryd.prog.funcNamed "bitext/bitextlaw4.NotationLimits" = some 5 by kernel_rfl).symm.trans hf) |>.symm
      obtain rfl : fn = Tryd.f5 := (Option.some.inj (Tryd.func5.symm.trans hfn)).symm
      exact ⟨by kernel_rfl, fun j t ht => by
        rw [Tryd.params5] at ht
        have hm : t ∈ [3, 4] := by simpa using Array.mem_of_getElem? ht
        have hall : ([3, 4].all fun u => !Tryd.prog.wantsStandIn u) = true := by kernel_rfl
        exact (show Tryd.prog.wantsStandIn t = false by simpa using List.all_eq_true.1 hall t hm)⟩)
    (by kernel_rfl)
#print axioms proved
end Go.Proofs.YtaogjccmeajpoaaDoor.notationLimits
