/- Rename. -/
import Derived.Test.YtnfapcfajoboaaaFst
import Derived.Test.YtnfapcfajoboaaaPln
import Derived.Test.YtnfapcfajoboaaaNrm
namespace Go.Proofs.Ytnfapcfajoboaaa
open Go.ChangeShapes Go.WideShapes Go.ChangeAt Go.RowKit
set_option linter.unusedVariables false
set_option maxRecDepth 100000

/-- The number that a list of pairs gives a number. -/
def nmF (ps : List (Int × Int)) (id : Int) : Option Int := (ps.find? fun q => q.1 == id).map (·.2)
theorem nm_snoc (ps : List (Int × Int)) (a b id : Int) : nmF (ps ++ [(a, b)]) id = match nmF ps id with | some v => some v | none => if a = id then some b else none := by
  unfold nmF
  rw [List.find?_append]
  cases h : ps.find? fun q => q.1 == id with
  | some v => rfl
  | none =>
    by_cases e : a = id
    · simp [e]
    · simp [e]
theorem nm_have (ps : List (Int × Int)) (a b c : Int) (h : nmF ps a = some c) (id : Int) : nmF (ps ++ [(a, b)]) id = nmF ps id := by
  rw [nm_snoc]
  cases h2 : nmF ps id with
  | some v => rfl
  | none =>
    show (if a = id then _ else _) = none
    rw [if_neg (fun e => by rw [e, h2] at h; cases h)]
theorem nm_new (ps : List (Int × Int)) (a b : Int) (h : nmF ps a = none) (id : Int) : (if id = a then some b else nmF ps id) = nmF (ps ++ [(a, b)]) id := by
  rw [nm_snoc]
  by_cases e : id = a
  · rw [if_pos e, e, h]; simp
  · rw [if_neg e]
    cases h2 : nmF ps id with
    | some v => rfl
    | none => show none = if a = id then _ else _; rw [if_neg (fun c => e c.symm)]
def ren1 (ps : List (Int × Int)) (x : It) : List It := if isT x.k = true then (match nmF ps x.id with | some n => [⟨x.k, x.t, n⟩] | none => []) else [x]
def renL (ps : List (Int × Int)) (l : List It) : List It := l.flatMap (ren1 ps)
theorem ren_next (ps : List (Int × Int)) (l : List It) (k : Nat) (h : k < l.length) : renL ps (l.take (k + 1)) = renL ps (l.take k) ++ ren1 ps (l[k]'h) := by
  rw [List.take_succ_eq_append_getElem h]; unfold renL; rw [List.flatMap_append]; simp
theorem ren1_len (ps : List (Int × Int)) (x : It) : (ren1 ps x).length ≤ 1 := by unfold ren1; split; split <;> simp; simp
theorem ren_len (ps : List (Int × Int)) (l : List It) : ∀ k, k ≤ l.length → (renL ps (l.take k)).length ≤ k := by
  intro k
  induction k with
  | zero => intro _; simp [renL]
  | succ j ih =>
    intro hj
    rw [ren_next ps l j hj, List.length_append]
    have := ren1_len ps l[j]; have := ih (by omega); omega
theorem ren1_txt (ps : List (Int × Int)) (x : It) : txtI (ren1 ps x) ≤ x.t.size := by unfold ren1 txtI; split; split <;> simp; simp
theorem ren_txt (ps : List (Int × Int)) (l : List It) : txtI (renL ps l) ≤ txtI l := by
  induction l with
  | nil => exact Nat.le_refl _
  | cons x t ih =>
    have e1 : renL ps (x :: t) = ren1 ps x ++ renL ps t := rfl
    have e2 : txtI (x :: t) = x.t.size + txtI t := rfl
    rw [e1, txtI_append, e2]
    have := ren1_txt ps x; omega
set_option maxHeartbeats 3200000 in
theorem rename_any (p q r : Option Addr) (c d e : Nat) (l : List It) (fr to : List Int) (w : World) (hR : Its w p l) (hF : Ones w (Value.int .i64) q fr) (hT : Ones w (Value.int .i64) r to) (hO : Oks l) (hW : ∀ i (h : i < fr.length), (Lit.int .i64 (fr[i]'h)).wf = true)
    (hc : l.length ≤ c) (hm : c ≤ maxLen) (hd : fr.length ≤ d) (hdm : d ≤ maxLen) (he : to.length ≤ e) (hem : e ≤ maxLen) (hn : l.length ≤ 4000000000) (ht : txtI l ≤ 140737488355328) (hfn : fr.length ≤ 4000000000) :
    Calls Try.prog 54 #[.slice p l.length c, .slice q fr.length d, .slice r to.length e] w (EndI (norm (renL (fr.zip to) l)) w) := by
  have mixed : Try.prog.follows .mixedOrders = true := by kernel_rfl
  have hmm := @run_makeMap Try.prog
  unfold maxLen at hm hdm hem
  have hmin : min (fr.length : Int) (to.length : Int) = ((fr.zip to).length : Int) := by rw [List.length_zip]; omega
  have HMIN := Lib.hid hmin; clear hmin
  have hps : ∀ k (h : k < (fr.zip to).length), ∃ (h1 : k < fr.length) (h2 : k < to.length), (fr.zip to)[k] = (fr[k], to[k]) := fun k h => by
    have h' := h
    rw [List.length_zip] at h'
    exact ⟨by omega, by omega, List.getElem_zip ..⟩
  have hN1 : (fr.zip to).length ≤ fr.length := by rw [List.length_zip]; omega
  go_enter Try.func54, Try.ntmps54
  go_wp2_with fail
  rw [HMIN.out]
  generalize hzip : fr.zip to = ps at *
  have HZ := Lib.hid hzip
  clear hmm HMIN hzip
  go_loopw [22] (fun i wr => ∃ k : Nat, i = .int .i64 k ∧ k ≤ ps.length ∧ Below w.heap.size w wr ∧ w.heap.size < wr.heap.size ∧ MapAt 3 vInt vInt wr w.heap.size k (nmF (ps.take k))) (fun i _ => ps.length - (intOf i).toNat)
  case atStart => exact ⟨0, rfl, Nat.zero_le _, blw (Below.refl _ _) _, by simp, (MapAt.made w).ext (fun id => rfl)⟩
  case round =>
    obtain ⟨k, rfl, hk, hB, hS, hM⟩ := hrel
    by_cases hlt : k < ps.length
    · obtain ⟨h1, h2, hp⟩ := hps k hlt
      obtain ⟨ad, rfl, had, c0⟩ := (hF.call hB).row k h1
      obtain ⟨bd, rfl, hbd, d0⟩ := (hT.call hB).row k h2
      have hkey := key_int (hW k h1)
      have htk : ps.take (k + 1) = ps.take k ++ [(fr[k], to[k])] := by rw [List.take_succ_eq_append_getElem hlt, hp]
      generalize fr[k] = a at *
      generalize to[k] = b at *
      generalize ps.take k = P at *
      have HT := Lib.hid htk; clear htk hp
      cases hf : nmF P a with
      | some v =>
        have e1 : pickE vInt (.int .i64 0) (nmF P a) = .int .i64 v := by rw [hf]; rfl
        have e2 : (nmF P a).isSome = true := by rw [hf]; rfl
        have hx := nm_have P a b v hf
        have HX := Lib.hid hx
        clear hf hx
        go_wp2_with (at_lookup; refine wpl_lookOk rfl _ _ 100 rfl k3 Try.underlying100 _ (zeroI _) w.heap.size rfl hM a rfl hkey ?_; rw [e1, e2])
        go_wp2_with fail
        go_roundw
        case rel => exact ⟨k + 1, by go_num, hlt, hB, hS, (hM.mono (Nat.le_succ k)).ext (fun id => by rw [HT.out, HX.out])⟩
        case measure => simp [intOf]; omega
      | none =>
        have e1 : pickE vInt (.int .i64 0) (nmF P a) = .int .i64 0 := by rw [hf]; rfl
        have e2 : (nmF P a).isSome = false := by rw [hf]; rfl
        have hx := nm_new P a b hf
        have HX := Lib.hid hx
        obtain ⟨w4, hrun, MU4, hg4⟩ := (hM.drew).put (T := 100) k3 vInt_inj Try.underlying100 (by unfold maxLen; omega) hkey b
        have hrun' : (Instr.mapUpdate 100 (.map (some w.heap.size)) (.int .i64 a) (.int .i64 b)).run Try.prog wr.drew = .ok () w4 := hrun
        clear hf hx hrun
        go_wp2_with (at_lookup; refine wpl_lookOk rfl _ _ 100 rfl k3 Try.underlying100 _ (zeroI _) w.heap.size rfl hM a rfl hkey ?_; rw [e1, e2])
        go_wp2_with fail
        go_region_o
        all_goals go_wp2_with fail
        all_goals go_roundw
        case rel => exact ⟨k + 1, by go_num, hlt, hB.drew.trans (grown_below hg4 (Nat.le_refl _) (by simp; omega)), Nat.lt_of_lt_of_le hS hg4.size, MU4.ext (fun id => by rw [HT.out]; exact HX.out id)⟩
        case measure => simp [intOf]; omega
    · obtain rfl : k = ps.length := by omega
      rw [List.take_length] at hM
      go_wp2_with fail
      have HNM := Lib.hid (fun W p c hI h1 h2 => normalize_any p c (renL ps l) W hI h1 h2 (by have := ren_len ps l l.length (Nat.le_refl _); rw [List.take_length] at this; omega) (by have := ren_txt ps l; omega))
      go_loopw [11, 48] (fun v i wr' => ∃ k : Nat, k ≤ l.length ∧ i = .int .i64 k ∧ AccI wr (renL ps (l.take k)) v wr') (fun _ i _ => l.length - (intOf i).toNat)
      case atStart => exact ⟨0, Nat.zero_le _, rfl, Acc.start _⟩
      case round =>
        obtain ⟨k, hk, rfl, hA⟩ := hrel
        by_cases hlt2 : k < l.length
        · obtain ⟨ad, rfl, had, c0, c1, c2⟩ := (hR.call (BelowOn hB hA.below)).row k hlt2
          have hok := hO k hlt2
          have hnx := ren_next ps l k hlt2
          have hlen := ren_len ps l k hk
          have hM1 := hM.call hA.below
          generalize l[k] = x at *
          have ht := fun W => istag_any x.k x.t x.id W
          have hkey := key_int hok.id
          generalize renL ps (l.take k) = out at *
          have hA1 := hA.alloc (.cells #[.int .i64 x.k, .string x.t, .int .i64 x.id] 26)
          unfold ren1 at hnx
          cases q : isT x.k
          · rw [q, if_neg (by decide)] at hnx
            rw [q] at ht
            have HX := Lib.hid hnx; have HT := Lib.hid ht
            clear hnx ht q hok
            go_wp2_with fail
            refine (HT.out _).mono ?_; rintro e w2 ⟨rfl, hb2⟩
            have V := (Var3.new _ x.k x.t x.id).call hb2
            obtain ⟨v0, v1, v2, vl⟩ := id V
            have hA3 := hA1.call hb2
            go_wp2_with (at_builtin; refine wpl_append eI _ rfl _ _ rfl _ out _ rfl (hA3.alloc _) x w2.heap.size _ rfl (heap_alloc_new w2 _) rfl (by omega) (by unfold maxLen; omega) ?_; intro v' w4 hA4 hb4)
            go_wp2_with fail
            go_roundw
            case rel => exact ⟨k + 1, hlt2, by go_num, by rw [HX.out]; exact hA4⟩
            case measure => simp [intOf]; omega
          · rw [q, if_pos rfl] at hnx
            rw [q] at ht
            cases hf : nmF ps x.id with
            | none =>
              rw [hf] at hnx
              have hnx' : renL ps (l.take (k + 1)) = out := by rw [hnx]; simp
              have e1 : pickE vInt (.int .i64 0) (nmF ps x.id) = .int .i64 0 := by rw [hf]; rfl
              have e2 : (nmF ps x.id).isSome = false := by rw [hf]; rfl
              have HX := Lib.hid hnx'; have HT := Lib.hid ht
              clear hnx hnx' ht q hok hf
              go_wp2_with fail
              refine (HT.out _).mono ?_; rintro e w2 ⟨rfl, hb2⟩
              have V := (Var3.new _ x.k x.t x.id).call hb2
              obtain ⟨v0, v1, v2, vl⟩ := id V
              have hM2 := (hM1.alloc (.cells #[.int .i64 x.k, .string x.t, .int .i64 x.id] 26)).call hb2
              go_wp2_with (at_lookup; refine wpl_lookOk rfl _ _ 100 rfl k3 Try.underlying100 _ (zeroI _) w.heap.size rfl hM2 x.id rfl hkey ?_; rw [e1, e2])
              go_wp2_with fail
              go_roundw
              case rel => exact ⟨k + 1, hlt2, by go_num, by rw [HX.out]; exact hA1.call hb2⟩
              case measure => simp [intOf]; omega
            | some n =>
              rw [hf] at hnx
              have e1 : pickE vInt (.int .i64 0) (nmF ps x.id) = .int .i64 n := by rw [hf]; rfl
              have e2 : (nmF ps x.id).isSome = true := by rw [hf]; rfl
              have HX := Lib.hid hnx; have HT := Lib.hid ht
              clear hnx ht q hok hf
              go_wp2_with fail
              have hlo := hA.own.lt
              have hsz := hA.below.size
              refine (HT.out _).mono ?_; rintro e w2 ⟨rfl, hb2⟩
              have V := (Var3.new _ x.k x.t x.id).call hb2
              obtain ⟨v0, v1, v2, vl⟩ := id V
              have hM2 := (hM1.alloc (.cells #[.int .i64 x.k, .string x.t, .int .i64 x.id] 26)).call hb2
              have hA3 := hA1.call hb2
              have hh : w2.heap[wr.heap.size]? = some (.cells #[.int .i64 x.k, .string x.t, .int .i64 x.id] 26 (0, 0)) := (hb2.block wr.heap.size (by simp)).trans (heap_alloc_new wr _)
              have f2 := Lib.frozen_of_heap hh 2
              have hA4 : AccI _ out _ (w2.setCell ⟨wr.heap.size, 2, none⟩ (.int .i64 n)) := ⟨hA3.below.setCell (p := ⟨wr.heap.size, 2, none⟩) hsz (.int .i64 n), ownsRow_setCell_other hA3.own (a := ⟨wr.heap.size, 2, none⟩) (fun e => by have := (hlo _ e).2; exact Nat.lt_irrefl _ this) (.int .i64 n)⟩
              go_wp2_with (first | (at_lookup; refine wpl_lookOk rfl _ _ 100 rfl k3 Try.underlying100 _ (zeroI _) w.heap.size rfl hM2 x.id rfl hkey ?_; rw [e1, e2]) | (at_builtin; refine wpl_append eI _ rfl _ _ rfl _ out _ rfl (hA4.alloc _) ⟨x.k, x.t, n⟩ w2.heap.size _ rfl (by have := heap_alloc_new (w2.setCell ⟨wr.heap.size, 2, none⟩ (.int .i64 n)) (.cells #[.int .i64 x.k, .string x.t, .int .i64 n] 26); simpa using this) rfl (by omega) (by unfold maxLen; omega) ?_; intro v' w4 hA5 hb4))
              go_wp2_with fail
              go_roundw
              case rel => exact ⟨k + 1, hlt2, by go_num, by rw [HX.out]; exact hA5⟩
              case measure => simp [intOf]; omega
        · obtain rfl : k = l.length := by omega
          rw [List.take_length] at hA
          obtain ⟨p2, c2, rfl, g1, g2, hI⟩ := hA.own.its
          go_wp2_with fail
          refine (HNM.out _ _ _ hI g1 g2).mono ?_
          rintro e w6 ⟨v3, rfl, hA3⟩
          have hB2 := BelowOn hB hA.below
          have hA4 : AccI w (norm (renL ps l)) v3 w6 := ⟨BelowOn hB2 hA3.below, ownsRow_base hA3.own hB2.size⟩
          go_wp2_with fail
          go_ret
          exact ⟨_, rfl, hA4⟩
end Go.Proofs.Ytnfapcfajoboaaa
