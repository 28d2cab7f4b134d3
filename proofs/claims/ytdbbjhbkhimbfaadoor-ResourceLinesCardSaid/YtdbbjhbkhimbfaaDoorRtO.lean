/- Rename. The reference's Rename. Renumber and Canonical. Shape. What the law's own generator answers; what Shape answers, in one form. Contracts of appendText and Encode. The contract of Encode. What the laws' generator makes without tags; decoding what is encoded. Plain mathematics of ResourceLines: a value with a continuation in it, and its line. Plain mathematics of ResourceLines: what the file of two lines is divided into. -/
import Derived.Test.YtdbbjhbkhimbfaaDoorFst
import Derived.Test.YtdbbjhbkhimbfaaDoorPln
import Derived.Test.YtdbbjhbkhimbfaaDoorNrm
import Derived.Test.YtdbbjhbkhimbfaaDoorTwo
import Derived.Test.YtdbbjhbkhimbfaaDoorRnr
import Derived.Test.YtdbbjhbkhimbfaaDoorSam
import Derived.Test.YtdbbjhbkhimbfaaDoorFrw
import Derived.Test.YtdbbjhbkhimbfaaDoorGvl
import Derived.Test.YtdbbjhbkhimbfaaDoorPrt
import Derived.Test.YtdbbjhbkhimbfaaDoorRtD
import Derived.Test.YtdbbjhbkhimbfaaDoorTgs
import Derived.Test.YtdbbjhbkhimbfaaDoorCcW
import Derived.Lib.SlBytesRow
import Derived.Test.YtdbbjhbkhimbfaaDoorNrq
namespace Go.Proofs.YtdbbjhbkhimbfaaDoor
open Go.ChangeShapes Go.WideShapes Go.ChangeAt Go.RowKit
set_option linter.unusedVariables false
set_option maxRecDepth 100000

/-- The number that a list of pairs gives a number. -/
def nmF (ps : List (Int × Int)) (id : Int) : Option Int := (ps.find? fun q => q.1 == id).map (·.2)
theorem nm_snoc (ps : List (Int × Int)) (a b id : Int) : nmF (ps ++ [(a, b)]) id = match nmF ps id with | some v => some v | none => if a = id then some b else none := by
  unfold nmF
  rw [List.find?_append]
  cases h : ps.find? fun q => q.1 == id with
  | some v => rfl
  | none =>
    by_cases e : a = id
    · simp [e]
    · simp [e]
theorem nm_have (ps : List (Int × Int)) (a b c : Int) (h : nmF ps a = some c) (id : Int) : nmF (ps ++ [(a, b)]) id = nmF ps id := by
  rw [nm_snoc]
  cases h2 : nmF ps id with
  | some v => rfl
  | none =>
    show (if a = id then _ else _) = none
    rw [if_neg (fun e => by rw [e, h2] at h; cases h)]
theorem nm_new (ps : List (Int × Int)) (a b : Int) (h : nmF ps a = none) (id : Int) : (if id = a then some b else nmF ps id) = nmF (ps ++ [(a, b)]) id := by
  rw [nm_snoc]
  by_cases e : id = a
  · rw [if_pos e, e, h]; simp
  · rw [if_neg e]
    cases h2 : nmF ps id with
    | some v => rfl
    | none => show none = if a = id then _ else _; rw [if_neg (fun c => e c.symm)]
def ren1 (ps : List (Int × Int)) (x : It) : List It := if isT x.k = true then (match nmF ps x.id with | some n => [⟨x.k, x.t, n⟩] | none => []) else [x]
def renL (ps : List (Int × Int)) (l : List It) : List It := l.flatMap (ren1 ps)
theorem ren_next (ps : List (Int × Int)) (l : List It) (k : Nat) (h : k < l.length) : renL ps (l.take (k + 1)) = renL ps (l.take k) ++ ren1 ps (l[k]'h) := by
  rw [List.take_succ_eq_append_getElem h]; unfold renL; rw [List.flatMap_append]; simp
theorem ren1_len (ps : List (Int × Int)) (x : It) : (ren1 ps x).length ≤ 1 := by unfold ren1; split; split <;> simp; simp
theorem ren_len (ps : List (Int × Int)) (l : List It) : ∀ k, k ≤ l.length → (renL ps (l.take k)).length ≤ k := by
  intro k
  induction k with
  | zero => intro _; simp [renL]
  | succ j ih =>
    intro hj
    rw [ren_next ps l j hj, List.length_append]
    have := ren1_len ps l[j]; have := ih (by omega); omega
theorem ren1_txt (ps : List (Int × Int)) (x : It) : txtI (ren1 ps x) ≤ x.t.size := by unfold ren1 txtI; split; split <;> simp; simp
theorem ren_txt (ps : List (Int × Int)) (l : List It) : txtI (renL ps l) ≤ txtI l := by
  induction l with
  | nil => exact Nat.le_refl _
  | cons x t ih =>
    have e1 : renL ps (x :: t) = ren1 ps x ++ renL ps t := rfl
    have e2 : txtI (x :: t) = x.t.size + txtI t := rfl
    rw [e1, txtI_append, e2]
    have := ren1_txt ps x; omega
end Go.Proofs.YtdbbjhbkhimbfaaDoor
namespace Go.Proofs.YtdbbjhbkhimbfaaDoor
open Go.ChangeShapes Go.WideShapes Go.ChangeAt Go.RowKit
set_option linter.unusedVariables false
set_option maxRecDepth 100000

theorem nmr_one (P : List (Int × Int)) (a b id : Int) (h : nmF P id = none) : nmF (P ++ [(a, b)]) id = if a = id then some b else none := by rw [nm_snoc, h]
theorem nm_some (P Q : List (Int × Int)) (id n : Int) (h : nmF P id = some n) : nmF (P ++ Q) id = some n := by
  unfold nmF at *
  rw [List.find?_append]
  cases h2 : P.find? fun q => q.1 == id with
  | some v => rw [h2] at h; exact h
  | none => rw [h2] at h; cases h
theorem nm_take (P : List (Int × Int)) (j : Nat) (id n : Int) (h : nmF (P.take j) id = some n) : nmF P id = some n := by
  rw [← List.take_append_drop j P]; exact nm_some _ _ _ _ h

set_option maxHeartbeats 3200000 in
theorem rrename_any (p q r : Option Addr) (c d e : Nat) (l : List It) (fr tto : List Int) (w : World) (hR : Its w p l) (hF : Ones w (Value.int .i64) q fr) (hT : Ones w (Value.int .i64) r tto)
    (hc : l.length ≤ c) (hm : c ≤ maxLen) (hd : fr.length ≤ d) (hdm : d ≤ maxLen) (he : tto.length ≤ e) (hem : e ≤ maxLen) (hn : l.length ≤ 4000000000) (ht : txtI l ≤ 140737488355328) (hfn : fr.length ≤ 4000000000) :
    Calls Tryd.prog 57 #[.slice p l.length c, .slice q fr.length d, .slice r tto.length e] w (EndI (norm (renL (fr.zip tto) l)) w) := by
  have mixed : Tryd.prog.follows .mixedOrders = true := by kernel_rfl
  unfold maxLen at hm hdm hem
  have hps : ∀ k (h : k < (fr.zip tto).length), ∃ (h1 : k < fr.length) (h2 : k < tto.length), (fr.zip tto)[k] = (fr[k], tto[k]) := fun k h => by
    have h' := h
    rw [List.length_zip] at h'
    exact ⟨by omega, by omega, List.getElem_zip ..⟩
  have hN1 : (fr.zip tto).length ≤ fr.length := by rw [List.length_zip]; omega
  have hN2 : (fr.zip tto).length < fr.length → (fr.zip tto).length = tto.length := by rw [List.length_zip]; omega
  generalize hzip : fr.zip tto = ps at *
  have HZ := Lib.hid hzip
  clear hzip
  have HNM := Lib.hid (fun W p c hI h1 h2 => rnormalize_any p c (renL ps l) W hI h1 h2 (by have := ren_len ps l l.length (Nat.le_refl _); rw [List.take_length] at this; omega) (by have := ren_txt ps l; omega))
  go_enter Tryd.func57, Tryd.ntmps57
  go_wp2_with fail
  go_loopw [7, 13] (fun v i wr => ∃ k : Nat, k ≤ l.length ∧ i = .int .i64 k ∧ AccI w (renL ps (l.take k)) v wr) (fun _ i _ => l.length - (intOf i).toNat)
  case atStart => exact ⟨0, Nat.zero_le _, rfl, Acc.start _⟩
  case round =>
    obtain ⟨k, hk, rfl, hA⟩ := hrel
    by_cases hlt2 : k < l.length
    · obtain ⟨ad, rfl, had, c0, c1, c2⟩ := (hR.call hA.below).row k hlt2
      have hnx := ren_next ps l k hlt2
      have hlen := ren_len ps l k hk
      generalize l[k] = x at *
      have ht := fun W => ristag_any x.k x.t x.id W
      generalize renL ps (l.take k) = out at *
      have hA1 := hA.alloc (.cells #[.int .i64 x.k, .string x.t, .int .i64 x.id] 58)
      unfold ren1 at hnx
      cases q : isT x.k
      · rw [q, if_neg (by decide)] at hnx
        rw [q] at ht
        have HX := Lib.hid hnx; have HT := Lib.hid ht
        clear hnx ht q
        go_wp2_with fail
        refine (HT.out _).mono ?_; rintro e w2 ⟨rfl, hb2⟩
        have V := (Var3.new _ x.k x.t x.id).call hb2
        obtain ⟨v0, v1, v2, vl⟩ := id V
        have hA3 := hA1.call hb2
        go_wp2_with (at_builtin; refine wpl_append eI _ rfl _ _ rfl _ out _ rfl (hA3.alloc _) x w2.heap.size _ rfl (heap_alloc_new w2 _) rfl (by omega) (by unfold maxLen; omega) ?_; intro v' w4 hA4 hb4)
        go_wp2_with fail
        go_roundw
        case rel => exact ⟨k + 1, hlt2, by go_num, by rw [HX.out]; exact hA4⟩
        case measure => simp [intOf]; omega
      · rw [q, if_pos rfl] at hnx
        rw [q] at ht
        have HX := Lib.hid hnx; have HT := Lib.hid ht
        clear hnx ht q
        go_wp2_with fail
        refine (HT.out _).mono ?_; rintro e w2 ⟨rfl, hb2⟩
        have V := (Var3.new _ x.k x.t x.id).call hb2
        have hA3 := hA1.call hb2
        go_wp2_with fail
        generalize wr.heap.size = vb at *
        go_loopw [7, 10] (fun v i wr' => ∃ j : Nat, j ≤ ps.length ∧ i = .int .i64 j ∧ v = u7 ∧ nmF (ps.take j) x.id = none ∧ AccI w out u7 wr' ∧ Var3 wr' vb x.k x.t x.id) (fun _ i _ => ps.length - (intOf i).toNat)
        case atStart => exact ⟨0, Nat.zero_le _, rfl, by first | rfl | trivial, rfl, hA3, V⟩
        case round =>
          obtain ⟨j, hj, rfl, hvv, hno, hA5, V5⟩ := hrel
          subst hvv
          by_cases hlj : j < ps.length
          · obtain ⟨h1, h2, hp⟩ := hps j hlj
            obtain ⟨fd, rfl, hfd, f0⟩ := (hF.call hA5.below).row j h1
            obtain ⟨td, rfl, htd, t0⟩ := (hT.call hA5.below).row j h2
            have htk : ps.take (j + 1) = ps.take j ++ [(fr[j], tto[j])] := by rw [List.take_succ_eq_append_getElem hlj, hp]
            have q1 : decide (j < fr.length) = true := decide_eq_true h1
            have q2 : decide (j < tto.length) = true := decide_eq_true h2
            obtain ⟨v0, v1, v2, vl⟩ := id V5
            generalize fr[j] = a at *
            generalize tto[j] = b at *
            have hst := nmr_one (ps.take j) a b x.id hno
            rw [← htk] at hst
            by_cases qa : a = x.id
            · rw [if_pos qa] at hst
              have hb := nm_take ps (j + 1) _ _ hst
              have hx := HX.out
              rw [hb] at hx
              have HX2 := Lib.hid hx
              have q3 : (a == x.id) = true := by simpa using qa
              clear hx hb hst htk hp qa HX
              go_wp2_with fail
              go_region_o
              all_goals go_wp2_with fail
              have hA6 : AccI w out u7 wr.drew.drew := hA5.drew.drew
              have hsz : w.heap.size ≤ (wr.drew.drew.alloc (.cells #[.int .i64 x.k, .string x.t, .int .i64 b] 58)).heap.size := Nat.le_trans hA6.below.size (blw (Below.refl _ wr.drew.drew) _).size
              go_region_law (refine step_app eI _ (by rfl) _ _ (by rfl) w.heap.size out u7 (by rfl) (World.ownsRow.alloc hA6.own (.cells #[.int .i64 x.k, .string x.t, .int .i64 b] 58)) hsz ⟨x.k, x.t, b⟩ wr.heap.size #[.int .i64 x.k, .string x.t, .int .i64 b] (by rfl) (heap_alloc_new wr.drew.drew (.cells #[.int .i64 x.k, .string x.t, .int .i64 b] 58)) (by rfl) (by omega) (by unfold maxLen; omega) ?_; intro g2 cap w5 hown5 hgr5 hloc5)
              all_goals have hA7 : AccI w (out ++ [⟨x.k, x.t, b⟩]) _ w5 := (hA6.alloc _).more hgr5 hown5
              all_goals go_wp2_with fail
              all_goals go_roundw
              all_goals first | exact ⟨k + 1, hlt2, by go_num, by rw [HX2.out]; exact hA7⟩ | (simp [intOf]; omega)
            · rw [if_neg qa] at hst
              have HS := Lib.hid hst
              have q3 : (a == x.id) = false := by simpa using qa
              clear hst htk hp qa
              go_wp2_with fail
              go_quiet (fail)
              go_wp2_with fail
              go_roundw
              case rel => exact ⟨j + 1, hlj, by go_num, by first | rfl | trivial, HS.out, ⟨bdrN hA5.below _, hA5.own⟩, V5.c0, V5.c1, V5.c2, V5.lt⟩
              case measure => simp [intOf]; omega
          · obtain rfl : j = ps.length := by omega
            rw [List.take_length] at hno
            have hx := HX.out
            rw [hno] at hx
            have hx2 : renL ps (l.take (k + 1)) = out := by rw [hx]; simp
            have HX2 := Lib.hid hx2
            clear hx hx2 HX
            by_cases hl1 : ps.length < fr.length
            · have q1 : decide (ps.length < fr.length) = true := decide_eq_true hl1
              have q2 : decide (ps.length < tto.length) = false := decide_eq_false (by have := hN2 hl1; omega)
              go_wp2_with fail
              go_roundw
              case rel => exact ⟨k + 1, hlt2, by go_num, by rw [HX2.out]; exact hA5⟩
              case measure => simp [intOf]; omega
            · have q1 : decide (ps.length < fr.length) = false := decide_eq_false hl1
              go_wp2_with fail
              go_roundw
              case rel => exact ⟨k + 1, hlt2, by go_num, by rw [HX2.out]; exact hA5⟩
              case measure => simp [intOf]; omega
    · obtain rfl : k = l.length := by omega
      rw [List.take_length] at hA
      obtain ⟨p2, c2, rfl, g1, g2, hI⟩ := hA.own.its
      go_wp2_with fail
      refine (HNM.out _ _ _ hI g1 g2).mono ?_
      rintro e w6 ⟨v3, rfl, hA3⟩
      have hA4 : AccI w (norm (renL ps l)) v3 w6 := ⟨BelowOn hA.below hA3.below, ownsRow_base hA3.own hA.below.size⟩
      go_wp2_with fail
      go_ret
      exact ⟨_, rfl, hA4⟩
end Go.Proofs.YtdbbjhbkhimbfaaDoor
namespace Go.Proofs.YtdbbjhbkhimbfaaDoor
open Go.ChangeShapes Go.WideShapes Go.ChangeAt Go.RowKit
set_option linter.unusedVariables false
set_option maxRecDepth 100000

def EndF2 (L : List It) (w : World) (e : Ending) (w' : World) : Prop := ∃ p c, e = .returned (.slice p L.length c) ∧ L.length ≤ c ∧ c ≤ maxLen ∧ Its w' p L ∧ Below w.heap.size w w'
theorem EndI.f2 {L : List It} {w w' : World} {e : Ending} (h : EndI L w e w') : EndF2 L w e w' := by
  obtain ⟨v, rfl, hA⟩ := h
  obtain ⟨p, c, rfl, h1, h2, hI⟩ := hA.own.its
  exact ⟨p, c, rfl, h1, h2, hI, hA.below⟩
def EndNF (L : List Int) (w : World) (e : Ending) (w' : World) : Prop := ∃ p c, e = .returned (.slice p L.length c) ∧ L.length ≤ c ∧ c ≤ maxLen ∧ Ones w' (Value.int .i64) p L ∧ Below w.heap.size w w'
theorem EndN.f {L : List Int} {w w' : World} {e : Ending} (h : EndN L w e w') : EndNF L w e w' := by
  obtain ⟨v, rfl, hA⟩ := h
  obtain ⟨p, c, rfl, h1, h2, hI⟩ := hA.own.ints
  exact ⟨p, c, rfl, h1, h2, hI, hA.below⟩
theorem nums_wf (l : List It) (hO : Oks l) : ∀ i (h : i < (numsL l).length), (Lit.int .i64 ((numsL l)[i]'h)).wf = true := by
  have : ∀ (l : List It) (out : List Int), (∀ x ∈ l, x.ok) → (∀ n ∈ out, (Lit.int .i64 n).wf = true) → ∀ n ∈ l.foldl numS out, (Lit.int .i64 n).wf = true := by
    intro l
    induction l with
    | nil => intro out _ h; exact h
    | cons x t ih =>
      intro out h1 h2
      rw [List.foldl_cons]
      refine ih _ (fun y hy => h1 y (by simp [hy])) ?_
      intro n hn
      unfold numS at hn
      split at hn
      · rcases List.mem_append.1 hn with hn | hn
        · exact h2 n hn
        · rw [List.mem_singleton.1 hn]; exact (h1 x (by simp)).id
      · exact h2 n hn
  intro i h
  exact this l [] (fun x hx => by obtain ⟨j, hj, e⟩ := List.getElem_of_mem hx; rw [← e]; exact hO j hj) (fun n hn => by cases hn) _ (List.getElem_mem h)
theorem nums_le (l : List It) : (numsL l).length ≤ l.length := by
  have h := nums_len l _ (Nat.le_refl _)
  rwa [List.take_length] at h
theorem rrename_f (p q r : Option Addr) (c d e : Nat) (l : List It) (fr tto : List Int) (w : World) (hR : Its w p l) (hF : Ones w (Value.int .i64) q fr) (hT : Ones w (Value.int .i64) r tto)
    (hc : l.length ≤ c) (hm : c ≤ maxLen) (hd : fr.length ≤ d) (hdm : d ≤ maxLen) (he : tto.length ≤ e) (hem : e ≤ maxLen) (hn : l.length ≤ 4000000000) (ht : txtI l ≤ 140737488355328) (hfn : fr.length ≤ 4000000000) :
    Calls Tryd.prog 57 #[.slice p l.length c, .slice q fr.length d, .slice r tto.length e] w (EndF2 (norm (renL (fr.zip tto) l)) w) :=
  (rrename_any p q r c d e l fr tto w hR hF hT hc hm hd hdm he hem hn ht hfn).mono fun _ _ h => EndI.f2 h
/-- The pairs of Renumber. -/
def upPairs (ns : List Int) : List (Int × Int) := ns.zip (upL ns.length)

set_option maxHeartbeats 1600000 in
theorem rrenumber_any (p : Option Addr) (cap : Nat) (l : List It) (w : World) (hR : Its w p l) (hc : l.length ≤ cap) (hm : cap ≤ maxLen) (hn : l.length ≤ 4000000000) (ht : txtI l ≤ 140737488355328) :
    Calls Tryd.prog 29 #[.slice p l.length cap] w (EndF2 (norm (renL (upPairs (numsL l)) l)) w) := by
  have h1 := fun W i => (rnumbers_any p cap l W i hc hm hn).mono fun _ _ h => EndN.f h
  have hle := nums_le l
  unfold upPairs
  generalize numsL l = ns at *
  have h2 := fun W => (rupto_any ns.length W (by omega)).mono fun _ _ h => EndN.f h
  have hul := upL_len ns.length
  generalize upL ns.length = us at *
  have h3 := fun W q r d e i j k a b c' f => rrename_f p q r cap d e l ns us W i j k hc hm a b c' f hn ht (by omega)
  rw [hul] at h3
  generalize norm (renL (ns.zip us) l) = out at *
  have H1 := Lib.hid h1; have H2 := Lib.hid (show ∀ W, Calls Tryd.prog 58 #[.int .i64 ns.length] W fun e w' => ∃ p c, e = .returned (.slice p ns.length c) ∧ ns.length ≤ c ∧ c ≤ maxLen ∧ Ones w' (Value.int .i64) p us ∧ Below W.heap.size W w' from fun W => (h2 W).mono fun _ _ ⟨p, c, a, b, d⟩ => ⟨p, c, by rw [← hul]; exact a, by rw [← hul]; exact b, d⟩); have H3 := Lib.hid h3
  clear h1 h2 h3
  go_enter Tryd.func29, Tryd.ntmps29
  go_wp2_with fail
  refine (H1.out _ hR).mono ?_; rintro e w1 ⟨q, d, rfl, a1, a2, i1, b1⟩
  go_wp2_with fail
  refine (H2.out _).mono ?_; rintro e w2 ⟨r, e2, rfl, a3, a4, i2, b2⟩
  go_wp2_with fail
  refine (H3.out _ q r d e2 ((hR.call b1).call b2) (i1.call b2) i2 a1 a2 a3 a4).mono ?_; rintro e w3 ⟨r3, c3, rfl, a5, a6, i3, b3⟩
  go_wp2_with fail
  go_ret
  exact ⟨_, _, rfl, a5, a6, i3, BelowOn (BelowOn b1 b2) b3⟩
def EndFF (L M : List It) (w : World) (e : Ending) (w' : World) : Prop := ∃ p c q d, e = .returned (.tuple #[.slice p L.length c, .slice q M.length d]) ∧ L.length ≤ c ∧ c ≤ maxLen ∧ M.length ≤ d ∧ d ≤ maxLen ∧ Its w' p L ∧ Its w' q M ∧ Below w.heap.size w w'
theorem Oks.append {l m : List It} (h : Oks l) (k : Oks m) : Oks (l ++ m) := fun i hi => by
  rcases List.mem_append.1 (List.getElem_mem hi) with hx | hx
  · obtain ⟨j, hj, e⟩ := List.getElem_of_mem hx; rw [← e]; exact h j hj
  · obtain ⟨j, hj, e⟩ := List.getElem_of_mem hx; rw [← e]; exact k j hj

end Go.Proofs.YtdbbjhbkhimbfaaDoor
namespace Go.Proofs.YtdbbjhbkhimbfaaDoor
open Go.ChangeShapes Go.WideShapes Go.ChangeAt Go.RowKit
set_option linter.unusedVariables false
set_option maxRecDepth 100000

theorem int_last (o : List Int) (h : 0 < o.length) : ∃ L y, o = L ++ [y] ∧ o.getLast? = some y := by
  have hne : o ≠ [] := by intro e; rw [e] at h; cases h
  exact ⟨o.dropLast, o.getLast hne, (List.dropLast_concat_getLast hne).symm, List.getLast?_eq_some_getLast hne⟩
/-- A slice of numbers that is not empty, as it lies. -/
theorem OwnN.at {base : Nat} {L : List Int} {v : Value} {w : World} (h : OwnN base L v w) (h0 : 0 < L.length) : ∃ g cap, v = .slice (some ⟨g, 0, none⟩) L.length cap ∧ L.length ≤ cap ∧ cap ≤ maxLen ∧ ∀ i (hi : i < L.length), w.cell? ⟨g, i, none⟩ = some (.int .i64 (L[i]'hi)) := by
  obtain ⟨p, c, hv, h1, h2, hI⟩ := h.ints
  rcases h.2 with ⟨_, hz⟩ | ⟨g, cap, cur, hv2, _⟩
  · omega
  · rw [hv] at hv2
    injection hv2 with e1 e2 e3
    subst e1; subst e3
    refine ⟨g, c, hv, h1, h2, fun i hi => ?_⟩
    obtain ⟨a, e, _, hc⟩ := hI h0
    cases e
    have := hc i hi
    rwa [show (⟨g, 0, none⟩ : Addr).add i = ⟨g, i, none⟩ by unfold Addr.add; split <;> simp_all] at this
theorem OwnN.form {base : Nat} {L : List Int} {v : Value} {w : World} (h : OwnN base L v w) : ∃ p cap, v = .slice p L.length cap := by
  obtain ⟨p, c, hv, _⟩ := h.ints; exact ⟨p, c, hv⟩

end Go.Proofs.YtdbbjhbkhimbfaaDoor
namespace Go.Proofs.YtdbbjhbkhimbfaaDoor
open Go.ChangeShapes Go.WideShapes Go.ChangeAt Go.RowKit
set_option linter.unusedVariables false
set_option maxRecDepth 100000

/-- The fragment of a law. -/
def mk (l : List Int) (tags nested : Bool) : List It := (fragG l tags nested 0 8).1
theorem mk_ok (l : List Int) (tags nested : Bool) : FragOk 8 (mk l tags nested) := (frag_ok l tags nested 0 8 (by decide)).1
theorem mk_sm (l : List Int) (tags nested : Bool) : Sm 1 (mk l tags nested) := ⟨by have := (mk_ok l tags nested).len; omega, by have := (mk_ok l tags nested).txt; omega⟩
/-- The address of numbers: of an empty slice it is not looked at. -/
theorem ones_any {w : World} {p : Option Addr} {L : List Int} (hL : Ones w (Value.int .i64) p L) (h0 : 0 < L.length) : ∀ a, p = some a → a.block < w.heap.size := fun a ha => by
  obtain ⟨b, e, hlt, _⟩ := hL h0
  rw [ha] at e; injection e with e; rw [e]; exact hlt

theorem NumsAt.made {p : Option Addr} {cap : Nat} {L : List Int} {w : World} (hL : Ones w (Value.int .i64) p L) (hw : ∀ i (h : i < L.length), (Lit.int .i64 (L[i]'h)).wf = true) (hc : L.length ≤ cap) (hm : cap ≤ maxLen) :
    NumsAt (w.alloc (.cells #[.slice p L.length cap, .int .i64 0] 50)) w.heap.size p cap L 0 :=
  ⟨heap_alloc_new w _, hL.call (blw (Below.refl _ _) _), fun h0 a ha => by have := ones_any hL h0 a ha; omega, hw, hc, hm⟩
def shC (st : Option (List Int × List Int)) : List Int := match st with | some (c, _) => c | none => []
def shO (st : Option (List Int × List Int)) : List Int := match st with | some (_, o) => o | none => []
/-- What Shape answers, whether it fails or not. -/
def EndShU (st : Option (List Int × List Int)) (w : World) (e : Ending) (w' : World) : Prop := ∃ p1 c1 p2 c2, e = .returned (.tuple #[.slice p1 (shC st).length c1, .slice p2 (shO st).length c2, .bool st.isSome]) ∧
  (shC st).length ≤ c1 ∧ c1 ≤ maxLen ∧ Ones w' (Value.int .i64) p1 (shC st) ∧ (shO st).length ≤ c2 ∧ c2 ≤ maxLen ∧ Ones w' (Value.int .i64) p2 (shO st) ∧ Below w.heap.size w w'
theorem EndSh.u {st : Option (List Int × List Int)} {w w' : World} {e : Ending} (h : EndSh st w e w') : EndShU st w e w' := by
  cases st with
  | none => exact ⟨none, 0, none, 0, h.1, Nat.le_refl _, Nat.zero_le _, Ones.nil _ _ _, Nat.le_refl _, Nat.zero_le _, Ones.nil _ _ _, h.2⟩
  | some x =>
    obtain ⟨c, o⟩ := x
    obtain ⟨vc, vo, rfl, hT⟩ := h
    obtain ⟨p1, c1, rfl, a1, a2, a3⟩ := hT.c.ints
    obtain ⟨p2, c2, rfl, b1, b2, b3⟩ := hT.o.ints
    exact ⟨p1, c1, p2, c2, rfl, a1, a2, a3, b1, b2, b3, hT.below⟩
end Go.Proofs.YtdbbjhbkhimbfaaDoor
namespace Go.Proofs.YtdbbjhbkhimbfaaDoor
open Go.ChangeShapes Go.WideShapes Go.ChangeAt Go.RowKit
set_option linter.unusedVariables false
set_option linter.unusedSimpArgs false
set_option maxRecDepth 100000

theorem upto_free (c : UInt8) (l : List UInt8) (h : ∀ x ∈ l, x ≠ c) : upto c l = l := by
  unfold upto
  induction l with
  | nil => rfl
  | cons x t ih =>
    rw [List.takeWhile_cons, if_pos (by simpa using h x (List.mem_cons_self ..)), ih (fun y hy => h y (List.mem_cons_of_mem _ hy))]
theorem byR_idx (c : UInt8) : (∃ (n : Nat) (h : n < 6) (x : UInt8), Lib.indexByte [10, 9, 32, 13, 92, 123] c = (n : Int) ∧ c ≠ 32 ∧ (⟨#[110, 116, 115, 114, 92, 123]⟩ : ByteArray)[n]'(by exact h) = x ∧ byR c = [92, x]) ∨ ((Lib.indexByte [10, 9, 32, 13, 92, 123] c = -1 ∨ (Lib.indexByte [10, 9, 32, 13, 92, 123] c = 2 ∧ c = 32)) ∧ byR c = [c]) := by
  by_cases h10 : c = 10
  · subst h10; exact .inl ⟨0, by decide, 110, by decide, by decide, rfl, by decide⟩
  by_cases h9 : c = 9
  · subst h9; exact .inl ⟨1, by decide, 116, by decide, by decide, rfl, by decide⟩
  by_cases h13 : c = 13
  · subst h13; exact .inl ⟨3, by decide, 114, by decide, by decide, rfl, by decide⟩
  by_cases h92 : c = 92
  · subst h92; exact .inl ⟨4, by decide, 92, by decide, by decide, rfl, by decide⟩
  by_cases h123 : c = 123
  · subst h123; exact .inl ⟨5, by decide, 123, by decide, by decide, rfl, by decide⟩
  refine .inr ⟨?_, by unfold byR; rw [if_neg h10, if_neg h9, if_neg h13, if_neg (by simp [h92, h123])]⟩
  by_cases h32 : c = 32
  · subst h32; exact .inr ⟨by decide, rfl⟩
  · left
    rw [indexByte_upto]
    have : hasU c [10, 9, 32, 13, 92, 123] = false := by
      have h : upto c [10, 9, 32, 13, 92, 123] = [10, 9, 32, 13, 92, 123] := upto_free c _ (fun x hx => by
        simp only [List.mem_cons, List.not_mem_nil, or_false] at hx
        rcases hx with rfl | rfl | rfl | rfl | rfl | rfl
        · exact fun e => h10 e.symm
        · exact fun e => h9 e.symm
        · exact fun e => h32 e.symm
        · exact fun e => h13 e.symm
        · exact fun e => h92 e.symm
        · exact fun e => h123 e.symm)
      unfold hasU; rw [h]; simp
    rw [this]; rfl
def encT (l : List UInt8) : List UInt8 := l.flatMap byR
theorem encT_next (s : ByteArray) (k : Nat) (h : k < s.size) : encT (s.data.toList.take (k + 1)) = encT (s.data.toList.take k) ++ byR s[k] := by
  unfold encT
  rw [List.take_succ_eq_append_getElem (by simpa using h), List.flatMap_append]; simp; rfl
theorem byR_len (c : UInt8) : (byR c).length ≤ 2 := by unfold byR; repeat' split
                                                       all_goals simp
theorem encT_len (l : List UInt8) : (encT l).length ≤ 2 * l.length := by
  unfold encT
  induction l with
  | nil => simp
  | cons x t ih => rw [List.flatMap_cons, List.length_append, List.length_cons]; have := byR_len x; omega
theorem encT_take (s : ByteArray) (k : Nat) (h : k ≤ s.size) : (encT (s.data.toList.take k)).length ≤ 2 * s.size := by
  have := encT_len (s.data.toList.take k)
  have h2 : (s.data.toList.take k).length ≤ s.size := by simp; omega
  omega
set_option maxHeartbeats 3200000 in
theorem rappendtext_any (base : Nat) (l : List UInt8) (p : Option Addr) (n c : Nat) (t : ByteArray) (w : World) (h : OwB base l (.slice p n c) w) (hb : base ≤ w.heap.size) (hl : l.length + 2 * t.size + 4 ≤ 140737488355328) :
    Calls Tryd.prog 50 #[.slice p n c, .string t] w (EndB base (l ++ encT t.data.toList) w) := by
  have hEnd : ∀ a n c w', OwB base (l ++ encT t.data.toList) (.slice a n c) w' → Below base w w' → EndB base (l ++ encT t.data.toList) w (.returned (.slice a n c)) w' := fun a n c w' h1 h2 => ⟨a, n, c, rfl, h1, h2⟩
  have HE := Lib.hid hEnd; clear hEnd
  go_enter Tryd.func50, Tryd.ntmps50
  go_wp2_with fail
  go_loopw [0, 10] (fun v i wr => ∃ (k : Nat) (a : Option Addr) (n c : Nat), k ≤ t.size ∧ i = .int .i64 k ∧ v = .slice a n c ∧ OwB base (l ++ encT (t.data.toList.take k)) (.slice a n c) wr ∧ Below base w wr) (fun _ i _ => t.size - (intOf i).toNat)
  case atStart => exact ⟨0, p, n, c, Nat.zero_le _, rfl, rfl, by simpa [encT] using h, Below.refl _ _⟩
  case round =>
    obtain ⟨k, a, n, c, hk, rfl, rfl, hO, hB⟩ := hrel
    have hbw : base ≤ wr.heap.size := Nat.le_trans hb hB.size
    have htl := encT_take t k hk
    have hll : (l ++ encT (t.data.toList.take k)).length + 4 ≤ 140737488355328 := by rw [List.length_append]; omega
    by_cases hlt : k < t.size
    · have hn := encT_next t k hlt
      have hsg := fun W => Tryd.strings_IndexByte ⟨#[10, 9, 32, 13, 92, 123]⟩ (t[k].toNat : Int) W
      have hback : (t[k].toNat : Int).toNat.toUInt8 = t[k] := by simp
      rw [hback] at hsg
      rw [show (⟨#[10, 9, 32, 13, 92, 123]⟩ : ByteArray).data.toList = [10, 9, 32, 13, 92, 123] from rfl] at hsg
      have hlt8 := t[k].toNat_lt
      have hcs := byR_idx t[k]
      have HN := Lib.hid hn
      clear hn hback
      generalize hLL : l ++ encT (t.data.toList.take k) = L at *
      have HL := Lib.hid hLL; clear hLL
      have b0 : (0 : Int) ≤ (t[k].toNat : Int) := by omega
      have b1 : (t[k].toNat : Int) ≤ 255 := by omega
      rcases hcs with ⟨m, hm, x, hx1, hx2, hx3, hx4⟩ | ⟨hi, hx4⟩
      · rw [hx1] at hsg
        have HW := Lib.hid hx4
        have HS := Lib.hid hsg
        clear hx1 hx4 hsg
        have q0 : ((t[k].toNat : Int) == 32) = false := by
          rw [beq_eq_false_iff_ne]; intro e; apply hx2; apply UInt8.toNat_inj.1; show _ = 32; omega
        have m0 : (0 : Int) ≤ (m : Int) := by omega
        have m6 : (m : Int) < 6 := by omega
        go_wp2_with fail
        refine (HS.out _).mono ?_; rintro e w1 ⟨rfl, rfl⟩
        go_wp2_with (at_builtin; refine wpl_catB _ rfl _ _ rfl base _ _ rfl (hO.call (blw (Below.refl _ _) _)) (by simp; omega) [92, x] _ 2 _ rfl (heap_alloc_new _ _) rfl rfl (by omega) (by omega) ?_; intro g cap w2 hO2 hg2 hB2)
        go_roundw
        case rel => exact ⟨k + 1, _, _, _, hlt, by go_num, rfl, by rw [HN.out, HW.out, ← List.append_assoc, HL.out]; exact hO2, (hB.alloc hbw _).trans hB2⟩
        case measure => simp [intOf]; omega
      · have HW := Lib.hid hx4
        clear hx4
        rcases hi with hi | ⟨hi, h32⟩
        · rw [hi] at hsg
          have HS := Lib.hid hsg
          clear hi hsg
          go_wp2_with fail
          refine (HS.out _).mono ?_; rintro e w1 ⟨rfl, rfl⟩
          go_wp2_with (at_builtin; refine wpl_catB _ rfl _ _ rfl base _ _ rfl (hO.call (blw (Below.refl _ _) _)) (by simp; omega) [t[k]] _ 1 _ rfl (heap_alloc_new _ _) rfl rfl (by omega) (by omega) ?_; intro g cap w2 hO2 hg2 hB2)
          go_roundw
          case rel => exact ⟨k + 1, _, _, _, hlt, by go_num, rfl, by rw [HN.out, HW.out, ← List.append_assoc, HL.out]; exact hO2, (hB.alloc hbw _).trans hB2⟩
          case measure => simp [intOf]; omega
        · rw [hi] at hsg
          have HS := Lib.hid hsg
          have q0 : ((t[k].toNat : Int) == 32) = true := by rw [h32]; rfl
          clear hi hsg h32
          go_wp2_with fail
          refine (HS.out _).mono ?_; rintro e w1 ⟨rfl, rfl⟩
          go_wp2_with (at_builtin; refine wpl_catB _ rfl _ _ rfl base _ _ rfl (hO.call (blw (Below.refl _ _) _)) (by simp; omega) [t[k]] _ 1 _ rfl (heap_alloc_new _ _) rfl rfl (by omega) (by omega) ?_; intro g cap w2 hO2 hg2 hB2)
          go_roundw
          case rel => exact ⟨k + 1, _, _, _, hlt, by go_num, rfl, by rw [HN.out, HW.out, ← List.append_assoc, HL.out]; exact hO2, (hB.alloc hbw _).trans hB2⟩
          case measure => simp [intOf]; omega
    · have hk' : t.data.toList.take k = t.data.toList := List.take_of_length_le (by simp; omega)
      rw [hk'] at hO
      go_wp2_with fail
      go_ret
      exact HE.out _ _ _ _ hO hB
end Go.Proofs.YtdbbjhbkhimbfaaDoor
namespace Go.Proofs.YtdbbjhbkhimbfaaDoor
open Go.ChangeShapes Go.WideShapes Go.ChangeAt Go.RowKit
set_option linter.unusedVariables false
set_option linter.unusedSimpArgs false
set_option maxRecDepth 100000

theorem etxt_small {x : It} (hp : properB x = true) (hw : wid x ≤ 1024) : x.t.size ≤ 1024 := by
  rcases proper_kinds hp with h | h | h
  · have : wid x = x.t.size := if_pos h
    omega
  · obtain ⟨_, _, h3, h4⟩ := isT_proper h hp
    unfold isT at h; simp at h
    by_cases hk : x.k = 3
    · have := (isNm_bytes _ (h3 hk)).2.1; omega
    · have := ((isCon_iff _).1 (h4 (by omega))).size; omega
  · rw [slot_proper h] at hp
    simp at hp
    have := (isNm_bytes _ hp.1).2.1; omega
theorem ewid_len (l : List It) (k : Nat) (h : k < l.length) : wid (l[k]'h) ≤ lenI l := by
  have h1 := lenI_next l k h
  have h2 := lenI_take l (k + 1)
  omega
theorem eitem_small {f : List It} (h : valE f = 0) (k : Nat) (hk : k < f.length) : properB (f[k]'hk) = true ∧ (f[k]'hk).t.size ≤ 1024 := by
  obtain ⟨h1, h2, h3⟩ := valE_zero h
  have hp := errL_proper f h3 _ (List.getElem_mem hk)
  have := ewid_len f k hk
  exact ⟨hp, etxt_small hp (by omega)⟩
theorem encR_next (l : List It) (k : Nat) (h : k < l.length) : encR (l.take (k + 1)) = encR (l.take k) ++ e1R (l[k]'h) := by
  rw [List.take_succ_eq_append_getElem h]; unfold encR; rw [List.flatMap_append]; simp
theorem e1R_text {x : It} (h : x.k = 1) : e1R x = encT x.t.data.toList := if_pos h
theorem e1R_slot {x : It} (h : x.k = 5) : e1R x = (⟨#[123]⟩ ++ x.t ++ ⟨#[125]⟩ : ByteArray).data.toList := by
  unfold e1R; rw [if_neg (by omega)]; simp
theorem e1R_len {x : It} (h : x.t.size ≤ 1024) : (e1R x).length ≤ 3000 := by
  have hs : x.t.data.toList.length = x.t.size := by simp
  unfold e1R
  split
  · have := encT_len x.t.data.toList
    unfold encT at this; omega
  · simp only [List.length_cons, List.length_append, List.length_nil, hs]; omega
theorem enc_len {f : List It} (h : valE f = 0) : ∀ k, k ≤ f.length → (encR (f.take k)).length ≤ 3000 * k := by
  intro k
  induction k with
  | zero => intro _; simp [encR]
  | succ j ih =>
    intro hj
    obtain ⟨h1, h2⟩ := eitem_small h j (by omega)
    have := ih (by omega)
    have := e1R_len h2
    rw [encR_next f j (by omega), List.length_append]
    omega
theorem econv_nil (w : World) : (convert 22 9 (.slice none 0 0)).run Tryd.prog w = .ok (.string .empty) w := by kernel_rfl
/-- string(row) -/
theorem econv_own {base : Nat} {l : List UInt8} {v : Value} {w : World} (h : OwB base l v w) : (convert 22 9 v).run Tryd.prog w = .ok (.string (bsL l)) w := by
  rcases h.2 with ⟨hv, h0⟩ | ⟨g, cap, cur, hv, hg, hh, r⟩
  · have : l = [] := List.length_eq_zero_iff.1 h0
    subst this
    rw [hv]
    exact econv_nil w
  · have hc := World.ownsRow.cells h (g := g) (by rw [hv]; rfl)
    have hw := Lib.run_convert_whole (P := Tryd.prog) w 22 5 9 Tryd.underlying22 Tryd.underlying5 Tryd.underlying9 g 0 (bsL l) (fun i hi => by
      rw [bsL_size] at hi
      have hcell := hc i (.int .u8 ((l[i]'hi).toNat : Int)) (by unfold Lib.byteCells; rw [List.getElem?_map, List.getElem?_eq_getElem hi]; rfl)
      have ea : ((⟨g, 0, none⟩ : Addr).add i) = ⟨g, 0 + i, none⟩ := by unfold Addr.add; split <;> simp_all
      rw [ea] at hcell
      rw [hcell]; rfl) cap
    rw [bsL_size] at hw
    rw [hv]; exact hw
/-- What Encode answers. -/
def encE (f : List It) : ByteArray × Int := if valE f = 0 then (if (tagsL f).length = 0 then (bsL (encR f), 0) else (.empty, 7)) else (.empty, valE f)
theorem encE_bad {f : List It} (h : valE f ≠ 0) : encE f = (.empty, valE f) := if_neg h
theorem encE_tag {f : List It} (h : valE f = 0) (h2 : (tagsL f).length ≠ 0) : encE f = (.empty, 7) := by unfold encE; rw [if_pos h, if_neg h2]
theorem encE_ok {f : List It} (h : valE f = 0) (h2 : (tagsL f).length = 0) : encE f = (bsL (encR f), 0) := by unfold encE; rw [if_pos h, if_pos h2]
theorem no_tags {f : List It} (h : (tagsL f).length = 0) (k : Nat) (hk : k < f.length) : isT (f[k]'hk).k = false := by
  have h0 : tagsL f = [] := List.length_eq_zero_iff.1 h
  unfold tagsL at h0
  rw [List.filter_eq_nil_iff] at h0
  have := h0 _ (List.getElem_mem hk)
  simpa using this
theorem item_flat {f : List It} (h : valE f = 0) (h2 : (tagsL f).length = 0) (k : Nat) (hk : k < f.length) : ((f[k]'hk).k = 1 ∨ (f[k]'hk).k = 5) ∧ (f[k]'hk).t.size ≤ 1024 := by
  obtain ⟨hp, hs⟩ := eitem_small h k hk
  refine ⟨?_, hs⟩
  rcases proper_kinds hp with q | q | q
  · exact .inl q
  · rw [no_tags h2 k hk] at q; cases q
  · exact .inr q
set_option maxHeartbeats 1600000 in
theorem rencode_any (p : Option Addr) (cap : Nat) (f : List It) (w : World) (hR : Its w p f) (hO : Oks f) (hc : f.length ≤ cap) (hm : cap ≤ maxLen) :
    Calls Tryd.prog 25 #[.slice p f.length cap] w fun e w' => e = .returned (.tuple #[.string (encE f).1, .int .i64 (encE f).2]) ∧ Below w.heap.size w w' := by
  have hv := fun w hR => validate_any p cap f w hR hO hc hm
  by_cases h : valE f = 0
  · have h512 := (valE_zero h).1
    have ht := fun W i => (tags_any p cap f W i hc hm (by omega)).mono fun _ _ h => EndI.f h
    unfold EndF at ht
    unfold maxLen at hm ht
    by_cases h2 : (tagsL f).length = 0
    · rw [encE_ok h h2]
      have hfl := fun k hk => item_flat h h2 k hk
      have hln := fun k hk => enc_len h k hk
      rw [h] at hv
      rw [h2] at ht
      have HV := Lib.hid hv; have HT := Lib.hid ht; have HF := Lib.hid hfl; have HL := Lib.hid hln
      clear hv hfl hln h h2 ht
      go_enter Tryd.func25, Tryd.ntmps25
      go_wp2_with fail
      refine (HV.out _ hR).mono ?_; rintro e w1 ⟨rfl, hb⟩
      have hR1 := hR.call hb
      go_wp2_with fail
      refine (HT.out _ hR1).mono ?_; rintro e w2 ⟨pT, cT, rfl, _, _, _, hb2⟩
      have hb := BelowOn hb hb2
      have hR2 := hR.call hb
      go_wp2_with fail
      go_loopw [5, 19] (fun v i wr => ∃ (k : Nat) (a : Option Addr) (n c : Nat), k ≤ f.length ∧ i = .int .i64 k ∧ v = .slice a n c ∧ OwB w.heap.size (encR (f.take k)) (.slice a n c) wr ∧ Below w.heap.size w wr) (fun _ i _ => f.length - (intOf i).toNat)
      case atStart => exact ⟨0, _, _, _, Nat.zero_le _, rfl, rfl, by simpa [encR] using OwB.nil w2 w.heap.size, hb⟩
      case round =>
        obtain ⟨k, a, n, c, hk, rfl, rfl, hW, hB⟩ := hrel
        by_cases hlt : k < f.length
        · obtain ⟨ad, rfl, had, c0, c1, c2⟩ := (hR.call hB).row k hlt
          obtain ⟨hkd, hts⟩ := HF.out k hlt
          have hl := HL.out k hk
          have hn := encR_next f k hlt
          generalize f[k] = x at *
          generalize hLL : encR (f.take k) = L at *
          have HN := Lib.hid hn; clear hn
          have HLL := Lib.hid hLL; clear hLL
          have hW1 := hW.call (blw (Below.refl _ _) (.cells #[.int .i64 x.k, .string x.t, .int .i64 x.id] 58))
          have hB1 := blw hB (.cells #[.int .i64 x.k, .string x.t, .int .i64 x.id] 58)
          obtain ⟨v0, v1, v2, vl⟩ := Var3.new wr x.k x.t x.id
          rcases hkd with h1 | h5
          · have q5 : (x.k == 5) = false := by rw [h1]; rfl
            have he := e1R_text h1
            have HE := Lib.hid he
            have hap := fun W (h1 : OwB w.heap.size L (.slice a n c) W) (h2 : Below w.heap.size w W) => rappendtext_any w.heap.size L a n c x.t W h1 h2.size (by omega)
            have HA := Lib.hid hap
            clear hap he h1
            go_wp2_with fail
            refine (HA.out _ hW1 hB1).mono ?_; rintro e w2 ⟨a2, n2, c2', rfl, hW2, hB2⟩
            go_wp2_with fail
            go_roundw
            case rel => exact ⟨k + 1, _, _, _, hlt, by go_num, rfl, by rw [HN.out, HE.out]; exact hW2, hB1.trans hB2⟩
            case measure => simp [intOf]; omega
          · have q5 : (x.k == 5) = true := by rw [h5]; rfl
            have he := e1R_slot h5
            have hsz : ((⟨#[123]⟩ ++ x.t ++ ⟨#[125]⟩ : ByteArray)).size = x.t.size + 2 := by
              rw [ByteArray.size_append, ByteArray.size_append, show (⟨#[123]⟩ : ByteArray).size = 1 from rfl, show (⟨#[125]⟩ : ByteArray).size = 1 from rfl]; omega
            have HE := Lib.hid he
            have z1 : ¬ (9223372036854775807 < 1 + x.t.size) := by omega
            have z2 : ¬ (9223372036854775807 < (⟨#[123]⟩ ++ x.t : ByteArray).size + 1) := by
              rw [ByteArray.size_append, show (⟨#[123]⟩ : ByteArray).size = 1 from rfl]; omega
            clear he h5
            go_wp2_with (at_builtin; refine wpl_strB _ rfl _ _ rfl w.heap.size L (.slice a n c) rfl hW1 hB1.size (⟨#[123]⟩ ++ x.t ++ ⟨#[125]⟩) rfl (by omega) ?_; intro a2 n2 c2' w2 hW2 hg2 hB2)
            go_roundw
            case rel => exact ⟨k + 1, _, _, _, hlt, by go_num, rfl, by rw [HN.out, HE.out]; exact hW2, hB1.trans hB2⟩
            case measure => simp [intOf]; omega
        · obtain rfl : k = f.length := by omega
          rw [List.take_length] at hW
          have hcv := econv_own hW
          go_wp2_with fail
          go_ret2
          exact ⟨rfl, hB⟩
    · rw [encE_tag h h2]
      rw [h] at hv
      have HV := Lib.hid hv; have HT := Lib.hid ht
      have hle := tags_len f
      have q0 : (0 : Int) < ((tagsL f).length : Int) := by omega
      clear hv ht h
      generalize tagsL f = T at *
      go_enter Tryd.func25, Tryd.ntmps25
      go_wp2_with fail
      refine (HV.out _ hR).mono ?_; rintro e w1 ⟨rfl, hb⟩
      have hR1 := hR.call hb
      go_wp2_with fail
      refine (HT.out _ hR1).mono ?_; rintro e w2 ⟨pT, cT, rfl, _, _, _, hb2⟩
      have hb := BelowOn hb hb2
      go_wp2_with fail
      go_ret2
      exact ⟨rfl, hb⟩
  · rw [encE_bad h]
    have q : (valE f == 0) = false := by simpa using h
    have HV := Lib.hid hv
    clear hv h
    generalize valE f = E at *
    go_enter Tryd.func25, Tryd.ntmps25
    go_wp2_with fail
    refine (HV.out _ hR).mono ?_; rintro e w1 ⟨rfl, hb⟩
    go_wp2_with fail
    go_ret2
    exact ⟨rfl, hb⟩
end Go.Proofs.YtdbbjhbkhimbfaaDoor
namespace Go.Proofs.YtdbbjhbkhimbfaaDoor
open Go.ChangeShapes Go.WideShapes Go.ChangeAt Go.RowKit
set_option linter.unusedVariables false
set_option linter.unusedSimpArgs false
set_option maxRecDepth 100000

/-- Items without tags. -/
def NoT (l : List It) : Prop := tagsL l = []
theorem step_flat {s : St} (L : List Int) (nested : Bool) (hn : nested = true) (ho : s.o = []) (ht : NoT s.f) : (stepG L false nested s).o = [] ∧ NoT (stepG L false nested s).f := by
  obtain ⟨f, o, id, m⟩ := s
  dsimp only at ho ht
  subst ho
  have key : ∀ x : It, isT x.k = false → NoT (norm (f ++ [x])) := fun x hx => by
    unfold NoT; rw [tags_add, hx]; rw [show tagsL f = [] from ht]; rfl
  unfold stepG
  have hc := nx_lt L (lineF L m 3).2 8 (by decide)
  by_cases c1 : nx L (lineF L m 3).2 8 = 0 ∨ nx L (lineF L m 3).2 8 = 1
  · dsimp only
    rw [nextG_slot L false nested [] id m c1]
    exact ⟨rfl, key _ rfl⟩
  · dsimp only
    rw [nextG_text L false nested [] id m (by
      by_cases c7 : nx L (lineF L m 3).2 8 = 7
      · exact .inl c7
      · by_cases c4 : nx L (lineF L m 3).2 8 ≤ 4
        · exact .inr (.inl ⟨by omega, c4, rfl⟩)
        · exact .inr (.inr ⟨by omega, by omega, by simp, by simp⟩))]
    exact ⟨rfl, key _ rfl⟩
theorem run_flat (L : List Int) : ∀ (k : Nat) (s : St), s.o = [] → NoT s.f → (runG L false true k s).o = [] ∧ NoT (runG L false true k s).f := by
  intro k
  induction k with
  | zero => intro s h1 h2; exact ⟨h1, h2⟩
  | succ j ih =>
    intro s h1 h2
    obtain ⟨a, b⟩ := step_flat L true rfl h1 h2
    exact ih _ a b
theorem mk_flat (L : List Int) : NoT (mk L false true) := by
  unfold mk fragG startG
  obtain ⟨a, b⟩ := run_flat L (nx L 0 (8 + 1)) ⟨[], [], 0, 0 + 1⟩ rfl rfl
  dsimp only
  rw [if_pos rfl, a]
  unfold NoT at b ⊢
  simpa using b
/-- A made fragment with a text behind it. -/
def mkT (L : List Int) (s : ByteArray) : List It := norm (mk L false true ++ [⟨1, s, 0⟩])
theorem mkT_err (L : List Int) (s : ByteArray) : errL [] (mkT L s) = 0 := err_text _ _ (mk_ok L false true).e
theorem mkT_flat (L : List Int) (s : ByteArray) : NoT (mkT L s) := by
  unfold NoT mkT; rw [tags_add, if_neg (show ¬ isT (1 : Int) = true by decide), List.append_nil]; exact mk_flat L
theorem mkT_valid (L : List Int) (s : ByteArray) (hs : s.size ≤ 200) : valE (mkT L s) = 0 := by
  have h1 := (mk_ok L false true).len
  have h2 := (mk_ok L false true).lenI
  have h3 := norm_len (mk L false true ++ [⟨1, s, 0⟩])
  have h4 := len_norm (mk L false true ++ [⟨1, s, 0⟩])
  rw [List.length_append] at h3
  rw [lenI_snoc] at h4
  have hw : wid ⟨1, s, 0⟩ = s.size := if_pos rfl
  rw [hw] at h4
  simp only [List.length_cons, List.length_nil] at h3
  exact valE_of (by unfold mkT; omega) (by unfold mkT; omega) (mkT_err L s)
/-- What is encoded is read again. -/
theorem dec_enc {f : List It} (h : valE f = 0) (ht : NoT f) : dec elR (encR f) = (f, offs 0 (wsG e1R (expI f)), 0, 0) := by
  obtain ⟨h1, h2, h3⟩ := valE_zero h
  have hfl : ∀ x ∈ expI f, One x ∧ Flat x := fun x hx => by
    refine ⟨exp_ok h3 x hx, ?_⟩
    unfold expI at hx
    rw [List.mem_flatMap] at hx
    obtain ⟨y, hy, hx⟩ := hx
    by_cases hk : y.k = 1
    · rw [expX_text hk, List.mem_map] at hx
      obtain ⟨c, _, rfl⟩ := hx
      exact .inl rfl
    · rw [expX_other hk] at hx
      obtain rfl := List.mem_singleton.1 hx
      rcases proper_kinds (errL_proper f h3 _ hy) with q | q | q
      · exact .inl q
      · have : x ∈ tagsL f := mem_tags.2 ⟨hy, q⟩
        rw [show tagsL f = [] from ht] at this; cases this
      · exact .inr q
  have hw := ws_e1 (expI f) hfl
  have he : encR f = flatW (wsG e1R (expI f)) ++ [] := by
    rw [List.append_nil, wsG_flat, ← encR_exp]; rfl
  rw [he]
  exact mixed elR_ok hw (Tail.nil _) (by rw [wsG_it, norm_exp]; exact norm_valid f h3) h1 (by unfold wsG; rw [List.length_map, expI_len]; exact h2)
theorem nums_flat {f : List It} (h : NoT f) : numsL f = [] := by
  rw [← nums_firsts]
  unfold firsts
  rw [show tagsL f = [] from h]; rfl
theorem ren_flat (ps : List (Int × Int)) {f : List It} (h : NoT f) : renL ps f = f := by
  have ht : ∀ x ∈ f, isT x.k = false := fun x hx => by
    cases q : isT x.k
    · rfl
    · have : x ∈ tagsL f := mem_tags.2 ⟨hx, q⟩
      rw [show tagsL f = [] from h] at this; cases this
  clear h
  unfold renL
  induction f with
  | nil => rfl
  | cons x t ih =>
    rw [List.flatMap_cons, ih (fun y hy => ht y (List.mem_cons_of_mem _ hy))]
    unfold ren1
    rw [ht x (List.mem_cons_self ..)]; rfl
theorem renum_flat {f : List It} (h : valE f = 0) (ht : NoT f) : norm (renL (upPairs (numsL f)) f) = f := by
  rw [ren_flat _ ht]; exact norm_valid f (valE_zero h).2.2
theorem enc_bytes {f : List It} (h : valE f = 0) : (encR f).length ≤ 3000 * 512 := by
  have h1 := enc_len h f.length (Nat.le_refl _)
  rw [List.take_length] at h1
  have := (valE_zero h).1
  omega
set_option maxHeartbeats 1600000 in
theorem rmade_any (p : Option Addr) (cap : Nat) (L : List Int) (w : World) (hL : Ones w (Value.int .i64) p L) (hw : ∀ i (h : i < L.length), (Lit.int .i64 (L[i]'h)).wf = true) (hc : L.length ≤ cap) (hm : cap ≤ maxLen) :
    Calls Tryd.prog 28 #[.slice p L.length cap] w (EndF (mk L false true) w) := by
  have hN := NumsAt.made hL hw hc hm
  have hf := fragment_any w.heap.size p cap L 0 false true 8 8 rfl _ hN (fun h0 a ha => by have := ones_any hL h0 a ha; simp; omega) (by omega) (by omega)
  have HF := Lib.hid hf; clear hf hN
  have hend : ∀ v w2, Below w.heap.size w w2 → OwnL 58 3 ienc w.heap.size (mk L false true) v w2 → EndF (mk L false true) w (.returned v) w2 := fun v w2 h1 h2 => EndI.f ⟨v, rfl, h1, h2⟩
  have HEND := Lib.hid hend; clear hend
  unfold maxLen at hm
  go_enter Tryd.func28, Tryd.ntmps28
  go_wp2_with fail
  refine (HF.out).mono ?_
  rintro e w2 ⟨v, rfl, hg, hN2, hown⟩
  have hb : Below w.heap.size w w2 := (blw (Below.refl w.heap.size w) _).trans (grown_below hg (Nat.le_refl _) (by simp))
  have hown2 : OwnL 58 3 ienc w.heap.size (mk L false true) v w2 := ownsRow_base hown (by simp)
  clear hN2 hown hg
  go_wp2_with fail
  go_ret
  exact HEND.out _ _ hb hown2
end Go.Proofs.YtdbbjhbkhimbfaaDoor
namespace Go.Proofs.YtdbbjhbkhimbfaaDoor
set_option linter.unusedVariables false
open Go.Lib

/-- Bytes that end no raw value. -/
def Safe (u : List UInt8) : Prop := ∀ r, rawL (u ++ r) = u.length + rawL r
theorem Safe.nil : Safe [] := fun r => by simp
theorem Safe.append {u v : List UInt8} (hu : Safe u) (hv : Safe v) : Safe (u ++ v) := fun r => by
  rw [List.append_assoc, hu, hv, List.length_append]; omega
theorem Safe.one {c : UInt8} (h1 : c ≠ 10) (h2 : c ≠ 92) : Safe [c] := fun r => by
  show rawL (c :: r) = 1 + rawL r
  exact rawL_c c r h1 h2
theorem Safe.esc (d : UInt8) : Safe [92, d] := fun r => rawL_92 d r
theorem Safe.all {u : List UInt8} (h : ∀ c ∈ u, c ≠ 10 ∧ c ≠ 92) : Safe u := by
  induction u with
  | nil => exact Safe.nil
  | cons c t ih => exact Safe.append (u := [c]) (Safe.one (h c (List.mem_cons_self ..)).1 (h c (List.mem_cons_self ..)).2) (ih (fun x hx => h x (List.mem_cons_of_mem _ hx)))
theorem Safe.flat {α : Type} (f : α → List UInt8) (l : List α) (h : ∀ x ∈ l, Safe (f x)) : Safe (l.flatMap f) := by
  induction l with
  | nil => exact Safe.nil
  | cons x t ih => rw [List.flatMap_cons]; exact (h x (List.mem_cons_self ..)).append (ih (fun y hy => h y (List.mem_cons_of_mem _ hy)))
theorem byR_safe (c : UInt8) : Safe (byR c) := by
  unfold byR
  split
  · exact Safe.esc _
  · split
    · exact Safe.esc _
    · split
      · exact Safe.esc _
      · split
        · exact Safe.esc _
        · rename_i h1 h2 h3 h4
          exact Safe.one h1 (fun e => h4 (.inl e))
/-- The bytes of a name are none that a line means. -/
theorem nm_safe {s : ByteArray} (h : isNm s = true) : Safe s.data.toList := Safe.all (fun c hc => by
  have := nm_mem h hc
  unfold nmB at this; simp at this
  exact ⟨(nm_ne h hc).2.2.1, u8_ne (by rw [show (((92 : UInt8).toNat : Nat) : Int) = 92 from rfl]; omega)⟩)
theorem e1R_safe {x : It} (h : One x) (hf : Flat x) : Safe (e1R x) := by
  by_cases hk : x.k = 1
  · obtain ⟨c, rfl⟩ := one_bT h hk
    rw [e1R_byte]; exact byR_safe c
  · have h5 : x.k = 5 := hf.resolve_left hk
    have hp : properB x = true := by rcases h with ⟨h1, _⟩ | ⟨_, h2⟩; exact absurd h1 hk; exact h2
    rw [slot_proper h5] at hp
    simp only [Bool.and_eq_true, decide_eq_true_eq] at hp
    unfold e1R
    rw [if_neg hk]
    exact Safe.append (u := [123]) (Safe.one (by decide) (by decide)) ((nm_safe hp.1).append (Safe.one (by decide) (by decide)))
theorem exp_flat {f : List It} (h3 : errL [] f = 0) (ht : NoT f) : ∀ x ∈ expI f, One x ∧ Flat x := fun x hx => by
  refine ⟨exp_ok h3 x hx, ?_⟩
  unfold expI at hx
  rw [List.mem_flatMap] at hx
  obtain ⟨y, hy, hx⟩ := hx
  by_cases hk : y.k = 1
  · rw [expX_text hk, List.mem_map] at hx
    obtain ⟨c, _, rfl⟩ := hx
    exact .inl rfl
  · rw [expX_other hk] at hx
    obtain rfl := List.mem_singleton.1 hx
    rcases proper_kinds (errL_proper f h3 _ hy) with q | q | q
    · exact .inl q
    · have : x ∈ tagsL f := mem_tags.2 ⟨hy, q⟩
      rw [show tagsL f = [] from ht] at this; cases this
    · exact .inr q
theorem enc_safe {f : List It} (h3 : errL [] f = 0) (ht : NoT f) : Safe (encR f) := by
  rw [← encR_exp]
  exact Safe.flat _ _ (fun x hx => e1R_safe (exp_flat h3 ht x hx).1 (exp_flat h3 ht x hx).2)
/-- A backslash, a line feed, spaces. -/
def gapL (k : Nat) : List UInt8 := 92 :: 10 :: List.replicate k 32
/-- A space in front, escaped. -/
def esc1 : List UInt8 → List UInt8
  | [] => []
  | c :: t => if c = 32 then 92 :: 115 :: t else c :: t
theorem gap_safe (k : Nat) : Safe (gapL k) := Safe.append (u := [92, 10]) (Safe.esc 10) (Safe.all (fun c hc => by rw [(List.mem_replicate.1 hc).2]; decide))
theorem byR_head (c : UInt8) : ∃ h t, byR c = h :: t ∧ h ≠ 9 ∧ h ≠ 10 ∧ (h = 32 → t = [] ∧ c = 32) := by
  unfold byR
  split
  · exact ⟨_, _, rfl, by decide, by decide, fun e => by cases e⟩
  · split
    · exact ⟨_, _, rfl, by decide, by decide, fun e => by cases e⟩
    · split
      · exact ⟨_, _, rfl, by decide, by decide, fun e => by cases e⟩
      · split
        · exact ⟨_, _, rfl, by decide, by decide, fun e => by cases e⟩
        · rename_i h1 h2 h3 h4
          exact ⟨c, [], rfl, h2, h1, fun e => ⟨rfl, e⟩⟩
theorem e1_head {x : It} (h : One x) (hf : Flat x) : ∃ a t, e1R x = a :: t ∧ a ≠ 9 ∧ a ≠ 10 ∧ (a = 32 → t = [] ∧ x = bT 32) := by
  by_cases hk : x.k = 1
  · obtain ⟨c, rfl⟩ := one_bT h hk
    rw [e1R_byte]
    obtain ⟨a, t, h1, h2, h3, h4⟩ := byR_head c
    exact ⟨a, t, h1, h2, h3, fun e => ⟨(h4 e).1, by rw [(h4 e).2]⟩⟩
  · exact ⟨123, x.t.data.toList ++ [125], by unfold e1R; rw [if_neg hk], by decide, by decide, fun e => by cases e⟩
theorem word_gap (k : Nat) {w : List UInt8} {x : It} (hw : Word elR w x) (hd : ∃ a t, w = a :: t ∧ blB a = false) : Word elR (gapL k ++ w) x := by
  obtain ⟨hne, h1, h2⟩ := hw
  refine ⟨by simp [gapL], h1, fun f cs p d r l1 l2 => ?_⟩
  obtain ⟨a, t, rfl, ha⟩ := hd
  have hb : blanks (List.replicate k 32 ++ (a :: t ++ r)) = List.replicate k 32 := blanks_app _ _ (fun c hc => by rw [(List.mem_replicate.1 hc).2]; decide) (fun c hc => by
    have : c = a := by simpa using hc.symm
    rw [this]; exact ha)
  have he : elR ((gapL k ++ (a :: t)) ++ r) = some (none, 2 + k) := by
    show elR (92 :: 10 :: ((List.replicate k 32 ++ (a :: t)) ++ r)) = _
    rw [elR_cont, List.append_assoc, hb, List.length_replicate]
  rw [decG_cont elR_ok f cs p d _ he]
  have hdr : ((gapL k ++ (a :: t)) ++ r).drop (2 + k) = (a :: t) ++ r := by
    have : (gapL k).length = 2 + k := by simp [gapL]; omega
    rw [List.append_assoc, ← this, List.drop_left]
  rw [hdr, h2 f cs (p + (2 + k)) d r l1 l2, List.length_append]
  have : (gapL k).length = 2 + k := by simp [gapL]; omega
  rw [this, Nat.add_assoc]
theorem tail_gap (k : Nat) : Tail elR (gapL k) := fun f cs p d => by
  have hb : blanks (List.replicate k 32 ++ []) = List.replicate k 32 := blanks_app _ _ (fun c hc => by rw [(List.mem_replicate.1 hc).2]; decide) (fun c hc => by cases hc)
  rw [List.append_nil] at hb
  have he : elR (gapL k) = some (none, 2 + k) := by
    show elR (92 :: 10 :: List.replicate k 32) = _
    rw [elR_cont, hb, List.length_replicate]
  rw [decG_cont elR_ok f cs p d _ he, List.drop_of_length_le (by simp [gapL]; omega)]
  exact decG_nil _ _ _ _ _
theorem word_s : Word elR [92, 115] (bT 32) := word_el elR_ok (by decide) (fun r => elR_esc 115 32 r (by decide) rfl)
/-- Two fragments with a continuation between them. -/
theorem dec_lines {F G : List It} (hF : errL [] F = 0) (tF : NoT F) (hG : errL [] G = 0) (tG : NoT G) (k : Nat) (hl : (norm (F ++ G)).length ≤ 512) (hn : lenI F + lenI G ≤ 1024) :
    (∃ o, dec elR (encR F ++ (gapL k ++ esc1 (encR G))) = (norm (F ++ G), o, 0, 0)) ∧ Safe (encR F ++ (gapL k ++ esc1 (encR G))) := by
  have wF := ws_e1 (expI F) (exp_flat hF tF)
  have sF := enc_safe hF tF
  have eF : encR F = flatW (wsG e1R (expI F)) := by rw [wsG_flat, ← encR_exp]; rfl
  have hfl := exp_flat hG tG
  have eG : encR G = (expI G).flatMap e1R := by rw [← encR_exp]; rfl
  have hnorm : norm (expI F ++ expI G) = norm (F ++ G) := by rw [← expI_append, norm_exp]
  have hlen : (expI F).length + (expI G).length ≤ 1024 := by rw [expI_len, expI_len]; exact hn
  cases hX : expI G with
  | nil =>
    rw [hX] at eG hnorm
    rw [eG]
    have hm := mixed elR_ok wF (tail_gap k) (f := norm (F ++ G)) (by rw [wsG_it]; rw [List.append_nil] at hnorm; exact hnorm) hl (by unfold wsG; rw [List.length_map]; omega)
    rw [← eF] at hm
    exact ⟨⟨_, by show dec elR (encR F ++ (gapL k ++ [])) = _; rw [List.append_nil]; exact hm⟩, sF.append ((gap_safe k).append Safe.nil)⟩
  | cons x xs =>
    rw [hX] at eG hnorm hfl hlen
    obtain ⟨ox, fx⟩ := hfl x (List.mem_cons_self ..)
    have wx := word_e1 x ox fx
    have sx := e1R_safe ox fx
    have wR : AllW elR (wsG e1R xs) := ws_e1 xs (fun y hy => hfl y (List.mem_cons_of_mem _ hy))
    have sR : Safe (xs.flatMap e1R) := Safe.flat _ _ (fun y hy => e1R_safe (hfl y (List.mem_cons_of_mem _ hy)).1 (hfl y (List.mem_cons_of_mem _ hy)).2)
    -- the first word of G, with a space escaped
    have hw : ∃ w, Word elR w x ∧ Safe w ∧ (∃ a t, w = a :: t ∧ blB a = false) ∧ esc1 (encR G) = w ++ xs.flatMap e1R := by
      obtain ⟨a, t, h1, h2, h3, h4⟩ := e1_head ox fx
      rw [eG, List.flatMap_cons, h1]
      by_cases h32 : a = 32
      · obtain ⟨rfl, rfl⟩ := h4 h32
        subst h32
        exact ⟨[92, 115], word_s, Safe.esc 115, ⟨92, [115], rfl, by decide⟩, rfl⟩
      · refine ⟨a :: t, by rw [← h1]; exact wx, by rw [← h1]; exact sx, ⟨a, t, rfl, ?_⟩, ?_⟩
        · unfold blB; simp [h32, h2]
        · show (if a = 32 then _ else _) = _
          rw [if_neg h32]; rfl
    obtain ⟨w, hw1, hw2, hw3, hw4⟩ := hw
    rw [hw4]
    have e : encR F ++ (gapL k ++ (w ++ xs.flatMap e1R)) = flatW (wsG e1R (expI F) ++ (gapL k ++ w, x) :: wsG e1R xs) ++ [] := by
      rw [List.append_nil, flatW_append, flatW_cons, wsG_flat e1R xs, eF, ← List.append_assoc (gapL k)]
    have hA : AllW elR (wsG e1R (expI F) ++ (gapL k ++ w, x) :: wsG e1R xs) := by
      intro y hy
      rcases List.mem_append.1 hy with hy | hy
      · exact wF y hy
      · rcases List.mem_cons.1 hy with rfl | hy
        · exact word_gap k hw1 hw3
        · exact wR y hy
    have hI : norm (itW (wsG e1R (expI F) ++ (gapL k ++ w, x) :: wsG e1R xs)) = norm (F ++ G) := by
      rw [← hnorm]
      congr 1
      unfold itW
      rw [List.map_append, List.map_cons]
      have h1 := wsG_it e1R (expI F)
      have h2 := wsG_it e1R xs
      unfold itW at h1 h2
      rw [h1, h2]
    have hm := mixed elR_ok hA (Tail.nil _) hI hl (by
      rw [List.length_append, List.length_cons]
      unfold wsG
      rw [List.length_map, List.length_map]
      simp only [List.length_cons] at hlen
      omega)
    rw [← e] at hm
    exact ⟨⟨_, hm⟩, sF.append ((gap_safe k).append (hw2.append sR))⟩
end Go.Proofs.YtdbbjhbkhimbfaaDoor
namespace Go.Proofs.YtdbbjhbkhimbfaaDoor
set_option linter.unusedVariables false
open Go.Lib

theorem rest_bsL (l : List UInt8) (p : Nat) : restD (bsL l) p = l.drop p := by unfold restD; rw [bsL_list]
theorem encR_short (f : List It) : (encR f).length ≤ 2 * txtI f + 2 * f.length := by
  unfold encR
  induction f with
  | nil => exact Nat.zero_le _
  | cons x t ih =>
    rw [List.flatMap_cons, List.length_append, List.length_cons]
    have hs : x.t.data.toList.length = x.t.size := by simp
    have e : txtI (x :: t) = x.t.size + txtI t := rfl
    have h1 : (e1R x).length ≤ 2 * x.t.size + 2 := by
      unfold e1R
      split
      · have := encT_len x.t.data.toList
        unfold encT at this; omega
      · simp only [List.length_cons, List.length_append, List.length_nil, hs]; omega
    omega
theorem esc1_len (l : List UInt8) : (esc1 l).length ≤ l.length + 1 := by
  cases l with
  | nil => exact Nat.zero_le _
  | cons c t =>
    show (if c = 32 then _ else _ : List UInt8).length ≤ _
    split <;> simp
theorem gapL_len (k : Nat) : (gapL k).length = 2 + k := by simp [gapL]; omega
/-- The file. -/
def linesD (V : List UInt8) : List UInt8 := 107 :: 61 :: (V ++ [10, 122, 61])
theorem skip_key (a : UInt8) (t : List UInt8) (h1 : blB a = false) (h2 : (a == 10 || a == 35) = false) : skipL (a :: t) = false := by
  have : blanks (a :: t) = [] := by unfold blanks; rw [List.takeWhile_cons, h1]; rfl
  unfold skipL; rw [this]; exact h2
theorem upto_key (a : UInt8) (t : List UInt8) (h : a ≠ 61) : upto 61 (a :: 61 :: t) = [a] ∧ hasU 61 (a :: 61 :: t) = true :=
  ⟨upto_app 61 [a] t (fun x hx => by rw [List.mem_singleton.1 hx]; exact h), has_app 61 [a] t (fun x hx => by rw [List.mem_singleton.1 hx]; exact h)⟩
theorem spl_lines {V : List UInt8} (hs : Safe V) (hd : (dec elR V).2.2.2 = 0) (hl : V.length ≤ 60000) : ∃ x y u z, splR (bsL (linesD V)) = ([x, ⟨true, ⟨#[107]⟩, bsL V⟩, y, ⟨true, ⟨#[122]⟩, u⟩, z], 0, 0) := by
  have hlen : (linesD V).length = V.length + 5 := by unfold linesD; simp
  have h0 : (linesD V).drop 0 = 107 :: 61 :: (V ++ [10, 122, 61]) := rfl
  have h2 : (linesD V).drop 2 = V ++ [10, 122, 61] := rfl
  have h3 : (linesD V).drop (2 + V.length) = [10, 122, 61] := by
    rw [← List.drop_drop, h2, List.drop_left]
  have h4 : (linesD V).drop (2 + V.length + 1) = [122, 61] := by
    rw [← List.drop_drop, h3]; rfl
  have h5 : (linesD V).drop (2 + V.length + 1 + 2) = [] := by
    rw [← List.drop_drop, h4]; rfl
  generalize hD : bsL (linesD V) = D
  have hsz : D.size = V.length + 5 := by rw [← hD, bsL_size, hlen]
  have hrest : ∀ p, restD D p = (linesD V).drop p := fun p => by rw [← hD, rest_bsL]
  have hex : D.extract 2 (2 + V.length) = bsL V := by
    have : (D.extract 2 (2 + V.length)).data.toList = V := by
      rw [show (D.extract 2 (2 + V.length)).data.toList = (D.data.toList.drop 2).take (2 + V.length - 2) from by simp [ByteArray.extract, ByteArray.copySlice]]
      have e : D.data.toList.drop 2 = V ++ [10, 122, 61] := (hrest 2).trans h2
      rw [e, show 2 + V.length - 2 = V.length by omega, List.take_left]
    rw [← bsL_of (D.extract 2 (2 + V.length)), this]
  obtain ⟨k1, k2⟩ := upto_key 107 (V ++ [10, 122, 61]) (by decide)
  obtain ⟨k3, k4⟩ := upto_key 122 [] (by decide)
  have r0 : restD D 0 = 107 :: 61 :: (V ++ [10, 122, 61]) := hrest 0
  have ra0 : rawAt D 0 = 2 := by unfold rawAt; rw [r0, k1]; rfl
  have rn0 : rawN D 0 = V.length := by
    unfold rawN; rw [ra0, hrest, h2, hs, rawL_10]; omega
  have ka0 : keyAt D 0 = ⟨#[107]⟩ := by unfold keyAt; rw [r0, k1]; rfl
  have rd0 : rawD D 0 = V := by unfold rawD; rw [ra0, rn0, hrest, h2, List.take_left]
  have r1 : restD D (2 + V.length + 1) = [122, 61] := (hrest _).trans h4
  have ra1 : rawAt D (2 + V.length + 1) = 2 + V.length + 1 + 2 := by unfold rawAt; rw [r1, k3]; rfl
  have rn1 : rawN D (2 + V.length + 1) = 0 := by unfold rawN; rw [ra1, hrest, h5]; rfl
  have ka1 : keyAt D (2 + V.length + 1) = ⟨#[122]⟩ := by unfold keyAt; rw [r1, k3]; rfl
  have rd1 : rawD D (2 + V.length + 1) = [] := by unfold rawD; rw [ra1, rn1, hrest, h5]; rfl
  unfold splR
  rw [if_neg (by omega)]
  rw [spl_unit D [] 0 0 (by omega) (by rw [r0]; exact skip_key 107 _ (by decide) (by decide)) (by rw [r0]; unfold keyK; rw [k1, k2]; decide) rfl (by rw [rd0]; exact hd), ra0, rn0, ka0, hex]
  rw [spl_unit D _ _ (2 + V.length + 1) (by omega) (by rw [r1]; exact skip_key 122 _ (by decide) (by decide)) (by rw [r1]; decide) (by rw [ka1]; unfold hasK; simp [skel]) (by rw [rd1]; rfl), ra1, rn1, ka1]
  rw [spl_end D _ _ _ (by omega)]
  exact ⟨_, _, _, _, rfl⟩
end Go.Proofs.YtdbbjhbkhimbfaaDoor
