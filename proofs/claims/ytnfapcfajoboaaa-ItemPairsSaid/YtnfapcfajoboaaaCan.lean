/- Renumber and Canonical. -/
import Derived.Test.YtnfapcfajoboaaaRrn
namespace Go.Proofs.Ytnfapcfajoboaaa
open Go.ChangeShapes Go.WideShapes Go.ChangeAt Go.RowKit
set_option linter.unusedVariables false
set_option maxRecDepth 100000

def EndF2 (L : List It) (w : World) (e : Ending) (w' : World) : Prop := ∃ p c, e = .returned (.slice p L.length c) ∧ L.length ≤ c ∧ c ≤ maxLen ∧ Its w' p L ∧ Below w.heap.size w w'
theorem EndI.f2 {L : List It} {w w' : World} {e : Ending} (h : EndI L w e w') : EndF2 L w e w' := by
  obtain ⟨v, rfl, hA⟩ := h
  obtain ⟨p, c, rfl, h1, h2, hI⟩ := hA.own.its
  exact ⟨p, c, rfl, h1, h2, hI, hA.below⟩
def EndNF (L : List Int) (w : World) (e : Ending) (w' : World) : Prop := ∃ p c, e = .returned (.slice p L.length c) ∧ L.length ≤ c ∧ c ≤ maxLen ∧ Ones w' (Value.int .i64) p L ∧ Below w.heap.size w w'
theorem EndN.f {L : List Int} {w w' : World} {e : Ending} (h : EndN L w e w') : EndNF L w e w' := by
  obtain ⟨v, rfl, hA⟩ := h
  obtain ⟨p, c, rfl, h1, h2, hI⟩ := hA.own.ints
  exact ⟨p, c, rfl, h1, h2, hI, hA.below⟩
theorem nums_wf (l : List It) (hO : Oks l) : ∀ i (h : i < (numsL l).length), (Lit.int .i64 ((numsL l)[i]'h)).wf = true := by
  have : ∀ (l : List It) (out : List Int), (∀ x ∈ l, x.ok) → (∀ n ∈ out, (Lit.int .i64 n).wf = true) → ∀ n ∈ l.foldl numS out, (Lit.int .i64 n).wf = true := by
    intro l
    induction l with
    | nil => intro out _ h; exact h
    | cons x t ih =>
      intro out h1 h2
      rw [List.foldl_cons]
      refine ih _ (fun y hy => h1 y (by simp [hy])) ?_
      intro n hn
      unfold numS at hn
      split at hn
      · rcases List.mem_append.1 hn with hn | hn
        · exact h2 n hn
        · rw [List.mem_singleton.1 hn]; exact (h1 x (by simp)).id
      · exact h2 n hn
  intro i h
  exact this l [] (fun x hx => by obtain ⟨j, hj, e⟩ := List.getElem_of_mem hx; rw [← e]; exact hO j hj) (fun n hn => by cases hn) _ (List.getElem_mem h)
theorem nums_le (l : List It) : (numsL l).length ≤ l.length := by
  have h := nums_len l _ (Nat.le_refl _)
  rwa [List.take_length] at h
theorem rename_f (p q r : Option Addr) (c d e : Nat) (l : List It) (fr to : List Int) (w : World) (hR : Its w p l) (hF : Ones w (Value.int .i64) q fr) (hT : Ones w (Value.int .i64) r to) (hO : Oks l) (hW : ∀ i (h : i < fr.length), (Lit.int .i64 (fr[i]'h)).wf = true)
    (hc : l.length ≤ c) (hm : c ≤ maxLen) (hd : fr.length ≤ d) (hdm : d ≤ maxLen) (he : to.length ≤ e) (hem : e ≤ maxLen) (hn : l.length ≤ 4000000000) (ht : txtI l ≤ 140737488355328) (hfn : fr.length ≤ 4000000000) :
    Calls Try.prog 54 #[.slice p l.length c, .slice q fr.length d, .slice r to.length e] w (EndF2 (norm (renL (fr.zip to) l)) w) :=
  (rename_any p q r c d e l fr to w hR hF hT hO hW hc hm hd hdm he hem hn ht hfn).mono fun _ _ h => EndI.f2 h
theorem rrename_f (p q r : Option Addr) (c d e : Nat) (l : List It) (fr to : List Int) (w : World) (hR : Its w p l) (hF : Ones w (Value.int .i64) q fr) (hT : Ones w (Value.int .i64) r to)
    (hc : l.length ≤ c) (hm : c ≤ maxLen) (hd : fr.length ≤ d) (hdm : d ≤ maxLen) (he : to.length ≤ e) (hem : e ≤ maxLen) (hn : l.length ≤ 4000000000) (ht : txtI l ≤ 140737488355328) (hfn : fr.length ≤ 4000000000) :
    Calls Try.prog 55 #[.slice p l.length c, .slice q fr.length d, .slice r to.length e] w (EndF2 (norm (renL (fr.zip to) l)) w) :=
  (rrename_any p q r c d e l fr to w hR hF hT hc hm hd hdm he hem hn ht hfn).mono fun _ _ h => EndI.f2 h
/-- The pairs of Renumber. -/
def upPairs (ns : List Int) : List (Int × Int) := ns.zip (upL ns.length)

set_option maxHeartbeats 1600000 in
theorem renumber_any (p : Option Addr) (cap : Nat) (l : List It) (w : World) (hR : Its w p l) (hO : Oks l) (hc : l.length ≤ cap) (hm : cap ≤ maxLen) (hn : l.length ≤ 4000000000) (ht : txtI l ≤ 140737488355328) :
    Calls Try.prog 40 #[.slice p l.length cap] w (EndF2 (norm (renL (upPairs (numsL l)) l)) w) := by
  have h1 := fun W i => (numbers_any p cap l W i hO hc hm hn).mono fun _ _ h => EndN.f h
  have hle := nums_le l
  have hwf := nums_wf l hO
  unfold upPairs
  generalize numsL l = ns at *
  have h2 := fun W => (upto_any ns.length W (by omega)).mono fun _ _ h => EndN.f h
  have hul := upL_len ns.length
  generalize upL ns.length = us at *
  have h3 := fun W q r d e i j k a b c' f => rename_f p q r cap d e l ns us W i j k hO hwf hc hm a b c' f hn ht (by omega)
  rw [hul] at h3
  generalize norm (renL (ns.zip us) l) = out at *
  have H1 := Lib.hid h1; have H2 := Lib.hid (show ∀ W, Calls Try.prog 82 #[.int .i64 ns.length] W fun e w' => ∃ p c, e = .returned (.slice p ns.length c) ∧ ns.length ≤ c ∧ c ≤ maxLen ∧ Ones w' (Value.int .i64) p us ∧ Below W.heap.size W w' from fun W => (h2 W).mono fun _ _ ⟨p, c, a, b, d⟩ => ⟨p, c, by rw [← hul]; exact a, by rw [← hul]; exact b, d⟩); have H3 := Lib.hid h3
  clear h1 h2 h3 hwf
  go_enter Try.func40, Try.ntmps40
  go_wp2_with fail
  refine (H1.out _ hR).mono ?_; rintro e w1 ⟨q, d, rfl, a1, a2, i1, b1⟩
  go_wp2_with fail
  refine (H2.out _).mono ?_; rintro e w2 ⟨r, e2, rfl, a3, a4, i2, b2⟩
  go_wp2_with fail
  refine (H3.out _ q r d e2 ((hR.call b1).call b2) (i1.call b2) i2 a1 a2 a3 a4).mono ?_; rintro e w3 ⟨r3, c3, rfl, a5, a6, i3, b3⟩
  go_wp2_with fail
  go_ret
  exact ⟨_, _, rfl, a5, a6, i3, BelowOn (BelowOn b1 b2) b3⟩
set_option maxHeartbeats 1600000 in
theorem rrenumber_any (p : Option Addr) (cap : Nat) (l : List It) (w : World) (hR : Its w p l) (hc : l.length ≤ cap) (hm : cap ≤ maxLen) (hn : l.length ≤ 4000000000) (ht : txtI l ≤ 140737488355328) :
    Calls Try.prog 41 #[.slice p l.length cap] w (EndF2 (norm (renL (upPairs (numsL l)) l)) w) := by
  have h1 := fun W i => (rnumbers_any p cap l W i hc hm hn).mono fun _ _ h => EndN.f h
  have hle := nums_le l
  unfold upPairs
  generalize numsL l = ns at *
  have h2 := fun W => (rupto_any ns.length W (by omega)).mono fun _ _ h => EndN.f h
  have hul := upL_len ns.length
  generalize upL ns.length = us at *
  have h3 := fun W q r d e i j k a b c' f => rrename_f p q r cap d e l ns us W i j k hc hm a b c' f hn ht (by omega)
  rw [hul] at h3
  generalize norm (renL (ns.zip us) l) = out at *
  have H1 := Lib.hid h1; have H2 := Lib.hid (show ∀ W, Calls Try.prog 83 #[.int .i64 ns.length] W fun e w' => ∃ p c, e = .returned (.slice p ns.length c) ∧ ns.length ≤ c ∧ c ≤ maxLen ∧ Ones w' (Value.int .i64) p us ∧ Below W.heap.size W w' from fun W => (h2 W).mono fun _ _ ⟨p, c, a, b, d⟩ => ⟨p, c, by rw [← hul]; exact a, by rw [← hul]; exact b, d⟩); have H3 := Lib.hid h3
  clear h1 h2 h3
  go_enter Try.func41, Try.ntmps41
  go_wp2_with fail
  refine (H1.out _ hR).mono ?_; rintro e w1 ⟨q, d, rfl, a1, a2, i1, b1⟩
  go_wp2_with fail
  refine (H2.out _).mono ?_; rintro e w2 ⟨r, e2, rfl, a3, a4, i2, b2⟩
  go_wp2_with fail
  refine (H3.out _ q r d e2 ((hR.call b1).call b2) (i1.call b2) i2 a1 a2 a3 a4).mono ?_; rintro e w3 ⟨r3, c3, rfl, a5, a6, i3, b3⟩
  go_wp2_with fail
  go_ret
  exact ⟨_, _, rfl, a5, a6, i3, BelowOn (BelowOn b1 b2) b3⟩
def EndFF (L M : List It) (w : World) (e : Ending) (w' : World) : Prop := ∃ p c q d, e = .returned (.tuple #[.slice p L.length c, .slice q M.length d]) ∧ L.length ≤ c ∧ c ≤ maxLen ∧ M.length ≤ d ∧ d ≤ maxLen ∧ Its w' p L ∧ Its w' q M ∧ Below w.heap.size w w'
theorem Oks.append {l m : List It} (h : Oks l) (k : Oks m) : Oks (l ++ m) := fun i hi => by
  rcases List.mem_append.1 (List.getElem_mem hi) with hx | hx
  · obtain ⟨j, hj, e⟩ := List.getElem_of_mem hx; rw [← e]; exact h j hj
  · obtain ⟨j, hj, e⟩ := List.getElem_of_mem hx; rw [← e]; exact k j hj

set_option maxHeartbeats 1600000 in
theorem canonical_any (p : Option Addr) (c : Nat) (l : List It) (q : Option Addr) (d : Nat) (m : List It) (w : World) (hR : Its w p l) (hS : Its w q m) (hO : Oks l) (hP : Oks m) (hc : l.length ≤ c) (hcm : c ≤ maxLen) (hd : m.length ≤ d) (hdm : d ≤ maxLen) (hn : l.length + m.length ≤ 4000000000) (ht : txtI l + txtI m ≤ 140737488355328) :
    Calls Try.prog 52 #[.slice p l.length c, .slice q m.length d] w (EndFF (norm (renL (upPairs (numsL (l ++ m))) l)) (norm (renL (upPairs (numsL (l ++ m))) m)) w) := by
  have hcat := fun W B => cat_any B p q c d l m W
  have h1 := fun W x y i a b => (numbers_any x y (l ++ m) W i (hO.append hP) a b (by rw [List.length_append]; omega)).mono fun _ _ h => EndN.f h
  have hle := nums_le (l ++ m)
  rw [List.length_append] at hle
  simp only [List.length_append] at h1
  have hwf := nums_wf (l ++ m) (hO.append hP)
  unfold upPairs
  generalize numsL (l ++ m) = ns at *
  have h2 := fun W => (upto_any ns.length W (by omega)).mono fun _ _ h => EndN.f h
  have hul := upL_len ns.length
  generalize upL ns.length = us at *
  have h3 := fun W q r d e i j k a b c' f => rename_f p q r c d e l ns us W i j k hO hwf hc hcm a b c' f (by omega) (by omega) (by omega)
  have h4 := fun W x r y e i j k a b c' f => rename_f q x r d y e m ns us W i j k hP hwf hd hdm a b c' f (by omega) (by omega) (by omega)
  rw [hul] at h3 h4
  generalize norm (renL (ns.zip us) l) = out at *
  generalize norm (renL (ns.zip us) m) = out2 at *
  have HC := Lib.hid hcat
  have H1 := Lib.hid h1; have H2 := Lib.hid (show ∀ W, Calls Try.prog 82 #[.int .i64 ns.length] W fun e w' => ∃ p c, e = .returned (.slice p ns.length c) ∧ ns.length ≤ c ∧ c ≤ maxLen ∧ Ones w' (Value.int .i64) p us ∧ Below W.heap.size W w' from fun W => (h2 W).mono fun _ _ ⟨p, c, a, b, d⟩ => ⟨p, c, by rw [← hul]; exact a, by rw [← hul]; exact b, d⟩); have H3 := Lib.hid h3; have H4 := Lib.hid h4
  clear h1 h2 h3 h4 hwf hcat
  go_enter Try.func52, Try.ntmps52
  go_wp2_with fail
  have hb := blw (Below.refl w.heap.size w) (.cells #[.slice p l.length c, .slice q m.length d] 30)
  have hnew : (w.alloc (.cells #[.slice p l.length c, .slice q m.length d] 30)).heap[w.heap.size]? = some (.cells #[.slice p l.length c, .slice q m.length d] 30 (0, 0)) := heap_alloc_new w _
  refine (HC.out _ w.heap.size (by simp) (by rw [Lib.cell_of_heap hnew]; rfl) (by rw [Lib.cell_of_heap hnew]; rfl) (hR.call hb) (hS.call hb) hn).mono ?_
  rintro e w0 ⟨v, rfl, hA⟩
  obtain ⟨p1, c1, rfl, g1, g2, hI⟩ := hA.own.its
  rw [List.length_append] at g1
  have bb := BelowOn hb hA.below
  go_wp2_with fail
  refine (H1.out _ _ _ hI g1 g2).mono ?_; rintro e w1 ⟨q5, d5, rfl, a1, a2, i1, b1⟩
  have bb := BelowOn bb b1
  go_wp2_with fail
  refine (H2.out _).mono ?_; rintro e w2 ⟨r, e2, rfl, a3, a4, i2, b2⟩
  have bb := BelowOn bb b2
  go_wp2_with fail
  refine (H3.out _ q5 r d5 e2 (hR.call bb) (i1.call b2) i2 a1 a2 a3 a4).mono ?_; rintro e w3 ⟨r3, c3, rfl, a5, a6, i3, b3⟩
  have bb := BelowOn bb b3
  go_wp2_with fail
  refine (H4.out _ q5 r d5 e2 (hS.call bb) ((i1.call b2).call b3) (i2.call b3) a1 a2 a3 a4).mono ?_; rintro e w4 ⟨r4, c4, rfl, a7, a8, i4, b4⟩
  go_wp2_with fail
  go_ret2
  exact ⟨_, _, _, _, rfl, a5, a6, a7, a8, i3.call b4, i4, BelowOn bb b4⟩

set_option maxHeartbeats 1600000 in
theorem rcanonical_any (p : Option Addr) (c : Nat) (l : List It) (q : Option Addr) (d : Nat) (m : List It) (w : World) (hR : Its w p l) (hS : Its w q m) (hc : l.length ≤ c) (hcm : c ≤ maxLen) (hd : m.length ≤ d) (hdm : d ≤ maxLen) (hn : l.length + m.length ≤ 4000000000) (ht : txtI l + txtI m ≤ 140737488355328) :
    Calls Try.prog 53 #[.slice p l.length c, .slice q m.length d] w (EndFF (norm (renL (upPairs (numsL (l ++ m))) l)) (norm (renL (upPairs (numsL (l ++ m))) m)) w) := by
  have h1 := fun W x y i a b => (rnumbers_any x y (l ++ m) W i a b (by rw [List.length_append]; omega)).mono fun _ _ h => EndN.f h
  have hle := nums_le (l ++ m)
  rw [List.length_append] at hle
  simp only [List.length_append] at h1
  unfold upPairs
  generalize numsL (l ++ m) = ns at *
  have h2 := fun W => (rupto_any ns.length W (by omega)).mono fun _ _ h => EndN.f h
  have hul := upL_len ns.length
  generalize upL ns.length = us at *
  have h3 := fun W q r d e i j k a b c' f => rrename_f p q r c d e l ns us W i j k hc hcm a b c' f (by omega) (by omega) (by omega)
  have h4 := fun W x r y e i j k a b c' f => rrename_f q x r d y e m ns us W i j k hd hdm a b c' f (by omega) (by omega) (by omega)
  rw [hul] at h3 h4
  generalize norm (renL (ns.zip us) l) = out at *
  generalize norm (renL (ns.zip us) m) = out2 at *
  have H1 := Lib.hid h1; have H2 := Lib.hid (show ∀ W, Calls Try.prog 83 #[.int .i64 ns.length] W fun e w' => ∃ p c, e = .returned (.slice p ns.length c) ∧ ns.length ≤ c ∧ c ≤ maxLen ∧ Ones w' (Value.int .i64) p us ∧ Below W.heap.size W w' from fun W => (h2 W).mono fun _ _ ⟨p, c, a, b, d⟩ => ⟨p, c, by rw [← hul]; exact a, by rw [← hul]; exact b, d⟩); have H3 := Lib.hid h3; have H4 := Lib.hid h4
  clear h1 h2 h3 h4
  have tok : True := trivial
  go_enter Try.func53, Try.ntmps53
  go_wp2_with (first
    | (at_builtin; have _t := tok; refine wpl_cat rfl _ _ rfl w [] l _ rfl (Acc.start w) p _ c rfl rfl hR (by simp; omega) ?_; intro v1 w1 hA1; clear tok)
    | (at_builtin; refine wpl_cat rfl _ _ rfl w l m _ rfl hA1 q _ d rfl rfl (hS.call hA1.below) (by omega) ?_; intro v2 w2 hA2; obtain ⟨p1, c1, hv2, g1, g2, hI⟩ := hA2.own.its; subst hv2; rw [List.length_append] at g1))
  have bb := hA2.below
  refine (H1.out _ _ _ hI g1 g2).mono ?_; rintro e w5 ⟨q5, d5, rfl, a1, a2, i1, b1⟩
  have bb := BelowOn bb b1
  go_wp2_with fail
  refine (H2.out _).mono ?_; rintro e w6 ⟨r, e2, rfl, a3, a4, i2, b2⟩
  have bb := BelowOn bb b2
  go_wp2_with fail
  refine (H3.out _ q5 r d5 e2 (hR.call bb) (i1.call b2) i2 a1 a2 a3 a4).mono ?_; rintro e w3 ⟨r3, c3, rfl, a5, a6, i3, b3⟩
  have bb := BelowOn bb b3
  go_wp2_with fail
  refine (H4.out _ q5 r d5 e2 (hS.call bb) ((i1.call b2).call b3) (i2.call b3) a1 a2 a3 a4).mono ?_; rintro e w4 ⟨r4, c4, rfl, a7, a8, i4, b4⟩
  go_wp2_with fail
  go_ret2
  exact ⟨_, _, _, _, rfl, a5, a6, a7, a8, i3.call b4, i4, BelowOn bb b4⟩
end Go.Proofs.Ytnfapcfajoboaaa
