/- Target. -/
import Derived.Test.YtnfapcfajoboaaaFrg
import Derived.Test.YtnfapcfajoboaaaRaw
import Derived.Test.YtnfapcfajoboaaaSlm
import Derived.Test.YtnfapcfajoboaaaPln
import Derived.Deep.CutRange
import Derived.Deep.Cut
namespace Go.Proofs.Ytnfapcfajoboaaa
open Go.ChangeShapes Go.WideShapes Go.ChangeAt Go.RowKit
set_option linter.unusedVariables false
set_option linter.unusedSimpArgs false
set_option maxRecDepth 100000

/-- The texts that a target has in the place of a text. -/
def tarW (t : ByteArray) : List ByteArray := [⟨#[114, 111, 116]⟩, ⟨#[100, 97, 115, 32, 65, 117, 116, 111]⟩, ⟨#[]⟩, ⟨#[101, 105, 110, 32]⟩ ++ t, t]
def tarS (L : List Int) (st : List It × Nat) (x : It) : List It × Nat :=
  if x.k = 1 then (norm (st.1 ++ [⟨x.k, pickB (tarW x.t) (nx L st.2 5), x.id⟩]), st.2 + 1)
  else if nx L st.2 3 = 0 then (norm (norm (st.1 ++ [⟨1, (lineF L (st.2 + 1) 2).1, 0⟩]) ++ [x]), (lineF L (st.2 + 1) 2).2)
  else (norm (st.1 ++ [x]), st.2 + 1)
/-- The target that the generator makes of a source, and how many numbers are used. -/
def tarL (L : List Int) (m : Nat) (l : List It) : List It × Nat := l.foldl (tarS L) ([], m)
theorem tar_next (L : List Int) (m : Nat) (l : List It) (k : Nat) (h : k < l.length) : tarL L m (l.take (k + 1)) = tarS L (tarL L m (l.take k)) (l[k]'h) := by
  rw [List.take_succ_eq_append_getElem h]; unfold tarL; rw [List.foldl_append]; rfl
theorem tarW_size (t : ByteArray) (r : Nat) (hr : r < 5) : (pickB (tarW t) r).size ≤ t.size + 8 :=
  pickB_all (P := fun s => s.size ≤ t.size + 8) (tarW t) (fun s hs => by
    unfold tarW at hs
    simp only [List.mem_cons, List.not_mem_nil, or_false] at hs
    rcases hs with rfl | rfl | rfl | rfl | rfl
    · show 3 ≤ _; omega
    · show 8 ≤ _; omega
    · show 0 ≤ _; omega
    · rw [ByteArray.size_append]; show 4 + _ ≤ _; omega
    · omega) r hr
theorem tar_size (L : List Int) (m : Nat) (l : List It) : (tarL L m l).1.length ≤ 2 * l.length ∧ txtI (tarL L m l).1 ≤ txtI l + 20 * l.length ∧ m ≤ (tarL L m l).2 ∧ (tarL L m l).2 ≤ m + 7 * l.length := by
  refine list_rev (P := fun l => (tarL L m l).1.length ≤ 2 * l.length ∧ txtI (tarL L m l).1 ≤ txtI l + 20 * l.length ∧ m ≤ (tarL L m l).2 ∧ (tarL L m l).2 ≤ m + 7 * l.length) ⟨Nat.le_refl _, Nat.le_refl _, Nat.le_refl _, Nat.le_refl _⟩ (fun l x ih => ?_) l
  have e : tarL L m (l ++ [x]) = tarS L (tarL L m l) x := by unfold tarL; rw [List.foldl_append]; rfl
  rw [e, txtI_snoc, List.length_append]
  obtain ⟨a, b, c, d⟩ := ih
  generalize tarL L m l = st at *
  obtain ⟨f, n⟩ := st
  unfold tarS
  dsimp only at a b c d ⊢
  have key : ∀ (g : List It) (y : It), (norm (g ++ [y])).length ≤ g.length + 1 ∧ txtI (norm (g ++ [y])) ≤ txtI g + y.t.size := fun g y => by
    have h1 := norm_len (g ++ [y]); have h2 := txt_normed (g ++ [y])
    rw [List.length_append] at h1; rw [txtI_snoc] at h2
    exact ⟨h1, h2⟩
  have hl1 : [x].length = 1 := rfl
  split
  · have h1 := key f ⟨x.k, pickB (tarW x.t) (nx L n 5), x.id⟩
    have h2 := tarW_size x.t (nx L n 5) (nx_lt _ _ _ (by decide))
    dsimp only at h1 ⊢
    omega
  · split
    · obtain ⟨l1, l2, l3⟩ := lineF_size L (n + 1) 2
      have h1 := key f ⟨1, (lineF L (n + 1) 2).1, 0⟩
      have h2 := key (norm (f ++ [⟨1, (lineF L (n + 1) 2).1, 0⟩])) x
      dsimp only at h1 h2 ⊢
      omega
    · have h1 := key f x
      dsimp only at h1 ⊢
      omega
theorem heap_set1 {W : World} {B : Nat} {a b c b' : Value} (h : W.heap[B]? = some (.cells #[a, b, c] 26 (0, 0))) (hb : b' = b') : (W.setCell ⟨B, 1, none⟩ b').heap[B]? = some (.cells #[a, b', c] 26 (0, 0)) := setCell_heap W B 1 _ 26 b' h

theorem cat_one {f : List It} {y : It} {W : World} {pf q : Option Addr} {cf : Nat} (hR : Its W pf f) (hS : Its W q [y]) (h1 : f.length ≤ 3000) (h2 : txtI f ≤ 2000000) (h3 : y.t.size ≤ 2000000) : Calls Try.prog 44 #[.slice pf f.length cf, .slice q 1 1] W (EndI (norm (f ++ [y])) W) := by
  have e : txtI [y] = y.t.size := by simp [txtI]
  exact rconcat_any pf q cf 1 f [y] W hR hS (by simp; omega) (by rw [e]; omega)

set_option maxHeartbeats 6400000 in
theorem target_any (b : Nat) (pn : Option Addr) (cn : Nat) (L : List Int) (m : Nat) (p : Option Addr) (cap : Nat) (l : List It) (w : World) (h : NumsAt w b pn cn L m) (hlo : 0 < L.length → ∀ a, pn = some a → a.block < w.heap.size) (hm : m ≤ 100000)
    (hI : Its w p l) (hpb : ∀ a, p = some a → a.block ≠ b) (hc : l.length ≤ cap) (hcm : cap ≤ maxLen) (hl : l.length ≤ 1000) (ht : txtI l ≤ 1000000) :
    Calls Try.prog 49 #[.pointer (some ⟨b, 0, none⟩), .slice p l.length cap] w fun e w' => ∃ v, e = .returned v ∧ w.grownBy w' (some b) ∧ NumsAt w' b pn cn L (tarL L m l).2 ∧ OwnI w.heap.size (tarL L m l).1 v w' := by
  unfold maxLen at hcm
  have hr0 : GRel b pn cn L w [] [] m (.slice none 0 0) (.slice none 0 0) w := ⟨h.lt, World.grownBy.refl _ _, h, OwnL.nil _ _, OwnL.nil _ _, fun k h => by simp [Value.ownBlock] at h, hlo⟩
  go_enter Try.func49, Try.ntmps49
  go_wp2_with fail
  go_loopw [5, 10] (fun vf i wr => ∃ (k : Nat) (st : List It × Nat), i = .int .i64 k ∧ k ≤ l.length ∧ Hid (st = tarL L m (l.take k)) ∧ (∃ p c, vf = .slice p st.1.length c) ∧ GRel b pn cn L w st.1 [] st.2 vf (.slice none 0 0) wr) (fun _ i _ => l.length - (intOf i).toNat)
  case atStart => exact ⟨0, ([], m), rfl, Nat.zero_le _, Lib.hid rfl, ⟨_, _, rfl⟩, hr0⟩
  case round =>
    obtain ⟨k, ⟨f, n⟩, rfl, hk, HS, ⟨pf, cf, rfl⟩, hR⟩ := hrel
    dsimp only at hR
    have hsz := tar_size L m (l.take k)
    rw [← HS.out] at hsz
    by_cases hlt : k < l.length
    · obtain ⟨ad, rfl, had, c0, c1, c2⟩ := (hI.other hR.chg hpb).row k hlt
      have hnx := tar_next L m l k hlt
      rw [← HS.out] at hnx
      have hxt := mem_txt (List.getElem_mem hlt)
      have hft : txtI (l.take k) ≤ txtI l := by
        have e : txtI l = txtI (l.take k) + txtI (l.drop k) := by rw [← txtI_append, List.take_append_drop]
        omega
      rw [List.length_take] at hsz
      obtain ⟨s1, s2, s3, s4⟩ := hsz
      dsimp only at s1 s2 s3 s4
      generalize l[k] = x at *
      have hN := Lib.hid hnx; clear hnx
      have hb1 := hR.base
      have gB := hR.chg.size
      have fB := hR.fresh
      have bne := hR.away
      have hR1 := hR.alloc (.cells #[.int .i64 x.k, .string x.t, .int .i64 x.id] 26)
      have hB1 := heap_alloc_new wr (.cells #[.int .i64 x.k, .string x.t, .int .i64 x.id] 26)
      by_cases hkx : x.k = 1
      · have q1 : (x.k == 1) = true := by simpa using hkx
        have h5 := fun W h => next_any b pn cn L n 5 5 rfl W h (by omega) (by omega) (by omega)
        have hr := nx_lt L n 5 (by omega)
        have hst : tarS L (f, n) x = (norm (f ++ [⟨x.k, pickB (tarW x.t) (nx L n 5), x.id⟩]), n + 1) := by unfold tarS; rw [if_pos hkx]
        have hsize := tarW_size x.t (nx L n 5) hr
        generalize nx L n 5 = r at *
        have H5 := Lib.hid h5; clear h5
        have HT := Lib.hid hst; clear hst hkx
        have sz1 : 4 + x.t.size ≤ 9223372036854775807 := by omega
        have sz3 : ¬ 9223372036854775807 < 4 + x.t.size := by omega
        have sz2 : (⟨#[101, 105, 110, 32]⟩ : ByteArray).size + x.t.size ≤ 9223372036854775807 := by show 4 + _ ≤ _; omega
        have hr0 : (0 : Int) ≤ (r : Int) := by omega
        have hr1 : (r : Int) < 5 := by omega
        obtain ⟨_, e1, _, _⟩ := cells_item hB1
        go_upto_region 7 with fail
        go_cut [7, 10] from 10 to 44 (fun s7 s10 wx => s10 = .int .i64 k ∧ s7 = .pointer (some ⟨wr.heap.size, 0, none⟩) ∧ GRel b pn cn L w f [] (n + 1) (.slice pf f.length cf) (.slice none 0 0) wx ∧ wx.heap[wr.heap.size]? = some (.cells #[.int .i64 x.k, .string (pickB (tarW x.t) r), .int .i64 x.id] 26 (0, 0)))
        case first =>
          have hR : GRel b pn cn L w f [] n (.slice pf f.length cf) (.slice none 0 0) (wr.alloc (.cells #[.int .i64 x.k, .string x.t, .int .i64 x.id] 26)).drew := hR1.drewN 1
          have hB : (wr.alloc (.cells #[.int .i64 x.k, .string x.t, .int .i64 x.id] 26)).drew.heap[wr.heap.size]? = some (.cells #[.int .i64 x.k, .string x.t, .int .i64 x.id] 26 (0, 0)) := hB1
          obtain ⟨_, c1, _, f0, f1, f2⟩ := cells_item hB
          clear e1
          refine wp_region_any (by kernel_rfl) ?_
          try (change wpAny _ _ _ _ _ _ _ (World.drew _))
          refine wpAny_take (i := 0) (v := ?_) rfl (by kernel_rfl) (by kernel_rfl) (by kernel_rfl) (fun _ _ _ h => h) (Or.inl ⟨by rfl, ?_⟩) ?_
          rotate_left
          · (intro w; go_simp; try with_reducible rfl)
          try simp only [Act.put, List.getElem_toArray, List.getElem_cons_zero, List.getElem_cons_succ, List.setIfInBounds_toArray, List.set_cons_zero, List.set_cons_succ]
          refine wpAny_take (i := 3) (v := ?_) rfl (by kernel_rfl) (by kernel_rfl) (by kernel_rfl) (fun _ _ _ h => h) (Or.inl ⟨by rfl, ?_⟩) ?_
          rotate_left
          · (intro w; go_simp; try with_reducible rfl)
          try simp only [Act.put, List.getElem_toArray, List.getElem_cons_zero, List.getElem_cons_succ, List.setIfInBounds_toArray, List.set_cons_zero, List.set_cons_succ]
          refine wpAny_take (i := 6) (v := ?_) rfl (by kernel_rfl) (by kernel_rfl) (by kernel_rfl) (fun _ _ _ h => h) (Or.inl ⟨by rfl, ?_⟩) ?_
          rotate_left
          · (intro w; go_simp; try with_reducible rfl)
          try simp only [Act.put, List.getElem_toArray, List.getElem_cons_zero, List.getElem_cons_succ, List.setIfInBounds_toArray, List.set_cons_zero, List.set_cons_succ]
          refine wpAny_ready (rs := [1, 4, 7]) (by kernel_rfl) (by simp) ?_
          refine AllReady.cons rfl (fun K hK => ?_) (AllReady.cons rfl (fun K hK => ?_) (AllReady.cons rfl (fun K hK => ?_) (AllReady.nil)))
          · skip
            go_simp
            refine hK _ _ ?_; clear hK K
            try simp only [Act.put, List.getElem_toArray, List.getElem_cons_zero, List.getElem_cons_succ, List.setIfInBounds_toArray, List.set_cons_zero, List.set_cons_succ]
            refine wpAny_take (i := 2) (v := ?_) rfl (by kernel_rfl) (by kernel_rfl) (by kernel_rfl) (fun _ _ _ h => h) (Or.inl ⟨by rfl, ?_⟩) ?_
            rotate_left
            · (intro w; go_simp; try with_reducible rfl)
            try simp only [Act.put, List.getElem_toArray, List.getElem_cons_zero, List.getElem_cons_succ, List.setIfInBounds_toArray, List.set_cons_zero, List.set_cons_succ]
            refine wpAny_ready (rs := [4, 7]) (by kernel_rfl) (by simp) ?_
            refine AllReady.cons rfl (fun K hK => ?_) (AllReady.cons rfl (fun K hK => ?_) (AllReady.nil))
            · skip
              go_simp
              refine hK _ _ ?_; clear hK K
              try simp only [Act.put, List.getElem_toArray, List.getElem_cons_zero, List.getElem_cons_succ, List.setIfInBounds_toArray, List.set_cons_zero, List.set_cons_succ]
              refine wpAny_ready (rs := [5, 7]) (by kernel_rfl) (by simp) ?_
              refine AllReady.cons rfl (fun K hK => ?_) (AllReady.cons rfl (fun K hK => ?_) (AllReady.nil))
              · skip
                have nn : ((wr.alloc (.cells #[.int .i64 x.k, .string x.t, .int .i64 x.id] 26)).drew).heap.size = wr.heap.size + 1 := by simp
                have hA := heap_at nn (.cells #[.string ⟨#[114, 111, 116]⟩, .string ⟨#[100, 97, 115, 32, 65, 117, 116, 111]⟩, .string ⟨#[]⟩, .string (⟨#[101, 105, 110, 32]⟩ ++ x.t), .string x.t] 9)
                have hB := carry_alloc hB (.cells #[.string ⟨#[114, 111, 116]⟩, .string ⟨#[100, 97, 115, 32, 65, 117, 116, 111]⟩, .string ⟨#[]⟩, .string (⟨#[101, 105, 110, 32]⟩ ++ x.t), .string x.t] 9)
                have ane := hR.away; rw [nn] at ane
                have hR := hR.alloc (.cells #[.string ⟨#[114, 111, 116]⟩, .string ⟨#[100, 97, 115, 32, 65, 117, 116, 111]⟩, .string ⟨#[]⟩, .string (⟨#[101, 105, 110, 32]⟩ ++ x.t), .string x.t] 9)
                clear nn
                obtain ⟨_, c1, _, f0, f1, f2⟩ := cells_item hB
                go_simp
                refine hK _ _ ?_; clear hK K
                try simp only [Act.put, List.getElem_toArray, List.getElem_cons_zero, List.getElem_cons_succ, List.setIfInBounds_toArray, List.set_cons_zero, List.set_cons_succ]
                refine wpAny_ready (rs := [7]) (by kernel_rfl) (by simp) ?_
                refine AllReady.cons rfl (fun K hK => ?_) (AllReady.nil)
                · skip
                  go_simp
                  refine (H5.out _ hR.nums).mono ?_; rintro e v1 ⟨rfl, hg, hN⟩
                  have hR := hR.next hg hN
                  have hB := carry_next hB hg bne
                  obtain ⟨_, c1, _, f0, f1, f2⟩ := cells_item hB
                  have hA := carry_next hA hg ane
                  go_wp2_with fail
                  have c9 := pick_row hA (tarW x.t) rfl r hr
                  try simp only [Act.put, List.getElem_toArray, List.getElem_cons_zero, List.getElem_cons_succ, List.setIfInBounds_toArray, List.set_cons_zero, List.set_cons_succ]
                  refine wpAny_take (i := 8) (v := ?_) rfl (by kernel_rfl) (by kernel_rfl) (by kernel_rfl) (fun _ _ _ h => h) (Or.inl ⟨by rfl, ?_⟩) ?_
                  rotate_left
                  · (intro w; go_simp; try with_reducible rfl)
                  try simp only [Act.put, List.getElem_toArray, List.getElem_cons_zero, List.getElem_cons_succ, List.setIfInBounds_toArray, List.set_cons_zero, List.set_cons_succ]
                  refine wpAny_ready (rs := [9]) (by kernel_rfl) (by simp) ?_
                  refine AllReady.cons rfl (fun K hK => ?_) (AllReady.nil)
                  · skip
                    go_simp
                    refine hK _ _ ?_; clear hK K
                    try simp only [Act.put, List.getElem_toArray, List.getElem_cons_zero, List.getElem_cons_succ, List.setIfInBounds_toArray, List.set_cons_zero, List.set_cons_succ]
                    refine wpAny_take (i := 10) (v := ?_) rfl (by kernel_rfl) (by kernel_rfl) (by kernel_rfl) (fun _ _ _ h => h) (Or.inl ⟨by rfl, ?_⟩) ?_
                    rotate_left
                    · (intro w; go_simp; try with_reducible rfl)
                    try simp only [Act.put, List.getElem_toArray, List.getElem_cons_zero, List.getElem_cons_succ, List.setIfInBounds_toArray, List.set_cons_zero, List.set_cons_succ]
                    refine wpAny_ready (rs := [11]) (by kernel_rfl) (by simp) ?_
                    refine AllReady.cons rfl (fun K hK => ?_) (AllReady.nil)
                    · skip
                      go_simp
                      have hR := hR.set wr.heap.size gB fB (by simp [Value.ownBlock]) 1 (.string (pickB (tarW x.t) r))
                      have hB := heap_set1 (b' := .string (pickB (tarW x.t) r)) hB rfl
                      refine hK _ _ ?_; clear hK K
                      try simp only [Act.put, List.getElem_toArray, List.getElem_cons_zero, List.getElem_cons_succ, List.setIfInBounds_toArray, List.set_cons_zero, List.set_cons_succ]
                      refine wpAny_done (by kernel_rfl) ?_ _
                      go_wp2_with fail
                      go_meet
                      exact ⟨rfl, rfl, hR, hB⟩
              · skip
                go_simp
                refine (H5.out _ hR.nums).mono ?_; rintro e v2 ⟨rfl, hg, hN⟩
                have hR := hR.next hg hN
                have hB := carry_next hB hg bne
                obtain ⟨_, c1, _, f0, f1, f2⟩ := cells_item hB
                go_wp2_with fail
                try simp only [Act.put, List.getElem_toArray, List.getElem_cons_zero, List.getElem_cons_succ, List.setIfInBounds_toArray, List.set_cons_zero, List.set_cons_succ]
                refine wpAny_ready (rs := [5]) (by kernel_rfl) (by simp) ?_
                refine AllReady.cons rfl (fun K hK => ?_) (AllReady.nil)
                · skip
                  have nn : (v2).heap.size = v2.heap.size := by simp
                  have hA := heap_at nn (.cells #[.string ⟨#[114, 111, 116]⟩, .string ⟨#[100, 97, 115, 32, 65, 117, 116, 111]⟩, .string ⟨#[]⟩, .string (⟨#[101, 105, 110, 32]⟩ ++ x.t), .string x.t] 9)
                  have hB := carry_alloc hB (.cells #[.string ⟨#[114, 111, 116]⟩, .string ⟨#[100, 97, 115, 32, 65, 117, 116, 111]⟩, .string ⟨#[]⟩, .string (⟨#[101, 105, 110, 32]⟩ ++ x.t), .string x.t] 9)
                  have ane := hR.away; rw [nn] at ane
                  have hR := hR.alloc (.cells #[.string ⟨#[114, 111, 116]⟩, .string ⟨#[100, 97, 115, 32, 65, 117, 116, 111]⟩, .string ⟨#[]⟩, .string (⟨#[101, 105, 110, 32]⟩ ++ x.t), .string x.t] 9)
                  clear nn
                  obtain ⟨_, c1, _, f0, f1, f2⟩ := cells_item hB
                  have c9 := pick_row hA (tarW x.t) rfl r hr
                  go_simp
                  refine hK _ _ ?_; clear hK K
                  try simp only [Act.put, List.getElem_toArray, List.getElem_cons_zero, List.getElem_cons_succ, List.setIfInBounds_toArray, List.set_cons_zero, List.set_cons_succ]
                  refine wpAny_take (i := 8) (v := ?_) rfl (by kernel_rfl) (by kernel_rfl) (by kernel_rfl) (fun _ _ _ h => h) (Or.inl ⟨by rfl, ?_⟩) ?_
                  rotate_left
                  · (intro w; go_simp; try with_reducible rfl)
                  try simp only [Act.put, List.getElem_toArray, List.getElem_cons_zero, List.getElem_cons_succ, List.setIfInBounds_toArray, List.set_cons_zero, List.set_cons_succ]
                  refine wpAny_ready (rs := [9]) (by kernel_rfl) (by simp) ?_
                  refine AllReady.cons rfl (fun K hK => ?_) (AllReady.nil)
                  · skip
                    go_simp
                    refine hK _ _ ?_; clear hK K
                    try simp only [Act.put, List.getElem_toArray, List.getElem_cons_zero, List.getElem_cons_succ, List.setIfInBounds_toArray, List.set_cons_zero, List.set_cons_succ]
                    refine wpAny_take (i := 10) (v := ?_) rfl (by kernel_rfl) (by kernel_rfl) (by kernel_rfl) (fun _ _ _ h => h) (Or.inl ⟨by rfl, ?_⟩) ?_
                    rotate_left
                    · (intro w; go_simp; try with_reducible rfl)
                    try simp only [Act.put, List.getElem_toArray, List.getElem_cons_zero, List.getElem_cons_succ, List.setIfInBounds_toArray, List.set_cons_zero, List.set_cons_succ]
                    refine wpAny_ready (rs := [11]) (by kernel_rfl) (by simp) ?_
                    refine AllReady.cons rfl (fun K hK => ?_) (AllReady.nil)
                    · skip
                      go_simp
                      have hR := hR.set wr.heap.size gB fB (by simp [Value.ownBlock]) 1 (.string (pickB (tarW x.t) r))
                      have hB := heap_set1 (b' := .string (pickB (tarW x.t) r)) hB rfl
                      refine hK _ _ ?_; clear hK K
                      try simp only [Act.put, List.getElem_toArray, List.getElem_cons_zero, List.getElem_cons_succ, List.setIfInBounds_toArray, List.set_cons_zero, List.set_cons_succ]
                      refine wpAny_done (by kernel_rfl) ?_ _
                      go_wp2_with fail
                      go_meet
                      exact ⟨rfl, rfl, hR, hB⟩
            · skip
              go_simp
              refine (H5.out _ hR.nums).mono ?_; rintro e v3 ⟨rfl, hg, hN⟩
              have hR := hR.next hg hN
              have hB := carry_next hB hg bne
              obtain ⟨_, c1, _, f0, f1, f2⟩ := cells_item hB
              go_wp2_with fail
              try simp only [Act.put, List.getElem_toArray, List.getElem_cons_zero, List.getElem_cons_succ, List.setIfInBounds_toArray, List.set_cons_zero, List.set_cons_succ]
              refine wpAny_ready (rs := [4]) (by kernel_rfl) (by simp) ?_
              refine AllReady.cons rfl (fun K hK => ?_) (AllReady.nil)
              · skip
                go_simp
                refine hK _ _ ?_; clear hK K
                try simp only [Act.put, List.getElem_toArray, List.getElem_cons_zero, List.getElem_cons_succ, List.setIfInBounds_toArray, List.set_cons_zero, List.set_cons_succ]
                refine wpAny_ready (rs := [5]) (by kernel_rfl) (by simp) ?_
                refine AllReady.cons rfl (fun K hK => ?_) (AllReady.nil)
                · skip
                  have nn : (v3).heap.size = v3.heap.size := by simp
                  have hA := heap_at nn (.cells #[.string ⟨#[114, 111, 116]⟩, .string ⟨#[100, 97, 115, 32, 65, 117, 116, 111]⟩, .string ⟨#[]⟩, .string (⟨#[101, 105, 110, 32]⟩ ++ x.t), .string x.t] 9)
                  have hB := carry_alloc hB (.cells #[.string ⟨#[114, 111, 116]⟩, .string ⟨#[100, 97, 115, 32, 65, 117, 116, 111]⟩, .string ⟨#[]⟩, .string (⟨#[101, 105, 110, 32]⟩ ++ x.t), .string x.t] 9)
                  have ane := hR.away; rw [nn] at ane
                  have hR := hR.alloc (.cells #[.string ⟨#[114, 111, 116]⟩, .string ⟨#[100, 97, 115, 32, 65, 117, 116, 111]⟩, .string ⟨#[]⟩, .string (⟨#[101, 105, 110, 32]⟩ ++ x.t), .string x.t] 9)
                  clear nn
                  obtain ⟨_, c1, _, f0, f1, f2⟩ := cells_item hB
                  have c9 := pick_row hA (tarW x.t) rfl r hr
                  go_simp
                  refine hK _ _ ?_; clear hK K
                  try simp only [Act.put, List.getElem_toArray, List.getElem_cons_zero, List.getElem_cons_succ, List.setIfInBounds_toArray, List.set_cons_zero, List.set_cons_succ]
                  refine wpAny_take (i := 8) (v := ?_) rfl (by kernel_rfl) (by kernel_rfl) (by kernel_rfl) (fun _ _ _ h => h) (Or.inl ⟨by rfl, ?_⟩) ?_
                  rotate_left
                  · (intro w; go_simp; try with_reducible rfl)
                  try simp only [Act.put, List.getElem_toArray, List.getElem_cons_zero, List.getElem_cons_succ, List.setIfInBounds_toArray, List.set_cons_zero, List.set_cons_succ]
                  refine wpAny_ready (rs := [9]) (by kernel_rfl) (by simp) ?_
                  refine AllReady.cons rfl (fun K hK => ?_) (AllReady.nil)
                  · skip
                    go_simp
                    refine hK _ _ ?_; clear hK K
                    try simp only [Act.put, List.getElem_toArray, List.getElem_cons_zero, List.getElem_cons_succ, List.setIfInBounds_toArray, List.set_cons_zero, List.set_cons_succ]
                    refine wpAny_take (i := 10) (v := ?_) rfl (by kernel_rfl) (by kernel_rfl) (by kernel_rfl) (fun _ _ _ h => h) (Or.inl ⟨by rfl, ?_⟩) ?_
                    rotate_left
                    · (intro w; go_simp; try with_reducible rfl)
                    try simp only [Act.put, List.getElem_toArray, List.getElem_cons_zero, List.getElem_cons_succ, List.setIfInBounds_toArray, List.set_cons_zero, List.set_cons_succ]
                    refine wpAny_ready (rs := [11]) (by kernel_rfl) (by simp) ?_
                    refine AllReady.cons rfl (fun K hK => ?_) (AllReady.nil)
                    · skip
                      go_simp
                      have hR := hR.set wr.heap.size gB fB (by simp [Value.ownBlock]) 1 (.string (pickB (tarW x.t) r))
                      have hB := heap_set1 (b' := .string (pickB (tarW x.t) r)) hB rfl
                      refine hK _ _ ?_; clear hK K
                      try simp only [Act.put, List.getElem_toArray, List.getElem_cons_zero, List.getElem_cons_succ, List.setIfInBounds_toArray, List.set_cons_zero, List.set_cons_succ]
                      refine wpAny_done (by kernel_rfl) ?_ _
                      go_wp2_with fail
                      go_meet
                      exact ⟨rfl, rfl, hR, hB⟩
          · skip
            go_simp
            refine hK _ _ ?_; clear hK K
            try simp only [Act.put, List.getElem_toArray, List.getElem_cons_zero, List.getElem_cons_succ, List.setIfInBounds_toArray, List.set_cons_zero, List.set_cons_succ]
            refine wpAny_ready (rs := [1, 7]) (by kernel_rfl) (by simp) ?_
            refine AllReady.cons rfl (fun K hK => ?_) (AllReady.cons rfl (fun K hK => ?_) (AllReady.nil))
            · skip
              go_simp
              refine hK _ _ ?_; clear hK K
              try simp only [Act.put, List.getElem_toArray, List.getElem_cons_zero, List.getElem_cons_succ, List.setIfInBounds_toArray, List.set_cons_zero, List.set_cons_succ]
              refine wpAny_take (i := 2) (v := ?_) rfl (by kernel_rfl) (by kernel_rfl) (by kernel_rfl) (fun _ _ _ h => h) (Or.inl ⟨by rfl, ?_⟩) ?_
              rotate_left
              · (intro w; go_simp; try with_reducible rfl)
              try simp only [Act.put, List.getElem_toArray, List.getElem_cons_zero, List.getElem_cons_succ, List.setIfInBounds_toArray, List.set_cons_zero, List.set_cons_succ]
              refine wpAny_ready (rs := [5, 7]) (by kernel_rfl) (by simp) ?_
              refine AllReady.cons rfl (fun K hK => ?_) (AllReady.cons rfl (fun K hK => ?_) (AllReady.nil))
              · skip
                have nn : ((wr.alloc (.cells #[.int .i64 x.k, .string x.t, .int .i64 x.id] 26)).drew).heap.size = wr.heap.size + 1 := by simp
                have hA := heap_at nn (.cells #[.string ⟨#[114, 111, 116]⟩, .string ⟨#[100, 97, 115, 32, 65, 117, 116, 111]⟩, .string ⟨#[]⟩, .string (⟨#[101, 105, 110, 32]⟩ ++ x.t), .string x.t] 9)
                have hB := carry_alloc hB (.cells #[.string ⟨#[114, 111, 116]⟩, .string ⟨#[100, 97, 115, 32, 65, 117, 116, 111]⟩, .string ⟨#[]⟩, .string (⟨#[101, 105, 110, 32]⟩ ++ x.t), .string x.t] 9)
                have ane := hR.away; rw [nn] at ane
                have hR := hR.alloc (.cells #[.string ⟨#[114, 111, 116]⟩, .string ⟨#[100, 97, 115, 32, 65, 117, 116, 111]⟩, .string ⟨#[]⟩, .string (⟨#[101, 105, 110, 32]⟩ ++ x.t), .string x.t] 9)
                clear nn
                obtain ⟨_, c1, _, f0, f1, f2⟩ := cells_item hB
                go_simp
                refine hK _ _ ?_; clear hK K
                try simp only [Act.put, List.getElem_toArray, List.getElem_cons_zero, List.getElem_cons_succ, List.setIfInBounds_toArray, List.set_cons_zero, List.set_cons_succ]
                refine wpAny_ready (rs := [7]) (by kernel_rfl) (by simp) ?_
                refine AllReady.cons rfl (fun K hK => ?_) (AllReady.nil)
                · skip
                  go_simp
                  refine (H5.out _ hR.nums).mono ?_; rintro e v4 ⟨rfl, hg, hN⟩
                  have hR := hR.next hg hN
                  have hB := carry_next hB hg bne
                  obtain ⟨_, c1, _, f0, f1, f2⟩ := cells_item hB
                  have hA := carry_next hA hg ane
                  go_wp2_with fail
                  have c9 := pick_row hA (tarW x.t) rfl r hr
                  try simp only [Act.put, List.getElem_toArray, List.getElem_cons_zero, List.getElem_cons_succ, List.setIfInBounds_toArray, List.set_cons_zero, List.set_cons_succ]
                  refine wpAny_take (i := 8) (v := ?_) rfl (by kernel_rfl) (by kernel_rfl) (by kernel_rfl) (fun _ _ _ h => h) (Or.inl ⟨by rfl, ?_⟩) ?_
                  rotate_left
                  · (intro w; go_simp; try with_reducible rfl)
                  try simp only [Act.put, List.getElem_toArray, List.getElem_cons_zero, List.getElem_cons_succ, List.setIfInBounds_toArray, List.set_cons_zero, List.set_cons_succ]
                  refine wpAny_ready (rs := [9]) (by kernel_rfl) (by simp) ?_
                  refine AllReady.cons rfl (fun K hK => ?_) (AllReady.nil)
                  · skip
                    go_simp
                    refine hK _ _ ?_; clear hK K
                    try simp only [Act.put, List.getElem_toArray, List.getElem_cons_zero, List.getElem_cons_succ, List.setIfInBounds_toArray, List.set_cons_zero, List.set_cons_succ]
                    refine wpAny_take (i := 10) (v := ?_) rfl (by kernel_rfl) (by kernel_rfl) (by kernel_rfl) (fun _ _ _ h => h) (Or.inl ⟨by rfl, ?_⟩) ?_
                    rotate_left
                    · (intro w; go_simp; try with_reducible rfl)
                    try simp only [Act.put, List.getElem_toArray, List.getElem_cons_zero, List.getElem_cons_succ, List.setIfInBounds_toArray, List.set_cons_zero, List.set_cons_succ]
                    refine wpAny_ready (rs := [11]) (by kernel_rfl) (by simp) ?_
                    refine AllReady.cons rfl (fun K hK => ?_) (AllReady.nil)
                    · skip
                      go_simp
                      have hR := hR.set wr.heap.size gB fB (by simp [Value.ownBlock]) 1 (.string (pickB (tarW x.t) r))
                      have hB := heap_set1 (b' := .string (pickB (tarW x.t) r)) hB rfl
                      refine hK _ _ ?_; clear hK K
                      try simp only [Act.put, List.getElem_toArray, List.getElem_cons_zero, List.getElem_cons_succ, List.setIfInBounds_toArray, List.set_cons_zero, List.set_cons_succ]
                      refine wpAny_done (by kernel_rfl) ?_ _
                      go_wp2_with fail
                      go_meet
                      exact ⟨rfl, rfl, hR, hB⟩
              · skip
                go_simp
                refine (H5.out _ hR.nums).mono ?_; rintro e v5 ⟨rfl, hg, hN⟩
                have hR := hR.next hg hN
                have hB := carry_next hB hg bne
                obtain ⟨_, c1, _, f0, f1, f2⟩ := cells_item hB
                go_wp2_with fail
                try simp only [Act.put, List.getElem_toArray, List.getElem_cons_zero, List.getElem_cons_succ, List.setIfInBounds_toArray, List.set_cons_zero, List.set_cons_succ]
                refine wpAny_ready (rs := [5]) (by kernel_rfl) (by simp) ?_
                refine AllReady.cons rfl (fun K hK => ?_) (AllReady.nil)
                · skip
                  have nn : (v5).heap.size = v5.heap.size := by simp
                  have hA := heap_at nn (.cells #[.string ⟨#[114, 111, 116]⟩, .string ⟨#[100, 97, 115, 32, 65, 117, 116, 111]⟩, .string ⟨#[]⟩, .string (⟨#[101, 105, 110, 32]⟩ ++ x.t), .string x.t] 9)
                  have hB := carry_alloc hB (.cells #[.string ⟨#[114, 111, 116]⟩, .string ⟨#[100, 97, 115, 32, 65, 117, 116, 111]⟩, .string ⟨#[]⟩, .string (⟨#[101, 105, 110, 32]⟩ ++ x.t), .string x.t] 9)
                  have ane := hR.away; rw [nn] at ane
                  have hR := hR.alloc (.cells #[.string ⟨#[114, 111, 116]⟩, .string ⟨#[100, 97, 115, 32, 65, 117, 116, 111]⟩, .string ⟨#[]⟩, .string (⟨#[101, 105, 110, 32]⟩ ++ x.t), .string x.t] 9)
                  clear nn
                  obtain ⟨_, c1, _, f0, f1, f2⟩ := cells_item hB
                  have c9 := pick_row hA (tarW x.t) rfl r hr
                  go_simp
                  refine hK _ _ ?_; clear hK K
                  try simp only [Act.put, List.getElem_toArray, List.getElem_cons_zero, List.getElem_cons_succ, List.setIfInBounds_toArray, List.set_cons_zero, List.set_cons_succ]
                  refine wpAny_take (i := 8) (v := ?_) rfl (by kernel_rfl) (by kernel_rfl) (by kernel_rfl) (fun _ _ _ h => h) (Or.inl ⟨by rfl, ?_⟩) ?_
                  rotate_left
                  · (intro w; go_simp; try with_reducible rfl)
                  try simp only [Act.put, List.getElem_toArray, List.getElem_cons_zero, List.getElem_cons_succ, List.setIfInBounds_toArray, List.set_cons_zero, List.set_cons_succ]
                  refine wpAny_ready (rs := [9]) (by kernel_rfl) (by simp) ?_
                  refine AllReady.cons rfl (fun K hK => ?_) (AllReady.nil)
                  · skip
                    go_simp
                    refine hK _ _ ?_; clear hK K
                    try simp only [Act.put, List.getElem_toArray, List.getElem_cons_zero, List.getElem_cons_succ, List.setIfInBounds_toArray, List.set_cons_zero, List.set_cons_succ]
                    refine wpAny_take (i := 10) (v := ?_) rfl (by kernel_rfl) (by kernel_rfl) (by kernel_rfl) (fun _ _ _ h => h) (Or.inl ⟨by rfl, ?_⟩) ?_
                    rotate_left
                    · (intro w; go_simp; try with_reducible rfl)
                    try simp only [Act.put, List.getElem_toArray, List.getElem_cons_zero, List.getElem_cons_succ, List.setIfInBounds_toArray, List.set_cons_zero, List.set_cons_succ]
                    refine wpAny_ready (rs := [11]) (by kernel_rfl) (by simp) ?_
                    refine AllReady.cons rfl (fun K hK => ?_) (AllReady.nil)
                    · skip
                      go_simp
                      have hR := hR.set wr.heap.size gB fB (by simp [Value.ownBlock]) 1 (.string (pickB (tarW x.t) r))
                      have hB := heap_set1 (b' := .string (pickB (tarW x.t) r)) hB rfl
                      refine hK _ _ ?_; clear hK K
                      try simp only [Act.put, List.getElem_toArray, List.getElem_cons_zero, List.getElem_cons_succ, List.setIfInBounds_toArray, List.set_cons_zero, List.set_cons_succ]
                      refine wpAny_done (by kernel_rfl) ?_ _
                      go_wp2_with fail
                      go_meet
                      exact ⟨rfl, rfl, hR, hB⟩
            · skip
              go_simp
              refine (H5.out _ hR.nums).mono ?_; rintro e v6 ⟨rfl, hg, hN⟩
              have hR := hR.next hg hN
              have hB := carry_next hB hg bne
              obtain ⟨_, c1, _, f0, f1, f2⟩ := cells_item hB
              go_wp2_with fail
              try simp only [Act.put, List.getElem_toArray, List.getElem_cons_zero, List.getElem_cons_succ, List.setIfInBounds_toArray, List.set_cons_zero, List.set_cons_succ]
              refine wpAny_ready (rs := [1]) (by kernel_rfl) (by simp) ?_
              refine AllReady.cons rfl (fun K hK => ?_) (AllReady.nil)
              · skip
                go_simp
                refine hK _ _ ?_; clear hK K
                try simp only [Act.put, List.getElem_toArray, List.getElem_cons_zero, List.getElem_cons_succ, List.setIfInBounds_toArray, List.set_cons_zero, List.set_cons_succ]
                refine wpAny_take (i := 2) (v := ?_) rfl (by kernel_rfl) (by kernel_rfl) (by kernel_rfl) (fun _ _ _ h => h) (Or.inl ⟨by rfl, ?_⟩) ?_
                rotate_left
                · (intro w; go_simp; try with_reducible rfl)
                try simp only [Act.put, List.getElem_toArray, List.getElem_cons_zero, List.getElem_cons_succ, List.setIfInBounds_toArray, List.set_cons_zero, List.set_cons_succ]
                refine wpAny_ready (rs := [5]) (by kernel_rfl) (by simp) ?_
                refine AllReady.cons rfl (fun K hK => ?_) (AllReady.nil)
                · skip
                  have nn : (v6).heap.size = v6.heap.size := by simp
                  have hA := heap_at nn (.cells #[.string ⟨#[114, 111, 116]⟩, .string ⟨#[100, 97, 115, 32, 65, 117, 116, 111]⟩, .string ⟨#[]⟩, .string (⟨#[101, 105, 110, 32]⟩ ++ x.t), .string x.t] 9)
                  have hB := carry_alloc hB (.cells #[.string ⟨#[114, 111, 116]⟩, .string ⟨#[100, 97, 115, 32, 65, 117, 116, 111]⟩, .string ⟨#[]⟩, .string (⟨#[101, 105, 110, 32]⟩ ++ x.t), .string x.t] 9)
                  have ane := hR.away; rw [nn] at ane
                  have hR := hR.alloc (.cells #[.string ⟨#[114, 111, 116]⟩, .string ⟨#[100, 97, 115, 32, 65, 117, 116, 111]⟩, .string ⟨#[]⟩, .string (⟨#[101, 105, 110, 32]⟩ ++ x.t), .string x.t] 9)
                  clear nn
                  obtain ⟨_, c1, _, f0, f1, f2⟩ := cells_item hB
                  have c9 := pick_row hA (tarW x.t) rfl r hr
                  go_simp
                  refine hK _ _ ?_; clear hK K
                  try simp only [Act.put, List.getElem_toArray, List.getElem_cons_zero, List.getElem_cons_succ, List.setIfInBounds_toArray, List.set_cons_zero, List.set_cons_succ]
                  refine wpAny_take (i := 8) (v := ?_) rfl (by kernel_rfl) (by kernel_rfl) (by kernel_rfl) (fun _ _ _ h => h) (Or.inl ⟨by rfl, ?_⟩) ?_
                  rotate_left
                  · (intro w; go_simp; try with_reducible rfl)
                  try simp only [Act.put, List.getElem_toArray, List.getElem_cons_zero, List.getElem_cons_succ, List.setIfInBounds_toArray, List.set_cons_zero, List.set_cons_succ]
                  refine wpAny_ready (rs := [9]) (by kernel_rfl) (by simp) ?_
                  refine AllReady.cons rfl (fun K hK => ?_) (AllReady.nil)
                  · skip
                    go_simp
                    refine hK _ _ ?_; clear hK K
                    try simp only [Act.put, List.getElem_toArray, List.getElem_cons_zero, List.getElem_cons_succ, List.setIfInBounds_toArray, List.set_cons_zero, List.set_cons_succ]
                    refine wpAny_take (i := 10) (v := ?_) rfl (by kernel_rfl) (by kernel_rfl) (by kernel_rfl) (fun _ _ _ h => h) (Or.inl ⟨by rfl, ?_⟩) ?_
                    rotate_left
                    · (intro w; go_simp; try with_reducible rfl)
                    try simp only [Act.put, List.getElem_toArray, List.getElem_cons_zero, List.getElem_cons_succ, List.setIfInBounds_toArray, List.set_cons_zero, List.set_cons_succ]
                    refine wpAny_ready (rs := [11]) (by kernel_rfl) (by simp) ?_
                    refine AllReady.cons rfl (fun K hK => ?_) (AllReady.nil)
                    · skip
                      go_simp
                      have hR := hR.set wr.heap.size gB fB (by simp [Value.ownBlock]) 1 (.string (pickB (tarW x.t) r))
                      have hB := heap_set1 (b' := .string (pickB (tarW x.t) r)) hB rfl
                      refine hK _ _ ?_; clear hK K
                      try simp only [Act.put, List.getElem_toArray, List.getElem_cons_zero, List.getElem_cons_succ, List.setIfInBounds_toArray, List.set_cons_zero, List.set_cons_succ]
                      refine wpAny_done (by kernel_rfl) ?_ _
                      go_wp2_with fail
                      go_meet
                      exact ⟨rfl, rfl, hR, hB⟩
          · skip
            go_simp
            refine (H5.out _ hR.nums).mono ?_; rintro e v7 ⟨rfl, hg, hN⟩
            have hR := hR.next hg hN
            have hB := carry_next hB hg bne
            obtain ⟨_, c1, _, f0, f1, f2⟩ := cells_item hB
            go_wp2_with fail
            try simp only [Act.put, List.getElem_toArray, List.getElem_cons_zero, List.getElem_cons_succ, List.setIfInBounds_toArray, List.set_cons_zero, List.set_cons_succ]
            refine wpAny_ready (rs := [1, 4]) (by kernel_rfl) (by simp) ?_
            refine AllReady.cons rfl (fun K hK => ?_) (AllReady.cons rfl (fun K hK => ?_) (AllReady.nil))
            · skip
              go_simp
              refine hK _ _ ?_; clear hK K
              try simp only [Act.put, List.getElem_toArray, List.getElem_cons_zero, List.getElem_cons_succ, List.setIfInBounds_toArray, List.set_cons_zero, List.set_cons_succ]
              refine wpAny_take (i := 2) (v := ?_) rfl (by kernel_rfl) (by kernel_rfl) (by kernel_rfl) (fun _ _ _ h => h) (Or.inl ⟨by rfl, ?_⟩) ?_
              rotate_left
              · (intro w; go_simp; try with_reducible rfl)
              try simp only [Act.put, List.getElem_toArray, List.getElem_cons_zero, List.getElem_cons_succ, List.setIfInBounds_toArray, List.set_cons_zero, List.set_cons_succ]
              refine wpAny_ready (rs := [4]) (by kernel_rfl) (by simp) ?_
              refine AllReady.cons rfl (fun K hK => ?_) (AllReady.nil)
              · skip
                go_simp
                refine hK _ _ ?_; clear hK K
                try simp only [Act.put, List.getElem_toArray, List.getElem_cons_zero, List.getElem_cons_succ, List.setIfInBounds_toArray, List.set_cons_zero, List.set_cons_succ]
                refine wpAny_ready (rs := [5]) (by kernel_rfl) (by simp) ?_
                refine AllReady.cons rfl (fun K hK => ?_) (AllReady.nil)
                · skip
                  have nn : (v7).heap.size = v7.heap.size := by simp
                  have hA := heap_at nn (.cells #[.string ⟨#[114, 111, 116]⟩, .string ⟨#[100, 97, 115, 32, 65, 117, 116, 111]⟩, .string ⟨#[]⟩, .string (⟨#[101, 105, 110, 32]⟩ ++ x.t), .string x.t] 9)
                  have hB := carry_alloc hB (.cells #[.string ⟨#[114, 111, 116]⟩, .string ⟨#[100, 97, 115, 32, 65, 117, 116, 111]⟩, .string ⟨#[]⟩, .string (⟨#[101, 105, 110, 32]⟩ ++ x.t), .string x.t] 9)
                  have ane := hR.away; rw [nn] at ane
                  have hR := hR.alloc (.cells #[.string ⟨#[114, 111, 116]⟩, .string ⟨#[100, 97, 115, 32, 65, 117, 116, 111]⟩, .string ⟨#[]⟩, .string (⟨#[101, 105, 110, 32]⟩ ++ x.t), .string x.t] 9)
                  clear nn
                  obtain ⟨_, c1, _, f0, f1, f2⟩ := cells_item hB
                  have c9 := pick_row hA (tarW x.t) rfl r hr
                  go_simp
                  refine hK _ _ ?_; clear hK K
                  try simp only [Act.put, List.getElem_toArray, List.getElem_cons_zero, List.getElem_cons_succ, List.setIfInBounds_toArray, List.set_cons_zero, List.set_cons_succ]
                  refine wpAny_take (i := 8) (v := ?_) rfl (by kernel_rfl) (by kernel_rfl) (by kernel_rfl) (fun _ _ _ h => h) (Or.inl ⟨by rfl, ?_⟩) ?_
                  rotate_left
                  · (intro w; go_simp; try with_reducible rfl)
                  try simp only [Act.put, List.getElem_toArray, List.getElem_cons_zero, List.getElem_cons_succ, List.setIfInBounds_toArray, List.set_cons_zero, List.set_cons_succ]
                  refine wpAny_ready (rs := [9]) (by kernel_rfl) (by simp) ?_
                  refine AllReady.cons rfl (fun K hK => ?_) (AllReady.nil)
                  · skip
                    go_simp
                    refine hK _ _ ?_; clear hK K
                    try simp only [Act.put, List.getElem_toArray, List.getElem_cons_zero, List.getElem_cons_succ, List.setIfInBounds_toArray, List.set_cons_zero, List.set_cons_succ]
                    refine wpAny_take (i := 10) (v := ?_) rfl (by kernel_rfl) (by kernel_rfl) (by kernel_rfl) (fun _ _ _ h => h) (Or.inl ⟨by rfl, ?_⟩) ?_
                    rotate_left
                    · (intro w; go_simp; try with_reducible rfl)
                    try simp only [Act.put, List.getElem_toArray, List.getElem_cons_zero, List.getElem_cons_succ, List.setIfInBounds_toArray, List.set_cons_zero, List.set_cons_succ]
                    refine wpAny_ready (rs := [11]) (by kernel_rfl) (by simp) ?_
                    refine AllReady.cons rfl (fun K hK => ?_) (AllReady.nil)
                    · skip
                      go_simp
                      have hR := hR.set wr.heap.size gB fB (by simp [Value.ownBlock]) 1 (.string (pickB (tarW x.t) r))
                      have hB := heap_set1 (b' := .string (pickB (tarW x.t) r)) hB rfl
                      refine hK _ _ ?_; clear hK K
                      try simp only [Act.put, List.getElem_toArray, List.getElem_cons_zero, List.getElem_cons_succ, List.setIfInBounds_toArray, List.set_cons_zero, List.set_cons_succ]
                      refine wpAny_done (by kernel_rfl) ?_ _
                      go_wp2_with fail
                      go_meet
                      exact ⟨rfl, rfl, hR, hB⟩
            · skip
              go_simp
              refine hK _ _ ?_; clear hK K
              try simp only [Act.put, List.getElem_toArray, List.getElem_cons_zero, List.getElem_cons_succ, List.setIfInBounds_toArray, List.set_cons_zero, List.set_cons_succ]
              refine wpAny_ready (rs := [1]) (by kernel_rfl) (by simp) ?_
              refine AllReady.cons rfl (fun K hK => ?_) (AllReady.nil)
              · skip
                go_simp
                refine hK _ _ ?_; clear hK K
                try simp only [Act.put, List.getElem_toArray, List.getElem_cons_zero, List.getElem_cons_succ, List.setIfInBounds_toArray, List.set_cons_zero, List.set_cons_succ]
                refine wpAny_take (i := 2) (v := ?_) rfl (by kernel_rfl) (by kernel_rfl) (by kernel_rfl) (fun _ _ _ h => h) (Or.inl ⟨by rfl, ?_⟩) ?_
                rotate_left
                · (intro w; go_simp; try with_reducible rfl)
                try simp only [Act.put, List.getElem_toArray, List.getElem_cons_zero, List.getElem_cons_succ, List.setIfInBounds_toArray, List.set_cons_zero, List.set_cons_succ]
                refine wpAny_ready (rs := [5]) (by kernel_rfl) (by simp) ?_
                refine AllReady.cons rfl (fun K hK => ?_) (AllReady.nil)
                · skip
                  have nn : (v7).heap.size = v7.heap.size := by simp
                  have hA := heap_at nn (.cells #[.string ⟨#[114, 111, 116]⟩, .string ⟨#[100, 97, 115, 32, 65, 117, 116, 111]⟩, .string ⟨#[]⟩, .string (⟨#[101, 105, 110, 32]⟩ ++ x.t), .string x.t] 9)
                  have hB := carry_alloc hB (.cells #[.string ⟨#[114, 111, 116]⟩, .string ⟨#[100, 97, 115, 32, 65, 117, 116, 111]⟩, .string ⟨#[]⟩, .string (⟨#[101, 105, 110, 32]⟩ ++ x.t), .string x.t] 9)
                  have ane := hR.away; rw [nn] at ane
                  have hR := hR.alloc (.cells #[.string ⟨#[114, 111, 116]⟩, .string ⟨#[100, 97, 115, 32, 65, 117, 116, 111]⟩, .string ⟨#[]⟩, .string (⟨#[101, 105, 110, 32]⟩ ++ x.t), .string x.t] 9)
                  clear nn
                  obtain ⟨_, c1, _, f0, f1, f2⟩ := cells_item hB
                  have c9 := pick_row hA (tarW x.t) rfl r hr
                  go_simp
                  refine hK _ _ ?_; clear hK K
                  try simp only [Act.put, List.getElem_toArray, List.getElem_cons_zero, List.getElem_cons_succ, List.setIfInBounds_toArray, List.set_cons_zero, List.set_cons_succ]
                  refine wpAny_take (i := 8) (v := ?_) rfl (by kernel_rfl) (by kernel_rfl) (by kernel_rfl) (fun _ _ _ h => h) (Or.inl ⟨by rfl, ?_⟩) ?_
                  rotate_left
                  · (intro w; go_simp; try with_reducible rfl)
                  try simp only [Act.put, List.getElem_toArray, List.getElem_cons_zero, List.getElem_cons_succ, List.setIfInBounds_toArray, List.set_cons_zero, List.set_cons_succ]
                  refine wpAny_ready (rs := [9]) (by kernel_rfl) (by simp) ?_
                  refine AllReady.cons rfl (fun K hK => ?_) (AllReady.nil)
                  · skip
                    go_simp
                    refine hK _ _ ?_; clear hK K
                    try simp only [Act.put, List.getElem_toArray, List.getElem_cons_zero, List.getElem_cons_succ, List.setIfInBounds_toArray, List.set_cons_zero, List.set_cons_succ]
                    refine wpAny_take (i := 10) (v := ?_) rfl (by kernel_rfl) (by kernel_rfl) (by kernel_rfl) (fun _ _ _ h => h) (Or.inl ⟨by rfl, ?_⟩) ?_
                    rotate_left
                    · (intro w; go_simp; try with_reducible rfl)
                    try simp only [Act.put, List.getElem_toArray, List.getElem_cons_zero, List.getElem_cons_succ, List.setIfInBounds_toArray, List.set_cons_zero, List.set_cons_succ]
                    refine wpAny_ready (rs := [11]) (by kernel_rfl) (by simp) ?_
                    refine AllReady.cons rfl (fun K hK => ?_) (AllReady.nil)
                    · skip
                      go_simp
                      have hR := hR.set wr.heap.size gB fB (by simp [Value.ownBlock]) 1 (.string (pickB (tarW x.t) r))
                      have hB := heap_set1 (b' := .string (pickB (tarW x.t) r)) hB rfl
                      refine hK _ _ ?_; clear hK K
                      try simp only [Act.put, List.getElem_toArray, List.getElem_cons_zero, List.getElem_cons_succ, List.setIfInBounds_toArray, List.set_cons_zero, List.set_cons_succ]
                      refine wpAny_done (by kernel_rfl) ?_ _
                      go_wp2_with fail
                      go_meet
                      exact ⟨rfl, rfl, hR, hB⟩
        case rest =>
          obtain ⟨rfl, rfl, hR5, hB5⟩ := hcut
          obtain ⟨y0, y1, y2, _, _, _⟩ := cells_item hB5
          clear hB5 hB1 e1
          have hR8 := hR5.alloc (.cells #[.int .i64 (⟨x.k, pickB (tarW x.t) r, x.id⟩ : It).k, .string (⟨x.k, pickB (tarW x.t) r, x.id⟩ : It).t, .int .i64 (⟨x.k, pickB (tarW x.t) r, x.id⟩ : It).id] 26)
          have hS8 := its_one (x := (⟨x.k, pickB (tarW x.t) r, x.id⟩ : It)) (heap_alloc_new wc (.cells #[.int .i64 (⟨x.k, pickB (tarW x.t) r, x.id⟩ : It).k, .string (⟨x.k, pickB (tarW x.t) r, x.id⟩ : It).t, .int .i64 (⟨x.k, pickB (tarW x.t) r, x.id⟩ : It).id] 26))
          go_wp2_with fail
          refine (cat_one (y := (⟨x.k, pickB (tarW x.t) r, x.id⟩ : It)) hR8.itsF.2.2.2 hS8 (by omega) (by omega) (by show (pickB (tarW x.t) r).size ≤ _; omega)).mono ?_
          rintro e w9 ⟨v9, rfl, hA9⟩
          have hR9 := hR8.made hA9
          obtain ⟨p9, d9, rfl, _⟩ := hR9.f.its
          go_wp2_with fail
          go_roundw
          case rel => first | exact ⟨k + 1, (norm (f ++ [(⟨x.k, pickB (tarW x.t) r, x.id⟩ : It)]), n + 1), by go_num, hlt, Lib.hid (by rw [hN.out, HT.out]), ⟨_, _, rfl⟩, hR9⟩ | ((repeat apply Exists.intro); exact ⟨⟨k + 1, (norm (f ++ [(⟨x.k, pickB (tarW x.t) r, x.id⟩ : It)]), n + 1), by go_num, hlt, Lib.hid (by rw [hN.out, HT.out]), ⟨_, _, rfl⟩, hR9⟩, rfl⟩)
          case measure => simp [intOf]; omega
      · have q1 : (x.k == 1) = false := by simpa using hkx
        have h3 := fun W h => next_any b pn cn L n 3 3 rfl W h (by omega) (by omega) (by omega)
        have hst : tarS L (f, n) x = if nx L n 3 = 0 then (norm (norm (f ++ [⟨1, (lineF L (n + 1) 2).1, 0⟩]) ++ [x]), (lineF L (n + 1) 2).2) else (norm (f ++ [x]), n + 1) := by unfold tarS; rw [if_neg hkx]
        have hln := lineF_size L (n + 1) 2
        have h6 := fun W h => line_any b pn cn L (n + 1) 2 2 rfl W h (by omega) (by omega)
        generalize nx L n 3 = r at *
        generalize lineF L (n + 1) 2 = F at *
        have H3 := Lib.hid h3; have H6 := Lib.hid h6
        clear h3 h6 hkx
        have HS0 := Lib.hid hst; clear hst
        go_wp2_with fail
        refine (H3.out _ hR1.nums).mono ?_
        rintro e w6 ⟨rfl, hg6, hN6⟩
        have hR6 := hR1.next hg6 hN6
        have hB6 := carry_next hB1 hg6 bne
        clear hB1
        by_cases hr : r = 0
        · have q3 : ((r : Int) == 0) = true := by rw [hr]; rfl
          have HT : Hid (tarS L (f, n) x = (norm (norm (f ++ [⟨1, F.1, 0⟩]) ++ [x]), F.2)) := Lib.hid (by rw [HS0.out, if_pos hr])
          clear hr
          go_wp2_with fail
          refine (H6.out _ hR6.nums).mono ?_
          rintro e w7 ⟨rfl, hg7, hN7⟩
          have hR7 := hR6.next hg7 hN7
          have hB7 := carry_next hB6 hg7 bne
          have hRa := hR7.alloc (.cells #[.int .i64 1, .string F.1, .int .i64 0] 26)
          have hSa := its_one (x := ⟨1, F.1, 0⟩) (heap_alloc_new w7 (.cells #[.int .i64 1, .string F.1, .int .i64 0] 26))
          have hBa := carry_alloc hB7 (.cells #[.int .i64 1, .string F.1, .int .i64 0] 26)
          have zba := (Array.getElem?_eq_some_iff.1 hBa).1
          have HBa := Lib.hid hBa
          clear hB6 hB7 hBa
          go_wp2_with fail
          refine (cat_one (y := ⟨1, F.1, 0⟩) hRa.itsF.2.2.2 hSa (by omega) (by omega) (by show F.1.size ≤ _; omega)).mono ?_
          rintro e w8 ⟨v8, rfl, hA8⟩
          have hRb := hRa.made hA8
          have hBb := (hA8.below.block _ zba).trans HBa.out
          obtain ⟨p8, d8, rfl, _⟩ := hRb.f.its
          obtain ⟨y0, y1, y2, _, _, _⟩ := cells_item hBb
          have hl8 := norm_len (f ++ [⟨1, F.1, 0⟩]); have ht8 := txt_normed (f ++ [⟨1, F.1, 0⟩])
          rw [List.length_append] at hl8; rw [txtI_snoc] at ht8
          have hl9 : (norm (f ++ [⟨1, F.1, 0⟩])).length ≤ f.length + 1 := hl8
          have ht9 : txtI (norm (f ++ [⟨1, F.1, 0⟩])) ≤ txtI f + F.1.size := ht8
          clear hl8 ht8 hBb
          generalize norm (f ++ [⟨1, F.1, 0⟩]) = f1 at *
          have hR8 := hRb.alloc (.cells #[.int .i64 x.k, .string x.t, .int .i64 x.id] 26)
          have hS8 := its_one (x := x) (heap_alloc_new w8 (.cells #[.int .i64 x.k, .string x.t, .int .i64 x.id] 26))
          go_wp2_with fail
          refine (cat_one (y := x) hR8.itsF.2.2.2 hS8 (by omega) (by omega) (by omega)).mono ?_
          rintro e w9 ⟨v9, rfl, hA9⟩
          have hR9 := hR8.made hA9
          obtain ⟨p9, d9, rfl, _⟩ := hR9.f.its
          go_wp2_with fail
          go_roundw
          case rel => first | exact ⟨k + 1, (norm (f1 ++ [x]), F.2), by go_num, hlt, Lib.hid (by rw [hN.out, HT.out]), ⟨_, _, rfl⟩, hR9⟩ | ((repeat apply Exists.intro); exact ⟨⟨k + 1, (norm (f1 ++ [x]), F.2), by go_num, hlt, Lib.hid (by rw [hN.out, HT.out]), ⟨_, _, rfl⟩, hR9⟩, rfl⟩)
          case measure => simp [intOf]; omega
        · have q3 : ((r : Int) == 0) = false := by rw [beq_eq_false_iff_ne]; omega
          have HT : Hid (tarS L (f, n) x = (norm (f ++ [x]), n + 1)) := Lib.hid (by rw [HS0.out, if_neg hr])
          clear hr
          obtain ⟨y0, y1, y2, _, _, _⟩ := cells_item hB6
          clear hB6
          have hR8 := hR6.alloc (.cells #[.int .i64 x.k, .string x.t, .int .i64 x.id] 26)
          have hS8 := its_one (x := x) (heap_alloc_new w6 (.cells #[.int .i64 x.k, .string x.t, .int .i64 x.id] 26))
          go_wp2_with fail
          refine (cat_one (y := x) hR8.itsF.2.2.2 hS8 (by omega) (by omega) (by omega)).mono ?_
          rintro e w9 ⟨v9, rfl, hA9⟩
          have hR9 := hR8.made hA9
          obtain ⟨p9, d9, rfl, _⟩ := hR9.f.its
          go_wp2_with fail
          go_roundw
          case rel => first | exact ⟨k + 1, (norm (f ++ [x]), n + 1), by go_num, hlt, Lib.hid (by rw [hN.out, HT.out]), ⟨_, _, rfl⟩, hR9⟩ | ((repeat apply Exists.intro); exact ⟨⟨k + 1, (norm (f ++ [x]), n + 1), by go_num, hlt, Lib.hid (by rw [hN.out, HT.out]), ⟨_, _, rfl⟩, hR9⟩, rfl⟩)
          case measure => simp [intOf]; omega
    · obtain rfl : k = l.length := by omega
      have hfin := HS.out
      rw [List.take_length] at hfin
      have HF := Lib.hid hfin
      clear hfin hsz
      go_wp2_with fail
      go_ret
      exact ⟨_, rfl, hR.chg, by rw [← HF.out]; exact hR.nums, by rw [← HF.out]; exact hR.f⟩
end Go.Proofs.Ytnfapcfajoboaaa
