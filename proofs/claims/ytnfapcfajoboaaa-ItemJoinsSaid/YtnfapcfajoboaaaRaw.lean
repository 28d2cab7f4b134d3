/- Raw: items that need not be valid. -/
import Derived.Test.YtnfapcfajoboaaaFrg
import Derived.Deep.RegionHeld3
namespace Go.Proofs.Ytnfapcfajoboaaa
open Go.ChangeShapes Go.WideShapes Go.ChangeAt Go.RowKit
set_option linter.unusedVariables false
set_option linter.unusedSimpArgs false
set_option maxRecDepth 100000

def rawL : List ByteArray := [⟨#[]⟩, ⟨#[98]⟩, ⟨#[97, 98, 32, 99]⟩, ⟨#[97, 32, 104, 61, 49]⟩, ⟨#[66]⟩, ⟨#[110, 47]⟩, ⟨#[105]⟩, ⟨#[32, 120]⟩]
theorem wpAnyH_mono {P : Program} {md : Region.Mode} {ops : Array Oper} {Q : Exit → Act → World → Prop} {S S' : World → Prop} (hS : ∀ w, S' w → S w) : ∀ (fuel : Nat) (listed : Array Bool) (a : Act) (w : World), wpAnyH P md ops Q S' fuel listed a w → wpAnyH P md ops Q S fuel listed a w
  | 0, _, _, _, h => h
  | fuel + 1, _, _, _, h => ⟨h.1, fun i hi => wpOp_mono (fun a' w' h' => ⟨hS _ h'.1, wpAnyH_mono hS fuel _ a' w' h'.2⟩) (h.2 i hi)⟩
theorem carry_next {W W' : World} {a b : Nat} {o : Obj} (h : W.heap[a]? = some o) (hg : W.grownBy W' (some b)) (hne : a ≠ b) : W'.heap[a]? = some o := (hg.block a (Array.getElem?_eq_some_iff.1 h).1 (fun e => hne (Option.some.inj e))).trans h
theorem carry_alloc {W : World} {a : Nat} {o : Obj} (h : W.heap[a]? = some o) (o' : Obj) : (W.alloc o').heap[a]? = some o := (Lib.alloc_old W o' a (Array.getElem?_eq_some_iff.1 h).1).trans h
theorem heap_at {W : World} {n : Nat} (h : W.heap.size = n) (o : Obj) : (W.alloc o).heap[n]? = some o := by rw [← h]; exact heap_alloc_new W o
theorem held_set3 {W : World} {A B : Nat} {o : Obj} (h : W.heap[A]? = some o) (hne : A ≠ B) (a' b' c' : Value) : (((W.setCell ⟨B, 0, none⟩ a').setCell ⟨B, 1, none⟩ b').setCell ⟨B, 2, none⟩ c').heap[A]? = some o := by
  rw [Below.heap_setCell _ _ _ _ hne, Below.heap_setCell _ _ _ _ hne, Below.heap_setCell _ _ _ _ hne]; exact h
section
variable {b m : Nat} {pn : Option Addr} {cn : Nat} {L : List Int} {w W : World} {f o : List It} {vf vo : Value}
theorem GRel.away (h : GRel b pn cn L w f o m vf vo W) : W.heap.size ≠ b := by have := h.base; have := h.chg.size; omega
theorem GRel.fresh (h : GRel b pn cn L w f o m vf vo W) : vf.ownBlock ≠ some W.heap.size := fun e => by have := (h.f.lt _ e).2; omega
end
theorem Oks.snoc {l : List It} {x : It} (h : Oks l) (hx : x.ok) : Oks (l ++ [x]) := fun i hi => by
  by_cases hc : i < l.length
  · rw [List.getElem_append_left hc]; exact h i hc
  · have e : i = l.length := by simp at hi; omega
    subst e
    simp only [List.getElem_append_right (Nat.le_refl _), Nat.sub_self, List.getElem_singleton]
    exact hx
theorem wf_small {n : Int} (h1 : -1000 ≤ n) (h2 : n ≤ 1000) : (Lit.int .i64 n).wf = true := by
  simp [Lit.wf, IntKind.min, IntKind.max, IntKind.signed, IntKind.bits]; omega

set_option maxHeartbeats 6400000 in
theorem raw_any (b : Nat) (pn : Option Addr) (cn : Nat) (L : List Int) (m : Nat) (n : Int) (N : Nat) (hnN : n = (N : Int)) (w : World) (h : NumsAt w b pn cn L m) (hlo : 0 < L.length → ∀ a, pn = some a → a.block < w.heap.size) (hm : m ≤ 100000) (hn : N ≤ 100) :
    Calls Try.prog 24 #[.pointer (some ⟨b, 0, none⟩), .int .i64 n] w fun e w' => ∃ v f, e = .returned v ∧ w.grownBy w' (some b) ∧ f.length ≤ N ∧ Oks f ∧ OwnI w.heap.size f v w' := by
  subst hnN
  have h1 := fun W h => next_any b pn cn L m ((N : Int) + 1) (N + 1) (by omega) W h (by omega) (by omega) (by omega)
  have hi0 := nx_lt L m (N + 1) (by omega)
  generalize nx L m (N + 1) = i0 at *
  have H1 := Lib.hid h1; clear h1
  have hr0 : GRel b pn cn L w [] [] m (.slice none 0 0) (.slice none 0 0) w := ⟨h.lt, World.grownBy.refl _ _, h, OwnL.nil _ _, OwnL.nil _ _, fun k h => by simp [Value.ownBlock] at h, hlo⟩
  go_enter Try.func24, Try.ntmps24
  go_wp2_with fail
  refine (H1.out _ h).mono ?_
  rintro e w1 ⟨rfl, hg, hN⟩
  have hr1 := hr0.next hg hN
  clear hr0 hg hN
  go_wp2_with fail
  go_loopw [5, 6] (fun vf i wr => ∃ (k j m' : Nat) (f : List It), i = .int .i64 k ∧ (∃ p c, vf = .slice p f.length c) ∧ k + j = i0 ∧ f.length = j ∧ m' ≤ m + 1 + 4 * j ∧ Oks f ∧ GRel b pn cn L w f [] m' vf (.slice none 0 0) wr) (fun _ i _ => (intOf i).toNat)
  case atStart => exact ⟨i0, 0, m + 1, [], rfl, ⟨_, _, rfl⟩, rfl, rfl, Nat.le_refl _, fun i hi => by (cases hi), hr1⟩
  case round =>
    obtain ⟨k, j, m', f, rfl, ⟨pf, cf, rfl⟩, hkj, rfl, hm', hO, hR⟩ := hrel
    by_cases hlt : 0 < k
    · have q : decide (0 < (k : Int)) = true := decide_eq_true (by omega)
      obtain ⟨k, rfl⟩ : ∃ j, k = j + 1 := ⟨k - 1, by omega⟩
      have h1 := fun W h => next_any b pn cn L m' 8 8 rfl W h (by omega) (by omega) (by omega)
      have h2 := fun W h => next_any b pn cn L (m' + 1) 8 8 rfl W h (by omega) (by omega) (by omega)
      have h3 := fun W h => next_any b pn cn L (m' + 2) 4 4 rfl W h (by omega) (by omega) (by omega)
      have h4 := fun W h => next_any b pn cn L (m' + 3) 3 3 rfl W h (by omega) (by omega) (by omega)
      have hr1 := nx_lt L m' 8 (by omega); have hr2 := nx_lt L (m' + 1) 8 (by omega); have hr3 := nx_lt L (m' + 2) 4 (by omega)
      generalize nx L m' 8 = r1 at *; generalize nx L (m' + 1) 8 = r2 at *; generalize nx L (m' + 2) 4 = r3 at *; generalize nx L (m' + 3) 3 = r4 at *
      have hts := pickB_all (P := fun s => s.size ≤ 5) rawL (by decide) r2 hr2
      have hok : It.ok ⟨(r1 : Int) - 1, pickB rawL r2, r3⟩ := ⟨wf_small (by show -1000 ≤ (r1 : Int) - 1; omega) (by show (r1 : Int) - 1 ≤ 1000; omega), by show (pickB rawL r2).size ≤ _; omega, wf_small (by show -1000 ≤ (r3 : Int); omega) (by show (r3 : Int) ≤ 1000; omega)⟩
      have hbw := hR.base
      have H1 := Lib.hid h1; have H2 := Lib.hid h2; have H3 := Lib.hid h3; have H4 := Lib.hid h4
      clear h1 h2 h3 h4
      have hm2 : m' + 3 ≤ m + 1 + 4 * f.length + 3 := by omega
      have hx0 : (0 : Int) ≤ (r2 : Int) := by omega
      have hx1 : (r2 : Int) < 8 := by omega
      have hx2 : IntKind.i64.wrap ((r1 : Int) - 1) = (r1 : Int) - 1 := IntWalk.i64_in _ ⟨by omega, by omega⟩
      go_upto_region 5 with fail
      go_cut [7] from 12 to 34 (fun s7 wx => ∃ (B : Nat) (x : It), s7 = .pointer (some ⟨B, 0, none⟩) ∧ x.ok ∧ w.heap.size ≤ B ∧ (Value.slice pf f.length cf).ownBlock ≠ some B ∧ GRel b pn cn L w f [] (m' + 3) (.slice pf f.length cf) (.slice none 0 0) wx ∧ wx.heap[B]? = some (.cells #[.int .i64 x.k, .string x.t, .int .i64 x.id] 26 (0, 0)))
      case first =>
        have hR : GRel b pn cn L w f [] m' (.slice pf f.length cf) (.slice none 0 0) wr.drew := hR.drewN 1
        refine wp_region_held_drew (S := fun _ => True) (by kernel_rfl) (trivial) (fun hHeld => ?_)
        refine wpAnyH_take (i := 0) (v := ?_) rfl (by kernel_rfl) (by kernel_rfl) (by kernel_rfl) (fun _ _ _ h => h) (Or.inl ⟨by rfl, ?_⟩) hHeld ?_
        rotate_left
        · (intro w hSw; (try dsimp only at hSw); go_simp; try with_reducible rfl)
        try simp only [Act.put, List.getElem_toArray, List.getElem_cons_zero, List.getElem_cons_succ, List.setIfInBounds_toArray, List.set_cons_zero, List.set_cons_succ]
        refine wpAnyH_take (i := 4) (v := ?_) rfl (by kernel_rfl) (by kernel_rfl) (by kernel_rfl) (fun _ _ _ h => h) (Or.inl ⟨by rfl, ?_⟩) hHeld ?_
        rotate_left
        · (intro w hSw; (try dsimp only at hSw); go_simp; try with_reducible rfl)
        try simp only [Act.put, List.getElem_toArray, List.getElem_cons_zero, List.getElem_cons_succ, List.setIfInBounds_toArray, List.set_cons_zero, List.set_cons_succ]
        refine wpAnyH_take (i := 8) (v := ?_) rfl (by kernel_rfl) (by kernel_rfl) (by kernel_rfl) (fun _ _ _ h => h) (Or.inl ⟨by rfl, ?_⟩) hHeld ?_
        rotate_left
        · (intro w hSw; (try dsimp only at hSw); go_simp; try with_reducible rfl)
        try simp only [Act.put, List.getElem_toArray, List.getElem_cons_zero, List.getElem_cons_succ, List.setIfInBounds_toArray, List.set_cons_zero, List.set_cons_succ]
        refine wpAnyH_ready (rs := [1, 3, 11]) (by kernel_rfl) (by simp) ?_
        refine AllReadyH.cons rfl (fun K hK => ?_) (AllReadyH.cons rfl (fun K hK => ?_) (AllReadyH.cons rfl (fun K hK => ?_) (AllReadyH.nil)))
        · skip
          go_simp
          refine (H1.out _ hR.nums).mono ?_; rintro e v1 ⟨rfl, hg, hN⟩
          have hR := hR.next hg hN
          go_wp2_with fail
          refine hK.out _ _ (trivial) (fun hHeld => ?_)
          clear hK K
          try simp only [Act.put, List.getElem_toArray, List.getElem_cons_zero, List.getElem_cons_succ, List.setIfInBounds_toArray, List.set_cons_zero, List.set_cons_succ]
          refine wpAnyH_take (i := 2) (v := ?_) rfl (by kernel_rfl) (by kernel_rfl) (by kernel_rfl) (fun _ _ _ h => h) (Or.inl ⟨by rfl, ?_⟩) hHeld ?_
          rotate_left
          · (intro w hSw; (try dsimp only at hSw); go_simp; try with_reducible rfl)
          try simp only [Act.put, List.getElem_toArray, List.getElem_cons_zero, List.getElem_cons_succ, List.setIfInBounds_toArray, List.set_cons_zero, List.set_cons_succ]
          refine wpAnyH_ready (rs := [3, 5, 11]) (by kernel_rfl) (by simp) ?_
          refine AllReadyH.cons rfl (fun K hK => ?_) (AllReadyH.cons rfl (fun K hK => ?_) (AllReadyH.cons rfl (fun K hK => ?_) (AllReadyH.nil)))
          · skip
            have nn : (v1).heap.size = v1.heap.size := by simp
            have hA := heap_at nn (.cells #[.string ⟨#[]⟩, .string ⟨#[98]⟩, .string ⟨#[97, 98, 32, 99]⟩, .string ⟨#[97, 32, 104, 61, 49]⟩, .string ⟨#[66]⟩, .string ⟨#[110, 47]⟩, .string ⟨#[105]⟩, .string ⟨#[32, 120]⟩] 9)
            have lhA := hR.away; rw [nn] at lhA
            have ghA := hR.chg.size; rw [nn] at ghA
            have hR := hR.alloc (.cells #[.string ⟨#[]⟩, .string ⟨#[98]⟩, .string ⟨#[97, 98, 32, 99]⟩, .string ⟨#[97, 32, 104, 61, 49]⟩, .string ⟨#[66]⟩, .string ⟨#[110, 47]⟩, .string ⟨#[105]⟩, .string ⟨#[32, 120]⟩] 9)
            clear nn
            go_simp
            refine hK.out _ _ (trivial) (fun hHeld => ?_)
            clear hK K
            try simp only [Act.put, List.getElem_toArray, List.getElem_cons_zero, List.getElem_cons_succ, List.setIfInBounds_toArray, List.set_cons_zero, List.set_cons_succ]
            refine wpAnyH_mono (S' := fun W => W.heap[v1.heap.size]? = some (.cells #[.string ⟨#[]⟩, .string ⟨#[98]⟩, .string ⟨#[97, 98, 32, 99]⟩, .string ⟨#[97, 32, 104, 61, 49]⟩, .string ⟨#[66]⟩, .string ⟨#[110, 47]⟩, .string ⟨#[105]⟩, .string ⟨#[32, 120]⟩] 9 (0, 0))) (fun _ _ => trivial) _ _ _ _ ?_
            have hHeld := hA
            refine wpAnyH_ready (rs := [5, 11]) (by kernel_rfl) (by simp) ?_
            refine AllReadyH.cons rfl (fun K hK => ?_) (AllReadyH.cons rfl (fun K hK => ?_) (AllReadyH.nil))
            · skip
              go_simp
              refine (H2.out _ hR.nums).mono ?_; rintro e v2 ⟨rfl, hg, hN⟩
              have hR := hR.next hg hN
              have hA := carry_next hA hg lhA
              go_wp2_with fail
              refine hK.out _ _ (hA) (fun hHeld => ?_)
              clear hK K
              try simp only [Act.put, List.getElem_toArray, List.getElem_cons_zero, List.getElem_cons_succ, List.setIfInBounds_toArray, List.set_cons_zero, List.set_cons_succ]
              refine wpAnyH_take (i := 6) (v := ?_) rfl (by kernel_rfl) (by kernel_rfl) (by kernel_rfl) (fun _ _ _ h => h) (Or.inl ⟨by rfl, ?_⟩) hHeld ?_
              rotate_left
              · (intro w hSw; (try dsimp only at hSw); go_simp; try with_reducible rfl)
              try simp only [Act.put, List.getElem_toArray, List.getElem_cons_zero, List.getElem_cons_succ, List.setIfInBounds_toArray, List.set_cons_zero, List.set_cons_succ]
              refine wpAnyH_take (i := 7) (v := ?_) rfl (by kernel_rfl) (by kernel_rfl) (by kernel_rfl) (fun _ _ _ h => h) (Or.inl ⟨by rfl, ?_⟩) hHeld ?_
              rotate_left
              · (intro w hSw; have hc := pick_row hSw rawL rfl r2 hr2; go_simp; try with_reducible rfl)
              try simp only [Act.put, List.getElem_toArray, List.getElem_cons_zero, List.getElem_cons_succ, List.setIfInBounds_toArray, List.set_cons_zero, List.set_cons_succ]
              refine wpAnyH_ready (rs := [9, 11]) (by kernel_rfl) (by simp) ?_
              refine AllReadyH.cons rfl (fun K hK => ?_) (AllReadyH.cons rfl (fun K hK => ?_) (AllReadyH.nil))
              · skip
                go_simp
                refine (H3.out _ hR.nums).mono ?_; rintro e v3 ⟨rfl, hg, hN⟩
                have hR := hR.next hg hN
                have hA := carry_next hA hg lhA
                go_wp2_with fail
                refine hK.out _ _ (hA) (fun hHeld => ?_)
                clear hK K
                try simp only [Act.put, List.getElem_toArray, List.getElem_cons_zero, List.getElem_cons_succ, List.setIfInBounds_toArray, List.set_cons_zero, List.set_cons_succ]
                refine wpAnyH_take (i := 10) (v := ?_) rfl (by kernel_rfl) (by kernel_rfl) (by kernel_rfl) (fun _ _ _ h => h) (Or.inl ⟨by rfl, ?_⟩) hHeld ?_
                rotate_left
                · (intro w hSw; (try dsimp only at hSw); go_simp; try with_reducible rfl)
                try simp only [Act.put, List.getElem_toArray, List.getElem_cons_zero, List.getElem_cons_succ, List.setIfInBounds_toArray, List.set_cons_zero, List.set_cons_succ]
                refine wpAnyH_ready (rs := [11]) (by kernel_rfl) (by simp) ?_
                refine AllReadyH.cons rfl (fun K hK => ?_) (AllReadyH.nil)
                · skip
                  have nn : (v3).heap.size = v3.heap.size := by simp
                  have hX := heap_at nn (.cells #[.int .i64 0, .string ⟨#[]⟩, .int .i64 0] 26)
                  have hA0 := hA
                  have hA := carry_alloc hA (.cells #[.int .i64 0, .string ⟨#[]⟩, .int .i64 0] 26)
                  have lhX := hR.away; rw [nn] at lhX
                  have ghX := hR.chg.size; rw [nn] at ghX
                  have fX := hR.fresh; rw [nn] at fX
                  have hR0 := hR
                  have hN0 := heap_at nn (.cells #[.int .i64 ((r1 : Int) - 1), .string (pickB rawL r2), .int .i64 r3] 26)
                  have hA0 := carry_alloc hA0 (.cells #[.int .i64 ((r1 : Int) - 1), .string (pickB rawL r2), .int .i64 r3] 26)
                  have hR := hR.alloc (.cells #[.int .i64 0, .string ⟨#[]⟩, .int .i64 0] 26)
                  clear nn
                  go_simp
                  refine hK.out _ _ (hA) (fun hHeld => ?_)
                  clear hK K
                  try simp only [Act.put, List.getElem_toArray, List.getElem_cons_zero, List.getElem_cons_succ, List.setIfInBounds_toArray, List.set_cons_zero, List.set_cons_succ]
                  refine wpAnyH_ready (rs := [12]) (by kernel_rfl) (by simp) ?_
                  refine AllReadyH.cons rfl (fun K hK => ?_) AllReadyH.nil
                  go_simp
                  refine hK.out _ _ hA0 (fun hHeld => ?_)
                  clear hK K
                  refine wpAnyH_done (by kernel_rfl) ?_ _
                  go_wp2_with fail
                  go_meet
                  exact ⟨v3.heap.size, ⟨(r1 : Int) - 1, pickB rawL r2, r3⟩, rfl, hok, ghX, fX, hR0.alloc _, hN0⟩
              · skip
                have nn : (v2).heap.size = v2.heap.size := by simp
                have hX := heap_at nn (.cells #[.int .i64 0, .string ⟨#[]⟩, .int .i64 0] 26)
                have hA0 := hA
                have hA := carry_alloc hA (.cells #[.int .i64 0, .string ⟨#[]⟩, .int .i64 0] 26)
                have lhX := hR.away; rw [nn] at lhX
                have ghX := hR.chg.size; rw [nn] at ghX
                have fX := hR.fresh; rw [nn] at fX
                have hR0 := hR
                have hN0 := heap_at nn (.cells #[.int .i64 ((r1 : Int) - 1), .string (pickB rawL r2), .int .i64 r3] 26)
                have hA0 := carry_alloc hA0 (.cells #[.int .i64 ((r1 : Int) - 1), .string (pickB rawL r2), .int .i64 r3] 26)
                have hR := hR.alloc (.cells #[.int .i64 0, .string ⟨#[]⟩, .int .i64 0] 26)
                clear nn
                go_simp
                refine hK.out _ _ (hA) (fun hHeld => ?_)
                clear hK K
                try simp only [Act.put, List.getElem_toArray, List.getElem_cons_zero, List.getElem_cons_succ, List.setIfInBounds_toArray, List.set_cons_zero, List.set_cons_succ]
                refine wpAnyH_ready (rs := [9]) (by kernel_rfl) (by simp) ?_
                refine AllReadyH.cons rfl (fun K hK => ?_) (AllReadyH.nil)
                · skip
                  go_simp
                  refine (H3.out _ hR.nums).mono ?_; rintro e v4 ⟨rfl, hg, hN⟩
                  have hR := hR.next hg hN
                  have hA := carry_next hA hg lhA
                  have hX := carry_next hX hg lhX
                  go_wp2_with fail
                  refine hK.out _ _ (hA) (fun hHeld => ?_)
                  clear hK K
                  try simp only [Act.put, List.getElem_toArray, List.getElem_cons_zero, List.getElem_cons_succ, List.setIfInBounds_toArray, List.set_cons_zero, List.set_cons_succ]
                  refine wpAnyH_take (i := 10) (v := ?_) rfl (by kernel_rfl) (by kernel_rfl) (by kernel_rfl) (fun _ _ _ h => h) (Or.inl ⟨by rfl, ?_⟩) hHeld ?_
                  rotate_left
                  · (intro w hSw; (try dsimp only at hSw); go_simp; try with_reducible rfl)
                  try simp only [Act.put, List.getElem_toArray, List.getElem_cons_zero, List.getElem_cons_succ, List.setIfInBounds_toArray, List.set_cons_zero, List.set_cons_succ]
                  refine wpAnyH_ready (rs := [12]) (by kernel_rfl) (by simp) ?_
                  refine AllReadyH.cons rfl (fun K hK => ?_) AllReadyH.nil
                  obtain ⟨_, _, _, f0, f1, f2⟩ := cells_item hX
                  have HX := Lib.hid hX; clear hX
                  go_simp
                  refine hK.out _ _ (held_set3 hHeld (B := v2.heap.size) (by intro e; rw [e, HX.out] at hHeld; simp at hHeld) _ _ _) (fun hHeld => ?_)
                  clear hK K
                  refine wpAnyH_done (by kernel_rfl) ?_ _
                  go_wp2_with fail
                  go_meet
                  exact ⟨v2.heap.size, ⟨(r1 : Int) - 1, pickB rawL r2, r3⟩, rfl, hok, ghX, fX, hR.set3 (v2.heap.size) ghX fX (by simp [Value.ownBlock]) _ _ _, heap_set3 HX.out⟩
            · skip
              have nn : ((v1).alloc (.cells #[.string ⟨#[]⟩, .string ⟨#[98]⟩, .string ⟨#[97, 98, 32, 99]⟩, .string ⟨#[97, 32, 104, 61, 49]⟩, .string ⟨#[66]⟩, .string ⟨#[110, 47]⟩, .string ⟨#[105]⟩, .string ⟨#[32, 120]⟩] 9)).heap.size = v1.heap.size + 1 := by simp
              have hX := heap_at nn (.cells #[.int .i64 0, .string ⟨#[]⟩, .int .i64 0] 26)
              have hA0 := hA
              have hA := carry_alloc hA (.cells #[.int .i64 0, .string ⟨#[]⟩, .int .i64 0] 26)
              have lhX := hR.away; rw [nn] at lhX
              have ghX := hR.chg.size; rw [nn] at ghX
              have fX := hR.fresh; rw [nn] at fX
              have hR0 := hR
              have hN0 := heap_at nn (.cells #[.int .i64 ((r1 : Int) - 1), .string (pickB rawL r2), .int .i64 r3] 26)
              have hA0 := carry_alloc hA0 (.cells #[.int .i64 ((r1 : Int) - 1), .string (pickB rawL r2), .int .i64 r3] 26)
              have hR := hR.alloc (.cells #[.int .i64 0, .string ⟨#[]⟩, .int .i64 0] 26)
              clear nn
              go_simp
              refine hK.out _ _ (hA) (fun hHeld => ?_)
              clear hK K
              try simp only [Act.put, List.getElem_toArray, List.getElem_cons_zero, List.getElem_cons_succ, List.setIfInBounds_toArray, List.set_cons_zero, List.set_cons_succ]
              refine wpAnyH_ready (rs := [5]) (by kernel_rfl) (by simp) ?_
              refine AllReadyH.cons rfl (fun K hK => ?_) (AllReadyH.nil)
              · skip
                go_simp
                refine (H2.out _ hR.nums).mono ?_; rintro e v5 ⟨rfl, hg, hN⟩
                have hR := hR.next hg hN
                have hA := carry_next hA hg lhA
                have hX := carry_next hX hg lhX
                go_wp2_with fail
                refine hK.out _ _ (hA) (fun hHeld => ?_)
                clear hK K
                try simp only [Act.put, List.getElem_toArray, List.getElem_cons_zero, List.getElem_cons_succ, List.setIfInBounds_toArray, List.set_cons_zero, List.set_cons_succ]
                refine wpAnyH_take (i := 6) (v := ?_) rfl (by kernel_rfl) (by kernel_rfl) (by kernel_rfl) (fun _ _ _ h => h) (Or.inl ⟨by rfl, ?_⟩) hHeld ?_
                rotate_left
                · (intro w hSw; (try dsimp only at hSw); go_simp; try with_reducible rfl)
                try simp only [Act.put, List.getElem_toArray, List.getElem_cons_zero, List.getElem_cons_succ, List.setIfInBounds_toArray, List.set_cons_zero, List.set_cons_succ]
                refine wpAnyH_take (i := 7) (v := ?_) rfl (by kernel_rfl) (by kernel_rfl) (by kernel_rfl) (fun _ _ _ h => h) (Or.inl ⟨by rfl, ?_⟩) hHeld ?_
                rotate_left
                · (intro w hSw; have hc := pick_row hSw rawL rfl r2 hr2; go_simp; try with_reducible rfl)
                try simp only [Act.put, List.getElem_toArray, List.getElem_cons_zero, List.getElem_cons_succ, List.setIfInBounds_toArray, List.set_cons_zero, List.set_cons_succ]
                refine wpAnyH_ready (rs := [9]) (by kernel_rfl) (by simp) ?_
                refine AllReadyH.cons rfl (fun K hK => ?_) (AllReadyH.nil)
                · skip
                  go_simp
                  refine (H3.out _ hR.nums).mono ?_; rintro e v6 ⟨rfl, hg, hN⟩
                  have hR := hR.next hg hN
                  have hA := carry_next hA hg lhA
                  have hX := carry_next hX hg lhX
                  go_wp2_with fail
                  refine hK.out _ _ (hA) (fun hHeld => ?_)
                  clear hK K
                  try simp only [Act.put, List.getElem_toArray, List.getElem_cons_zero, List.getElem_cons_succ, List.setIfInBounds_toArray, List.set_cons_zero, List.set_cons_succ]
                  refine wpAnyH_take (i := 10) (v := ?_) rfl (by kernel_rfl) (by kernel_rfl) (by kernel_rfl) (fun _ _ _ h => h) (Or.inl ⟨by rfl, ?_⟩) hHeld ?_
                  rotate_left
                  · (intro w hSw; (try dsimp only at hSw); go_simp; try with_reducible rfl)
                  try simp only [Act.put, List.getElem_toArray, List.getElem_cons_zero, List.getElem_cons_succ, List.setIfInBounds_toArray, List.set_cons_zero, List.set_cons_succ]
                  refine wpAnyH_ready (rs := [12]) (by kernel_rfl) (by simp) ?_
                  refine AllReadyH.cons rfl (fun K hK => ?_) AllReadyH.nil
                  obtain ⟨_, _, _, f0, f1, f2⟩ := cells_item hX
                  have HX := Lib.hid hX; clear hX
                  go_simp
                  refine hK.out _ _ (held_set3 hHeld (B := v1.heap.size + 1) (by intro e; rw [e, HX.out] at hHeld; simp at hHeld) _ _ _) (fun hHeld => ?_)
                  clear hK K
                  refine wpAnyH_done (by kernel_rfl) ?_ _
                  go_wp2_with fail
                  go_meet
                  exact ⟨v1.heap.size + 1, ⟨(r1 : Int) - 1, pickB rawL r2, r3⟩, rfl, hok, ghX, fX, hR.set3 (v1.heap.size + 1) ghX fX (by simp [Value.ownBlock]) _ _ _, heap_set3 HX.out⟩
          · skip
            go_simp
            refine (H2.out _ hR.nums).mono ?_; rintro e v7 ⟨rfl, hg, hN⟩
            have hR := hR.next hg hN
            go_wp2_with fail
            refine hK.out _ _ (trivial) (fun hHeld => ?_)
            clear hK K
            try simp only [Act.put, List.getElem_toArray, List.getElem_cons_zero, List.getElem_cons_succ, List.setIfInBounds_toArray, List.set_cons_zero, List.set_cons_succ]
            refine wpAnyH_ready (rs := [3, 9, 11]) (by kernel_rfl) (by simp) ?_
            refine AllReadyH.cons rfl (fun K hK => ?_) (AllReadyH.cons rfl (fun K hK => ?_) (AllReadyH.cons rfl (fun K hK => ?_) (AllReadyH.nil)))
            · skip
              have nn : (v7).heap.size = v7.heap.size := by simp
              have hA := heap_at nn (.cells #[.string ⟨#[]⟩, .string ⟨#[98]⟩, .string ⟨#[97, 98, 32, 99]⟩, .string ⟨#[97, 32, 104, 61, 49]⟩, .string ⟨#[66]⟩, .string ⟨#[110, 47]⟩, .string ⟨#[105]⟩, .string ⟨#[32, 120]⟩] 9)
              have lhA := hR.away; rw [nn] at lhA
              have ghA := hR.chg.size; rw [nn] at ghA
              have hR := hR.alloc (.cells #[.string ⟨#[]⟩, .string ⟨#[98]⟩, .string ⟨#[97, 98, 32, 99]⟩, .string ⟨#[97, 32, 104, 61, 49]⟩, .string ⟨#[66]⟩, .string ⟨#[110, 47]⟩, .string ⟨#[105]⟩, .string ⟨#[32, 120]⟩] 9)
              clear nn
              go_simp
              refine hK.out _ _ (trivial) (fun hHeld => ?_)
              clear hK K
              try simp only [Act.put, List.getElem_toArray, List.getElem_cons_zero, List.getElem_cons_succ, List.setIfInBounds_toArray, List.set_cons_zero, List.set_cons_succ]
              refine wpAnyH_mono (S' := fun W => W.heap[v7.heap.size]? = some (.cells #[.string ⟨#[]⟩, .string ⟨#[98]⟩, .string ⟨#[97, 98, 32, 99]⟩, .string ⟨#[97, 32, 104, 61, 49]⟩, .string ⟨#[66]⟩, .string ⟨#[110, 47]⟩, .string ⟨#[105]⟩, .string ⟨#[32, 120]⟩] 9 (0, 0))) (fun _ _ => trivial) _ _ _ _ ?_
              have hHeld := hA
              refine wpAnyH_take (i := 6) (v := ?_) rfl (by kernel_rfl) (by kernel_rfl) (by kernel_rfl) (fun _ _ _ h => h) (Or.inl ⟨by rfl, ?_⟩) hHeld ?_
              rotate_left
              · (intro w hSw; (try dsimp only at hSw); go_simp; try with_reducible rfl)
              try simp only [Act.put, List.getElem_toArray, List.getElem_cons_zero, List.getElem_cons_succ, List.setIfInBounds_toArray, List.set_cons_zero, List.set_cons_succ]
              refine wpAnyH_take (i := 7) (v := ?_) rfl (by kernel_rfl) (by kernel_rfl) (by kernel_rfl) (fun _ _ _ h => h) (Or.inl ⟨by rfl, ?_⟩) hHeld ?_
              rotate_left
              · (intro w hSw; have hc := pick_row hSw rawL rfl r2 hr2; go_simp; try with_reducible rfl)
              try simp only [Act.put, List.getElem_toArray, List.getElem_cons_zero, List.getElem_cons_succ, List.setIfInBounds_toArray, List.set_cons_zero, List.set_cons_succ]
              refine wpAnyH_ready (rs := [9, 11]) (by kernel_rfl) (by simp) ?_
              refine AllReadyH.cons rfl (fun K hK => ?_) (AllReadyH.cons rfl (fun K hK => ?_) (AllReadyH.nil))
              · skip
                go_simp
                refine (H3.out _ hR.nums).mono ?_; rintro e v8 ⟨rfl, hg, hN⟩
                have hR := hR.next hg hN
                have hA := carry_next hA hg lhA
                go_wp2_with fail
                refine hK.out _ _ (hA) (fun hHeld => ?_)
                clear hK K
                try simp only [Act.put, List.getElem_toArray, List.getElem_cons_zero, List.getElem_cons_succ, List.setIfInBounds_toArray, List.set_cons_zero, List.set_cons_succ]
                refine wpAnyH_take (i := 10) (v := ?_) rfl (by kernel_rfl) (by kernel_rfl) (by kernel_rfl) (fun _ _ _ h => h) (Or.inl ⟨by rfl, ?_⟩) hHeld ?_
                rotate_left
                · (intro w hSw; (try dsimp only at hSw); go_simp; try with_reducible rfl)
                try simp only [Act.put, List.getElem_toArray, List.getElem_cons_zero, List.getElem_cons_succ, List.setIfInBounds_toArray, List.set_cons_zero, List.set_cons_succ]
                refine wpAnyH_ready (rs := [11]) (by kernel_rfl) (by simp) ?_
                refine AllReadyH.cons rfl (fun K hK => ?_) (AllReadyH.nil)
                · skip
                  have nn : (v8).heap.size = v8.heap.size := by simp
                  have hX := heap_at nn (.cells #[.int .i64 0, .string ⟨#[]⟩, .int .i64 0] 26)
                  have hA0 := hA
                  have hA := carry_alloc hA (.cells #[.int .i64 0, .string ⟨#[]⟩, .int .i64 0] 26)
                  have lhX := hR.away; rw [nn] at lhX
                  have ghX := hR.chg.size; rw [nn] at ghX
                  have fX := hR.fresh; rw [nn] at fX
                  have hR0 := hR
                  have hN0 := heap_at nn (.cells #[.int .i64 ((r1 : Int) - 1), .string (pickB rawL r2), .int .i64 r3] 26)
                  have hA0 := carry_alloc hA0 (.cells #[.int .i64 ((r1 : Int) - 1), .string (pickB rawL r2), .int .i64 r3] 26)
                  have hR := hR.alloc (.cells #[.int .i64 0, .string ⟨#[]⟩, .int .i64 0] 26)
                  clear nn
                  go_simp
                  refine hK.out _ _ (hA) (fun hHeld => ?_)
                  clear hK K
                  try simp only [Act.put, List.getElem_toArray, List.getElem_cons_zero, List.getElem_cons_succ, List.setIfInBounds_toArray, List.set_cons_zero, List.set_cons_succ]
                  refine wpAnyH_ready (rs := [12]) (by kernel_rfl) (by simp) ?_
                  refine AllReadyH.cons rfl (fun K hK => ?_) AllReadyH.nil
                  go_simp
                  refine hK.out _ _ hA0 (fun hHeld => ?_)
                  clear hK K
                  refine wpAnyH_done (by kernel_rfl) ?_ _
                  go_wp2_with fail
                  go_meet
                  exact ⟨v8.heap.size, ⟨(r1 : Int) - 1, pickB rawL r2, r3⟩, rfl, hok, ghX, fX, hR0.alloc _, hN0⟩
              · skip
                have nn : ((v7).alloc (.cells #[.string ⟨#[]⟩, .string ⟨#[98]⟩, .string ⟨#[97, 98, 32, 99]⟩, .string ⟨#[97, 32, 104, 61, 49]⟩, .string ⟨#[66]⟩, .string ⟨#[110, 47]⟩, .string ⟨#[105]⟩, .string ⟨#[32, 120]⟩] 9)).heap.size = v7.heap.size + 1 := by simp
                have hX := heap_at nn (.cells #[.int .i64 0, .string ⟨#[]⟩, .int .i64 0] 26)
                have hA0 := hA
                have hA := carry_alloc hA (.cells #[.int .i64 0, .string ⟨#[]⟩, .int .i64 0] 26)
                have lhX := hR.away; rw [nn] at lhX
                have ghX := hR.chg.size; rw [nn] at ghX
                have fX := hR.fresh; rw [nn] at fX
                have hR0 := hR
                have hN0 := heap_at nn (.cells #[.int .i64 ((r1 : Int) - 1), .string (pickB rawL r2), .int .i64 r3] 26)
                have hA0 := carry_alloc hA0 (.cells #[.int .i64 ((r1 : Int) - 1), .string (pickB rawL r2), .int .i64 r3] 26)
                have hR := hR.alloc (.cells #[.int .i64 0, .string ⟨#[]⟩, .int .i64 0] 26)
                clear nn
                go_simp
                refine hK.out _ _ (hA) (fun hHeld => ?_)
                clear hK K
                try simp only [Act.put, List.getElem_toArray, List.getElem_cons_zero, List.getElem_cons_succ, List.setIfInBounds_toArray, List.set_cons_zero, List.set_cons_succ]
                refine wpAnyH_ready (rs := [9]) (by kernel_rfl) (by simp) ?_
                refine AllReadyH.cons rfl (fun K hK => ?_) (AllReadyH.nil)
                · skip
                  go_simp
                  refine (H3.out _ hR.nums).mono ?_; rintro e v9 ⟨rfl, hg, hN⟩
                  have hR := hR.next hg hN
                  have hA := carry_next hA hg lhA
                  have hX := carry_next hX hg lhX
                  go_wp2_with fail
                  refine hK.out _ _ (hA) (fun hHeld => ?_)
                  clear hK K
                  try simp only [Act.put, List.getElem_toArray, List.getElem_cons_zero, List.getElem_cons_succ, List.setIfInBounds_toArray, List.set_cons_zero, List.set_cons_succ]
                  refine wpAnyH_take (i := 10) (v := ?_) rfl (by kernel_rfl) (by kernel_rfl) (by kernel_rfl) (fun _ _ _ h => h) (Or.inl ⟨by rfl, ?_⟩) hHeld ?_
                  rotate_left
                  · (intro w hSw; (try dsimp only at hSw); go_simp; try with_reducible rfl)
                  try simp only [Act.put, List.getElem_toArray, List.getElem_cons_zero, List.getElem_cons_succ, List.setIfInBounds_toArray, List.set_cons_zero, List.set_cons_succ]
                  refine wpAnyH_ready (rs := [12]) (by kernel_rfl) (by simp) ?_
                  refine AllReadyH.cons rfl (fun K hK => ?_) AllReadyH.nil
                  obtain ⟨_, _, _, f0, f1, f2⟩ := cells_item hX
                  have HX := Lib.hid hX; clear hX
                  go_simp
                  refine hK.out _ _ (held_set3 hHeld (B := v7.heap.size + 1) (by intro e; rw [e, HX.out] at hHeld; simp at hHeld) _ _ _) (fun hHeld => ?_)
                  clear hK K
                  refine wpAnyH_done (by kernel_rfl) ?_ _
                  go_wp2_with fail
                  go_meet
                  exact ⟨v7.heap.size + 1, ⟨(r1 : Int) - 1, pickB rawL r2, r3⟩, rfl, hok, ghX, fX, hR.set3 (v7.heap.size + 1) ghX fX (by simp [Value.ownBlock]) _ _ _, heap_set3 HX.out⟩
            · skip
              go_simp
              refine (H3.out _ hR.nums).mono ?_; rintro e v10 ⟨rfl, hg, hN⟩
              have hR := hR.next hg hN
              go_wp2_with fail
              refine hK.out _ _ (trivial) (fun hHeld => ?_)
              clear hK K
              try simp only [Act.put, List.getElem_toArray, List.getElem_cons_zero, List.getElem_cons_succ, List.setIfInBounds_toArray, List.set_cons_zero, List.set_cons_succ]
              refine wpAnyH_ready (rs := [3, 11]) (by kernel_rfl) (by simp) ?_
              refine AllReadyH.cons rfl (fun K hK => ?_) (AllReadyH.cons rfl (fun K hK => ?_) (AllReadyH.nil))
              · skip
                have nn : (v10).heap.size = v10.heap.size := by simp
                have hA := heap_at nn (.cells #[.string ⟨#[]⟩, .string ⟨#[98]⟩, .string ⟨#[97, 98, 32, 99]⟩, .string ⟨#[97, 32, 104, 61, 49]⟩, .string ⟨#[66]⟩, .string ⟨#[110, 47]⟩, .string ⟨#[105]⟩, .string ⟨#[32, 120]⟩] 9)
                have lhA := hR.away; rw [nn] at lhA
                have ghA := hR.chg.size; rw [nn] at ghA
                have hR := hR.alloc (.cells #[.string ⟨#[]⟩, .string ⟨#[98]⟩, .string ⟨#[97, 98, 32, 99]⟩, .string ⟨#[97, 32, 104, 61, 49]⟩, .string ⟨#[66]⟩, .string ⟨#[110, 47]⟩, .string ⟨#[105]⟩, .string ⟨#[32, 120]⟩] 9)
                clear nn
                go_simp
                refine hK.out _ _ (trivial) (fun hHeld => ?_)
                clear hK K
                try simp only [Act.put, List.getElem_toArray, List.getElem_cons_zero, List.getElem_cons_succ, List.setIfInBounds_toArray, List.set_cons_zero, List.set_cons_succ]
                refine wpAnyH_mono (S' := fun W => W.heap[v10.heap.size]? = some (.cells #[.string ⟨#[]⟩, .string ⟨#[98]⟩, .string ⟨#[97, 98, 32, 99]⟩, .string ⟨#[97, 32, 104, 61, 49]⟩, .string ⟨#[66]⟩, .string ⟨#[110, 47]⟩, .string ⟨#[105]⟩, .string ⟨#[32, 120]⟩] 9 (0, 0))) (fun _ _ => trivial) _ _ _ _ ?_
                have hHeld := hA
                refine wpAnyH_take (i := 6) (v := ?_) rfl (by kernel_rfl) (by kernel_rfl) (by kernel_rfl) (fun _ _ _ h => h) (Or.inl ⟨by rfl, ?_⟩) hHeld ?_
                rotate_left
                · (intro w hSw; (try dsimp only at hSw); go_simp; try with_reducible rfl)
                try simp only [Act.put, List.getElem_toArray, List.getElem_cons_zero, List.getElem_cons_succ, List.setIfInBounds_toArray, List.set_cons_zero, List.set_cons_succ]
                refine wpAnyH_take (i := 7) (v := ?_) rfl (by kernel_rfl) (by kernel_rfl) (by kernel_rfl) (fun _ _ _ h => h) (Or.inl ⟨by rfl, ?_⟩) hHeld ?_
                rotate_left
                · (intro w hSw; have hc := pick_row hSw rawL rfl r2 hr2; go_simp; try with_reducible rfl)
                try simp only [Act.put, List.getElem_toArray, List.getElem_cons_zero, List.getElem_cons_succ, List.setIfInBounds_toArray, List.set_cons_zero, List.set_cons_succ]
                refine wpAnyH_take (i := 10) (v := ?_) rfl (by kernel_rfl) (by kernel_rfl) (by kernel_rfl) (fun _ _ _ h => h) (Or.inl ⟨by rfl, ?_⟩) hHeld ?_
                rotate_left
                · (intro w hSw; (try dsimp only at hSw); go_simp; try with_reducible rfl)
                try simp only [Act.put, List.getElem_toArray, List.getElem_cons_zero, List.getElem_cons_succ, List.setIfInBounds_toArray, List.set_cons_zero, List.set_cons_succ]
                refine wpAnyH_ready (rs := [11]) (by kernel_rfl) (by simp) ?_
                refine AllReadyH.cons rfl (fun K hK => ?_) (AllReadyH.nil)
                · skip
                  have nn : ((v10).alloc (.cells #[.string ⟨#[]⟩, .string ⟨#[98]⟩, .string ⟨#[97, 98, 32, 99]⟩, .string ⟨#[97, 32, 104, 61, 49]⟩, .string ⟨#[66]⟩, .string ⟨#[110, 47]⟩, .string ⟨#[105]⟩, .string ⟨#[32, 120]⟩] 9)).heap.size = v10.heap.size + 1 := by simp
                  have hX := heap_at nn (.cells #[.int .i64 0, .string ⟨#[]⟩, .int .i64 0] 26)
                  have hA0 := hA
                  have hA := carry_alloc hA (.cells #[.int .i64 0, .string ⟨#[]⟩, .int .i64 0] 26)
                  have lhX := hR.away; rw [nn] at lhX
                  have ghX := hR.chg.size; rw [nn] at ghX
                  have fX := hR.fresh; rw [nn] at fX
                  have hR0 := hR
                  have hN0 := heap_at nn (.cells #[.int .i64 ((r1 : Int) - 1), .string (pickB rawL r2), .int .i64 r3] 26)
                  have hA0 := carry_alloc hA0 (.cells #[.int .i64 ((r1 : Int) - 1), .string (pickB rawL r2), .int .i64 r3] 26)
                  have hR := hR.alloc (.cells #[.int .i64 0, .string ⟨#[]⟩, .int .i64 0] 26)
                  clear nn
                  go_simp
                  refine hK.out _ _ (hA) (fun hHeld => ?_)
                  clear hK K
                  try simp only [Act.put, List.getElem_toArray, List.getElem_cons_zero, List.getElem_cons_succ, List.setIfInBounds_toArray, List.set_cons_zero, List.set_cons_succ]
                  refine wpAnyH_ready (rs := [12]) (by kernel_rfl) (by simp) ?_
                  refine AllReadyH.cons rfl (fun K hK => ?_) AllReadyH.nil
                  go_simp
                  refine hK.out _ _ hA0 (fun hHeld => ?_)
                  clear hK K
                  refine wpAnyH_done (by kernel_rfl) ?_ _
                  go_wp2_with fail
                  go_meet
                  exact ⟨v10.heap.size + 1, ⟨(r1 : Int) - 1, pickB rawL r2, r3⟩, rfl, hok, ghX, fX, hR0.alloc _, hN0⟩
              · skip
                have nn : (v10).heap.size = v10.heap.size := by simp
                have hX := heap_at nn (.cells #[.int .i64 0, .string ⟨#[]⟩, .int .i64 0] 26)
                have lhX := hR.away; rw [nn] at lhX
                have ghX := hR.chg.size; rw [nn] at ghX
                have fX := hR.fresh; rw [nn] at fX
                have hR0 := hR
                have hN0 := heap_at nn (.cells #[.int .i64 ((r1 : Int) - 1), .string (pickB rawL r2), .int .i64 r3] 26)
                have hR := hR.alloc (.cells #[.int .i64 0, .string ⟨#[]⟩, .int .i64 0] 26)
                clear nn
                go_simp
                refine hK.out _ _ (trivial) (fun hHeld => ?_)
                clear hK K
                try simp only [Act.put, List.getElem_toArray, List.getElem_cons_zero, List.getElem_cons_succ, List.setIfInBounds_toArray, List.set_cons_zero, List.set_cons_succ]
                refine wpAnyH_ready (rs := [3]) (by kernel_rfl) (by simp) ?_
                refine AllReadyH.cons rfl (fun K hK => ?_) (AllReadyH.nil)
                · skip
                  have nn : ((v10).alloc (.cells #[.int .i64 0, .string ⟨#[]⟩, .int .i64 0] 26)).heap.size = v10.heap.size + 1 := by simp
                  have hA := heap_at nn (.cells #[.string ⟨#[]⟩, .string ⟨#[98]⟩, .string ⟨#[97, 98, 32, 99]⟩, .string ⟨#[97, 32, 104, 61, 49]⟩, .string ⟨#[66]⟩, .string ⟨#[110, 47]⟩, .string ⟨#[105]⟩, .string ⟨#[32, 120]⟩] 9)
                  have hX := carry_alloc hX (.cells #[.string ⟨#[]⟩, .string ⟨#[98]⟩, .string ⟨#[97, 98, 32, 99]⟩, .string ⟨#[97, 32, 104, 61, 49]⟩, .string ⟨#[66]⟩, .string ⟨#[110, 47]⟩, .string ⟨#[105]⟩, .string ⟨#[32, 120]⟩] 9)
                  have lhA := hR.away; rw [nn] at lhA
                  have ghA := hR.chg.size; rw [nn] at ghA
                  have hR := hR.alloc (.cells #[.string ⟨#[]⟩, .string ⟨#[98]⟩, .string ⟨#[97, 98, 32, 99]⟩, .string ⟨#[97, 32, 104, 61, 49]⟩, .string ⟨#[66]⟩, .string ⟨#[110, 47]⟩, .string ⟨#[105]⟩, .string ⟨#[32, 120]⟩] 9)
                  have nn0 : ((v10).alloc (.cells #[.int .i64 ((r1 : Int) - 1), .string (pickB rawL r2), .int .i64 r3] 26)).heap.size = v10.heap.size + 1 := by simp
                  have hA0 := heap_at nn0 (.cells #[.string ⟨#[]⟩, .string ⟨#[98]⟩, .string ⟨#[97, 98, 32, 99]⟩, .string ⟨#[97, 32, 104, 61, 49]⟩, .string ⟨#[66]⟩, .string ⟨#[110, 47]⟩, .string ⟨#[105]⟩, .string ⟨#[32, 120]⟩] 9)
                  have hN0 := carry_alloc hN0 (.cells #[.string ⟨#[]⟩, .string ⟨#[98]⟩, .string ⟨#[97, 98, 32, 99]⟩, .string ⟨#[97, 32, 104, 61, 49]⟩, .string ⟨#[66]⟩, .string ⟨#[110, 47]⟩, .string ⟨#[105]⟩, .string ⟨#[32, 120]⟩] 9)
                  have hR0 := (hR0.alloc (.cells #[.int .i64 ((r1 : Int) - 1), .string (pickB rawL r2), .int .i64 r3] 26)).alloc (.cells #[.string ⟨#[]⟩, .string ⟨#[98]⟩, .string ⟨#[97, 98, 32, 99]⟩, .string ⟨#[97, 32, 104, 61, 49]⟩, .string ⟨#[66]⟩, .string ⟨#[110, 47]⟩, .string ⟨#[105]⟩, .string ⟨#[32, 120]⟩] 9)
                  clear nn0
                  clear nn
                  go_simp
                  refine hK.out _ _ (trivial) (fun hHeld => ?_)
                  clear hK K
                  try simp only [Act.put, List.getElem_toArray, List.getElem_cons_zero, List.getElem_cons_succ, List.setIfInBounds_toArray, List.set_cons_zero, List.set_cons_succ]
                  refine wpAnyH_mono (S' := fun W => W.heap[v10.heap.size + 1]? = some (.cells #[.string ⟨#[]⟩, .string ⟨#[98]⟩, .string ⟨#[97, 98, 32, 99]⟩, .string ⟨#[97, 32, 104, 61, 49]⟩, .string ⟨#[66]⟩, .string ⟨#[110, 47]⟩, .string ⟨#[105]⟩, .string ⟨#[32, 120]⟩] 9 (0, 0))) (fun _ _ => trivial) _ _ _ _ ?_
                  have hHeld := hA
                  refine wpAnyH_take (i := 6) (v := ?_) rfl (by kernel_rfl) (by kernel_rfl) (by kernel_rfl) (fun _ _ _ h => h) (Or.inl ⟨by rfl, ?_⟩) hHeld ?_
                  rotate_left
                  · (intro w hSw; (try dsimp only at hSw); go_simp; try with_reducible rfl)
                  try simp only [Act.put, List.getElem_toArray, List.getElem_cons_zero, List.getElem_cons_succ, List.setIfInBounds_toArray, List.set_cons_zero, List.set_cons_succ]
                  refine wpAnyH_take (i := 7) (v := ?_) rfl (by kernel_rfl) (by kernel_rfl) (by kernel_rfl) (fun _ _ _ h => h) (Or.inl ⟨by rfl, ?_⟩) hHeld ?_
                  rotate_left
                  · (intro w hSw; have hc := pick_row hSw rawL rfl r2 hr2; go_simp; try with_reducible rfl)
                  try simp only [Act.put, List.getElem_toArray, List.getElem_cons_zero, List.getElem_cons_succ, List.setIfInBounds_toArray, List.set_cons_zero, List.set_cons_succ]
                  refine wpAnyH_take (i := 10) (v := ?_) rfl (by kernel_rfl) (by kernel_rfl) (by kernel_rfl) (fun _ _ _ h => h) (Or.inl ⟨by rfl, ?_⟩) hHeld ?_
                  rotate_left
                  · (intro w hSw; (try dsimp only at hSw); go_simp; try with_reducible rfl)
                  try simp only [Act.put, List.getElem_toArray, List.getElem_cons_zero, List.getElem_cons_succ, List.setIfInBounds_toArray, List.set_cons_zero, List.set_cons_succ]
                  refine wpAnyH_ready (rs := [12]) (by kernel_rfl) (by simp) ?_
                  refine AllReadyH.cons rfl (fun K hK => ?_) AllReadyH.nil
                  go_simp
                  refine hK.out _ _ hA0 (fun hHeld => ?_)
                  clear hK K
                  refine wpAnyH_done (by kernel_rfl) ?_ _
                  go_wp2_with fail
                  go_meet
                  exact ⟨v10.heap.size, ⟨(r1 : Int) - 1, pickB rawL r2, r3⟩, rfl, hok, ghX, fX, hR0, hN0⟩
            · skip
              have nn : (v7).heap.size = v7.heap.size := by simp
              have hX := heap_at nn (.cells #[.int .i64 0, .string ⟨#[]⟩, .int .i64 0] 26)
              have lhX := hR.away; rw [nn] at lhX
              have ghX := hR.chg.size; rw [nn] at ghX
              have fX := hR.fresh; rw [nn] at fX
              have hR0 := hR
              have hN0 := heap_at nn (.cells #[.int .i64 ((r1 : Int) - 1), .string (pickB rawL r2), .int .i64 r3] 26)
              have hR := hR.alloc (.cells #[.int .i64 0, .string ⟨#[]⟩, .int .i64 0] 26)
              clear nn
              go_simp
              refine hK.out _ _ (trivial) (fun hHeld => ?_)
              clear hK K
              try simp only [Act.put, List.getElem_toArray, List.getElem_cons_zero, List.getElem_cons_succ, List.setIfInBounds_toArray, List.set_cons_zero, List.set_cons_succ]
              refine wpAnyH_ready (rs := [3, 9]) (by kernel_rfl) (by simp) ?_
              refine AllReadyH.cons rfl (fun K hK => ?_) (AllReadyH.cons rfl (fun K hK => ?_) (AllReadyH.nil))
              · skip
                have nn : ((v7).alloc (.cells #[.int .i64 0, .string ⟨#[]⟩, .int .i64 0] 26)).heap.size = v7.heap.size + 1 := by simp
                have hA := heap_at nn (.cells #[.string ⟨#[]⟩, .string ⟨#[98]⟩, .string ⟨#[97, 98, 32, 99]⟩, .string ⟨#[97, 32, 104, 61, 49]⟩, .string ⟨#[66]⟩, .string ⟨#[110, 47]⟩, .string ⟨#[105]⟩, .string ⟨#[32, 120]⟩] 9)
                have hX := carry_alloc hX (.cells #[.string ⟨#[]⟩, .string ⟨#[98]⟩, .string ⟨#[97, 98, 32, 99]⟩, .string ⟨#[97, 32, 104, 61, 49]⟩, .string ⟨#[66]⟩, .string ⟨#[110, 47]⟩, .string ⟨#[105]⟩, .string ⟨#[32, 120]⟩] 9)
                have lhA := hR.away; rw [nn] at lhA
                have ghA := hR.chg.size; rw [nn] at ghA
                have hR := hR.alloc (.cells #[.string ⟨#[]⟩, .string ⟨#[98]⟩, .string ⟨#[97, 98, 32, 99]⟩, .string ⟨#[97, 32, 104, 61, 49]⟩, .string ⟨#[66]⟩, .string ⟨#[110, 47]⟩, .string ⟨#[105]⟩, .string ⟨#[32, 120]⟩] 9)
                have nn0 : ((v7).alloc (.cells #[.int .i64 ((r1 : Int) - 1), .string (pickB rawL r2), .int .i64 r3] 26)).heap.size = v7.heap.size + 1 := by simp
                have hA0 := heap_at nn0 (.cells #[.string ⟨#[]⟩, .string ⟨#[98]⟩, .string ⟨#[97, 98, 32, 99]⟩, .string ⟨#[97, 32, 104, 61, 49]⟩, .string ⟨#[66]⟩, .string ⟨#[110, 47]⟩, .string ⟨#[105]⟩, .string ⟨#[32, 120]⟩] 9)
                have hN0 := carry_alloc hN0 (.cells #[.string ⟨#[]⟩, .string ⟨#[98]⟩, .string ⟨#[97, 98, 32, 99]⟩, .string ⟨#[97, 32, 104, 61, 49]⟩, .string ⟨#[66]⟩, .string ⟨#[110, 47]⟩, .string ⟨#[105]⟩, .string ⟨#[32, 120]⟩] 9)
                have hR0 := (hR0.alloc (.cells #[.int .i64 ((r1 : Int) - 1), .string (pickB rawL r2), .int .i64 r3] 26)).alloc (.cells #[.string ⟨#[]⟩, .string ⟨#[98]⟩, .string ⟨#[97, 98, 32, 99]⟩, .string ⟨#[97, 32, 104, 61, 49]⟩, .string ⟨#[66]⟩, .string ⟨#[110, 47]⟩, .string ⟨#[105]⟩, .string ⟨#[32, 120]⟩] 9)
                clear nn0
                clear nn
                go_simp
                refine hK.out _ _ (trivial) (fun hHeld => ?_)
                clear hK K
                try simp only [Act.put, List.getElem_toArray, List.getElem_cons_zero, List.getElem_cons_succ, List.setIfInBounds_toArray, List.set_cons_zero, List.set_cons_succ]
                refine wpAnyH_mono (S' := fun W => W.heap[v7.heap.size + 1]? = some (.cells #[.string ⟨#[]⟩, .string ⟨#[98]⟩, .string ⟨#[97, 98, 32, 99]⟩, .string ⟨#[97, 32, 104, 61, 49]⟩, .string ⟨#[66]⟩, .string ⟨#[110, 47]⟩, .string ⟨#[105]⟩, .string ⟨#[32, 120]⟩] 9 (0, 0))) (fun _ _ => trivial) _ _ _ _ ?_
                have hHeld := hA
                refine wpAnyH_take (i := 6) (v := ?_) rfl (by kernel_rfl) (by kernel_rfl) (by kernel_rfl) (fun _ _ _ h => h) (Or.inl ⟨by rfl, ?_⟩) hHeld ?_
                rotate_left
                · (intro w hSw; (try dsimp only at hSw); go_simp; try with_reducible rfl)
                try simp only [Act.put, List.getElem_toArray, List.getElem_cons_zero, List.getElem_cons_succ, List.setIfInBounds_toArray, List.set_cons_zero, List.set_cons_succ]
                refine wpAnyH_take (i := 7) (v := ?_) rfl (by kernel_rfl) (by kernel_rfl) (by kernel_rfl) (fun _ _ _ h => h) (Or.inl ⟨by rfl, ?_⟩) hHeld ?_
                rotate_left
                · (intro w hSw; have hc := pick_row hSw rawL rfl r2 hr2; go_simp; try with_reducible rfl)
                try simp only [Act.put, List.getElem_toArray, List.getElem_cons_zero, List.getElem_cons_succ, List.setIfInBounds_toArray, List.set_cons_zero, List.set_cons_succ]
                refine wpAnyH_ready (rs := [9]) (by kernel_rfl) (by simp) ?_
                refine AllReadyH.cons rfl (fun K hK => ?_) (AllReadyH.nil)
                · skip
                  go_simp
                  refine (H3.out _ hR.nums).mono ?_; rintro e v11 ⟨rfl, hg, hN⟩
                  have hR := hR.next hg hN
                  have hX := carry_next hX hg lhX
                  have hA := carry_next hA hg lhA
                  go_wp2_with fail
                  refine hK.out _ _ (hA) (fun hHeld => ?_)
                  clear hK K
                  try simp only [Act.put, List.getElem_toArray, List.getElem_cons_zero, List.getElem_cons_succ, List.setIfInBounds_toArray, List.set_cons_zero, List.set_cons_succ]
                  refine wpAnyH_take (i := 10) (v := ?_) rfl (by kernel_rfl) (by kernel_rfl) (by kernel_rfl) (fun _ _ _ h => h) (Or.inl ⟨by rfl, ?_⟩) hHeld ?_
                  rotate_left
                  · (intro w hSw; (try dsimp only at hSw); go_simp; try with_reducible rfl)
                  try simp only [Act.put, List.getElem_toArray, List.getElem_cons_zero, List.getElem_cons_succ, List.setIfInBounds_toArray, List.set_cons_zero, List.set_cons_succ]
                  refine wpAnyH_ready (rs := [12]) (by kernel_rfl) (by simp) ?_
                  refine AllReadyH.cons rfl (fun K hK => ?_) AllReadyH.nil
                  obtain ⟨_, _, _, f0, f1, f2⟩ := cells_item hX
                  have HX := Lib.hid hX; clear hX
                  go_simp
                  refine hK.out _ _ (held_set3 hHeld (B := v7.heap.size) (by intro e; rw [e, HX.out] at hHeld; simp at hHeld) _ _ _) (fun hHeld => ?_)
                  clear hK K
                  refine wpAnyH_done (by kernel_rfl) ?_ _
                  go_wp2_with fail
                  go_meet
                  exact ⟨v7.heap.size, ⟨(r1 : Int) - 1, pickB rawL r2, r3⟩, rfl, hok, ghX, fX, hR.set3 (v7.heap.size) ghX fX (by simp [Value.ownBlock]) _ _ _, heap_set3 HX.out⟩
              · skip
                go_simp
                refine (H3.out _ hR.nums).mono ?_; rintro e v12 ⟨rfl, hg, hN⟩
                have hR := hR.next hg hN
                have hX := carry_next hX hg lhX
                go_wp2_with fail
                refine hK.out _ _ (trivial) (fun hHeld => ?_)
                clear hK K
                try simp only [Act.put, List.getElem_toArray, List.getElem_cons_zero, List.getElem_cons_succ, List.setIfInBounds_toArray, List.set_cons_zero, List.set_cons_succ]
                refine wpAnyH_ready (rs := [3]) (by kernel_rfl) (by simp) ?_
                refine AllReadyH.cons rfl (fun K hK => ?_) (AllReadyH.nil)
                · skip
                  have nn : (v12).heap.size = v12.heap.size := by simp
                  have hA := heap_at nn (.cells #[.string ⟨#[]⟩, .string ⟨#[98]⟩, .string ⟨#[97, 98, 32, 99]⟩, .string ⟨#[97, 32, 104, 61, 49]⟩, .string ⟨#[66]⟩, .string ⟨#[110, 47]⟩, .string ⟨#[105]⟩, .string ⟨#[32, 120]⟩] 9)
                  have hX := carry_alloc hX (.cells #[.string ⟨#[]⟩, .string ⟨#[98]⟩, .string ⟨#[97, 98, 32, 99]⟩, .string ⟨#[97, 32, 104, 61, 49]⟩, .string ⟨#[66]⟩, .string ⟨#[110, 47]⟩, .string ⟨#[105]⟩, .string ⟨#[32, 120]⟩] 9)
                  have lhA := hR.away; rw [nn] at lhA
                  have ghA := hR.chg.size; rw [nn] at ghA
                  have hR := hR.alloc (.cells #[.string ⟨#[]⟩, .string ⟨#[98]⟩, .string ⟨#[97, 98, 32, 99]⟩, .string ⟨#[97, 32, 104, 61, 49]⟩, .string ⟨#[66]⟩, .string ⟨#[110, 47]⟩, .string ⟨#[105]⟩, .string ⟨#[32, 120]⟩] 9)
                  clear nn
                  go_simp
                  refine hK.out _ _ (trivial) (fun hHeld => ?_)
                  clear hK K
                  try simp only [Act.put, List.getElem_toArray, List.getElem_cons_zero, List.getElem_cons_succ, List.setIfInBounds_toArray, List.set_cons_zero, List.set_cons_succ]
                  refine wpAnyH_mono (S' := fun W => W.heap[v12.heap.size]? = some (.cells #[.string ⟨#[]⟩, .string ⟨#[98]⟩, .string ⟨#[97, 98, 32, 99]⟩, .string ⟨#[97, 32, 104, 61, 49]⟩, .string ⟨#[66]⟩, .string ⟨#[110, 47]⟩, .string ⟨#[105]⟩, .string ⟨#[32, 120]⟩] 9 (0, 0))) (fun _ _ => trivial) _ _ _ _ ?_
                  have hHeld := hA
                  refine wpAnyH_take (i := 6) (v := ?_) rfl (by kernel_rfl) (by kernel_rfl) (by kernel_rfl) (fun _ _ _ h => h) (Or.inl ⟨by rfl, ?_⟩) hHeld ?_
                  rotate_left
                  · (intro w hSw; (try dsimp only at hSw); go_simp; try with_reducible rfl)
                  try simp only [Act.put, List.getElem_toArray, List.getElem_cons_zero, List.getElem_cons_succ, List.setIfInBounds_toArray, List.set_cons_zero, List.set_cons_succ]
                  refine wpAnyH_take (i := 7) (v := ?_) rfl (by kernel_rfl) (by kernel_rfl) (by kernel_rfl) (fun _ _ _ h => h) (Or.inl ⟨by rfl, ?_⟩) hHeld ?_
                  rotate_left
                  · (intro w hSw; have hc := pick_row hSw rawL rfl r2 hr2; go_simp; try with_reducible rfl)
                  try simp only [Act.put, List.getElem_toArray, List.getElem_cons_zero, List.getElem_cons_succ, List.setIfInBounds_toArray, List.set_cons_zero, List.set_cons_succ]
                  refine wpAnyH_take (i := 10) (v := ?_) rfl (by kernel_rfl) (by kernel_rfl) (by kernel_rfl) (fun _ _ _ h => h) (Or.inl ⟨by rfl, ?_⟩) hHeld ?_
                  rotate_left
                  · (intro w hSw; (try dsimp only at hSw); go_simp; try with_reducible rfl)
                  try simp only [Act.put, List.getElem_toArray, List.getElem_cons_zero, List.getElem_cons_succ, List.setIfInBounds_toArray, List.set_cons_zero, List.set_cons_succ]
                  refine wpAnyH_ready (rs := [12]) (by kernel_rfl) (by simp) ?_
                  refine AllReadyH.cons rfl (fun K hK => ?_) AllReadyH.nil
                  obtain ⟨_, _, _, f0, f1, f2⟩ := cells_item hX
                  have HX := Lib.hid hX; clear hX
                  go_simp
                  refine hK.out _ _ (held_set3 hHeld (B := v7.heap.size) (by intro e; rw [e, HX.out] at hHeld; simp at hHeld) _ _ _) (fun hHeld => ?_)
                  clear hK K
                  refine wpAnyH_done (by kernel_rfl) ?_ _
                  go_wp2_with fail
                  go_meet
                  exact ⟨v7.heap.size, ⟨(r1 : Int) - 1, pickB rawL r2, r3⟩, rfl, hok, ghX, fX, hR.set3 (v7.heap.size) ghX fX (by simp [Value.ownBlock]) _ _ _, heap_set3 HX.out⟩
          · skip
            have nn : (v1).heap.size = v1.heap.size := by simp
            have hX := heap_at nn (.cells #[.int .i64 0, .string ⟨#[]⟩, .int .i64 0] 26)
            have lhX := hR.away; rw [nn] at lhX
            have ghX := hR.chg.size; rw [nn] at ghX
            have fX := hR.fresh; rw [nn] at fX
            have hR0 := hR
            have hN0 := heap_at nn (.cells #[.int .i64 ((r1 : Int) - 1), .string (pickB rawL r2), .int .i64 r3] 26)
            have hR := hR.alloc (.cells #[.int .i64 0, .string ⟨#[]⟩, .int .i64 0] 26)
            clear nn
            go_simp
            refine hK.out _ _ (trivial) (fun hHeld => ?_)
            clear hK K
            try simp only [Act.put, List.getElem_toArray, List.getElem_cons_zero, List.getElem_cons_succ, List.setIfInBounds_toArray, List.set_cons_zero, List.set_cons_succ]
            refine wpAnyH_ready (rs := [3, 5]) (by kernel_rfl) (by simp) ?_
            refine AllReadyH.cons rfl (fun K hK => ?_) (AllReadyH.cons rfl (fun K hK => ?_) (AllReadyH.nil))
            · skip
              have nn : ((v1).alloc (.cells #[.int .i64 0, .string ⟨#[]⟩, .int .i64 0] 26)).heap.size = v1.heap.size + 1 := by simp
              have hA := heap_at nn (.cells #[.string ⟨#[]⟩, .string ⟨#[98]⟩, .string ⟨#[97, 98, 32, 99]⟩, .string ⟨#[97, 32, 104, 61, 49]⟩, .string ⟨#[66]⟩, .string ⟨#[110, 47]⟩, .string ⟨#[105]⟩, .string ⟨#[32, 120]⟩] 9)
              have hX := carry_alloc hX (.cells #[.string ⟨#[]⟩, .string ⟨#[98]⟩, .string ⟨#[97, 98, 32, 99]⟩, .string ⟨#[97, 32, 104, 61, 49]⟩, .string ⟨#[66]⟩, .string ⟨#[110, 47]⟩, .string ⟨#[105]⟩, .string ⟨#[32, 120]⟩] 9)
              have lhA := hR.away; rw [nn] at lhA
              have ghA := hR.chg.size; rw [nn] at ghA
              have hR := hR.alloc (.cells #[.string ⟨#[]⟩, .string ⟨#[98]⟩, .string ⟨#[97, 98, 32, 99]⟩, .string ⟨#[97, 32, 104, 61, 49]⟩, .string ⟨#[66]⟩, .string ⟨#[110, 47]⟩, .string ⟨#[105]⟩, .string ⟨#[32, 120]⟩] 9)
              have nn0 : ((v1).alloc (.cells #[.int .i64 ((r1 : Int) - 1), .string (pickB rawL r2), .int .i64 r3] 26)).heap.size = v1.heap.size + 1 := by simp
              have hA0 := heap_at nn0 (.cells #[.string ⟨#[]⟩, .string ⟨#[98]⟩, .string ⟨#[97, 98, 32, 99]⟩, .string ⟨#[97, 32, 104, 61, 49]⟩, .string ⟨#[66]⟩, .string ⟨#[110, 47]⟩, .string ⟨#[105]⟩, .string ⟨#[32, 120]⟩] 9)
              have hN0 := carry_alloc hN0 (.cells #[.string ⟨#[]⟩, .string ⟨#[98]⟩, .string ⟨#[97, 98, 32, 99]⟩, .string ⟨#[97, 32, 104, 61, 49]⟩, .string ⟨#[66]⟩, .string ⟨#[110, 47]⟩, .string ⟨#[105]⟩, .string ⟨#[32, 120]⟩] 9)
              have hR0 := (hR0.alloc (.cells #[.int .i64 ((r1 : Int) - 1), .string (pickB rawL r2), .int .i64 r3] 26)).alloc (.cells #[.string ⟨#[]⟩, .string ⟨#[98]⟩, .string ⟨#[97, 98, 32, 99]⟩, .string ⟨#[97, 32, 104, 61, 49]⟩, .string ⟨#[66]⟩, .string ⟨#[110, 47]⟩, .string ⟨#[105]⟩, .string ⟨#[32, 120]⟩] 9)
              clear nn0
              clear nn
              go_simp
              refine hK.out _ _ (trivial) (fun hHeld => ?_)
              clear hK K
              try simp only [Act.put, List.getElem_toArray, List.getElem_cons_zero, List.getElem_cons_succ, List.setIfInBounds_toArray, List.set_cons_zero, List.set_cons_succ]
              refine wpAnyH_mono (S' := fun W => W.heap[v1.heap.size + 1]? = some (.cells #[.string ⟨#[]⟩, .string ⟨#[98]⟩, .string ⟨#[97, 98, 32, 99]⟩, .string ⟨#[97, 32, 104, 61, 49]⟩, .string ⟨#[66]⟩, .string ⟨#[110, 47]⟩, .string ⟨#[105]⟩, .string ⟨#[32, 120]⟩] 9 (0, 0))) (fun _ _ => trivial) _ _ _ _ ?_
              have hHeld := hA
              refine wpAnyH_ready (rs := [5]) (by kernel_rfl) (by simp) ?_
              refine AllReadyH.cons rfl (fun K hK => ?_) (AllReadyH.nil)
              · skip
                go_simp
                refine (H2.out _ hR.nums).mono ?_; rintro e v13 ⟨rfl, hg, hN⟩
                have hR := hR.next hg hN
                have hX := carry_next hX hg lhX
                have hA := carry_next hA hg lhA
                go_wp2_with fail
                refine hK.out _ _ (hA) (fun hHeld => ?_)
                clear hK K
                try simp only [Act.put, List.getElem_toArray, List.getElem_cons_zero, List.getElem_cons_succ, List.setIfInBounds_toArray, List.set_cons_zero, List.set_cons_succ]
                refine wpAnyH_take (i := 6) (v := ?_) rfl (by kernel_rfl) (by kernel_rfl) (by kernel_rfl) (fun _ _ _ h => h) (Or.inl ⟨by rfl, ?_⟩) hHeld ?_
                rotate_left
                · (intro w hSw; (try dsimp only at hSw); go_simp; try with_reducible rfl)
                try simp only [Act.put, List.getElem_toArray, List.getElem_cons_zero, List.getElem_cons_succ, List.setIfInBounds_toArray, List.set_cons_zero, List.set_cons_succ]
                refine wpAnyH_take (i := 7) (v := ?_) rfl (by kernel_rfl) (by kernel_rfl) (by kernel_rfl) (fun _ _ _ h => h) (Or.inl ⟨by rfl, ?_⟩) hHeld ?_
                rotate_left
                · (intro w hSw; have hc := pick_row hSw rawL rfl r2 hr2; go_simp; try with_reducible rfl)
                try simp only [Act.put, List.getElem_toArray, List.getElem_cons_zero, List.getElem_cons_succ, List.setIfInBounds_toArray, List.set_cons_zero, List.set_cons_succ]
                refine wpAnyH_ready (rs := [9]) (by kernel_rfl) (by simp) ?_
                refine AllReadyH.cons rfl (fun K hK => ?_) (AllReadyH.nil)
                · skip
                  go_simp
                  refine (H3.out _ hR.nums).mono ?_; rintro e v14 ⟨rfl, hg, hN⟩
                  have hR := hR.next hg hN
                  have hX := carry_next hX hg lhX
                  have hA := carry_next hA hg lhA
                  go_wp2_with fail
                  refine hK.out _ _ (hA) (fun hHeld => ?_)
                  clear hK K
                  try simp only [Act.put, List.getElem_toArray, List.getElem_cons_zero, List.getElem_cons_succ, List.setIfInBounds_toArray, List.set_cons_zero, List.set_cons_succ]
                  refine wpAnyH_take (i := 10) (v := ?_) rfl (by kernel_rfl) (by kernel_rfl) (by kernel_rfl) (fun _ _ _ h => h) (Or.inl ⟨by rfl, ?_⟩) hHeld ?_
                  rotate_left
                  · (intro w hSw; (try dsimp only at hSw); go_simp; try with_reducible rfl)
                  try simp only [Act.put, List.getElem_toArray, List.getElem_cons_zero, List.getElem_cons_succ, List.setIfInBounds_toArray, List.set_cons_zero, List.set_cons_succ]
                  refine wpAnyH_ready (rs := [12]) (by kernel_rfl) (by simp) ?_
                  refine AllReadyH.cons rfl (fun K hK => ?_) AllReadyH.nil
                  obtain ⟨_, _, _, f0, f1, f2⟩ := cells_item hX
                  have HX := Lib.hid hX; clear hX
                  go_simp
                  refine hK.out _ _ (held_set3 hHeld (B := v1.heap.size) (by intro e; rw [e, HX.out] at hHeld; simp at hHeld) _ _ _) (fun hHeld => ?_)
                  clear hK K
                  refine wpAnyH_done (by kernel_rfl) ?_ _
                  go_wp2_with fail
                  go_meet
                  exact ⟨v1.heap.size, ⟨(r1 : Int) - 1, pickB rawL r2, r3⟩, rfl, hok, ghX, fX, hR.set3 (v1.heap.size) ghX fX (by simp [Value.ownBlock]) _ _ _, heap_set3 HX.out⟩
            · skip
              go_simp
              refine (H2.out _ hR.nums).mono ?_; rintro e v15 ⟨rfl, hg, hN⟩
              have hR := hR.next hg hN
              have hX := carry_next hX hg lhX
              go_wp2_with fail
              refine hK.out _ _ (trivial) (fun hHeld => ?_)
              clear hK K
              try simp only [Act.put, List.getElem_toArray, List.getElem_cons_zero, List.getElem_cons_succ, List.setIfInBounds_toArray, List.set_cons_zero, List.set_cons_succ]
              refine wpAnyH_ready (rs := [3, 9]) (by kernel_rfl) (by simp) ?_
              refine AllReadyH.cons rfl (fun K hK => ?_) (AllReadyH.cons rfl (fun K hK => ?_) (AllReadyH.nil))
              · skip
                have nn : (v15).heap.size = v15.heap.size := by simp
                have hA := heap_at nn (.cells #[.string ⟨#[]⟩, .string ⟨#[98]⟩, .string ⟨#[97, 98, 32, 99]⟩, .string ⟨#[97, 32, 104, 61, 49]⟩, .string ⟨#[66]⟩, .string ⟨#[110, 47]⟩, .string ⟨#[105]⟩, .string ⟨#[32, 120]⟩] 9)
                have hX := carry_alloc hX (.cells #[.string ⟨#[]⟩, .string ⟨#[98]⟩, .string ⟨#[97, 98, 32, 99]⟩, .string ⟨#[97, 32, 104, 61, 49]⟩, .string ⟨#[66]⟩, .string ⟨#[110, 47]⟩, .string ⟨#[105]⟩, .string ⟨#[32, 120]⟩] 9)
                have lhA := hR.away; rw [nn] at lhA
                have ghA := hR.chg.size; rw [nn] at ghA
                have hR := hR.alloc (.cells #[.string ⟨#[]⟩, .string ⟨#[98]⟩, .string ⟨#[97, 98, 32, 99]⟩, .string ⟨#[97, 32, 104, 61, 49]⟩, .string ⟨#[66]⟩, .string ⟨#[110, 47]⟩, .string ⟨#[105]⟩, .string ⟨#[32, 120]⟩] 9)
                clear nn
                go_simp
                refine hK.out _ _ (trivial) (fun hHeld => ?_)
                clear hK K
                try simp only [Act.put, List.getElem_toArray, List.getElem_cons_zero, List.getElem_cons_succ, List.setIfInBounds_toArray, List.set_cons_zero, List.set_cons_succ]
                refine wpAnyH_mono (S' := fun W => W.heap[v15.heap.size]? = some (.cells #[.string ⟨#[]⟩, .string ⟨#[98]⟩, .string ⟨#[97, 98, 32, 99]⟩, .string ⟨#[97, 32, 104, 61, 49]⟩, .string ⟨#[66]⟩, .string ⟨#[110, 47]⟩, .string ⟨#[105]⟩, .string ⟨#[32, 120]⟩] 9 (0, 0))) (fun _ _ => trivial) _ _ _ _ ?_
                have hHeld := hA
                refine wpAnyH_take (i := 6) (v := ?_) rfl (by kernel_rfl) (by kernel_rfl) (by kernel_rfl) (fun _ _ _ h => h) (Or.inl ⟨by rfl, ?_⟩) hHeld ?_
                rotate_left
                · (intro w hSw; (try dsimp only at hSw); go_simp; try with_reducible rfl)
                try simp only [Act.put, List.getElem_toArray, List.getElem_cons_zero, List.getElem_cons_succ, List.setIfInBounds_toArray, List.set_cons_zero, List.set_cons_succ]
                refine wpAnyH_take (i := 7) (v := ?_) rfl (by kernel_rfl) (by kernel_rfl) (by kernel_rfl) (fun _ _ _ h => h) (Or.inl ⟨by rfl, ?_⟩) hHeld ?_
                rotate_left
                · (intro w hSw; have hc := pick_row hSw rawL rfl r2 hr2; go_simp; try with_reducible rfl)
                try simp only [Act.put, List.getElem_toArray, List.getElem_cons_zero, List.getElem_cons_succ, List.setIfInBounds_toArray, List.set_cons_zero, List.set_cons_succ]
                refine wpAnyH_ready (rs := [9]) (by kernel_rfl) (by simp) ?_
                refine AllReadyH.cons rfl (fun K hK => ?_) (AllReadyH.nil)
                · skip
                  go_simp
                  refine (H3.out _ hR.nums).mono ?_; rintro e v16 ⟨rfl, hg, hN⟩
                  have hR := hR.next hg hN
                  have hX := carry_next hX hg lhX
                  have hA := carry_next hA hg lhA
                  go_wp2_with fail
                  refine hK.out _ _ (hA) (fun hHeld => ?_)
                  clear hK K
                  try simp only [Act.put, List.getElem_toArray, List.getElem_cons_zero, List.getElem_cons_succ, List.setIfInBounds_toArray, List.set_cons_zero, List.set_cons_succ]
                  refine wpAnyH_take (i := 10) (v := ?_) rfl (by kernel_rfl) (by kernel_rfl) (by kernel_rfl) (fun _ _ _ h => h) (Or.inl ⟨by rfl, ?_⟩) hHeld ?_
                  rotate_left
                  · (intro w hSw; (try dsimp only at hSw); go_simp; try with_reducible rfl)
                  try simp only [Act.put, List.getElem_toArray, List.getElem_cons_zero, List.getElem_cons_succ, List.setIfInBounds_toArray, List.set_cons_zero, List.set_cons_succ]
                  refine wpAnyH_ready (rs := [12]) (by kernel_rfl) (by simp) ?_
                  refine AllReadyH.cons rfl (fun K hK => ?_) AllReadyH.nil
                  obtain ⟨_, _, _, f0, f1, f2⟩ := cells_item hX
                  have HX := Lib.hid hX; clear hX
                  go_simp
                  refine hK.out _ _ (held_set3 hHeld (B := v1.heap.size) (by intro e; rw [e, HX.out] at hHeld; simp at hHeld) _ _ _) (fun hHeld => ?_)
                  clear hK K
                  refine wpAnyH_done (by kernel_rfl) ?_ _
                  go_wp2_with fail
                  go_meet
                  exact ⟨v1.heap.size, ⟨(r1 : Int) - 1, pickB rawL r2, r3⟩, rfl, hok, ghX, fX, hR.set3 (v1.heap.size) ghX fX (by simp [Value.ownBlock]) _ _ _, heap_set3 HX.out⟩
              · skip
                go_simp
                refine (H3.out _ hR.nums).mono ?_; rintro e v17 ⟨rfl, hg, hN⟩
                have hR := hR.next hg hN
                have hX := carry_next hX hg lhX
                go_wp2_with fail
                refine hK.out _ _ (trivial) (fun hHeld => ?_)
                clear hK K
                try simp only [Act.put, List.getElem_toArray, List.getElem_cons_zero, List.getElem_cons_succ, List.setIfInBounds_toArray, List.set_cons_zero, List.set_cons_succ]
                refine wpAnyH_ready (rs := [3]) (by kernel_rfl) (by simp) ?_
                refine AllReadyH.cons rfl (fun K hK => ?_) (AllReadyH.nil)
                · skip
                  have nn : (v17).heap.size = v17.heap.size := by simp
                  have hA := heap_at nn (.cells #[.string ⟨#[]⟩, .string ⟨#[98]⟩, .string ⟨#[97, 98, 32, 99]⟩, .string ⟨#[97, 32, 104, 61, 49]⟩, .string ⟨#[66]⟩, .string ⟨#[110, 47]⟩, .string ⟨#[105]⟩, .string ⟨#[32, 120]⟩] 9)
                  have hX := carry_alloc hX (.cells #[.string ⟨#[]⟩, .string ⟨#[98]⟩, .string ⟨#[97, 98, 32, 99]⟩, .string ⟨#[97, 32, 104, 61, 49]⟩, .string ⟨#[66]⟩, .string ⟨#[110, 47]⟩, .string ⟨#[105]⟩, .string ⟨#[32, 120]⟩] 9)
                  have lhA := hR.away; rw [nn] at lhA
                  have ghA := hR.chg.size; rw [nn] at ghA
                  have hR := hR.alloc (.cells #[.string ⟨#[]⟩, .string ⟨#[98]⟩, .string ⟨#[97, 98, 32, 99]⟩, .string ⟨#[97, 32, 104, 61, 49]⟩, .string ⟨#[66]⟩, .string ⟨#[110, 47]⟩, .string ⟨#[105]⟩, .string ⟨#[32, 120]⟩] 9)
                  clear nn
                  go_simp
                  refine hK.out _ _ (trivial) (fun hHeld => ?_)
                  clear hK K
                  try simp only [Act.put, List.getElem_toArray, List.getElem_cons_zero, List.getElem_cons_succ, List.setIfInBounds_toArray, List.set_cons_zero, List.set_cons_succ]
                  refine wpAnyH_mono (S' := fun W => W.heap[v17.heap.size]? = some (.cells #[.string ⟨#[]⟩, .string ⟨#[98]⟩, .string ⟨#[97, 98, 32, 99]⟩, .string ⟨#[97, 32, 104, 61, 49]⟩, .string ⟨#[66]⟩, .string ⟨#[110, 47]⟩, .string ⟨#[105]⟩, .string ⟨#[32, 120]⟩] 9 (0, 0))) (fun _ _ => trivial) _ _ _ _ ?_
                  have hHeld := hA
                  refine wpAnyH_take (i := 6) (v := ?_) rfl (by kernel_rfl) (by kernel_rfl) (by kernel_rfl) (fun _ _ _ h => h) (Or.inl ⟨by rfl, ?_⟩) hHeld ?_
                  rotate_left
                  · (intro w hSw; (try dsimp only at hSw); go_simp; try with_reducible rfl)
                  try simp only [Act.put, List.getElem_toArray, List.getElem_cons_zero, List.getElem_cons_succ, List.setIfInBounds_toArray, List.set_cons_zero, List.set_cons_succ]
                  refine wpAnyH_take (i := 7) (v := ?_) rfl (by kernel_rfl) (by kernel_rfl) (by kernel_rfl) (fun _ _ _ h => h) (Or.inl ⟨by rfl, ?_⟩) hHeld ?_
                  rotate_left
                  · (intro w hSw; have hc := pick_row hSw rawL rfl r2 hr2; go_simp; try with_reducible rfl)
                  try simp only [Act.put, List.getElem_toArray, List.getElem_cons_zero, List.getElem_cons_succ, List.setIfInBounds_toArray, List.set_cons_zero, List.set_cons_succ]
                  refine wpAnyH_take (i := 10) (v := ?_) rfl (by kernel_rfl) (by kernel_rfl) (by kernel_rfl) (fun _ _ _ h => h) (Or.inl ⟨by rfl, ?_⟩) hHeld ?_
                  rotate_left
                  · (intro w hSw; (try dsimp only at hSw); go_simp; try with_reducible rfl)
                  try simp only [Act.put, List.getElem_toArray, List.getElem_cons_zero, List.getElem_cons_succ, List.setIfInBounds_toArray, List.set_cons_zero, List.set_cons_succ]
                  refine wpAnyH_ready (rs := [12]) (by kernel_rfl) (by simp) ?_
                  refine AllReadyH.cons rfl (fun K hK => ?_) AllReadyH.nil
                  obtain ⟨_, _, _, f0, f1, f2⟩ := cells_item hX
                  have HX := Lib.hid hX; clear hX
                  go_simp
                  refine hK.out _ _ (held_set3 hHeld (B := v1.heap.size) (by intro e; rw [e, HX.out] at hHeld; simp at hHeld) _ _ _) (fun hHeld => ?_)
                  clear hK K
                  refine wpAnyH_done (by kernel_rfl) ?_ _
                  go_wp2_with fail
                  go_meet
                  exact ⟨v1.heap.size, ⟨(r1 : Int) - 1, pickB rawL r2, r3⟩, rfl, hok, ghX, fX, hR.set3 (v1.heap.size) ghX fX (by simp [Value.ownBlock]) _ _ _, heap_set3 HX.out⟩
        · skip
          have nn : (wr.drew).heap.size = wr.heap.size := by simp
          have hA := heap_at nn (.cells #[.string ⟨#[]⟩, .string ⟨#[98]⟩, .string ⟨#[97, 98, 32, 99]⟩, .string ⟨#[97, 32, 104, 61, 49]⟩, .string ⟨#[66]⟩, .string ⟨#[110, 47]⟩, .string ⟨#[105]⟩, .string ⟨#[32, 120]⟩] 9)
          have lhA := hR.away; rw [nn] at lhA
          have ghA := hR.chg.size; rw [nn] at ghA
          have hR := hR.alloc (.cells #[.string ⟨#[]⟩, .string ⟨#[98]⟩, .string ⟨#[97, 98, 32, 99]⟩, .string ⟨#[97, 32, 104, 61, 49]⟩, .string ⟨#[66]⟩, .string ⟨#[110, 47]⟩, .string ⟨#[105]⟩, .string ⟨#[32, 120]⟩] 9)
          clear nn
          go_simp
          refine hK.out _ _ (trivial) (fun hHeld => ?_)
          clear hK K
          try simp only [Act.put, List.getElem_toArray, List.getElem_cons_zero, List.getElem_cons_succ, List.setIfInBounds_toArray, List.set_cons_zero, List.set_cons_succ]
          refine wpAnyH_mono (S' := fun W => W.heap[wr.heap.size]? = some (.cells #[.string ⟨#[]⟩, .string ⟨#[98]⟩, .string ⟨#[97, 98, 32, 99]⟩, .string ⟨#[97, 32, 104, 61, 49]⟩, .string ⟨#[66]⟩, .string ⟨#[110, 47]⟩, .string ⟨#[105]⟩, .string ⟨#[32, 120]⟩] 9 (0, 0))) (fun _ _ => trivial) _ _ _ _ ?_
          have hHeld := hA
          refine wpAnyH_ready (rs := [1, 11]) (by kernel_rfl) (by simp) ?_
          refine AllReadyH.cons rfl (fun K hK => ?_) (AllReadyH.cons rfl (fun K hK => ?_) (AllReadyH.nil))
          · skip
            go_simp
            refine (H1.out _ hR.nums).mono ?_; rintro e v18 ⟨rfl, hg, hN⟩
            have hR := hR.next hg hN
            have hA := carry_next hA hg lhA
            go_wp2_with fail
            refine hK.out _ _ (hA) (fun hHeld => ?_)
            clear hK K
            try simp only [Act.put, List.getElem_toArray, List.getElem_cons_zero, List.getElem_cons_succ, List.setIfInBounds_toArray, List.set_cons_zero, List.set_cons_succ]
            refine wpAnyH_take (i := 2) (v := ?_) rfl (by kernel_rfl) (by kernel_rfl) (by kernel_rfl) (fun _ _ _ h => h) (Or.inl ⟨by rfl, ?_⟩) hHeld ?_
            rotate_left
            · (intro w hSw; (try dsimp only at hSw); go_simp; try with_reducible rfl)
            try simp only [Act.put, List.getElem_toArray, List.getElem_cons_zero, List.getElem_cons_succ, List.setIfInBounds_toArray, List.set_cons_zero, List.set_cons_succ]
            refine wpAnyH_ready (rs := [5, 11]) (by kernel_rfl) (by simp) ?_
            refine AllReadyH.cons rfl (fun K hK => ?_) (AllReadyH.cons rfl (fun K hK => ?_) (AllReadyH.nil))
            · skip
              go_simp
              refine (H2.out _ hR.nums).mono ?_; rintro e v19 ⟨rfl, hg, hN⟩
              have hR := hR.next hg hN
              have hA := carry_next hA hg lhA
              go_wp2_with fail
              refine hK.out _ _ (hA) (fun hHeld => ?_)
              clear hK K
              try simp only [Act.put, List.getElem_toArray, List.getElem_cons_zero, List.getElem_cons_succ, List.setIfInBounds_toArray, List.set_cons_zero, List.set_cons_succ]
              refine wpAnyH_take (i := 6) (v := ?_) rfl (by kernel_rfl) (by kernel_rfl) (by kernel_rfl) (fun _ _ _ h => h) (Or.inl ⟨by rfl, ?_⟩) hHeld ?_
              rotate_left
              · (intro w hSw; (try dsimp only at hSw); go_simp; try with_reducible rfl)
              try simp only [Act.put, List.getElem_toArray, List.getElem_cons_zero, List.getElem_cons_succ, List.setIfInBounds_toArray, List.set_cons_zero, List.set_cons_succ]
              refine wpAnyH_take (i := 7) (v := ?_) rfl (by kernel_rfl) (by kernel_rfl) (by kernel_rfl) (fun _ _ _ h => h) (Or.inl ⟨by rfl, ?_⟩) hHeld ?_
              rotate_left
              · (intro w hSw; have hc := pick_row hSw rawL rfl r2 hr2; go_simp; try with_reducible rfl)
              try simp only [Act.put, List.getElem_toArray, List.getElem_cons_zero, List.getElem_cons_succ, List.setIfInBounds_toArray, List.set_cons_zero, List.set_cons_succ]
              refine wpAnyH_ready (rs := [9, 11]) (by kernel_rfl) (by simp) ?_
              refine AllReadyH.cons rfl (fun K hK => ?_) (AllReadyH.cons rfl (fun K hK => ?_) (AllReadyH.nil))
              · skip
                go_simp
                refine (H3.out _ hR.nums).mono ?_; rintro e v20 ⟨rfl, hg, hN⟩
                have hR := hR.next hg hN
                have hA := carry_next hA hg lhA
                go_wp2_with fail
                refine hK.out _ _ (hA) (fun hHeld => ?_)
                clear hK K
                try simp only [Act.put, List.getElem_toArray, List.getElem_cons_zero, List.getElem_cons_succ, List.setIfInBounds_toArray, List.set_cons_zero, List.set_cons_succ]
                refine wpAnyH_take (i := 10) (v := ?_) rfl (by kernel_rfl) (by kernel_rfl) (by kernel_rfl) (fun _ _ _ h => h) (Or.inl ⟨by rfl, ?_⟩) hHeld ?_
                rotate_left
                · (intro w hSw; (try dsimp only at hSw); go_simp; try with_reducible rfl)
                try simp only [Act.put, List.getElem_toArray, List.getElem_cons_zero, List.getElem_cons_succ, List.setIfInBounds_toArray, List.set_cons_zero, List.set_cons_succ]
                refine wpAnyH_ready (rs := [11]) (by kernel_rfl) (by simp) ?_
                refine AllReadyH.cons rfl (fun K hK => ?_) (AllReadyH.nil)
                · skip
                  have nn : (v20).heap.size = v20.heap.size := by simp
                  have hX := heap_at nn (.cells #[.int .i64 0, .string ⟨#[]⟩, .int .i64 0] 26)
                  have hA0 := hA
                  have hA := carry_alloc hA (.cells #[.int .i64 0, .string ⟨#[]⟩, .int .i64 0] 26)
                  have lhX := hR.away; rw [nn] at lhX
                  have ghX := hR.chg.size; rw [nn] at ghX
                  have fX := hR.fresh; rw [nn] at fX
                  have hR0 := hR
                  have hN0 := heap_at nn (.cells #[.int .i64 ((r1 : Int) - 1), .string (pickB rawL r2), .int .i64 r3] 26)
                  have hA0 := carry_alloc hA0 (.cells #[.int .i64 ((r1 : Int) - 1), .string (pickB rawL r2), .int .i64 r3] 26)
                  have hR := hR.alloc (.cells #[.int .i64 0, .string ⟨#[]⟩, .int .i64 0] 26)
                  clear nn
                  go_simp
                  refine hK.out _ _ (hA) (fun hHeld => ?_)
                  clear hK K
                  try simp only [Act.put, List.getElem_toArray, List.getElem_cons_zero, List.getElem_cons_succ, List.setIfInBounds_toArray, List.set_cons_zero, List.set_cons_succ]
                  refine wpAnyH_ready (rs := [12]) (by kernel_rfl) (by simp) ?_
                  refine AllReadyH.cons rfl (fun K hK => ?_) AllReadyH.nil
                  go_simp
                  refine hK.out _ _ hA0 (fun hHeld => ?_)
                  clear hK K
                  refine wpAnyH_done (by kernel_rfl) ?_ _
                  go_wp2_with fail
                  go_meet
                  exact ⟨v20.heap.size, ⟨(r1 : Int) - 1, pickB rawL r2, r3⟩, rfl, hok, ghX, fX, hR0.alloc _, hN0⟩
              · skip
                have nn : (v19).heap.size = v19.heap.size := by simp
                have hX := heap_at nn (.cells #[.int .i64 0, .string ⟨#[]⟩, .int .i64 0] 26)
                have hA0 := hA
                have hA := carry_alloc hA (.cells #[.int .i64 0, .string ⟨#[]⟩, .int .i64 0] 26)
                have lhX := hR.away; rw [nn] at lhX
                have ghX := hR.chg.size; rw [nn] at ghX
                have fX := hR.fresh; rw [nn] at fX
                have hR0 := hR
                have hN0 := heap_at nn (.cells #[.int .i64 ((r1 : Int) - 1), .string (pickB rawL r2), .int .i64 r3] 26)
                have hA0 := carry_alloc hA0 (.cells #[.int .i64 ((r1 : Int) - 1), .string (pickB rawL r2), .int .i64 r3] 26)
                have hR := hR.alloc (.cells #[.int .i64 0, .string ⟨#[]⟩, .int .i64 0] 26)
                clear nn
                go_simp
                refine hK.out _ _ (hA) (fun hHeld => ?_)
                clear hK K
                try simp only [Act.put, List.getElem_toArray, List.getElem_cons_zero, List.getElem_cons_succ, List.setIfInBounds_toArray, List.set_cons_zero, List.set_cons_succ]
                refine wpAnyH_ready (rs := [9]) (by kernel_rfl) (by simp) ?_
                refine AllReadyH.cons rfl (fun K hK => ?_) (AllReadyH.nil)
                · skip
                  go_simp
                  refine (H3.out _ hR.nums).mono ?_; rintro e v21 ⟨rfl, hg, hN⟩
                  have hR := hR.next hg hN
                  have hA := carry_next hA hg lhA
                  have hX := carry_next hX hg lhX
                  go_wp2_with fail
                  refine hK.out _ _ (hA) (fun hHeld => ?_)
                  clear hK K
                  try simp only [Act.put, List.getElem_toArray, List.getElem_cons_zero, List.getElem_cons_succ, List.setIfInBounds_toArray, List.set_cons_zero, List.set_cons_succ]
                  refine wpAnyH_take (i := 10) (v := ?_) rfl (by kernel_rfl) (by kernel_rfl) (by kernel_rfl) (fun _ _ _ h => h) (Or.inl ⟨by rfl, ?_⟩) hHeld ?_
                  rotate_left
                  · (intro w hSw; (try dsimp only at hSw); go_simp; try with_reducible rfl)
                  try simp only [Act.put, List.getElem_toArray, List.getElem_cons_zero, List.getElem_cons_succ, List.setIfInBounds_toArray, List.set_cons_zero, List.set_cons_succ]
                  refine wpAnyH_ready (rs := [12]) (by kernel_rfl) (by simp) ?_
                  refine AllReadyH.cons rfl (fun K hK => ?_) AllReadyH.nil
                  obtain ⟨_, _, _, f0, f1, f2⟩ := cells_item hX
                  have HX := Lib.hid hX; clear hX
                  go_simp
                  refine hK.out _ _ (held_set3 hHeld (B := v19.heap.size) (by intro e; rw [e, HX.out] at hHeld; simp at hHeld) _ _ _) (fun hHeld => ?_)
                  clear hK K
                  refine wpAnyH_done (by kernel_rfl) ?_ _
                  go_wp2_with fail
                  go_meet
                  exact ⟨v19.heap.size, ⟨(r1 : Int) - 1, pickB rawL r2, r3⟩, rfl, hok, ghX, fX, hR.set3 (v19.heap.size) ghX fX (by simp [Value.ownBlock]) _ _ _, heap_set3 HX.out⟩
            · skip
              have nn : (v18).heap.size = v18.heap.size := by simp
              have hX := heap_at nn (.cells #[.int .i64 0, .string ⟨#[]⟩, .int .i64 0] 26)
              have hA0 := hA
              have hA := carry_alloc hA (.cells #[.int .i64 0, .string ⟨#[]⟩, .int .i64 0] 26)
              have lhX := hR.away; rw [nn] at lhX
              have ghX := hR.chg.size; rw [nn] at ghX
              have fX := hR.fresh; rw [nn] at fX
              have hR0 := hR
              have hN0 := heap_at nn (.cells #[.int .i64 ((r1 : Int) - 1), .string (pickB rawL r2), .int .i64 r3] 26)
              have hA0 := carry_alloc hA0 (.cells #[.int .i64 ((r1 : Int) - 1), .string (pickB rawL r2), .int .i64 r3] 26)
              have hR := hR.alloc (.cells #[.int .i64 0, .string ⟨#[]⟩, .int .i64 0] 26)
              clear nn
              go_simp
              refine hK.out _ _ (hA) (fun hHeld => ?_)
              clear hK K
              try simp only [Act.put, List.getElem_toArray, List.getElem_cons_zero, List.getElem_cons_succ, List.setIfInBounds_toArray, List.set_cons_zero, List.set_cons_succ]
              refine wpAnyH_ready (rs := [5]) (by kernel_rfl) (by simp) ?_
              refine AllReadyH.cons rfl (fun K hK => ?_) (AllReadyH.nil)
              · skip
                go_simp
                refine (H2.out _ hR.nums).mono ?_; rintro e v22 ⟨rfl, hg, hN⟩
                have hR := hR.next hg hN
                have hA := carry_next hA hg lhA
                have hX := carry_next hX hg lhX
                go_wp2_with fail
                refine hK.out _ _ (hA) (fun hHeld => ?_)
                clear hK K
                try simp only [Act.put, List.getElem_toArray, List.getElem_cons_zero, List.getElem_cons_succ, List.setIfInBounds_toArray, List.set_cons_zero, List.set_cons_succ]
                refine wpAnyH_take (i := 6) (v := ?_) rfl (by kernel_rfl) (by kernel_rfl) (by kernel_rfl) (fun _ _ _ h => h) (Or.inl ⟨by rfl, ?_⟩) hHeld ?_
                rotate_left
                · (intro w hSw; (try dsimp only at hSw); go_simp; try with_reducible rfl)
                try simp only [Act.put, List.getElem_toArray, List.getElem_cons_zero, List.getElem_cons_succ, List.setIfInBounds_toArray, List.set_cons_zero, List.set_cons_succ]
                refine wpAnyH_take (i := 7) (v := ?_) rfl (by kernel_rfl) (by kernel_rfl) (by kernel_rfl) (fun _ _ _ h => h) (Or.inl ⟨by rfl, ?_⟩) hHeld ?_
                rotate_left
                · (intro w hSw; have hc := pick_row hSw rawL rfl r2 hr2; go_simp; try with_reducible rfl)
                try simp only [Act.put, List.getElem_toArray, List.getElem_cons_zero, List.getElem_cons_succ, List.setIfInBounds_toArray, List.set_cons_zero, List.set_cons_succ]
                refine wpAnyH_ready (rs := [9]) (by kernel_rfl) (by simp) ?_
                refine AllReadyH.cons rfl (fun K hK => ?_) (AllReadyH.nil)
                · skip
                  go_simp
                  refine (H3.out _ hR.nums).mono ?_; rintro e v23 ⟨rfl, hg, hN⟩
                  have hR := hR.next hg hN
                  have hA := carry_next hA hg lhA
                  have hX := carry_next hX hg lhX
                  go_wp2_with fail
                  refine hK.out _ _ (hA) (fun hHeld => ?_)
                  clear hK K
                  try simp only [Act.put, List.getElem_toArray, List.getElem_cons_zero, List.getElem_cons_succ, List.setIfInBounds_toArray, List.set_cons_zero, List.set_cons_succ]
                  refine wpAnyH_take (i := 10) (v := ?_) rfl (by kernel_rfl) (by kernel_rfl) (by kernel_rfl) (fun _ _ _ h => h) (Or.inl ⟨by rfl, ?_⟩) hHeld ?_
                  rotate_left
                  · (intro w hSw; (try dsimp only at hSw); go_simp; try with_reducible rfl)
                  try simp only [Act.put, List.getElem_toArray, List.getElem_cons_zero, List.getElem_cons_succ, List.setIfInBounds_toArray, List.set_cons_zero, List.set_cons_succ]
                  refine wpAnyH_ready (rs := [12]) (by kernel_rfl) (by simp) ?_
                  refine AllReadyH.cons rfl (fun K hK => ?_) AllReadyH.nil
                  obtain ⟨_, _, _, f0, f1, f2⟩ := cells_item hX
                  have HX := Lib.hid hX; clear hX
                  go_simp
                  refine hK.out _ _ (held_set3 hHeld (B := v18.heap.size) (by intro e; rw [e, HX.out] at hHeld; simp at hHeld) _ _ _) (fun hHeld => ?_)
                  clear hK K
                  refine wpAnyH_done (by kernel_rfl) ?_ _
                  go_wp2_with fail
                  go_meet
                  exact ⟨v18.heap.size, ⟨(r1 : Int) - 1, pickB rawL r2, r3⟩, rfl, hok, ghX, fX, hR.set3 (v18.heap.size) ghX fX (by simp [Value.ownBlock]) _ _ _, heap_set3 HX.out⟩
          · skip
            have nn : ((wr.drew).alloc (.cells #[.string ⟨#[]⟩, .string ⟨#[98]⟩, .string ⟨#[97, 98, 32, 99]⟩, .string ⟨#[97, 32, 104, 61, 49]⟩, .string ⟨#[66]⟩, .string ⟨#[110, 47]⟩, .string ⟨#[105]⟩, .string ⟨#[32, 120]⟩] 9)).heap.size = wr.heap.size + 1 := by simp
            have hX := heap_at nn (.cells #[.int .i64 0, .string ⟨#[]⟩, .int .i64 0] 26)
            have hA0 := hA
            have hA := carry_alloc hA (.cells #[.int .i64 0, .string ⟨#[]⟩, .int .i64 0] 26)
            have lhX := hR.away; rw [nn] at lhX
            have ghX := hR.chg.size; rw [nn] at ghX
            have fX := hR.fresh; rw [nn] at fX
            have hR0 := hR
            have hN0 := heap_at nn (.cells #[.int .i64 ((r1 : Int) - 1), .string (pickB rawL r2), .int .i64 r3] 26)
            have hA0 := carry_alloc hA0 (.cells #[.int .i64 ((r1 : Int) - 1), .string (pickB rawL r2), .int .i64 r3] 26)
            have hR := hR.alloc (.cells #[.int .i64 0, .string ⟨#[]⟩, .int .i64 0] 26)
            clear nn
            go_simp
            refine hK.out _ _ (hA) (fun hHeld => ?_)
            clear hK K
            try simp only [Act.put, List.getElem_toArray, List.getElem_cons_zero, List.getElem_cons_succ, List.setIfInBounds_toArray, List.set_cons_zero, List.set_cons_succ]
            refine wpAnyH_ready (rs := [1]) (by kernel_rfl) (by simp) ?_
            refine AllReadyH.cons rfl (fun K hK => ?_) (AllReadyH.nil)
            · skip
              go_simp
              refine (H1.out _ hR.nums).mono ?_; rintro e v24 ⟨rfl, hg, hN⟩
              have hR := hR.next hg hN
              have hA := carry_next hA hg lhA
              have hX := carry_next hX hg lhX
              go_wp2_with fail
              refine hK.out _ _ (hA) (fun hHeld => ?_)
              clear hK K
              try simp only [Act.put, List.getElem_toArray, List.getElem_cons_zero, List.getElem_cons_succ, List.setIfInBounds_toArray, List.set_cons_zero, List.set_cons_succ]
              refine wpAnyH_take (i := 2) (v := ?_) rfl (by kernel_rfl) (by kernel_rfl) (by kernel_rfl) (fun _ _ _ h => h) (Or.inl ⟨by rfl, ?_⟩) hHeld ?_
              rotate_left
              · (intro w hSw; (try dsimp only at hSw); go_simp; try with_reducible rfl)
              try simp only [Act.put, List.getElem_toArray, List.getElem_cons_zero, List.getElem_cons_succ, List.setIfInBounds_toArray, List.set_cons_zero, List.set_cons_succ]
              refine wpAnyH_ready (rs := [5]) (by kernel_rfl) (by simp) ?_
              refine AllReadyH.cons rfl (fun K hK => ?_) (AllReadyH.nil)
              · skip
                go_simp
                refine (H2.out _ hR.nums).mono ?_; rintro e v25 ⟨rfl, hg, hN⟩
                have hR := hR.next hg hN
                have hA := carry_next hA hg lhA
                have hX := carry_next hX hg lhX
                go_wp2_with fail
                refine hK.out _ _ (hA) (fun hHeld => ?_)
                clear hK K
                try simp only [Act.put, List.getElem_toArray, List.getElem_cons_zero, List.getElem_cons_succ, List.setIfInBounds_toArray, List.set_cons_zero, List.set_cons_succ]
                refine wpAnyH_take (i := 6) (v := ?_) rfl (by kernel_rfl) (by kernel_rfl) (by kernel_rfl) (fun _ _ _ h => h) (Or.inl ⟨by rfl, ?_⟩) hHeld ?_
                rotate_left
                · (intro w hSw; (try dsimp only at hSw); go_simp; try with_reducible rfl)
                try simp only [Act.put, List.getElem_toArray, List.getElem_cons_zero, List.getElem_cons_succ, List.setIfInBounds_toArray, List.set_cons_zero, List.set_cons_succ]
                refine wpAnyH_take (i := 7) (v := ?_) rfl (by kernel_rfl) (by kernel_rfl) (by kernel_rfl) (fun _ _ _ h => h) (Or.inl ⟨by rfl, ?_⟩) hHeld ?_
                rotate_left
                · (intro w hSw; have hc := pick_row hSw rawL rfl r2 hr2; go_simp; try with_reducible rfl)
                try simp only [Act.put, List.getElem_toArray, List.getElem_cons_zero, List.getElem_cons_succ, List.setIfInBounds_toArray, List.set_cons_zero, List.set_cons_succ]
                refine wpAnyH_ready (rs := [9]) (by kernel_rfl) (by simp) ?_
                refine AllReadyH.cons rfl (fun K hK => ?_) (AllReadyH.nil)
                · skip
                  go_simp
                  refine (H3.out _ hR.nums).mono ?_; rintro e v26 ⟨rfl, hg, hN⟩
                  have hR := hR.next hg hN
                  have hA := carry_next hA hg lhA
                  have hX := carry_next hX hg lhX
                  go_wp2_with fail
                  refine hK.out _ _ (hA) (fun hHeld => ?_)
                  clear hK K
                  try simp only [Act.put, List.getElem_toArray, List.getElem_cons_zero, List.getElem_cons_succ, List.setIfInBounds_toArray, List.set_cons_zero, List.set_cons_succ]
                  refine wpAnyH_take (i := 10) (v := ?_) rfl (by kernel_rfl) (by kernel_rfl) (by kernel_rfl) (fun _ _ _ h => h) (Or.inl ⟨by rfl, ?_⟩) hHeld ?_
                  rotate_left
                  · (intro w hSw; (try dsimp only at hSw); go_simp; try with_reducible rfl)
                  try simp only [Act.put, List.getElem_toArray, List.getElem_cons_zero, List.getElem_cons_succ, List.setIfInBounds_toArray, List.set_cons_zero, List.set_cons_succ]
                  refine wpAnyH_ready (rs := [12]) (by kernel_rfl) (by simp) ?_
                  refine AllReadyH.cons rfl (fun K hK => ?_) AllReadyH.nil
                  obtain ⟨_, _, _, f0, f1, f2⟩ := cells_item hX
                  have HX := Lib.hid hX; clear hX
                  go_simp
                  refine hK.out _ _ (held_set3 hHeld (B := wr.heap.size + 1) (by intro e; rw [e, HX.out] at hHeld; simp at hHeld) _ _ _) (fun hHeld => ?_)
                  clear hK K
                  refine wpAnyH_done (by kernel_rfl) ?_ _
                  go_wp2_with fail
                  go_meet
                  exact ⟨wr.heap.size + 1, ⟨(r1 : Int) - 1, pickB rawL r2, r3⟩, rfl, hok, ghX, fX, hR.set3 (wr.heap.size + 1) ghX fX (by simp [Value.ownBlock]) _ _ _, heap_set3 HX.out⟩
        · skip
          have nn : (wr.drew).heap.size = wr.heap.size := by simp
          have hX := heap_at nn (.cells #[.int .i64 0, .string ⟨#[]⟩, .int .i64 0] 26)
          have lhX := hR.away; rw [nn] at lhX
          have ghX := hR.chg.size; rw [nn] at ghX
          have fX := hR.fresh; rw [nn] at fX
          have hR0 := hR
          have hN0 := heap_at nn (.cells #[.int .i64 ((r1 : Int) - 1), .string (pickB rawL r2), .int .i64 r3] 26)
          have hR := hR.alloc (.cells #[.int .i64 0, .string ⟨#[]⟩, .int .i64 0] 26)
          clear nn
          go_simp
          refine hK.out _ _ (trivial) (fun hHeld => ?_)
          clear hK K
          try simp only [Act.put, List.getElem_toArray, List.getElem_cons_zero, List.getElem_cons_succ, List.setIfInBounds_toArray, List.set_cons_zero, List.set_cons_succ]
          refine wpAnyH_ready (rs := [1, 3]) (by kernel_rfl) (by simp) ?_
          refine AllReadyH.cons rfl (fun K hK => ?_) (AllReadyH.cons rfl (fun K hK => ?_) (AllReadyH.nil))
          · skip
            go_simp
            refine (H1.out _ hR.nums).mono ?_; rintro e v27 ⟨rfl, hg, hN⟩
            have hR := hR.next hg hN
            have hX := carry_next hX hg lhX
            go_wp2_with fail
            refine hK.out _ _ (trivial) (fun hHeld => ?_)
            clear hK K
            try simp only [Act.put, List.getElem_toArray, List.getElem_cons_zero, List.getElem_cons_succ, List.setIfInBounds_toArray, List.set_cons_zero, List.set_cons_succ]
            refine wpAnyH_take (i := 2) (v := ?_) rfl (by kernel_rfl) (by kernel_rfl) (by kernel_rfl) (fun _ _ _ h => h) (Or.inl ⟨by rfl, ?_⟩) hHeld ?_
            rotate_left
            · (intro w hSw; (try dsimp only at hSw); go_simp; try with_reducible rfl)
            try simp only [Act.put, List.getElem_toArray, List.getElem_cons_zero, List.getElem_cons_succ, List.setIfInBounds_toArray, List.set_cons_zero, List.set_cons_succ]
            refine wpAnyH_ready (rs := [3, 5]) (by kernel_rfl) (by simp) ?_
            refine AllReadyH.cons rfl (fun K hK => ?_) (AllReadyH.cons rfl (fun K hK => ?_) (AllReadyH.nil))
            · skip
              have nn : (v27).heap.size = v27.heap.size := by simp
              have hA := heap_at nn (.cells #[.string ⟨#[]⟩, .string ⟨#[98]⟩, .string ⟨#[97, 98, 32, 99]⟩, .string ⟨#[97, 32, 104, 61, 49]⟩, .string ⟨#[66]⟩, .string ⟨#[110, 47]⟩, .string ⟨#[105]⟩, .string ⟨#[32, 120]⟩] 9)
              have hX := carry_alloc hX (.cells #[.string ⟨#[]⟩, .string ⟨#[98]⟩, .string ⟨#[97, 98, 32, 99]⟩, .string ⟨#[97, 32, 104, 61, 49]⟩, .string ⟨#[66]⟩, .string ⟨#[110, 47]⟩, .string ⟨#[105]⟩, .string ⟨#[32, 120]⟩] 9)
              have lhA := hR.away; rw [nn] at lhA
              have ghA := hR.chg.size; rw [nn] at ghA
              have hR := hR.alloc (.cells #[.string ⟨#[]⟩, .string ⟨#[98]⟩, .string ⟨#[97, 98, 32, 99]⟩, .string ⟨#[97, 32, 104, 61, 49]⟩, .string ⟨#[66]⟩, .string ⟨#[110, 47]⟩, .string ⟨#[105]⟩, .string ⟨#[32, 120]⟩] 9)
              clear nn
              go_simp
              refine hK.out _ _ (trivial) (fun hHeld => ?_)
              clear hK K
              try simp only [Act.put, List.getElem_toArray, List.getElem_cons_zero, List.getElem_cons_succ, List.setIfInBounds_toArray, List.set_cons_zero, List.set_cons_succ]
              refine wpAnyH_mono (S' := fun W => W.heap[v27.heap.size]? = some (.cells #[.string ⟨#[]⟩, .string ⟨#[98]⟩, .string ⟨#[97, 98, 32, 99]⟩, .string ⟨#[97, 32, 104, 61, 49]⟩, .string ⟨#[66]⟩, .string ⟨#[110, 47]⟩, .string ⟨#[105]⟩, .string ⟨#[32, 120]⟩] 9 (0, 0))) (fun _ _ => trivial) _ _ _ _ ?_
              have hHeld := hA
              refine wpAnyH_ready (rs := [5]) (by kernel_rfl) (by simp) ?_
              refine AllReadyH.cons rfl (fun K hK => ?_) (AllReadyH.nil)
              · skip
                go_simp
                refine (H2.out _ hR.nums).mono ?_; rintro e v28 ⟨rfl, hg, hN⟩
                have hR := hR.next hg hN
                have hX := carry_next hX hg lhX
                have hA := carry_next hA hg lhA
                go_wp2_with fail
                refine hK.out _ _ (hA) (fun hHeld => ?_)
                clear hK K
                try simp only [Act.put, List.getElem_toArray, List.getElem_cons_zero, List.getElem_cons_succ, List.setIfInBounds_toArray, List.set_cons_zero, List.set_cons_succ]
                refine wpAnyH_take (i := 6) (v := ?_) rfl (by kernel_rfl) (by kernel_rfl) (by kernel_rfl) (fun _ _ _ h => h) (Or.inl ⟨by rfl, ?_⟩) hHeld ?_
                rotate_left
                · (intro w hSw; (try dsimp only at hSw); go_simp; try with_reducible rfl)
                try simp only [Act.put, List.getElem_toArray, List.getElem_cons_zero, List.getElem_cons_succ, List.setIfInBounds_toArray, List.set_cons_zero, List.set_cons_succ]
                refine wpAnyH_take (i := 7) (v := ?_) rfl (by kernel_rfl) (by kernel_rfl) (by kernel_rfl) (fun _ _ _ h => h) (Or.inl ⟨by rfl, ?_⟩) hHeld ?_
                rotate_left
                · (intro w hSw; have hc := pick_row hSw rawL rfl r2 hr2; go_simp; try with_reducible rfl)
                try simp only [Act.put, List.getElem_toArray, List.getElem_cons_zero, List.getElem_cons_succ, List.setIfInBounds_toArray, List.set_cons_zero, List.set_cons_succ]
                refine wpAnyH_ready (rs := [9]) (by kernel_rfl) (by simp) ?_
                refine AllReadyH.cons rfl (fun K hK => ?_) (AllReadyH.nil)
                · skip
                  go_simp
                  refine (H3.out _ hR.nums).mono ?_; rintro e v29 ⟨rfl, hg, hN⟩
                  have hR := hR.next hg hN
                  have hX := carry_next hX hg lhX
                  have hA := carry_next hA hg lhA
                  go_wp2_with fail
                  refine hK.out _ _ (hA) (fun hHeld => ?_)
                  clear hK K
                  try simp only [Act.put, List.getElem_toArray, List.getElem_cons_zero, List.getElem_cons_succ, List.setIfInBounds_toArray, List.set_cons_zero, List.set_cons_succ]
                  refine wpAnyH_take (i := 10) (v := ?_) rfl (by kernel_rfl) (by kernel_rfl) (by kernel_rfl) (fun _ _ _ h => h) (Or.inl ⟨by rfl, ?_⟩) hHeld ?_
                  rotate_left
                  · (intro w hSw; (try dsimp only at hSw); go_simp; try with_reducible rfl)
                  try simp only [Act.put, List.getElem_toArray, List.getElem_cons_zero, List.getElem_cons_succ, List.setIfInBounds_toArray, List.set_cons_zero, List.set_cons_succ]
                  refine wpAnyH_ready (rs := [12]) (by kernel_rfl) (by simp) ?_
                  refine AllReadyH.cons rfl (fun K hK => ?_) AllReadyH.nil
                  obtain ⟨_, _, _, f0, f1, f2⟩ := cells_item hX
                  have HX := Lib.hid hX; clear hX
                  go_simp
                  refine hK.out _ _ (held_set3 hHeld (B := wr.heap.size) (by intro e; rw [e, HX.out] at hHeld; simp at hHeld) _ _ _) (fun hHeld => ?_)
                  clear hK K
                  refine wpAnyH_done (by kernel_rfl) ?_ _
                  go_wp2_with fail
                  go_meet
                  exact ⟨wr.heap.size, ⟨(r1 : Int) - 1, pickB rawL r2, r3⟩, rfl, hok, ghX, fX, hR.set3 (wr.heap.size) ghX fX (by simp [Value.ownBlock]) _ _ _, heap_set3 HX.out⟩
            · skip
              go_simp
              refine (H2.out _ hR.nums).mono ?_; rintro e v30 ⟨rfl, hg, hN⟩
              have hR := hR.next hg hN
              have hX := carry_next hX hg lhX
              go_wp2_with fail
              refine hK.out _ _ (trivial) (fun hHeld => ?_)
              clear hK K
              try simp only [Act.put, List.getElem_toArray, List.getElem_cons_zero, List.getElem_cons_succ, List.setIfInBounds_toArray, List.set_cons_zero, List.set_cons_succ]
              refine wpAnyH_ready (rs := [3, 9]) (by kernel_rfl) (by simp) ?_
              refine AllReadyH.cons rfl (fun K hK => ?_) (AllReadyH.cons rfl (fun K hK => ?_) (AllReadyH.nil))
              · skip
                have nn : (v30).heap.size = v30.heap.size := by simp
                have hA := heap_at nn (.cells #[.string ⟨#[]⟩, .string ⟨#[98]⟩, .string ⟨#[97, 98, 32, 99]⟩, .string ⟨#[97, 32, 104, 61, 49]⟩, .string ⟨#[66]⟩, .string ⟨#[110, 47]⟩, .string ⟨#[105]⟩, .string ⟨#[32, 120]⟩] 9)
                have hX := carry_alloc hX (.cells #[.string ⟨#[]⟩, .string ⟨#[98]⟩, .string ⟨#[97, 98, 32, 99]⟩, .string ⟨#[97, 32, 104, 61, 49]⟩, .string ⟨#[66]⟩, .string ⟨#[110, 47]⟩, .string ⟨#[105]⟩, .string ⟨#[32, 120]⟩] 9)
                have lhA := hR.away; rw [nn] at lhA
                have ghA := hR.chg.size; rw [nn] at ghA
                have hR := hR.alloc (.cells #[.string ⟨#[]⟩, .string ⟨#[98]⟩, .string ⟨#[97, 98, 32, 99]⟩, .string ⟨#[97, 32, 104, 61, 49]⟩, .string ⟨#[66]⟩, .string ⟨#[110, 47]⟩, .string ⟨#[105]⟩, .string ⟨#[32, 120]⟩] 9)
                clear nn
                go_simp
                refine hK.out _ _ (trivial) (fun hHeld => ?_)
                clear hK K
                try simp only [Act.put, List.getElem_toArray, List.getElem_cons_zero, List.getElem_cons_succ, List.setIfInBounds_toArray, List.set_cons_zero, List.set_cons_succ]
                refine wpAnyH_mono (S' := fun W => W.heap[v30.heap.size]? = some (.cells #[.string ⟨#[]⟩, .string ⟨#[98]⟩, .string ⟨#[97, 98, 32, 99]⟩, .string ⟨#[97, 32, 104, 61, 49]⟩, .string ⟨#[66]⟩, .string ⟨#[110, 47]⟩, .string ⟨#[105]⟩, .string ⟨#[32, 120]⟩] 9 (0, 0))) (fun _ _ => trivial) _ _ _ _ ?_
                have hHeld := hA
                refine wpAnyH_take (i := 6) (v := ?_) rfl (by kernel_rfl) (by kernel_rfl) (by kernel_rfl) (fun _ _ _ h => h) (Or.inl ⟨by rfl, ?_⟩) hHeld ?_
                rotate_left
                · (intro w hSw; (try dsimp only at hSw); go_simp; try with_reducible rfl)
                try simp only [Act.put, List.getElem_toArray, List.getElem_cons_zero, List.getElem_cons_succ, List.setIfInBounds_toArray, List.set_cons_zero, List.set_cons_succ]
                refine wpAnyH_take (i := 7) (v := ?_) rfl (by kernel_rfl) (by kernel_rfl) (by kernel_rfl) (fun _ _ _ h => h) (Or.inl ⟨by rfl, ?_⟩) hHeld ?_
                rotate_left
                · (intro w hSw; have hc := pick_row hSw rawL rfl r2 hr2; go_simp; try with_reducible rfl)
                try simp only [Act.put, List.getElem_toArray, List.getElem_cons_zero, List.getElem_cons_succ, List.setIfInBounds_toArray, List.set_cons_zero, List.set_cons_succ]
                refine wpAnyH_ready (rs := [9]) (by kernel_rfl) (by simp) ?_
                refine AllReadyH.cons rfl (fun K hK => ?_) (AllReadyH.nil)
                · skip
                  go_simp
                  refine (H3.out _ hR.nums).mono ?_; rintro e v31 ⟨rfl, hg, hN⟩
                  have hR := hR.next hg hN
                  have hX := carry_next hX hg lhX
                  have hA := carry_next hA hg lhA
                  go_wp2_with fail
                  refine hK.out _ _ (hA) (fun hHeld => ?_)
                  clear hK K
                  try simp only [Act.put, List.getElem_toArray, List.getElem_cons_zero, List.getElem_cons_succ, List.setIfInBounds_toArray, List.set_cons_zero, List.set_cons_succ]
                  refine wpAnyH_take (i := 10) (v := ?_) rfl (by kernel_rfl) (by kernel_rfl) (by kernel_rfl) (fun _ _ _ h => h) (Or.inl ⟨by rfl, ?_⟩) hHeld ?_
                  rotate_left
                  · (intro w hSw; (try dsimp only at hSw); go_simp; try with_reducible rfl)
                  try simp only [Act.put, List.getElem_toArray, List.getElem_cons_zero, List.getElem_cons_succ, List.setIfInBounds_toArray, List.set_cons_zero, List.set_cons_succ]
                  refine wpAnyH_ready (rs := [12]) (by kernel_rfl) (by simp) ?_
                  refine AllReadyH.cons rfl (fun K hK => ?_) AllReadyH.nil
                  obtain ⟨_, _, _, f0, f1, f2⟩ := cells_item hX
                  have HX := Lib.hid hX; clear hX
                  go_simp
                  refine hK.out _ _ (held_set3 hHeld (B := wr.heap.size) (by intro e; rw [e, HX.out] at hHeld; simp at hHeld) _ _ _) (fun hHeld => ?_)
                  clear hK K
                  refine wpAnyH_done (by kernel_rfl) ?_ _
                  go_wp2_with fail
                  go_meet
                  exact ⟨wr.heap.size, ⟨(r1 : Int) - 1, pickB rawL r2, r3⟩, rfl, hok, ghX, fX, hR.set3 (wr.heap.size) ghX fX (by simp [Value.ownBlock]) _ _ _, heap_set3 HX.out⟩
              · skip
                go_simp
                refine (H3.out _ hR.nums).mono ?_; rintro e v32 ⟨rfl, hg, hN⟩
                have hR := hR.next hg hN
                have hX := carry_next hX hg lhX
                go_wp2_with fail
                refine hK.out _ _ (trivial) (fun hHeld => ?_)
                clear hK K
                try simp only [Act.put, List.getElem_toArray, List.getElem_cons_zero, List.getElem_cons_succ, List.setIfInBounds_toArray, List.set_cons_zero, List.set_cons_succ]
                refine wpAnyH_ready (rs := [3]) (by kernel_rfl) (by simp) ?_
                refine AllReadyH.cons rfl (fun K hK => ?_) (AllReadyH.nil)
                · skip
                  have nn : (v32).heap.size = v32.heap.size := by simp
                  have hA := heap_at nn (.cells #[.string ⟨#[]⟩, .string ⟨#[98]⟩, .string ⟨#[97, 98, 32, 99]⟩, .string ⟨#[97, 32, 104, 61, 49]⟩, .string ⟨#[66]⟩, .string ⟨#[110, 47]⟩, .string ⟨#[105]⟩, .string ⟨#[32, 120]⟩] 9)
                  have hX := carry_alloc hX (.cells #[.string ⟨#[]⟩, .string ⟨#[98]⟩, .string ⟨#[97, 98, 32, 99]⟩, .string ⟨#[97, 32, 104, 61, 49]⟩, .string ⟨#[66]⟩, .string ⟨#[110, 47]⟩, .string ⟨#[105]⟩, .string ⟨#[32, 120]⟩] 9)
                  have lhA := hR.away; rw [nn] at lhA
                  have ghA := hR.chg.size; rw [nn] at ghA
                  have hR := hR.alloc (.cells #[.string ⟨#[]⟩, .string ⟨#[98]⟩, .string ⟨#[97, 98, 32, 99]⟩, .string ⟨#[97, 32, 104, 61, 49]⟩, .string ⟨#[66]⟩, .string ⟨#[110, 47]⟩, .string ⟨#[105]⟩, .string ⟨#[32, 120]⟩] 9)
                  clear nn
                  go_simp
                  refine hK.out _ _ (trivial) (fun hHeld => ?_)
                  clear hK K
                  try simp only [Act.put, List.getElem_toArray, List.getElem_cons_zero, List.getElem_cons_succ, List.setIfInBounds_toArray, List.set_cons_zero, List.set_cons_succ]
                  refine wpAnyH_mono (S' := fun W => W.heap[v32.heap.size]? = some (.cells #[.string ⟨#[]⟩, .string ⟨#[98]⟩, .string ⟨#[97, 98, 32, 99]⟩, .string ⟨#[97, 32, 104, 61, 49]⟩, .string ⟨#[66]⟩, .string ⟨#[110, 47]⟩, .string ⟨#[105]⟩, .string ⟨#[32, 120]⟩] 9 (0, 0))) (fun _ _ => trivial) _ _ _ _ ?_
                  have hHeld := hA
                  refine wpAnyH_take (i := 6) (v := ?_) rfl (by kernel_rfl) (by kernel_rfl) (by kernel_rfl) (fun _ _ _ h => h) (Or.inl ⟨by rfl, ?_⟩) hHeld ?_
                  rotate_left
                  · (intro w hSw; (try dsimp only at hSw); go_simp; try with_reducible rfl)
                  try simp only [Act.put, List.getElem_toArray, List.getElem_cons_zero, List.getElem_cons_succ, List.setIfInBounds_toArray, List.set_cons_zero, List.set_cons_succ]
                  refine wpAnyH_take (i := 7) (v := ?_) rfl (by kernel_rfl) (by kernel_rfl) (by kernel_rfl) (fun _ _ _ h => h) (Or.inl ⟨by rfl, ?_⟩) hHeld ?_
                  rotate_left
                  · (intro w hSw; have hc := pick_row hSw rawL rfl r2 hr2; go_simp; try with_reducible rfl)
                  try simp only [Act.put, List.getElem_toArray, List.getElem_cons_zero, List.getElem_cons_succ, List.setIfInBounds_toArray, List.set_cons_zero, List.set_cons_succ]
                  refine wpAnyH_take (i := 10) (v := ?_) rfl (by kernel_rfl) (by kernel_rfl) (by kernel_rfl) (fun _ _ _ h => h) (Or.inl ⟨by rfl, ?_⟩) hHeld ?_
                  rotate_left
                  · (intro w hSw; (try dsimp only at hSw); go_simp; try with_reducible rfl)
                  try simp only [Act.put, List.getElem_toArray, List.getElem_cons_zero, List.getElem_cons_succ, List.setIfInBounds_toArray, List.set_cons_zero, List.set_cons_succ]
                  refine wpAnyH_ready (rs := [12]) (by kernel_rfl) (by simp) ?_
                  refine AllReadyH.cons rfl (fun K hK => ?_) AllReadyH.nil
                  obtain ⟨_, _, _, f0, f1, f2⟩ := cells_item hX
                  have HX := Lib.hid hX; clear hX
                  go_simp
                  refine hK.out _ _ (held_set3 hHeld (B := wr.heap.size) (by intro e; rw [e, HX.out] at hHeld; simp at hHeld) _ _ _) (fun hHeld => ?_)
                  clear hK K
                  refine wpAnyH_done (by kernel_rfl) ?_ _
                  go_wp2_with fail
                  go_meet
                  exact ⟨wr.heap.size, ⟨(r1 : Int) - 1, pickB rawL r2, r3⟩, rfl, hok, ghX, fX, hR.set3 (wr.heap.size) ghX fX (by simp [Value.ownBlock]) _ _ _, heap_set3 HX.out⟩
          · skip
            have nn : ((wr.drew).alloc (.cells #[.int .i64 0, .string ⟨#[]⟩, .int .i64 0] 26)).heap.size = wr.heap.size + 1 := by simp
            have hA := heap_at nn (.cells #[.string ⟨#[]⟩, .string ⟨#[98]⟩, .string ⟨#[97, 98, 32, 99]⟩, .string ⟨#[97, 32, 104, 61, 49]⟩, .string ⟨#[66]⟩, .string ⟨#[110, 47]⟩, .string ⟨#[105]⟩, .string ⟨#[32, 120]⟩] 9)
            have hX := carry_alloc hX (.cells #[.string ⟨#[]⟩, .string ⟨#[98]⟩, .string ⟨#[97, 98, 32, 99]⟩, .string ⟨#[97, 32, 104, 61, 49]⟩, .string ⟨#[66]⟩, .string ⟨#[110, 47]⟩, .string ⟨#[105]⟩, .string ⟨#[32, 120]⟩] 9)
            have lhA := hR.away; rw [nn] at lhA
            have ghA := hR.chg.size; rw [nn] at ghA
            have hR := hR.alloc (.cells #[.string ⟨#[]⟩, .string ⟨#[98]⟩, .string ⟨#[97, 98, 32, 99]⟩, .string ⟨#[97, 32, 104, 61, 49]⟩, .string ⟨#[66]⟩, .string ⟨#[110, 47]⟩, .string ⟨#[105]⟩, .string ⟨#[32, 120]⟩] 9)
            have nn0 : ((wr.drew).alloc (.cells #[.int .i64 ((r1 : Int) - 1), .string (pickB rawL r2), .int .i64 r3] 26)).heap.size = wr.heap.size + 1 := by simp
            have hA0 := heap_at nn0 (.cells #[.string ⟨#[]⟩, .string ⟨#[98]⟩, .string ⟨#[97, 98, 32, 99]⟩, .string ⟨#[97, 32, 104, 61, 49]⟩, .string ⟨#[66]⟩, .string ⟨#[110, 47]⟩, .string ⟨#[105]⟩, .string ⟨#[32, 120]⟩] 9)
            have hN0 := carry_alloc hN0 (.cells #[.string ⟨#[]⟩, .string ⟨#[98]⟩, .string ⟨#[97, 98, 32, 99]⟩, .string ⟨#[97, 32, 104, 61, 49]⟩, .string ⟨#[66]⟩, .string ⟨#[110, 47]⟩, .string ⟨#[105]⟩, .string ⟨#[32, 120]⟩] 9)
            have hR0 := (hR0.alloc (.cells #[.int .i64 ((r1 : Int) - 1), .string (pickB rawL r2), .int .i64 r3] 26)).alloc (.cells #[.string ⟨#[]⟩, .string ⟨#[98]⟩, .string ⟨#[97, 98, 32, 99]⟩, .string ⟨#[97, 32, 104, 61, 49]⟩, .string ⟨#[66]⟩, .string ⟨#[110, 47]⟩, .string ⟨#[105]⟩, .string ⟨#[32, 120]⟩] 9)
            clear nn0
            clear nn
            go_simp
            refine hK.out _ _ (trivial) (fun hHeld => ?_)
            clear hK K
            try simp only [Act.put, List.getElem_toArray, List.getElem_cons_zero, List.getElem_cons_succ, List.setIfInBounds_toArray, List.set_cons_zero, List.set_cons_succ]
            refine wpAnyH_mono (S' := fun W => W.heap[wr.heap.size + 1]? = some (.cells #[.string ⟨#[]⟩, .string ⟨#[98]⟩, .string ⟨#[97, 98, 32, 99]⟩, .string ⟨#[97, 32, 104, 61, 49]⟩, .string ⟨#[66]⟩, .string ⟨#[110, 47]⟩, .string ⟨#[105]⟩, .string ⟨#[32, 120]⟩] 9 (0, 0))) (fun _ _ => trivial) _ _ _ _ ?_
            have hHeld := hA
            refine wpAnyH_ready (rs := [1]) (by kernel_rfl) (by simp) ?_
            refine AllReadyH.cons rfl (fun K hK => ?_) (AllReadyH.nil)
            · skip
              go_simp
              refine (H1.out _ hR.nums).mono ?_; rintro e v33 ⟨rfl, hg, hN⟩
              have hR := hR.next hg hN
              have hX := carry_next hX hg lhX
              have hA := carry_next hA hg lhA
              go_wp2_with fail
              refine hK.out _ _ (hA) (fun hHeld => ?_)
              clear hK K
              try simp only [Act.put, List.getElem_toArray, List.getElem_cons_zero, List.getElem_cons_succ, List.setIfInBounds_toArray, List.set_cons_zero, List.set_cons_succ]
              refine wpAnyH_take (i := 2) (v := ?_) rfl (by kernel_rfl) (by kernel_rfl) (by kernel_rfl) (fun _ _ _ h => h) (Or.inl ⟨by rfl, ?_⟩) hHeld ?_
              rotate_left
              · (intro w hSw; (try dsimp only at hSw); go_simp; try with_reducible rfl)
              try simp only [Act.put, List.getElem_toArray, List.getElem_cons_zero, List.getElem_cons_succ, List.setIfInBounds_toArray, List.set_cons_zero, List.set_cons_succ]
              refine wpAnyH_ready (rs := [5]) (by kernel_rfl) (by simp) ?_
              refine AllReadyH.cons rfl (fun K hK => ?_) (AllReadyH.nil)
              · skip
                go_simp
                refine (H2.out _ hR.nums).mono ?_; rintro e v34 ⟨rfl, hg, hN⟩
                have hR := hR.next hg hN
                have hX := carry_next hX hg lhX
                have hA := carry_next hA hg lhA
                go_wp2_with fail
                refine hK.out _ _ (hA) (fun hHeld => ?_)
                clear hK K
                try simp only [Act.put, List.getElem_toArray, List.getElem_cons_zero, List.getElem_cons_succ, List.setIfInBounds_toArray, List.set_cons_zero, List.set_cons_succ]
                refine wpAnyH_take (i := 6) (v := ?_) rfl (by kernel_rfl) (by kernel_rfl) (by kernel_rfl) (fun _ _ _ h => h) (Or.inl ⟨by rfl, ?_⟩) hHeld ?_
                rotate_left
                · (intro w hSw; (try dsimp only at hSw); go_simp; try with_reducible rfl)
                try simp only [Act.put, List.getElem_toArray, List.getElem_cons_zero, List.getElem_cons_succ, List.setIfInBounds_toArray, List.set_cons_zero, List.set_cons_succ]
                refine wpAnyH_take (i := 7) (v := ?_) rfl (by kernel_rfl) (by kernel_rfl) (by kernel_rfl) (fun _ _ _ h => h) (Or.inl ⟨by rfl, ?_⟩) hHeld ?_
                rotate_left
                · (intro w hSw; have hc := pick_row hSw rawL rfl r2 hr2; go_simp; try with_reducible rfl)
                try simp only [Act.put, List.getElem_toArray, List.getElem_cons_zero, List.getElem_cons_succ, List.setIfInBounds_toArray, List.set_cons_zero, List.set_cons_succ]
                refine wpAnyH_ready (rs := [9]) (by kernel_rfl) (by simp) ?_
                refine AllReadyH.cons rfl (fun K hK => ?_) (AllReadyH.nil)
                · skip
                  go_simp
                  refine (H3.out _ hR.nums).mono ?_; rintro e v35 ⟨rfl, hg, hN⟩
                  have hR := hR.next hg hN
                  have hX := carry_next hX hg lhX
                  have hA := carry_next hA hg lhA
                  go_wp2_with fail
                  refine hK.out _ _ (hA) (fun hHeld => ?_)
                  clear hK K
                  try simp only [Act.put, List.getElem_toArray, List.getElem_cons_zero, List.getElem_cons_succ, List.setIfInBounds_toArray, List.set_cons_zero, List.set_cons_succ]
                  refine wpAnyH_take (i := 10) (v := ?_) rfl (by kernel_rfl) (by kernel_rfl) (by kernel_rfl) (fun _ _ _ h => h) (Or.inl ⟨by rfl, ?_⟩) hHeld ?_
                  rotate_left
                  · (intro w hSw; (try dsimp only at hSw); go_simp; try with_reducible rfl)
                  try simp only [Act.put, List.getElem_toArray, List.getElem_cons_zero, List.getElem_cons_succ, List.setIfInBounds_toArray, List.set_cons_zero, List.set_cons_succ]
                  refine wpAnyH_ready (rs := [12]) (by kernel_rfl) (by simp) ?_
                  refine AllReadyH.cons rfl (fun K hK => ?_) AllReadyH.nil
                  obtain ⟨_, _, _, f0, f1, f2⟩ := cells_item hX
                  have HX := Lib.hid hX; clear hX
                  go_simp
                  refine hK.out _ _ (held_set3 hHeld (B := wr.heap.size) (by intro e; rw [e, HX.out] at hHeld; simp at hHeld) _ _ _) (fun hHeld => ?_)
                  clear hK K
                  refine wpAnyH_done (by kernel_rfl) ?_ _
                  go_wp2_with fail
                  go_meet
                  exact ⟨wr.heap.size, ⟨(r1 : Int) - 1, pickB rawL r2, r3⟩, rfl, hok, ghX, fX, hR.set3 (wr.heap.size) ghX fX (by simp [Value.ownBlock]) _ _ _, heap_set3 HX.out⟩
      case rest =>
        obtain ⟨B, x, rfl, hx, gB, fB, hR5, hB5⟩ := hcut
        have hlf : f.length ≤ 100 := by omega
        go_wp2_with fail
        refine (H4.out _ hR5.nums).mono ?_
        rintro e w6 ⟨rfl, hg6, hN6⟩
        have hR6 := hR5.next hg6 hN6
        have hB6 := carry_next hB5 hg6 (by omega)
        have zB6 := (Array.getElem?_eq_some_iff.1 hB6).1
        obtain ⟨y0, y1, y2, f0, f1, f2⟩ := cells_item hB6
        have HB6 := Lib.hid hB6
        clear hB6 hB5 hR5 hN6 hg6
        by_cases hr4 : 0 < r4
        · have q4 : decide (0 < r4) = true := decide_eq_true hr4
          have hR7 := hR6.set B gB fB (by simp [Value.ownBlock]) 2 (.int .i64 0)
          have hy : It.ok ⟨x.k, x.t, 0⟩ := ⟨hx.k, hx.t, wf_small (by show -1000 ≤ (0 : Int); omega) (by show (0 : Int) ≤ 1000; omega)⟩
          have hR8 := hR7.alloc (.cells #[.int .i64 (⟨x.k, x.t, 0⟩ : It).k, .string (⟨x.k, x.t, 0⟩ : It).t, .int .i64 (⟨x.k, x.t, 0⟩ : It).id] 26)
          have hN8 := Lib.hid (heap_at (show (w6.setCell ⟨B, 2, none⟩ (.int .i64 0)).heap.size = w6.heap.size by first | rfl | simp) (.cells #[.int .i64 (⟨x.k, x.t, 0⟩ : It).k, .string (⟨x.k, x.t, 0⟩ : It).t, .int .i64 (⟨x.k, x.t, 0⟩ : It).id] 26))
          have hsz8 := hR8.chg.size
          go_wp2_with (at_builtin; refine wpl_app eI _ rfl _ _ rfl w.heap.size f _ rfl hR8.f hsz8 (⟨x.k, x.t, 0⟩ : It) w6.heap.size _ rfl hN8.out rfl (by omega) (by unfold maxLen; omega) ?_; intro g2 cp w8 hown8 hgr8 hloc8)
          have hR9 := hR8.pushF hown8 hgr8 hloc8
          go_wp2_with fail
          go_roundw
          case rel =>
            first
              | exact ⟨k, f.length + 1, m' + 4, f ++ [(⟨x.k, x.t, 0⟩ : It)], rfl, ⟨_, _, by rw [List.length_append]; rfl⟩, by omega, by simp, by omega, Oks.snoc hO hy, hR9⟩
              | ((repeat apply Exists.intro); exact ⟨⟨k, f.length + 1, m' + 4, f ++ [(⟨x.k, x.t, 0⟩ : It)], rfl, ⟨_, _, by rw [List.length_append]; rfl⟩, by omega, by simp, by omega, Oks.snoc hO hy, hR9⟩, rfl⟩)
          case measure => simp [intOf]
        · have q4 : decide (0 < r4) = false := decide_eq_false hr4
          have hy := hx
          have hR8 := hR6.alloc (.cells #[.int .i64 x.k, .string x.t, .int .i64 x.id] 26)
          have hN8 := Lib.hid (heap_at (show (w6).heap.size = w6.heap.size by first | rfl | simp) (.cells #[.int .i64 x.k, .string x.t, .int .i64 x.id] 26))
          have hsz8 := hR8.chg.size
          go_wp2_with (at_builtin; refine wpl_app eI _ rfl _ _ rfl w.heap.size f _ rfl hR8.f hsz8 x w6.heap.size _ rfl hN8.out rfl (by omega) (by unfold maxLen; omega) ?_; intro g2 cp w8 hown8 hgr8 hloc8)
          have hR9 := hR8.pushF hown8 hgr8 hloc8
          go_wp2_with fail
          go_roundw
          case rel =>
            first
              | exact ⟨k, f.length + 1, m' + 4, f ++ [x], rfl, ⟨_, _, by rw [List.length_append]; rfl⟩, by omega, by simp, by omega, Oks.snoc hO hy, hR9⟩
              | ((repeat apply Exists.intro); exact ⟨⟨k, f.length + 1, m' + 4, f ++ [x], rfl, ⟨_, _, by rw [List.length_append]; rfl⟩, by omega, by simp, by omega, Oks.snoc hO hy, hR9⟩, rfl⟩)
          case measure => simp [intOf]
    · obtain rfl : k = 0 := by omega
      go_wp2_with fail
      go_ret
      exact ⟨_, f, rfl, hR.chg, by omega, hO, hR.f⟩
end Go.Proofs.Ytnfapcfajoboaaa
