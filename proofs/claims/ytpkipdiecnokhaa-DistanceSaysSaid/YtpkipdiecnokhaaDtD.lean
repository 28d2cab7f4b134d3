/- Contract of fill. Contract of firstCell. -/
import Derived.Test.YtpkipdiecnokhaaDtC
import Derived.Test.YtpkipdiecnokhaaDtA
namespace Go.Proofs.Ytpkipdiecnokhaa
open Go.ChangeShapes Go.WideShapes Go.ChangeAt Go.RowKit Go.Sort
set_option linter.unusedVariables false
set_option linter.unusedSimpArgs false
set_option maxRecDepth 100000

def ShareQ (A : Nat → Act) (F : Nat → World → Prop) (e : Exit) (a : Act) (w : World) : Prop :=
  match e with
  | .normal => ∃ gb, a = A gb ∧ F gb w
  | _ => False
/-- What stands behind a region whose orders differ in where a new variable lies is walked once. -/
theorem wp_share {P : Program} {c : Code} {Q : Exit → Act → World → Prop} {a : Act} {w : World} (F : Nat → World → Prop) (h : ∃ A : Nat → Act, c.wp P (ShareQ A F) a w ∧ ∀ gb w', F gb w' → Q .normal (A gb) w') : c.wp P Q a w := by
  obtain ⟨A, h1, h2⟩ := h
  refine Code.wp_mono (fun e a' w' h => ?_) h1
  cases e with
  | normal => obtain ⟨gb, rfl, hF⟩ := h; exact h2 gb w' hF
  | _ => exact h.elim
def rowT (n : Nat) (f : Nat → Ce) : List Ce := (List.range (n + 1)).map f
theorem rowT_len (n : Nat) (f : Nat → Ce) : (rowT n f).length = n + 1 := by simp [rowT]
theorem rowT_at (n : Nat) (f : Nat → Ce) (j : Nat) (h : j < n + 1) : (rowT n f)[j]'(by rw [rowT_len]; exact h) = f j := by simp [rowT]
def cellB (a b : List It) (cF : Nat → Nat) (j : Nat) : Ce := ⟨dst a (b.drop j), cF j⟩
def cellR (x : It) (a b : List It) (cF : Nat → Nat) (j : Nat) : Ce := ⟨dst (x :: a) (b.drop j), rowK x a cF (b.drop j) j⟩
theorem mix_prev {α : Type} (A B : List α) (k : Nat) (hk : k < A.length) (hl : A.length = B.length) : (A.take (k + 1) ++ B.drop (k + 1)).set k (B[k]'(by omega)) = A.take k ++ B.drop k := by
  have h1 : (A.take k).length = k := by simp; omega
  rw [List.take_succ_eq_append_getElem hk, List.append_assoc, List.set_append_right _ _ (by omega), h1, Nat.sub_self]
  rw [List.drop_eq_getElem_cons (show k < B.length by omega)]
  rfl
theorem mix_hi {α : Type} (A B : List α) (k j : Nat) (hk : k ≤ A.length) (hl : A.length = B.length) (hj : j < A.length) (hkj : k ≤ j) : (A.take k ++ B.drop k)[j]'(by rw [mix_len A B k hk hl]; exact hj) = B[j]'(by omega) := by
  have h1 : (A.take k).length = k := by simp; omega
  rw [List.getElem_append_right (by omega)]
  simp [h1, Nat.add_sub_of_le hkj]
/-- What a round of fill works on. -/
structure FW (g1 g2 : Nat) (x : It) (ix : Int) (bx ox : Nat) (a b : List It) (i0 : Nat) (cF : Nat → Nat) (p : Option Addr) (L : List Ce) (W : World) : Prop where
  row : RowC g1 L W
  below : RowC g2 (rowT b.length (cellB a b cF)) W
  part : PtA W ⟨bx, ox, none⟩ x ix
  ps : Pas W p (parts i0 b)
  n1 : g1 ≠ g2
  n2 : bx ≠ g1
  n3 : 0 < b.length → ∀ a, p = some a → a.block ≠ g1
theorem PtA.other {W W' : World} {b o : Nat} {x : It} {ix : Int} (h : PtA W ⟨b, o, none⟩ x ix) {g : Nat} (hg : W.grownBy W' (some g)) (hne : b ≠ g) : PtA W' ⟨b, o, none⟩ x ix := by
  have hb : W'.heap[b]? = W.heap[b]? := hg.block b h.lt (fun e => hne (by injection e))
  have k : ∀ j, W'.cell? ⟨b, o + j, none⟩ = W.cell? ⟨b, o + j, none⟩ := fun j => World.cell?_of_block (w := W) (a := ⟨b, o + j, none⟩) hb
  exact ⟨Nat.lt_of_lt_of_le h.lt hg.size, (k 0).trans h.c0, (k 1).trans h.c1, (k 2).trans h.c2, (k 3).trans h.c3, (k 4).trans h.c4, (k 5).trans h.c5, (k 6).trans h.c6⟩
theorem cell_of_h {W : World} {g : Nat} {cs : Array Value} {t : TypeId} (h : W.heap[g]? = some (.cells cs t (0, 0))) (j : Nat) (v : Value) (hv : cs[j]? = some v) : W.cell? ⟨g, j, none⟩ = some v := by
  rw [Lib.cell_of_heap h]; exact hv
theorem growOf {w w' : World} (h : Below w.heap.size w w') (g : Nat) : w.grownBy w' (some g) := grow_below h _
section
variable {g1 g2 : Nat} {x : It} {ix : Int} {bx ox : Nat} {a b : List It} {i0 : Nat} {cF : Nat → Nat} {p : Option Addr} {L L' : List Ce} {W W' : World}
theorem FW.call (h : FW g1 g2 x ix bx ox a b i0 cF p L W) (hb : Below W.heap.size W W') : FW g1 g2 x ix bx ox a b i0 cF p L W' :=
  ⟨h.row.call hb, h.below.call hb, h.part.call hb, h.ps.call hb, h.n1, h.n2, h.n3⟩
theorem FW.other (h : FW g1 g2 x ix bx ox a b i0 cF p L W) {g : Nat} (hg : W.grownBy W' (some g)) (hn : W.heap.size ≤ g) : FW g1 g2 x ix bx ox a b i0 cF p L W' :=
  h.call ⟨hg.os, hg.tape, hg.output, hg.size, fun k hk => hg.block k hk (fun e => by injection e with e; omega)⟩
theorem FW.set (h : FW g1 g2 x ix bx ox a b i0 cF p L W) (hg : W.grownBy W' (some g1)) (hr : RowC g1 L' W') : FW g1 g2 x ix bx ox a b i0 cF p L' W' :=
  ⟨hr, h.below.other hg (fun e => h.n1 (by injection e with e; exact e.symm)), h.part.other hg h.n2, fun h0 => (h.ps.other hg (h.n3 (by rw [parts_len] at h0; exact h0))) h0, h.n1, h.n2, h.n3⟩
end

set_option maxHeartbeats 12800000 in
theorem fill_any (g1 g2 : Nat) (x : It) (ix : Int) (bx ox : Nat) (a b : List It) (i0 : Nat) (cF : Nat → Nat) (p : Option Addr) (c : Nat) (L : List Ce) (w : World) (h : FW g1 g2 x ix bx ox a b i0 cF p L w) (hL : L.length = b.length + 1) (hc : b.length ≤ c) (hm : c ≤ maxLen) (hb : b.length ≤ 100000) (ha : a.length ≤ 100000) :
    Calls Try.prog 69 #[.slice (some ⟨g1, 0, none⟩) (b.length + 1) (b.length + 1), .slice (some ⟨g2, 0, none⟩) (b.length + 1) (b.length + 1), .pointer (some ⟨bx, ox, none⟩), .slice p b.length c] w
      fun e w' => e = .returned (.tuple #[]) ∧ w.grownBy w' (some g1) ∧ RowC g1 (rowT b.length (cellR x a b cF)) w' := by
  unfold maxLen at hm
  have hTl := rowT_len b.length (cellR x a b cF)
  have hbl := rowT_len b.length (cellB a b cF)
  have hlast : cellR x a b cF b.length = ⟨dst a [] + stp x, cF b.length⟩ := by
    unfold cellR; rw [List.drop_length]; show Ce.mk (stp x + dst a []) (cF b.length) = _; rw [Nat.add_comm]
  have hB0 := fun W (h : FW g1 g2 x ix bx ox a b i0 cF p L W) => RowC.cells h.below b.length (by omega)
  have hD : dst a (b.drop b.length) = dst a [] := by rw [List.drop_length]
  simp only [rowT_at b.length (cellB a b cF) b.length (by omega), cellB, hD] at hB0
  have hDl := dst_le a []
  have hs4 := stp_le4 x
  have hA := fun W => after_any (dst a []) (cF b.length) (stp x) W (by simp at hDl; omega)
  obtain ⟨z0, z1⟩ := hB0 w h
  have x5 := h.part.c5
  have hset := fun W (h : RowC g1 L W) => RowG.set (enc := cenc) (t := 74) (sz := 2) (g := g1) (P := L) (W := W) h b.length (by omega) (cellR x a b cF b.length)
  have hth := fun W (h : RowC g1 L W) => h.there b.length (by omega)
  rw [hlast] at hset
  have hmix : L.set b.length ⟨dst a [] + stp x, cF b.length⟩ = L.take b.length ++ (rowT b.length (cellR x a b cF)).drop b.length := by
    have := mix_prev L (rowT b.length (cellR x a b cF)) b.length (by omega) (by omega)
    rw [rowT_at _ _ _ (by omega), hlast] at this
    rw [← this, List.take_of_length_le (by omega), List.drop_eq_nil_iff.2 (by omega), List.append_nil]
  rw [hmix] at hset
  generalize hDD : dst a [] = D at *
  generalize hcc : cF b.length = cc at *
  have HX := Lib.hid (And.intro hset (And.intro hth (And.intro hDD hcc)))
  have H0 := Lib.hid h
  have HA := Lib.hid hA
  clear hset hth hDD hcc hmix hlast hD hDl hA hB0 h
  go_enter Try.func69, Try.ntmps69
  go_wp2_with fail
  have r0 := cell_regrown z0; have r1 := cell_regrown z1; have r2 := cell_regrown x5
  have e1 := fun d os => Calls.regrown_of (HA.out (grow (redrawn w d) os))
  refine wp_region_quiet_tail 11 (by kernel_rfl) (by kernel_rfl) ?_
  simp only [List.take_succ_cons, List.take_zero, List.drop_succ_cons, List.drop_zero]
  repeat (go_big_quiet_step (exact e1 _ _))
  refine wpQuiet_nil ?_
  intro _ hw'
  obtain ⟨⟨dq, osq⟩, hw''⟩ := hw'
  subst hw''
  have hb1 := below_regrown w dq osq
  generalize grow (redrawn w dq) osq = w1 at *
  clear r0 r1 r2 e1
  obtain ⟨hset, hth, hDD, hcc⟩ := HX.out
  have h1 := H0.out.call hb1
  have ht1 := hth _ h1.row
  have hP1 := hset _ h1.row
  have hg1 := setCells_grown (cenc ⟨D + stp x, cc⟩) w1 g1 (b.length * 2)
  have hG1 := grow_then (grow_below hb1 (some g1)) hg1
  have h2 := h1.set hg1 hP1
  have HS := Lib.hid (And.intro hG1 (And.intro h2 (And.intro hDD hcc)))
  clear hset hth hDD hcc h1 hP1 hg1 hG1 h2 HX H0 HA z0 z1 x5
  go_upto_region 2 with (refine wpList_store_mid (by rfl) 74 _ _ (by rfl) g1 (b.length * 2) (cenc ⟨D + stp x, cc⟩).toArray (by rfl) (by rfl) ht1 size72 (cenc_one _) ?_)
  have e1 : (cenc ⟨D + stp x, cc⟩).toArray.toList = cenc ⟨D + stp x, cc⟩ := rfl
  (try rw [e1])
  clear e1 ht1
  generalize (w1.setCells g1 (b.length * 2) (cenc ⟨D + stp x, cc⟩)) = w2 at *
  clear hb1
  go_wp2_with fail
  go_loopw [9] (fun j wr => ∃ k : Nat, k ≤ b.length ∧ j = .int .i64 ((k : Int) - 1) ∧ w.grownBy wr (some g1) ∧ FW g1 g2 x ix bx ox a b i0 cF p (L.take k ++ (rowT b.length (cellR x a b cF)).drop k) wr) (fun j _ => (intOf j + 1).toNat)
  case atStart => exact ⟨b.length, Nat.le_refl _, rfl, HS.out.1, HS.out.2.1⟩
  case round =>
    obtain ⟨k, hk, rfl, hG, h0⟩ := hrel
    have h00 : k = 0 ∨ 0 < k := by omega
    rcases h00 with rfl | hpos
    · have q : decide ((0 : Int) ≤ ((0 : Nat) : Int) - 1) = false := by decide
      go_wp2_with fail
      have := h0.row
      rw [List.take_zero, List.drop_zero, List.nil_append] at this
      go_end0
      exact ⟨rfl, hG, this⟩
    obtain ⟨m, rfl⟩ : ∃ m, k = m + 1 := ⟨k - 1, by omega⟩
    have hmm : (((m + 1 : Nat) : Int) - 1) = (m : Int) := by omega
    rw [hmm]
    clear hmm
    have hlt : m < b.length := hk
    obtain ⟨bp, op, rfl, hbp, hps⟩ := h0.ps (by rw [parts_len]; omega)
    have hdr : b.drop m = b[m] :: b.drop (m + 1) := List.drop_eq_getElem_cons hlt
    have hpm := fun W (h : FW g1 g2 x ix bx ox a b i0 cF (some ⟨bp, op, none⟩) (L.take (m + 1) ++ (rowT b.length (cellR x a b cF)).drop (m + 1)) W) => (show PtA W ⟨bp, op + m * 7, none⟩ b[m] ((i0 + m : Nat) : Int) from by
      obtain ⟨bq, oq, e, hlq, hcq⟩ := h.ps (by rw [parts_len]; omega)
      injection e with e; injection e with e1 e2 _; subst e1; subst e2
      have := hcq m (by rw [parts_len]; exact hlt)
      rw [parts_at b i0 m hlt] at this
      exact PtA.of_range this hlq)
    have hcl := fun W (h : FW g1 g2 x ix bx ox a b i0 cF (some ⟨bp, op, none⟩) (L.take (m + 1) ++ (rowT b.length (cellR x a b cF)).drop (m + 1)) W) => And.intro (RowC.cells h.below m (by omega)) (And.intro (RowC.cells h.below (m + 1) (by omega)) (RowC.cells h.row (m + 1) (by rw [mix_len _ _ _ (by omega) (by omega)]; omega)))
    have hhi := mix_hi L (rowT b.length (cellR x a b cF)) (m + 1) (m + 1) (by omega) (by omega) (by omega) (Nat.le_refl _)
    simp only [rowT_at b.length (cellB a b cF) m (by omega), rowT_at b.length (cellB a b cF) (m + 1) (by omega), hhi, rowT_at b.length (cellR x a b cF) (m + 1) (by omega), cellB, cellR, hdr] at hcl
    have hset := fun W (h : RowC g1 (L.take (m + 1) ++ (rowT b.length (cellR x a b cF)).drop (m + 1)) W) => RowG.set h m (by rw [mix_len _ _ _ (by omega) (by omega)]; omega) ((rowT b.length (cellR x a b cF))[m]'(by omega))
    have hth := fun W (h : RowC g1 (L.take (m + 1) ++ (rowT b.length (cellR x a b cF)).drop (m + 1)) W) => h.there m (by rw [mix_len _ _ _ (by omega) (by omega)]; omega)
    rw [mix_prev L _ m (by omega) (by omega), rowT_at _ _ _ (by omega)] at hset
    have hcell : cellR x a b cF m = ⟨dst (x :: a) (b[m] :: b.drop (m + 1)), match mv x a b[m] (b.drop (m + 1)) with | .P => cF (m + 1) | .X => cF m | .I => rowK x a cF (b.drop (m + 1)) (m + 1)⟩ := by
      unfold cellR; rw [hdr]; rfl
    rw [hcell] at hset
    clear hcell hhi hdr hps hbp
    have d1 := dst_le a (b[m] :: b.drop (m + 1)); have d2 := dst_le a (b.drop (m + 1)); have d3 := dst_le (x :: a) (b.drop (m + 1))
    simp only [List.length_cons, List.length_drop] at d1 d2 d3
    have s2 := stp_le4 b[m]; have s3 := cO_le x b[m]
    have mP := mv_P (x := x) (y := b[m]) a (b.drop (m + 1)); have mPI := mv_PI (x := x) (y := b[m]) a (b.drop (m + 1)); have mX := mv_X (x := x) (y := b[m]) a (b.drop (m + 1)); have mI := mv_I (x := x) (y := b[m]) a (b.drop (m + 1))
    have hco : okP x b[m] = true → cO x b[m] = cst x b[m] := fun h => if_pos h
    generalize b[m] = y at *
    generalize b.drop (m + 1) = bt at *
    have hpc := fun W h1 h2 => partcost_any x y bx ox bp (op + m * 7) ix ((i0 + m : Nat) : Int) W h1 h2
    generalize hDj : dst a (y :: bt) = Dj at *
    generalize hD1 : dst a bt = D1 at *
    generalize hR1 : dst (x :: a) bt = R1 at *
    generalize cF m = cj at *
    generalize cF (m + 1) = c1 at *
    generalize hrc : rowK x a cF bt (m + 1) = rc at *
    generalize hst : stp y = sy at *
    generalize hcv : cO x y = co at *
    have hA5 := fun W => after_any Dj cj (stp x) W (by omega)
    have hA8 := fun W => after_any D1 c1 co W (by omega)
    have hA10 := fun W => after_any R1 rc sy W (by omega)
    have HA := Lib.hid hA5; have HA8 := Lib.hid hA8; have HA10 := Lib.hid hA10; have HPC := Lib.hid hpc
    have HCL := Lib.hid hcl; have HPM := Lib.hid hpm; have HSET := Lib.hid hset; have HTH := Lib.hid hth
    have HM := Lib.hid (And.intro mP (And.intro mPI (And.intro mX (And.intro mI hco))))
    have HNN := Lib.hid (And.intro hDj (And.intro hD1 (And.intro hR1 (And.intro hrc (And.intro hst hcv)))))
    have HF := Lib.hid h0
    have HG := Lib.hid hG
    have bDj : Dj ≤ 900000 := by omega
    have bD1 : D1 ≤ 900000 := by omega
    have bR1 : R1 ≤ 900004 := by omega
    have hS5 : ∀ {W : World}, FW g1 g2 x ix bx ox a b i0 cF (some ⟨bp, op, none⟩) (L.take (m + 1) ++ (rowT b.length (cellR x a b cF)).drop (m + 1)) W → W.cell? ⟨g2, m * 2, none⟩ = some (.int .i64 Dj) ∧ W.cell? ⟨g2, m * 2 + 1, none⟩ = some (.int .i64 cj) ∧ W.cell? ⟨bx, ox + 5, none⟩ = some (.int .i64 (stp x)) := fun {W} h => ⟨(hcl W h).1.1, (hcl W h).1.2, h.part.c5⟩
    have HS5 : Hid (∀ {W : World}, FW g1 g2 x ix bx ox a b i0 cF (some ⟨bp, op, none⟩) (L.take (m + 1) ++ (rowT b.length (cellR x a b cF)).drop (m + 1)) W → W.cell? ⟨g2, m * 2, none⟩ = some (.int .i64 Dj) ∧ W.cell? ⟨g2, m * 2 + 1, none⟩ = some (.int .i64 cj) ∧ W.cell? ⟨bx, ox + 5, none⟩ = some (.int .i64 (stp x))) := Lib.hid hS5
    clear hS5 hA5 hA8 hA10 hpc hcl hpm hset hth mP mPI mX mI hco hDj hD1 hR1 hrc hst hcv hG d1 d2 d3
    have q : decide ((0 : Int) ≤ (m : Int)) = true := decide_eq_true (by omega)
    have i0m : (0 : Int) ≤ (m : Int) := by omega
    have i1m : (m : Int) < (b.length : Int) + 1 := by omega
    have i2m : (m : Int) + 1 < (b.length : Int) + 1 := by omega
    have i3m : (m : Int) < (b.length : Int) := by omega
    go_wp2_with fail
    refine wp_share (fun gb W' => Below wr.heap.size wr W' ∧ wr.heap.size ≤ gb ∧ W'.heap[gb]? = some (.cells #[.int .i64 ((Dj + stp x : Nat) : Int), .int .i64 cj] 74 (0, 0))) ⟨_, ⟨(by
      refine wp_region_held_drew (S := fun W => W.cell? ⟨g2, m * 2, none⟩ = some (.int .i64 Dj) ∧ W.cell? ⟨g2, m * 2 + 1, none⟩ = some (.int .i64 cj) ∧ W.cell? ⟨bx, ox + 5, none⟩ = some (.int .i64 (stp x))) (by kernel_rfl) (HS5.out (h0.call (drew_below wr))) (fun hHeld => ?_)
      have hB := drew_below wr; have h1 := h0.call hB
      generalize wr.drew = v0 at *
      refine wpAnyH_take (i := 0) (v := ?_) rfl (by kernel_rfl) (by kernel_rfl) (by kernel_rfl) (fun _ _ _ h => h) (Or.inl ⟨by rfl, ?_⟩) hHeld ?_
      rotate_left
      · (intro w hSw; (try dsimp only at hSw); go_simp; try with_reducible rfl)
      try simp only [Act.put, List.getElem_toArray, List.getElem_cons_zero, List.getElem_cons_succ, List.setIfInBounds_toArray, List.set_cons_zero, List.set_cons_succ]
      refine wpAnyH_take (i := 1) (v := ?_) rfl (by kernel_rfl) (by kernel_rfl) (by kernel_rfl) (fun _ _ _ h => h) (Or.inl ⟨by rfl, ?_⟩) hHeld ?_
      rotate_left
      · (intro w hSw; (try dsimp only at hSw); go_simp; try with_reducible rfl)
      try simp only [Act.put, List.getElem_toArray, List.getElem_cons_zero, List.getElem_cons_succ, List.setIfInBounds_toArray, List.set_cons_zero, List.set_cons_succ]
      refine wpAnyH_take (i := 2) (v := ?_) rfl (by kernel_rfl) (by kernel_rfl) (by kernel_rfl) (fun _ _ _ h => h) (Or.inl ⟨by rfl, ?_⟩) hHeld ?_
      rotate_left
      · (intro w hSw; (try dsimp only at hSw); go_simp; try with_reducible rfl)
      try simp only [Act.put, List.getElem_toArray, List.getElem_cons_zero, List.getElem_cons_succ, List.setIfInBounds_toArray, List.set_cons_zero, List.set_cons_succ]
      refine wpAnyH_take (i := 3) (v := ?_) rfl (by kernel_rfl) (by kernel_rfl) (by kernel_rfl) (fun _ _ _ h => h) (Or.inl ⟨by rfl, ?_⟩) hHeld ?_
      rotate_left
      · (intro w hSw; obtain ⟨c0, c1, c2⟩ := hSw; go_simp; try with_reducible rfl)
      try simp only [Act.put, List.getElem_toArray, List.getElem_cons_zero, List.getElem_cons_succ, List.setIfInBounds_toArray, List.set_cons_zero, List.set_cons_succ]
      refine wpAnyH_take (i := 4) (v := ?_) rfl (by kernel_rfl) (by kernel_rfl) (by kernel_rfl) (fun _ _ _ h => h) (Or.inl ⟨by rfl, ?_⟩) hHeld ?_
      rotate_left
      · (intro w hSw; (try dsimp only at hSw); go_simp; try with_reducible rfl)
      try simp only [Act.put, List.getElem_toArray, List.getElem_cons_zero, List.getElem_cons_succ, List.setIfInBounds_toArray, List.set_cons_zero, List.set_cons_succ]
      refine wpAnyH_take (i := 5) (v := ?_) rfl (by kernel_rfl) (by kernel_rfl) (by kernel_rfl) (fun _ _ _ h => h) (Or.inl ⟨by rfl, ?_⟩) hHeld ?_
      rotate_left
      · (intro w hSw; (try dsimp only at hSw); go_simp; try with_reducible rfl)
      try simp only [Act.put, List.getElem_toArray, List.getElem_cons_zero, List.getElem_cons_succ, List.setIfInBounds_toArray, List.set_cons_zero, List.set_cons_succ]
      refine wpAnyH_take (i := 6) (v := ?_) rfl (by kernel_rfl) (by kernel_rfl) (by kernel_rfl) (fun _ _ _ h => h) (Or.inl ⟨by rfl, ?_⟩) hHeld ?_
      rotate_left
      · (intro w hSw; (try dsimp only at hSw); go_simp; try with_reducible rfl)
      try simp only [Act.put, List.getElem_toArray, List.getElem_cons_zero, List.getElem_cons_succ, List.setIfInBounds_toArray, List.set_cons_zero, List.set_cons_succ]
      refine wpAnyH_take (i := 7) (v := ?_) rfl (by kernel_rfl) (by kernel_rfl) (by kernel_rfl) (fun _ _ _ h => h) (Or.inl ⟨by rfl, ?_⟩) hHeld ?_
      rotate_left
      · (intro w hSw; obtain ⟨c0, c1, c2⟩ := hSw; go_simp; try with_reducible rfl)
      try simp only [Act.put, List.getElem_toArray, List.getElem_cons_zero, List.getElem_cons_succ, List.setIfInBounds_toArray, List.set_cons_zero, List.set_cons_succ]
      refine wpAnyH_ready (rs := [8, 9]) (by kernel_rfl) (by simp) ?_
      refine AllReadyH.cons rfl (fun K hK => ?_) (AllReadyH.cons rfl (fun K hK => ?_) (AllReadyH.nil))
      · skip
        go_simp
        refine (HA.out v0).mono ?_; rintro e v1 ⟨rfl, hb⟩
        replace h1 := h1.call hb; replace hB := BelowOn hB hb
        go_wp2_with fail
        refine hK.out _ _ (HS5.out h1) (fun hHeld => ?_)
        clear hK K hb
        try simp only [Act.put, List.getElem_toArray, List.getElem_cons_zero, List.getElem_cons_succ, List.setIfInBounds_toArray, List.set_cons_zero, List.set_cons_succ]
        refine wpAnyH_ready (rs := [9]) (by kernel_rfl) (by simp) ?_
        refine AllReadyH.cons rfl (fun K hK => ?_) (AllReadyH.nil)
        · skip
          have hC := heap_alloc_new v1 (.cells #[.int .i64 0, .int .i64 0] 74)
          have hb := (Below.refl v1.heap.size v1).alloc (Nat.le_refl _) (.cells #[.int .i64 0, .int .i64 0] 74)
          have g0 : wr.heap.size ≤ v1.heap.size := hB.size
          replace h1 := h1.call hb; replace hB := BelowOn hB hb
          go_simp
          refine hK.out _ _ (HS5.out h1) (fun hHeld => ?_)
          clear hK K hb
          try simp only [Act.put, List.getElem_toArray, List.getElem_cons_zero, List.getElem_cons_succ, List.setIfInBounds_toArray, List.set_cons_zero, List.set_cons_succ]
          generalize v1.alloc (.cells #[.int .i64 0, .int .i64 0] 74) = v2 at *
          generalize v1.heap.size = gb at *
          refine wpAnyH_ready (rs := [10]) (by kernel_rfl) (by simp) ?_
          refine AllReadyH.cons rfl (fun K hK => ?_) AllReadyH.nil
          clear hHeld
          have f0 := Lib.frozen_of_heap hC 0; have f1 := Lib.frozen_of_heap hC 1
          have z0 : v2.cell? ⟨gb, 0, none⟩ = some (.int .i64 0) := by rw [Lib.cell_of_heap hC]; rfl
          have z1 : v2.cell? ⟨gb, 1, none⟩ = some (.int .i64 0) := by rw [Lib.cell_of_heap hC]; rfl
          have s1 := setCell_at _ gb 1 _ 74 (.int .i64 cj) (setCell_at v2 gb 0 _ 74 (.int .i64 ((Dj + stp x : Nat) : Int)) hC)
          have hB2 : Below wr.heap.size wr ((v2.setCell ⟨gb, 0, none⟩ (.int .i64 ((Dj + stp x : Nat) : Int))).setCell ⟨gb, 1, none⟩ (.int .i64 cj)) := (hB.setCell (p := ⟨gb, 0, none⟩) g0 _).setCell (p := ⟨gb, 1, none⟩) g0 _
          have h2 := h0.call hB2
          go_simp
          refine hK.out _ _ (HS5.out h2) (fun hHeld => ?_)
          clear hK K
          try simp only [Act.put, List.getElem_toArray, List.getElem_cons_zero, List.getElem_cons_succ, List.setIfInBounds_toArray, List.set_cons_zero, List.set_cons_succ]
          refine wpAnyH_done (by kernel_rfl) ?_ _
          exact ⟨gb, rfl, hB2, g0, s1⟩
      · skip
        have hC := heap_alloc_new v0 (.cells #[.int .i64 0, .int .i64 0] 74)
        have hb := (Below.refl v0.heap.size v0).alloc (Nat.le_refl _) (.cells #[.int .i64 0, .int .i64 0] 74)
        have g0 : wr.heap.size ≤ v0.heap.size := hB.size
        replace h1 := h1.call hb; replace hB := BelowOn hB hb
        go_simp
        refine hK.out _ _ (HS5.out h1) (fun hHeld => ?_)
        clear hK K hb
        try simp only [Act.put, List.getElem_toArray, List.getElem_cons_zero, List.getElem_cons_succ, List.setIfInBounds_toArray, List.set_cons_zero, List.set_cons_succ]
        generalize v0.alloc (.cells #[.int .i64 0, .int .i64 0] 74) = v3 at *
        generalize v0.heap.size = gb at *
        refine wpAnyH_ready (rs := [8]) (by kernel_rfl) (by simp) ?_
        refine AllReadyH.cons rfl (fun K hK => ?_) (AllReadyH.nil)
        · skip
          go_simp
          refine (HA.out v3).mono ?_; rintro e v4 ⟨rfl, hb⟩
          replace hC := keep_heap hC hb
          replace h1 := h1.call hb; replace hB := BelowOn hB hb
          go_wp2_with fail
          refine hK.out _ _ (HS5.out h1) (fun hHeld => ?_)
          clear hK K hb
          try simp only [Act.put, List.getElem_toArray, List.getElem_cons_zero, List.getElem_cons_succ, List.setIfInBounds_toArray, List.set_cons_zero, List.set_cons_succ]
          refine wpAnyH_ready (rs := [10]) (by kernel_rfl) (by simp) ?_
          refine AllReadyH.cons rfl (fun K hK => ?_) AllReadyH.nil
          clear hHeld
          have f0 := Lib.frozen_of_heap hC 0; have f1 := Lib.frozen_of_heap hC 1
          have z0 : v4.cell? ⟨gb, 0, none⟩ = some (.int .i64 0) := by rw [Lib.cell_of_heap hC]; rfl
          have z1 : v4.cell? ⟨gb, 1, none⟩ = some (.int .i64 0) := by rw [Lib.cell_of_heap hC]; rfl
          have s1 := setCell_at _ gb 1 _ 74 (.int .i64 cj) (setCell_at v4 gb 0 _ 74 (.int .i64 ((Dj + stp x : Nat) : Int)) hC)
          have hB2 : Below wr.heap.size wr ((v4.setCell ⟨gb, 0, none⟩ (.int .i64 ((Dj + stp x : Nat) : Int))).setCell ⟨gb, 1, none⟩ (.int .i64 cj)) := (hB.setCell (p := ⟨gb, 0, none⟩) g0 _).setCell (p := ⟨gb, 1, none⟩) g0 _
          have h2 := h0.call hB2
          go_simp
          refine hK.out _ _ (HS5.out h2) (fun hHeld => ?_)
          clear hK K
          try simp only [Act.put, List.getElem_toArray, List.getElem_cons_zero, List.getElem_cons_succ, List.setIfInBounds_toArray, List.set_cons_zero, List.set_cons_succ]
          refine wpAnyH_done (by kernel_rfl) ?_ _
          exact ⟨gb, rfl, hB2, g0, s1⟩), ?_⟩⟩
    rintro gb w5 ⟨hbl, g0, hC⟩
    go_wp2_with fail
    have hF := HF.out.call hbl
    refine (HPC.out _ hF.part (HPM.out _ hF)).mono ?_; rintro e w6 ⟨rfl, hb⟩
    clear hF
    replace hbl := BelowOn hbl hb
    replace hC := keep_heap hC hb
    clear hb
    go_wp2_with fail
    obtain ⟨mP, mPI, mX, mI, hco⟩ := HM.out
    obtain ⟨hDj, hD1, hR1, hrc, hst, hcv⟩ := HNN.out
    generalize hB0 : Dj + stp x = B0 at *
    by_cases c1t : okP x y = true ∧ D1 + co ≤ B0
    · obtain ⟨ok1, le1⟩ := c1t
      have hco2 := hco ok1
      rw [ok1]
      have q1 : decide ((D1 : Int) + (co : Int) ≤ (B0 : Int)) = true := decide_eq_true (by omega)
      by_cases c2t : R1 + sy < D1 + co
      · skip
        have q2 : decide ((R1 : Int) + (sy : Int) < ((D1 + co : Nat) : Int)) = true := decide_eq_true (by omega)
        have hm := mPI ok1 (by omega) (by omega)
        have hcell : Ce.mk (dst (x :: a) (y :: bt)) (match mv x a y bt with | .P => c1 | .X => cj | .I => rc) = ⟨R1 + sy, rc⟩ := by rw [hm.2, hm.1]
        have hset := HSET.out
        rw [hcell] at hset
        have HSET := Lib.hid hset
        clear hset hcell hm mP mPI mX mI hco hDj hD1 hR1 hrc hst hcv hco2
        have hF := HF.out.call hbl
        obtain ⟨⟨z0, z1⟩, ⟨y0, y1⟩, ⟨r0, r1⟩⟩ := HCL.out _ hF
        have x5 := hF.part.c5
        have q5 := (HPM.out _ hF).c5
        rw [HNN.out.2.2.2.2.1] at q5
        have b0 := cell_of_h hC 0 _ rfl
        have b1 := cell_of_h hC 1 _ rfl
        have f0 := Lib.frozen_of_heap hC 0
        have f1 := Lib.frozen_of_heap hC 1
        have kz0 := cell_regrown z0
        have kz1 := cell_regrown z1
        have ky0 := cell_regrown y0
        have ky1 := cell_regrown y1
        have kr0 := cell_regrown r0
        have kr1 := cell_regrown r1
        have kx5 := cell_regrown x5
        have kq5 := cell_regrown q5
        have kb0 := cell_regrown b0
        have kb1 := cell_regrown b1
        refine wp_region_quiet_below (by kernel_rfl) (by kernel_rfl) ?_
        repeat (go_big_quiet_step (fail))
        refine wpQuiet_nil ?_
        intro _ hw'
        obtain ⟨⟨dq, osq⟩, hw''⟩ := hw'
        subst hw''
        have hb := below_regrown w6 dq osq
        generalize grow (redrawn w6 dq) osq = w7 at *
        clear kz0 kz1 ky0 ky1 kr0 kr1 kx5 kq5 kb0 kb1 
        clear z0 z1 y0 y1 r0 r1 x5 q5 b0 b1 f0 f1 hF
        replace hbl := BelowOn hbl hb
        replace hC := keep_heap hC hb
        clear hb
        have hF := HF.out.call hbl
        obtain ⟨⟨z0, z1⟩, ⟨y0, y1⟩, ⟨r0, r1⟩⟩ := HCL.out _ hF
        have x5 := hF.part.c5
        have q5 := (HPM.out _ hF).c5
        rw [HNN.out.2.2.2.2.1] at q5
        have b0 := cell_of_h hC 0 _ rfl
        have b1 := cell_of_h hC 1 _ rfl
        have f0 := Lib.frozen_of_heap hC 0
        have f1 := Lib.frozen_of_heap hC 1
        go_wp2_with fail
        refine (HA8.out _).mono ?_; rintro e w8 ⟨rfl, hb⟩
        clear z0 z1 y0 y1 r0 r1 x5 q5 b0 b1 f0 f1 hF
        replace hbl := BelowOn hbl hb
        replace hC := keep_heap hC hb
        clear hb
        have hF := HF.out.call hbl
        obtain ⟨⟨z0, z1⟩, ⟨y0, y1⟩, ⟨r0, r1⟩⟩ := HCL.out _ hF
        have x5 := hF.part.c5
        have q5 := (HPM.out _ hF).c5
        rw [HNN.out.2.2.2.2.1] at q5
        have b0 := cell_of_h hC 0 _ rfl
        have b1 := cell_of_h hC 1 _ rfl
        have f0 := Lib.frozen_of_heap hC 0
        have f1 := Lib.frozen_of_heap hC 1
        generalize hB1 : D1 + co = B1 at *
        have s1 := setCell_at _ gb 1 _ 74 (.int .i64 (c1 : Nat)) (setCell_at w8 gb 0 _ 74 (.int .i64 ((B1 : Nat) : Int)) hC)
        have hs1 : ((w8.setCell ⟨gb, 0, none⟩ (.int .i64 ((B1 : Nat) : Int))).setCell ⟨gb, 1, none⟩ (.int .i64 (c1 : Nat))).heap[gb]? = some (.cells #[.int .i64 ((B1 : Nat) : Int), .int .i64 (c1 : Nat)] 74 (0, 0)) := s1
        have hbl2 : Below wr.heap.size wr ((w8.setCell ⟨gb, 0, none⟩ (.int .i64 ((B1 : Nat) : Int))).setCell ⟨gb, 1, none⟩ (.int .i64 (c1 : Nat))) := (hbl.setCell (p := ⟨gb, 0, none⟩) g0 _).setCell (p := ⟨gb, 1, none⟩) g0 _
        clear s1
        have HW := Lib.hid (And.intro hs1 hbl2)
        clear hs1 hbl2
        go_upto_region 9 with fail
        clear z0 z1 y0 y1 r0 r1 x5 q5 b0 b1 f0 f1 hF
        obtain ⟨hs1, hbl2⟩ := HW.out
        generalize ((w8.setCell ⟨gb, 0, none⟩ (.int .i64 ((B1 : Nat) : Int))).setCell ⟨gb, 1, none⟩ (.int .i64 (c1 : Nat))) = w9 at *
        clear HW hC hbl
        have hC := hs1; have hbl := hbl2; clear hs1 hbl2
        have hF := HF.out.call hbl
        obtain ⟨⟨z0, z1⟩, ⟨y0, y1⟩, ⟨r0, r1⟩⟩ := HCL.out _ hF
        have x5 := hF.part.c5
        have q5 := (HPM.out _ hF).c5
        rw [HNN.out.2.2.2.2.1] at q5
        have b0 := cell_of_h hC 0 _ rfl
        have b1 := cell_of_h hC 1 _ rfl
        have f0 := Lib.frozen_of_heap hC 0
        have f1 := Lib.frozen_of_heap hC 1
        have kz0 := cell_regrown z0
        have kz1 := cell_regrown z1
        have ky0 := cell_regrown y0
        have ky1 := cell_regrown y1
        have kr0 := cell_regrown r0
        have kr1 := cell_regrown r1
        have kx5 := cell_regrown x5
        have kq5 := cell_regrown q5
        have kb0 := cell_regrown b0
        have kb1 := cell_regrown b1
        refine wp_region_quiet_below (by kernel_rfl) (by kernel_rfl) ?_
        repeat (go_big_quiet_step (fail))
        refine wpQuiet_nil ?_
        intro _ hw'
        obtain ⟨⟨dq, osq⟩, hw''⟩ := hw'
        subst hw''
        have hb := below_regrown w9 dq osq
        generalize grow (redrawn w9 dq) osq = w10 at *
        clear kz0 kz1 ky0 ky1 kr0 kr1 kx5 kq5 kb0 kb1 
        clear z0 z1 y0 y1 r0 r1 x5 q5 b0 b1 f0 f1 hF
        replace hbl := BelowOn hbl hb
        replace hC := keep_heap hC hb
        clear hb
        go_upto_region 10 with fail
        have hF := HF.out.call hbl
        obtain ⟨⟨z0, z1⟩, ⟨y0, y1⟩, ⟨r0, r1⟩⟩ := HCL.out _ hF
        have x5 := hF.part.c5
        have q5 := (HPM.out _ hF).c5
        rw [HNN.out.2.2.2.2.1] at q5
        have b0 := cell_of_h hC 0 _ rfl
        have b1 := cell_of_h hC 1 _ rfl
        have f0 := Lib.frozen_of_heap hC 0
        have f1 := Lib.frozen_of_heap hC 1
        have kz0 := cell_regrown z0
        have kz1 := cell_regrown z1
        have ky0 := cell_regrown y0
        have ky1 := cell_regrown y1
        have kr0 := cell_regrown r0
        have kr1 := cell_regrown r1
        have kx5 := cell_regrown x5
        have kq5 := cell_regrown q5
        have kb0 := cell_regrown b0
        have kb1 := cell_regrown b1
        have e1 := fun d os => Calls.regrown_of (HA10.out (grow (redrawn w10 d) os))
        refine wp_region_quiet_tail 11 (by kernel_rfl) (by kernel_rfl) ?_
        simp only [List.take_succ_cons, List.take_zero, List.drop_succ_cons, List.drop_zero]
        repeat (go_big_quiet_step (exact e1 _ _))
        refine wpQuiet_nil ?_
        intro _ hw'
        obtain ⟨⟨dq, osq⟩, hw''⟩ := hw'
        subst hw''
        have hb := below_regrown w10 dq osq
        generalize grow (redrawn w10 dq) osq = w11 at *
        clear kz0 kz1 ky0 ky1 kr0 kr1 kx5 kq5 kb0 kb1 e1
        clear z0 z1 y0 y1 r0 r1 x5 q5 b0 b1 f0 f1 hF
        replace hbl := BelowOn hbl hb
        replace hC := keep_heap hC hb
        clear hb
        have hF := HF.out.call hbl
        obtain ⟨⟨z0, z1⟩, ⟨y0, y1⟩, ⟨r0, r1⟩⟩ := HCL.out _ hF
        have x5 := hF.part.c5
        have q5 := (HPM.out _ hF).c5
        rw [HNN.out.2.2.2.2.1] at q5
        have b0 := cell_of_h hC 0 _ rfl
        have b1 := cell_of_h hC 1 _ rfl
        have f0 := Lib.frozen_of_heap hC 0
        have f1 := Lib.frozen_of_heap hC 1
        generalize hB2 : R1 + sy = B2 at *
        have s1 := setCell_at _ gb 1 _ 74 (.int .i64 (rc : Nat)) (setCell_at w11 gb 0 _ 74 (.int .i64 ((B2 : Nat) : Int)) hC)
        have hs1 : ((w11.setCell ⟨gb, 0, none⟩ (.int .i64 ((B2 : Nat) : Int))).setCell ⟨gb, 1, none⟩ (.int .i64 (rc : Nat))).heap[gb]? = some (.cells #[.int .i64 ((B2 : Nat) : Int), .int .i64 (rc : Nat)] 74 (0, 0)) := s1
        have hbl2 : Below wr.heap.size wr ((w11.setCell ⟨gb, 0, none⟩ (.int .i64 ((B2 : Nat) : Int))).setCell ⟨gb, 1, none⟩ (.int .i64 (rc : Nat))) := (hbl.setCell (p := ⟨gb, 0, none⟩) g0 _).setCell (p := ⟨gb, 1, none⟩) g0 _
        clear s1
        have HW := Lib.hid (And.intro hs1 hbl2)
        clear hs1 hbl2
        go_upto_region 11 with fail
        clear z0 z1 y0 y1 r0 r1 x5 q5 b0 b1 f0 f1 hF
        obtain ⟨hs1, hbl2⟩ := HW.out
        generalize ((w11.setCell ⟨gb, 0, none⟩ (.int .i64 ((B2 : Nat) : Int))).setCell ⟨gb, 1, none⟩ (.int .i64 (rc : Nat))) = w12 at *
        clear HW hC hbl
        have hC := hs1; have hbl := hbl2; clear hs1 hbl2
        have hF := HF.out.call hbl
        obtain ⟨⟨z0, z1⟩, ⟨y0, y1⟩, ⟨r0, r1⟩⟩ := HCL.out _ hF
        have x5 := hF.part.c5
        have q5 := (HPM.out _ hF).c5
        rw [HNN.out.2.2.2.2.1] at q5
        have b0 := cell_of_h hC 0 _ rfl
        have b1 := cell_of_h hC 1 _ rfl
        have f0 := Lib.frozen_of_heap hC 0
        have f1 := Lib.frozen_of_heap hC 1
        have ht1 := HTH.out _ hF.row
        have hP1 := HSET.out _ hF.row
        have hg1 := setCells_grown (cenc ⟨B2, rc⟩) w12 g1 (m * 2)
        have hG1 := grow_then (grow_then HG.out (growOf hbl g1)) hg1
        have hF2 := hF.set hg1 hP1
        have HFIN := Lib.hid (And.intro hG1 hF2)
        clear hP1 hg1 hG1 hF2
        go_upto_region 4 with (refine wpList_store_mid (by rfl) 74 _ _ (by rfl) g1 (m * 2) (cenc ⟨B2, rc⟩).toArray (by rfl) (by rfl) ht1 size72 (cenc_one _) ?_)
        have e1 : (cenc ⟨B2, rc⟩).toArray.toList = cenc ⟨B2, rc⟩ := rfl
        (try rw [e1])
        clear e1 ht1
        clear z0 z1 y0 y1 r0 r1 x5 q5 b0 b1 f0 f1 hF
        generalize (w12.setCells g1 (m * 2) (cenc ⟨B2, rc⟩)) = w20 at *
        go_wp2_with fail
        obtain ⟨hG1, hF2⟩ := HFIN.out
        go_roundw
        case rel => exact ⟨m, by omega, by go_num, hG1, hF2⟩
        case measure => simp [intOf] <;> omega
      · skip
        have q2 : decide ((R1 : Int) + (sy : Int) < ((D1 + co : Nat) : Int)) = false := decide_eq_false (by omega)
        have hm := mP ok1 (by omega) (by omega)
        have hcell : Ce.mk (dst (x :: a) (y :: bt)) (match mv x a y bt with | .P => c1 | .X => cj | .I => rc) = ⟨D1 + co, c1⟩ := by rw [hm.2, hm.1, hco2]
        have hset := HSET.out
        rw [hcell] at hset
        have HSET := Lib.hid hset
        clear hset hcell hm mP mPI mX mI hco hDj hD1 hR1 hrc hst hcv hco2
        have hF := HF.out.call hbl
        obtain ⟨⟨z0, z1⟩, ⟨y0, y1⟩, ⟨r0, r1⟩⟩ := HCL.out _ hF
        have x5 := hF.part.c5
        have q5 := (HPM.out _ hF).c5
        rw [HNN.out.2.2.2.2.1] at q5
        have b0 := cell_of_h hC 0 _ rfl
        have b1 := cell_of_h hC 1 _ rfl
        have f0 := Lib.frozen_of_heap hC 0
        have f1 := Lib.frozen_of_heap hC 1
        have kz0 := cell_regrown z0
        have kz1 := cell_regrown z1
        have ky0 := cell_regrown y0
        have ky1 := cell_regrown y1
        have kr0 := cell_regrown r0
        have kr1 := cell_regrown r1
        have kx5 := cell_regrown x5
        have kq5 := cell_regrown q5
        have kb0 := cell_regrown b0
        have kb1 := cell_regrown b1
        refine wp_region_quiet_below (by kernel_rfl) (by kernel_rfl) ?_
        repeat (go_big_quiet_step (fail))
        refine wpQuiet_nil ?_
        intro _ hw'
        obtain ⟨⟨dq, osq⟩, hw''⟩ := hw'
        subst hw''
        have hb := below_regrown w6 dq osq
        generalize grow (redrawn w6 dq) osq = w7 at *
        clear kz0 kz1 ky0 ky1 kr0 kr1 kx5 kq5 kb0 kb1 
        clear z0 z1 y0 y1 r0 r1 x5 q5 b0 b1 f0 f1 hF
        replace hbl := BelowOn hbl hb
        replace hC := keep_heap hC hb
        clear hb
        have hF := HF.out.call hbl
        obtain ⟨⟨z0, z1⟩, ⟨y0, y1⟩, ⟨r0, r1⟩⟩ := HCL.out _ hF
        have x5 := hF.part.c5
        have q5 := (HPM.out _ hF).c5
        rw [HNN.out.2.2.2.2.1] at q5
        have b0 := cell_of_h hC 0 _ rfl
        have b1 := cell_of_h hC 1 _ rfl
        have f0 := Lib.frozen_of_heap hC 0
        have f1 := Lib.frozen_of_heap hC 1
        go_wp2_with fail
        refine (HA8.out _).mono ?_; rintro e w8 ⟨rfl, hb⟩
        clear z0 z1 y0 y1 r0 r1 x5 q5 b0 b1 f0 f1 hF
        replace hbl := BelowOn hbl hb
        replace hC := keep_heap hC hb
        clear hb
        have hF := HF.out.call hbl
        obtain ⟨⟨z0, z1⟩, ⟨y0, y1⟩, ⟨r0, r1⟩⟩ := HCL.out _ hF
        have x5 := hF.part.c5
        have q5 := (HPM.out _ hF).c5
        rw [HNN.out.2.2.2.2.1] at q5
        have b0 := cell_of_h hC 0 _ rfl
        have b1 := cell_of_h hC 1 _ rfl
        have f0 := Lib.frozen_of_heap hC 0
        have f1 := Lib.frozen_of_heap hC 1
        generalize hB1 : D1 + co = B1 at *
        have s1 := setCell_at _ gb 1 _ 74 (.int .i64 (c1 : Nat)) (setCell_at w8 gb 0 _ 74 (.int .i64 ((B1 : Nat) : Int)) hC)
        have hs1 : ((w8.setCell ⟨gb, 0, none⟩ (.int .i64 ((B1 : Nat) : Int))).setCell ⟨gb, 1, none⟩ (.int .i64 (c1 : Nat))).heap[gb]? = some (.cells #[.int .i64 ((B1 : Nat) : Int), .int .i64 (c1 : Nat)] 74 (0, 0)) := s1
        have hbl2 : Below wr.heap.size wr ((w8.setCell ⟨gb, 0, none⟩ (.int .i64 ((B1 : Nat) : Int))).setCell ⟨gb, 1, none⟩ (.int .i64 (c1 : Nat))) := (hbl.setCell (p := ⟨gb, 0, none⟩) g0 _).setCell (p := ⟨gb, 1, none⟩) g0 _
        clear s1
        have HW := Lib.hid (And.intro hs1 hbl2)
        clear hs1 hbl2
        go_upto_region 9 with fail
        clear z0 z1 y0 y1 r0 r1 x5 q5 b0 b1 f0 f1 hF
        obtain ⟨hs1, hbl2⟩ := HW.out
        generalize ((w8.setCell ⟨gb, 0, none⟩ (.int .i64 ((B1 : Nat) : Int))).setCell ⟨gb, 1, none⟩ (.int .i64 (c1 : Nat))) = w9 at *
        clear HW hC hbl
        have hC := hs1; have hbl := hbl2; clear hs1 hbl2
        have hF := HF.out.call hbl
        obtain ⟨⟨z0, z1⟩, ⟨y0, y1⟩, ⟨r0, r1⟩⟩ := HCL.out _ hF
        have x5 := hF.part.c5
        have q5 := (HPM.out _ hF).c5
        rw [HNN.out.2.2.2.2.1] at q5
        have b0 := cell_of_h hC 0 _ rfl
        have b1 := cell_of_h hC 1 _ rfl
        have f0 := Lib.frozen_of_heap hC 0
        have f1 := Lib.frozen_of_heap hC 1
        have kz0 := cell_regrown z0
        have kz1 := cell_regrown z1
        have ky0 := cell_regrown y0
        have ky1 := cell_regrown y1
        have kr0 := cell_regrown r0
        have kr1 := cell_regrown r1
        have kx5 := cell_regrown x5
        have kq5 := cell_regrown q5
        have kb0 := cell_regrown b0
        have kb1 := cell_regrown b1
        refine wp_region_quiet_below (by kernel_rfl) (by kernel_rfl) ?_
        repeat (go_big_quiet_step (fail))
        refine wpQuiet_nil ?_
        intro _ hw'
        obtain ⟨⟨dq, osq⟩, hw''⟩ := hw'
        subst hw''
        have hb := below_regrown w9 dq osq
        generalize grow (redrawn w9 dq) osq = w10 at *
        clear kz0 kz1 ky0 ky1 kr0 kr1 kx5 kq5 kb0 kb1 
        clear z0 z1 y0 y1 r0 r1 x5 q5 b0 b1 f0 f1 hF
        replace hbl := BelowOn hbl hb
        replace hC := keep_heap hC hb
        clear hb
        go_upto_region 11 with fail
        have hF := HF.out.call hbl
        obtain ⟨⟨z0, z1⟩, ⟨y0, y1⟩, ⟨r0, r1⟩⟩ := HCL.out _ hF
        have x5 := hF.part.c5
        have q5 := (HPM.out _ hF).c5
        rw [HNN.out.2.2.2.2.1] at q5
        have b0 := cell_of_h hC 0 _ rfl
        have b1 := cell_of_h hC 1 _ rfl
        have f0 := Lib.frozen_of_heap hC 0
        have f1 := Lib.frozen_of_heap hC 1
        have ht1 := HTH.out _ hF.row
        have hP1 := HSET.out _ hF.row
        have hg1 := setCells_grown (cenc ⟨B1, c1⟩) w10 g1 (m * 2)
        have hG1 := grow_then (grow_then HG.out (growOf hbl g1)) hg1
        have hF2 := hF.set hg1 hP1
        have HFIN := Lib.hid (And.intro hG1 hF2)
        clear hP1 hg1 hG1 hF2
        go_upto_region 4 with (refine wpList_store_mid (by rfl) 74 _ _ (by rfl) g1 (m * 2) (cenc ⟨B1, c1⟩).toArray (by rfl) (by rfl) ht1 size72 (cenc_one _) ?_)
        have e1 : (cenc ⟨B1, c1⟩).toArray.toList = cenc ⟨B1, c1⟩ := rfl
        (try rw [e1])
        clear e1 ht1
        clear z0 z1 y0 y1 r0 r1 x5 q5 b0 b1 f0 f1 hF
        generalize (w10.setCells g1 (m * 2) (cenc ⟨B1, c1⟩)) = w20 at *
        go_wp2_with fail
        obtain ⟨hG1, hF2⟩ := HFIN.out
        go_roundw
        case rel => exact ⟨m, by omega, by go_num, hG1, hF2⟩
        case measure => simp [intOf] <;> omega
    by_cases ok1 : okP x y = true
    · have le1 : ¬ D1 + co ≤ B0 := fun h => c1t ⟨ok1, h⟩
      have hco2 := hco ok1
      rw [ok1]
      have q1 : decide ((D1 : Int) + (co : Int) ≤ (B0 : Int)) = false := decide_eq_false (by omega)
      by_cases c2t : R1 + sy < B0
      · skip
        have q2 : decide ((R1 : Int) + (sy : Int) < ((B0 : Nat) : Int)) = true := decide_eq_true (by omega)
        have hm := mI (fun _ => by omega) (by omega)
        have hcell : Ce.mk (dst (x :: a) (y :: bt)) (match mv x a y bt with | .P => c1 | .X => cj | .I => rc) = ⟨R1 + sy, rc⟩ := by rw [hm.2, hm.1]
        have hset := HSET.out
        rw [hcell] at hset
        have HSET := Lib.hid hset
        clear hset hcell hm mP mPI mX mI hco hDj hD1 hR1 hrc hst hcv hco2
        have hF := HF.out.call hbl
        obtain ⟨⟨z0, z1⟩, ⟨y0, y1⟩, ⟨r0, r1⟩⟩ := HCL.out _ hF
        have x5 := hF.part.c5
        have q5 := (HPM.out _ hF).c5
        rw [HNN.out.2.2.2.2.1] at q5
        have b0 := cell_of_h hC 0 _ rfl
        have b1 := cell_of_h hC 1 _ rfl
        have f0 := Lib.frozen_of_heap hC 0
        have f1 := Lib.frozen_of_heap hC 1
        have kz0 := cell_regrown z0
        have kz1 := cell_regrown z1
        have ky0 := cell_regrown y0
        have ky1 := cell_regrown y1
        have kr0 := cell_regrown r0
        have kr1 := cell_regrown r1
        have kx5 := cell_regrown x5
        have kq5 := cell_regrown q5
        have kb0 := cell_regrown b0
        have kb1 := cell_regrown b1
        refine wp_region_quiet_below (by kernel_rfl) (by kernel_rfl) ?_
        repeat (go_big_quiet_step (fail))
        refine wpQuiet_nil ?_
        intro _ hw'
        obtain ⟨⟨dq, osq⟩, hw''⟩ := hw'
        subst hw''
        have hb := below_regrown w6 dq osq
        generalize grow (redrawn w6 dq) osq = w7 at *
        clear kz0 kz1 ky0 ky1 kr0 kr1 kx5 kq5 kb0 kb1 
        clear z0 z1 y0 y1 r0 r1 x5 q5 b0 b1 f0 f1 hF
        replace hbl := BelowOn hbl hb
        replace hC := keep_heap hC hb
        clear hb
        go_upto_region 9 with fail
        have hF := HF.out.call hbl
        obtain ⟨⟨z0, z1⟩, ⟨y0, y1⟩, ⟨r0, r1⟩⟩ := HCL.out _ hF
        have x5 := hF.part.c5
        have q5 := (HPM.out _ hF).c5
        rw [HNN.out.2.2.2.2.1] at q5
        have b0 := cell_of_h hC 0 _ rfl
        have b1 := cell_of_h hC 1 _ rfl
        have f0 := Lib.frozen_of_heap hC 0
        have f1 := Lib.frozen_of_heap hC 1
        have kz0 := cell_regrown z0
        have kz1 := cell_regrown z1
        have ky0 := cell_regrown y0
        have ky1 := cell_regrown y1
        have kr0 := cell_regrown r0
        have kr1 := cell_regrown r1
        have kx5 := cell_regrown x5
        have kq5 := cell_regrown q5
        have kb0 := cell_regrown b0
        have kb1 := cell_regrown b1
        refine wp_region_quiet_below (by kernel_rfl) (by kernel_rfl) ?_
        repeat (go_big_quiet_step (fail))
        refine wpQuiet_nil ?_
        intro _ hw'
        obtain ⟨⟨dq, osq⟩, hw''⟩ := hw'
        subst hw''
        have hb := below_regrown w7 dq osq
        generalize grow (redrawn w7 dq) osq = w10 at *
        clear kz0 kz1 ky0 ky1 kr0 kr1 kx5 kq5 kb0 kb1 
        clear z0 z1 y0 y1 r0 r1 x5 q5 b0 b1 f0 f1 hF
        replace hbl := BelowOn hbl hb
        replace hC := keep_heap hC hb
        clear hb
        go_upto_region 10 with fail
        have hF := HF.out.call hbl
        obtain ⟨⟨z0, z1⟩, ⟨y0, y1⟩, ⟨r0, r1⟩⟩ := HCL.out _ hF
        have x5 := hF.part.c5
        have q5 := (HPM.out _ hF).c5
        rw [HNN.out.2.2.2.2.1] at q5
        have b0 := cell_of_h hC 0 _ rfl
        have b1 := cell_of_h hC 1 _ rfl
        have f0 := Lib.frozen_of_heap hC 0
        have f1 := Lib.frozen_of_heap hC 1
        have kz0 := cell_regrown z0
        have kz1 := cell_regrown z1
        have ky0 := cell_regrown y0
        have ky1 := cell_regrown y1
        have kr0 := cell_regrown r0
        have kr1 := cell_regrown r1
        have kx5 := cell_regrown x5
        have kq5 := cell_regrown q5
        have kb0 := cell_regrown b0
        have kb1 := cell_regrown b1
        have e1 := fun d os => Calls.regrown_of (HA10.out (grow (redrawn w10 d) os))
        refine wp_region_quiet_tail 11 (by kernel_rfl) (by kernel_rfl) ?_
        simp only [List.take_succ_cons, List.take_zero, List.drop_succ_cons, List.drop_zero]
        repeat (go_big_quiet_step (exact e1 _ _))
        refine wpQuiet_nil ?_
        intro _ hw'
        obtain ⟨⟨dq, osq⟩, hw''⟩ := hw'
        subst hw''
        have hb := below_regrown w10 dq osq
        generalize grow (redrawn w10 dq) osq = w11 at *
        clear kz0 kz1 ky0 ky1 kr0 kr1 kx5 kq5 kb0 kb1 e1
        clear z0 z1 y0 y1 r0 r1 x5 q5 b0 b1 f0 f1 hF
        replace hbl := BelowOn hbl hb
        replace hC := keep_heap hC hb
        clear hb
        have hF := HF.out.call hbl
        obtain ⟨⟨z0, z1⟩, ⟨y0, y1⟩, ⟨r0, r1⟩⟩ := HCL.out _ hF
        have x5 := hF.part.c5
        have q5 := (HPM.out _ hF).c5
        rw [HNN.out.2.2.2.2.1] at q5
        have b0 := cell_of_h hC 0 _ rfl
        have b1 := cell_of_h hC 1 _ rfl
        have f0 := Lib.frozen_of_heap hC 0
        have f1 := Lib.frozen_of_heap hC 1
        generalize hB2 : R1 + sy = B2 at *
        have s1 := setCell_at _ gb 1 _ 74 (.int .i64 (rc : Nat)) (setCell_at w11 gb 0 _ 74 (.int .i64 ((B2 : Nat) : Int)) hC)
        have hs1 : ((w11.setCell ⟨gb, 0, none⟩ (.int .i64 ((B2 : Nat) : Int))).setCell ⟨gb, 1, none⟩ (.int .i64 (rc : Nat))).heap[gb]? = some (.cells #[.int .i64 ((B2 : Nat) : Int), .int .i64 (rc : Nat)] 74 (0, 0)) := s1
        have hbl2 : Below wr.heap.size wr ((w11.setCell ⟨gb, 0, none⟩ (.int .i64 ((B2 : Nat) : Int))).setCell ⟨gb, 1, none⟩ (.int .i64 (rc : Nat))) := (hbl.setCell (p := ⟨gb, 0, none⟩) g0 _).setCell (p := ⟨gb, 1, none⟩) g0 _
        clear s1
        have HW := Lib.hid (And.intro hs1 hbl2)
        clear hs1 hbl2
        go_upto_region 11 with fail
        clear z0 z1 y0 y1 r0 r1 x5 q5 b0 b1 f0 f1 hF
        obtain ⟨hs1, hbl2⟩ := HW.out
        generalize ((w11.setCell ⟨gb, 0, none⟩ (.int .i64 ((B2 : Nat) : Int))).setCell ⟨gb, 1, none⟩ (.int .i64 (rc : Nat))) = w12 at *
        clear HW hC hbl
        have hC := hs1; have hbl := hbl2; clear hs1 hbl2
        have hF := HF.out.call hbl
        obtain ⟨⟨z0, z1⟩, ⟨y0, y1⟩, ⟨r0, r1⟩⟩ := HCL.out _ hF
        have x5 := hF.part.c5
        have q5 := (HPM.out _ hF).c5
        rw [HNN.out.2.2.2.2.1] at q5
        have b0 := cell_of_h hC 0 _ rfl
        have b1 := cell_of_h hC 1 _ rfl
        have f0 := Lib.frozen_of_heap hC 0
        have f1 := Lib.frozen_of_heap hC 1
        have ht1 := HTH.out _ hF.row
        have hP1 := HSET.out _ hF.row
        have hg1 := setCells_grown (cenc ⟨B2, rc⟩) w12 g1 (m * 2)
        have hG1 := grow_then (grow_then HG.out (growOf hbl g1)) hg1
        have hF2 := hF.set hg1 hP1
        have HFIN := Lib.hid (And.intro hG1 hF2)
        clear hP1 hg1 hG1 hF2
        go_upto_region 4 with (refine wpList_store_mid (by rfl) 74 _ _ (by rfl) g1 (m * 2) (cenc ⟨B2, rc⟩).toArray (by rfl) (by rfl) ht1 size72 (cenc_one _) ?_)
        have e1 : (cenc ⟨B2, rc⟩).toArray.toList = cenc ⟨B2, rc⟩ := rfl
        (try rw [e1])
        clear e1 ht1
        clear z0 z1 y0 y1 r0 r1 x5 q5 b0 b1 f0 f1 hF
        generalize (w12.setCells g1 (m * 2) (cenc ⟨B2, rc⟩)) = w20 at *
        go_wp2_with fail
        obtain ⟨hG1, hF2⟩ := HFIN.out
        go_roundw
        case rel => exact ⟨m, by omega, by go_num, hG1, hF2⟩
        case measure => simp [intOf] <;> omega
      · skip
        have q2 : decide ((R1 : Int) + (sy : Int) < ((B0 : Nat) : Int)) = false := decide_eq_false (by omega)
        have hm := mX (fun _ => by omega) (by omega)
        have hcell : Ce.mk (dst (x :: a) (y :: bt)) (match mv x a y bt with | .P => c1 | .X => cj | .I => rc) = ⟨B0, cj⟩ := by rw [hm.2, hm.1]
        have hset := HSET.out
        rw [hcell] at hset
        have HSET := Lib.hid hset
        clear hset hcell hm mP mPI mX mI hco hDj hD1 hR1 hrc hst hcv hco2
        have hF := HF.out.call hbl
        obtain ⟨⟨z0, z1⟩, ⟨y0, y1⟩, ⟨r0, r1⟩⟩ := HCL.out _ hF
        have x5 := hF.part.c5
        have q5 := (HPM.out _ hF).c5
        rw [HNN.out.2.2.2.2.1] at q5
        have b0 := cell_of_h hC 0 _ rfl
        have b1 := cell_of_h hC 1 _ rfl
        have f0 := Lib.frozen_of_heap hC 0
        have f1 := Lib.frozen_of_heap hC 1
        have kz0 := cell_regrown z0
        have kz1 := cell_regrown z1
        have ky0 := cell_regrown y0
        have ky1 := cell_regrown y1
        have kr0 := cell_regrown r0
        have kr1 := cell_regrown r1
        have kx5 := cell_regrown x5
        have kq5 := cell_regrown q5
        have kb0 := cell_regrown b0
        have kb1 := cell_regrown b1
        refine wp_region_quiet_below (by kernel_rfl) (by kernel_rfl) ?_
        repeat (go_big_quiet_step (fail))
        refine wpQuiet_nil ?_
        intro _ hw'
        obtain ⟨⟨dq, osq⟩, hw''⟩ := hw'
        subst hw''
        have hb := below_regrown w6 dq osq
        generalize grow (redrawn w6 dq) osq = w7 at *
        clear kz0 kz1 ky0 ky1 kr0 kr1 kx5 kq5 kb0 kb1 
        clear z0 z1 y0 y1 r0 r1 x5 q5 b0 b1 f0 f1 hF
        replace hbl := BelowOn hbl hb
        replace hC := keep_heap hC hb
        clear hb
        go_upto_region 9 with fail
        have hF := HF.out.call hbl
        obtain ⟨⟨z0, z1⟩, ⟨y0, y1⟩, ⟨r0, r1⟩⟩ := HCL.out _ hF
        have x5 := hF.part.c5
        have q5 := (HPM.out _ hF).c5
        rw [HNN.out.2.2.2.2.1] at q5
        have b0 := cell_of_h hC 0 _ rfl
        have b1 := cell_of_h hC 1 _ rfl
        have f0 := Lib.frozen_of_heap hC 0
        have f1 := Lib.frozen_of_heap hC 1
        have kz0 := cell_regrown z0
        have kz1 := cell_regrown z1
        have ky0 := cell_regrown y0
        have ky1 := cell_regrown y1
        have kr0 := cell_regrown r0
        have kr1 := cell_regrown r1
        have kx5 := cell_regrown x5
        have kq5 := cell_regrown q5
        have kb0 := cell_regrown b0
        have kb1 := cell_regrown b1
        refine wp_region_quiet_below (by kernel_rfl) (by kernel_rfl) ?_
        repeat (go_big_quiet_step (fail))
        refine wpQuiet_nil ?_
        intro _ hw'
        obtain ⟨⟨dq, osq⟩, hw''⟩ := hw'
        subst hw''
        have hb := below_regrown w7 dq osq
        generalize grow (redrawn w7 dq) osq = w10 at *
        clear kz0 kz1 ky0 ky1 kr0 kr1 kx5 kq5 kb0 kb1 
        clear z0 z1 y0 y1 r0 r1 x5 q5 b0 b1 f0 f1 hF
        replace hbl := BelowOn hbl hb
        replace hC := keep_heap hC hb
        clear hb
        go_upto_region 11 with fail
        have hF := HF.out.call hbl
        obtain ⟨⟨z0, z1⟩, ⟨y0, y1⟩, ⟨r0, r1⟩⟩ := HCL.out _ hF
        have x5 := hF.part.c5
        have q5 := (HPM.out _ hF).c5
        rw [HNN.out.2.2.2.2.1] at q5
        have b0 := cell_of_h hC 0 _ rfl
        have b1 := cell_of_h hC 1 _ rfl
        have f0 := Lib.frozen_of_heap hC 0
        have f1 := Lib.frozen_of_heap hC 1
        have ht1 := HTH.out _ hF.row
        have hP1 := HSET.out _ hF.row
        have hg1 := setCells_grown (cenc ⟨B0, cj⟩) w10 g1 (m * 2)
        have hG1 := grow_then (grow_then HG.out (growOf hbl g1)) hg1
        have hF2 := hF.set hg1 hP1
        have HFIN := Lib.hid (And.intro hG1 hF2)
        clear hP1 hg1 hG1 hF2
        go_upto_region 4 with (refine wpList_store_mid (by rfl) 74 _ _ (by rfl) g1 (m * 2) (cenc ⟨B0, cj⟩).toArray (by rfl) (by rfl) ht1 size72 (cenc_one _) ?_)
        have e1 : (cenc ⟨B0, cj⟩).toArray.toList = cenc ⟨B0, cj⟩ := rfl
        (try rw [e1])
        clear e1 ht1
        clear z0 z1 y0 y1 r0 r1 x5 q5 b0 b1 f0 f1 hF
        generalize (w10.setCells g1 (m * 2) (cenc ⟨B0, cj⟩)) = w20 at *
        go_wp2_with fail
        obtain ⟨hG1, hF2⟩ := HFIN.out
        go_roundw
        case rel => exact ⟨m, by omega, by go_num, hG1, hF2⟩
        case measure => simp [intOf] <;> omega
    · have ok2 : okP x y = false := by cases h : okP x y; rfl; exact absurd h ok1
      rw [ok2]
      by_cases c2t : R1 + sy < B0
      · skip
        have q2 : decide ((R1 : Int) + (sy : Int) < ((B0 : Nat) : Int)) = true := decide_eq_true (by omega)
        have hm := mI (fun h => absurd h ok1) (by omega)
        have hcell : Ce.mk (dst (x :: a) (y :: bt)) (match mv x a y bt with | .P => c1 | .X => cj | .I => rc) = ⟨R1 + sy, rc⟩ := by rw [hm.2, hm.1]
        have hset := HSET.out
        rw [hcell] at hset
        have HSET := Lib.hid hset
        clear hset hcell hm mP mPI mX mI hco hDj hD1 hR1 hrc hst hcv
        have hF := HF.out.call hbl
        obtain ⟨⟨z0, z1⟩, ⟨y0, y1⟩, ⟨r0, r1⟩⟩ := HCL.out _ hF
        have x5 := hF.part.c5
        have q5 := (HPM.out _ hF).c5
        rw [HNN.out.2.2.2.2.1] at q5
        have b0 := cell_of_h hC 0 _ rfl
        have b1 := cell_of_h hC 1 _ rfl
        have f0 := Lib.frozen_of_heap hC 0
        have f1 := Lib.frozen_of_heap hC 1
        have kz0 := cell_regrown z0
        have kz1 := cell_regrown z1
        have ky0 := cell_regrown y0
        have ky1 := cell_regrown y1
        have kr0 := cell_regrown r0
        have kr1 := cell_regrown r1
        have kx5 := cell_regrown x5
        have kq5 := cell_regrown q5
        have kb0 := cell_regrown b0
        have kb1 := cell_regrown b1
        refine wp_region_quiet_below (by kernel_rfl) (by kernel_rfl) ?_
        repeat (go_big_quiet_step (fail))
        refine wpQuiet_nil ?_
        intro _ hw'
        obtain ⟨⟨dq, osq⟩, hw''⟩ := hw'
        subst hw''
        have hb := below_regrown w6 dq osq
        generalize grow (redrawn w6 dq) osq = w7 at *
        clear kz0 kz1 ky0 ky1 kr0 kr1 kx5 kq5 kb0 kb1 
        clear z0 z1 y0 y1 r0 r1 x5 q5 b0 b1 f0 f1 hF
        replace hbl := BelowOn hbl hb
        replace hC := keep_heap hC hb
        clear hb
        go_upto_region 9 with fail
        have hF := HF.out.call hbl
        obtain ⟨⟨z0, z1⟩, ⟨y0, y1⟩, ⟨r0, r1⟩⟩ := HCL.out _ hF
        have x5 := hF.part.c5
        have q5 := (HPM.out _ hF).c5
        rw [HNN.out.2.2.2.2.1] at q5
        have b0 := cell_of_h hC 0 _ rfl
        have b1 := cell_of_h hC 1 _ rfl
        have f0 := Lib.frozen_of_heap hC 0
        have f1 := Lib.frozen_of_heap hC 1
        have kz0 := cell_regrown z0
        have kz1 := cell_regrown z1
        have ky0 := cell_regrown y0
        have ky1 := cell_regrown y1
        have kr0 := cell_regrown r0
        have kr1 := cell_regrown r1
        have kx5 := cell_regrown x5
        have kq5 := cell_regrown q5
        have kb0 := cell_regrown b0
        have kb1 := cell_regrown b1
        refine wp_region_quiet_below (by kernel_rfl) (by kernel_rfl) ?_
        repeat (go_big_quiet_step (fail))
        refine wpQuiet_nil ?_
        intro _ hw'
        obtain ⟨⟨dq, osq⟩, hw''⟩ := hw'
        subst hw''
        have hb := below_regrown w7 dq osq
        generalize grow (redrawn w7 dq) osq = w10 at *
        clear kz0 kz1 ky0 ky1 kr0 kr1 kx5 kq5 kb0 kb1 
        clear z0 z1 y0 y1 r0 r1 x5 q5 b0 b1 f0 f1 hF
        replace hbl := BelowOn hbl hb
        replace hC := keep_heap hC hb
        clear hb
        go_upto_region 10 with fail
        have hF := HF.out.call hbl
        obtain ⟨⟨z0, z1⟩, ⟨y0, y1⟩, ⟨r0, r1⟩⟩ := HCL.out _ hF
        have x5 := hF.part.c5
        have q5 := (HPM.out _ hF).c5
        rw [HNN.out.2.2.2.2.1] at q5
        have b0 := cell_of_h hC 0 _ rfl
        have b1 := cell_of_h hC 1 _ rfl
        have f0 := Lib.frozen_of_heap hC 0
        have f1 := Lib.frozen_of_heap hC 1
        have kz0 := cell_regrown z0
        have kz1 := cell_regrown z1
        have ky0 := cell_regrown y0
        have ky1 := cell_regrown y1
        have kr0 := cell_regrown r0
        have kr1 := cell_regrown r1
        have kx5 := cell_regrown x5
        have kq5 := cell_regrown q5
        have kb0 := cell_regrown b0
        have kb1 := cell_regrown b1
        have e1 := fun d os => Calls.regrown_of (HA10.out (grow (redrawn w10 d) os))
        refine wp_region_quiet_tail 11 (by kernel_rfl) (by kernel_rfl) ?_
        simp only [List.take_succ_cons, List.take_zero, List.drop_succ_cons, List.drop_zero]
        repeat (go_big_quiet_step (exact e1 _ _))
        refine wpQuiet_nil ?_
        intro _ hw'
        obtain ⟨⟨dq, osq⟩, hw''⟩ := hw'
        subst hw''
        have hb := below_regrown w10 dq osq
        generalize grow (redrawn w10 dq) osq = w11 at *
        clear kz0 kz1 ky0 ky1 kr0 kr1 kx5 kq5 kb0 kb1 e1
        clear z0 z1 y0 y1 r0 r1 x5 q5 b0 b1 f0 f1 hF
        replace hbl := BelowOn hbl hb
        replace hC := keep_heap hC hb
        clear hb
        have hF := HF.out.call hbl
        obtain ⟨⟨z0, z1⟩, ⟨y0, y1⟩, ⟨r0, r1⟩⟩ := HCL.out _ hF
        have x5 := hF.part.c5
        have q5 := (HPM.out _ hF).c5
        rw [HNN.out.2.2.2.2.1] at q5
        have b0 := cell_of_h hC 0 _ rfl
        have b1 := cell_of_h hC 1 _ rfl
        have f0 := Lib.frozen_of_heap hC 0
        have f1 := Lib.frozen_of_heap hC 1
        generalize hB2 : R1 + sy = B2 at *
        have s1 := setCell_at _ gb 1 _ 74 (.int .i64 (rc : Nat)) (setCell_at w11 gb 0 _ 74 (.int .i64 ((B2 : Nat) : Int)) hC)
        have hs1 : ((w11.setCell ⟨gb, 0, none⟩ (.int .i64 ((B2 : Nat) : Int))).setCell ⟨gb, 1, none⟩ (.int .i64 (rc : Nat))).heap[gb]? = some (.cells #[.int .i64 ((B2 : Nat) : Int), .int .i64 (rc : Nat)] 74 (0, 0)) := s1
        have hbl2 : Below wr.heap.size wr ((w11.setCell ⟨gb, 0, none⟩ (.int .i64 ((B2 : Nat) : Int))).setCell ⟨gb, 1, none⟩ (.int .i64 (rc : Nat))) := (hbl.setCell (p := ⟨gb, 0, none⟩) g0 _).setCell (p := ⟨gb, 1, none⟩) g0 _
        clear s1
        have HW := Lib.hid (And.intro hs1 hbl2)
        clear hs1 hbl2
        go_upto_region 11 with fail
        clear z0 z1 y0 y1 r0 r1 x5 q5 b0 b1 f0 f1 hF
        obtain ⟨hs1, hbl2⟩ := HW.out
        generalize ((w11.setCell ⟨gb, 0, none⟩ (.int .i64 ((B2 : Nat) : Int))).setCell ⟨gb, 1, none⟩ (.int .i64 (rc : Nat))) = w12 at *
        clear HW hC hbl
        have hC := hs1; have hbl := hbl2; clear hs1 hbl2
        have hF := HF.out.call hbl
        obtain ⟨⟨z0, z1⟩, ⟨y0, y1⟩, ⟨r0, r1⟩⟩ := HCL.out _ hF
        have x5 := hF.part.c5
        have q5 := (HPM.out _ hF).c5
        rw [HNN.out.2.2.2.2.1] at q5
        have b0 := cell_of_h hC 0 _ rfl
        have b1 := cell_of_h hC 1 _ rfl
        have f0 := Lib.frozen_of_heap hC 0
        have f1 := Lib.frozen_of_heap hC 1
        have ht1 := HTH.out _ hF.row
        have hP1 := HSET.out _ hF.row
        have hg1 := setCells_grown (cenc ⟨B2, rc⟩) w12 g1 (m * 2)
        have hG1 := grow_then (grow_then HG.out (growOf hbl g1)) hg1
        have hF2 := hF.set hg1 hP1
        have HFIN := Lib.hid (And.intro hG1 hF2)
        clear hP1 hg1 hG1 hF2
        go_upto_region 4 with (refine wpList_store_mid (by rfl) 74 _ _ (by rfl) g1 (m * 2) (cenc ⟨B2, rc⟩).toArray (by rfl) (by rfl) ht1 size72 (cenc_one _) ?_)
        have e1 : (cenc ⟨B2, rc⟩).toArray.toList = cenc ⟨B2, rc⟩ := rfl
        (try rw [e1])
        clear e1 ht1
        clear z0 z1 y0 y1 r0 r1 x5 q5 b0 b1 f0 f1 hF
        generalize (w12.setCells g1 (m * 2) (cenc ⟨B2, rc⟩)) = w20 at *
        go_wp2_with fail
        obtain ⟨hG1, hF2⟩ := HFIN.out
        go_roundw
        case rel => exact ⟨m, by omega, by go_num, hG1, hF2⟩
        case measure => simp [intOf] <;> omega
      · skip
        have q2 : decide ((R1 : Int) + (sy : Int) < ((B0 : Nat) : Int)) = false := decide_eq_false (by omega)
        have hm := mX (fun h => absurd h ok1) (by omega)
        have hcell : Ce.mk (dst (x :: a) (y :: bt)) (match mv x a y bt with | .P => c1 | .X => cj | .I => rc) = ⟨B0, cj⟩ := by rw [hm.2, hm.1]
        have hset := HSET.out
        rw [hcell] at hset
        have HSET := Lib.hid hset
        clear hset hcell hm mP mPI mX mI hco hDj hD1 hR1 hrc hst hcv
        have hF := HF.out.call hbl
        obtain ⟨⟨z0, z1⟩, ⟨y0, y1⟩, ⟨r0, r1⟩⟩ := HCL.out _ hF
        have x5 := hF.part.c5
        have q5 := (HPM.out _ hF).c5
        rw [HNN.out.2.2.2.2.1] at q5
        have b0 := cell_of_h hC 0 _ rfl
        have b1 := cell_of_h hC 1 _ rfl
        have f0 := Lib.frozen_of_heap hC 0
        have f1 := Lib.frozen_of_heap hC 1
        have kz0 := cell_regrown z0
        have kz1 := cell_regrown z1
        have ky0 := cell_regrown y0
        have ky1 := cell_regrown y1
        have kr0 := cell_regrown r0
        have kr1 := cell_regrown r1
        have kx5 := cell_regrown x5
        have kq5 := cell_regrown q5
        have kb0 := cell_regrown b0
        have kb1 := cell_regrown b1
        refine wp_region_quiet_below (by kernel_rfl) (by kernel_rfl) ?_
        repeat (go_big_quiet_step (fail))
        refine wpQuiet_nil ?_
        intro _ hw'
        obtain ⟨⟨dq, osq⟩, hw''⟩ := hw'
        subst hw''
        have hb := below_regrown w6 dq osq
        generalize grow (redrawn w6 dq) osq = w7 at *
        clear kz0 kz1 ky0 ky1 kr0 kr1 kx5 kq5 kb0 kb1 
        clear z0 z1 y0 y1 r0 r1 x5 q5 b0 b1 f0 f1 hF
        replace hbl := BelowOn hbl hb
        replace hC := keep_heap hC hb
        clear hb
        go_upto_region 9 with fail
        have hF := HF.out.call hbl
        obtain ⟨⟨z0, z1⟩, ⟨y0, y1⟩, ⟨r0, r1⟩⟩ := HCL.out _ hF
        have x5 := hF.part.c5
        have q5 := (HPM.out _ hF).c5
        rw [HNN.out.2.2.2.2.1] at q5
        have b0 := cell_of_h hC 0 _ rfl
        have b1 := cell_of_h hC 1 _ rfl
        have f0 := Lib.frozen_of_heap hC 0
        have f1 := Lib.frozen_of_heap hC 1
        have kz0 := cell_regrown z0
        have kz1 := cell_regrown z1
        have ky0 := cell_regrown y0
        have ky1 := cell_regrown y1
        have kr0 := cell_regrown r0
        have kr1 := cell_regrown r1
        have kx5 := cell_regrown x5
        have kq5 := cell_regrown q5
        have kb0 := cell_regrown b0
        have kb1 := cell_regrown b1
        refine wp_region_quiet_below (by kernel_rfl) (by kernel_rfl) ?_
        repeat (go_big_quiet_step (fail))
        refine wpQuiet_nil ?_
        intro _ hw'
        obtain ⟨⟨dq, osq⟩, hw''⟩ := hw'
        subst hw''
        have hb := below_regrown w7 dq osq
        generalize grow (redrawn w7 dq) osq = w10 at *
        clear kz0 kz1 ky0 ky1 kr0 kr1 kx5 kq5 kb0 kb1 
        clear z0 z1 y0 y1 r0 r1 x5 q5 b0 b1 f0 f1 hF
        replace hbl := BelowOn hbl hb
        replace hC := keep_heap hC hb
        clear hb
        go_upto_region 11 with fail
        have hF := HF.out.call hbl
        obtain ⟨⟨z0, z1⟩, ⟨y0, y1⟩, ⟨r0, r1⟩⟩ := HCL.out _ hF
        have x5 := hF.part.c5
        have q5 := (HPM.out _ hF).c5
        rw [HNN.out.2.2.2.2.1] at q5
        have b0 := cell_of_h hC 0 _ rfl
        have b1 := cell_of_h hC 1 _ rfl
        have f0 := Lib.frozen_of_heap hC 0
        have f1 := Lib.frozen_of_heap hC 1
        have ht1 := HTH.out _ hF.row
        have hP1 := HSET.out _ hF.row
        have hg1 := setCells_grown (cenc ⟨B0, cj⟩) w10 g1 (m * 2)
        have hG1 := grow_then (grow_then HG.out (growOf hbl g1)) hg1
        have hF2 := hF.set hg1 hP1
        have HFIN := Lib.hid (And.intro hG1 hF2)
        clear hP1 hg1 hG1 hF2
        go_upto_region 4 with (refine wpList_store_mid (by rfl) 74 _ _ (by rfl) g1 (m * 2) (cenc ⟨B0, cj⟩).toArray (by rfl) (by rfl) ht1 size72 (cenc_one _) ?_)
        have e1 : (cenc ⟨B0, cj⟩).toArray.toList = cenc ⟨B0, cj⟩ := rfl
        (try rw [e1])
        clear e1 ht1
        clear z0 z1 y0 y1 r0 r1 x5 q5 b0 b1 f0 f1 hF
        generalize (w10.setCells g1 (m * 2) (cenc ⟨B0, cj⟩)) = w20 at *
        go_wp2_with fail
        obtain ⟨hG1, hF2⟩ := HFIN.out
        go_roundw
        case rel => exact ⟨m, by omega, by go_num, hG1, hF2⟩
        case measure => simp [intOf] <;> omega
end Go.Proofs.Ytpkipdiecnokhaa
namespace Go.Proofs.Ytpkipdiecnokhaa
open Go.ChangeShapes Go.WideShapes Go.ChangeAt Go.RowKit Go.Sort
set_option linter.unusedVariables false
set_option linter.unusedSimpArgs false
set_option maxRecDepth 100000

def ShareQ2 (A : Nat → Nat → Act) (F : Nat → Nat → World → Prop) (e : Exit) (a : Act) (w : World) : Prop :=
  match e with
  | .normal => ∃ g h, a = A g h ∧ F g h w
  | _ => False
theorem wp_share2 {P : Program} {c : Code} {Q : Exit → Act → World → Prop} {a : Act} {w : World} (F : Nat → Nat → World → Prop) (h : ∃ A : Nat → Nat → Act, c.wp P (ShareQ2 A F) a w ∧ ∀ g h w', F g h w' → Q .normal (A g h) w') : c.wp P Q a w := by
  obtain ⟨A, h1, h2⟩ := h
  refine Code.wp_mono (fun e a' w' h => ?_) h1
  cases e with
  | normal => obtain ⟨g, h, rfl, hF⟩ := h; exact h2 g h w' hF
  | _ => exact h.elim
theorem infoC : (Try.prog.info? 74).map (fun i => (i.zero, i.size, i.bytes)) = some (some (.agg #[.int .i64 0, .int .i64 0]), 2, 16) := by kernel_rfl
theorem make_cells (w : World) (n : Nat) (hn : n ≤ 1000000) : ∃ cs, (Instr.makeSlice 96 (.int .i64 ((n : Int) + 1)) (.int .i64 ((n : Int) + 1))).run Try.prog w = .ok (.slice (some ⟨w.heap.size, 0, none⟩) (n + 1) (n + 1)) (w.alloc (.cells cs 74)) ∧ RowC w.heap.size (List.replicate (n + 1) ⟨0, 0⟩) (w.alloc (.cells cs 74)) := by
  cases hi : Try.prog.info? 74 with
  | none => have := infoC; rw [hi] at this; cases this
  | some i =>
    have h4 := infoC
    rw [hi] at h4
    simp only [Option.map_some, Option.some.injEq, Prod.mk.injEq] at h4
    obtain ⟨hz, hs, hb⟩ := h4
    have := run_make (P := Try.prog) w 96 74 i _ Try.underlying96 hi hz .i64 .i64 ((n : Int) + 1) ((n : Int) + 1) (by omega) (by omega) (by rw [hb]; omega) (by omega)
    refine ⟨madeCells #[.int .i64 0, .int .i64 0] ((n + 1) * 2), ?_, RowG.made cenc_len w (n + 1) ⟨0, 0⟩ _ rfl⟩
    rw [this, hs, show ((n : Int) + 1).toNat = n + 1 by omega]; rfl
theorem mix_lo {α : Type} (A B : List α) (k : Nat) (hk : k < A.length) (hl : A.length = B.length) : (A.take (k + 1) ++ B.drop (k + 1))[k]'(by rw [mix_len A B (k + 1) (by omega) hl]; exact hk) = A[k]'hk := by
  rw [List.getElem_append_left (by simp; omega)]; simp
def cfF (mid : Nat) (a b : List It) (k j : Nat) : Nat := if k < mid then j + crs (mid - k) (a.drop k) (b.drop j) else 0
def cfG (mid : Nat) (a b : List It) (k j : Nat) : Nat := if k ≤ mid then j + crs (mid - k) (a.drop k) (b.drop j) else 0
theorem rowT_congr (n : Nat) (f g : Nat → Ce) (h : ∀ j, j ≤ n → f j = g j) : rowT n f = rowT n g := by
  unfold rowT
  refine List.map_congr_left fun j hj => h j ?_
  have := List.mem_range.1 hj; omega
theorem row_up (mid : Nat) (a b : List It) (m : Nat) (hm : m < a.length) (n : Nat) : rowT n (cellR a[m] (a.drop (m + 1)) b (cfG mid a b (m + 1))) = rowT n (cellB (a.drop m) b (cfF mid a b m)) := by
  refine rowT_congr n _ _ fun j _ => ?_
  have hd : a.drop m = a[m] :: a.drop (m + 1) := List.drop_eq_getElem_cons hm
  unfold cellR cellB cfF
  rw [hd]
  congr 1
  by_cases h : m < mid
  · rw [if_pos h]
    have e : cfG mid a b (m + 1) = fun j => j + crs (mid - (m + 1)) (a.drop (m + 1)) (b.drop j) := by funext j; exact if_pos h
    rw [e, rowK_crs _ _ _ _ _ _ rfl, show mid - (m + 1) + 1 = mid - m by omega]
  · rw [if_neg h]
    exact rowK_zero _ _ _ (fun j => if_neg (by omega)) _ _
theorem row_begin (mid : Nat) (a b : List It) (n : Nat) : begL 0 (rowT n (cellB (a.drop mid) b (cfF mid a b mid))) = rowT n (cellB (a.drop mid) b (cfG mid a b mid)) := by
  apply List.ext_getElem
  · rw [begL_len, rowT_len, rowT_len]
  · intro j h1 h2
    rw [rowT_len] at h2
    rw [begL_at _ _ _ (by rw [rowT_len]; exact h2)]
    rw [rowT_at _ _ _ h2, rowT_at _ _ _ h2]
    unfold cellB cfG
    rw [if_pos (Nat.le_refl _), Nat.sub_self, Nat.zero_add]; rfl
theorem row_same (mid : Nat) (a b : List It) (k : Nat) (hk : k ≠ mid) : cfF mid a b k = cfG mid a b k := by
  funext j; unfold cfF cfG
  by_cases h : k < mid
  · rw [if_pos h, if_pos (by omega)]
  · rw [if_neg h, if_neg (by omega)]
/-- What firstCell works on. -/
structure FC (base gr gb : Nat) (pa pb : Option Addr) (a b : List It) (ia ib : Nat) (L M : List Ce) (W : World) : Prop where
  row : RowC gr L W
  below : RowC gb M W
  qa : Pas W pa (parts ia a)
  qb : Pas W pb (parts ib b)
  ne : gr ≠ gb
  lr : base ≤ gr
  lb : base ≤ gb
  ba : 0 < a.length → ∀ x, pa = some x → x.block < base
  bb : 0 < b.length → ∀ x, pb = some x → x.block < base
section
variable {base gr gb : Nat} {pa pb : Option Addr} {a b : List It} {ia ib : Nat} {L M L' : List Ce} {W W' : World}
theorem FC.call (h : FC base gr gb pa pb a b ia ib L M W) (hb : Below W.heap.size W W') : FC base gr gb pa pb a b ia ib L M W' :=
  ⟨h.row.call hb, h.below.call hb, h.qa.call hb, h.qb.call hb, h.ne, h.lr, h.lb, h.ba, h.bb⟩
theorem FC.set (h : FC base gr gb pa pb a b ia ib L M W) (hg : W.grownBy W' (some gr)) (hr : RowC gr L' W') : FC base gr gb pa pb a b ia ib L' M W' :=
  ⟨hr, h.below.other hg (fun e => h.ne (by injection e with e; exact e.symm)), fun h0 => h.qa.other hg (fun x hx => by have := h.ba (by rw [parts_len] at h0; exact h0) x hx; have := h.lr; omega) h0,
   fun h0 => h.qb.other hg (fun x hx => by have := h.bb (by rw [parts_len] at h0; exact h0) x hx; have := h.lr; omega) h0, h.ne, h.lr, h.lb, h.ba, h.bb⟩
theorem FC.swap (h : FC base gr gb pa pb a b ia ib L M W) : FC base gb gr pa pb a b ia ib M L W := ⟨h.below, h.row, h.qa, h.qb, h.ne.symm, h.lb, h.lr, h.ba, h.bb⟩
end
theorem Rw.blk {w : World} {p : Option Addr} {l : List Pa} (h : Pas w p l) (h0 : 0 < l.length) : ∀ x, p = some x → x.block < w.heap.size := fun x hx => by
  obtain ⟨b, o, e, hl, _⟩ := h h0
  rw [hx] at e; injection e with e; rw [e]; exact hl

set_option maxHeartbeats 12800000 in
theorem firstcell_any (a b : List It) (ia ib : Nat) (pa pb : Option Addr) (ca cb mid : Nat) (w : World) (ha : Pas w pa (parts ia a)) (hb : Pas w pb (parts ib b)) (hca : a.length ≤ ca) (hcb : b.length ≤ cb) (hma : ca ≤ maxLen) (hmb : cb ≤ maxLen) (la : a.length ≤ 100000) (lb : b.length ≤ 100000) (hmid : mid ≤ a.length) :
    Calls Try.prog 53 #[.slice pa a.length ca, .slice pb b.length cb, .int .i64 (mid : Int)] w fun e w' => e = .returned (.agg #[.int .i64 (dst a b), .int .i64 (crs mid a b)]) ∧ Below w.heap.size w w' := by
  unfold maxLen at hma hmb
  have hmk := fun W => make_cells W b.length (by omega)
  have HMK := Lib.hid hmk; clear hmk
  have hz1 : Below w.heap.size w (w.alloc (.cells #[.int .i64 0, .int .i64 0] 74)) := blw (Below.refl _ _) _
  have hres := heap_alloc_new w (.cells #[.int .i64 0, .int .i64 0] 74)
  have ha1 := ha.call ((Below.refl _ _).alloc (Nat.le_refl _) (.cells #[.int .i64 0, .int .i64 0] 74))
  have hb1 := hb.call ((Below.refl _ _).alloc (Nat.le_refl _) (.cells #[.int .i64 0, .int .i64 0] 74))
  have hs1 : (w.alloc (.cells #[.int .i64 0, .int .i64 0] 74)).heap.size = w.heap.size + 1 := by simp
  have ba := fun h0 : 0 < a.length => Rw.blk ha (by rw [parts_len]; exact h0)
  have bb := fun h0 : 0 < b.length => Rw.blk hb (by rw [parts_len]; exact h0)
  go_enter Try.func53, Try.ntmps53
  go_wp2_with fail
  generalize (w.alloc (.cells #[.int .i64 0, .int .i64 0] 74)) = w1 at *
  have hwr : IntKind.i64.wrap ((b.length : Int) + 1) = (b.length : Int) + 1 := IntWalk.i64_in _ ⟨by omega, by omega⟩
  have HS1 := Lib.hid hs1; clear hs1
  refine wp_share2 (fun gP gQ W' => Below w1.heap.size w1 W' ∧ w1.heap.size ≤ gP ∧ w1.heap.size ≤ gQ ∧ gP ≠ gQ ∧ RowC gP (List.replicate (b.length + 1) ⟨0, 0⟩) W' ∧ RowC gQ (List.replicate (b.length + 1) ⟨0, 0⟩) W') ⟨_, ⟨(by
    refine wp_region_held_drew (S := fun _ => True) (by kernel_rfl) trivial (fun hHeld => ?_)
    have hB := drew_below w1
    generalize w1.drew = v0 at *
    refine wpAnyH_take (i := 0) (v := ?_) rfl (by kernel_rfl) (by kernel_rfl) (by kernel_rfl) (fun _ _ _ h => h) (Or.inl ⟨by rfl, ?_⟩) hHeld ?_
    rotate_left
    · (intro w hSw; go_simp; try with_reducible rfl)
    try simp only [Act.put, List.getElem_toArray, List.getElem_cons_zero, List.getElem_cons_succ, List.setIfInBounds_toArray, List.set_cons_zero, List.set_cons_succ]
    refine wpAnyH_take (i := 1) (v := ?_) rfl (by kernel_rfl) (by kernel_rfl) (by kernel_rfl) (fun _ _ _ h => h) (Or.inl ⟨by rfl, ?_⟩) hHeld ?_
    rotate_left
    · (intro w hSw; go_simp; try with_reducible rfl)
    try simp only [Act.put, List.getElem_toArray, List.getElem_cons_zero, List.getElem_cons_succ, List.setIfInBounds_toArray, List.set_cons_zero, List.set_cons_succ]
    refine wpAnyH_take (i := 2) (v := ?_) rfl (by kernel_rfl) (by kernel_rfl) (by kernel_rfl) (fun _ _ _ h => h) (Or.inl ⟨by rfl, ?_⟩) hHeld ?_
    rotate_left
    · (intro w hSw; go_simp; try with_reducible rfl)
    try simp only [Act.put, List.getElem_toArray, List.getElem_cons_zero, List.getElem_cons_succ, List.setIfInBounds_toArray, List.set_cons_zero, List.set_cons_succ]
    refine wpAnyH_take (i := 4) (v := ?_) rfl (by kernel_rfl) (by kernel_rfl) (by kernel_rfl) (fun _ _ _ h => h) (Or.inl ⟨by rfl, ?_⟩) hHeld ?_
    rotate_left
    · (intro w hSw; go_simp; try with_reducible rfl)
    try simp only [Act.put, List.getElem_toArray, List.getElem_cons_zero, List.getElem_cons_succ, List.setIfInBounds_toArray, List.set_cons_zero, List.set_cons_succ]
    refine wpAnyH_take (i := 5) (v := ?_) rfl (by kernel_rfl) (by kernel_rfl) (by kernel_rfl) (fun _ _ _ h => h) (Or.inl ⟨by rfl, ?_⟩) hHeld ?_
    rotate_left
    · (intro w hSw; go_simp; try with_reducible rfl)
    try simp only [Act.put, List.getElem_toArray, List.getElem_cons_zero, List.getElem_cons_succ, List.setIfInBounds_toArray, List.set_cons_zero, List.set_cons_succ]
    refine wpAnyH_take (i := 6) (v := ?_) rfl (by kernel_rfl) (by kernel_rfl) (by kernel_rfl) (fun _ _ _ h => h) (Or.inl ⟨by rfl, ?_⟩) hHeld ?_
    rotate_left
    · (intro w hSw; go_simp; try with_reducible rfl)
    try simp only [Act.put, List.getElem_toArray, List.getElem_cons_zero, List.getElem_cons_succ, List.setIfInBounds_toArray, List.set_cons_zero, List.set_cons_succ]
    refine wpAnyH_ready (rs := [3, 7]) (by kernel_rfl) (by simp) ?_
    refine AllReadyH.cons rfl (fun K hK => ?_) (AllReadyH.cons rfl (fun K hK => ?_) AllReadyH.nil)
    · skip
      obtain ⟨csP, hmkP, hRP⟩ := HMK.out v0
      have hb := (Below.refl v0.heap.size v0).alloc (Nat.le_refl _) (.cells csP 74)
      have geP : w1.heap.size ≤ v0.heap.size := hB.size
      replace hB := BelowOn hB hb
      go_simp
      refine hK.out _ _ trivial (fun hHeld => ?_)
      clear hK K hmkP
      try simp only [Act.put, List.getElem_toArray, List.getElem_cons_zero, List.getElem_cons_succ, List.setIfInBounds_toArray, List.set_cons_zero, List.set_cons_succ]
      clear hb
      generalize v0.alloc (.cells csP 74) = u1 at *
      generalize v0.heap.size = gP at *
      refine wpAnyH_take (i := 8) (v := ?_) rfl (by kernel_rfl) (by kernel_rfl) (by kernel_rfl) (fun _ _ _ h => h) (Or.inl ⟨by rfl, ?_⟩) hHeld ?_
      rotate_left
      · (intro w hSw; go_simp; try with_reducible rfl)
      try simp only [Act.put, List.getElem_toArray, List.getElem_cons_zero, List.getElem_cons_succ, List.setIfInBounds_toArray, List.set_cons_zero, List.set_cons_succ]
      refine wpAnyH_ready (rs := [7]) (by kernel_rfl) (by simp) ?_
      refine AllReadyH.cons rfl (fun K hK => ?_) AllReadyH.nil
      obtain ⟨csQ, hmkQ, hRQ⟩ := HMK.out u1
      have hb := (Below.refl u1.heap.size u1).alloc (Nat.le_refl _) (.cells csQ 74)
      have geQ : w1.heap.size ≤ u1.heap.size := hB.size
      replace hB := BelowOn hB hb
      go_simp
      refine hK.out _ _ trivial (fun hHeld => ?_)
      clear hK K hmkQ
      try simp only [Act.put, List.getElem_toArray, List.getElem_cons_zero, List.getElem_cons_succ, List.setIfInBounds_toArray, List.set_cons_zero, List.set_cons_succ]
      have ne : gP ≠ u1.heap.size := Nat.ne_of_lt hRP.lt
      replace hRP := hRP.call hb
      clear hb
      generalize u1.alloc (.cells csQ 74) = u2 at *
      generalize u1.heap.size = gQ at *
      refine wpAnyH_take (i := 9) (v := ?_) rfl (by kernel_rfl) (by kernel_rfl) (by kernel_rfl) (fun _ _ _ h => h) (Or.inl ⟨by rfl, ?_⟩) hHeld ?_
      rotate_left
      · (intro w hSw; go_simp; try with_reducible rfl)
      try simp only [Act.put, List.getElem_toArray, List.getElem_cons_zero, List.getElem_cons_succ, List.setIfInBounds_toArray, List.set_cons_zero, List.set_cons_succ]
      refine wpAnyH_done (by kernel_rfl) ?_ _
      exact ⟨gP, gQ, rfl, hB, geP, geQ, ne, hRP, hRQ⟩
    · skip
      obtain ⟨csQ, hmkQ, hRQ⟩ := HMK.out v0
      have hb := (Below.refl v0.heap.size v0).alloc (Nat.le_refl _) (.cells csQ 74)
      have geQ : w1.heap.size ≤ v0.heap.size := hB.size
      replace hB := BelowOn hB hb
      go_simp
      refine hK.out _ _ trivial (fun hHeld => ?_)
      clear hK K hmkQ
      try simp only [Act.put, List.getElem_toArray, List.getElem_cons_zero, List.getElem_cons_succ, List.setIfInBounds_toArray, List.set_cons_zero, List.set_cons_succ]
      clear hb
      generalize v0.alloc (.cells csQ 74) = u1 at *
      generalize v0.heap.size = gQ at *
      refine wpAnyH_ready (rs := [3]) (by kernel_rfl) (by simp) ?_
      refine AllReadyH.cons rfl (fun K hK => ?_) AllReadyH.nil
      obtain ⟨csP, hmkP, hRP⟩ := HMK.out u1
      have hb := (Below.refl u1.heap.size u1).alloc (Nat.le_refl _) (.cells csP 74)
      have geP : w1.heap.size ≤ u1.heap.size := hB.size
      replace hB := BelowOn hB hb
      go_simp
      refine hK.out _ _ trivial (fun hHeld => ?_)
      clear hK K hmkP
      try simp only [Act.put, List.getElem_toArray, List.getElem_cons_zero, List.getElem_cons_succ, List.setIfInBounds_toArray, List.set_cons_zero, List.set_cons_succ]
      have ne : gQ ≠ u1.heap.size := Nat.ne_of_lt hRQ.lt
      replace hRQ := hRQ.call hb
      clear hb
      generalize u1.alloc (.cells csP 74) = u2 at *
      generalize u1.heap.size = gP at *
      refine wpAnyH_take (i := 8) (v := ?_) rfl (by kernel_rfl) (by kernel_rfl) (by kernel_rfl) (fun _ _ _ h => h) (Or.inl ⟨by rfl, ?_⟩) hHeld ?_
      rotate_left
      · (intro w hSw; go_simp; try with_reducible rfl)
      try simp only [Act.put, List.getElem_toArray, List.getElem_cons_zero, List.getElem_cons_succ, List.setIfInBounds_toArray, List.set_cons_zero, List.set_cons_succ]
      refine wpAnyH_take (i := 9) (v := ?_) rfl (by kernel_rfl) (by kernel_rfl) (by kernel_rfl) (fun _ _ _ h => h) (Or.inl ⟨by rfl, ?_⟩) hHeld ?_
      rotate_left
      · (intro w hSw; go_simp; try with_reducible rfl)
      try simp only [Act.put, List.getElem_toArray, List.getElem_cons_zero, List.getElem_cons_succ, List.setIfInBounds_toArray, List.set_cons_zero, List.set_cons_succ]
      refine wpAnyH_done (by kernel_rfl) ?_ _
      exact ⟨gP, gQ, rfl, hB, geP, geQ, ne.symm, hRP, hRQ⟩), ?_⟩⟩
  rintro g1 g2 w2 ⟨hB, ge1, ge2, hne, hR1, hR2⟩
  have hT := rowT_len b.length (cellB [] b (cfF mid a b a.length))
  have hzero : ∀ j, cfF mid a b a.length j = 0 := fun j => if_neg (by omega)
  have hlast : cellB [] b (cfF mid a b a.length) b.length = ⟨0, 0⟩ := by unfold cellB; rw [hzero, List.drop_length]; rfl
  have hF0 : FC w1.heap.size g1 g2 pa pb a b ia ib ((List.replicate (b.length + 1) ⟨0, 0⟩ : List Ce).take b.length ++ (rowT b.length (cellB [] b (cfF mid a b a.length))).drop b.length) (List.replicate (b.length + 1) ⟨0, 0⟩) w2 := by
    refine ⟨?_, hR2, ha1.call hB, hb1.call hB, hne, ge1, ge2, fun h x hx => by have := ba h x hx; have := HS1.out; omega, fun h x hx => by have := bb h x hx; have := HS1.out; omega⟩
    have e : (List.replicate (b.length + 1) (⟨0, 0⟩ : Ce)).take b.length ++ (rowT b.length (cellB [] b (cfF mid a b a.length))).drop b.length = List.replicate (b.length + 1) ⟨0, 0⟩ := by
      have := mix_prev (List.replicate (b.length + 1) (⟨0, 0⟩ : Ce)) (rowT b.length (cellB [] b (cfF mid a b a.length))) b.length (by simp) (by simp [hT])
      rw [rowT_at _ _ _ (by omega), hlast] at this
      rw [← this, List.take_of_length_le (by simp), List.drop_eq_nil_iff.2 (by omega), List.append_nil]
      apply List.ext_getElem
      · simp
      · intro i h1 h2; simp [List.getElem_set]
    rw [e]; exact hR1
  have HB0 := Lib.hid hB
  have HRES := Lib.hid (And.intro hz1 hres)
  clear hB hR1 hR2 ha1 hb1 hz1 hres hlast
  go_wp2_with fail
  go_loopw [9] (fun j wr => ∃ k : Nat, k ≤ b.length ∧ j = .int .i64 ((k : Int) - 1) ∧ Below w1.heap.size w1 wr ∧ FC w1.heap.size g1 g2 pa pb a b ia ib ((List.replicate (b.length + 1) ⟨0, 0⟩ : List Ce).take k ++ (rowT b.length (cellB [] b (cfF mid a b a.length))).drop k) (List.replicate (b.length + 1) ⟨0, 0⟩) wr) (fun j _ => (intOf j + 1).toNat)
  case atStart => exact ⟨b.length, Nat.le_refl _, rfl, HB0.out, hF0⟩
  case round =>
    obtain ⟨k, hk, rfl, hB, h0⟩ := hrel
    have h00 : k = 0 ∨ 0 < k := by omega
    rcases h00 with rfl | hpos
    · have em1 : ((0 : Nat) : Int) - 1 = -1 := rfl
      rw [em1]
      clear em1
      have q : decide ((0 : Int) ≤ -1) = false := by decide
      rw [List.take_zero, List.drop_zero, List.nil_append] at h0
      have HF0 := Lib.hid h0; have HB1 := Lib.hid hB
      clear hF0 h0 hB HB0
      go_wp2_with fail
      clear q hT hzero
      have hFe : FC w1.heap.size g1 g2 pa pb a b ia ib (rowT b.length (cellB (a.drop a.length) b (cfF mid a b a.length))) (List.replicate (b.length + 1) ⟨0, 0⟩) wr := by rw [List.drop_length]; exact HF0.out
      go_loopw [7, 8, 10] (fun r bl i wr => ∃ (k gr gb : Nat) (L : List Ce), k ≤ a.length ∧ r = .slice (some ⟨gr, 0, none⟩) (b.length + 1) (b.length + 1) ∧ bl = .slice (some ⟨gb, 0, none⟩) (b.length + 1) (b.length + 1) ∧ i = .int .i64 ((k : Int) - 1) ∧ Below w1.heap.size w1 wr ∧ L.length = b.length + 1 ∧ FC w1.heap.size gr gb pa pb a b ia ib (rowT b.length (cellB (a.drop k) b (cfF mid a b k))) L wr) (fun _ _ i _ => (intOf i + 1).toNat)
      case atStart => exact ⟨a.length, g1, g2, _, Nat.le_refl _, rfl, rfl, rfl, HB1.out, by simp, hFe⟩
      case round =>
        clear hFe HF0 HB1
        rename_i w3
        obtain ⟨k, gr, gb, L, hk, rfl, rfl, rfl, hB, hLl, h0⟩ := hrel
        have h00 : k = 0 ∨ 0 < k := by omega
        rcases h00 with rfl | hpos
        · have q : decide ((0 : Int) ≤ ((0 : Nat) : Int) - 1) = false := by decide
          have i1m : (0 : Int) < (b.length : Int) + 1 := by omega
          obtain ⟨c0, c1⟩ := RowC.cells h0.row 0 (by rw [rowT_len]; omega)
          rw [rowT_at _ _ _ (by omega)] at c0 c1
          have e0 : (cellB (a.drop 0) b (cfF mid a b 0) 0).p = dst a b := rfl
          have e1 : (cellB (a.drop 0) b (cfF mid a b 0) 0).c = crs mid a b := by
            show cfF mid a b 0 0 = _
            unfold cfF
            by_cases h : 0 < mid
            · rw [if_pos h]; simp
            · rw [if_neg h]; obtain rfl : mid = 0 := by omega
              rfl
          rw [e0] at c0; rw [e1] at c1
          obtain ⟨hz1, hres⟩ := HRES.out
          have hres2 := keep_heap hres hB
          have f0 := Lib.frozen_of_heap hres2 0; have f1 := Lib.frozen_of_heap hres2 1
          have z0 := cell_of_h hres2 0 _ rfl; have z1 := cell_of_h hres2 1 _ rfl
          generalize hDD : dst a b = D at *
          generalize hCC : crs mid a b = C at *
          have HDC := Lib.hid (And.intro hDD hCC)
          clear hDD hCC
          have s1 := setCell_at _ w.heap.size 1 _ 74 (.int .i64 (C : Nat)) (setCell_at wr w.heap.size 0 _ 74 (.int .i64 (D : Nat)) hres2)
          have hs1 : ((wr.setCell ⟨w.heap.size, 0, none⟩ (.int .i64 (D : Nat))).setCell ⟨w.heap.size, 1, none⟩ (.int .i64 (C : Nat))).heap[w.heap.size]? = some (.cells #[.int .i64 (D : Nat), .int .i64 (C : Nat)] 74 (0, 0)) := s1
          have hBr : Below w.heap.size w ((wr.setCell ⟨w.heap.size, 0, none⟩ (.int .i64 (D : Nat))).setCell ⟨w.heap.size, 1, none⟩ (.int .i64 (C : Nat))) := ((hz1.trans (hB.mono hz1.size)).setCell (p := ⟨w.heap.size, 0, none⟩) (Nat.le_refl _) _).setCell (p := ⟨w.heap.size, 1, none⟩) (Nat.le_refl _) _
          have y0 := cell_of_h hs1 0 _ rfl; have y1 := cell_of_h hs1 1 _ rfl
          have HY := Lib.hid (And.intro y0 (And.intro y1 hBr))
          clear y0 y1 hs1 s1 hBr e0 e1 h0
          go_wp2_with fail
          obtain ⟨y0, y1, hBr⟩ := HY.out
          refine bodyPost_ret (v := .agg #[.int .i64 (D : Nat), .int .i64 (C : Nat)]) (by simp [results, Try.results53, asAddr, Result.andThen, Act.put, go_sem, y0, y1]) rfl ⟨by rw [HDC.out.1, HDC.out.2], hBr⟩
        obtain ⟨m, rfl⟩ : ∃ m, k = m + 1 := ⟨k - 1, by omega⟩
        have hmm : (((m + 1 : Nat) : Int) - 1) = (m : Int) := by omega
        rw [hmm]
        clear hmm
        have hlt : m < a.length := hk
        obtain ⟨bp, op, rfl, hbp, hps⟩ := h0.qa (by rw [parts_len]; omega)
        have hbpl : bp < w.heap.size := ba (by omega) _ rfl
        have hbe := HS1.out
        have hq : ∀ W, Pas W (some ⟨bp, op, none⟩) (parts ia a) → PtA W ⟨bp, op + m * 7, none⟩ a[m] ((ia + m : Nat) : Int) := fun W h => by
          obtain ⟨bq, oq, e, hlq, hcq⟩ := h (by rw [parts_len]; omega)
          injection e with e; injection e with e1 e2 _; subst e1; subst e2
          have := hcq m (by rw [parts_len]; exact hlt)
          rw [parts_at a ia m hlt] at this
          exact PtA.of_range this hlq
        have hfill := fun W L' (h : FC w1.heap.size gb gr (some ⟨bp, op, none⟩) pb a b ia ib L' (rowT b.length (cellB (a.drop (m + 1)) b (cfG mid a b (m + 1)))) W) (hl : L'.length = b.length + 1) => fill_any gb gr a[m] ((ia + m : Nat) : Int) bp (op + m * 7) (a.drop (m + 1)) b ib (cfG mid a b (m + 1)) pb cb L' W
          ⟨h.row, h.below, hq W h.qa, h.qb, h.ne, by have := h.lr; omega, fun h0 x hx => by have := bb h0 x hx; have := h.lr; omega⟩ hl hcb (by unfold maxLen; omega) lb (by simp; omega)
        have hup := row_up mid a b m hlt b.length
        have HFILL := Lib.hid hfill; have HUP := Lib.hid hup
        clear hfill hup hq hps hbp
        have q : decide ((0 : Int) ≤ (m : Int)) = true := decide_eq_true (by omega)
        have i0m : (0 : Int) ≤ (m : Int) := by omega
        have i3m : (m : Int) < (a.length : Int) := by omega
        by_cases hmd : m + 1 = mid
        · have q1 : (((m : Int) + 1) == (mid : Int)) = true := by simp; omega
          have hbeg := begin_any gr (rowT b.length (cellB (a.drop (m + 1)) b (cfF mid a b (m + 1)))) wr h0.row (by rw [rowT_len]; omega)
          have hrb := row_begin mid a b b.length
          rw [← hmd] at hrb
          rw [hmd] at hrb
          have hrb2 : begL 0 (rowT b.length (cellB (a.drop (m + 1)) b (cfF mid a b (m + 1)))) = rowT b.length (cellB (a.drop (m + 1)) b (cfG mid a b (m + 1))) := by rw [hmd]; exact hrb
          rw [hrb2, rowT_len] at hbeg
          have HBEG := Lib.hid hbeg; have H0 := Lib.hid h0; have HB := Lib.hid hB
          clear hbeg hrb hrb2 h0 hB hmd
          go_wp2_with fail
          refine HBEG.out.mono ?_; rintro e w4 ⟨rfl, hg, hr⟩
          have h4 := (H0.out.set hg hr).swap
          have hB4 := below_of_grow HB.out hg HB.out.size H0.out.lr
          clear HBEG hr hg
          go_wp2_with fail
          refine (HFILL.out w4 L h4 hLl).mono ?_; rintro e w5 ⟨rfl, hg, hr⟩
          rw [HUP.out] at hr
          have h5 := h4.set hg hr
          have hB5 := below_of_grow hB4 hg hB4.size h4.lr
          clear hg hr h4 hB4 HFILL HUP H0 HB
          go_wp2_with fail
          go_roundw
          case rel => exact ⟨m, gb, gr, _, by omega, rfl, rfl, by go_num, hB5, by rw [rowT_len], h5⟩
          case measure => simp [intOf] <;> omega
        · have q1 : (((m : Int) + 1) == (mid : Int)) = false := by simp; omega
          rw [row_same mid a b (m + 1) hmd] at h0
          have H0 := Lib.hid h0.swap; have HB := Lib.hid hB
          clear h0 hB hmd
          go_wp2_with fail
          have h4 := H0.out
          have hB4 := HB.out
          refine (HFILL.out wr L h4 hLl).mono ?_; rintro e w5 ⟨rfl, hg, hr⟩
          rw [HUP.out] at hr
          have h5 := h4.set hg hr
          have hB5 := below_of_grow hB4 hg hB4.size h4.lr
          clear hg hr h4 hB4 HFILL HUP H0 HB
          go_wp2_with fail
          go_roundw
          case rel => exact ⟨m, gb, gr, _, by omega, rfl, rfl, by go_num, hB5, by rw [rowT_len], h5⟩
          case measure => simp [intOf] <;> omega
    obtain ⟨m, rfl⟩ : ∃ m, k = m + 1 := ⟨k - 1, by omega⟩
    have hmm : (((m + 1 : Nat) : Int) - 1) = (m : Int) := by omega
    rw [hmm]
    clear hmm
    have hlt : m < b.length := hk
    obtain ⟨bp, op, rfl, hbp, hps⟩ := h0.qb (by rw [parts_len]; omega)
    have q5 := (hps m (by rw [parts_len]; omega)) 5
    rw [parts_at b ib m hlt] at q5
    have q5 := q5 _ rfl
    have hdr : b.drop m = b[m] :: b.drop (m + 1) := List.drop_eq_getElem_cons hlt
    have hhi := mix_hi (List.replicate (b.length + 1) (⟨0, 0⟩ : Ce)) (rowT b.length (cellB [] b (cfF mid a b a.length))) (m + 1) (m + 1) (by simp; omega) (by simp [hT]) (by simp; omega) (Nat.le_refl _)
    have hlo := mix_lo (List.replicate (b.length + 1) (⟨0, 0⟩ : Ce)) (rowT b.length (cellB [] b (cfF mid a b a.length))) m (by simp; omega) (by simp [hT])
    have hml := mix_len (List.replicate (b.length + 1) (⟨0, 0⟩ : Ce)) (rowT b.length (cellB [] b (cfF mid a b a.length))) (m + 1) (by simp; omega) (by simp [hT])
    have hup := mix_prev (List.replicate (b.length + 1) (⟨0, 0⟩ : Ce)) (rowT b.length (cellB [] b (cfF mid a b a.length))) m (by simp; omega) (by simp [hT])
    rw [List.length_replicate] at hml
    have c1 := (RowC.cells h0.row (m + 1) (by omega)).1
    rw [hhi, rowT_at _ _ _ (by omega)] at c1
    obtain ⟨u0, c0⟩ : ∃ u, wr.cell? ⟨g1, m * 2, none⟩ = some u := ⟨_, (RowC.cells h0.row m (by omega)).1⟩
    have f0 := RowC.frozen h0.row (m * 2)
    have hcell : (rowT b.length (cellB [] b (cfF mid a b a.length)))[m]'(by omega) = ⟨stL (b.drop (m + 1)) + stp b[m], 0⟩ := by
      rw [rowT_at _ _ _ (by omega)]; unfold cellB; rw [hzero, hdr, dst_nil, stL, Nat.add_comm]
    have hput := fun W (h : RowC g1 ((List.replicate (b.length + 1) ⟨0, 0⟩ : List Ce).take (m + 1) ++ (rowT b.length (cellB [] b (cfF mid a b a.length))).drop (m + 1)) W) => RowG.put h m (by omega) 0 (by omega) (.int .i64 ((stL (b.drop (m + 1)) : Int) + (stp b[m] : Int))) ⟨stL (b.drop (m + 1)) + stp b[m], 0⟩ (by rw [hlo, List.getElem_replicate]; unfold cenc; simp)
    rw [← hcell, hup] at hput
    have sb := stL_le (b.drop (m + 1)); have s4 := stp_le4 b[m]
    simp only [List.length_drop] at sb
    have c1' : wr.cell? ⟨g1, (m + 1) * 2, none⟩ = some (.int .i64 (stL (b.drop (m + 1)))) := c1
    generalize stL (b.drop (m + 1)) = R at *
    generalize b[m] = y at *
    have bR : R ≤ 400000 := by omega
    have HPUT := Lib.hid hput
    have q : decide ((0 : Int) ≤ (m : Int)) = true := decide_eq_true (by omega)
    have i0m : (0 : Int) ≤ (m : Int) := by omega
    have i1m : (m : Int) < (b.length : Int) + 1 := by omega
    have i2m : (m : Int) + 1 < (b.length : Int) + 1 := by omega
    have i3m : (m : Int) < (b.length : Int) := by omega
    have hr0 := RowC.frozen h0.row (m * 2)
    have HH := Lib.hid (And.intro h0 hB)
    clear hput c1 hcell hup hml hlo hhi hdr hps hF0 HB0 hzero h0 hB sb hbp hT
    go_wp2_with fail
    have r0 := cell_regrown c0; have r1 := cell_regrown c1'; have r2 := cell_regrown q5
    refine wp_region_quiet_tail 14 (by kernel_rfl) (by kernel_rfl) ?_
    simp only [List.take_succ_cons, List.take_zero, List.drop_succ_cons, List.drop_zero]
    repeat (go_big_quiet_step (fail))
    refine wpQuiet_nil ?_
    intro _ hw'
    obtain ⟨⟨dq, osq⟩, hw''⟩ := hw'
    subst hw''
    have hb := below_regrown wr dq osq
    have hp1 := cell_regrown c0 dq osq
    generalize grow (redrawn wr dq) osq = w5 at *
    obtain ⟨h0, hB⟩ := HH.out
    have h5 := h0.call hb
    have hB5 := BelowOn hB hb
    have hp := HPUT.out _ h5.row
    have hp2 : RowC g1 _ (w5.setCell ⟨g1, m * 2, none⟩ (.int .i64 ((R : Int) + (stp y : Int)))) := hp
    have hg := grow_cell w5 g1 (m * 2) (.int .i64 ((R : Int) + (stp y : Int)))
    have hF2 := h5.set hg hp2
    have hB2 := below_of_grow hB5 hg hB5.size h5.lr
    have f1 := RowC.frozen h5.row (m * 2)
    have HS := Lib.hid (And.intro hB2 hF2)
    clear r0 r1 r2 hF2 hB2 hg hp hp2 h5 hB5 h0 hB hb c0 c1' q5 f0 hr0
    go_wp2_with fail
    obtain ⟨hB2, hF2⟩ := HS.out
    go_roundw
    case rel => exact ⟨m, by omega, by go_num, hB2, hF2⟩
    case measure => simp [intOf] <;> omega
end Go.Proofs.Ytpkipdiecnokhaa
