/- The walk of ItemTags. -/
import Derived.Test.YtnfapcfajoboaaaQui
import Derived.Test.YtnfapcfajoboaaaRaw
import Derived.Test.YtnfapcfajoboaaaKno
import Derived.Test.YtnfapcfajoboaaaSlm
import Derived.Lib.SlBytesRow
import Derived.Lib.SlBytesConst
import Derived.Deep.CutRange
import Derived.Deep.Cut
namespace Go.Proofs.Ytnfapcfajoboaaa
open Go.ChangeShapes Go.WideShapes Go.ChangeAt Go.RowKit
set_option linter.unusedVariables false
set_option linter.unusedSimpArgs false
set_option maxRecDepth 100000

def benc (x : Int) : List Value := [.int .u8 x]
theorem info5 : (Try.prog.info? 5).map (fun i => (i.zero, i.size, i.bytes)) = some (some (.int .u8 0), 1, 1) := by kernel_rfl
theorem eB : El 23 5 1 1 (.int .u8 0) benc := ⟨Try.underlying23, info_parts info5, rfl, by omega, fun _ => rfl, fun x u hu => by simp [benc] at hu; subst hu; rfl⟩
abbrev AccB := Acc 5 1 benc
/-- The bytes of the content: b, a space, and x as often as it takes. -/
def bL (k : Nat) : List Int := [98, 32] ++ List.replicate (k - 2) 120
theorem bL_len (k : Nat) (h : 2 ≤ k) : (bL k).length = k := by unfold bL; simp; omega
theorem bL_next (k : Nat) (h : 2 ≤ k) : bL (k + 1) = bL k ++ [120] := by
  unfold bL
  rw [show k + 1 - 2 = (k - 2) + 1 by omega, List.replicate_succ', ← List.append_assoc]
theorem bL_range (k : Nat) : ∀ x ∈ bL k, 0 ≤ x ∧ x ≤ 255 := fun x hx => by
  unfold bL at hx
  rcases List.mem_append.1 hx with hx | hx
  · simp at hx; omega
  · rw [List.mem_replicate] at hx; omega
theorem slice_of {base : Nat} {L : List Int} {v : Value} {w : World} (h : OwnL 5 1 benc base L v w) (h0 : 0 < L.length) : ∃ g c, v = .slice (some ⟨g, 0, none⟩) L.length c := by
  rcases h.2 with ⟨_, hz⟩ | ⟨g, cap, cur, hv, _⟩
  · omega
  · exact ⟨g, cap, hv⟩
/-- A string out of numbers. -/
def strL (l : List Int) : ByteArray := ⟨(l.map fun x => UInt8.ofNat x.toNat).toArray⟩
theorem strL_size (l : List Int) : (strL l).size = l.length := by unfold strL; show Array.size _ = _; simp
theorem strL_at (l : List Int) (i : Nat) (h : i < (strL l).size) (h' : i < l.length) (hr : 0 ≤ l[i] ∧ l[i] ≤ 255) : (((strL l)[i]'h).toNat : Int) = l[i] := by
  have e0 : (strL l).data[i]? = some (UInt8.ofNat (l[i]).toNat) := by
    show (List.toArray _)[i]? = _
    rw [List.getElem?_toArray, List.getElem?_map, List.getElem?_eq_getElem h']; rfl
  have e : (strL l)[i]'h = UInt8.ofNat (l[i]).toNat := by
    have := Array.getElem?_eq_some_iff.1 e0
    exact this.2
  rw [e, UInt8.toNat_ofNat']
  omega
/-- A row of bytes that the call owns, as a block. -/
theorem own_block {base : Nat} {L : List Int} {g n c : Nat} {w : World} (h : OwnL 5 1 benc base L (.slice (some ⟨g, 0, none⟩) n c) w) : n = L.length ∧ base ≤ g ∧ ∃ cur : Array Value, w.heap[g]? = some (.cells cur 5 (0, 0)) ∧ ∀ i (hi : i < L.length), cur[i]? = some (.int .u8 (L[i]'hi)) := by
  rcases h.2 with ⟨h2, _⟩ | ⟨g', cap, cur, hv, hg, hh, hn, hm, hs, ht⟩
  · cases h2
  · injection hv with e1 e2 e3
    injection e1 with e1; injection e1 with e1
    subst e1; subst e2
    refine ⟨rfl, hg, cur, hh, fun i hi => ?_⟩
    have e : cellsOf benc L = L.map (Value.int .u8) := cells_map (Value.int .u8) L
    rw [e] at ht
    have e2 : (cur.toList.take (L.length * 1))[i]? = some (.int .u8 L[i]) := by rw [ht, List.getElem?_map, List.getElem?_eq_getElem hi]; rfl
    rw [Nat.mul_one, List.getElem?_take_of_lt hi, Array.getElem?_toList] at e2
    exact e2
theorem conv_at {w : World} {g : Nat} {cur : Array Value} {fr : Nat × Nat} {L : List Int} (hh : w.heap[g]? = some (.cells cur 5 fr)) (hc : ∀ i (hi : i < L.length), cur[i]? = some (.int .u8 (L[i]'hi))) (hr : ∀ x ∈ L, 0 ≤ x ∧ x ≤ 255) (cap : Nat) :
    (convert 23 9 (.slice (some ⟨g, 0, none⟩) L.length cap)).run Try.prog w = .ok (.string (strL L)) w := by
  have h := Lib.run_convert_whole (P := Try.prog) w 23 5 9 Try.underlying23 Try.underlying5 Try.underlying9 g 0 (strL L) (fun i hi => by
    have hi' : i < L.length := by rw [strL_size] at hi; exact hi
    rw [strL_at L i hi hi' (hr _ (List.getElem_mem hi')), Nat.zero_add, Lib.cell_of_heap hh]
    exact hc i hi') cap
  rwa [strL_size] at h

theorem pick_int {W : World} {B : Nat} {cs : Array Value} (hB : W.heap[B]? = some (.cells cs 3 (0, 0))) (l : List Int) (hcs : cs.toList = l.map (Value.int .i64)) (k : Nat) (hk : k < l.length) : W.cell? ⟨B, k, none⟩ = some (.int .i64 (l.getD k 0)) := by
  rw [Lib.cell_of_heap hB]
  show cs[k]? = _
  rw [← Array.getElem?_toList, hcs, List.getElem?_map, List.getElem?_eq_getElem hk, List.getD_eq_getElem?_getD, List.getElem?_eq_getElem hk]; rfl
theorem below_keep {W W' : World} {a : Nat} {o : Obj} (h : W.heap[a]? = some o) (hb : Below W.heap.size W W') : W'.heap[a]? = some o := (hb.block a (Array.getElem?_eq_some_iff.1 h).1).trans h
theorem chain3 (W : World) (o1 o2 o3 : Obj) (n : Nat) (hn : W.heap.size = n) : (((W.alloc o1).alloc o2).alloc o3).heap[n]? = some o1 ∧ (((W.alloc o1).alloc o2).alloc o3).heap[n + 1]? = some o2 ∧ (((W.alloc o1).alloc o2).alloc o3).heap[n + 2]? = some o3 ∧ (∀ (k : Nat) (o : Obj), W.heap[k]? = some o → (((W.alloc o1).alloc o2).alloc o3).heap[k]? = some o) ∧ Below n W (((W.alloc o1).alloc o2).alloc o3) := by
  subst hn
  exact ⟨carry_alloc (carry_alloc (heap_alloc_new W o1) o2) o3, carry_alloc (heap_at (by simp) o2) o3, heap_at (by simp) o3, fun k o h => carry_alloc (carry_alloc (carry_alloc h o1) o2) o3, blw (blw (blw (Below.refl _ W) o1) o2) o3⟩

set_option maxHeartbeats 6400000 in
theorem tags_any0 (a0 a1 a2 a3 : Int) (w : World) (w0 : (Lit.int .i64 a0).wf = true) (w1 : (Lit.int .i64 a1).wf = true) (w2 : (Lit.int .i64 a2).wf = true) (w3 : (Lit.int .u8 a3).wf = true) :
    Calls Try.prog 3 #[.int .i64 a0, .int .i64 a1, .int .i64 a2, .int .u8 a3] w fun e w' => e = .returned (.bool true) ∧ Below w.heap.size w w' := by
  have hb : 0 ≤ a3 ∧ a3 ≤ 255 := by simpa [Lit.wf, IntKind.min, IntKind.max, IntKind.signed, IntKind.bits] using w3
  have p0 := fun W => place_any a0 5 W (by omega) (by omega) w0
  have e0 := Int.emod_nonneg a0 (show (5 : Int) ≠ 0 by omega)
  have e1 := Int.emod_lt_of_pos a0 (show (0 : Int) < 5 by omega)
  generalize a0 % 5 = I at *
  obtain ⟨r0, rfl⟩ := Int.eq_ofNat_of_zero_le e0
  have P0 := Lib.hid p0; clear p0 w0 e0
  have kc := fun (w : World) (C : Array Value) (n c : Nat) => Lib.run_convert_bytes_const (P := Try.prog) w 23 5 C n c Try.underlying23 Try.underlying5
  have hr0 : r0 < 5 := by omega
  go_enter Try.func3, Try.ntmps3
  go_wp2_with fail
  refine (P0.out _).mono ?_; rintro e v0 ⟨rfl, rfl⟩
  go_wp2_with fail
  go_loopw [9] (fun vb wr => ∃ k : Nat, 2 ≤ k ∧ k ≤ 62 + r0 ∧ (∃ g c, vb = .slice (some ⟨g, 0, none⟩) k c) ∧ ((k = 2 ∧ vb = .slice (some ⟨w.heap.size, 0, none⟩) 2 2 ∧ wr = w.alloc (.cells #[.int .u8 98, .int .u8 32] 5 (2, 3))) ∨ AccB w (bL k) vb wr)) (fun vb _ => match vb with | .slice _ k _ => 62 + r0 - k | _ => 0)
  case atStart => exact ⟨2, Nat.le_refl _, by omega, ⟨_, _, rfl⟩, .inl ⟨rfl, rfl, rfl⟩⟩
  case round =>
    clear kc
    obtain ⟨k, hk2, hk, ⟨g, c, rfl⟩, hAA⟩ := hrel
    have hlen := bL_len k hk2
    by_cases hlt : k < 62 + r0
    · rcases hAA with ⟨rfl, hv, rfl⟩ | hA
      · injection hv with e1 e2 e3
        injection e1 with e1; injection e1 with e1
        subst e1; subst e3
        have q : decide ((2 : Int) < 62 + (r0 : Int)) = true := decide_eq_true (by omega)
        have hnew := heap_at (show (w.alloc (.cells #[.int .u8 98, .int .u8 32] 5 (2, 3))).heap.size = w.heap.size + 1 by simp) (.cells #[.int .u8 120] 5)
        have hold := carry_alloc (heap_alloc_new w (.cells #[.int .u8 98, .int .u8 32] 5 (2, 3))) (.cells #[.int .u8 120] 5)
        obtain ⟨i5, hi5, z0, z1, z2⟩ := eB.hi
        have HNW := Lib.hid hnew; have HOL := Lib.hid hold
        clear hnew hold hlen
        go_wp2_with (at_builtin; refine wpList_append_grows _ rfl _ _ 23 rfl 5 i5 (.int .u8 0) 1 1 Try.underlying23 hi5 z0 z1 z2 rfl (by omega) (some ⟨w.heap.size, 0, none⟩) 2 2 [.int .u8 98, .int .u8 32] rfl (fun h => by cases h) rfl (fun b e => by cases e; exact World.news_of_block HOL.out) ⟨w.heap.size + 1, 0, none⟩ 1 1 [.int .u8 120] rfl rfl (World.news_of_block HNW.out) (fun u hu => by simp at hu; subst hu; rfl) (by omega) (by unfold maxLen; omega) (by omega) ?_; intro v4 w4 hown4 hgr4)
        have hown5 : OwnL 5 1 benc w.heap.size (bL 3) v4 w4 := ownsRow_base hown4 (by simp; omega)
        have hb5 : Below w.heap.size w w4 := (((Below.refl w.heap.size w).alloc (Nat.le_refl _) _).alloc (by simp) _).trans ⟨hgr4.os, hgr4.tape, hgr4.output, hgr4.size, fun k hk => hgr4.block k (by simp; omega) (by simp)⟩
        obtain ⟨g2, cp, rfl⟩ := slice_of hown5 (by decide)
        go_wp2_with fail
        go_roundw
        case rel => exact ⟨3, by omega, by omega, ⟨g2, cp, rfl⟩, .inr ⟨hb5, hown5⟩⟩
        case measure =>
          have h3 := bL_len 3 (by omega)
          rw [h3]; simp; omega
      · have q : decide ((k : Int) < 62 + (r0 : Int)) = true := decide_eq_true (by omega)
        have hA1 := hA.alloc (.cells #[.int .u8 120] 5)
        have HX := Lib.hid (bL_next k hk2)
        have HL := Lib.hid hlen; clear hlen
        go_wp2_with (at_builtin; refine wpl_app eB _ rfl _ _ rfl w.heap.size (bL k) _ rfl hA1.own hA1.below.size 120 wr.heap.size #[.int .u8 120] rfl (heap_alloc_new wr _) rfl (by rw [HL.out]; omega) (by rw [HL.out]; unfold maxLen; omega) ?_; intro g2 cp v4 hown4 hgr4 hloc4)
        have hA4 := hA1.more hgr4 hown4
        rw [← HX.out, HL.out] at hA4
        go_wp2_with fail
        go_roundw
        case rel => exact ⟨k + 1, by omega, by omega, ⟨g2, cp, by rw [HL.out]⟩, .inr (by rw [HL.out]; exact hA4)⟩
        case measure => first | (rw [HL.out]; simp; omega) | (simp; omega)
    · obtain rfl : k = 62 + r0 := by omega
      have hA : AccB w (bL (62 + r0)) (.slice (some ⟨g, 0, none⟩) (62 + r0) c) wr := by
        rcases hAA with ⟨h, _⟩ | h
        · omega
        · exact h
      obtain ⟨hbad, hg, cur, hh, hc⟩ := own_block hA.own
      clear hbad
      have hbel := hA.below
      have hL : ((bL (62 + r0)).set (61 + r0) a3).length = 62 + r0 := by rw [List.length_set, hlen]
      have hrg : ∀ x ∈ (bL (62 + r0)).set (61 + r0) a3, 0 ≤ x ∧ x ≤ 255 := fun x hx => by
        rcases List.mem_or_eq_of_mem_set hx with h | h
        · exact bL_range _ x h
        · rw [h]; exact hb
      have hcz : 61 + r0 < cur.size := by
        have := hc (61 + r0) (by omega)
        exact (Array.getElem?_eq_some_iff.1 this).1
      have hc2 : ∀ i (hi : i < ((bL (62 + r0)).set (61 + r0) a3).length), (cur.setIfInBounds (61 + r0) (.int .u8 a3))[i]? = some (.int .u8 (((bL (62 + r0)).set (61 + r0) a3)[i]'hi)) := fun i hi => by
        have hi' : i < (bL (62 + r0)).length := by rw [List.length_set] at hi; exact hi
        rw [Array.getElem?_setIfInBounds, List.getElem_set]
        by_cases e : 61 + r0 = i
        · subst e; rw [if_pos rfl, if_pos hcz, if_pos rfl]
        · rw [if_neg e, if_neg e]; exact hc i hi'
      have d0 : ∃ o, wr.cell? ⟨g, 61 + r0, none⟩ = some o := ⟨_, by rw [Lib.cell_of_heap hh]; exact hc _ (by omega)⟩
      obtain ⟨old, d0⟩ := d0
      have d1 := Lib.frozen_of_heap hh (61 + r0)
      have hh2 := setCell_heap wr g (61 + r0) _ 5 (.int .u8 a3) hh
      have hb2 := Lib.hid (hbel.setCell (p := ⟨g, 61 + r0, none⟩) hg (.int .u8 a3))
      have hcv : ∀ (W : World) (cap : Nat), W.heap[g]? = some (.cells (cur.setIfInBounds (61 + r0) (.int .u8 a3)) 5 (0, 0)) → (convert 23 9 (.slice (some ⟨g, 0, none⟩) (62 + r0) cap)).run Try.prog W = .ok (.string (strL ((bL (62 + r0)).set (61 + r0) a3))) W := fun W cap hW => by
        have := conv_at hW hc2 hrg cap
        rwa [hL] at this
      have hts : (strL ((bL (62 + r0)).set (61 + r0) a3)).size = 62 + r0 := by rw [strL_size, hL]
      generalize strL ((bL (62 + r0)).set (61 + r0) a3) = txt at *
      generalize cur.setIfInBounds (61 + r0) (.int .u8 a3) = cur2 at *
      have HCV := Lib.hid hcv; have HH := Lib.hid hh2; have HTS := Lib.hid hts
      clear hcv hts hc2 hh2 hrg hL hc hh hAA hA hbel hlen hcz
      have x0 : (0 : Int) ≤ 62 + (r0 : Int) - 1 := by omega
      have x1 : (62 + (r0 : Int) - 1).toNat = 61 + r0 := by omega
      have x2 : IntKind.i64.wrap (62 + (r0 : Int) - 1) = 62 + (r0 : Int) - 1 := IntWalk.i64_in _ ⟨by omega, by omega⟩
      have x3 : decide (62 + (r0 : Int) < 62 + (r0 : Int)) = false := by simp
      have x4 : (62 + (r0 : Int) - 1) < 62 + (r0 : Int) := by omega
      go_upto_region 6 with fail
      clear x0 x1 x2 x3 x4 d0 d1 hk2 hk hlt
      have HB2 := hb2.out
      have HH2 := HH.out
      generalize wr.setCell ⟨g, 61 + r0, none⟩ (.int .u8 a3) = W5 at *
      have p1 := fun W => place_any a2 2 W (by omega) (by omega) w2
      have p2 := fun W => place_any a1 4 W (by omega) (by omega) w1
      have e1 := Int.emod_nonneg a2 (show (2 : Int) ≠ 0 by omega); have e2 := Int.emod_lt_of_pos a2 (show (0 : Int) < 2 by omega)
      have e3 := Int.emod_nonneg a1 (show (4 : Int) ≠ 0 by omega); have e4 := Int.emod_lt_of_pos a1 (show (0 : Int) < 4 by omega)
      generalize a2 % 2 = I1 at *; generalize a1 % 4 = I2 at *
      obtain ⟨r1, rfl⟩ := Int.eq_ofNat_of_zero_le e1
      obtain ⟨r2, rfl⟩ := Int.eq_ofNat_of_zero_le e3
      have q1 : r1 < 2 := by omega
      have q2 : r2 < 4 := by omega
      obtain ⟨k1, hk1⟩ : ∃ k1 : Int, k1 = [2, 4].getD r1 0 := ⟨_, rfl⟩
      obtain ⟨k2, hk2⟩ : ∃ k2 : Int, k2 = [0, 1, 999, 1000].getD r2 0 := ⟨_, rfl⟩
      have hb1 : 2 ≤ k1 ∧ k1 ≤ 4 := by
        have : r1 = 0 ∨ r1 = 1 := by omega
        rcases this with rfl | rfl
        · rw [hk1]; decide
        · rw [hk1]; decide
      have hb2' : 0 ≤ k2 ∧ k2 ≤ 1000 := by
        have : r2 = 0 ∨ r2 = 1 ∨ r2 = 2 ∨ r2 = 3 := by omega
        rcases this with rfl | rfl | rfl | rfl
        · rw [hk2]; decide
        · rw [hk2]; decide
        · rw [hk2]; decide
        · rw [hk2]; decide
      have HK1 := Lib.hid hk1; have HK2 := Lib.hid hk2
      clear hk1 hk2
      have HP1 := Lib.hid p1; have HP2 := Lib.hid p2
      clear p1 p2 hb2 HH
      go_cut [10] from 29 to 41 (fun s10 wx => ∃ Bx : Nat, s10 = .pointer (some ⟨Bx, 0, none⟩) ∧ wx.heap[Bx]? = some (.cells #[.int .i64 k1, .string txt, .int .i64 k2] 26 (0, 0)) ∧ Below w.heap.size w wx)
      case first =>
        have hG : W5.drew.heap[g]? = some (.cells cur2 5 (0, 0)) := HH2
        clear HH2
        have hG0 := hG
        refine wp_region_held_drew (S := fun W => W.heap[g]? = some (.cells cur2 5 (0, 0))) (by kernel_rfl) (hG) (fun hHeld => ?_)
        refine wpAnyH_take (i := 1) (v := ?_) rfl (by kernel_rfl) (by kernel_rfl) (by kernel_rfl) (fun _ _ _ h => h) (Or.inl ⟨by rfl, ?_⟩) hHeld ?_
        rotate_left
        · (intro w hSw; (try dsimp only at hSw); go_simp; try with_reducible rfl)
        try simp only [Act.put, List.getElem_toArray, List.getElem_cons_zero, List.getElem_cons_succ, List.setIfInBounds_toArray, List.set_cons_zero, List.set_cons_succ]
        refine wpAnyH_take (i := 5) (v := ?_) rfl (by kernel_rfl) (by kernel_rfl) (by kernel_rfl) (fun _ _ _ h => h) (Or.inl ⟨by rfl, ?_⟩) hHeld ?_
        rotate_left
        · (intro w hSw; (try dsimp only at hSw); go_simp; try with_reducible rfl)
        try simp only [Act.put, List.getElem_toArray, List.getElem_cons_zero, List.getElem_cons_succ, List.setIfInBounds_toArray, List.set_cons_zero, List.set_cons_succ]
        refine wpAnyH_take (i := 8) (v := ?_) rfl (by kernel_rfl) (by kernel_rfl) (by kernel_rfl) (fun _ _ _ h => h) (Or.inl ⟨by rfl, ?_⟩) hHeld ?_
        rotate_left
        · (intro w hSw; (try dsimp only at hSw); go_simp; try with_reducible rfl)
        try simp only [Act.put, List.getElem_toArray, List.getElem_cons_zero, List.getElem_cons_succ, List.setIfInBounds_toArray, List.set_cons_zero, List.set_cons_succ]
        refine wpAnyH_take (i := 6) (v := ?_) rfl (by kernel_rfl) (by kernel_rfl) (by kernel_rfl) (fun _ _ _ h => h) (Or.inl ⟨by rfl, ?_⟩) hHeld ?_
        rotate_left
        · (intro w hSw; have hk := HCV.out w c hSw; go_simp; try with_reducible rfl)
        try simp only [Act.put, List.getElem_toArray, List.getElem_cons_zero, List.getElem_cons_succ, List.setIfInBounds_toArray, List.set_cons_zero, List.set_cons_succ]
        refine wpAnyH_quiet (i := 2) (v := .int .i64 r1) rfl (by kernel_rfl) (by kernel_rfl) (by kernel_rfl) (fun _ _ _ h => h) ⟨by rfl, fun w hSw => ⟨16, #[.int .i64 a2, .int .i64 2], by go_simp, (HP1.out w).mono (fun e w' h => ⟨h.1, h.2.symm⟩)⟩⟩ hHeld ?_
        try simp only [Act.put, List.getElem_toArray, List.getElem_cons_zero, List.getElem_cons_succ, List.setIfInBounds_toArray, List.set_cons_zero, List.set_cons_succ]
        refine wpAnyH_quiet (i := 9) (v := .int .i64 r2) rfl (by kernel_rfl) (by kernel_rfl) (by kernel_rfl) (fun _ _ _ h => h) ⟨by rfl, fun w hSw => ⟨16, #[.int .i64 a1, .int .i64 4], by go_simp, (HP2.out w).mono (fun e w' h => ⟨h.1, h.2.symm⟩)⟩⟩ hHeld ?_
        try simp only [Act.put, List.getElem_toArray, List.getElem_cons_zero, List.getElem_cons_succ, List.setIfInBounds_toArray, List.set_cons_zero, List.set_cons_succ]
        refine wpAnyH_ready (rs := [0, 7, 13]) (by kernel_rfl) (by simp) ?_
        refine AllReadyH.cons rfl (fun K hK => ?_) (AllReadyH.cons rfl (fun K hK => ?_) (AllReadyH.cons rfl (fun K hK => ?_) (AllReadyH.nil)))
        · skip
          have nn : (W5.drew).heap.size = W5.heap.size := by simp
          have hA := heap_at nn (.cells #[.int .i64 2, .int .i64 4] 3)
          have hG := carry_alloc hG (.cells #[.int .i64 2, .int .i64 4] 3)
          go_simp
          refine hK.out _ _ hG (fun hHeld => ?_)
          clear hK K nn
          try simp only [Act.put, List.getElem_toArray, List.getElem_cons_zero, List.getElem_cons_succ, List.setIfInBounds_toArray, List.set_cons_zero, List.set_cons_succ]
          refine wpAnyH_mono (S' := fun W => W.heap[g]? = some (.cells cur2 5 (0, 0)) ∧ W.heap[W5.heap.size]? = some (.cells #[.int .i64 2, .int .i64 4] 3 (0, 0))) (fun _ h => h.1) _ _ _ _ ?_
          clear hHeld
          have hHeld : (fun W => W.heap[g]? = some (.cells cur2 5 (0, 0)) ∧ W.heap[W5.heap.size]? = some (.cells #[.int .i64 2, .int .i64 4] 3 (0, 0))) ((W5.drew).alloc (.cells #[.int .i64 2, .int .i64 4] 3)) := ⟨hG, hA⟩
          refine wpAnyH_take (i := 3) (v := ?_) rfl (by kernel_rfl) (by kernel_rfl) (by kernel_rfl) (fun _ _ _ h => h) (Or.inl ⟨by rfl, ?_⟩) hHeld ?_
          rotate_left
          · (intro w hSw; (try dsimp only at hSw); go_simp; try with_reducible rfl)
          try simp only [Act.put, List.getElem_toArray, List.getElem_cons_zero, List.getElem_cons_succ, List.setIfInBounds_toArray, List.set_cons_zero, List.set_cons_succ]
          refine wpAnyH_take (i := 4) (v := ?_) rfl (by kernel_rfl) (by kernel_rfl) (by kernel_rfl) (fun _ _ _ h => h) (Or.inl ⟨by rfl, ?_⟩) hHeld ?_
          rotate_left
          · (intro w hSw; have hc := pick_int (hSw.2) [2, 4] rfl r1 q1; rw [← HK1.out] at hc; go_simp; try with_reducible rfl)
          try simp only [Act.put, List.getElem_toArray, List.getElem_cons_zero, List.getElem_cons_succ, List.setIfInBounds_toArray, List.set_cons_zero, List.set_cons_succ]
          refine wpAnyH_ready (rs := [7, 13]) (by kernel_rfl) (by simp) ?_
          refine AllReadyH.cons rfl (fun K hK => ?_) (AllReadyH.cons rfl (fun K hK => ?_) (AllReadyH.nil))
          · skip
            have nn : ((W5.drew).alloc (.cells #[.int .i64 2, .int .i64 4] 3)).heap.size = W5.heap.size + 1 := by simp
            have hB := heap_at nn (.cells #[.int .i64 0, .int .i64 1, .int .i64 999, .int .i64 1000] 3)
            have hG := carry_alloc hG (.cells #[.int .i64 0, .int .i64 1, .int .i64 999, .int .i64 1000] 3)
            have hA := carry_alloc hA (.cells #[.int .i64 0, .int .i64 1, .int .i64 999, .int .i64 1000] 3)
            go_simp
            refine hK.out _ _ ⟨hG, hA⟩ (fun hHeld => ?_)
            clear hK K nn
            try simp only [Act.put, List.getElem_toArray, List.getElem_cons_zero, List.getElem_cons_succ, List.setIfInBounds_toArray, List.set_cons_zero, List.set_cons_succ]
            refine wpAnyH_mono (S' := fun W => W.heap[g]? = some (.cells cur2 5 (0, 0)) ∧ W.heap[W5.heap.size]? = some (.cells #[.int .i64 2, .int .i64 4] 3 (0, 0)) ∧ W.heap[W5.heap.size + 1]? = some (.cells #[.int .i64 0, .int .i64 1, .int .i64 999, .int .i64 1000] 3 (0, 0))) (fun _ h => ⟨h.1, h.2.1⟩) _ _ _ _ ?_
            clear hHeld
            have hHeld : (fun W => W.heap[g]? = some (.cells cur2 5 (0, 0)) ∧ W.heap[W5.heap.size]? = some (.cells #[.int .i64 2, .int .i64 4] 3 (0, 0)) ∧ W.heap[W5.heap.size + 1]? = some (.cells #[.int .i64 0, .int .i64 1, .int .i64 999, .int .i64 1000] 3 (0, 0))) (((W5.drew).alloc (.cells #[.int .i64 2, .int .i64 4] 3)).alloc (.cells #[.int .i64 0, .int .i64 1, .int .i64 999, .int .i64 1000] 3)) := ⟨hG, hA, hB⟩
            refine wpAnyH_take (i := 10) (v := ?_) rfl (by kernel_rfl) (by kernel_rfl) (by kernel_rfl) (fun _ _ _ h => h) (Or.inl ⟨by rfl, ?_⟩) hHeld ?_
            rotate_left
            · (intro w hSw; (try dsimp only at hSw); go_simp; try with_reducible rfl)
            try simp only [Act.put, List.getElem_toArray, List.getElem_cons_zero, List.getElem_cons_succ, List.setIfInBounds_toArray, List.set_cons_zero, List.set_cons_succ]
            refine wpAnyH_take (i := 11) (v := ?_) rfl (by kernel_rfl) (by kernel_rfl) (by kernel_rfl) (fun _ _ _ h => h) (Or.inl ⟨by rfl, ?_⟩) hHeld ?_
            rotate_left
            · (intro w hSw; have hc := pick_int (hSw.2.2) [0, 1, 999, 1000] rfl r2 q2; rw [← HK2.out] at hc; go_simp; try with_reducible rfl)
            try simp only [Act.put, List.getElem_toArray, List.getElem_cons_zero, List.getElem_cons_succ, List.setIfInBounds_toArray, List.set_cons_zero, List.set_cons_succ]
            refine wpAnyH_take (i := 12) (v := ?_) rfl (by kernel_rfl) (by kernel_rfl) (by kernel_rfl) (fun _ _ _ h => h) (Or.inl ⟨by rfl, ?_⟩) hHeld ?_
            rotate_left
            · (intro w hSw; (try dsimp only at hSw); go_simp; try with_reducible rfl)
            try simp only [Act.put, List.getElem_toArray, List.getElem_cons_zero, List.getElem_cons_succ, List.setIfInBounds_toArray, List.set_cons_zero, List.set_cons_succ]
            refine wpAnyH_ready (rs := [13]) (by kernel_rfl) (by simp) ?_
            refine AllReadyH.cons rfl (fun K hK => ?_) (AllReadyH.nil)
            · skip
              have nn : (((W5.drew).alloc (.cells #[.int .i64 2, .int .i64 4] 3)).alloc (.cells #[.int .i64 0, .int .i64 1, .int .i64 999, .int .i64 1000] 3)).heap.size = W5.heap.size + 2 := by simp
              have hX := heap_at nn (.cells #[.int .i64 0, .string ⟨#[]⟩, .int .i64 0] 26)
              have hG := carry_alloc hG (.cells #[.int .i64 0, .string ⟨#[]⟩, .int .i64 0] 26)
              have hA := carry_alloc hA (.cells #[.int .i64 0, .string ⟨#[]⟩, .int .i64 0] 26)
              have hB := carry_alloc hB (.cells #[.int .i64 0, .string ⟨#[]⟩, .int .i64 0] 26)
              go_simp
              refine hK.out _ _ ⟨hG, hA, hB⟩ (fun hHeld => ?_)
              clear hK K nn
              try simp only [Act.put, List.getElem_toArray, List.getElem_cons_zero, List.getElem_cons_succ, List.setIfInBounds_toArray, List.set_cons_zero, List.set_cons_succ]
              refine wpAnyH_ready (rs := [14]) (by kernel_rfl) (by simp) ?_
              refine AllReadyH.cons rfl (fun K hK => ?_) AllReadyH.nil
              obtain ⟨z0, z1, z2, zo, zb⟩ := chain3 W5 (.cells #[.int .i64 2, .int .i64 4] 3) (.cells #[.int .i64 0, .int .i64 1, .int .i64 999, .int .i64 1000] 3) (.cells #[.int .i64 k1, .string txt, .int .i64 k2] 26) W5.heap.size (by simp)
              go_simp
              refine hK.out _ _ ⟨(zo _ _ hG0), z0, z1⟩ (fun hHeld => ?_)
              clear hK K
              refine wpAnyH_done (by kernel_rfl) ?_ _
              go_wp2_with fail
              go_meet
              exact ⟨W5.heap.size + 2, rfl, z2, HB2.trans (show Below w.heap.size W5 _ from ⟨zb.os, zb.tape, zb.output, zb.size, fun k hk => zb.block k (Nat.lt_of_lt_of_le hk HB2.size)⟩)⟩
          · skip
            have nn : ((W5.drew).alloc (.cells #[.int .i64 2, .int .i64 4] 3)).heap.size = W5.heap.size + 1 := by simp
            have hX := heap_at nn (.cells #[.int .i64 0, .string ⟨#[]⟩, .int .i64 0] 26)
            have hG := carry_alloc hG (.cells #[.int .i64 0, .string ⟨#[]⟩, .int .i64 0] 26)
            have hA := carry_alloc hA (.cells #[.int .i64 0, .string ⟨#[]⟩, .int .i64 0] 26)
            go_simp
            refine hK.out _ _ ⟨hG, hA⟩ (fun hHeld => ?_)
            clear hK K nn
            try simp only [Act.put, List.getElem_toArray, List.getElem_cons_zero, List.getElem_cons_succ, List.setIfInBounds_toArray, List.set_cons_zero, List.set_cons_succ]
            refine wpAnyH_ready (rs := [7]) (by kernel_rfl) (by simp) ?_
            refine AllReadyH.cons rfl (fun K hK => ?_) (AllReadyH.nil)
            · skip
              have nn : (((W5.drew).alloc (.cells #[.int .i64 2, .int .i64 4] 3)).alloc (.cells #[.int .i64 0, .string ⟨#[]⟩, .int .i64 0] 26)).heap.size = W5.heap.size + 2 := by simp
              have hB := heap_at nn (.cells #[.int .i64 0, .int .i64 1, .int .i64 999, .int .i64 1000] 3)
              have hG := carry_alloc hG (.cells #[.int .i64 0, .int .i64 1, .int .i64 999, .int .i64 1000] 3)
              have hA := carry_alloc hA (.cells #[.int .i64 0, .int .i64 1, .int .i64 999, .int .i64 1000] 3)
              have hX := carry_alloc hX (.cells #[.int .i64 0, .int .i64 1, .int .i64 999, .int .i64 1000] 3)
              go_simp
              refine hK.out _ _ ⟨hG, hA⟩ (fun hHeld => ?_)
              clear hK K nn
              try simp only [Act.put, List.getElem_toArray, List.getElem_cons_zero, List.getElem_cons_succ, List.setIfInBounds_toArray, List.set_cons_zero, List.set_cons_succ]
              refine wpAnyH_mono (S' := fun W => W.heap[g]? = some (.cells cur2 5 (0, 0)) ∧ W.heap[W5.heap.size]? = some (.cells #[.int .i64 2, .int .i64 4] 3 (0, 0)) ∧ W.heap[W5.heap.size + 2]? = some (.cells #[.int .i64 0, .int .i64 1, .int .i64 999, .int .i64 1000] 3 (0, 0))) (fun _ h => ⟨h.1, h.2.1⟩) _ _ _ _ ?_
              clear hHeld
              have hHeld : (fun W => W.heap[g]? = some (.cells cur2 5 (0, 0)) ∧ W.heap[W5.heap.size]? = some (.cells #[.int .i64 2, .int .i64 4] 3 (0, 0)) ∧ W.heap[W5.heap.size + 2]? = some (.cells #[.int .i64 0, .int .i64 1, .int .i64 999, .int .i64 1000] 3 (0, 0))) ((((W5.drew).alloc (.cells #[.int .i64 2, .int .i64 4] 3)).alloc (.cells #[.int .i64 0, .string ⟨#[]⟩, .int .i64 0] 26)).alloc (.cells #[.int .i64 0, .int .i64 1, .int .i64 999, .int .i64 1000] 3)) := ⟨hG, hA, hB⟩
              refine wpAnyH_take (i := 10) (v := ?_) rfl (by kernel_rfl) (by kernel_rfl) (by kernel_rfl) (fun _ _ _ h => h) (Or.inl ⟨by rfl, ?_⟩) hHeld ?_
              rotate_left
              · (intro w hSw; (try dsimp only at hSw); go_simp; try with_reducible rfl)
              try simp only [Act.put, List.getElem_toArray, List.getElem_cons_zero, List.getElem_cons_succ, List.setIfInBounds_toArray, List.set_cons_zero, List.set_cons_succ]
              refine wpAnyH_take (i := 11) (v := ?_) rfl (by kernel_rfl) (by kernel_rfl) (by kernel_rfl) (fun _ _ _ h => h) (Or.inl ⟨by rfl, ?_⟩) hHeld ?_
              rotate_left
              · (intro w hSw; have hc := pick_int (hSw.2.2) [0, 1, 999, 1000] rfl r2 q2; rw [← HK2.out] at hc; go_simp; try with_reducible rfl)
              try simp only [Act.put, List.getElem_toArray, List.getElem_cons_zero, List.getElem_cons_succ, List.setIfInBounds_toArray, List.set_cons_zero, List.set_cons_succ]
              refine wpAnyH_take (i := 12) (v := ?_) rfl (by kernel_rfl) (by kernel_rfl) (by kernel_rfl) (fun _ _ _ h => h) (Or.inl ⟨by rfl, ?_⟩) hHeld ?_
              rotate_left
              · (intro w hSw; (try dsimp only at hSw); go_simp; try with_reducible rfl)
              try simp only [Act.put, List.getElem_toArray, List.getElem_cons_zero, List.getElem_cons_succ, List.setIfInBounds_toArray, List.set_cons_zero, List.set_cons_succ]
              refine wpAnyH_ready (rs := [14]) (by kernel_rfl) (by simp) ?_
              refine AllReadyH.cons rfl (fun K hK => ?_) AllReadyH.nil
              obtain ⟨z0, z1, z2, zo, zb⟩ := chain3 W5 (.cells #[.int .i64 2, .int .i64 4] 3) (.cells #[.int .i64 k1, .string txt, .int .i64 k2] 26) (.cells #[.int .i64 0, .int .i64 1, .int .i64 999, .int .i64 1000] 3) W5.heap.size (by simp)
              go_simp
              refine hK.out _ _ ⟨(zo _ _ hG0), z0, z2⟩ (fun hHeld => ?_)
              clear hK K
              refine wpAnyH_done (by kernel_rfl) ?_ _
              go_wp2_with fail
              go_meet
              exact ⟨W5.heap.size + 1, rfl, z1, HB2.trans (show Below w.heap.size W5 _ from ⟨zb.os, zb.tape, zb.output, zb.size, fun k hk => zb.block k (Nat.lt_of_lt_of_le hk HB2.size)⟩)⟩
        · skip
          have nn : (W5.drew).heap.size = W5.heap.size := by simp
          have hB := heap_at nn (.cells #[.int .i64 0, .int .i64 1, .int .i64 999, .int .i64 1000] 3)
          have hG := carry_alloc hG (.cells #[.int .i64 0, .int .i64 1, .int .i64 999, .int .i64 1000] 3)
          go_simp
          refine hK.out _ _ hG (fun hHeld => ?_)
          clear hK K nn
          try simp only [Act.put, List.getElem_toArray, List.getElem_cons_zero, List.getElem_cons_succ, List.setIfInBounds_toArray, List.set_cons_zero, List.set_cons_succ]
          refine wpAnyH_mono (S' := fun W => W.heap[g]? = some (.cells cur2 5 (0, 0)) ∧ W.heap[W5.heap.size]? = some (.cells #[.int .i64 0, .int .i64 1, .int .i64 999, .int .i64 1000] 3 (0, 0))) (fun _ h => h.1) _ _ _ _ ?_
          clear hHeld
          have hHeld : (fun W => W.heap[g]? = some (.cells cur2 5 (0, 0)) ∧ W.heap[W5.heap.size]? = some (.cells #[.int .i64 0, .int .i64 1, .int .i64 999, .int .i64 1000] 3 (0, 0))) ((W5.drew).alloc (.cells #[.int .i64 0, .int .i64 1, .int .i64 999, .int .i64 1000] 3)) := ⟨hG, hB⟩
          refine wpAnyH_take (i := 10) (v := ?_) rfl (by kernel_rfl) (by kernel_rfl) (by kernel_rfl) (fun _ _ _ h => h) (Or.inl ⟨by rfl, ?_⟩) hHeld ?_
          rotate_left
          · (intro w hSw; (try dsimp only at hSw); go_simp; try with_reducible rfl)
          try simp only [Act.put, List.getElem_toArray, List.getElem_cons_zero, List.getElem_cons_succ, List.setIfInBounds_toArray, List.set_cons_zero, List.set_cons_succ]
          refine wpAnyH_take (i := 11) (v := ?_) rfl (by kernel_rfl) (by kernel_rfl) (by kernel_rfl) (fun _ _ _ h => h) (Or.inl ⟨by rfl, ?_⟩) hHeld ?_
          rotate_left
          · (intro w hSw; have hc := pick_int (hSw.2) [0, 1, 999, 1000] rfl r2 q2; rw [← HK2.out] at hc; go_simp; try with_reducible rfl)
          try simp only [Act.put, List.getElem_toArray, List.getElem_cons_zero, List.getElem_cons_succ, List.setIfInBounds_toArray, List.set_cons_zero, List.set_cons_succ]
          refine wpAnyH_ready (rs := [0, 13]) (by kernel_rfl) (by simp) ?_
          refine AllReadyH.cons rfl (fun K hK => ?_) (AllReadyH.cons rfl (fun K hK => ?_) (AllReadyH.nil))
          · skip
            have nn : ((W5.drew).alloc (.cells #[.int .i64 0, .int .i64 1, .int .i64 999, .int .i64 1000] 3)).heap.size = W5.heap.size + 1 := by simp
            have hA := heap_at nn (.cells #[.int .i64 2, .int .i64 4] 3)
            have hG := carry_alloc hG (.cells #[.int .i64 2, .int .i64 4] 3)
            have hB := carry_alloc hB (.cells #[.int .i64 2, .int .i64 4] 3)
            go_simp
            refine hK.out _ _ ⟨hG, hB⟩ (fun hHeld => ?_)
            clear hK K nn
            try simp only [Act.put, List.getElem_toArray, List.getElem_cons_zero, List.getElem_cons_succ, List.setIfInBounds_toArray, List.set_cons_zero, List.set_cons_succ]
            refine wpAnyH_mono (S' := fun W => W.heap[g]? = some (.cells cur2 5 (0, 0)) ∧ W.heap[W5.heap.size]? = some (.cells #[.int .i64 0, .int .i64 1, .int .i64 999, .int .i64 1000] 3 (0, 0)) ∧ W.heap[W5.heap.size + 1]? = some (.cells #[.int .i64 2, .int .i64 4] 3 (0, 0))) (fun _ h => ⟨h.1, h.2.1⟩) _ _ _ _ ?_
            clear hHeld
            have hHeld : (fun W => W.heap[g]? = some (.cells cur2 5 (0, 0)) ∧ W.heap[W5.heap.size]? = some (.cells #[.int .i64 0, .int .i64 1, .int .i64 999, .int .i64 1000] 3 (0, 0)) ∧ W.heap[W5.heap.size + 1]? = some (.cells #[.int .i64 2, .int .i64 4] 3 (0, 0))) (((W5.drew).alloc (.cells #[.int .i64 0, .int .i64 1, .int .i64 999, .int .i64 1000] 3)).alloc (.cells #[.int .i64 2, .int .i64 4] 3)) := ⟨hG, hB, hA⟩
            refine wpAnyH_take (i := 3) (v := ?_) rfl (by kernel_rfl) (by kernel_rfl) (by kernel_rfl) (fun _ _ _ h => h) (Or.inl ⟨by rfl, ?_⟩) hHeld ?_
            rotate_left
            · (intro w hSw; (try dsimp only at hSw); go_simp; try with_reducible rfl)
            try simp only [Act.put, List.getElem_toArray, List.getElem_cons_zero, List.getElem_cons_succ, List.setIfInBounds_toArray, List.set_cons_zero, List.set_cons_succ]
            refine wpAnyH_take (i := 4) (v := ?_) rfl (by kernel_rfl) (by kernel_rfl) (by kernel_rfl) (fun _ _ _ h => h) (Or.inl ⟨by rfl, ?_⟩) hHeld ?_
            rotate_left
            · (intro w hSw; have hc := pick_int (hSw.2.2) [2, 4] rfl r1 q1; rw [← HK1.out] at hc; go_simp; try with_reducible rfl)
            try simp only [Act.put, List.getElem_toArray, List.getElem_cons_zero, List.getElem_cons_succ, List.setIfInBounds_toArray, List.set_cons_zero, List.set_cons_succ]
            refine wpAnyH_take (i := 12) (v := ?_) rfl (by kernel_rfl) (by kernel_rfl) (by kernel_rfl) (fun _ _ _ h => h) (Or.inl ⟨by rfl, ?_⟩) hHeld ?_
            rotate_left
            · (intro w hSw; (try dsimp only at hSw); go_simp; try with_reducible rfl)
            try simp only [Act.put, List.getElem_toArray, List.getElem_cons_zero, List.getElem_cons_succ, List.setIfInBounds_toArray, List.set_cons_zero, List.set_cons_succ]
            refine wpAnyH_ready (rs := [13]) (by kernel_rfl) (by simp) ?_
            refine AllReadyH.cons rfl (fun K hK => ?_) (AllReadyH.nil)
            · skip
              have nn : (((W5.drew).alloc (.cells #[.int .i64 0, .int .i64 1, .int .i64 999, .int .i64 1000] 3)).alloc (.cells #[.int .i64 2, .int .i64 4] 3)).heap.size = W5.heap.size + 2 := by simp
              have hX := heap_at nn (.cells #[.int .i64 0, .string ⟨#[]⟩, .int .i64 0] 26)
              have hG := carry_alloc hG (.cells #[.int .i64 0, .string ⟨#[]⟩, .int .i64 0] 26)
              have hB := carry_alloc hB (.cells #[.int .i64 0, .string ⟨#[]⟩, .int .i64 0] 26)
              have hA := carry_alloc hA (.cells #[.int .i64 0, .string ⟨#[]⟩, .int .i64 0] 26)
              go_simp
              refine hK.out _ _ ⟨hG, hB, hA⟩ (fun hHeld => ?_)
              clear hK K nn
              try simp only [Act.put, List.getElem_toArray, List.getElem_cons_zero, List.getElem_cons_succ, List.setIfInBounds_toArray, List.set_cons_zero, List.set_cons_succ]
              refine wpAnyH_ready (rs := [14]) (by kernel_rfl) (by simp) ?_
              refine AllReadyH.cons rfl (fun K hK => ?_) AllReadyH.nil
              obtain ⟨z0, z1, z2, zo, zb⟩ := chain3 W5 (.cells #[.int .i64 0, .int .i64 1, .int .i64 999, .int .i64 1000] 3) (.cells #[.int .i64 2, .int .i64 4] 3) (.cells #[.int .i64 k1, .string txt, .int .i64 k2] 26) W5.heap.size (by simp)
              go_simp
              refine hK.out _ _ ⟨(zo _ _ hG0), z0, z1⟩ (fun hHeld => ?_)
              clear hK K
              refine wpAnyH_done (by kernel_rfl) ?_ _
              go_wp2_with fail
              go_meet
              exact ⟨W5.heap.size + 2, rfl, z2, HB2.trans (show Below w.heap.size W5 _ from ⟨zb.os, zb.tape, zb.output, zb.size, fun k hk => zb.block k (Nat.lt_of_lt_of_le hk HB2.size)⟩)⟩
          · skip
            have nn : ((W5.drew).alloc (.cells #[.int .i64 0, .int .i64 1, .int .i64 999, .int .i64 1000] 3)).heap.size = W5.heap.size + 1 := by simp
            have hX := heap_at nn (.cells #[.int .i64 0, .string ⟨#[]⟩, .int .i64 0] 26)
            have hG := carry_alloc hG (.cells #[.int .i64 0, .string ⟨#[]⟩, .int .i64 0] 26)
            have hB := carry_alloc hB (.cells #[.int .i64 0, .string ⟨#[]⟩, .int .i64 0] 26)
            go_simp
            refine hK.out _ _ ⟨hG, hB⟩ (fun hHeld => ?_)
            clear hK K nn
            try simp only [Act.put, List.getElem_toArray, List.getElem_cons_zero, List.getElem_cons_succ, List.setIfInBounds_toArray, List.set_cons_zero, List.set_cons_succ]
            refine wpAnyH_ready (rs := [0]) (by kernel_rfl) (by simp) ?_
            refine AllReadyH.cons rfl (fun K hK => ?_) (AllReadyH.nil)
            · skip
              have nn : (((W5.drew).alloc (.cells #[.int .i64 0, .int .i64 1, .int .i64 999, .int .i64 1000] 3)).alloc (.cells #[.int .i64 0, .string ⟨#[]⟩, .int .i64 0] 26)).heap.size = W5.heap.size + 2 := by simp
              have hA := heap_at nn (.cells #[.int .i64 2, .int .i64 4] 3)
              have hG := carry_alloc hG (.cells #[.int .i64 2, .int .i64 4] 3)
              have hB := carry_alloc hB (.cells #[.int .i64 2, .int .i64 4] 3)
              have hX := carry_alloc hX (.cells #[.int .i64 2, .int .i64 4] 3)
              go_simp
              refine hK.out _ _ ⟨hG, hB⟩ (fun hHeld => ?_)
              clear hK K nn
              try simp only [Act.put, List.getElem_toArray, List.getElem_cons_zero, List.getElem_cons_succ, List.setIfInBounds_toArray, List.set_cons_zero, List.set_cons_succ]
              refine wpAnyH_mono (S' := fun W => W.heap[g]? = some (.cells cur2 5 (0, 0)) ∧ W.heap[W5.heap.size]? = some (.cells #[.int .i64 0, .int .i64 1, .int .i64 999, .int .i64 1000] 3 (0, 0)) ∧ W.heap[W5.heap.size + 2]? = some (.cells #[.int .i64 2, .int .i64 4] 3 (0, 0))) (fun _ h => ⟨h.1, h.2.1⟩) _ _ _ _ ?_
              clear hHeld
              have hHeld : (fun W => W.heap[g]? = some (.cells cur2 5 (0, 0)) ∧ W.heap[W5.heap.size]? = some (.cells #[.int .i64 0, .int .i64 1, .int .i64 999, .int .i64 1000] 3 (0, 0)) ∧ W.heap[W5.heap.size + 2]? = some (.cells #[.int .i64 2, .int .i64 4] 3 (0, 0))) ((((W5.drew).alloc (.cells #[.int .i64 0, .int .i64 1, .int .i64 999, .int .i64 1000] 3)).alloc (.cells #[.int .i64 0, .string ⟨#[]⟩, .int .i64 0] 26)).alloc (.cells #[.int .i64 2, .int .i64 4] 3)) := ⟨hG, hB, hA⟩
              refine wpAnyH_take (i := 3) (v := ?_) rfl (by kernel_rfl) (by kernel_rfl) (by kernel_rfl) (fun _ _ _ h => h) (Or.inl ⟨by rfl, ?_⟩) hHeld ?_
              rotate_left
              · (intro w hSw; (try dsimp only at hSw); go_simp; try with_reducible rfl)
              try simp only [Act.put, List.getElem_toArray, List.getElem_cons_zero, List.getElem_cons_succ, List.setIfInBounds_toArray, List.set_cons_zero, List.set_cons_succ]
              refine wpAnyH_take (i := 4) (v := ?_) rfl (by kernel_rfl) (by kernel_rfl) (by kernel_rfl) (fun _ _ _ h => h) (Or.inl ⟨by rfl, ?_⟩) hHeld ?_
              rotate_left
              · (intro w hSw; have hc := pick_int (hSw.2.2) [2, 4] rfl r1 q1; rw [← HK1.out] at hc; go_simp; try with_reducible rfl)
              try simp only [Act.put, List.getElem_toArray, List.getElem_cons_zero, List.getElem_cons_succ, List.setIfInBounds_toArray, List.set_cons_zero, List.set_cons_succ]
              refine wpAnyH_take (i := 12) (v := ?_) rfl (by kernel_rfl) (by kernel_rfl) (by kernel_rfl) (fun _ _ _ h => h) (Or.inl ⟨by rfl, ?_⟩) hHeld ?_
              rotate_left
              · (intro w hSw; (try dsimp only at hSw); go_simp; try with_reducible rfl)
              try simp only [Act.put, List.getElem_toArray, List.getElem_cons_zero, List.getElem_cons_succ, List.setIfInBounds_toArray, List.set_cons_zero, List.set_cons_succ]
              refine wpAnyH_ready (rs := [14]) (by kernel_rfl) (by simp) ?_
              refine AllReadyH.cons rfl (fun K hK => ?_) AllReadyH.nil
              obtain ⟨z0, z1, z2, zo, zb⟩ := chain3 W5 (.cells #[.int .i64 0, .int .i64 1, .int .i64 999, .int .i64 1000] 3) (.cells #[.int .i64 k1, .string txt, .int .i64 k2] 26) (.cells #[.int .i64 2, .int .i64 4] 3) W5.heap.size (by simp)
              go_simp
              refine hK.out _ _ ⟨(zo _ _ hG0), z0, z2⟩ (fun hHeld => ?_)
              clear hK K
              refine wpAnyH_done (by kernel_rfl) ?_ _
              go_wp2_with fail
              go_meet
              exact ⟨W5.heap.size + 1, rfl, z1, HB2.trans (show Below w.heap.size W5 _ from ⟨zb.os, zb.tape, zb.output, zb.size, fun k hk => zb.block k (Nat.lt_of_lt_of_le hk HB2.size)⟩)⟩
        · skip
          have nn : (W5.drew).heap.size = W5.heap.size := by simp
          have hX := heap_at nn (.cells #[.int .i64 0, .string ⟨#[]⟩, .int .i64 0] 26)
          have hG := carry_alloc hG (.cells #[.int .i64 0, .string ⟨#[]⟩, .int .i64 0] 26)
          go_simp
          refine hK.out _ _ hG (fun hHeld => ?_)
          clear hK K nn
          try simp only [Act.put, List.getElem_toArray, List.getElem_cons_zero, List.getElem_cons_succ, List.setIfInBounds_toArray, List.set_cons_zero, List.set_cons_succ]
          refine wpAnyH_ready (rs := [0, 7]) (by kernel_rfl) (by simp) ?_
          refine AllReadyH.cons rfl (fun K hK => ?_) (AllReadyH.cons rfl (fun K hK => ?_) (AllReadyH.nil))
          · skip
            have nn : ((W5.drew).alloc (.cells #[.int .i64 0, .string ⟨#[]⟩, .int .i64 0] 26)).heap.size = W5.heap.size + 1 := by simp
            have hA := heap_at nn (.cells #[.int .i64 2, .int .i64 4] 3)
            have hG := carry_alloc hG (.cells #[.int .i64 2, .int .i64 4] 3)
            have hX := carry_alloc hX (.cells #[.int .i64 2, .int .i64 4] 3)
            go_simp
            refine hK.out _ _ hG (fun hHeld => ?_)
            clear hK K nn
            try simp only [Act.put, List.getElem_toArray, List.getElem_cons_zero, List.getElem_cons_succ, List.setIfInBounds_toArray, List.set_cons_zero, List.set_cons_succ]
            refine wpAnyH_mono (S' := fun W => W.heap[g]? = some (.cells cur2 5 (0, 0)) ∧ W.heap[W5.heap.size + 1]? = some (.cells #[.int .i64 2, .int .i64 4] 3 (0, 0))) (fun _ h => h.1) _ _ _ _ ?_
            clear hHeld
            have hHeld : (fun W => W.heap[g]? = some (.cells cur2 5 (0, 0)) ∧ W.heap[W5.heap.size + 1]? = some (.cells #[.int .i64 2, .int .i64 4] 3 (0, 0))) (((W5.drew).alloc (.cells #[.int .i64 0, .string ⟨#[]⟩, .int .i64 0] 26)).alloc (.cells #[.int .i64 2, .int .i64 4] 3)) := ⟨hG, hA⟩
            refine wpAnyH_take (i := 3) (v := ?_) rfl (by kernel_rfl) (by kernel_rfl) (by kernel_rfl) (fun _ _ _ h => h) (Or.inl ⟨by rfl, ?_⟩) hHeld ?_
            rotate_left
            · (intro w hSw; (try dsimp only at hSw); go_simp; try with_reducible rfl)
            try simp only [Act.put, List.getElem_toArray, List.getElem_cons_zero, List.getElem_cons_succ, List.setIfInBounds_toArray, List.set_cons_zero, List.set_cons_succ]
            refine wpAnyH_take (i := 4) (v := ?_) rfl (by kernel_rfl) (by kernel_rfl) (by kernel_rfl) (fun _ _ _ h => h) (Or.inl ⟨by rfl, ?_⟩) hHeld ?_
            rotate_left
            · (intro w hSw; have hc := pick_int (hSw.2) [2, 4] rfl r1 q1; rw [← HK1.out] at hc; go_simp; try with_reducible rfl)
            try simp only [Act.put, List.getElem_toArray, List.getElem_cons_zero, List.getElem_cons_succ, List.setIfInBounds_toArray, List.set_cons_zero, List.set_cons_succ]
            refine wpAnyH_ready (rs := [7]) (by kernel_rfl) (by simp) ?_
            refine AllReadyH.cons rfl (fun K hK => ?_) (AllReadyH.nil)
            · skip
              have nn : (((W5.drew).alloc (.cells #[.int .i64 0, .string ⟨#[]⟩, .int .i64 0] 26)).alloc (.cells #[.int .i64 2, .int .i64 4] 3)).heap.size = W5.heap.size + 2 := by simp
              have hB := heap_at nn (.cells #[.int .i64 0, .int .i64 1, .int .i64 999, .int .i64 1000] 3)
              have hG := carry_alloc hG (.cells #[.int .i64 0, .int .i64 1, .int .i64 999, .int .i64 1000] 3)
              have hX := carry_alloc hX (.cells #[.int .i64 0, .int .i64 1, .int .i64 999, .int .i64 1000] 3)
              have hA := carry_alloc hA (.cells #[.int .i64 0, .int .i64 1, .int .i64 999, .int .i64 1000] 3)
              go_simp
              refine hK.out _ _ ⟨hG, hA⟩ (fun hHeld => ?_)
              clear hK K nn
              try simp only [Act.put, List.getElem_toArray, List.getElem_cons_zero, List.getElem_cons_succ, List.setIfInBounds_toArray, List.set_cons_zero, List.set_cons_succ]
              refine wpAnyH_mono (S' := fun W => W.heap[g]? = some (.cells cur2 5 (0, 0)) ∧ W.heap[W5.heap.size + 1]? = some (.cells #[.int .i64 2, .int .i64 4] 3 (0, 0)) ∧ W.heap[W5.heap.size + 2]? = some (.cells #[.int .i64 0, .int .i64 1, .int .i64 999, .int .i64 1000] 3 (0, 0))) (fun _ h => ⟨h.1, h.2.1⟩) _ _ _ _ ?_
              clear hHeld
              have hHeld : (fun W => W.heap[g]? = some (.cells cur2 5 (0, 0)) ∧ W.heap[W5.heap.size + 1]? = some (.cells #[.int .i64 2, .int .i64 4] 3 (0, 0)) ∧ W.heap[W5.heap.size + 2]? = some (.cells #[.int .i64 0, .int .i64 1, .int .i64 999, .int .i64 1000] 3 (0, 0))) ((((W5.drew).alloc (.cells #[.int .i64 0, .string ⟨#[]⟩, .int .i64 0] 26)).alloc (.cells #[.int .i64 2, .int .i64 4] 3)).alloc (.cells #[.int .i64 0, .int .i64 1, .int .i64 999, .int .i64 1000] 3)) := ⟨hG, hA, hB⟩
              refine wpAnyH_take (i := 10) (v := ?_) rfl (by kernel_rfl) (by kernel_rfl) (by kernel_rfl) (fun _ _ _ h => h) (Or.inl ⟨by rfl, ?_⟩) hHeld ?_
              rotate_left
              · (intro w hSw; (try dsimp only at hSw); go_simp; try with_reducible rfl)
              try simp only [Act.put, List.getElem_toArray, List.getElem_cons_zero, List.getElem_cons_succ, List.setIfInBounds_toArray, List.set_cons_zero, List.set_cons_succ]
              refine wpAnyH_take (i := 11) (v := ?_) rfl (by kernel_rfl) (by kernel_rfl) (by kernel_rfl) (fun _ _ _ h => h) (Or.inl ⟨by rfl, ?_⟩) hHeld ?_
              rotate_left
              · (intro w hSw; have hc := pick_int (hSw.2.2) [0, 1, 999, 1000] rfl r2 q2; rw [← HK2.out] at hc; go_simp; try with_reducible rfl)
              try simp only [Act.put, List.getElem_toArray, List.getElem_cons_zero, List.getElem_cons_succ, List.setIfInBounds_toArray, List.set_cons_zero, List.set_cons_succ]
              refine wpAnyH_take (i := 12) (v := ?_) rfl (by kernel_rfl) (by kernel_rfl) (by kernel_rfl) (fun _ _ _ h => h) (Or.inl ⟨by rfl, ?_⟩) hHeld ?_
              rotate_left
              · (intro w hSw; (try dsimp only at hSw); go_simp; try with_reducible rfl)
              try simp only [Act.put, List.getElem_toArray, List.getElem_cons_zero, List.getElem_cons_succ, List.setIfInBounds_toArray, List.set_cons_zero, List.set_cons_succ]
              refine wpAnyH_ready (rs := [14]) (by kernel_rfl) (by simp) ?_
              refine AllReadyH.cons rfl (fun K hK => ?_) AllReadyH.nil
              obtain ⟨z0, z1, z2, zo, zb⟩ := chain3 W5 (.cells #[.int .i64 k1, .string txt, .int .i64 k2] 26) (.cells #[.int .i64 2, .int .i64 4] 3) (.cells #[.int .i64 0, .int .i64 1, .int .i64 999, .int .i64 1000] 3) W5.heap.size (by simp)
              go_simp
              refine hK.out _ _ ⟨(zo _ _ hG0), z1, z2⟩ (fun hHeld => ?_)
              clear hK K
              refine wpAnyH_done (by kernel_rfl) ?_ _
              go_wp2_with fail
              go_meet
              exact ⟨W5.heap.size, rfl, z0, HB2.trans (show Below w.heap.size W5 _ from ⟨zb.os, zb.tape, zb.output, zb.size, fun k hk => zb.block k (Nat.lt_of_lt_of_le hk HB2.size)⟩)⟩
          · skip
            have nn : ((W5.drew).alloc (.cells #[.int .i64 0, .string ⟨#[]⟩, .int .i64 0] 26)).heap.size = W5.heap.size + 1 := by simp
            have hB := heap_at nn (.cells #[.int .i64 0, .int .i64 1, .int .i64 999, .int .i64 1000] 3)
            have hG := carry_alloc hG (.cells #[.int .i64 0, .int .i64 1, .int .i64 999, .int .i64 1000] 3)
            have hX := carry_alloc hX (.cells #[.int .i64 0, .int .i64 1, .int .i64 999, .int .i64 1000] 3)
            go_simp
            refine hK.out _ _ hG (fun hHeld => ?_)
            clear hK K nn
            try simp only [Act.put, List.getElem_toArray, List.getElem_cons_zero, List.getElem_cons_succ, List.setIfInBounds_toArray, List.set_cons_zero, List.set_cons_succ]
            refine wpAnyH_mono (S' := fun W => W.heap[g]? = some (.cells cur2 5 (0, 0)) ∧ W.heap[W5.heap.size + 1]? = some (.cells #[.int .i64 0, .int .i64 1, .int .i64 999, .int .i64 1000] 3 (0, 0))) (fun _ h => h.1) _ _ _ _ ?_
            clear hHeld
            have hHeld : (fun W => W.heap[g]? = some (.cells cur2 5 (0, 0)) ∧ W.heap[W5.heap.size + 1]? = some (.cells #[.int .i64 0, .int .i64 1, .int .i64 999, .int .i64 1000] 3 (0, 0))) (((W5.drew).alloc (.cells #[.int .i64 0, .string ⟨#[]⟩, .int .i64 0] 26)).alloc (.cells #[.int .i64 0, .int .i64 1, .int .i64 999, .int .i64 1000] 3)) := ⟨hG, hB⟩
            refine wpAnyH_take (i := 10) (v := ?_) rfl (by kernel_rfl) (by kernel_rfl) (by kernel_rfl) (fun _ _ _ h => h) (Or.inl ⟨by rfl, ?_⟩) hHeld ?_
            rotate_left
            · (intro w hSw; (try dsimp only at hSw); go_simp; try with_reducible rfl)
            try simp only [Act.put, List.getElem_toArray, List.getElem_cons_zero, List.getElem_cons_succ, List.setIfInBounds_toArray, List.set_cons_zero, List.set_cons_succ]
            refine wpAnyH_take (i := 11) (v := ?_) rfl (by kernel_rfl) (by kernel_rfl) (by kernel_rfl) (fun _ _ _ h => h) (Or.inl ⟨by rfl, ?_⟩) hHeld ?_
            rotate_left
            · (intro w hSw; have hc := pick_int (hSw.2) [0, 1, 999, 1000] rfl r2 q2; rw [← HK2.out] at hc; go_simp; try with_reducible rfl)
            try simp only [Act.put, List.getElem_toArray, List.getElem_cons_zero, List.getElem_cons_succ, List.setIfInBounds_toArray, List.set_cons_zero, List.set_cons_succ]
            refine wpAnyH_ready (rs := [0]) (by kernel_rfl) (by simp) ?_
            refine AllReadyH.cons rfl (fun K hK => ?_) (AllReadyH.nil)
            · skip
              have nn : (((W5.drew).alloc (.cells #[.int .i64 0, .string ⟨#[]⟩, .int .i64 0] 26)).alloc (.cells #[.int .i64 0, .int .i64 1, .int .i64 999, .int .i64 1000] 3)).heap.size = W5.heap.size + 2 := by simp
              have hA := heap_at nn (.cells #[.int .i64 2, .int .i64 4] 3)
              have hG := carry_alloc hG (.cells #[.int .i64 2, .int .i64 4] 3)
              have hX := carry_alloc hX (.cells #[.int .i64 2, .int .i64 4] 3)
              have hB := carry_alloc hB (.cells #[.int .i64 2, .int .i64 4] 3)
              go_simp
              refine hK.out _ _ ⟨hG, hB⟩ (fun hHeld => ?_)
              clear hK K nn
              try simp only [Act.put, List.getElem_toArray, List.getElem_cons_zero, List.getElem_cons_succ, List.setIfInBounds_toArray, List.set_cons_zero, List.set_cons_succ]
              refine wpAnyH_mono (S' := fun W => W.heap[g]? = some (.cells cur2 5 (0, 0)) ∧ W.heap[W5.heap.size + 1]? = some (.cells #[.int .i64 0, .int .i64 1, .int .i64 999, .int .i64 1000] 3 (0, 0)) ∧ W.heap[W5.heap.size + 2]? = some (.cells #[.int .i64 2, .int .i64 4] 3 (0, 0))) (fun _ h => ⟨h.1, h.2.1⟩) _ _ _ _ ?_
              clear hHeld
              have hHeld : (fun W => W.heap[g]? = some (.cells cur2 5 (0, 0)) ∧ W.heap[W5.heap.size + 1]? = some (.cells #[.int .i64 0, .int .i64 1, .int .i64 999, .int .i64 1000] 3 (0, 0)) ∧ W.heap[W5.heap.size + 2]? = some (.cells #[.int .i64 2, .int .i64 4] 3 (0, 0))) ((((W5.drew).alloc (.cells #[.int .i64 0, .string ⟨#[]⟩, .int .i64 0] 26)).alloc (.cells #[.int .i64 0, .int .i64 1, .int .i64 999, .int .i64 1000] 3)).alloc (.cells #[.int .i64 2, .int .i64 4] 3)) := ⟨hG, hB, hA⟩
              refine wpAnyH_take (i := 3) (v := ?_) rfl (by kernel_rfl) (by kernel_rfl) (by kernel_rfl) (fun _ _ _ h => h) (Or.inl ⟨by rfl, ?_⟩) hHeld ?_
              rotate_left
              · (intro w hSw; (try dsimp only at hSw); go_simp; try with_reducible rfl)
              try simp only [Act.put, List.getElem_toArray, List.getElem_cons_zero, List.getElem_cons_succ, List.setIfInBounds_toArray, List.set_cons_zero, List.set_cons_succ]
              refine wpAnyH_take (i := 4) (v := ?_) rfl (by kernel_rfl) (by kernel_rfl) (by kernel_rfl) (fun _ _ _ h => h) (Or.inl ⟨by rfl, ?_⟩) hHeld ?_
              rotate_left
              · (intro w hSw; have hc := pick_int (hSw.2.2) [2, 4] rfl r1 q1; rw [← HK1.out] at hc; go_simp; try with_reducible rfl)
              try simp only [Act.put, List.getElem_toArray, List.getElem_cons_zero, List.getElem_cons_succ, List.setIfInBounds_toArray, List.set_cons_zero, List.set_cons_succ]
              refine wpAnyH_take (i := 12) (v := ?_) rfl (by kernel_rfl) (by kernel_rfl) (by kernel_rfl) (fun _ _ _ h => h) (Or.inl ⟨by rfl, ?_⟩) hHeld ?_
              rotate_left
              · (intro w hSw; (try dsimp only at hSw); go_simp; try with_reducible rfl)
              try simp only [Act.put, List.getElem_toArray, List.getElem_cons_zero, List.getElem_cons_succ, List.setIfInBounds_toArray, List.set_cons_zero, List.set_cons_succ]
              refine wpAnyH_ready (rs := [14]) (by kernel_rfl) (by simp) ?_
              refine AllReadyH.cons rfl (fun K hK => ?_) AllReadyH.nil
              obtain ⟨z0, z1, z2, zo, zb⟩ := chain3 W5 (.cells #[.int .i64 k1, .string txt, .int .i64 k2] 26) (.cells #[.int .i64 0, .int .i64 1, .int .i64 999, .int .i64 1000] 3) (.cells #[.int .i64 2, .int .i64 4] 3) W5.heap.size (by simp)
              go_simp
              refine hK.out _ _ ⟨(zo _ _ hG0), z1, z2⟩ (fun hHeld => ?_)
              clear hK K
              refine wpAnyH_done (by kernel_rfl) ?_ _
              go_wp2_with fail
              go_meet
              exact ⟨W5.heap.size, rfl, z0, HB2.trans (show Below w.heap.size W5 _ from ⟨zb.os, zb.tape, zb.output, zb.size, fun k hk => zb.block k (Nat.lt_of_lt_of_le hk HB2.size)⟩)⟩
      case rest =>
        obtain ⟨Bx, rfl, hX, bl⟩ := hcut
        have htx : txt.size = 62 + r0 := HTS.out
        have oX : Oks [(⟨k1, txt, k2⟩ : It)] := fun i hi => by
          have : i = 0 := by simp at hi; exact hi
          subst this
          exact ⟨wf_small (by show -1000 ≤ k1; omega) (by show k1 ≤ 1000; omega), by show txt.size ≤ _; omega, wf_small (by show -1000 ≤ k2; omega) (by show k2 ≤ 1000; omega)⟩
        have cc1 := fun W => iscontent_any txt W (by unfold maxLen; omega)
        have cc2 := fun W => riscontent_any txt W (by unfold maxLen; omega)
        have vv1 : ∀ W p, Its W p [(⟨k1, txt, k2⟩ : It)] → Calls Try.prog 19 #[.slice p 1 1] W fun e w' => e = .returned (.int .i64 (valE [(⟨k1, txt, k2⟩ : It)])) ∧ Below W.heap.size W w' := fun W p h => validate_any p 1 [(⟨k1, txt, k2⟩ : It)] W h oX (by simp) (by unfold maxLen; omega)
        have vv2 : ∀ W p, Its W p [(⟨k1, txt, k2⟩ : It)] → Calls Try.prog 20 #[.slice p 1 1] W fun e w' => e = .returned (.int .i64 (valE [(⟨k1, txt, k2⟩ : It)])) ∧ Below W.heap.size W w' := fun W p h => rvalidate_any p 1 [(⟨k1, txt, k2⟩ : It)] W h oX (by simp) (by unfold maxLen; omega)
        generalize valE [(⟨k1, txt, k2⟩ : It)] = EE at *
        generalize isCon txt = CB at *
        have C1 := Lib.hid cc1; have C2 := Lib.hid cc2; have V1 := Lib.hid vv1; have V2 := Lib.hid vv2
        clear cc1 cc2 vv1 vv2 oX htx HB2 HH2
        go_upto_region 7 with fail
        have bl : Below w.heap.size w wc.drew := ⟨bl.os, bl.tape, bl.output, bl.size, bl.block⟩
        have hX : wc.drew.heap[Bx]? = some (.cells #[.int .i64 k1, .string txt, .int .i64 k2] 26 (0, 0)) := hX
        refine wp_region_held_drew (S := fun W => W.heap[Bx]? = some (.cells #[.int .i64 k1, .string txt, .int .i64 k2] 26 (0, 0))) (by kernel_rfl) (hX) (fun hHeld => ?_)
        refine wpAnyH_take (i := 0) (v := ?_) rfl (by kernel_rfl) (by kernel_rfl) (by kernel_rfl) (fun _ _ _ h => h) (Or.inl ⟨by rfl, ?_⟩) hHeld ?_
        rotate_left
        · (intro w hSw; (try dsimp only at hSw); go_simp; try with_reducible rfl)
        try simp only [Act.put, List.getElem_toArray, List.getElem_cons_zero, List.getElem_cons_succ, List.setIfInBounds_toArray, List.set_cons_zero, List.set_cons_succ]
        refine wpAnyH_take (i := 3) (v := ?_) rfl (by kernel_rfl) (by kernel_rfl) (by kernel_rfl) (fun _ _ _ h => h) (Or.inl ⟨by rfl, ?_⟩) hHeld ?_
        rotate_left
        · (intro w hSw; (try dsimp only at hSw); go_simp; try with_reducible rfl)
        try simp only [Act.put, List.getElem_toArray, List.getElem_cons_zero, List.getElem_cons_succ, List.setIfInBounds_toArray, List.set_cons_zero, List.set_cons_succ]
        refine wpAnyH_take (i := 1) (v := ?_) rfl (by kernel_rfl) (by kernel_rfl) (by kernel_rfl) (fun _ _ _ h => h) (Or.inl ⟨by rfl, ?_⟩) hHeld ?_
        rotate_left
        · (intro w hSw; obtain ⟨c0, c1, c2, _, _, _⟩ := cells_item hSw; go_simp; try with_reducible rfl)
        try simp only [Act.put, List.getElem_toArray, List.getElem_cons_zero, List.getElem_cons_succ, List.setIfInBounds_toArray, List.set_cons_zero, List.set_cons_succ]
        refine wpAnyH_take (i := 4) (v := ?_) rfl (by kernel_rfl) (by kernel_rfl) (by kernel_rfl) (fun _ _ _ h => h) (Or.inl ⟨by rfl, ?_⟩) hHeld ?_
        rotate_left
        · (intro w hSw; obtain ⟨c0, c1, c2, _, _, _⟩ := cells_item hSw; go_simp; try with_reducible rfl)
        try simp only [Act.put, List.getElem_toArray, List.getElem_cons_zero, List.getElem_cons_succ, List.setIfInBounds_toArray, List.set_cons_zero, List.set_cons_succ]
        refine wpAnyH_ready (rs := [2]) (by kernel_rfl) (by simp) ?_
        refine AllReadyH.cons rfl (fun K hK => ?_) (AllReadyH.nil)
        go_simp
        refine (C1.out _).mono ?_; rintro e y1 ⟨rfl, hb⟩
        have hX := below_keep hX hb; have bl := BelowOn bl hb
        go_wp2_with fail
        refine hK.out _ _ hX (fun hHeld => ?_)
        clear hK K
        try simp only [Act.put, List.getElem_toArray, List.getElem_cons_zero, List.getElem_cons_succ, List.setIfInBounds_toArray, List.set_cons_zero, List.set_cons_succ]
        refine wpAnyH_ready (rs := [5]) (by kernel_rfl) (by simp) ?_
        refine AllReadyH.cons rfl (fun K hK => ?_) (AllReadyH.nil)
        go_simp
        refine (C2.out _).mono ?_; rintro e y2 ⟨rfl, rfl⟩
        go_wp2_with fail
        refine hK.out _ _ hX (fun hHeld => ?_)
        clear hK K
        try simp only [Act.put, List.getElem_toArray, List.getElem_cons_zero, List.getElem_cons_succ, List.setIfInBounds_toArray, List.set_cons_zero, List.set_cons_succ]
        refine wpAnyH_take (i := 6) (v := ?_) rfl (by kernel_rfl) (by kernel_rfl) (by kernel_rfl) (fun _ _ _ h => h) (Or.inl ⟨by rfl, ?_⟩) hHeld ?_
        rotate_left
        · (intro w hSw; (try dsimp only at hSw); go_simp; try with_reducible rfl)
        try simp only [Act.put, List.getElem_toArray, List.getElem_cons_zero, List.getElem_cons_succ, List.setIfInBounds_toArray, List.set_cons_zero, List.set_cons_succ]
        refine wpAnyH_take (i := 7) (v := ?_) rfl (by kernel_rfl) (by kernel_rfl) (by kernel_rfl) (fun _ _ _ h => h) (Or.inl ⟨by rfl, ?_⟩) hHeld ?_
        rotate_left
        · (intro w hSw; (try dsimp only at hSw); go_simp; try with_reducible rfl)
        try simp only [Act.put, List.getElem_toArray, List.getElem_cons_zero, List.getElem_cons_succ, List.setIfInBounds_toArray, List.set_cons_zero, List.set_cons_succ]
        refine wpAnyH_take (i := 8) (v := ?_) rfl (by kernel_rfl) (by kernel_rfl) (by kernel_rfl) (fun _ _ _ h => h) (Or.inl ⟨by rfl, ?_⟩) hHeld ?_
        rotate_left
        · (intro w hSw; obtain ⟨c0, c1, c2, _, _, _⟩ := cells_item hSw; go_simp; try with_reducible rfl)
        try simp only [Act.put, List.getElem_toArray, List.getElem_cons_zero, List.getElem_cons_succ, List.setIfInBounds_toArray, List.set_cons_zero, List.set_cons_succ]
        refine wpAnyH_take (i := 11) (v := ?_) rfl (by kernel_rfl) (by kernel_rfl) (by kernel_rfl) (fun _ _ _ h => h) (Or.inl ⟨by rfl, ?_⟩) hHeld ?_
        rotate_left
        · (intro w hSw; obtain ⟨c0, c1, c2, _, _, _⟩ := cells_item hSw; go_simp; try with_reducible rfl)
        try simp only [Act.put, List.getElem_toArray, List.getElem_cons_zero, List.getElem_cons_succ, List.setIfInBounds_toArray, List.set_cons_zero, List.set_cons_succ]
        refine wpAnyH_ready (rs := [9, 12]) (by kernel_rfl) (by simp) ?_
        refine AllReadyH.cons rfl (fun K hK => ?_) (AllReadyH.cons rfl (fun K hK => ?_) (AllReadyH.nil))
        · skip
          have hS0 := its_one (x := ⟨k1, txt, k2⟩) (heap_at (show (y1).heap.size = y1.heap.size by simp) (.cells #[.int .i64 k1, .string txt, .int .i64 k2] 26))
          have hX := carry_alloc hX (.cells #[.int .i64 k1, .string txt, .int .i64 k2] 26); have bl := blw bl (.cells #[.int .i64 k1, .string txt, .int .i64 k2] 26)
          have hS := hS0
          go_simp
          refine hK.out _ _ hX (fun hHeld => ?_)
          clear hK K
          try simp only [Act.put, List.getElem_toArray, List.getElem_cons_zero, List.getElem_cons_succ, List.setIfInBounds_toArray, List.set_cons_zero, List.set_cons_succ]
          refine wpAnyH_ready (rs := [10, 12]) (by kernel_rfl) (by simp) ?_
          refine AllReadyH.cons rfl (fun K hK => ?_) (AllReadyH.cons rfl (fun K hK => ?_) (AllReadyH.nil))
          · skip
            go_simp
            refine (V1.out _ _ hS).mono ?_; rintro e y3 ⟨rfl, hb⟩
            have hX := below_keep hX hb; have bl := BelowOn bl hb
            go_wp2_with fail
            refine hK.out _ _ hX (fun hHeld => ?_)
            clear hK K
            try simp only [Act.put, List.getElem_toArray, List.getElem_cons_zero, List.getElem_cons_succ, List.setIfInBounds_toArray, List.set_cons_zero, List.set_cons_succ]
            refine wpAnyH_ready (rs := [12]) (by kernel_rfl) (by simp) ?_
            refine AllReadyH.cons rfl (fun K hK => ?_) (AllReadyH.nil)
            have hT0 := its_one (x := ⟨k1, txt, k2⟩) (heap_at (show (y3).heap.size = y3.heap.size by simp) (.cells #[.int .i64 k1, .string txt, .int .i64 k2] 26))
            have hX := carry_alloc hX (.cells #[.int .i64 k1, .string txt, .int .i64 k2] 26); have bl := blw bl (.cells #[.int .i64 k1, .string txt, .int .i64 k2] 26)
            have hT := hT0
            go_simp
            refine hK.out _ _ hX (fun hHeld => ?_)
            clear hK K
            try simp only [Act.put, List.getElem_toArray, List.getElem_cons_zero, List.getElem_cons_succ, List.setIfInBounds_toArray, List.set_cons_zero, List.set_cons_succ]
            refine wpAnyH_ready (rs := [13]) (by kernel_rfl) (by simp) ?_
            refine AllReadyH.cons rfl (fun K hK => ?_) (AllReadyH.nil)
            go_simp
            refine (V2.out _ _ hT).mono ?_; rintro e y4 ⟨rfl, hb⟩
            have hX := below_keep hX hb; have bl := BelowOn bl hb
            go_wp2_with fail
            refine hK.out _ _ hX (fun hHeld => ?_)
            clear hK K
            try simp only [Act.put, List.getElem_toArray, List.getElem_cons_zero, List.getElem_cons_succ, List.setIfInBounds_toArray, List.set_cons_zero, List.set_cons_succ]
            refine wpAnyH_take (i := 14) (v := ?_) rfl (by kernel_rfl) (by kernel_rfl) (by kernel_rfl) (fun _ _ _ h => h) (Or.inl ⟨by rfl, ?_⟩) hHeld ?_
            rotate_left
            · (intro w hSw; (try dsimp only at hSw); go_simp; try with_reducible rfl)
            try simp only [Act.put, List.getElem_toArray, List.getElem_cons_zero, List.getElem_cons_succ, List.setIfInBounds_toArray, List.set_cons_zero, List.set_cons_succ]
            refine wpAnyH_take (i := 15) (v := ?_) rfl (by kernel_rfl) (by kernel_rfl) (by kernel_rfl) (fun _ _ _ h => h) (Or.inl ⟨by rfl, ?_⟩) hHeld ?_
            rotate_left
            · (intro w hSw; (try dsimp only at hSw); go_simp; try with_reducible rfl)
            try simp only [Act.put, List.getElem_toArray, List.getElem_cons_zero, List.getElem_cons_succ, List.setIfInBounds_toArray, List.set_cons_zero, List.set_cons_succ]
            refine wpAnyH_take (i := 16) (v := ?_) rfl (by kernel_rfl) (by kernel_rfl) (by kernel_rfl) (fun _ _ _ h => h) (Or.inl ⟨by rfl, ?_⟩) hHeld ?_
            rotate_left
            · (intro w hSw; (try dsimp only at hSw); go_simp; try with_reducible rfl)
            try simp only [Act.put, List.getElem_toArray, List.getElem_cons_zero, List.getElem_cons_succ, List.setIfInBounds_toArray, List.set_cons_zero, List.set_cons_succ]
            refine wpAnyH_ready (rs := [17]) (by kernel_rfl) (by simp) ?_
            refine AllReadyH.cons rfl (fun K hK => ?_) (AllReadyH.nil)
            go_simp
            refine (known_any _).mono ?_; rintro e y5 ⟨rfl, hb⟩
            have hX := below_keep hX hb; have bl := BelowOn bl hb
            go_wp2_with fail
            refine hK.out _ _ hX (fun hHeld => ?_)
            clear hK K
            try simp only [Act.put, List.getElem_toArray, List.getElem_cons_zero, List.getElem_cons_succ, List.setIfInBounds_toArray, List.set_cons_zero, List.set_cons_succ]
            refine wpAnyH_take (i := 18) (v := ?_) rfl (by kernel_rfl) (by kernel_rfl) (by kernel_rfl) (fun _ _ _ h => h) (Or.inl ⟨by rfl, ?_⟩) hHeld ?_
            rotate_left
            · (intro w hSw; (try dsimp only at hSw); go_simp; try with_reducible rfl)
            try simp only [Act.put, List.getElem_toArray, List.getElem_cons_zero, List.getElem_cons_succ, List.setIfInBounds_toArray, List.set_cons_zero, List.set_cons_succ]
            refine wpAnyH_take (i := 19) (v := ?_) rfl (by kernel_rfl) (by kernel_rfl) (by kernel_rfl) (fun _ _ _ h => h) (Or.inl ⟨by rfl, ?_⟩) hHeld ?_
            rotate_left
            · (intro w hSw; (try dsimp only at hSw); go_simp; try with_reducible rfl)
            try simp only [Act.put, List.getElem_toArray, List.getElem_cons_zero, List.getElem_cons_succ, List.setIfInBounds_toArray, List.set_cons_zero, List.set_cons_succ]
            refine wpAnyH_done (by kernel_rfl) ?_ _
            go_wp2_with fail
            go_ret
            exact ⟨rfl, bl⟩
          · skip
            have hT0 := its_one (x := ⟨k1, txt, k2⟩) (heap_at (show ((y1).alloc (.cells #[.int .i64 k1, .string txt, .int .i64 k2] 26)).heap.size = y1.heap.size + 1 by simp) (.cells #[.int .i64 k1, .string txt, .int .i64 k2] 26))
            have hX := carry_alloc hX (.cells #[.int .i64 k1, .string txt, .int .i64 k2] 26); have bl := blw bl (.cells #[.int .i64 k1, .string txt, .int .i64 k2] 26)
            have hS := hS.call (blw (Below.refl _ _) (.cells #[.int .i64 k1, .string txt, .int .i64 k2] 26))
            have hT := hT0
            go_simp
            refine hK.out _ _ hX (fun hHeld => ?_)
            clear hK K
            try simp only [Act.put, List.getElem_toArray, List.getElem_cons_zero, List.getElem_cons_succ, List.setIfInBounds_toArray, List.set_cons_zero, List.set_cons_succ]
            refine wpAnyH_ready (rs := [10]) (by kernel_rfl) (by simp) ?_
            refine AllReadyH.cons rfl (fun K hK => ?_) (AllReadyH.nil)
            go_simp
            refine (V1.out _ _ hS).mono ?_; rintro e y6 ⟨rfl, hb⟩
            have hX := below_keep hX hb; have bl := BelowOn bl hb
            have hT := hT.call hb
            go_wp2_with fail
            refine hK.out _ _ hX (fun hHeld => ?_)
            clear hK K
            try simp only [Act.put, List.getElem_toArray, List.getElem_cons_zero, List.getElem_cons_succ, List.setIfInBounds_toArray, List.set_cons_zero, List.set_cons_succ]
            refine wpAnyH_ready (rs := [13]) (by kernel_rfl) (by simp) ?_
            refine AllReadyH.cons rfl (fun K hK => ?_) (AllReadyH.nil)
            go_simp
            refine (V2.out _ _ hT).mono ?_; rintro e y7 ⟨rfl, hb⟩
            have hX := below_keep hX hb; have bl := BelowOn bl hb
            go_wp2_with fail
            refine hK.out _ _ hX (fun hHeld => ?_)
            clear hK K
            try simp only [Act.put, List.getElem_toArray, List.getElem_cons_zero, List.getElem_cons_succ, List.setIfInBounds_toArray, List.set_cons_zero, List.set_cons_succ]
            refine wpAnyH_take (i := 14) (v := ?_) rfl (by kernel_rfl) (by kernel_rfl) (by kernel_rfl) (fun _ _ _ h => h) (Or.inl ⟨by rfl, ?_⟩) hHeld ?_
            rotate_left
            · (intro w hSw; (try dsimp only at hSw); go_simp; try with_reducible rfl)
            try simp only [Act.put, List.getElem_toArray, List.getElem_cons_zero, List.getElem_cons_succ, List.setIfInBounds_toArray, List.set_cons_zero, List.set_cons_succ]
            refine wpAnyH_take (i := 15) (v := ?_) rfl (by kernel_rfl) (by kernel_rfl) (by kernel_rfl) (fun _ _ _ h => h) (Or.inl ⟨by rfl, ?_⟩) hHeld ?_
            rotate_left
            · (intro w hSw; (try dsimp only at hSw); go_simp; try with_reducible rfl)
            try simp only [Act.put, List.getElem_toArray, List.getElem_cons_zero, List.getElem_cons_succ, List.setIfInBounds_toArray, List.set_cons_zero, List.set_cons_succ]
            refine wpAnyH_take (i := 16) (v := ?_) rfl (by kernel_rfl) (by kernel_rfl) (by kernel_rfl) (fun _ _ _ h => h) (Or.inl ⟨by rfl, ?_⟩) hHeld ?_
            rotate_left
            · (intro w hSw; (try dsimp only at hSw); go_simp; try with_reducible rfl)
            try simp only [Act.put, List.getElem_toArray, List.getElem_cons_zero, List.getElem_cons_succ, List.setIfInBounds_toArray, List.set_cons_zero, List.set_cons_succ]
            refine wpAnyH_ready (rs := [17]) (by kernel_rfl) (by simp) ?_
            refine AllReadyH.cons rfl (fun K hK => ?_) (AllReadyH.nil)
            go_simp
            refine (known_any _).mono ?_; rintro e y8 ⟨rfl, hb⟩
            have hX := below_keep hX hb; have bl := BelowOn bl hb
            go_wp2_with fail
            refine hK.out _ _ hX (fun hHeld => ?_)
            clear hK K
            try simp only [Act.put, List.getElem_toArray, List.getElem_cons_zero, List.getElem_cons_succ, List.setIfInBounds_toArray, List.set_cons_zero, List.set_cons_succ]
            refine wpAnyH_take (i := 18) (v := ?_) rfl (by kernel_rfl) (by kernel_rfl) (by kernel_rfl) (fun _ _ _ h => h) (Or.inl ⟨by rfl, ?_⟩) hHeld ?_
            rotate_left
            · (intro w hSw; (try dsimp only at hSw); go_simp; try with_reducible rfl)
            try simp only [Act.put, List.getElem_toArray, List.getElem_cons_zero, List.getElem_cons_succ, List.setIfInBounds_toArray, List.set_cons_zero, List.set_cons_succ]
            refine wpAnyH_take (i := 19) (v := ?_) rfl (by kernel_rfl) (by kernel_rfl) (by kernel_rfl) (fun _ _ _ h => h) (Or.inl ⟨by rfl, ?_⟩) hHeld ?_
            rotate_left
            · (intro w hSw; (try dsimp only at hSw); go_simp; try with_reducible rfl)
            try simp only [Act.put, List.getElem_toArray, List.getElem_cons_zero, List.getElem_cons_succ, List.setIfInBounds_toArray, List.set_cons_zero, List.set_cons_succ]
            refine wpAnyH_done (by kernel_rfl) ?_ _
            go_wp2_with fail
            go_ret
            exact ⟨rfl, bl⟩
        · skip
          have hT0 := its_one (x := ⟨k1, txt, k2⟩) (heap_at (show (y1).heap.size = y1.heap.size by simp) (.cells #[.int .i64 k1, .string txt, .int .i64 k2] 26))
          have hX := carry_alloc hX (.cells #[.int .i64 k1, .string txt, .int .i64 k2] 26); have bl := blw bl (.cells #[.int .i64 k1, .string txt, .int .i64 k2] 26)
          have hT := hT0
          go_simp
          refine hK.out _ _ hX (fun hHeld => ?_)
          clear hK K
          try simp only [Act.put, List.getElem_toArray, List.getElem_cons_zero, List.getElem_cons_succ, List.setIfInBounds_toArray, List.set_cons_zero, List.set_cons_succ]
          refine wpAnyH_ready (rs := [9]) (by kernel_rfl) (by simp) ?_
          refine AllReadyH.cons rfl (fun K hK => ?_) (AllReadyH.nil)
          have hS0 := its_one (x := ⟨k1, txt, k2⟩) (heap_at (show ((y1).alloc (.cells #[.int .i64 k1, .string txt, .int .i64 k2] 26)).heap.size = y1.heap.size + 1 by simp) (.cells #[.int .i64 k1, .string txt, .int .i64 k2] 26))
          have hX := carry_alloc hX (.cells #[.int .i64 k1, .string txt, .int .i64 k2] 26); have bl := blw bl (.cells #[.int .i64 k1, .string txt, .int .i64 k2] 26)
          have hT := hT.call (blw (Below.refl _ _) (.cells #[.int .i64 k1, .string txt, .int .i64 k2] 26))
          have hS := hS0
          go_simp
          refine hK.out _ _ hX (fun hHeld => ?_)
          clear hK K
          try simp only [Act.put, List.getElem_toArray, List.getElem_cons_zero, List.getElem_cons_succ, List.setIfInBounds_toArray, List.set_cons_zero, List.set_cons_succ]
          refine wpAnyH_ready (rs := [10]) (by kernel_rfl) (by simp) ?_
          refine AllReadyH.cons rfl (fun K hK => ?_) (AllReadyH.nil)
          go_simp
          refine (V1.out _ _ hS).mono ?_; rintro e y9 ⟨rfl, hb⟩
          have hX := below_keep hX hb; have bl := BelowOn bl hb
          have hT := hT.call hb
          go_wp2_with fail
          refine hK.out _ _ hX (fun hHeld => ?_)
          clear hK K
          try simp only [Act.put, List.getElem_toArray, List.getElem_cons_zero, List.getElem_cons_succ, List.setIfInBounds_toArray, List.set_cons_zero, List.set_cons_succ]
          refine wpAnyH_ready (rs := [13]) (by kernel_rfl) (by simp) ?_
          refine AllReadyH.cons rfl (fun K hK => ?_) (AllReadyH.nil)
          go_simp
          refine (V2.out _ _ hT).mono ?_; rintro e y10 ⟨rfl, hb⟩
          have hX := below_keep hX hb; have bl := BelowOn bl hb
          go_wp2_with fail
          refine hK.out _ _ hX (fun hHeld => ?_)
          clear hK K
          try simp only [Act.put, List.getElem_toArray, List.getElem_cons_zero, List.getElem_cons_succ, List.setIfInBounds_toArray, List.set_cons_zero, List.set_cons_succ]
          refine wpAnyH_take (i := 14) (v := ?_) rfl (by kernel_rfl) (by kernel_rfl) (by kernel_rfl) (fun _ _ _ h => h) (Or.inl ⟨by rfl, ?_⟩) hHeld ?_
          rotate_left
          · (intro w hSw; (try dsimp only at hSw); go_simp; try with_reducible rfl)
          try simp only [Act.put, List.getElem_toArray, List.getElem_cons_zero, List.getElem_cons_succ, List.setIfInBounds_toArray, List.set_cons_zero, List.set_cons_succ]
          refine wpAnyH_take (i := 15) (v := ?_) rfl (by kernel_rfl) (by kernel_rfl) (by kernel_rfl) (fun _ _ _ h => h) (Or.inl ⟨by rfl, ?_⟩) hHeld ?_
          rotate_left
          · (intro w hSw; (try dsimp only at hSw); go_simp; try with_reducible rfl)
          try simp only [Act.put, List.getElem_toArray, List.getElem_cons_zero, List.getElem_cons_succ, List.setIfInBounds_toArray, List.set_cons_zero, List.set_cons_succ]
          refine wpAnyH_take (i := 16) (v := ?_) rfl (by kernel_rfl) (by kernel_rfl) (by kernel_rfl) (fun _ _ _ h => h) (Or.inl ⟨by rfl, ?_⟩) hHeld ?_
          rotate_left
          · (intro w hSw; (try dsimp only at hSw); go_simp; try with_reducible rfl)
          try simp only [Act.put, List.getElem_toArray, List.getElem_cons_zero, List.getElem_cons_succ, List.setIfInBounds_toArray, List.set_cons_zero, List.set_cons_succ]
          refine wpAnyH_ready (rs := [17]) (by kernel_rfl) (by simp) ?_
          refine AllReadyH.cons rfl (fun K hK => ?_) (AllReadyH.nil)
          go_simp
          refine (known_any _).mono ?_; rintro e y11 ⟨rfl, hb⟩
          have hX := below_keep hX hb; have bl := BelowOn bl hb
          go_wp2_with fail
          refine hK.out _ _ hX (fun hHeld => ?_)
          clear hK K
          try simp only [Act.put, List.getElem_toArray, List.getElem_cons_zero, List.getElem_cons_succ, List.setIfInBounds_toArray, List.set_cons_zero, List.set_cons_succ]
          refine wpAnyH_take (i := 18) (v := ?_) rfl (by kernel_rfl) (by kernel_rfl) (by kernel_rfl) (fun _ _ _ h => h) (Or.inl ⟨by rfl, ?_⟩) hHeld ?_
          rotate_left
          · (intro w hSw; (try dsimp only at hSw); go_simp; try with_reducible rfl)
          try simp only [Act.put, List.getElem_toArray, List.getElem_cons_zero, List.getElem_cons_succ, List.setIfInBounds_toArray, List.set_cons_zero, List.set_cons_succ]
          refine wpAnyH_take (i := 19) (v := ?_) rfl (by kernel_rfl) (by kernel_rfl) (by kernel_rfl) (fun _ _ _ h => h) (Or.inl ⟨by rfl, ?_⟩) hHeld ?_
          rotate_left
          · (intro w hSw; (try dsimp only at hSw); go_simp; try with_reducible rfl)
          try simp only [Act.put, List.getElem_toArray, List.getElem_cons_zero, List.getElem_cons_succ, List.setIfInBounds_toArray, List.set_cons_zero, List.set_cons_succ]
          refine wpAnyH_done (by kernel_rfl) ?_ _
          go_wp2_with fail
          go_ret
          exact ⟨rfl, bl⟩
end Go.Proofs.Ytnfapcfajoboaaa
