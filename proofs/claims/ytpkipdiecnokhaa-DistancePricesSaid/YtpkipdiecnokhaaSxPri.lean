/- Score: lists that differ in a few tokens (near): the model, and what a round has in hand. Score: contract of near. Score: the walks of ScoreAllows and ScoreMonotone. Score: small; what a law's lists bear; mathematics of the thresholds. Contract of Price. What the law of Align and Price carries: paths, the numbers, the lists, the script. Scripts among the arguments; an owned script as a row of its own. What the reference's Price adds up; what it has in hand. Contract of the reference's Price. The walk of DistanceAny. The walk of DistancePrices. The law DistancePrices holds for every input. -/
import Derived.Test.YtpkipdiecnokhaaDtL
import Derived.Test.YtpkipdiecnokhaaDtK
import Derived.Test.YtpkipdiecnokhaaArf
import Derived.Test.YtpkipdiecnokhaaRows
import Derived.WalkKit
import Derived.ProofKit
import Derived.OpenShut
import Derived.ChangeOld
import Derived.Below
import Derived.Carry
import Derived.SizedLaws
import Derived.Test.YtpkipdiecnokhaaTka
namespace Go.Proofs.Ytpkipdiecnokhaa
open Go.ChangeShapes Go.WideShapes Go.ChangeAt Go.RowKit Go.Sort
set_option linter.unusedVariables false
set_option linter.unusedSimpArgs false
set_option maxRecDepth 100000

def blueT : It := ⟨6, ⟨#[98, 108, 117, 101]⟩, 0⟩
def sfxT (x : It) : It := if x.k = 6 then ⟨6, x.t ++ ⟨#[115]⟩, x.id⟩ else x
def nearS (M : List Int) (i : Nat) (x : It) : List It :=
  if nx M i 12 = 0 then [] else if nx M i 12 = 1 then [blueT, x] else if nx M i 12 = 2 then [sfxT x] else if nx M i 12 = 3 then [x, x] else [x]
def nearK (M : List Int) : Nat → List It → List It
  | _, [] => []
  | i, x :: l => nearS M i x ++ nearK M (i + 1) l
def nearL (M : List Int) (l : List It) : List It := nearK M 0 l
theorem nearK_snoc (M : List Int) (l : List It) (x : It) : ∀ i, nearK M i (l ++ [x]) = nearK M i l ++ nearS M (i + l.length) x := by
  induction l with
  | nil => intro i; simp [nearK]
  | cons y l ih => intro i; rw [List.cons_append, nearK, nearK, ih, List.append_assoc, List.length_cons, show i + 1 + l.length = i + (l.length + 1) by omega]
theorem nearL_next (M : List Int) (l : List It) (k : Nat) (h : k < l.length) : nearL M (l.take (k + 1)) = nearL M (l.take k) ++ nearS M k (l[k]'h) := by
  unfold nearL
  rw [List.take_succ_eq_append_getElem h, nearK_snoc, Nat.zero_add, List.length_take, Nat.min_eq_left (Nat.le_of_lt h)]
theorem nearS_len (M : List Int) (i : Nat) (x : It) : (nearS M i x).length ≤ 2 := by
  unfold nearS; repeat' split
  all_goals simp
theorem nearK_len (M : List Int) (l : List It) : ∀ i, (nearK M i l).length ≤ 2 * l.length := by
  induction l with
  | nil => intro i; exact Nat.le_refl _
  | cons x l ih => intro i; rw [nearK, List.length_append, List.length_cons]; have := ih (i + 1); have := nearS_len M i x; omega
theorem nearL_len (M : List Int) (l : List It) : (nearL M l).length ≤ 2 * l.length := nearK_len M l 0
theorem nearK_all {P : It → Prop} (M : List Int) (l : List It) (hb : P blueT) (hx : ∀ x ∈ l, P x) (hs : ∀ x ∈ l, P (sfxT x)) : ∀ i, ∀ y ∈ nearK M i l, P y := by
  induction l with
  | nil => intro i y hy; cases hy
  | cons x l ih =>
    intro i y hy
    rw [nearK, List.mem_append] at hy
    rcases hy with hy | hy
    · have h1 := hx x (List.mem_cons_self ..)
      have h2 := hs x (List.mem_cons_self ..)
      unfold nearS at hy
      split at hy
      · cases hy
      · split at hy
        · simp at hy; rcases hy with rfl | rfl <;> assumption
        · split at hy
          · simp at hy; subst hy; exact h2
          · split at hy
            · simp at hy; subst hy; exact h1
            · simp at hy; subst hy; exact h1
    · exact ih (fun z hz => hx z (List.mem_cons_of_mem _ hz)) (fun z hz => hs z (List.mem_cons_of_mem _ hz)) (i + 1) y hy
theorem nearL_kind (M : List Int) (l : List It) (h : kindV l) : kindV (nearL M l) :=
  nearK_all (P := fun x => 2 ≤ x.k ∧ x.k ≤ 9) M l (by decide) h (fun x hx => by
    unfold sfxT; split
    · exact ⟨show (2 : Int) ≤ 6 by decide, show (6 : Int) ≤ 9 by decide⟩
    · exact h x hx) 0
theorem nearL_txt (M : List Int) (l : List It) (h : ∀ x ∈ l, x.t.size ≤ 900) : txtsB (nearL M l) :=
  nearK_all (P := fun x => x.t.size ≤ 1000) M l (by decide) (fun x hx => by have := h x hx; omega) (fun x hx => by
    have := h x hx
    unfold sfxT; split
    · show (x.t ++ ⟨#[115]⟩).size ≤ 1000
      rw [ByteArray.size_append]; show x.t.size + 1 ≤ 1000; omega
    · omega) 0
theorem mkD_txt9 (L : List Int) (n : Nat) : ∀ x ∈ mkD L n, x.t.size ≤ 900 := fun x hx => by
  have h1 := toks_txt (mk L true false)
  have h2 := (mk_ok L true false).txt
  have := txt_mem _ x (show x ∈ toks (mk L true false) from List.mem_of_mem_take hx)
  omega
/-- What a round of near has in hand. -/
structure NrR (w : World) (pn : Option Addr) (cn : Nat) (M : List Int) (p : Option Addr) (l : List It) (out : List It) (v : Value) (m : Nat) (W : World) : Prop where
  below : Below w.heap.size w W
  nums : NumsAt W w.heap.size pn cn M m
  own : OwnT (w.heap.size + 1) out v W
  its : Its W p l
  plo : 0 < M.length → ∀ a, pn = some a → a.block < w.heap.size
  ilo : 0 < l.length → ∀ a, p = some a → a.block < w.heap.size
section
variable {w W W' : World} {pn p : Option Addr} {cn m : Nat} {M : List Int} {l out : List It} {v : Value}
theorem NrR.lt (h : NrR w pn cn M p l out v m W) : w.heap.size < W.heap.size := h.nums.lt
theorem NrR.call (h : NrR w pn cn M p l out v m W) (hb : Below W.heap.size W W') : NrR w pn cn M p l out v m W' :=
  ⟨BelowOn h.below hb, h.nums.call hb, h.own.call hb, h.its.call hb, h.plo, h.ilo⟩
theorem NrR.alloc (h : NrR w pn cn M p l out v m W) (o : Obj) : NrR w pn cn M p l out v m (W.alloc o) := h.call (blw (Below.refl _ _) o)
theorem its_keepB {W W' : World} {p : Option Addr} {l : List It} {B : Nat} (h : Its W p l) (hlo : 0 < l.length → ∀ a, p = some a → a.block < B) (hs : W.heap.size ≤ W'.heap.size) (hb : ∀ k, k < B → W'.heap[k]? = W.heap[k]?) : Its W' p l := fun h0 => by
  obtain ⟨a, hp, hlt, hc⟩ := h h0
  have hk := hb _ (hlo h0 a hp)
  refine ⟨a, hp, Nat.lt_of_lt_of_le hlt hs, fun i hi => ?_⟩
  obtain ⟨c0, c1, c2⟩ := hc i hi
  refine ⟨?_, ?_, ?_⟩
  · rw [World.cell?_of_block (w := W) (w' := W') (a := a.add (i * 3)) (by rw [add_block]; exact hk)]; exact c0
  · rw [World.cell?_of_block (w := W) (w' := W') (a := a.add (i * 3 + 1)) (by rw [add_block]; exact hk)]; exact c1
  · rw [World.cell?_of_block (w := W) (w' := W') (a := a.add (i * 3 + 2)) (by rw [add_block]; exact hk)]; exact c2
theorem NrR.next (h : NrR w pn cn M p l out v m W) {m' : Nat} (hg : W.grownBy W' (some w.heap.size)) (hN : NumsAt W' w.heap.size pn cn M m') : NrR w pn cn M p l out v m' W' :=
  ⟨below_of_grow h.below hg h.below.size (Nat.le_refl _), hN, h.own.other hg (by omega),
    its_keepB h.its h.ilo hg.size (fun k hk => hg.block k (by have := h.lt; omega) (fun e => by injection e; omega)), h.plo, h.ilo⟩
theorem NrR.push (h : NrR w pn cn M p l out v m W) {out' : List It} {v' : Value} (hown : OwnT (w.heap.size + 1) out' v' W') (hb : Below (w.heap.size + 1) W W') : NrR w pn cn M p l out' v' m W' :=
  ⟨h.below.trans (hb.mono (by omega)), h.nums.keep hb.size (hb.block _ (by omega)) (fun h0 a ha => hb.block _ (by have := h.plo h0 a ha; omega)), hown,
    its_keepB h.its h.ilo hb.size (fun k hk => hb.block k (by omega)), h.plo, h.ilo⟩
theorem NrR.set (h : NrR w pn cn M p l out v m W) {g : Nat} (hg : w.heap.size < g) (hv : v.ownBlock ≠ some g) (i : Nat) (x : Value) : NrR w pn cn M p l out v m (W.setCell ⟨g, i, none⟩ x) := by
  have hgr := grow_cell W g i x
  have hk : ∀ k, k ≠ g → (W.setCell ⟨g, i, none⟩ x).heap[k]? = W.heap[k]? := fun k hk => Below.heap_setCell W ⟨g, i, none⟩ _ k hk
  have hs : (W.setCell ⟨g, i, none⟩ x).heap.size = W.heap.size := by simp [World.setCell]
  exact ⟨below_of_grow h.below hgr h.below.size (by omega), h.nums.keep (by omega) (hk _ (by omega)) (fun h0 a ha => hk _ (by have := h.plo h0 a ha; omega)),
    h.own.keepAt (fun k e => hk k (fun e2 => hv (by rw [← e2]; exact e))), its_keepB h.its h.ilo (by omega) (fun k hkk => hk k (by omega)), h.plo, h.ilo⟩
theorem NrR.start (pn : Option Addr) (cn : Nat) (M : List Int) (p : Option Addr) (l : List It) (w : World) (hM : Ones w (Value.int .i64) pn M) (wM : ∀ i (h : i < M.length), (Lit.int .i64 (M[i]'h)).wf = true) (hc : M.length ≤ cn) (hm : cn ≤ maxLen) (hl : Its w p l) :
    NrR w pn cn M p l [] (.slice none 0 0) 0 (w.alloc (.cells #[.slice pn M.length cn, .int .i64 0] 63)) := by
  have hb : Below w.heap.size w (w.alloc (.cells #[.slice pn M.length cn, .int .i64 0] 63)) := blw (Below.refl _ _) _
  exact ⟨hb, NumsAt.made hM wM hc hm, OwnL.nil _ _, hl.call hb, fun h0 => ones_any hM h0, fun h0 a ha => by
    obtain ⟨b, e, hlt, _⟩ := hl h0
    rw [ha] at e; injection e with e; subst e; exact hlt⟩
end
/-- A round's token lies in a variable. -/
structure NrV (w : World) (pn : Option Addr) (cn : Nat) (M : List Int) (p : Option Addr) (l : List It) (out : List It) (v : Value) (m g : Nat) (x : It) (W : World) : Prop where
  r : NrR w pn cn M p l out v m W
  va : Var3 W g x.k x.t x.id
  ne : v.ownBlock ≠ some g
  gl : w.heap.size < g
  fz : ∃ cur, W.heap[g]? = some (.cells cur 57 (0, 0))
section
variable {w W W' : World} {pn p : Option Addr} {cn m g : Nat} {M : List Int} {l out : List It} {v : Value} {x : It}
theorem NrR.vars (h : NrR w pn cn M p l out v m W) (x : It) : NrV w pn cn M p l out v m W.heap.size x (W.alloc (.cells #[.int .i64 x.k, .string x.t, .int .i64 x.id] 57)) :=
  ⟨h.alloc _, Var3.newT W x.k x.t x.id, fun e => by have := (h.own.lt _ e).2; omega, h.lt, ⟨_, heap_alloc_new W _⟩⟩
theorem NrV.call (h : NrV w pn cn M p l out v m g x W) (hb : Below W.heap.size W W') : NrV w pn cn M p l out v m g x W' := ⟨h.r.call hb, h.va.call hb, h.ne, h.gl, by obtain ⟨cur, hc⟩ := h.fz; exact ⟨cur, keep_heap hc hb⟩⟩
theorem NrV.next (h : NrV w pn cn M p l out v m g x W) {m' : Nat} (hg : W.grownBy W' (some w.heap.size)) (hN : NumsAt W' w.heap.size pn cn M m') : NrV w pn cn M p l out v m' g x W' :=
  ⟨h.r.next hg hN, h.va.other hg (by have := h.gl; omega), h.ne, h.gl, by obtain ⟨cur, hc⟩ := h.fz; exact ⟨cur, (hg.block g (heap_lt hc) (fun e => by injection e with e; have := h.gl; omega)).trans hc⟩⟩
theorem NrV.push (h : NrV w pn cn M p l out v m g x W) {out' : List It} {g' n c : Nat} (hown : OwnT (w.heap.size + 1) out' (.slice (some ⟨g', 0, none⟩) n c) W') (hgr : W.grownBy W' v.ownBlock) (hloc : v.ownBlock = some g' ∨ g' = W.heap.size) : NrV w pn cn M p l out' (.slice (some ⟨g', 0, none⟩) n c) m g x W' := by
  have hlt := h.va.lt
  have hb : Below (w.heap.size + 1) W W' := ⟨hgr.os, hgr.tape, hgr.output, hgr.size, fun k hk => hgr.block k (by have := h.r.lt; omega) (fun e => by have := (h.r.own.lt k e.symm).1; omega)⟩
  refine ⟨h.r.push hown hb, h.va.same (hgr.block g hlt (fun e => h.ne e.symm)) hgr.size, fun e => ?_, h.gl, by obtain ⟨cur, hc⟩ := h.fz; exact ⟨cur, (hgr.block g hlt (fun e => h.ne e.symm)).trans hc⟩⟩
  have e' : g' = g := by simpa [Value.ownBlock] using e
  subst e'
  rcases hloc with h1 | h1
  · exact h.ne h1
  · omega
theorem NrV.text (h : NrV w pn cn M p l out v m g x W) (s : ByteArray) : NrV w pn cn M p l out v m g ⟨x.k, s, x.id⟩ (W.setCell ⟨g, 1, none⟩ (.string s)) := by
  refine ⟨h.r.set h.gl h.ne 1 _, ⟨?_, ?_, ?_, ?_⟩, h.ne, h.gl, by obtain ⟨cur, hc⟩ := h.fz; exact ⟨_, setCell_at W g 1 cur _ _ hc⟩⟩
  · rw [World.cell?_setCell_other _ _ _ _ (fun e => by injection e with e1 e2; omega)]; exact h.va.c0
  · exact World.cell?_setCell_same _ _ _ h.va.c1
  · rw [World.cell?_setCell_other _ _ _ _ (fun e => by injection e with e1 e2; omega)]; exact h.va.c2
  · have := h.va.lt; simpa [World.setCell] using this
end
end Go.Proofs.Ytpkipdiecnokhaa
namespace Go.Proofs.Ytpkipdiecnokhaa
open Go.ChangeShapes Go.WideShapes Go.ChangeAt Go.RowKit Go.Sort
set_option linter.unusedVariables false
set_option linter.unusedSimpArgs false
set_option maxRecDepth 100000

set_option maxHeartbeats 6400000 in
theorem near_any (p pn : Option Addr) (c cn : Nat) (l : List It) (M : List Int) (w : World) (hR : Its w p l) (hc : l.length ≤ c) (hcm : c ≤ maxLen) (hM : Ones w (Value.int .i64) pn M) (wM : ∀ i (h : i < M.length), (Lit.int .i64 (M[i]'h)).wf = true) (hcn : M.length ≤ cn) (hcnm : cn ≤ maxLen) (hl : l.length ≤ 1000) (hx : ∀ x ∈ l, x.t.size ≤ 900) :
    Calls Try.prog 16 #[.slice p l.length c, .slice pn M.length cn] w (EndT (nearL M l) w) := by
  have hS := NrR.start pn cn M p l w hM wM hcn hcnm hR
  have HL := Lib.hid (nearL_len M)
  have HX := Lib.hid hx
  have HNX := Lib.hid (fun W k h hk => next_any w.heap.size pn cn M k 12 12 rfl W h hk (by omega) (by omega))
  clear hM wM hR hx
  unfold maxLen at hcm
  go_enter Try.func16, Try.ntmps16
  go_wp2_with fail
  generalize (w.alloc (.cells #[.slice pn M.length cn, .int .i64 0] 63)) = w1 at *
  go_loopw [6, 14] (fun v i wr => ∃ k : Nat, k ≤ l.length ∧ i = .int .i64 k ∧ NrR w pn cn M p l (nearL M (l.take k)) v k wr) (fun _ i _ => l.length - (intOf i).toNat)
  case atStart => exact ⟨0, Nat.zero_le _, rfl, by simpa [nearL, nearK] using hS⟩
  case round =>
    clear hS
    obtain ⟨k, hk, rfl, hN⟩ := hrel
    by_cases hlt : k < l.length
    · obtain ⟨ad, rfl, had, x0, x1, x2⟩ := hN.its.row k hlt
      have hnx := nearL_next M l k hlt
      have hol := HL.out (l.take k)
      have hxs := HX.out _ (List.getElem_mem hlt)
      have hV := hN.vars l[k]
      rw [List.length_take] at hol
      have hol2 : (nearL M (l.take k)).length ≤ 2000 := by omega
      have ik : (k : Int) < (l.length : Int) := by omega
      have hg : (nearS M k l[k]) = (if nx M k 12 = 0 then [] else if nx M k 12 = 1 then [blueT, l[k]] else if nx M k 12 = 2 then [sfxT l[k]] else if nx M k 12 = 3 then [l[k], l[k]] else [l[k]]) := rfl
      have HG := Lib.hid hg; have HO := Lib.hid hnx
      have hN3 := HNX.out _ k hV.r.nums (by omega)
      generalize nearL M (l.take k) = out at *
      generalize l[k] = X at *
      generalize nx M k 12 = N at *
      have HV := Lib.hid hV; have HN3 := Lib.hid hN3
      clear hN hg hnx hV hN3 hol
      go_wp2_with fail
      refine HN3.out.mono ?_; rintro e w2 ⟨rfl, hgr, hNu⟩
      have HV2 := Lib.hid (HV.out.next hgr hNu)
      clear HV HN3 hgr hNu x0 x1 x2 had
      generalize wr.heap.size = g at *
      by_cases z0 : N = 0
      · have q0 : ((N : Int) == 0) = true := by simp; omega
        have hv := HV2.out
        go_wp2_with fail
        go_roundw
        case rel => exact ⟨k + 1, hlt, by go_num, by rw [HO.out, HG.out]; rw [if_pos z0, List.append_nil]; exact hv.r⟩
        case measure => simp [intOf] <;> omega
      have q0 : ((N : Int) == 0) = false := by simp; omega
      by_cases z1 : N = 1
      · have q1 : ((N : Int) == 1) = true := by simp; omega
        have hv1 := HV2.out
        obtain ⟨c0, c1, c2, clt⟩ := id hv1.va
        have hnew := heap_alloc_new w2 (.cells #[.int .i64 6, .string ⟨#[98, 108, 117, 101]⟩, .int .i64 0] 57)
        have hbn : Below w2.heap.size w2 (w2.alloc (.cells #[.int .i64 6, .string ⟨#[98, 108, 117, 101]⟩, .int .i64 0] 57)) := blw (Below.refl _ _) _
        have hv1' := hv1.call hbn
        go_wp2_with (first
          | (at_builtin; refine wpl_app eT _ rfl _ _ rfl (w.heap.size + 1) out _ rfl hv1'.r.own (by have := hv1'.r.lt; omega) blueT _ _ rfl hnew rfl (by (try simp only [List.length_append, List.length_cons, List.length_nil]); omega) (by unfold maxLen; (try simp only [List.length_append, List.length_cons, List.length_nil]); omega) ?_; intro g1 cap1 w3 hown hgr hloc; have hv2 := hv1'.push hown hgr hloc; clear hown hgr hloc hnew hbn hv1' hv1 c0 c1 c2 clt; obtain ⟨c0, c1, c2, clt⟩ := id hv2.va; have hnew2 := heap_alloc_new w3 (.cells #[.int .i64 X.k, .string X.t, .int .i64 X.id] 57); have hbn2 : Below w3.heap.size w3 (w3.alloc (.cells #[.int .i64 X.k, .string X.t, .int .i64 X.id] 57)) := blw (Below.refl _ _) _; have hv2' := hv2.call hbn2)
          | (at_builtin; refine wpl_app eT _ rfl _ _ rfl (w.heap.size + 1) (out ++ [blueT]) _ rfl hv2'.r.own (by have := hv2'.r.lt; omega) X _ _ rfl hnew2 rfl (by (try simp only [List.length_append, List.length_cons, List.length_nil]); omega) (by unfold maxLen; (try simp only [List.length_append, List.length_cons, List.length_nil]); omega) ?_; intro g2 cap2 w4 hown hgr hloc))
        have HV4 := Lib.hid (hv2'.push hown hgr hloc)
        clear hown hgr hloc hv2' hbn2 hnew2 hv2 c0 c1 c2 clt
        have hv := HV4.out
        go_wp2_with fail
        go_roundw
        case rel => exact ⟨k + 1, hlt, by go_num, by rw [HO.out, HG.out]; rw [if_neg z0, if_pos z1]; exact (by simpa using hv.r)⟩
        case measure => simp [intOf] <;> omega
      have q1 : ((N : Int) == 1) = false := by simp; omega
      by_cases z2 : N = 2
      · have q2 : ((N : Int) == 2) = true := by simp; omega
        by_cases y : X.k = 6
        · have qk : (X.k == 6) = true := by simp [y]
          have hsz : ¬ 9223372036854775807 < X.t.size + 1 := by omega
          have hsx : sfxT X = ⟨X.k, X.t ++ ⟨#[115]⟩, X.id⟩ := by unfold sfxT; rw [if_pos y, y]
          have HSX := Lib.hid hsx
          clear hsx y
          have hv := HV2.out
          obtain ⟨d0, d1, d2, dl⟩ := id hv.va
          have fz : w2.frozen? ⟨g, 1, none⟩ = false := by obtain ⟨cur, hc⟩ := hv.fz; exact Lib.frozen_of_heap hc _
          have HV3 := Lib.hid (hv.text (X.t ++ ⟨#[115]⟩))
          clear hv
          go_upto_region 15 with (fail)
          generalize w2.setCell ⟨g, 1, none⟩ (.string (X.t ++ ⟨#[115]⟩)) = w3 at *
          clear d0 d1 d2 dl fz
          have hv2 := HV3.out
          obtain ⟨c0, c1, c2, cl⟩ := id hv2.va
          have hnew := heap_alloc_new w3 (.cells #[.int .i64 X.k, .string (X.t ++ ⟨#[115]⟩), .int .i64 X.id] 57)
          have hbn : Below w3.heap.size w3 (w3.alloc (.cells #[.int .i64 X.k, .string (X.t ++ ⟨#[115]⟩), .int .i64 X.id] 57)) := blw (Below.refl _ _) _
          have hv2' := hv2.call hbn
          go_wp2_with (at_builtin; refine wpl_app eT _ rfl _ _ rfl (w.heap.size + 1) out _ rfl hv2'.r.own (by have := hv2'.r.lt; omega) (⟨X.k, X.t ++ ⟨#[115]⟩, X.id⟩ : It) _ _ rfl hnew rfl (by (try simp only [List.length_append, List.length_cons, List.length_nil]); omega) (by unfold maxLen; (try simp only [List.length_append, List.length_cons, List.length_nil]); omega) ?_; intro g2 cap2 w4 hown hgr hloc)
          have HV4 := Lib.hid (hv2'.push hown hgr hloc)
          clear hown hgr hloc hv2' hbn hnew hv2 c0 c1 c2 cl
          have hv := HV4.out
          go_wp2_with fail
          go_roundw
          case rel => exact ⟨k + 1, hlt, by go_num, by rw [HO.out, HG.out]; rw [if_neg z0, if_neg z1, if_pos z2, HSX.out]; exact hv.r⟩
          case measure => simp [intOf] <;> omega
        · have qk : (X.k == 6) = false := by simp [y]
          have HSX := Lib.hid (show sfxT X = X by unfold sfxT; rw [if_neg y])
          clear y
          have hv2 := HV2.out
          obtain ⟨c0, c1, c2, cl⟩ := id hv2.va
          have hnew := heap_alloc_new w2 (.cells #[.int .i64 X.k, .string X.t, .int .i64 X.id] 57)
          have hbn : Below w2.heap.size w2 (w2.alloc (.cells #[.int .i64 X.k, .string X.t, .int .i64 X.id] 57)) := blw (Below.refl _ _) _
          have hv2' := hv2.call hbn
          go_wp2_with (at_builtin; refine wpl_app eT _ rfl _ _ rfl (w.heap.size + 1) out _ rfl hv2'.r.own (by have := hv2'.r.lt; omega) X _ _ rfl hnew rfl (by (try simp only [List.length_append, List.length_cons, List.length_nil]); omega) (by unfold maxLen; (try simp only [List.length_append, List.length_cons, List.length_nil]); omega) ?_; intro g2 cap2 w4 hown hgr hloc)
          have HV4 := Lib.hid (hv2'.push hown hgr hloc)
          clear hown hgr hloc hv2' hbn hnew hv2 c0 c1 c2 cl
          have hv := HV4.out
          go_wp2_with fail
          go_roundw
          case rel => exact ⟨k + 1, hlt, by go_num, by rw [HO.out, HG.out]; rw [if_neg z0, if_neg z1, if_pos z2, HSX.out]; exact hv.r⟩
          case measure => simp [intOf] <;> omega
      have q2 : ((N : Int) == 2) = false := by simp; omega
      by_cases z3 : N = 3
      · have q3 : ((N : Int) == 3) = true := by simp; omega
        have hv1 := HV2.out
        obtain ⟨c0, c1, c2, clt⟩ := id hv1.va
        have hnew := heap_alloc_new w2 (.cells #[.int .i64 X.k, .string X.t, .int .i64 X.id] 57)
        have hbn : Below w2.heap.size w2 (w2.alloc (.cells #[.int .i64 X.k, .string X.t, .int .i64 X.id] 57)) := blw (Below.refl _ _) _
        have hv1' := hv1.call hbn
        go_wp2_with (first
          | (at_builtin; refine wpl_app eT _ rfl _ _ rfl (w.heap.size + 1) out _ rfl hv1'.r.own (by have := hv1'.r.lt; omega) X _ _ rfl hnew rfl (by (try simp only [List.length_append, List.length_cons, List.length_nil]); omega) (by unfold maxLen; (try simp only [List.length_append, List.length_cons, List.length_nil]); omega) ?_; intro g1 cap1 w3 hown hgr hloc; have hv2 := hv1'.push hown hgr hloc; clear hown hgr hloc hnew hbn hv1' hv1 c0 c1 c2 clt; obtain ⟨c0, c1, c2, clt⟩ := id hv2.va; have hnew2 := heap_alloc_new w3 (.cells #[.int .i64 X.k, .string X.t, .int .i64 X.id] 57); have hbn2 : Below w3.heap.size w3 (w3.alloc (.cells #[.int .i64 X.k, .string X.t, .int .i64 X.id] 57)) := blw (Below.refl _ _) _; have hv2' := hv2.call hbn2)
          | (at_builtin; refine wpl_app eT _ rfl _ _ rfl (w.heap.size + 1) (out ++ [X]) _ rfl hv2'.r.own (by have := hv2'.r.lt; omega) X _ _ rfl hnew2 rfl (by (try simp only [List.length_append, List.length_cons, List.length_nil]); omega) (by unfold maxLen; (try simp only [List.length_append, List.length_cons, List.length_nil]); omega) ?_; intro g2 cap2 w4 hown hgr hloc))
        have HV4 := Lib.hid (hv2'.push hown hgr hloc)
        clear hown hgr hloc hv2' hbn2 hnew2 hv2 c0 c1 c2 clt
        have hv := HV4.out
        go_wp2_with fail
        go_roundw
        case rel => exact ⟨k + 1, hlt, by go_num, by rw [HO.out, HG.out]; rw [if_neg z0, if_neg z1, if_neg z2, if_pos z3]; exact (by simpa using hv.r)⟩
        case measure => simp [intOf] <;> omega
      have q3 : ((N : Int) == 3) = false := by simp; omega
      have hv2 := HV2.out
      obtain ⟨c0, c1, c2, cl⟩ := id hv2.va
      have hnew := heap_alloc_new w2 (.cells #[.int .i64 X.k, .string X.t, .int .i64 X.id] 57)
      have hbn : Below w2.heap.size w2 (w2.alloc (.cells #[.int .i64 X.k, .string X.t, .int .i64 X.id] 57)) := blw (Below.refl _ _) _
      have hv2' := hv2.call hbn
      go_wp2_with (at_builtin; refine wpl_app eT _ rfl _ _ rfl (w.heap.size + 1) out _ rfl hv2'.r.own (by have := hv2'.r.lt; omega) X _ _ rfl hnew rfl (by (try simp only [List.length_append, List.length_cons, List.length_nil]); omega) (by unfold maxLen; (try simp only [List.length_append, List.length_cons, List.length_nil]); omega) ?_; intro g2 cap2 w4 hown hgr hloc)
      have HV4 := Lib.hid (hv2'.push hown hgr hloc)
      clear hown hgr hloc hv2' hbn hnew hv2 c0 c1 c2 cl
      have hv := HV4.out
      go_wp2_with fail
      go_roundw
      case rel => exact ⟨k + 1, hlt, by go_num, by rw [HO.out, HG.out]; rw [if_neg z0, if_neg z1, if_neg z2, if_neg z3]; exact hv.r⟩
      case measure => simp [intOf] <;> omega
    · obtain rfl : k = l.length := by omega
      rw [List.take_length] at hN
      go_wp2_with fail
      go_ret
      exact ⟨_, rfl, ⟨hN.below, ownsRow_base hN.own (by omega)⟩⟩
end Go.Proofs.Ytpkipdiecnokhaa
namespace Go.Proofs.Ytpkipdiecnokhaa
open Go.ChangeShapes Go.WideShapes Go.ChangeAt Go.RowKit Go.Sort
set_option linter.unusedVariables false
set_option linter.unusedSimpArgs false
set_option maxRecDepth 100000

theorem allows_law (a0 a1 : Int) (w : World) (w0 : (Lit.int .i64 a0).wf = true) (w1 : (Lit.int .i64 a1).wf = true) :
    Calls Try.prog 4 #[.int .i64 a0, .int .i64 a1] w fun e w' => e = .returned (.bool true) ∧ Below w.heap.size w w' := by
  have P1 := Lib.hid (fun W => place_any a1 104 W (by omega) (by omega) w1)
  have P2 := Lib.hid (fun W => place_any a0 200 W (by omega) (by omega) w0)
  have HA := Lib.hid (fun t p W => allowed_any t p W)
  have HR := Lib.hid (fun t p W => rallowed_any t p W)
  go_enter Try.func4, Try.ntmps4
  go_wp2_with fail
  refine (P1.out _).mono ?_; rintro e w1 ⟨rfl, rfl⟩
  go_wp2_with fail
  refine (P2.out _).mono ?_; rintro e w1 ⟨rfl, rfl⟩
  clear P1 P2
  generalize a1 % 104 = q
  generalize a0 % 200 = t
  go_wp2_with fail
  refine (HA.out _ _ _).mono ?_; rintro e w1 ⟨rfl, rfl⟩
  go_wp2_with fail
  refine (HR.out _ _ _).mono ?_; rintro e w1 ⟨rfl, rfl⟩
  generalize alw a0 a1 = X
  go_wp2_with fail
  refine (HA.out _ _ _).mono ?_; rintro e w1 ⟨rfl, rfl⟩
  go_wp2_with fail
  refine (HR.out _ _ _).mono ?_; rintro e w1 ⟨rfl, rfl⟩
  generalize alw a0 q = Y
  go_wp2_with fail
  refine (HA.out _ _ _).mono ?_; rintro e w1 ⟨rfl, rfl⟩
  go_wp2_with fail
  refine (HR.out _ _ _).mono ?_; rintro e w1 ⟨rfl, rfl⟩
  generalize alw t q = Z
  go_wp2_with fail
  refine (sknown_any _).mono ?_; rintro e w1 ⟨rfl, hb⟩
  go_wp2_with fail
  go_ret
  exact ⟨rfl, hb⟩
theorem alw_in (t p : Int) (h1 : 1 ≤ t) (h2 : t ≤ 1073741824) (h3 : 1 ≤ p) (h4 : p ≤ 100) : alw t p = t * (100 - p) / 100 := by
  unfold alw; rw [if_neg (by omega), if_neg (by omega), show min t 1073741824 = t by omega]
theorem alw_over (t p : Int) (h : 100 < p) : alw t p = -1 := if_pos h
theorem mono_facts (t p k : Int) (h1 : 1 ≤ t) (h2 : t ≤ 5000) (h3 : 1 ≤ p) (h4 : p ≤ 100) (h5 : 0 ≤ k) (h6 : k ≤ 99) : alw t (p + k) ≤ alw t p ∧ alw t p ≤ alw (t + k) p ∧ alw t 100 = 0 ∧ alw t p ≤ t ∧ 0 ≤ alw t p := by
  have e1 := alw_in t p h1 (by omega) h3 h4
  have b1 : 0 ≤ t * (100 - p) := Int.mul_nonneg (by omega) (by omega)
  refine ⟨?_, ?_, ?_, ?_, ?_⟩
  · by_cases h : 100 < p + k
    · rw [alw_over t _ h, e1]; omega
    · rw [alw_in t (p + k) h1 (by omega) (by omega) (by omega), e1]
      have : t * (100 - (p + k)) ≤ t * (100 - p) := Int.mul_le_mul_of_nonneg_left (by omega) (by omega)
      omega
  · rw [e1, alw_in (t + k) p (by omega) (by omega) h3 h4]
    have : t * (100 - p) ≤ (t + k) * (100 - p) := Int.mul_le_mul_of_nonneg_right (by omega) (by omega)
    omega
  · rw [alw_in t 100 h1 (by omega) (by omega) (by omega)]; simp
  · rw [e1]
    have : t * (100 - p) ≤ t * 100 := Int.mul_le_mul_of_nonneg_left (by omega) (by omega)
    omega
  · rw [e1]; omega
theorem monotone_law (a0 a1 a2 : Int) (w : World) (w0 : (Lit.int .i64 a0).wf = true) (w1 : (Lit.int .i64 a1).wf = true) (w2 : (Lit.int .i64 a2).wf = true) :
    Calls Try.prog 7 #[.int .i64 a0, .int .i64 a1, .int .i64 a2] w fun e w' => e = .returned (.bool true) ∧ Below w.heap.size w w' := by
  have P0 := Lib.hid (fun W => place_any a0 5000 W (by omega) (by omega) w0)
  have P1 := Lib.hid (fun W => place_any a1 100 W (by omega) (by omega) w1)
  have P2 := Lib.hid (fun W => place_any a2 100 W (by omega) (by omega) w2)
  have HA := Lib.hid (fun t p W => allowed_any t p W)
  have r0 : 0 ≤ a0 % 5000 ∧ a0 % 5000 < 5000 := by omega
  have r1 : 0 ≤ a1 % 100 ∧ a1 % 100 < 100 := by omega
  have r2 : 0 ≤ a2 % 100 ∧ a2 % 100 < 100 := by omega
  have hf := mono_facts (1 + a0 % 5000) (1 + a1 % 100) (a2 % 100) (by omega) (by omega) (by omega) (by omega) (by omega) (by omega)
  generalize a0 % 5000 = T at *
  generalize a1 % 100 = P at *
  generalize a2 % 100 = K at *
  have e1 : IntKind.i64.wrap (1 + T) = 1 + T := IntWalk.i64_in _ ⟨by omega, by omega⟩
  have e2 : IntKind.i64.wrap (1 + P) = 1 + P := IntWalk.i64_in _ ⟨by omega, by omega⟩
  have e3 : IntKind.i64.wrap (1 + P + K) = 1 + P + K := IntWalk.i64_in _ ⟨by omega, by omega⟩
  have e4 : IntKind.i64.wrap (1 + T + K) = 1 + T + K := IntWalk.i64_in _ ⟨by omega, by omega⟩
  obtain ⟨f1, f2, f3, f4, f5⟩ := hf
  have H3 := Lib.hid f3
  clear f3
  go_enter Try.func7, Try.ntmps7
  go_wp2_with fail
  refine (P0.out _).mono ?_; rintro e w1 ⟨rfl, rfl⟩
  go_wp2_with fail
  refine (P1.out _).mono ?_; rintro e w1 ⟨rfl, rfl⟩
  go_wp2_with fail
  refine (P2.out _).mono ?_; rintro e w1 ⟨rfl, rfl⟩
  clear P0 P1 P2
  go_wp2_with fail
  refine (HA.out _ _ _).mono ?_; rintro e w1 ⟨rfl, rfl⟩
  go_wp2_with fail
  refine (HA.out _ _ _).mono ?_; rintro e w1 ⟨rfl, rfl⟩
  have q1 : decide (alw (1 + T) (1 + P + K) ≤ alw (1 + T) (1 + P)) = true := decide_eq_true f1
  go_wp2_with fail
  refine (HA.out _ _ _).mono ?_; rintro e w1 ⟨rfl, rfl⟩
  go_wp2_with fail
  refine (HA.out _ _ _).mono ?_; rintro e w1 ⟨rfl, rfl⟩
  have q2 : decide (alw (1 + T) (1 + P) ≤ alw (1 + T + K) (1 + P)) = true := decide_eq_true f2
  go_wp2_with fail
  refine (HA.out _ _ _).mono ?_; rintro e w1 ⟨rfl, rfl⟩
  have q3 : ((alw (1 + T) 100) == 0) = true := by rw [H3.out]; rfl
  go_wp2_with fail
  refine (HA.out _ _ _).mono ?_; rintro e w1 ⟨rfl, rfl⟩
  have q4 : decide (alw (1 + T) (1 + P) ≤ 1 + T) = true := decide_eq_true f4
  go_wp2_with fail
  refine (sknown_any _).mono ?_; rintro e w1 ⟨rfl, hb⟩
  go_wp2_with fail
  go_ret
  exact ⟨rfl, hb⟩
end Go.Proofs.Ytpkipdiecnokhaa
namespace Go.Proofs.Ytpkipdiecnokhaa
open Go.ChangeShapes Go.WideShapes Go.ChangeAt Go.RowKit Go.Sort
set_option linter.unusedVariables false
set_option linter.unusedSimpArgs false
set_option maxRecDepth 100000

def smlB (l : List It) : Bool := decide (l.length ≤ 12) && decide (txtI l ≤ 300)
theorem small13_any (p : Option Addr) (cap : Nat) (l : List It) (w : World) (hR : Its w p l) (hO : Oks l) (hc : l.length ≤ cap) (hm : cap ≤ maxLen) :
    Calls Try.prog 13 #[.slice p l.length cap, .int .i64 12] w fun e w' => e = .returned (.bool (smlB l)) ∧ w = w' := by
  unfold maxLen at hm
  have hsum : l.length ≤ 12 → ∀ k, k ≤ l.length → txtI (l.take k) ≤ k * 140737488355328 := fun h60 k => by
    intro hk
    induction k with
    | zero => simp [txtI]
    | succ j ih =>
      rw [txtI_next l j (by omega)]
      have := ih (by omega)
      have h1 := (hO j (by omega)).t
      omega
  have HS := Lib.hid hsum; clear hsum
  go_enter Try.func13, Try.ntmps13
  go_wp2_with fail
  go_loop [5, 9] (fun v i => ∃ k : Nat, ∃ z : Int, k ≤ l.length ∧ i = .int .i64 k ∧ v = .int .i64 z ∧ Hid (l.length ≤ 12 → z = txtI (l.take k))) (fun _ i => l.length - (intOf i).toNat)
  case atStart => exact ⟨0, 0, Nat.zero_le _, rfl, rfl, Lib.hid (fun _ => rfl)⟩
  case round =>
    obtain ⟨k, z, hk, rfl, rfl, HZ⟩ := hrel
    by_cases hlt : k < l.length
    · obtain ⟨a, rfl, ha, c0, c1, c2⟩ := hR.row k hlt
      have hn := txtI_next l k hlt
      have HN := Lib.hid hn; clear hn
      have ik : (k : Int) < (l.length : Int) := by omega
      go_wp2_with fail
      go_round
      case rel =>
        refine ⟨k + 1, _, hlt, by go_num, rfl, Lib.hid (fun h60 => ?_)⟩
        have b := HS.out h60 (k + 1) hlt
        rw [HN.out] at b ⊢
        rw [HZ.out h60]
        unfold wrap64
        omega
      case measure => simp [intOf] <;> omega
    · obtain rfl : k = l.length := by omega
      rw [List.take_length] at HZ
      by_cases h60 : l.length ≤ 12
      · have hz := HZ.out h60
        go_wp2_with fail
        go_ret
        exact ⟨ret_bool (by unfold smlB; rw [Bool.eq_iff_iff]; simp [h60]; omega), rfl⟩
      · go_wp2_with fail
        go_ret
        exact ⟨ret_bool (by unfold smlB; simp [h60]), rfl⟩
theorem dr_small {W : World} {p : Option Addr} {c : Nat} {A : List It} (hI : Its W p A) (hc : A.length ≤ c) (hm : c ≤ maxLen) (hs : smlB A = true) : Dr W p c A := by
  unfold smlB at hs
  rw [Bool.and_eq_true, decide_eq_true_eq, decide_eq_true_eq] at hs
  exact ⟨hI, hc, hm, by omega, fun x hx => by have := txt_mem _ x hx; omega⟩
theorem Dr.percent {W : World} {p q : Option Addr} {c d : Nat} {A B : List It} (h : Dr W p c A) (k : Dr W q d B) : Calls Try.prog 17 #[.slice p A.length c, .slice q B.length d] W fun e w' => e = .returned (.int .i64 (pct A B : Nat)) ∧ Below W.heap.size W w' :=
  percent_any p q c d A B W h.its k.its h.le k.le h.cm k.cm (Nat.le_trans h.len (by omega)) (Nat.le_trans k.len (by omega)) h.txt k.txt (Nat.le_trans (dis_small A B h.len k.len) (by omega))
theorem Dr.rpercent {W : World} {p q : Option Addr} {c d : Nat} {A B : List It} (h : Dr W p c A) (k : Dr W q d B) : Calls Try.prog 18 #[.slice p A.length c, .slice q B.length d] W fun e w' => e = .returned (.int .i64 (pct A B : Nat)) ∧ Below W.heap.size W w' :=
  rpercent_any p q c d A B W h.its k.its h.le k.le h.cm k.cm (Nat.le_trans h.len (by omega)) (Nat.le_trans k.len (by omega)) h.txt k.txt (Nat.le_trans (dis_small A B h.len k.len) (by omega))
theorem Dr.total {W : World} {p q : Option Addr} {c d : Nat} {A B : List It} (h : Dr W p c A) (k : Dr W q d B) : Calls Try.prog 19 #[.slice p A.length c, .slice q B.length d] W fun e w' => e = .returned (.int .i64 (tot A B : Nat)) ∧ Below W.heap.size W w' :=
  total_both p q c d A B W h.its k.its h.le k.le h.cm k.cm (Nat.le_trans h.len (by omega)) (Nat.le_trans k.len (by omega))
theorem Dr.rboth {W : World} {p q : Option Addr} {c d : Nat} {A B : List It} (h : Dr W p c A) (k : Dr W q d B) : Calls Try.prog 20 #[.slice p A.length c, .slice q B.length d] W fun e w' => e = .returned (.int .i64 (tot A B : Nat)) ∧ Below W.heap.size W w' :=
  rboth_any p q c d A B W h.its k.its h.le k.le h.cm k.cm (Nat.le_trans h.len (by omega)) (Nat.le_trans k.len (by omega))
theorem Dr.rdist {W : World} {p q : Option Addr} {c d : Nat} {A B : List It} (h : Dr W p c A) (k : Dr W q d B) : Calls Try.prog 24 #[.slice p A.length c, .slice q B.length d] W fun e w' => e = .returned (.int .i64 (dis A B : Nat)) ∧ Below W.heap.size W w' :=
  rdistance_any p q c d A B W h.its k.its h.le k.le h.cm k.cm (Nat.le_trans h.len (by omega)) (Nat.le_trans k.len (by omega)) h.txt k.txt
theorem dr_near {w w' : World} {M : List Int} {l : List It} (hl : l.length ≤ 16) (hx : ∀ x ∈ l, x.t.size ≤ 900) {e : Ending} (h : EndT (nearL M l) w e w') : ∃ p c, e = .returned (.slice p (nearL M l).length c) ∧ Dr w' p c (nearL M l) ∧ Below w.heap.size w w' := by
  obtain ⟨p, c, he, h1, h2, h3, h4⟩ := h.f
  exact ⟨p, c, he, ⟨h3, h1, h2, Nat.le_trans (nearL_len M l) (by omega), nearL_txt M l hx⟩, h4⟩
theorem wtL_zero (l : List It) (h : kindV l) (hz : wtL l = 0) : l = [] := by
  cases l with
  | nil => rfl
  | cons x l =>
    have hx := h x (List.mem_cons_self ..)
    have e : wtL (x :: l) = wtT x.k + wtL l := by unfold wtL; simp
    have : 0 < wtT x.k := by
      unfold wtT; obtain ⟨h1, h2⟩ := hx
      repeat' split
      all_goals omega
    omega
theorem tot_zero (a b : List It) (ha : kindV a) (hb : kindV b) (h : tot a b = 0) : a = [] ∧ b = [] := by
  unfold tot at h
  exact ⟨wtL_zero a ha (by omega), wtL_zero b hb (by omega)⟩
theorem dis_empty : dis [] [] = 0 := by decide +kernel
theorem pct_whole (a b : List It) (ha : kindV a) (hb : kindV b) : pct a b = 100 ↔ dis a b = 0 := by
  unfold pct pcN
  by_cases hz : tot a b = 0
  · obtain ⟨rfl, rfl⟩ := tot_zero a b ha hb hz
    rw [if_pos hz, dis_empty]; simp
  · rw [if_neg hz]
    generalize tot a b = T at *
    generalize dis a b = D at *
    constructor
    · intro h
      rcases Nat.eq_zero_or_pos D with h0 | h0
      · exact h0
      · have h1 : 100 * (T - D) < 100 * T := by omega
        have h2 := Nat.div_lt_of_lt_mul (show 100 * (T - D) < T * 100 by omega)
        omega
    · intro h; subst h; rw [Nat.sub_zero, Nat.mul_div_cancel _ (by omega)]
theorem pct_reach (a b : List It) (ha : kindV a) (hb : kindV b) (hT : tot a b ≤ 400000) (p : Int) (h1 : 1 ≤ p) (h2 : p ≤ 100) : decide (p ≤ ((pct a b : Nat) : Int)) = decide (((dis a b : Nat) : Int) ≤ alw ((tot a b : Nat) : Int) p) := by
  rw [Bool.eq_iff_iff, decide_eq_true_eq, decide_eq_true_eq]
  unfold pct pcN
  by_cases hz : tot a b = 0
  · obtain ⟨rfl, rfl⟩ := tot_zero a b ha hb hz
    rw [if_pos hz, dis_empty]
    have : alw ((tot [] [] : Nat) : Int) p = 1073741824 := by unfold alw; rw [if_neg (by omega), if_pos (.inr (by rw [hz]; decide))]
    rw [this]; omega
  · rw [if_neg hz]
    generalize tot a b = T at *
    generalize dis a b = D at *
    have e := alw_in (T : Int) p (by omega) (by omega) h1 h2
    rw [e]
    obtain ⟨q, rfl⟩ : ∃ q : Nat, p = q := ⟨p.toNat, by omega⟩
    have e1 : ((T : Int) * (100 - (q : Int))) = ((T * (100 - q) : Nat) : Int) := by push_cast; rw [Int.natCast_sub (by omega)]; rfl
    rw [e1]
    have e2 : (q : Int) ≤ ((100 * (T - D) / T : Nat) : Int) ↔ q * T ≤ 100 * (T - D) := by
      rw [Int.ofNat_le]; exact Nat.le_div_iff_mul_le (by omega)
    have e3 : (D : Int) ≤ ((T * (100 - q) : Nat) : Int) / 100 ↔ D * 100 ≤ T * (100 - q) := by
      have : ((T * (100 - q) : Nat) : Int) / 100 = ((T * (100 - q) / 100 : Nat) : Int) := by push_cast; rfl
      rw [this, Int.ofNat_le]; exact Nat.le_div_iff_mul_le (by omega)
    rw [e2, e3]
    have e4 : T * (100 - q) = 100 * T - q * T := by rw [Nat.mul_sub, Nat.mul_comm T 100, Nat.mul_comm T q]
    have e5 : q * T ≤ 100 * T := Nat.mul_le_mul_right T (by omega)
    have e6 : T ≤ q * T := Nat.le_mul_of_pos_left T (by omega)
    rw [e4]
    omega
end Go.Proofs.Ytpkipdiecnokhaa
namespace Go.Proofs.Ytpkipdiecnokhaa
open Go.ChangeShapes Go.WideShapes Go.ChangeAt Go.RowKit Go.Sort
set_option linter.unusedVariables false
set_option linter.unusedSimpArgs false
set_option maxRecDepth 100000

set_option maxHeartbeats 6400000 in
theorem price_any (p q r : Option Addr) (c d f : Nat) (a b : List It) (S : List Ed) (w : World) (hA : Its w p a) (hB : Its w q b) (hS : Eds w r S) (hc : a.length ≤ c) (hd : b.length ≤ d) (hf : S.length ≤ f) (hcm : c ≤ maxLen) (hdm : d ≤ maxLen) (hfm : f ≤ maxLen) (ha : a.length ≤ 100000) (hb : b.length ≤ 100000) (hs : S.length ≤ 1000000) (ta : txtsB a) (tb : txtsB b) :
    Calls Try.prog 29 #[.slice p a.length c, .slice q b.length d, .slice r S.length f] w fun e w' => e = .returned (.tuple #[.int .i64 (prO a b S : Nat), .bool (prB a b S)]) ∧ Below w.heap.size w w' := by
  have h1 := fun W hA hB => surplus_any p q c d a b W hA hB hc hd hcm hdm ha hb ta tb
  have hsl := sur_le a b
  have hsl2 : 2 * sur a b ≤ 80000000000 := by
    have : (a.length + b.length) * (a.length + b.length) ≤ 200000 * 200000 := Nat.mul_le_mul (by omega) (by omega)
    omega
  have hcost := fun x y W hx hy => dcost_any x y W hx hy
  have hstp := fun k t id W => step_any k t id W
  have HNONE := Lib.hid (fun h => prc_none (a := a) (b := b) (S := S) h)
  have HSHORT := Lib.hid (fun i j u h hs => prc_short (a := a) (b := b) (S := S) (i := i) (j := j) (u := u) h hs)
  have HSOME := Lib.hid (fun i j u h hs => prc_some (a := a) (b := b) (S := S) (i := i) (j := j) (u := u) h hs)
  unfold maxLen at hcm hdm hfm
  generalize 2 * sur a b = U at *
  have H1 := Lib.hid h1; have HC := Lib.hid hcost; have HT := Lib.hid hstp
  clear h1 hsl hcost hstp
  have HTA := Lib.hid ta; have HTB := Lib.hid tb
  clear ta tb
  go_enter Try.func29, Try.ntmps29
  go_wp2_with fail
  refine (H1.out _ hA hB).mono ?_; rintro e w1 ⟨rfl, hb1⟩
  clear H1
  go_wp2_with fail
  go_loopw [8, 9, 10, 22] (fun u i j n wr => ∃ k i' j' u' : Nat, k ≤ S.length ∧ n = .int .i64 k ∧ u = .int .i64 ((U : Int) + (u' : Int)) ∧ i = .int .i64 i' ∧ j = .int .i64 j' ∧ i' ≤ a.length ∧ j' ≤ b.length ∧ u' ≤ 4 * k ∧ prRun a b S 0 0 0 = prRun a b (S.drop k) i' j' u' ∧ Below w.heap.size w wr) (fun _ _ _ n _ => S.length - (intOf n).toNat)
  case atStart => exact ⟨0, 0, 0, 0, Nat.zero_le _, rfl, by simp, rfl, rfl, Nat.zero_le _, Nat.zero_le _, Nat.zero_le _, rfl, hb1⟩
  case round =>
    obtain ⟨k, i, j, u, hk, rfl, rfl, rfl, rfl, hi, hj, hu, hR, hB1⟩ := hrel
    by_cases hlt : k < S.length
    · obtain ⟨br, or, rfl, hbr, hps⟩ := (hS.call hB1) (by omega)
      have c0 : wr.cell? ⟨br, or + k * 2, none⟩ = some (.int .i64 (S[k]).a) := (hps k hlt) 0 _ rfl
      have c1 := (hps k hlt) 1 _ rfl
      have hdr := prRun_drop a b S k i j u hlt
      rw [hdr] at hR
      have HR := Lib.hid hR
      have hAr := Lib.hid (hA.call hB1)
      have hBr := Lib.hid (hB.call hB1)
      have HB1 := Lib.hid hB1
      generalize S[k] = E at *
      clear hdr hR hps hB1
      have hv0 := heap_alloc_new wr (.cells #[.int .i64 E.a, .int .i64 E.b] 45)
      have hbv : Below wr.heap.size wr (wr.alloc (.cells #[.int .i64 E.a, .int .i64 E.b] 45)) := blw (Below.refl _ _) _
      have ik : (k : Int) < (S.length : Int) := by omega
      go_wp2_with fail
      have hw1 := BelowOn HB1.out hbv
      have hA1 := hAr.out.call hbv
      have hB1 := hBr.out.call hbv
      generalize (wr.alloc (.cells #[.int .i64 E.a, .int .i64 E.b] 45)) = v1 at *
      have d0 : v1.cell? ⟨wr.heap.size, 0, none⟩ = some (.int .i64 E.a) := by rw [Lib.cell_of_heap hv0]; rfl
      have d1 : v1.cell? ⟨wr.heap.size, 1, none⟩ = some (.int .i64 E.b) := by rw [Lib.cell_of_heap hv0]; rfl
      generalize wr.heap.size = g at *
      clear c0 c1 hv0 hbv hAr hBr HB1 hbr
      have HX := Lib.hid (And.intro hw1 (And.intro hA1 hB1))
      clear hw1 hA1 hB1
      by_cases A1 : (i : Int) < (a.length : Int)
      · by_cases A2 : E.a = (i : Int)
        · skip
          by_cases B1 : (j : Int) < (b.length : Int)
          · by_cases B2 : E.b = (j : Int)
            · have A1n : i < a.length := by omega
              rw [A2] at d0
              have B1n : j < b.length := by omega
              rw [B2] at d1
              have r0 := cell_regrown d0; have r1 := cell_regrown d1
              refine wp_region_quiet_below (by kernel_rfl) (by kernel_rfl) ?_
              repeat (go_big_quiet_step (fail))
              refine wpQuiet_nil ?_
              intro _ hw'
              obtain ⟨⟨dq, osq⟩, hw''⟩ := hw'
              subst hw''
              have hb2 := below_regrown v1 dq osq
              have k0 := r0 dq osq; have k1 := r1 dq osq
              generalize grow (redrawn v1 dq) osq = v2 at *
              clear r0 r1 d0 d1
              have hw2 := BelowOn HX.out.1 hb2
              have hA2 := HX.out.2.1.call hb2
              have hB2 := HX.out.2.2.call hb2
              clear hb2 HX
              have hst := pr_pair (a := a) (b := b) (u := u) A1n A2 B1n B2
              obtain ⟨ad, rfl, had, x0, x1, x2⟩ := hA2.row i A1n
              obtain ⟨bd, rfl, hbd, y0, y1, y2⟩ := hB2.row j B1n
              have hcc := fun W => HC.out a[i] b[j] W (HTA.out _ (List.getElem_mem A1n)) (HTB.out _ (List.getElem_mem B1n))
              have hR := HR.out
              rw [hst] at hR
              have s4 := cst_le4 a[i] b[j]
              have hcO : okP a[i] b[j] = true → cO a[i] b[j] = cst a[i] b[j] := fun h => by unfold cO; rw [if_pos h]
              generalize a[i] = X at *
              generalize b[j] = Y at *
              have HCC := Lib.hid hcc
              have HW0 := Lib.hid hw2
              clear hcc hst HR hw2 hA2 hB2 k0 k1
              cases hok : okP X Y with
              | false =>
                rw [if_neg (by rw [hok]; simp)] at hR
                simp only at hR
                obtain ⟨ee1, ee2⟩ := HNONE.out hR
                have HE := Lib.hid (And.intro ee1 ee2)
                clear ee1 ee2 hcO
                rw [hok] at HCC; clear hR
                go_wp2_with fail
                have q0 := cell_regrown x0; have q1 := cell_regrown x1; have q2 := cell_regrown x2; have q3 := cell_regrown y0; have q4 := cell_regrown y1; have q5 := cell_regrown y2
                have e1 := fun d os => Calls.regrown_of (HCC.out (grow (redrawn v2 d) os))
                refine wp_region_quiet_below (by kernel_rfl) (by kernel_rfl) ?_
                repeat (go_big_quiet_step (exact e1 _ _))
                refine wpQuiet_nil ?_
                intro _ hw'
                obtain ⟨⟨dq, osq⟩, hw''⟩ := hw'
                subst hw''
                have hb3 := below_regrown v2 dq osq
                generalize grow (redrawn v2 dq) osq = v3 at *
                clear q0 q1 q2 q3 q4 q5 e1 x0 x1 x2 y0 y1 y2
                have HW := Lib.hid (BelowOn HW0.out hb3)
                clear hb3 HCC HW0
                go_wp2_with fail
                go_ret2
                exact ⟨by rw [HE.out.1, HE.out.2]; rfl, HW.out⟩
              | true =>
                rw [if_pos hok] at hR
                simp only at hR
                have hcO2 := hcO hok
                rw [hcO2] at HCC
                have HR2 := Lib.hid hR
                generalize cst X Y = T at *
                clear hR hcO hcO2
                rw [hok] at HCC
                go_wp2_with fail
                have q0 := cell_regrown x0; have q1 := cell_regrown x1; have q2 := cell_regrown x2; have q3 := cell_regrown y0; have q4 := cell_regrown y1; have q5 := cell_regrown y2
                have e1 := fun d os => Calls.regrown_of (HCC.out (grow (redrawn v2 d) os))
                refine wp_region_quiet_below (by kernel_rfl) (by kernel_rfl) ?_
                repeat (go_big_quiet_step (exact e1 _ _))
                refine wpQuiet_nil ?_
                intro _ hw'
                obtain ⟨⟨dq, osq⟩, hw''⟩ := hw'
                subst hw''
                have hb3 := below_regrown v2 dq osq
                generalize grow (redrawn v2 dq) osq = v3 at *
                clear q0 q1 q2 q3 q4 q5 e1 x0 x1 x2 y0 y1 y2
                have HW := Lib.hid (BelowOn HW0.out hb3)
                clear hb3 HCC HW0
                go_wp2_with fail
                go_roundw
                case rel => exact ⟨k + 1, i + 1, j + 1, u + T, hlt, by go_num, by simp [Int.add_assoc], by go_num, by go_num, by omega, by omega, by omega, HR2.out, HW.out⟩
                case measure => simp [intOf]; omega
            · have A1n : i < a.length := by omega
              rw [A2] at d0
              have r0 := cell_regrown d0; have r1 := cell_regrown d1
              refine wp_region_quiet_below (by kernel_rfl) (by kernel_rfl) ?_
              repeat (go_big_quiet_step (fail))
              refine wpQuiet_nil ?_
              intro _ hw'
              obtain ⟨⟨dq, osq⟩, hw''⟩ := hw'
              subst hw''
              have hb2 := below_regrown v1 dq osq
              have k0 := r0 dq osq; have k1 := r1 dq osq
              generalize grow (redrawn v1 dq) osq = v2 at *
              clear r0 r1 d0 d1
              have hw2 := BelowOn HX.out.1 hb2
              have hA2 := HX.out.2.1.call hb2
              have hB2 := HX.out.2.2.call hb2
              clear hb2 HX
              have hst := pr_del (a := a) (b := b) (u := u) A1n A2 (fun h => B2 h.2)
              by_cases hC : E.b = -1
              · rw [hC] at k1
                have hR := HR.out
                rw [hst, if_pos hC] at hR
                simp only at hR
                obtain ⟨ad, rfl, had, x0, x1, x2⟩ := hA2.row i A1n
                have hs := HT.out (a[i]).k (a[i]).t (a[i]).id v2
                have s4 := stp_le4 a[i]
                have hee : stp ⟨(a[i]).k, (a[i]).t, (a[i]).id⟩ = stp a[i] := rfl
                rw [hee] at hs
                have HS1 := Lib.hid hs
                have HR2 := Lib.hid hR
                have HW0 := Lib.hid hw2
                generalize stp a[i] = T at *
                clear hs hR HR hst hee hw2 hA2 hB2
                go_wp2_with fail
                refine HS1.out.mono ?_; rintro e v3 ⟨rfl, hb3⟩
                have HW := Lib.hid (BelowOn HW0.out hb3)
                clear hb3 HS1 HW0 x0 x1 x2 had k0 k1
                go_wp2_with fail
                go_roundw
                case rel => exact ⟨k + 1, i + 1, j, u + T, hlt, by go_num, by simp [Int.add_assoc], by go_num, by go_num, by omega, by omega, by omega, HR2.out, HW.out⟩
                case measure => simp [intOf]; omega
              · have hst2 : prStep a b E i j u = none := by rw [hst, if_neg hC]
                have hR := HR.out
                rw [hst2] at hR
                simp only at hR
                obtain ⟨e1, e2⟩ := HNONE.out hR
                have HE := Lib.hid (And.intro e1 e2)
                have HW := Lib.hid hw2
                clear e1 e2 hR HR hw2 hA2 hB2
                go_wp2_with fail
                go_ret2
                exact ⟨by rw [HE.out.1, HE.out.2]; rfl, HW.out⟩
          · have A1n : i < a.length := by omega
            rw [A2] at d0
            have r0 := cell_regrown d0; have r1 := cell_regrown d1
            refine wp_region_quiet_below (by kernel_rfl) (by kernel_rfl) ?_
            repeat (go_big_quiet_step (fail))
            refine wpQuiet_nil ?_
            intro _ hw'
            obtain ⟨⟨dq, osq⟩, hw''⟩ := hw'
            subst hw''
            have hb2 := below_regrown v1 dq osq
            have k0 := r0 dq osq; have k1 := r1 dq osq
            generalize grow (redrawn v1 dq) osq = v2 at *
            clear r0 r1 d0 d1
            have hw2 := BelowOn HX.out.1 hb2
            have hA2 := HX.out.2.1.call hb2
            have hB2 := HX.out.2.2.call hb2
            clear hb2 HX
            have hst := pr_del (a := a) (b := b) (u := u) A1n A2 (fun h => B1 (Int.ofNat_lt.2 h.1))
            by_cases hC : E.b = -1
            · rw [hC] at k1
              have hR := HR.out
              rw [hst, if_pos hC] at hR
              simp only at hR
              obtain ⟨ad, rfl, had, x0, x1, x2⟩ := hA2.row i A1n
              have hs := HT.out (a[i]).k (a[i]).t (a[i]).id v2
              have s4 := stp_le4 a[i]
              have hee : stp ⟨(a[i]).k, (a[i]).t, (a[i]).id⟩ = stp a[i] := rfl
              rw [hee] at hs
              have HS1 := Lib.hid hs
              have HR2 := Lib.hid hR
              have HW0 := Lib.hid hw2
              generalize stp a[i] = T at *
              clear hs hR HR hst hee hw2 hA2 hB2
              go_wp2_with fail
              refine HS1.out.mono ?_; rintro e v3 ⟨rfl, hb3⟩
              have HW := Lib.hid (BelowOn HW0.out hb3)
              clear hb3 HS1 HW0 x0 x1 x2 had k0 k1
              go_wp2_with fail
              go_roundw
              case rel => exact ⟨k + 1, i + 1, j, u + T, hlt, by go_num, by simp [Int.add_assoc], by go_num, by go_num, by omega, by omega, by omega, HR2.out, HW.out⟩
              case measure => simp [intOf]; omega
            · have hst2 : prStep a b E i j u = none := by rw [hst, if_neg hC]
              have hR := HR.out
              rw [hst2] at hR
              simp only at hR
              obtain ⟨e1, e2⟩ := HNONE.out hR
              have HE := Lib.hid (And.intro e1 e2)
              have HW := Lib.hid hw2
              clear e1 e2 hR HR hw2 hA2 hB2
              go_wp2_with fail
              go_ret2
              exact ⟨by rw [HE.out.1, HE.out.2]; rfl, HW.out⟩
        · skip
          by_cases B1 : (j : Int) < (b.length : Int)
          · by_cases B2 : E.b = (j : Int)
            · have B1n : j < b.length := by omega
              rw [B2] at d1
              have r0 := cell_regrown d0; have r1 := cell_regrown d1
              refine wp_region_quiet_below (by kernel_rfl) (by kernel_rfl) ?_
              repeat (go_big_quiet_step (fail))
              refine wpQuiet_nil ?_
              intro _ hw'
              obtain ⟨⟨dq, osq⟩, hw''⟩ := hw'
              subst hw''
              have hb2 := below_regrown v1 dq osq
              have k0 := r0 dq osq; have k1 := r1 dq osq
              generalize grow (redrawn v1 dq) osq = v2 at *
              clear r0 r1 d0 d1
              have hw2 := BelowOn HX.out.1 hb2
              have hA2 := HX.out.2.1.call hb2
              have hB2 := HX.out.2.2.call hb2
              clear hb2 HX
              have hst := pr_ins (a := a) (b := b) (u := u) (fun h => A2 h.2) B1n B2
              by_cases hC : E.a = -1
              · rw [hC] at k0
                have hR := HR.out
                rw [hst, if_pos hC] at hR
                simp only at hR
                obtain ⟨ad, rfl, had, x0, x1, x2⟩ := hB2.row j B1n
                have hs := HT.out (b[j]).k (b[j]).t (b[j]).id v2
                have s4 := stp_le4 b[j]
                have hee : stp ⟨(b[j]).k, (b[j]).t, (b[j]).id⟩ = stp b[j] := rfl
                rw [hee] at hs
                have HS1 := Lib.hid hs
                have HR2 := Lib.hid hR
                have HW0 := Lib.hid hw2
                generalize stp b[j] = T at *
                clear hs hR HR hst hee hw2 hA2 hB2
                go_wp2_with fail
                refine HS1.out.mono ?_; rintro e v3 ⟨rfl, hb3⟩
                have HW := Lib.hid (BelowOn HW0.out hb3)
                clear hb3 HS1 HW0 x0 x1 x2 had k0 k1
                go_wp2_with fail
                go_roundw
                case rel => exact ⟨k + 1, i, j + 1, u + T, hlt, by go_num, by simp [Int.add_assoc], by go_num, by go_num, by omega, by omega, by omega, HR2.out, HW.out⟩
                case measure => simp [intOf]; omega
              · have hst2 : prStep a b E i j u = none := by rw [hst, if_neg hC]
                have hR := HR.out
                rw [hst2] at hR
                simp only at hR
                obtain ⟨e1, e2⟩ := HNONE.out hR
                have HE := Lib.hid (And.intro e1 e2)
                have HW := Lib.hid hw2
                clear e1 e2 hR HR hw2 hA2 hB2
                go_wp2_with fail
                go_ret2
                exact ⟨by rw [HE.out.1, HE.out.2]; rfl, HW.out⟩
            · have r0 := cell_regrown d0; have r1 := cell_regrown d1
              refine wp_region_quiet_below (by kernel_rfl) (by kernel_rfl) ?_
              repeat (go_big_quiet_step (fail))
              refine wpQuiet_nil ?_
              intro _ hw'
              obtain ⟨⟨dq, osq⟩, hw''⟩ := hw'
              subst hw''
              have hb2 := below_regrown v1 dq osq
              have k0 := r0 dq osq; have k1 := r1 dq osq
              generalize grow (redrawn v1 dq) osq = v2 at *
              clear r0 r1 d0 d1
              have hw2 := BelowOn HX.out.1 hb2
              have hA2 := HX.out.2.1.call hb2
              have hB2 := HX.out.2.2.call hb2
              clear hb2 HX
              have hst2 := pr_no (a := a) (b := b) (e := E) (i := i) (j := j) (u := u) (fun h => A2 h.2) (fun h => B2 h.2)
              have hR := HR.out
              rw [hst2] at hR
              simp only at hR
              obtain ⟨e1, e2⟩ := HNONE.out hR
              have HE := Lib.hid (And.intro e1 e2)
              have HW := Lib.hid hw2
              clear e1 e2 hR HR hw2 hA2 hB2
              go_wp2_with fail
              go_ret2
              exact ⟨by rw [HE.out.1, HE.out.2]; rfl, HW.out⟩
          · have r0 := cell_regrown d0; have r1 := cell_regrown d1
            refine wp_region_quiet_below (by kernel_rfl) (by kernel_rfl) ?_
            repeat (go_big_quiet_step (fail))
            refine wpQuiet_nil ?_
            intro _ hw'
            obtain ⟨⟨dq, osq⟩, hw''⟩ := hw'
            subst hw''
            have hb2 := below_regrown v1 dq osq
            have k0 := r0 dq osq; have k1 := r1 dq osq
            generalize grow (redrawn v1 dq) osq = v2 at *
            clear r0 r1 d0 d1
            have hw2 := BelowOn HX.out.1 hb2
            have hA2 := HX.out.2.1.call hb2
            have hB2 := HX.out.2.2.call hb2
            clear hb2 HX
            have hst2 := pr_no (a := a) (b := b) (e := E) (i := i) (j := j) (u := u) (fun h => A2 h.2) (fun h => B1 (Int.ofNat_lt.2 h.1))
            have hR := HR.out
            rw [hst2] at hR
            simp only at hR
            obtain ⟨e1, e2⟩ := HNONE.out hR
            have HE := Lib.hid (And.intro e1 e2)
            have HW := Lib.hid hw2
            clear e1 e2 hR HR hw2 hA2 hB2
            go_wp2_with fail
            go_ret2
            exact ⟨by rw [HE.out.1, HE.out.2]; rfl, HW.out⟩
      · skip
        by_cases B1 : (j : Int) < (b.length : Int)
        · by_cases B2 : E.b = (j : Int)
          · have B1n : j < b.length := by omega
            rw [B2] at d1
            have r0 := cell_regrown d0; have r1 := cell_regrown d1
            refine wp_region_quiet_below (by kernel_rfl) (by kernel_rfl) ?_
            repeat (go_big_quiet_step (fail))
            refine wpQuiet_nil ?_
            intro _ hw'
            obtain ⟨⟨dq, osq⟩, hw''⟩ := hw'
            subst hw''
            have hb2 := below_regrown v1 dq osq
            have k0 := r0 dq osq; have k1 := r1 dq osq
            generalize grow (redrawn v1 dq) osq = v2 at *
            clear r0 r1 d0 d1
            have hw2 := BelowOn HX.out.1 hb2
            have hA2 := HX.out.2.1.call hb2
            have hB2 := HX.out.2.2.call hb2
            clear hb2 HX
            have hst := pr_ins (a := a) (b := b) (u := u) (fun h => A1 (Int.ofNat_lt.2 h.1)) B1n B2
            by_cases hC : E.a = -1
            · rw [hC] at k0
              have hR := HR.out
              rw [hst, if_pos hC] at hR
              simp only at hR
              obtain ⟨ad, rfl, had, x0, x1, x2⟩ := hB2.row j B1n
              have hs := HT.out (b[j]).k (b[j]).t (b[j]).id v2
              have s4 := stp_le4 b[j]
              have hee : stp ⟨(b[j]).k, (b[j]).t, (b[j]).id⟩ = stp b[j] := rfl
              rw [hee] at hs
              have HS1 := Lib.hid hs
              have HR2 := Lib.hid hR
              have HW0 := Lib.hid hw2
              generalize stp b[j] = T at *
              clear hs hR HR hst hee hw2 hA2 hB2
              go_wp2_with fail
              refine HS1.out.mono ?_; rintro e v3 ⟨rfl, hb3⟩
              have HW := Lib.hid (BelowOn HW0.out hb3)
              clear hb3 HS1 HW0 x0 x1 x2 had k0 k1
              go_wp2_with fail
              go_roundw
              case rel => exact ⟨k + 1, i, j + 1, u + T, hlt, by go_num, by simp [Int.add_assoc], by go_num, by go_num, by omega, by omega, by omega, HR2.out, HW.out⟩
              case measure => simp [intOf]; omega
            · have hst2 : prStep a b E i j u = none := by rw [hst, if_neg hC]
              have hR := HR.out
              rw [hst2] at hR
              simp only at hR
              obtain ⟨e1, e2⟩ := HNONE.out hR
              have HE := Lib.hid (And.intro e1 e2)
              have HW := Lib.hid hw2
              clear e1 e2 hR HR hw2 hA2 hB2
              go_wp2_with fail
              go_ret2
              exact ⟨by rw [HE.out.1, HE.out.2]; rfl, HW.out⟩
          · have r0 := cell_regrown d0; have r1 := cell_regrown d1
            refine wp_region_quiet_below (by kernel_rfl) (by kernel_rfl) ?_
            repeat (go_big_quiet_step (fail))
            refine wpQuiet_nil ?_
            intro _ hw'
            obtain ⟨⟨dq, osq⟩, hw''⟩ := hw'
            subst hw''
            have hb2 := below_regrown v1 dq osq
            have k0 := r0 dq osq; have k1 := r1 dq osq
            generalize grow (redrawn v1 dq) osq = v2 at *
            clear r0 r1 d0 d1
            have hw2 := BelowOn HX.out.1 hb2
            have hA2 := HX.out.2.1.call hb2
            have hB2 := HX.out.2.2.call hb2
            clear hb2 HX
            have hst2 := pr_no (a := a) (b := b) (e := E) (i := i) (j := j) (u := u) (fun h => A1 (Int.ofNat_lt.2 h.1)) (fun h => B2 h.2)
            have hR := HR.out
            rw [hst2] at hR
            simp only at hR
            obtain ⟨e1, e2⟩ := HNONE.out hR
            have HE := Lib.hid (And.intro e1 e2)
            have HW := Lib.hid hw2
            clear e1 e2 hR HR hw2 hA2 hB2
            go_wp2_with fail
            go_ret2
            exact ⟨by rw [HE.out.1, HE.out.2]; rfl, HW.out⟩
        · have r0 := cell_regrown d0; have r1 := cell_regrown d1
          refine wp_region_quiet_below (by kernel_rfl) (by kernel_rfl) ?_
          repeat (go_big_quiet_step (fail))
          refine wpQuiet_nil ?_
          intro _ hw'
          obtain ⟨⟨dq, osq⟩, hw''⟩ := hw'
          subst hw''
          have hb2 := below_regrown v1 dq osq
          have k0 := r0 dq osq; have k1 := r1 dq osq
          generalize grow (redrawn v1 dq) osq = v2 at *
          clear r0 r1 d0 d1
          have hw2 := BelowOn HX.out.1 hb2
          have hA2 := HX.out.2.1.call hb2
          have hB2 := HX.out.2.2.call hb2
          clear hb2 HX
          have hst2 := pr_no (a := a) (b := b) (e := E) (i := i) (j := j) (u := u) (fun h => A1 (Int.ofNat_lt.2 h.1)) (fun h => B1 (Int.ofNat_lt.2 h.1))
          have hR := HR.out
          rw [hst2] at hR
          simp only at hR
          obtain ⟨e1, e2⟩ := HNONE.out hR
          have HE := Lib.hid (And.intro e1 e2)
          have HW := Lib.hid hw2
          clear e1 e2 hR HR hw2 hA2 hB2
          go_wp2_with fail
          go_ret2
          exact ⟨by rw [HE.out.1, HE.out.2]; rfl, HW.out⟩
    · obtain rfl : k = S.length := by omega
      rw [List.drop_length, prRun] at hR
      have HB1 := Lib.hid hB1
      clear hB1
      by_cases F1 : (i : Int) < (a.length : Int)
      · obtain ⟨e1, e2⟩ := HSHORT.out _ _ _ hR (.inl (by omega))
        have HE := Lib.hid (And.intro e1 e2)
        clear e1 e2 hR
        go_wp2_with fail
        go_ret2
        exact ⟨by rw [HE.out.1, HE.out.2]; rfl, HB1.out⟩
      · by_cases F2 : (j : Int) < (b.length : Int)
        · obtain ⟨e1, e2⟩ := HSHORT.out _ _ _ hR (.inr (by omega))
          have HE := Lib.hid (And.intro e1 e2)
          clear e1 e2 hR
          go_wp2_with fail
          go_ret2
          exact ⟨by rw [HE.out.1, HE.out.2]; rfl, HB1.out⟩
        · obtain ⟨e1, e2⟩ := HSOME.out _ _ _ hR (by omega)
          have HE := Lib.hid (And.intro e1 e2)
          clear e1 e2 hR
          go_wp2_with fail
          go_ret2
          exact ⟨by rw [HE.out.1, HE.out.2]; simp, HB1.out⟩
end Go.Proofs.Ytpkipdiecnokhaa
namespace Go.Proofs.Ytpkipdiecnokhaa
open Go.ChangeShapes Go.WideShapes Go.ChangeAt Go.RowKit Go.Sort
set_option linter.unusedVariables false
set_option linter.unusedSimpArgs false
set_option maxRecDepth 100000

theorem Pth.app {p1 : List Mv} {a1 b1 : List It} {n1 : Nat} (h : Pth p1 a1 b1 n1) {p2 : List Mv} {a2 b2 : List It} {n2 : Nat} (k : Pth p2 a2 b2 n2) : Pth (p1 ++ p2) (a1 ++ a2) (b1 ++ b2) (n1 + n2) := by
  induction h with
  | nil => rw [Nat.zero_add]; exact k
  | X x _ ih => rw [Nat.add_assoc]; exact .X x ih
  | I y _ ih => rw [Nat.add_assoc]; exact .I y ih
  | P ho _ ih => rw [Nat.add_assoc]; exact .P ho ih
/-- A path up to the i-th and the j-th token, and its script. -/
structure PS (A B : List It) (i j : Nat) (S : List Ed) : Prop where
  path : ∃ P n, Pth P (A.take i) (B.take j) n ∧ S = edM P 0 0
  li : i ≤ A.length
  lj : j ≤ B.length
  sl : S.length ≤ i + j
theorem PS.zero (A B : List It) : PS A B 0 0 [] := ⟨⟨[], 0, .nil, rfl⟩, Nat.zero_le _, Nat.zero_le _, Nat.zero_le _⟩
theorem PS.pair {A B : List It} {i j : Nat} {S : List Ed} (h : PS A B i j S) (hi : i < A.length) (hj : j < B.length) (ho : okP A[i] B[j] = true) : PS A B (i + 1) (j + 1) (S ++ [⟨i, j⟩]) := by
  obtain ⟨P, n, hp, rfl⟩ := h.path
  refine ⟨⟨P ++ [.P], n + (cst A[i] B[j] + 0), ?_, ?_⟩, hi, hj, by have := h.sl; rw [List.length_append]; simp; omega⟩
  · rw [List.take_succ_eq_append_getElem hi, List.take_succ_eq_append_getElem hj]; exact hp.app (.P ho .nil)
  · rw [edM_app hp]; simp [edM, Nat.min_eq_left h.li, Nat.min_eq_left h.lj]
theorem PS.del {A B : List It} {i j : Nat} {S : List Ed} (h : PS A B i j S) (hi : i < A.length) : PS A B (i + 1) j (S ++ [⟨i, -1⟩]) := by
  obtain ⟨P, n, hp, rfl⟩ := h.path
  refine ⟨⟨P ++ [.X], n + (stp A[i] + 0), ?_, ?_⟩, hi, h.lj, by have := h.sl; rw [List.length_append]; simp; omega⟩
  · rw [List.take_succ_eq_append_getElem hi]; have := hp.app (Pth.X A[i] .nil); rwa [List.append_nil] at this
  · rw [edM_app hp]; simp [edM, Nat.min_eq_left h.li]
theorem PS.ins {A B : List It} {i j : Nat} {S : List Ed} (h : PS A B i j S) (hj : j < B.length) : PS A B i (j + 1) (S ++ [⟨-1, j⟩]) := by
  obtain ⟨P, n, hp, rfl⟩ := h.path
  refine ⟨⟨P ++ [.I], n + (stp B[j] + 0), ?_, ?_⟩, h.li, hj, by have := h.sl; rw [List.length_append]; simp; omega⟩
  · rw [List.take_succ_eq_append_getElem hj]; have := hp.app (Pth.I B[j] .nil); rwa [List.append_nil] at this
  · rw [edM_app hp]; simp [edM, Nat.min_eq_left h.lj]
theorem PS.price {A B : List It} {S : List Ed} (h : PS A B A.length B.length S) : prB A B S = true ∧ dis A B ≤ prO A B S := by
  obtain ⟨P, n, hp, rfl⟩ := h.path
  rw [List.take_length, List.take_length] at hp
  obtain ⟨h1, h2⟩ := prc_path hp
  refine ⟨h2, ?_⟩
  rw [h1]
  have := dst_al hp.al
  unfold dis; omega
theorem align_price (A B : List It) : prO A B (scr 0 0 A B) = dis A B ∧ prB A B (scr 0 0 A B) = true := by
  obtain ⟨h1, h2⟩ := prc_path (can_pth A B)
  refine ⟨?_, h2⟩
  unfold scr
  rw [h1]
  unfold dis; omega
theorem own_eds {base : Nat} {S : List Ed} {v : Value} {W : World} (h : OwnE base S v W) : ∃ p c, v = .slice p S.length c ∧ S.length ≤ c ∧ c ≤ maxLen ∧ Eds W p S := by
  rcases h.2 with ⟨hv, h0⟩ | ⟨g, cap, cur, hv, hg, hh, hn, hm, hs, ht⟩
  · have : S = [] := List.length_eq_zero_iff.1 h0
    subst this
    exact ⟨none, 0, hv, Nat.le_refl _, Nat.zero_le _, Rw.nil _ _⟩
  · refine ⟨some ⟨g, 0, none⟩, cap, hv, hn, hm, fun _ => ⟨g, 0, rfl, ?_, fun i hi => ?_⟩⟩
    · rcases Nat.lt_or_ge g W.heap.size with hlt | hge
      · exact hlt
      · rw [Array.getElem?_eq_none hge] at hh; cases hh
    · have hc := World.ownsRow.cells h (g := g) (by rw [hv]; rfl)
      intro j u hu
      rw [Nat.zero_add]
      have ad : (⟨g, 0, none⟩ : Addr).add (i * 2 + j) = ⟨g, i * 2 + j, none⟩ := by unfold Addr.add; split <;> simp_all
      rw [← ad]
      refine hc _ _ ?_
      have key : ∀ (L : List Ed) (i : Nat) (hi : i < L.length), (eenc (L[i]'hi))[j]? = some u → (cellsOf eenc L)[i * 2 + j]? = some u := by
        intro L
        induction L with
        | nil => intro i hi; cases hi
        | cons x L ih =>
          intro i hi hv
          unfold cellsOf at ih ⊢
          rw [List.flatMap_cons]
          have hj : j < 2 := (List.getElem?_eq_some_iff.1 hu).1
          have e2 : ∀ x : Ed, (eenc x).length = 2 := fun _ => rfl
          cases i with
          | zero => rw [List.getElem?_append_left (by rw [e2]; omega), Nat.zero_mul, Nat.zero_add]; exact hv
          | succ i => rw [List.getElem?_append_right (by rw [e2]; omega), e2, show (i + 1) * 2 + j - 2 = i * 2 + j by omega]; exact ih i (by simpa using hi) hv
      exact key S i hi hu
/-- All that the law's loop carries. -/
structure AF (w : World) (base bN : Nat) (pa pb : Option Addr) (ca cb : Nat) (A B : List It) (pn : Option Addr) (cn : Nat) (L : List Int) (S : List Ed) (v : Value) (m : Nat) (W : World) : Prop where
  nm : NumsAt W bN pn cn L m
  da : Dr W pa ca A
  db : Dr W pb cb B
  la : 0 < A.length → ∀ x, pa = some x → x.block < bN
  lb : 0 < B.length → ∀ x, pb = some x → x.block < bN
  ln : 0 < L.length → ∀ x, pn = some x → x.block < bN
  hb : bN < base
  sz : base ≤ W.heap.size
  bw : Below w.heap.size w W
  own : OwnE base S v W
  w0 : w.heap.size ≤ bN
variable {w : World} {base bN : Nat} {pa pb : Option Addr} {ca cb : Nat} {A B : List It} {pn : Option Addr} {cn : Nat} {L : List Int} {S : List Ed} {v : Value} {m : Nat} {W W' : World}
theorem AF.call (h : AF w base bN pa pb ca cb A B pn cn L S v m W) (hb : Below W.heap.size W W') : AF w base bN pa pb ca cb A B pn cn L S v m W' :=
  ⟨h.nm.call hb, h.da.call hb, h.db.call hb, h.la, h.lb, h.ln, h.hb, Nat.le_trans h.sz hb.size, BelowOn h.bw hb, OwnL.call h.own hb, h.w0⟩
theorem AF.next (h : AF w base bN pa pb ca cb A B pn cn L S v m W) (hg : W.grownBy W' (some bN)) (hn : NumsAt W' bN pn cn L (m + 1)) : AF w base bN pa pb ca cb A B pn cn L S v (m + 1) W' :=
  ⟨hn, ⟨fun h0 => (Its.other h.da.its hg (fun a ha => by have := h.la h0 a ha; omega)) h0, h.da.le, h.da.cm, h.da.len, h.da.txt⟩, ⟨fun h0 => (Its.other h.db.its hg (fun a ha => by have := h.lb h0 a ha; omega)) h0, h.db.le, h.db.cm, h.db.len, h.db.txt⟩,
    h.la, h.lb, h.ln, h.hb, Nat.le_trans h.sz hg.size, below_of_grow h.bw hg h.bw.size h.w0,
    ownsRow_same h.own (fun i hi => hg.block i (World.ownsRow.lt h.own i hi).2 (fun e => by injection e with e; have := (World.ownsRow.lt h.own i hi).1; have := h.hb; omega)), h.w0⟩
theorem AF.push (h : AF w base bN pa pb ca cb A B pn cn L S v m W) {S' : List Ed} {v' : Value} (hb : Below base W W') (ho : OwnE base S' v' W') : AF w base bN pa pb ca cb A B pn cn L S' v' m W' :=
  ⟨⟨(hb.block bN h.hb).trans h.nm.hh, ones_keep h.nm.ones hb.size (fun h0 a ha => hb.block _ (Nat.lt_trans (h.ln h0 a ha) h.hb)), h.nm.ap, h.nm.wf, h.nm.le, h.nm.cm⟩,
    ⟨fun h0 => (Its.under h.da.its hb (fun a ha => Nat.lt_trans (h.la h0 a ha) h.hb)) h0, h.da.le, h.da.cm, h.da.len, h.da.txt⟩, ⟨fun h0 => (Its.under h.db.its hb (fun a ha => Nat.lt_trans (h.lb h0 a ha) h.hb)) h0, h.db.le, h.db.cm, h.db.len, h.db.txt⟩,
    h.la, h.lb, h.ln, h.hb, Nat.le_trans h.sz hb.size, h.bw.trans (hb.mono (Nat.le_of_lt (Nat.lt_of_le_of_lt h.w0 h.hb))), ho, h.w0⟩
end Go.Proofs.Ytpkipdiecnokhaa
namespace Go.Proofs.Ytpkipdiecnokhaa
open Go.ChangeShapes Go.WideShapes Go.ChangeAt Go.RowKit
set_option linter.unusedVariables false
set_option maxRecDepth 100000
theorem undEd : ∃ f0 f1 : Field, Try.prog.underlying 45 = some (.struct #[f0, f1]) ∧ f0.type = 3 ∧ f1.type = 3 ∧ f0.offset = 0 ∧ f1.offset = 1 := ⟨_, _, Try.underlying45, rfl, rfl, rfl, rfl⟩
theorem cellsEd : Try.prog.cellsOf 45 = 2 := by kernel_rfl
section
variable {H : Type} {enc : TypeId × Value → H} {W : World} {base : Nat} {sp : Nat → Bool} {held : Bool}
theorem read_ed {fuel : Nat} {cs : List Value} {x : DataW H × List MemPlace} (h : DataW.trod enc Try.prog W base sp held fuel 45 cs = some x) :
    ∃ y : Ed, cs = [.int .i64 y.a, .int .i64 y.b] := by
  obtain ⟨f0, f1, hu, t0, t1, o0, o1⟩ := undEd
  obtain ⟨xs, n, _, hx, hl, hxl, hf⟩ := DataW.trod_struct hu h
  rw [cellsEd] at hl
  match xs, hxl, cs, hl with
  | [y0, y1], _, [v0, v1], _ =>
    have g0 := hf 0 f0 rfl
    have g1 := hf 1 f1 rfl
    rw [t0, o0, cells3] at g0
    rw [t1, o1, cells3] at g1
    simp at g0 g1
    obtain ⟨a, e0, d0, w0⟩ := DataW.trod_int Try.underlying3 g0
    obtain ⟨b, e1, d1, w1⟩ := DataW.trod_int Try.underlying3 g1
    simp only [List.cons.injEq, and_true] at e0 e1
    exact ⟨⟨a, b⟩, by rw [e0, e1]⟩
theorem opened_eds {v : Value} {d : DataW H} {p : List MemPlace} {b0 : Nat} (hv : Value.okWide Try.prog W .any b0 43 v) (h : DataW.Trod enc Try.prog W base (fun _ => true) held 43 v d p) :
    ∃ (p : Option Addr) (cap : Nat) (l : List Ed), v = .slice p l.length cap ∧ l.length ≤ cap ∧ cap ≤ maxLen ∧ Eds W p l := by
  obtain ⟨a0, len, cap, rfl⟩ := okWide_slice Try.underlying43 hv
  obtain ⟨fuel, hf⟩ := h
  rcases Go.Deep.open_slice Try.underlying43 hf with ⟨hcs, _⟩ | ⟨a, len', cap', m, n, D, Pl, hcs, _, hl, hm, hmm, hd, hx⟩
  · simp [Value.cells] at hcs
    obtain ⟨rfl, rfl, rfl⟩ := hcs
    exact ⟨none, 0, [], rfl, Nat.le_refl _, Nat.zero_le _, Rw.nil _ _⟩
  · simp [Value.cells] at hcs
    obtain ⟨rfl, rfl, rfl⟩ := hcs
    have hlm : len ≤ m := by rw [hmm]; simp; exact hl
    have each : ∀ i, ∃ y : Ed, i < len → W.cell? (a.add (i * 2)) = some (.int .i64 y.a) ∧ W.cell? (a.add (i * 2 + 1)) = some (.int .i64 y.b) := fun i => by
      by_cases hi : i < len
      · obtain ⟨cs', h1, h2⟩ := hx i (by omega)
        obtain ⟨y, rfl⟩ := read_ed h2
        rw [cellsEd] at h1
        obtain ⟨_, _, hcell⟩ := World.cells?_some h1
        have e0 := hcell 0 (by omega)
        have e1 := hcell 1 (by omega)
        rw [Go.Deep.add_add] at e0 e1
        exact ⟨y, fun _ => ⟨by simpa using e0, by simpa using e1⟩⟩
      · exact ⟨⟨0, 0⟩, fun h => absurd h hi⟩
    obtain ⟨f, hf⟩ := Classical.axiomOfChoice each
    refine ⟨some a, cap, (List.range len).map f, by simp, by simpa using hl, hm, fun h0 => ?_⟩
    have h00 : 0 < len := by simpa using h0
    have hb := World.block_lt_of_cell? W _ (hf 0 h00).1
    have hsp : a.spot = none := by
      have := (hf 0 h00).1
      rw [Nat.zero_mul] at this
      have h2 := World.cell?_spot this
      simpa [Addr.add] using h2
    have hae : a = ⟨a.block, a.off, none⟩ := by rw [← hsp]
    have had : ∀ n, a.add n = ⟨a.block, a.off + n, none⟩ := fun n => by
      rw [hae]; unfold Addr.add; split
      · rename_i e; rw [e]; rfl
      · rfl
    refine ⟨a.block, a.off, by rw [← hae], by simpa [add_block] using hb, fun i hi => ?_⟩
    have hi' : i < len := by simpa using hi
    obtain ⟨c0, c1⟩ := hf i hi'
    rw [had] at c0 c1
    intro j u hu
    simp only [List.getElem_map, List.getElem_range] at hu
    match j, hu with
    | 0, hu => simp [eenc] at hu; subst hu; exact c0
    | 1, hu => simp [eenc] at hu; subst hu; rw [Nat.add_assoc]; exact c1
    | j + 2, hu => simp [eenc] at hu
end
/-- An owned script that is not empty fills a row of its own. -/
theorem own_rowg {base : Nat} {S : List Ed} {v : Value} {W : World} (h : OwnE base S v W) (h0 : 0 < S.length) : ∃ g c, v = .slice (some ⟨g, 0, none⟩) S.length c ∧ base ≤ g ∧ S.length ≤ c ∧ c ≤ maxLen ∧ RowG eenc 45 2 g S W := by
  obtain ⟨p, c', he, h1, h2, hE⟩ := own_eds h
  rcases h.2 with ⟨hv, hz⟩ | ⟨g, cap, cur, hv, hg, hh, hn, hm, hs, ht⟩
  · omega
  · rw [hv] at he
    injection he with e1 e2 e3
    obtain ⟨b, o, e, hlt, hc⟩ := hE h0
    rw [← e1] at e
    injection e with e
    injection e with e4 e5
    subst e4; subst e5
    exact ⟨g, cap, hv, hg, hn, hm, ⟨⟨cur, hh⟩, fun i hi => by have := hc i hi; rwa [Nat.zero_add] at this, fun _ => rfl⟩⟩
theorem set_fst {S : List Ed} (j : Nat) (x : Int) (hj : j < S.length) : eenc ⟨x, (S[j]'hj).b⟩ = (eenc (S[j]'hj)).set 0 (.int .i64 x) := rfl
end Go.Proofs.Ytpkipdiecnokhaa
namespace Go.Proofs.Ytpkipdiecnokhaa
open Go.ChangeShapes Go.WideShapes Go.ChangeAt Go.RowKit Go.Sort
set_option linter.unusedVariables false
set_option linter.unusedSimpArgs false
set_option maxRecDepth 100000

theorem sumT_one (K : List Tg) (x : Tg) (hK : K.Nodup) (hx : x ∈ K) : sumT K (fun y => if x = y then 1 else 0) = 1 := by
  rw [sumT_erase K x hx, if_pos rfl, sumT_zero]
  intro y hy
  rw [if_neg]
  intro e; subst e; exact (hK.mem_erase_iff.1 hy).1 rfl
theorem sumT_count (T : List Tg) : ∀ (K : List Tg), K.Nodup → (∀ y ∈ T, y ∈ K) → sumT K (fun y => T.count y) = T.length := by
  induction T with
  | nil => intro K _ _; exact sumT_zero _ _ fun y _ => rfl
  | cons x T ih =>
    intro K hK h
    have h1 := ih K hK (fun y hy => h y (List.mem_cons_of_mem _ hy))
    have h2 := sumT_one K x hK (h x (List.mem_cons_self ..))
    rw [List.length_cons, ← h1, ← h2, ← sumT_add]
    refine sumT_congr _ _ _ fun y _ => ?_
    rw [List.count_cons]
    by_cases e : x = y
    · subst e; simp
    · rw [if_neg e, if_neg (by simpa using e)]
theorem sumT_cnt (l : List It) (K : List Tg) (hK : K.Nodup) (h : ∀ y ∈ tkeys l, y ∈ K) : sumT K (cntN l) = (tkeys l).length := sumT_count (tkeys l) K hK h
/-- The weight of what is no tag. -/
def nwL : List It → Nat
  | [] => 0
  | x :: l => (if isT x.k = true then 0 else wtT x.k) + nwL l
theorem nwL_app (l m : List It) : nwL (l ++ m) = nwL l + nwL m := by
  induction l with
  | nil => simp [nwL]
  | cons x l ih => rw [List.cons_append, nwL, nwL, ih]; omega
theorem nwL_next (l : List It) (k : Nat) (h : k < l.length) : nwL (l.take (k + 1)) = nwL (l.take k) + (if isT (l[k]'h).k = true then 0 else wtT (l[k]'h).k) := by
  rw [List.take_succ_eq_append_getElem h, nwL_app]; simp [nwL]
theorem nwL_le (l : List It) : nwL l ≤ 4 * l.length := by
  induction l with
  | nil => exact Nat.zero_le _
  | cons x l ih => rw [nwL, List.length_cons]; have := wtT_le x.k; split <;> omega
theorem stL_parts (l : List It) : stL l = nwL l + (tkeys l).length := by
  induction l with
  | nil => rfl
  | cons x l ih =>
    rw [stL, nwL, ih, show x :: l = [x] ++ l from rfl, tkeys_append, List.length_append]
    cases q : isT x.k with
    | true => rw [tkeys_one x q]; unfold stp; rw [q]; simp; omega
    | false => rw [tkeys_none x q]; unfold stp; rw [q]; simp; omega
theorem stL_app (l m : List It) : stL (l ++ m) = stL l + stL m := by
  induction l with
  | nil => simp [stL]
  | cons x l ih => rw [List.cons_append, stL, stL, ih]; omega
def hT (D I : List It) (y : Tg) : Nat := cntN D y + cntN I y + 2 * dif D I y
theorem hT_le (D I : List It) (y : Tg) : hT D I y ≤ 3 * (D.length + I.length) := by
  have h1 := cntN_le D y; have h2 := cntN_le I y
  unfold hT dif; omega
def q1 (D I : List It) (s : Nat) : Nat := nwL (D.take s) + sumT (uL (D.take s)) (hT D I)
def q2 (D I : List It) (s : Nat) : Nat := nwL (I.take s) + sumT (vL D (I.take s)) (hT D I)
theorem q1_le (D I : List It) (s : Nat) (hD : D.length ≤ 100) (hI : I.length ≤ 100) : q1 D I s ≤ 100000 := by
  unfold q1
  have h1 := nwL_le (D.take s)
  have h2 := sumT_bd (uL (D.take s)) (hT D I) 600 (fun y => by have := hT_le D I y; omega)
  have h3 := uL_len (D.take s)
  have h4 : (D.take s).length ≤ 100 := by simp; omega
  have h5 : (uL (D.take s)).length * 600 ≤ 100 * 600 := Nat.mul_le_mul_right _ (by omega)
  omega
theorem q2_le (D I : List It) (s : Nat) (hD : D.length ≤ 100) (hI : I.length ≤ 100) : q2 D I s ≤ 100000 := by
  unfold q2
  have h1 := nwL_le (I.take s)
  have h2 := sumT_bd (vL D (I.take s)) (hT D I) 600 (fun y => by have := hT_le D I y; omega)
  have h3 : (vL D (I.take s)).length ≤ (I.take s).length := Nat.le_trans (List.length_filter_le _ _) (uL_len _)
  have h4 : (I.take s).length ≤ 100 := by simp; omega
  have h5 : (vL D (I.take s)).length * 600 ≤ 100 * 600 := Nat.mul_le_mul_right _ (by omega)
  omega
theorem q1_tag0 (D I : List It) (s : Nat) (h : s < D.length) (ht : isT (D[s]'h).k = true) (hz : tmsR (D.take s) (D[s]'h) = 0) : q1 D I (s + 1) = q1 D I s + (2 * min (tmsR D (D[s]'h)) (tmsR I (D[s]'h)) + 3 * (max (tmsR D (D[s]'h)) (tmsR I (D[s]'h)) - min (tmsR D (D[s]'h)) (tmsR I (D[s]'h)))) := by
  unfold q1
  rw [nwL_next D s h, uL_next D s h, if_pos ht]
  have e : tkey D[s] ∉ uL (D.take s) := by rw [uL_mem]; exact (tms_zero _ _ ht).1 hz
  unfold uK; rw [if_pos ⟨ht, e⟩, sumT_app, sumT_cons, sumT_nil, tmsR_cnt _ _ ht, tmsR_cnt _ _ ht]
  unfold hT dif; omega
theorem q1_tag1 (D I : List It) (s : Nat) (h : s < D.length) (ht : isT (D[s]'h).k = true) (hz : ¬ tmsR (D.take s) (D[s]'h) = 0) : q1 D I (s + 1) = q1 D I s := by
  unfold q1
  rw [nwL_next D s h, uL_next D s h, if_pos ht]
  have e : ¬ tkey D[s] ∉ uL (D.take s) := fun c => hz ((tms_zero _ _ ht).2 (by rw [← uL_mem]; exact c))
  unfold uK; rw [if_neg (fun c => e c.2)]; omega
theorem q1_non (D I : List It) (s : Nat) (h : s < D.length) (ht : isT (D[s]'h).k = false) : q1 D I (s + 1) = q1 D I s + wtT (D[s]'h).k := by
  unfold q1
  rw [nwL_next D s h, uL_next D s h, if_neg (by rw [ht]; simp)]
  unfold uK; rw [if_neg (fun c => by rw [ht] at c; cases c.1)]; omega
theorem q2_tag0 (D I : List It) (s : Nat) (h : s < I.length) (ht : isT (I[s]'h).k = true) (hz : tmsR (I.take s) (I[s]'h) = 0) (hd : tmsR D (I[s]'h) = 0) : q2 D I (s + 1) = q2 D I s + 3 * tmsR I (I[s]'h) := by
  unfold q2 vL
  rw [nwL_next I s h, uL_next I s h, if_pos ht]
  have e : tkey I[s] ∉ uL (I.take s) := by rw [uL_mem]; exact (tms_zero _ _ ht).1 hz
  have e2 := (tms_zero D _ ht).1 hd
  unfold uK; rw [if_pos ⟨ht, e⟩, List.filter_append, sumT_app, List.filter_cons, if_pos (by simpa using e2), List.filter_nil, sumT_cons, sumT_nil]
  rw [tmsR_cnt _ _ ht] at hd
  rw [tmsR_cnt _ _ ht]
  unfold hT dif; omega
theorem q2_tag1 (D I : List It) (s : Nat) (h : s < I.length) (ht : isT (I[s]'h).k = true) (hz : ¬ (tmsR (I.take s) (I[s]'h) = 0 ∧ tmsR D (I[s]'h) = 0)) : q2 D I (s + 1) = q2 D I s := by
  unfold q2 vL
  rw [nwL_next I s h, uL_next I s h, if_pos ht]
  unfold uK
  by_cases e : tkey I[s] ∉ uL (I.take s)
  · have hz1 : tmsR (I.take s) I[s] = 0 := (tms_zero _ _ ht).2 (by rw [← uL_mem]; exact e)
    have hd : ¬ tkey I[s] ∉ tkeys D := fun c => hz ⟨hz1, (tms_zero D _ ht).2 c⟩
    rw [if_pos ⟨ht, e⟩, List.filter_append, sumT_app, List.filter_cons, if_neg (by simpa using hd), List.filter_nil, sumT_nil]; omega
  · rw [if_neg (fun c => e c.2)]; omega
theorem q2_non (D I : List It) (s : Nat) (h : s < I.length) (ht : isT (I[s]'h).k = false) : q2 D I (s + 1) = q2 D I s + wtT (I[s]'h).k := by
  unfold q2 vL
  rw [nwL_next I s h, uL_next I s h, if_neg (by rw [ht]; simp)]
  unfold uK; rw [if_neg (fun c => by rw [ht] at c; cases c.1)]; omega
theorem sumT_hT (D I : List It) (K : List Tg) : sumT K (hT D I) = sumT K (cntN D) + sumT K (cntN I) + 2 * sumT K (dif D I) := by
  induction K with
  | nil => rfl
  | cons x K ih => rw [sumT_cons, sumT_cons, sumT_cons, sumT_cons, ih]; unfold hT; omega
theorem q_total (D I : List It) : q1 D I D.length + q2 D I I.length = stL D + stL I + 2 * sur D I := by
  unfold q1 q2
  rw [List.take_length, List.take_length, stL_parts, stL_parts]
  have hn : (uL D ++ vL D I).Nodup := by
    rw [List.nodup_append]
    refine ⟨uL_nodup D, (uL_nodup I).filter _, fun x hx y hy e => ?_⟩
    subst e
    have h1 := (List.mem_filter.1 hy).2
    have h2 : x ∉ tkeys D := by simpa using h1
    exact h2 ((uL_mem D x).1 hx)
  have hD : ∀ y ∈ tkeys D, y ∈ uL D ++ vL D I := fun y hy => List.mem_append.2 (.inl ((uL_mem D y).2 hy))
  have hI : ∀ y ∈ tkeys I, y ∈ uL D ++ vL D I := fun y hy => by
    by_cases h : y ∈ tkeys D
    · exact hD y h
    · exact List.mem_append.2 (.inr (List.mem_filter.2 ⟨(uL_mem I y).2 hy, by simpa using h⟩))
  have e1 := sumT_cnt D _ hn hD
  have e2 := sumT_cnt I _ hn hI
  have e3 := sur_any (uL D ++ vL D I) D I hn (fun y hy => by
    have := dif_in D I y hy
    unfold surK at this
    rw [mem_uniq, List.mem_append] at this
    exact this.elim (hD y) (hI y))
  have e4 := sumT_hT D I (uL D ++ vL D I)
  rw [sumT_app] at e4
  omega
theorem cnt_pair {x y : It} (h : okP x y = true) (z : Tg) : cntN [x] z = cntN [y] z := by
  rcases (okP_iff x y).1 h with g | g
  · unfold cntN
    cases q : isT x.k with
    | true => rw [tkeys_one x q, tkeys_one y (by rw [← g.1]; exact q), (tkey_sm x y).2 ((sm_iff x y).2 g)]
    | false => rw [tkeys_none x q, tkeys_none y (by rw [← g.1]; exact q)]
  · have q : isT x.k = false := by rw [isT_eq]; simp; omega
    unfold cntN; rw [tkeys_none x q, tkeys_none y (by rw [← g.1]; exact q)]
/-- The tags that were treated are those that were paired, and those of the two lists. -/
def Bal (a b D I : List It) (i k : Nat) : Prop := ∀ y, cntN (a.take i) y + cntN I y = cntN (b.take k) y + cntN D y
theorem Bal.zero (a b : List It) : Bal a b [] [] 0 0 := fun y => rfl
theorem Bal.ins {a b D I : List It} {i k : Nat} (h : Bal a b D I i k) (hk : k < b.length) : Bal a b D (I ++ [b[k]'hk]) i (k + 1) := fun y => by
  have := h y
  rw [List.take_succ_eq_append_getElem hk, cntN_append, cntN_append]; omega
theorem Bal.del {a b D I : List It} {i k : Nat} (h : Bal a b D I i k) (hi : i < a.length) : Bal a b (D ++ [a[i]'hi]) I (i + 1) k := fun y => by
  have := h y
  rw [List.take_succ_eq_append_getElem hi, cntN_append, cntN_append]; omega
theorem Bal.pair {a b D I : List It} {i k : Nat} (h : Bal a b D I i k) (hi : i < a.length) (hk : k < b.length) (ho : okP (a[i]'hi) (b[k]'hk) = true) : Bal a b D I (i + 1) (k + 1) := fun y => by
  have := h y
  rw [List.take_succ_eq_append_getElem hi, List.take_succ_eq_append_getElem hk, cntN_append, cntN_append, cnt_pair ho y]; omega
theorem Bal.sur {a b D I : List It} (h : Bal a b D I a.length b.length) : sur a b = sur D I := sur_dif _ _ _ _ fun y => by
  have := h y
  rw [List.take_length, List.take_length] at this
  unfold dif; omega
theorem prStep_none {a b : List It} {e : Ed} {i j u : Nat} (h1 : ¬ (j < b.length ∧ e.b = (j : Int) ∧ e.a = -1)) (h2 : ¬ (i < a.length ∧ e.a = (i : Int) ∧ e.b = -1)) (h3 : ¬ (i < a.length ∧ e.a = (i : Int) ∧ j < b.length ∧ e.b = (j : Int))) : prStep a b e i j u = none := by
  unfold prStep
  split
  · rename_i hA
    split
    · rename_i hB; exact absurd ⟨hA.1, hA.2, hB.1, hB.2⟩ h3
    · rw [if_neg (fun c => h2 ⟨hA.1, hA.2, c⟩)]
  · split
    · rename_i hB; rw [if_neg (fun c => h1 ⟨hB.1, hB.2, c⟩)]
    · rfl
/-- Two lists of tokens that the call owns. -/
structure PrR (w : World) (D I : List It) (vd vi : Value) (W : World) : Prop where
  below : Below w.heap.size w W
  d : OwnT w.heap.size D vd W
  i : OwnT w.heap.size I vi W
  ne : ∀ k, vd.ownBlock = some k → vi.ownBlock ≠ some k
section
variable {w W W' : World} {D I : List It} {vd vi : Value}
theorem PrR.call (h : PrR w D I vd vi W) (hb : Below W.heap.size W W') : PrR w D I vd vi W' := ⟨BelowOn h.below hb, h.d.call hb, h.i.call hb, h.ne⟩
theorem PrR.pushI (h : PrR w D I vd vi W) {I' : List It} {g n c : Nat} (hown : OwnT w.heap.size I' (.slice (some ⟨g, 0, none⟩) n c) W') (hgr : W.grownBy W' vi.ownBlock) (hloc : vi.ownBlock = some g ∨ g = W.heap.size) : PrR w D I' vd (.slice (some ⟨g, 0, none⟩) n c) W' := by
  refine ⟨h.below.grown hgr h.below.size (fun j hj => (h.i.lt j hj).1), h.d.keepAt (fun k e => hgr.block k (h.d.lt k e).2 (fun e2 => h.ne k e e2.symm)), hown, fun k hk e => ?_⟩
  have e' : g = k := by simpa [Value.ownBlock] using e
  subst e'
  rcases hloc with h1 | h1
  · exact h.ne _ hk h1
  · have := (h.d.lt _ hk).2; omega
theorem PrR.pushD (h : PrR w D I vd vi W) {D' : List It} {g n c : Nat} (hown : OwnT w.heap.size D' (.slice (some ⟨g, 0, none⟩) n c) W') (hgr : W.grownBy W' vd.ownBlock) (hloc : vd.ownBlock = some g ∨ g = W.heap.size) : PrR w D' I (.slice (some ⟨g, 0, none⟩) n c) vi W' := by
  have hs : PrR w I D vi vd W := ⟨h.below, h.i, h.d, fun k h1 h2 => h.ne k h2 h1⟩
  have hp := hs.pushI hown hgr hloc
  exact ⟨hp.below, hp.i, hp.d, fun k h1 h2 => hp.ne k h2 h1⟩
end
end Go.Proofs.Ytpkipdiecnokhaa
namespace Go.Proofs.Ytpkipdiecnokhaa
open Go.ChangeShapes Go.WideShapes Go.ChangeAt Go.RowKit Go.Sort
set_option linter.unusedVariables false
set_option linter.unusedSimpArgs false
set_option maxRecDepth 100000

set_option maxHeartbeats 25600000 in
theorem rprice_any (p q r : Option Addr) (c d f : Nat) (a b : List It) (S : List Ed) (w : World) (hA : Its w p a) (hB : Its w q b) (hS : Eds w r S) (hc : a.length ≤ c) (hd : b.length ≤ d) (hf : S.length ≤ f) (hcm : c ≤ maxLen) (hdm : d ≤ maxLen) (hfm : f ≤ maxLen) (ha : a.length ≤ 100) (hb : b.length ≤ 100) (hs : S.length ≤ 1000) (ta : txtsB a) (tb : txtsB b) :
    Calls Try.prog 30 #[.slice p a.length c, .slice q b.length d, .slice r S.length f] w fun e w' => e = .returned (.tuple #[.int .i64 (prO a b S : Nat), .bool (prB a b S)]) ∧ Below w.heap.size w w' := by
  have HNONE := Lib.hid (fun h => prc_none (a := a) (b := b) (S := S) h)
  have HSHORT := Lib.hid (fun i j u h hs => prc_short (a := a) (b := b) (S := S) (i := i) (j := j) (u := u) h hs)
  have HSOME := Lib.hid (fun i j u h hs => prc_some (a := a) (b := b) (S := S) (i := i) (j := j) (u := u) h hs)
  have HCO := Lib.hid (fun x y W hx hy => rcost_any x y W hx hy)
  have HTG := Lib.hid (fun k t id W => drtag_any k t id W)
  have HWT := Lib.hid (fun k t id W => rweight_any k t id W)
  have HTA := Lib.hid ta; have HTB := Lib.hid tb
  unfold maxLen at hcm hdm hfm
  clear ta tb
  go_enter Try.func30, Try.ntmps30
  go_wp2_with fail
  go_loopw [8, 9, 10, 11, 12, 25] (fun vi vk vp vd ve n wr => ∃ (s i k u : Nat) (D I : List It), s ≤ S.length ∧ i ≤ a.length ∧ k ≤ b.length ∧ n = .int .i64 s ∧ vi = .int .i64 i ∧ vk = .int .i64 k ∧ vp = .int .i64 u ∧ u ≤ 4 * s ∧ D.length ≤ i ∧ I.length ≤ k ∧ PrR w D I vd ve wr ∧ Bal a b D I i k ∧ prRun a b S 0 0 0 = prRun a b (S.drop s) i k (u + stL D + stL I)) (fun _ _ _ _ _ n _ => S.length - (intOf n).toNat)
  case atStart => exact ⟨0, 0, 0, 0, [], [], Nat.zero_le _, Nat.zero_le _, Nat.zero_le _, rfl, rfl, rfl, rfl, Nat.zero_le _, Nat.zero_le _, Nat.zero_le _, ⟨Below.refl _ _, OwnL.nil _ _, OwnL.nil _ _, fun k h => by cases h⟩, Bal.zero a b, rfl⟩
  case round =>
    obtain ⟨s, i, k, u, D, I, hs1, hi, hk, rfl, rfl, rfl, rfl, hu, hDl, hIl, hP, hbal, hR⟩ := hrel
    by_cases hlt : s < S.length
    · obtain ⟨br, or, rfl, hbr, hps⟩ := (hS.call hP.below) (by omega)
      have z0 : wr.cell? ⟨br, or + s * 2, none⟩ = some (.int .i64 (S[s]).a) := (hps s hlt) 0 _ rfl
      have z1 : wr.cell? ⟨br, or + s * 2 + 1, none⟩ = some (.int .i64 (S[s]).b) := (hps s hlt) 1 _ rfl
      rw [prRun_drop a b S s i k _ hlt] at hR
      have hAr := hA.call hP.below; have hBr := hB.call hP.below
      generalize S[s] = E at *
      have hv0 := heap_alloc_new wr (.cells #[.int .i64 E.a, .int .i64 E.b] 45)
      have hbv : Below wr.heap.size wr (wr.alloc (.cells #[.int .i64 E.a, .int .i64 E.b] 45)) := blw (Below.refl _ _) _
      have ik : (s : Int) < (S.length : Int) := by omega
      have HP := Lib.hid (hP.call hbv)
      have hA1 := Lib.hid (hAr.call hbv); have hB1 := Lib.hid (hBr.call hbv)
      have HR := Lib.hid hR; have HBL := Lib.hid hbal
      clear hP hAr hBr hR hbal hps hbr
      go_upto_region 7 with (fail)
      generalize (wr.alloc (.cells #[.int .i64 E.a, .int .i64 E.b] 45)) = v1 at *
      have d0 : v1.cell? ⟨wr.heap.size, 0, none⟩ = some (.int .i64 E.a) := by rw [Lib.cell_of_heap hv0]; rfl
      have d1 : v1.cell? ⟨wr.heap.size, 1, none⟩ = some (.int .i64 E.b) := by rw [Lib.cell_of_heap hv0]; rfl
      generalize wr.heap.size = g at *
      clear z0 z1 hv0 hbv
      by_cases ea : E.a = -1
      · rw [ea] at d0
        have na : ¬ (-1 : Int) = (i : Int) := by omega
        by_cases eb : E.b = (k : Int)
        · rw [eb] at d1
          have nb : ¬ (k : Int) = -1 := by omega
          rcases Nat.lt_or_ge k b.length with hkB | hkB
          · have kB : (k : Int) < (b.length : Int) := by omega
            have hst : prStep a b E i k (u + stL D + stL I) = some (i, k + 1, u + stL D + stL I + stp b[k]) := by rw [pr_ins (fun h => by have := h.2; rw [ea] at this; omega) hkB eb, if_pos ea]
            have hbl := HBL.out.ins hkB
            have hR := HR.out
            rw [hst] at hR
            simp only at hR
            obtain ⟨ad, rfl, had, x0, x1, x2⟩ := hB1.out.row k hkB
            have hst2 : stL (I ++ [b[k]]) = stL I + stp b[k] := by rw [stL_app]; simp [stL]
            generalize b[k] = X at *
            have HRR := Lib.hid (show prRun a b S 0 0 0 = prRun a b (S.drop (s + 1)) i (k + 1) (u + stL D + stL (I ++ [X])) by rw [hR, hst2]; congr 1; omega)
            have HBB := Lib.hid hbl
            have hnew := heap_alloc_new v1 (.cells #[.int .i64 X.k, .string X.t, .int .i64 X.id] 57)
            have hbn : Below v1.heap.size v1 (v1.alloc (.cells #[.int .i64 X.k, .string X.t, .int .i64 X.id] 57)) := blw (Below.refl _ _) _
            have hP2 := HP.out.call hbn
            clear hst hR hst2 hbl HR HBL HP had hbn
            go_wp2_with (at_builtin; refine wpl_app eT _ rfl _ _ rfl w.heap.size I _ rfl hP2.i hP2.below.size X _ _ rfl hnew rfl (by omega) (by unfold maxLen; omega) ?_; intro g2 cap2 w4 hown hgr hloc)
            have hP3 := hP2.pushI hown hgr hloc
            clear hown hgr hloc
            have HP3 := Lib.hid hP3
            clear hP3 hP2 hnew x0 x1 x2 d0 d1
            go_roundw
            case rel => exact ⟨s + 1, i, k + 1, u, D, _, hlt, hi, hkB, by go_num, rfl, by go_num, rfl, by omega, hDl, by simp; omega, HP3.out, HBB.out, HRR.out⟩
            case measure => simp [intOf] <;> omega
          · obtain rfl : k = b.length := by omega
            have hst := prStep_none (a := a) (b := b) (e := E) (i := i) (j := b.length) (u := u + stL D + stL I) (fun h => by omega) (fun h => by rw [ea] at h; omega) (fun h => by omega)
            have hR := HR.out
            rw [hst] at hR
            have hn := HNONE.out hR
            have HN := Lib.hid hn
            have HW := Lib.hid HP.out.below
            clear hst hR hn HP HR HBL
            go_wp2_with fail
            go_ret2
            exact ⟨by rw [HN.out.1, HN.out.2]; rfl, HW.out⟩
        by_cases eb2 : E.b = -1
        · rw [eb2] at d1
          have nb : ¬ (-1 : Int) = (k : Int) := by omega
          have hst := prStep_none (a := a) (b := b) (e := E) (i := i) (j := k) (u := u + stL D + stL I) (fun h => eb h.2.1) (fun h => by rw [ea] at h; omega) (fun h => eb h.2.2.2)
          have hR := HR.out
          rw [hst] at hR
          have hn := HNONE.out hR
          have HN := Lib.hid hn
          have HW := Lib.hid HP.out.below
          clear hst hR hn HP HR HBL
          go_wp2_with fail
          go_ret2
          exact ⟨by rw [HN.out.1, HN.out.2]; rfl, HW.out⟩
        have hst := prStep_none (a := a) (b := b) (e := E) (i := i) (j := k) (u := u + stL D + stL I) (fun h => eb h.2.1) (fun h => eb2 h.2.2) (fun h => eb h.2.2.2)
        have hR := HR.out
        rw [hst] at hR
        have hn := HNONE.out hR
        have HN := Lib.hid hn
        have HW := Lib.hid HP.out.below
        clear hst hR hn HP HR HBL
        go_wp2_with fail
        go_ret2
        exact ⟨by rw [HN.out.1, HN.out.2]; rfl, HW.out⟩
      by_cases ea2 : E.a = (i : Int)
      · rw [ea2] at d0
        have na : ¬ (i : Int) = -1 := by omega
        by_cases eb : E.b = -1
        · rw [eb] at d1
          have nb : ¬ (-1 : Int) = (k : Int) := by omega
          rcases Nat.lt_or_ge i a.length with hiA | hiA
          · have iA : (i : Int) < (a.length : Int) := by omega
            have hst : prStep a b E i k (u + stL D + stL I) = some (i + 1, k, u + stL D + stL I + stp a[i]) := by rw [pr_del hiA ea2 (fun h => by have := h.2; rw [eb] at this; omega), if_pos eb]
            have hbl := HBL.out.del hiA
            have hR := HR.out
            rw [hst] at hR
            simp only at hR
            obtain ⟨ad, rfl, had, x0, x1, x2⟩ := hA1.out.row i hiA
            have hst2 : stL (D ++ [a[i]]) = stL D + stp a[i] := by rw [stL_app]; simp [stL]
            generalize a[i] = X at *
            have HRR := Lib.hid (show prRun a b S 0 0 0 = prRun a b (S.drop (s + 1)) (i + 1) k (u + stL (D ++ [X]) + stL I) by rw [hR, hst2]; congr 1; omega)
            have HBB := Lib.hid hbl
            have hnew := heap_alloc_new v1 (.cells #[.int .i64 X.k, .string X.t, .int .i64 X.id] 57)
            have hbn : Below v1.heap.size v1 (v1.alloc (.cells #[.int .i64 X.k, .string X.t, .int .i64 X.id] 57)) := blw (Below.refl _ _) _
            have hP2 := HP.out.call hbn
            clear hst hR hst2 hbl HR HBL HP had hbn
            go_wp2_with (at_builtin; refine wpl_app eT _ rfl _ _ rfl w.heap.size D _ rfl hP2.d hP2.below.size X _ _ rfl hnew rfl (by omega) (by unfold maxLen; omega) ?_; intro g2 cap2 w4 hown hgr hloc)
            have hP3 := hP2.pushD hown hgr hloc
            clear hown hgr hloc
            have HP3 := Lib.hid hP3
            clear hP3 hP2 hnew x0 x1 x2 d0 d1
            go_roundw
            case rel => exact ⟨s + 1, i + 1, k, u, _, I, hlt, hiA, hk, by go_num, by go_num, rfl, rfl, by omega, by simp; omega, hIl, HP3.out, HBB.out, HRR.out⟩
            case measure => simp [intOf] <;> omega
          · obtain rfl : i = a.length := by omega
            have hst := prStep_none (a := a) (b := b) (e := E) (i := a.length) (j := k) (u := u + stL D + stL I) (fun h => ea h.2.2) (fun h => by omega) (fun h => by omega)
            have hR := HR.out
            rw [hst] at hR
            have hn := HNONE.out hR
            have HN := Lib.hid hn
            have HW := Lib.hid HP.out.below
            clear hst hR hn HP HR HBL
            go_wp2_with fail
            go_ret2
            exact ⟨by rw [HN.out.1, HN.out.2]; rfl, HW.out⟩
        by_cases eb2 : E.b = (k : Int)
        · rw [eb2] at d1
          have nb : ¬ (k : Int) = -1 := by omega
          rcases Nat.lt_or_ge i a.length with hiA | hiA
          · have iA : (i : Int) < (a.length : Int) := by omega
            rcases Nat.lt_or_ge k b.length with hkB | hkB
            · have kB : (k : Int) < (b.length : Int) := by omega
              have hst := pr_pair (a := a) (b := b) (e := E) (u := u + stL D + stL I) hiA ea2 hkB eb2
              have hbl := HBL.out.pair hiA hkB
              have hR := HR.out
              rw [hst] at hR
              have hco := fun W => HCO.out a[i] b[k] W (HTA.out _ (List.getElem_mem hiA)) (HTB.out _ (List.getElem_mem hkB))
              have hcO : okP a[i] b[k] = true → cO a[i] b[k] = cst a[i] b[k] := fun h => by unfold cO; rw [if_pos h]
              have c4 := cO_le a[i] b[k]
              obtain ⟨ad, rfl, had, x0, x1, x2⟩ := hA1.out.row i hiA
              obtain ⟨bd, rfl, hbd, y0, y1, y2⟩ := hB1.out.row k hkB
              generalize a[i] = X at *
              generalize b[k] = Y at *
              have HR2 := Lib.hid hR; have HBB := Lib.hid hbl; have HcO := Lib.hid hcO
              clear hst hR hbl HR HBL had hbd hcO
              generalize hC : cO X Y = C at *
              have HC := Lib.hid hC
              clear hC
              have hwu : IntKind.i64.wrap ((u : Int) + (C : Int)) = (u : Int) + (C : Int) := IntWalk.i64_in _ ⟨by omega, by omega⟩
              cases ho : okP X Y with
              | false =>
                rw [ho] at hco
                go_wp2_with fail
                have qx0 := cell_regrown x0; have qx1 := cell_regrown x1; have qx2 := cell_regrown x2; have qy0 := cell_regrown y0; have qy1 := cell_regrown y1; have qy2 := cell_regrown y2
                have e1 := fun d os => Calls.regrown_of (hco (grow (redrawn v1 d) os))
                refine wp_region_quiet_below (by kernel_rfl) (by kernel_rfl) ?_
                repeat (go_big_quiet_step (exact e1 _ _))
                refine wpQuiet_nil ?_
                intro _ hw'
                obtain ⟨⟨dq, osq⟩, hw''⟩ := hw'
                subst hw''
                have hb2 := below_regrown v1 dq osq
                generalize grow (redrawn v1 dq) osq = v2 at *
                have HP2 := Lib.hid (HP.out.call hb2)
                clear hb2 e1 qx0 qx1 qx2 qy0 qy1 qy2 x0 x1 x2 y0 y1 y2 d0 d1 HP
                have hR := HR2.out
                rw [if_neg (by rw [ho]; simp)] at hR
                have HN := Lib.hid (HNONE.out hR)
                clear hR ho
                go_wp2_with fail
                go_ret2
                exact ⟨by rw [HN.out.1, HN.out.2]; rfl, HP2.out.below⟩
              | true =>
                rw [ho] at hco
                go_wp2_with fail
                have qx0 := cell_regrown x0; have qx1 := cell_regrown x1; have qx2 := cell_regrown x2; have qy0 := cell_regrown y0; have qy1 := cell_regrown y1; have qy2 := cell_regrown y2
                have e1 := fun d os => Calls.regrown_of (hco (grow (redrawn v1 d) os))
                refine wp_region_quiet_below (by kernel_rfl) (by kernel_rfl) ?_
                repeat (go_big_quiet_step (exact e1 _ _))
                refine wpQuiet_nil ?_
                intro _ hw'
                obtain ⟨⟨dq, osq⟩, hw''⟩ := hw'
                subst hw''
                have hb2 := below_regrown v1 dq osq
                generalize grow (redrawn v1 dq) osq = v2 at *
                have HP2 := Lib.hid (HP.out.call hb2)
                clear hb2 e1 qx0 qx1 qx2 qy0 qy1 qy2 x0 x1 x2 y0 y1 y2 d0 d1 HP
                have hR := HR2.out
                rw [if_pos ho] at hR
                simp only at hR
                have hcc := HcO.out ho
                have HRR := Lib.hid (show prRun a b S 0 0 0 = prRun a b (S.drop (s + 1)) (i + 1) (k + 1) (u + C + stL D + stL I) by rw [hR, ← hcc]; congr 1; omega)
                have HB2 := Lib.hid (HBB.out ho)
                clear hR hcc ho
                go_wp2_with fail
                go_roundw
                case rel => exact ⟨s + 1, i + 1, k + 1, u + C, D, I, hlt, hiA, hkB, by go_num, by go_num, by go_num, by go_num, by omega, by omega, by omega, HP2.out, HB2.out, HRR.out⟩
                case measure => simp [intOf] <;> omega
            · obtain rfl : k = b.length := by omega
              have hst := prStep_none (a := a) (b := b) (e := E) (i := i) (j := b.length) (u := u + stL D + stL I) (fun h => ea h.2.2) (fun h => eb h.2.2) (fun h => by omega)
              have hR := HR.out
              rw [hst] at hR
              have hn := HNONE.out hR
              have HN := Lib.hid hn
              have HW := Lib.hid HP.out.below
              clear hst hR hn HP HR HBL
              go_wp2_with fail
              go_ret2
              exact ⟨by rw [HN.out.1, HN.out.2]; rfl, HW.out⟩
          · obtain rfl : i = a.length := by omega
            have hst := prStep_none (a := a) (b := b) (e := E) (i := a.length) (j := k) (u := u + stL D + stL I) (fun h => ea h.2.2) (fun h => eb h.2.2) (fun h => by omega)
            have hR := HR.out
            rw [hst] at hR
            have hn := HNONE.out hR
            have HN := Lib.hid hn
            have HW := Lib.hid HP.out.below
            clear hst hR hn HP HR HBL
            go_wp2_with fail
            go_ret2
            exact ⟨by rw [HN.out.1, HN.out.2]; rfl, HW.out⟩
        have hst := prStep_none (a := a) (b := b) (e := E) (i := i) (j := k) (u := u + stL D + stL I) (fun h => ea h.2.2) (fun h => eb h.2.2) (fun h => eb2 h.2.2.2)
        have hR := HR.out
        rw [hst] at hR
        have hn := HNONE.out hR
        have HN := Lib.hid hn
        have HW := Lib.hid HP.out.below
        clear hst hR hn HP HR HBL
        go_wp2_with fail
        go_ret2
        exact ⟨by rw [HN.out.1, HN.out.2]; rfl, HW.out⟩
      by_cases eb : E.b = (k : Int)
      · rw [eb] at d1
        have nb : ¬ (k : Int) = -1 := by omega
        have hst := prStep_none (a := a) (b := b) (e := E) (i := i) (j := k) (u := u + stL D + stL I) (fun h => ea h.2.2) (fun h => ea2 h.2.1) (fun h => ea2 h.2.1)
        have hR := HR.out
        rw [hst] at hR
        have hn := HNONE.out hR
        have HN := Lib.hid hn
        have HW := Lib.hid HP.out.below
        clear hst hR hn HP HR HBL
        go_wp2_with fail
        go_ret2
        exact ⟨by rw [HN.out.1, HN.out.2]; rfl, HW.out⟩
      by_cases eb2 : E.b = -1
      · rw [eb2] at d1
        have nb : ¬ (-1 : Int) = (k : Int) := by omega
        have hst := prStep_none (a := a) (b := b) (e := E) (i := i) (j := k) (u := u + stL D + stL I) (fun h => ea h.2.2) (fun h => ea2 h.2.1) (fun h => ea2 h.2.1)
        have hR := HR.out
        rw [hst] at hR
        have hn := HNONE.out hR
        have HN := Lib.hid hn
        have HW := Lib.hid HP.out.below
        clear hst hR hn HP HR HBL
        go_wp2_with fail
        go_ret2
        exact ⟨by rw [HN.out.1, HN.out.2]; rfl, HW.out⟩
      have hst := prStep_none (a := a) (b := b) (e := E) (i := i) (j := k) (u := u + stL D + stL I) (fun h => ea h.2.2) (fun h => ea2 h.2.1) (fun h => ea2 h.2.1)
      have hR := HR.out
      rw [hst] at hR
      have hn := HNONE.out hR
      have HN := Lib.hid hn
      have HW := Lib.hid HP.out.below
      clear hst hR hn HP HR HBL
      go_wp2_with fail
      go_ret2
      exact ⟨by rw [HN.out.1, HN.out.2]; rfl, HW.out⟩
    · obtain rfl : s = S.length := by omega
      rw [List.drop_length] at hR
      simp only [prRun] at hR
      by_cases hia : i < a.length
      · have ni : ((i : Int) == (a.length : Int)) = false := beq_eq_false_iff_ne.2 (by omega)
        have HN := Lib.hid (HSHORT.out _ _ _ hR (.inl hia))
        have HW := Lib.hid hP.below
        clear hR hP hbal
        go_wp2_with fail
        go_ret2
        exact ⟨by rw [HN.out.1, HN.out.2]; rfl, HW.out⟩
      obtain rfl : i = a.length := by omega
      by_cases hkb : k < b.length
      · have nk : ((k : Int) == (b.length : Int)) = false := beq_eq_false_iff_ne.2 (by omega)
        have HN := Lib.hid (HSHORT.out _ _ _ hR (.inr hkb))
        have HW := Lib.hid hP.below
        clear hR hP hbal
        go_wp2_with fail
        go_ret2
        exact ⟨by rw [HN.out.1, HN.out.2]; rfl, HW.out⟩
      obtain rfl : k = b.length := by omega
      have hsm := HSOME.out _ _ _ hR (by omega)
      have hqt := q_total D I
      rw [hbal.sur] at hsm
      obtain ⟨pd, cd, rfl, hd1, hd2, hDI⟩ := OwnT.its hP.d
      obtain ⟨pi, ci, rfl, hi1, hi2, hII⟩ := OwnT.its hP.i
      have HW0 := Lib.hid hP.below
      have HF := Lib.hid (And.intro (show prO a b S = u + q1 D I D.length + q2 D I I.length by rw [hsm.1]; omega) hsm.2)
      clear hR hP hbal hsm hqt HNONE HSHORT HSOME HCO HTA HTB hA hB hS hia hkb
      have hDl2 : D.length ≤ 100 := by omega
      have hIl2 : I.length ≤ 100 := by omega
      have hu2 : u ≤ 4000 := by omega
      have hd2' := hd2; have hi2' := hi2
      unfold maxLen at hd2' hi2'
      have TD := Lib.hid (fun t W (h : Its W pd D) => times_any pd cd D t W h hd1 hd2)
      have TI := Lib.hid (fun t W (h : Its W pi I) => times_any pi ci I t W h hi1 hi2)
      have TDk := Lib.hid (fun t s hs W (h : Its W pd D) => times_take pd cd D t s hs W h hd1 hd2)
      have TIk := Lib.hid (fun t s hs W (h : Its W pi I) => times_take pi ci I t s hs W h hi1 hi2)
      have HQ1 := Lib.hid (fun s => q1_le D I s hDl2 hIl2); have HQ2 := Lib.hid (fun s => q2_le D I s hDl2 hIl2)
      have HQ1a := Lib.hid (fun s h ht hz => q1_tag0 D I s h ht hz); have HQ1b := Lib.hid (fun s h ht hz => q1_tag1 D I s h ht hz); have HQ1c := Lib.hid (fun s h ht => q1_non D I s h ht)
      have HQ2a := Lib.hid (fun s h ht hz hy => q2_tag0 D I s h ht hz hy); have HQ2b := Lib.hid (fun s h ht hz => q2_tag1 D I s h ht hz); have HQ2c := Lib.hid (fun s h ht => q2_non D I s h ht)
      have hz1 : q1 D I 0 = 0 := rfl
      have hz2 : q2 D I 0 = 0 := rfl
      have HZ1 := Lib.hid hz1; have HZ2 := Lib.hid hz2
      clear hz1 hz2
      go_wp2_with fail
      go_loopw [10, 136] (fun v i w2 => ∃ s : Nat, s ≤ D.length ∧ i = .int .i64 s ∧ v = .int .i64 ((u : Int) + (q1 D I s : Nat)) ∧ Below wr.heap.size wr w2) (fun _ i _ => D.length - (intOf i).toNat)
      case atStart => exact ⟨0, Nat.zero_le _, rfl, by rw [HZ1.out]; simp, Below.refl _ _⟩
      case round =>
        obtain ⟨s, hsl, rfl, rfl, hB2⟩ := hrel
        have hql := HQ1.out s
        by_cases hlt : s < D.length
        · obtain ⟨ad, rfl, had, x0, x1, x2⟩ := (hDI.call hB2).row s hlt
          have hv0 := heap_alloc_new wr (.cells #[.int .i64 D[s].k, .string D[s].t, .int .i64 D[s].id] 57)
          have hbv : Below wr.heap.size wr (wr.alloc (.cells #[.int .i64 D[s].k, .string D[s].t, .int .i64 D[s].id] 57)) := blw (Below.refl _ _) _
          have ik : (s : Int) < (D.length : Int) := by omega
          have tl1 : tmsR (D.take s) D[s] ≤ 100 := Nat.le_trans (tmsR_le _ _) (by simp; omega)
          have tl2 : tmsR D D[s] ≤ 100 := Nat.le_trans (tmsR_le _ _) hDl2
          have tl3 : tmsR I D[s] ≤ 100 := Nat.le_trans (tmsR_le _ _) hIl2
          have w4 := wtT_le D[s].k
          have ctk := TDk.out D[s] s hsl
          have ca := TD.out D[s]
          have cb := TI.out D[s]
          have cg := HTG.out D[s].k D[s].t D[s].id
          have cw := HWT.out D[s].k D[s].t D[s].id
          have n0 := Lib.hid (HQ1a.out s hlt); have n1 := Lib.hid (HQ1b.out s hlt); have n2 := Lib.hid (HQ1c.out s hlt)
          have HC := Lib.hid (And.intro ctk (And.intro ca (And.intro cb (And.intro cg cw))))
          clear ctk ca cb cg cw
          generalize tmsR (D.take s) D[s] = T0 at *
          generalize tmsR D D[s] = TX at *
          generalize tmsR I D[s] = TZ at *
          generalize D[s] = X at *
          generalize q1 D I s = Q at *
          have HB := Lib.hid (BelowOn hB2 hbv)
          have hDr := Lib.hid ((hDI.call hB2).call hbv); have hIr := Lib.hid ((hII.call hB2).call hbv)
          clear hB2 hbv
          go_wp2_with fail
          generalize (wr.alloc (.cells #[.int .i64 X.k, .string X.t, .int .i64 X.id] 57)) = v1 at *
          have d0 : v1.cell? ⟨wr.heap.size, 0, none⟩ = some (.int .i64 X.k) := by rw [Lib.cell_of_heap hv0]; rfl
          have d1 : v1.cell? ⟨wr.heap.size, 1, none⟩ = some (.string X.t) := by rw [Lib.cell_of_heap hv0]; rfl
          have d2 : v1.cell? ⟨wr.heap.size, 2, none⟩ = some (.int .i64 X.id) := by rw [Lib.cell_of_heap hv0]; rfl
          have hgl : wr.heap.size < v1.heap.size := heap_lt hv0
          generalize wr.heap.size = g at *
          clear x0 x1 x2 hv0 had
          obtain ⟨ctk, ca, cb, cg, cw⟩ := HC.out
          refine (cg v1).mono ?_; rintro e v2 ⟨rfl, hb⟩
          have y0 := (hb.cell (p := ⟨g, 0, none⟩) hgl).trans d0; have y1 := (hb.cell (p := ⟨g, 1, none⟩) hgl).trans d1; have y2 := (hb.cell (p := ⟨g, 2, none⟩) hgl).trans d2
          replace HB := Lib.hid (BelowOn HB.out hb); replace hDr := Lib.hid (hDr.out.call hb); replace hIr := Lib.hid (hIr.out.call hb)
          clear hb d0 d1 d2 hgl HC
          cases q : isT X.k with
          | false =>
            have hn := Lib.hid (n2.out q)
            clear ctk ca cb cg n0 n1 n2
            go_wp2_with fail
            refine (cw _).mono ?_; rintro e v3 ⟨rfl, hb⟩
            replace HB := Lib.hid (BelowOn HB.out hb)
            clear hb cw y0 y1 y2
            generalize wtT X.k = wt at *
            go_wp2_with fail
            go_roundw
            case rel => exact ⟨s + 1, hlt, by go_num, by rw [hn.out] <;> go_num, HB.out⟩
            case measure => simp [intOf] <;> omega
          | true =>
            clear cw cg n2
            have kc : (s : Int) ≤ (cd : Int) := by omega
            have k0 : (0 : Int) ≤ (s : Int) := by omega
            by_cases z : T0 = 0
            · have zq : ((T0 : Int) == 0) = true := by simp; omega
              have hn := Lib.hid (n0.out q z)
              clear n0 n1
              go_wp2_with fail
              have e1 := fun d os => Calls.regrown_of (ctk (grow (redrawn v2 d) os) (hDr.out.call (below_regrown v2 d os)))
              have qy0 := cell_regrown y0; have qy1 := cell_regrown y1; have qy2 := cell_regrown y2
              refine wp_region_quiet_below (by kernel_rfl) (by kernel_rfl) ?_
              repeat (go_big_quiet_step (exact e1 _ _))
              refine wpQuiet_nil ?_
              intro _ hw'
              obtain ⟨⟨dq, osq⟩, hw''⟩ := hw'
              subst hw''
              have hb2 := below_regrown v2 dq osq
              replace y0 := qy0 dq osq; replace y1 := qy1 dq osq; replace y2 := qy2 dq osq
              generalize grow (redrawn v2 dq) osq = v3 at *
              replace HB := Lib.hid (BelowOn HB.out hb2); replace hDr := Lib.hid (hDr.out.call hb2); replace hIr := Lib.hid (hIr.out.call hb2)
              clear hb2 qy0 qy1 qy2
              clear e1 ctk
              go_wp2_with fail
              have e1 := fun d os => Calls.regrown_of (ca (grow (redrawn v3 d) os) (hDr.out.call (below_regrown v3 d os)))
              have e2 := fun d os => Calls.regrown_of (cb (grow (redrawn v3 d) os) (hIr.out.call (below_regrown v3 d os)))
              have qy0 := cell_regrown y0; have qy1 := cell_regrown y1; have qy2 := cell_regrown y2
              refine wp_region_quiet_below (by kernel_rfl) (by kernel_rfl) ?_
              iterate 3 (go_big_quiet_step (exact e1 _ _))
              repeat (go_big_quiet_step (exact e2 _ _))
              refine wpQuiet_nil ?_
              intro _ hw'
              obtain ⟨⟨dq, osq⟩, hw''⟩ := hw'
              subst hw''
              have hb2 := below_regrown v3 dq osq
              generalize grow (redrawn v3 dq) osq = v4 at *
              replace HB := Lib.hid (BelowOn HB.out hb2); replace hDr := Lib.hid (hDr.out.call hb2); replace hIr := Lib.hid (hIr.out.call hb2)
              clear hb2 qy0 qy1 qy2 y0 y1 y2
              clear e1 e2 ca cb
              have em : min (TX : Int) (TZ : Int) = ((min TX TZ : Nat) : Int) := by omega
              have ex : max (TX : Int) (TZ : Int) = ((max TX TZ : Nat) : Int) := by omega
              have hmn : min TX TZ ≤ max TX TZ := by omega
              have hmx : max TX TZ ≤ 100 := by omega
              generalize min TX TZ = mn at *
              generalize max TX TZ = mx at *
              have HE := Lib.hid (show ((Q + (2 * mn + 3 * (mx - mn)) : Nat) : Int) = (Q : Int) + (2 * (mn : Int) + 3 * ((mx : Int) - (mn : Int))) by omega)
              go_wp2_with fail
              go_roundw
              case rel => exact ⟨s + 1, hlt, by go_num, by rw [hn.out, HE.out] <;> go_num, HB.out⟩
              case measure => simp [intOf] <;> omega
            · have zq : ((T0 : Int) == 0) = false := by simp; omega
              have hn := Lib.hid (n1.out q z)
              clear n0 n1
              go_wp2_with fail
              have e1 := fun d os => Calls.regrown_of (ctk (grow (redrawn v2 d) os) (hDr.out.call (below_regrown v2 d os)))
              have qy0 := cell_regrown y0; have qy1 := cell_regrown y1; have qy2 := cell_regrown y2
              refine wp_region_quiet_below (by kernel_rfl) (by kernel_rfl) ?_
              repeat (go_big_quiet_step (exact e1 _ _))
              refine wpQuiet_nil ?_
              intro _ hw'
              obtain ⟨⟨dq, osq⟩, hw''⟩ := hw'
              subst hw''
              have hb2 := below_regrown v2 dq osq
              generalize grow (redrawn v2 dq) osq = v3 at *
              replace HB := Lib.hid (BelowOn HB.out hb2); replace hDr := Lib.hid (hDr.out.call hb2); replace hIr := Lib.hid (hIr.out.call hb2)
              clear hb2 qy0 qy1 qy2 y0 y1 y2
              clear e1 ctk ca cb
              go_wp2_with fail
              go_roundw
              case rel => exact ⟨s + 1, hlt, by go_num, by rw [hn.out] <;> go_num, HB.out⟩
              case measure => simp [intOf] <;> omega
        · obtain rfl : s = D.length := by omega
          have HW1 := Lib.hid (BelowOn HW0.out hB2)
          have hII2 := hII.call hB2; have hDI2 := hDI.call hB2
          clear hB2 hII hDI TDk HQ1 HQ1a HQ1b HQ1c HZ1
          have HU := Lib.hid (show ((u + q1 D I D.length : Nat) : Int) = (u : Int) + (q1 D I D.length : Nat) by omega)
          generalize q1 D I D.length = Q1 at *
          have hII := hII2; have hDI := hDI2
          clear hII2 hDI2
          go_wp2_with fail
          go_loopw [10, 178] (fun v i w2 => ∃ s : Nat, s ≤ I.length ∧ i = .int .i64 s ∧ v = .int .i64 ((u : Int) + (Q1 : Int) + (q2 D I s : Nat)) ∧ Below wr.heap.size wr w2) (fun _ i _ => I.length - (intOf i).toNat)
          case atStart => exact ⟨0, Nat.zero_le _, rfl, by rw [HZ2.out]; simp, Below.refl _ _⟩
          case round =>
            have hq1 : u + Q1 ≤ 1000000 := by omega
            obtain ⟨s, hsl, rfl, rfl, hB2⟩ := hrel
            have hql := HQ2.out s
            by_cases hlt : s < I.length
            · obtain ⟨ad, rfl, had, x0, x1, x2⟩ := (hII.call hB2).row s hlt
              have hv0 := heap_alloc_new wr (.cells #[.int .i64 I[s].k, .string I[s].t, .int .i64 I[s].id] 57)
              have hbv : Below wr.heap.size wr (wr.alloc (.cells #[.int .i64 I[s].k, .string I[s].t, .int .i64 I[s].id] 57)) := blw (Below.refl _ _) _
              have ik : (s : Int) < (I.length : Int) := by omega
              have tl1 : tmsR (I.take s) I[s] ≤ 100 := Nat.le_trans (tmsR_le _ _) (by simp; omega)
              have tl2 : tmsR D I[s] ≤ 100 := Nat.le_trans (tmsR_le _ _) hDl2
              have tl3 : tmsR I I[s] ≤ 100 := Nat.le_trans (tmsR_le _ _) hIl2
              have w4 := wtT_le I[s].k
              have ctk := TIk.out I[s] s hsl
              have ca := TD.out I[s]
              have cb := TI.out I[s]
              have cg := HTG.out I[s].k I[s].t I[s].id
              have cw := HWT.out I[s].k I[s].t I[s].id
              have n0 := Lib.hid (HQ2a.out s hlt); have n1 := Lib.hid (HQ2b.out s hlt); have n2 := Lib.hid (HQ2c.out s hlt)
              have HC := Lib.hid (And.intro ctk (And.intro ca (And.intro cb (And.intro cg cw))))
              clear ctk ca cb cg cw
              generalize tmsR (I.take s) I[s] = T0 at *
              generalize tmsR D I[s] = TX at *
              generalize tmsR I I[s] = TZ at *
              generalize I[s] = X at *
              generalize q2 D I s = Q at *
              have HB := Lib.hid (BelowOn hB2 hbv)
              have hDr := Lib.hid ((hDI.call hB2).call hbv); have hIr := Lib.hid ((hII.call hB2).call hbv)
              clear hB2 hbv
              go_wp2_with fail
              generalize (wr.alloc (.cells #[.int .i64 X.k, .string X.t, .int .i64 X.id] 57)) = v1 at *
              have d0 : v1.cell? ⟨wr.heap.size, 0, none⟩ = some (.int .i64 X.k) := by rw [Lib.cell_of_heap hv0]; rfl
              have d1 : v1.cell? ⟨wr.heap.size, 1, none⟩ = some (.string X.t) := by rw [Lib.cell_of_heap hv0]; rfl
              have d2 : v1.cell? ⟨wr.heap.size, 2, none⟩ = some (.int .i64 X.id) := by rw [Lib.cell_of_heap hv0]; rfl
              have hgl : wr.heap.size < v1.heap.size := heap_lt hv0
              generalize wr.heap.size = g at *
              clear x0 x1 x2 hv0 had
              obtain ⟨ctk, ca, cb, cg, cw⟩ := HC.out
              refine (cg v1).mono ?_; rintro e v2 ⟨rfl, hb⟩
              have y0 := (hb.cell (p := ⟨g, 0, none⟩) hgl).trans d0; have y1 := (hb.cell (p := ⟨g, 1, none⟩) hgl).trans d1; have y2 := (hb.cell (p := ⟨g, 2, none⟩) hgl).trans d2
              replace HB := Lib.hid (BelowOn HB.out hb); replace hDr := Lib.hid (hDr.out.call hb); replace hIr := Lib.hid (hIr.out.call hb)
              clear hb d0 d1 d2 hgl HC
              cases q : isT X.k with
              | false =>
                have hn := Lib.hid (n2.out q)
                clear ctk ca cb cg n0 n1 n2
                go_wp2_with fail
                refine (cw _).mono ?_; rintro e v3 ⟨rfl, hb⟩
                replace HB := Lib.hid (BelowOn HB.out hb)
                clear hb cw y0 y1 y2
                generalize wtT X.k = wt at *
                go_wp2_with fail
                go_roundw
                case rel => exact ⟨s + 1, hlt, by go_num, by rw [hn.out] <;> go_num, HB.out⟩
                case measure => simp [intOf] <;> omega
              | true =>
                clear cw cg n2
                have kc : (s : Int) ≤ (ci : Int) := by omega
                have k0 : (0 : Int) ≤ (s : Int) := by omega
                by_cases z : T0 = 0
                · have zq : ((T0 : Int) == 0) = true := by simp; omega
                  by_cases y : TX = 0
                  · have yq : ((TX : Int) == 0) = true := by simp; omega
                    have hn := Lib.hid (n0.out q z y)
                    clear n0 n1
                    go_wp2_with fail
                    have e1 := fun d os => Calls.regrown_of (ctk (grow (redrawn v2 d) os) (hIr.out.call (below_regrown v2 d os)))
                    have e2 := fun d os => Calls.regrown_of (ca (grow (redrawn v2 d) os) (hDr.out.call (below_regrown v2 d os)))
                    have qy0 := cell_regrown y0; have qy1 := cell_regrown y1; have qy2 := cell_regrown y2
                    refine wp_region_quiet_below (by kernel_rfl) (by kernel_rfl) ?_
                    iterate 5 (go_big_quiet_step (exact e1 _ _))
                    repeat (go_big_quiet_step (exact e2 _ _))
                    refine wpQuiet_nil ?_
                    intro _ hw'
                    obtain ⟨⟨dq, osq⟩, hw''⟩ := hw'
                    subst hw''
                    have hb2 := below_regrown v2 dq osq
                    replace y0 := qy0 dq osq; replace y1 := qy1 dq osq; replace y2 := qy2 dq osq
                    generalize grow (redrawn v2 dq) osq = v3 at *
                    replace HB := Lib.hid (BelowOn HB.out hb2); replace hDr := Lib.hid (hDr.out.call hb2); replace hIr := Lib.hid (hIr.out.call hb2)
                    clear hb2 qy0 qy1 qy2
                    clear e1 e2 ctk ca
                    have hcb := cb v3 hIr.out
                    clear cb
                    go_wp2_with fail
                    refine hcb.mono ?_; rintro e v4 ⟨rfl, hb⟩
                    replace HB := Lib.hid (BelowOn HB.out hb)
                    clear hb hcb y0 y1 y2
                    go_wp2_with fail
                    go_roundw
                    case rel => exact ⟨s + 1, hlt, by go_num, by rw [hn.out] <;> go_num, HB.out⟩
                    case measure => simp [intOf] <;> omega
                  · have yq : ((TX : Int) == 0) = false := by simp; omega
                    have hn := Lib.hid (n1.out q (fun h => y h.2))
                    clear n0 n1
                    go_wp2_with fail
                    have e1 := fun d os => Calls.regrown_of (ctk (grow (redrawn v2 d) os) (hIr.out.call (below_regrown v2 d os)))
                    have e2 := fun d os => Calls.regrown_of (ca (grow (redrawn v2 d) os) (hDr.out.call (below_regrown v2 d os)))
                    have qy0 := cell_regrown y0; have qy1 := cell_regrown y1; have qy2 := cell_regrown y2
                    refine wp_region_quiet_below (by kernel_rfl) (by kernel_rfl) ?_
                    iterate 5 (go_big_quiet_step (exact e1 _ _))
                    repeat (go_big_quiet_step (exact e2 _ _))
                    refine wpQuiet_nil ?_
                    intro _ hw'
                    obtain ⟨⟨dq, osq⟩, hw''⟩ := hw'
                    subst hw''
                    have hb2 := below_regrown v2 dq osq
                    generalize grow (redrawn v2 dq) osq = v3 at *
                    replace HB := Lib.hid (BelowOn HB.out hb2); replace hDr := Lib.hid (hDr.out.call hb2); replace hIr := Lib.hid (hIr.out.call hb2)
                    clear hb2 qy0 qy1 qy2 y0 y1 y2
                    clear e1 e2 ctk ca cb
                    go_wp2_with fail
                    go_roundw
                    case rel => exact ⟨s + 1, hlt, by go_num, by rw [hn.out] <;> go_num, HB.out⟩
                    case measure => simp [intOf] <;> omega
                · have zq : ((T0 : Int) == 0) = false := by simp; omega
                  have hn := Lib.hid (n1.out q (fun h => z h.1))
                  clear n0 n1
                  go_wp2_with fail
                  have e1 := fun d os => Calls.regrown_of (ctk (grow (redrawn v2 d) os) (hIr.out.call (below_regrown v2 d os)))
                  have qy0 := cell_regrown y0; have qy1 := cell_regrown y1; have qy2 := cell_regrown y2
                  refine wp_region_quiet_below (by kernel_rfl) (by kernel_rfl) ?_
                  repeat (go_big_quiet_step (exact e1 _ _))
                  refine wpQuiet_nil ?_
                  intro _ hw'
                  obtain ⟨⟨dq, osq⟩, hw''⟩ := hw'
                  subst hw''
                  have hb2 := below_regrown v2 dq osq
                  generalize grow (redrawn v2 dq) osq = v3 at *
                  replace HB := Lib.hid (BelowOn HB.out hb2); replace hDr := Lib.hid (hDr.out.call hb2); replace hIr := Lib.hid (hIr.out.call hb2)
                  clear hb2 qy0 qy1 qy2 y0 y1 y2
                  clear e1 ctk ca cb
                  go_wp2_with fail
                  go_roundw
                  case rel => exact ⟨s + 1, hlt, by go_num, by rw [hn.out] <;> go_num, HB.out⟩
                  case measure => simp [intOf] <;> omega
            · obtain rfl : s = I.length := by omega
              have HW2 := Lib.hid (BelowOn HW1.out hB2)
              generalize q2 D I I.length = Q2 at *
              clear hB2
              have hfin : ((u + Q1 + Q2 : Nat) : Int) = (u : Int) + (Q1 : Int) + (Q2 : Int) := by omega
              have HFI := Lib.hid hfin
              clear hfin
              go_wp2_with fail
              go_ret2
              exact ⟨by rw [HF.out.1, HF.out.2, HFI.out]; rfl, HW2.out⟩
end Go.Proofs.Ytpkipdiecnokhaa
namespace Go.Proofs.Ytpkipdiecnokhaa
open Go.ChangeShapes Go.WideShapes Go.ChangeAt Go.RowKit Go.Sort
set_option linter.unusedVariables false
set_option linter.unusedSimpArgs false
set_option maxRecDepth 100000

theorem small12_any (p : Option Addr) (cap : Nat) (l : List It) (w : World) (hR : Its w p l) (hO : Oks l) (hc : l.length ≤ cap) (hm : cap ≤ maxLen) :
    Calls Try.prog 35 #[.slice p l.length cap, .int .i64 12] w fun e w' => e = .returned (.bool (smlB l)) ∧ w = w' := by
  unfold maxLen at hm
  have hsum : l.length ≤ 12 → ∀ k, k ≤ l.length → txtI (l.take k) ≤ k * 140737488355328 := fun h60 k => by
    intro hk
    induction k with
    | zero => simp [txtI]
    | succ j ih =>
      rw [txtI_next l j (by omega)]
      have := ih (by omega)
      have h1 := (hO j (by omega)).t
      omega
  have HS := Lib.hid hsum; clear hsum
  go_enter Try.func35, Try.ntmps35
  go_wp2_with fail
  go_loop [5, 9] (fun v i => ∃ k : Nat, ∃ z : Int, k ≤ l.length ∧ i = .int .i64 k ∧ v = .int .i64 z ∧ Hid (l.length ≤ 12 → z = txtI (l.take k))) (fun _ i => l.length - (intOf i).toNat)
  case atStart => exact ⟨0, 0, Nat.zero_le _, rfl, rfl, Lib.hid (fun _ => rfl)⟩
  case round =>
    obtain ⟨k, z, hk, rfl, rfl, HZ⟩ := hrel
    by_cases hlt : k < l.length
    · obtain ⟨a, rfl, ha, c0, c1, c2⟩ := hR.row k hlt
      have hn := txtI_next l k hlt
      have HN := Lib.hid hn; clear hn
      have ik : (k : Int) < (l.length : Int) := by omega
      go_wp2_with fail
      go_round
      case rel =>
        refine ⟨k + 1, _, hlt, by go_num, rfl, Lib.hid (fun h60 => ?_)⟩
        have b := HS.out h60 (k + 1) hlt
        rw [HN.out] at b ⊢
        rw [HZ.out h60]
        unfold wrap64
        omega
      case measure => simp [intOf] <;> omega
    · obtain rfl : k = l.length := by omega
      rw [List.take_length] at HZ
      by_cases h60 : l.length ≤ 12
      · have hz := HZ.out h60
        go_wp2_with fail
        go_ret
        exact ⟨ret_bool (by unfold smlB; rw [Bool.eq_iff_iff]; simp [h60]; omega), rfl⟩
      · go_wp2_with fail
        go_ret
        exact ⟨ret_bool (by unfold smlB; simp [h60]), rfl⟩
theorem Dr.align {W : World} {p q : Option Addr} {c d : Nat} {A B : List It} (h : Dr W p c A) (k : Dr W q d B) : Calls Try.prog 34 #[.slice p A.length c, .slice q B.length d] W fun e w' => ∃ r f, e = .returned (.slice r (scr 0 0 A B).length f) ∧ (scr 0 0 A B).length ≤ f ∧ f ≤ maxLen ∧ Eds w' r (scr 0 0 A B) ∧ Below W.heap.size W w' :=
  (align_any p q c d A B W h.its k.its h.le k.le h.cm k.cm (Nat.le_trans h.len (by omega)) (Nat.le_trans k.len (by omega)) h.txt k.txt).mono fun e w' ⟨v, he, hO, hb⟩ => by
    obtain ⟨r, f, rfl, h1, h2, h3⟩ := own_eds hO
    exact ⟨r, f, he, h1, h2, h3, hb⟩
theorem Dr.ralign {W : World} {p q : Option Addr} {c d : Nat} {A B : List It} (h : Dr W p c A) (k : Dr W q d B) : Calls Try.prog 28 #[.slice p A.length c, .slice q B.length d] W fun e w' => ∃ r f, e = .returned (.slice r (scr 0 0 A B).length f) ∧ (scr 0 0 A B).length ≤ f ∧ f ≤ maxLen ∧ Eds w' r (scr 0 0 A B) ∧ Below W.heap.size W w' :=
  (ralign_any p q c d A B W h.its k.its h.le k.le h.cm k.cm (Nat.le_trans h.len (by omega)) (Nat.le_trans k.len (by omega)) h.txt k.txt).mono fun e w' ⟨v, he, hO, hb⟩ => by
    obtain ⟨r, f, rfl, h1, h2, h3⟩ := own_eds hO
    exact ⟨r, f, he, h1, h2, h3, hb⟩
set_option maxHeartbeats 6400000 in
theorem any_law (pa : Option Addr) (ca : Nat) (a : List It) (pb : Option Addr) (cb : Nat) (b : List It) (w : World)
    (ra : Its w pa a) (oa : Oks a) (na : a.length ≤ ca) (ma : ca ≤ maxLen) (rb : Its w pb b) (ob : Oks b) (nb : b.length ≤ cb) (mb : cb ≤ maxLen) :
    Calls Try.prog 11 #[.slice pa a.length ca, .slice pb b.length cb] w fun e w' => e = .returned (.bool true) ∧ Below w.heap.size w w' := by
  have SA := Lib.hid (fun W (h : Its W pa a) => small12_any pa ca a W h oa na ma)
  have SB := Lib.hid (fun W (h : Its W pb b) => small12_any pb cb b W h ob nb mb)
  have DA := Lib.hid (fun hs => dr_small ra na ma hs)
  have DB := Lib.hid (fun hs => dr_small rb nb mb hs)
  unfold maxLen at ma mb
  have leave : ∀ W, Below w.heap.size w W → Calls Try.prog 26 #[] W fun e w' => e = .returned (.bool true) ∧ Below w.heap.size w w' := fun W h => (known_any W).mono (fun e w' hh => ⟨hh.1, BelowOn h hh.2⟩)
  have LV := Lib.hid leave
  clear leave
  cases sa : smlB a with
  | false =>
    rw [sa] at SA
    go_enter Try.func11, Try.ntmps11
    go_wp2_with fail
    refine (SA.out _ ra).mono ?_; rintro e w1 ⟨rfl, rfl⟩
    go_wp2_with fail
    refine (LV.out _ (Below.refl _ _)).mono ?_; rintro e w1 ⟨rfl, hb⟩
    go_wp2_with fail
    go_ret
    exact ⟨rfl, hb⟩
  | true =>
  rw [sa] at SA
  cases sb : smlB b with
  | false =>
    rw [sb] at SB
    go_enter Try.func11, Try.ntmps11
    go_wp2_with fail
    refine (SA.out _ ra).mono ?_; rintro e w1 ⟨rfl, rfl⟩
    go_wp2_with fail
    refine (SB.out _ rb).mono ?_; rintro e w1 ⟨rfl, rfl⟩
    go_wp2_with fail
    refine (LV.out _ (Below.refl _ _)).mono ?_; rintro e w1 ⟨rfl, hb⟩
    go_wp2_with fail
    go_ret
    exact ⟨rfl, hb⟩
  | true =>
  rw [sb] at SB
  have hDA := DA.out sa; have hDB := DB.out sb
  clear DA DB
  go_enter Try.func11, Try.ntmps11
  go_wp2_with fail
  refine (SA.out _ ra).mono ?_; rintro e w1 ⟨rfl, rfl⟩
  go_wp2_with fail
  refine (SB.out _ rb).mono ?_; rintro e w1 ⟨rfl, rfl⟩
  clear SA SB ra rb oa ob
  have h1 := hDA.dist hDB
  have HK := Lib.hid (And.intro hDA hDB)
  clear hDA hDB
  go_wp2_with fail
  refine h1.mono ?_; rintro e w1 ⟨rfl, hb1⟩
  have hA := HK.out.1.call hb1; have hB := HK.out.2.call hb1
  have h2 := hA.rdist hB
  clear h1 HK
  have HK := Lib.hid (And.intro hA (And.intro hB hb1))
  clear hA hB hb1
  generalize hD : dis a b = D at *
  clear hD
  go_wp2_with fail
  refine h2.mono ?_; rintro e w2 ⟨rfl, hb⟩
  have hA := HK.out.1.call hb; have hB := HK.out.2.1.call hb; have hW := BelowOn HK.out.2.2 hb
  have h3 := hA.align hB
  clear h2 HK hb
  have HK := Lib.hid (And.intro hA (And.intro hB hW))
  have HLS := Lib.hid (fun W p q c d (hA : Eds W p (scr 0 0 a b)) (hB : Eds W q (scr 0 0 a b)) h1 h2 h3 h4 => sameedits_any p q c d (scr 0 0 a b) W hA hB h1 h2 h3 h4)
  clear hA hB hW
  go_wp2_with fail
  refine h3.mono ?_; rintro e w3 ⟨r, f, rfl, e1, e2, hE, hb⟩
  have hA := HK.out.1.call hb; have hB := HK.out.2.1.call hb; have hW := BelowOn HK.out.2.2 hb
  have h4 := hA.ralign hB
  clear h3 HK hb
  have HK := Lib.hid (And.intro hE hW)
  clear hA hB hW hE
  generalize scr 0 0 a b = S at *
  go_wp2_with fail
  refine h4.mono ?_; rintro e w4 ⟨r2, f2, rfl, e3, e4, hE2, hb⟩
  have h5 := HLS.out w4 r r2 f f2 (HK.out.1.call hb) hE2 e1 e3 e2 e4
  have HW := Lib.hid (BelowOn HK.out.2 hb)
  clear h4 HK hb hE2 HLS
  go_wp2_with fail
  refine h5.mono ?_; rintro e w5 ⟨rfl, hb⟩
  have HW2 := Lib.hid (BelowOn HW.out hb)
  clear hb h5
  go_wp2_with fail
  refine (LV.out _ HW2.out).mono ?_; rintro e w6 ⟨rfl, hb⟩
  go_wp2_with fail
  go_ret
  exact ⟨rfl, hb⟩
end Go.Proofs.Ytpkipdiecnokhaa
namespace Go.Proofs.Ytpkipdiecnokhaa
open Go.ChangeShapes Go.WideShapes Go.ChangeAt Go.RowKit Go.Sort
set_option linter.unusedVariables false
set_option linter.unusedSimpArgs false
set_option maxRecDepth 100000

theorem ix30 (p q r : Option Addr) (n c m d k f : Nat) (w : World) : (Instr.index 47 (.agg #[.slice p n c, .slice q m d, .slice r k f]) (.int .i64 0)).run Try.prog w = .ok (.slice p n c) w := by kernel_rfl
theorem ix31 (p q r : Option Addr) (n c m d k f : Nat) (w : World) : (Instr.index 47 (.agg #[.slice p n c, .slice q m d, .slice r k f]) (.int .i64 1)).run Try.prog w = .ok (.slice q m d) w := by kernel_rfl
theorem ix32 (p q r : Option Addr) (n c m d k f : Nat) (w : World) : (Instr.index 47 (.agg #[.slice p n c, .slice q m d, .slice r k f]) (.int .i64 2)).run Try.prog w = .ok (.slice r k f) w := by kernel_rfl
/-- A script that a law has in hand. -/
structure Sc (W : World) (p : Option Addr) (c : Nat) (S : List Ed) : Prop where
  eds : Eds W p S
  le : S.length ≤ c
  cm : c ≤ maxLen
  len : S.length ≤ 900
theorem Sc.call {W W' : World} {p : Option Addr} {c : Nat} {S : List Ed} (h : Sc W p c S) (hb : Below W.heap.size W W') : Sc W' p c S := ⟨h.eds.call hb, h.le, h.cm, h.len⟩
theorem Sc.price {W : World} {p q r : Option Addr} {c d f : Nat} {A B : List It} {S : List Ed} (hS : Sc W r f S) (h : Dr W p c A) (k : Dr W q d B) : Calls Try.prog 29 #[.slice p A.length c, .slice q B.length d, .slice r S.length f] W fun e w' => e = .returned (.tuple #[.int .i64 (prO A B S : Nat), .bool (prB A B S)]) ∧ Below W.heap.size W w' :=
  price_any p q r c d f A B S W h.its k.its hS.eds h.le k.le hS.le h.cm k.cm hS.cm (Nat.le_trans h.len (by omega)) (Nat.le_trans k.len (by omega)) (Nat.le_trans hS.len (by omega)) h.txt k.txt
theorem Sc.rprice {W : World} {p q r : Option Addr} {c d f : Nat} {A B : List It} {S : List Ed} (hS : Sc W r f S) (h : Dr W p c A) (k : Dr W q d B) : Calls Try.prog 30 #[.slice p A.length c, .slice q B.length d, .slice r S.length f] W fun e w' => e = .returned (.tuple #[.int .i64 (prO A B S : Nat), .bool (prB A B S)]) ∧ Below W.heap.size W w' :=
  rprice_any p q r c d f A B S W h.its k.its hS.eds h.le k.le hS.le h.cm k.cm hS.cm (Nat.le_trans h.len (by omega)) (Nat.le_trans k.len (by omega)) (Nat.le_trans hS.len (by omega)) h.txt k.txt
theorem sc_own {base : Nat} {S : List Ed} {v : Value} {W : World} (h : OwnE base S v W) (hl : S.length ≤ 900) : ∃ p c, v = .slice p S.length c ∧ Sc W p c S := by
  obtain ⟨p, c, e, h1, h2, h3⟩ := own_eds h
  exact ⟨p, c, e, h3, h1, h2, hl⟩
set_option maxHeartbeats 25600000 in
theorem prices_law (p0 : Option Addr) (c0 : Nat) (l : List Int) (p1 : Option Addr) (c1 : Nat) (m : List Int) (p2 : Option Addr) (c2 : Nat) (S0 : List Ed) (at0 x0 : Int) (w : World)
    (r0 : Ones w (Value.int .i64) p0 l) (o0 : ∀ i (h : i < l.length), (Lit.int .i64 (l[i]'h)).wf = true) (n0 : l.length ≤ c0) (m0 : c0 ≤ maxLen)
    (r1 : Ones w (Value.int .i64) p1 m) (o1 : ∀ i (h : i < m.length), (Lit.int .i64 (m[i]'h)).wf = true) (n1 : m.length ≤ c1) (m1 : c1 ≤ maxLen)
    (r2 : Eds w p2 S0) (n2 : S0.length ≤ c2) (m2 : c2 ≤ maxLen) (wa : (Lit.int .i64 at0).wf = true) :
    Calls Try.prog 9 #[.slice p0 l.length c0, .slice p1 m.length c1, .slice p2 S0.length c2, .int .i64 at0, .int .i64 x0] w fun e w' => e = .returned (.bool true) ∧ Below w.heap.size w w' := by
  have M0 := Lib.hid (dmade_any p0 c0 l 10 w r0 o0 n0 m0 (by omega))
  have M1 := Lib.hid (fun W h => dmade_any p1 c1 m 10 W h o1 n1 m1 (by omega))
  have R1 := Lib.hid r1; have R2 := Lib.hid r2
  have hm2 := m2
  unfold maxLen at m0 m1 m2
  clear r0 r1 o0 o1 r2
  have lA := mkD_len l 10; have lB := mkD_len m 10
  have leave : ∀ W, Below w.heap.size w W → Calls Try.prog 26 #[] W fun e w' => e = .returned (.bool true) ∧ Below w.heap.size w w' := fun W h => (known_any W).mono (fun e w' hh => ⟨hh.1, BelowOn h hh.2⟩)
  have LV := Lib.hid leave
  clear leave
  by_cases z0 : 60 < l.length
  · go_enter Try.func9, Try.ntmps9
    go_wp2_with fail
    refine (LV.out _ (Below.refl _ _)).mono ?_; rintro e w1 ⟨rfl, hb⟩
    go_wp2_with fail
    go_ret
    exact ⟨rfl, hb⟩
  by_cases z1 : 60 < m.length
  · go_enter Try.func9, Try.ntmps9
    go_wp2_with fail
    refine (LV.out _ (Below.refl _ _)).mono ?_; rintro e w1 ⟨rfl, hb⟩
    go_wp2_with fail
    go_ret
    exact ⟨rfl, hb⟩
  by_cases z2 : 30 < S0.length
  · go_enter Try.func9, Try.ntmps9
    go_wp2_with fail
    refine (LV.out _ (Below.refl _ _)).mono ?_; rintro e w1 ⟨rfl, hb⟩
    go_wp2_with fail
    go_ret
    exact ⟨rfl, hb⟩
  go_enter Try.func9, Try.ntmps9
  go_wp2_with fail
  refine M0.out.mono ?_; rintro e w1 hE
  obtain ⟨pa, ca, rfl, hA, hb1⟩ := dr_made (by omega) hE
  clear hE M0
  go_wp2_with fail
  refine (M1.out _ (R1.out.call hb1)).mono ?_; rintro e w2 hE
  obtain ⟨pb, cb, rfl, hB, hb2⟩ := dr_made (by omega) hE
  replace hA := hA.call hb2
  have hW := BelowOn hb1 hb2
  have hS : Sc w2 p2 c2 S0 := ⟨(R2.out.call hb1).call hb2, n2, hm2, by omega⟩
  clear hE hb1 hb2 M1 R1 R2
  generalize mkD l 10 = A at *
  generalize mkD m 10 = B at *
  have HQ := Lib.hid (And.intro hA (And.intro hB (And.intro hS hW)))
  have hAc := hA.cm; have hBc := hB.cm
  unfold maxLen at hAc hBc
  clear hA hB hS hW hm2
  go_wp2_with fail
  go_loopw [13, 43] (fun v i wr => ∃ (k : Nat) (L : List Ed), k ≤ A.length ∧ i = .int .i64 k ∧ L.length = k ∧ OwnE w2.heap.size L v wr ∧ Below w2.heap.size w2 wr) (fun _ i _ => A.length - (intOf i).toNat)
  case atStart => exact ⟨0, [], Nat.zero_le _, rfl, rfl, OwnL.nil _ _, Below.refl _ _⟩
  case round =>
    obtain ⟨k, L, hk, rfl, hL, hO, hBw⟩ := hrel
    by_cases hlt : k < A.length
    · have ik : (k : Int) < (A.length : Int) := by omega
      have hnew := heap_alloc_new wr (.cells #[.int .i64 (k : Int), .int .i64 (-1)] 45)
      have hbn : Below wr.heap.size wr (wr.alloc (.cells #[.int .i64 (k : Int), .int .i64 (-1)] 45)) := blw (Below.refl _ _) _
      have hO2 := hO.call hbn
      have hB2 := BelowOn hBw hbn
      have hsz2 : w2.heap.size ≤ (wr.alloc (.cells #[.int .i64 (k : Int), .int .i64 (-1)] 45)).heap.size := hB2.size
      have HB2 := Lib.hid hB2
      have HLL := Lib.hid hL
      have hL2 : L.length ≤ 100 := by omega
      clear hB2 hbn hO hBw hL
      go_wp2_with (at_builtin; refine wpl_append2 eE _ rfl _ _ rfl w2.heap.size hsz2 L _ rfl hO2 ⟨(k : Int), -1⟩ _ _ rfl hnew rfl (by omega) (by unfold maxLen; omega) ?_; intro v' w5 hO5 hb5)
      go_roundw
      case rel => exact ⟨k + 1, _, hlt, by go_num, by rw [List.length_append, HLL.out]; rfl, hO5, HB2.out.trans hb5⟩
      case measure => simp [intOf] <;> omega
    · obtain rfl : k = A.length := by omega
      have HO1 := Lib.hid (And.intro hO (And.intro hBw hL))
      clear hO hBw hL
      go_wp2_with fail
      go_loopw [13, 54] (fun v i wr => ∃ (k : Nat) (L : List Ed), k ≤ B.length ∧ i = .int .i64 k ∧ L.length = A.length + k ∧ OwnE w2.heap.size L v wr ∧ Below w2.heap.size w2 wr) (fun _ i _ => B.length - (intOf i).toNat)
      case atStart => exact ⟨0, L, Nat.zero_le _, rfl, HO1.out.2.2, HO1.out.1, HO1.out.2.1⟩
      case round =>
        clear HO1
        obtain ⟨k, L, hk, rfl, hL, hO, hBw⟩ := hrel
        by_cases hlt : k < B.length
        · have ik : (k : Int) < (B.length : Int) := by omega
          have hnew := heap_alloc_new wr (.cells #[.int .i64 (-1), .int .i64 (k : Int)] 45)
          have hbn : Below wr.heap.size wr (wr.alloc (.cells #[.int .i64 (-1), .int .i64 (k : Int)] 45)) := blw (Below.refl _ _) _
          have hO2 := hO.call hbn
          have hB2 := BelowOn hBw hbn
          have hsz2 : w2.heap.size ≤ (wr.alloc (.cells #[.int .i64 (-1), .int .i64 (k : Int)] 45)).heap.size := hB2.size
          have HB2 := Lib.hid hB2
          have HLL := Lib.hid hL
          have hL2 : L.length ≤ 100 := by omega
          clear hB2 hbn hO hBw hL
          go_wp2_with (at_builtin; refine wpl_append2 eE _ rfl _ _ rfl w2.heap.size hsz2 L _ rfl hO2 ⟨-1, (k : Int)⟩ _ _ rfl hnew rfl (by omega) (by unfold maxLen; omega) ?_; intro v' w5 hO5 hb5)
          go_roundw
          case rel => exact ⟨k + 1, _, hlt, by go_num, by rw [List.length_append, HLL.out]; rfl, hO5, HB2.out.trans hb5⟩
          case measure => simp [intOf] <;> omega
        · obtain rfl : k = B.length := by omega
          have hL2 : L.length ≤ 100 := by omega
          obtain ⟨pl, cl, rfl, hSL⟩ := sc_own hO (by omega)
          obtain ⟨hA, hB, hS, hW⟩ := HQ.out
          replace hA := hA.call hBw; replace hB := hB.call hBw; replace hS := hS.call hBw; replace hW := BelowOn hW hBw
          have hal := ralign_any pa pb ca cb A B wr hA.its hB.its hA.le hB.le hA.cm hB.cm (Nat.le_trans hA.len (by omega)) (Nat.le_trans hB.len (by omega)) hA.txt hB.txt
          have hsl := scr_len 0 0 A B
          have hLc := hSL.cm
          unfold maxLen at hLc
          have HQ2 := Lib.hid (And.intro hA (And.intro hB (And.intro hS (And.intro hSL hW))))
          clear hA hB hS hW hSL hO hBw HQ hL
          go_wp2_with fail
          refine hal.mono ?_; rintro e w3 ⟨v3, rfl, hO3, hb3⟩
          clear hal
          generalize scr 0 0 A B = S at *
          have hS100 : S.length ≤ 100 := by omega
          by_cases hz : S.length = 0
          · obtain ⟨pS, fS, rfl, hSc⟩ := sc_own hO3 (by omega)
            have qz : ¬ (0 : Int) < (S.length : Int) := by omega
            have hfc := hSc.cm
            unfold maxLen at hfc
            have HF := Lib.hid (And.intro (HQ2.out.1.call hb3) (And.intro (HQ2.out.2.1.call hb3) (And.intro (HQ2.out.2.2.1.call hb3) (And.intro (HQ2.out.2.2.2.1.call hb3) (And.intro hSc (BelowOn HQ2.out.2.2.2.2 hb3))))))
            clear hO3 hb3 hSc HQ2 hz hsl
            go_upto_region 18 with (fail)
            clear qz
            generalize decide (0 < S.length) = zz
            go_wp2_with fail
            go_loopw [81] (fun i w9 => ∃ k : Nat, k ≤ 3 ∧ i = .int .i64 k ∧ (Dr w9 pa ca A ∧ Dr w9 pb cb B ∧ Sc w9 p2 c2 S0 ∧ Sc w9 pl cl L ∧ Sc w9 pS fS S ∧ Below w.heap.size w w9)) (fun i _ => 3 - (intOf i).toNat)
            case atStart => exact ⟨0, by omega, rfl, HF.out⟩
            case round =>
              clear HF
              obtain ⟨k, hk, rfl, hR⟩ := hrel
              by_cases hlt : k < 3
              · have hpick : ∃ (q : Option Addr) (d : Nat) (X : List Ed), (∀ W, (Instr.index 47 (.agg #[.slice p2 S0.length c2, .slice pl L.length cl, .slice pS S.length fS]) (.int .i64 (k : Int))).run Try.prog W = .ok (.slice q X.length d) W) ∧ Sc wr q d X := by
                  have hk3 : k = 0 ∨ k = 1 ∨ k = 2 := by omega
                  rcases hk3 with rfl | rfl | rfl
                  · exact ⟨p2, c2, S0, fun W => ix30 _ _ _ _ _ _ _ _ _ W, hR.2.2.1⟩
                  · exact ⟨pl, cl, L, fun W => ix31 _ _ _ _ _ _ _ _ _ W, hR.2.2.2.1⟩
                  · exact ⟨pS, fS, S, fun W => ix32 _ _ _ _ _ _ _ _ _ W, hR.2.2.2.2.1⟩
                obtain ⟨q, d, X, hix, hX⟩ := hpick
                have h1 := hX.price hR.1 hR.2.1
                have ik : (k : Int) < 3 := by omega
                have HR := Lib.hid (And.intro hR hX)
                clear hR hX
                go_wp2_with fail
                refine h1.mono ?_; rintro e w7 ⟨rfl, hb⟩
                replace HR := Lib.hid (And.intro (And.intro (HR.out.1.1.call hb) (And.intro (HR.out.1.2.1.call hb) (And.intro (HR.out.1.2.2.1.call hb) (And.intro (HR.out.1.2.2.2.1.call hb) (And.intro (HR.out.1.2.2.2.2.1.call hb) (BelowOn HR.out.1.2.2.2.2.2 hb)))))) (HR.out.2.call hb))
                clear hb h1
                have h1 := HR.out.2.rprice HR.out.1.1 HR.out.1.2.1
                generalize prO A B X = U at *
                generalize prB A B X = V at *
                go_wp2_with fail
                refine h1.mono ?_; rintro e w8 ⟨rfl, hb⟩
                replace HR := Lib.hid (And.intro (And.intro (HR.out.1.1.call hb) (And.intro (HR.out.1.2.1.call hb) (And.intro (HR.out.1.2.2.1.call hb) (And.intro (HR.out.1.2.2.2.1.call hb) (And.intro (HR.out.1.2.2.2.2.1.call hb) (BelowOn HR.out.1.2.2.2.2.2 hb)))))) (HR.out.2.call hb))
                clear hb h1
                go_wp2_with fail
                go_roundw
                case rel => exact ⟨k + 1, hlt, by go_num, HR.out.1⟩
                case measure => simp [intOf] <;> omega
              · obtain rfl : k = 3 := by omega
                have HW := Lib.hid hR.2.2.2.2.2
                clear hR
                go_wp2_with fail
                refine (LV.out _ HW.out).mono ?_; rintro e w7 ⟨rfl, hb⟩
                go_wp2_with fail
                go_ret
                exact ⟨rfl, hb⟩
          have hpos : 0 < S.length := by omega
          obtain ⟨g, fS, rfl, hg, hf1, hf2, hRow⟩ := own_rowg hO3 hpos
          have qz : (0 : Int) < (S.length : Int) := by omega
          have P1 := place_any at0 S.length w3 (by omega) (by omega) wa
          have b1 := Int.emod_nonneg at0 (show (S.length : Int) ≠ 0 by omega)
          have b2 := Int.emod_lt_of_pos at0 (show (0 : Int) < (S.length : Int) by omega)
          obtain ⟨j, hj⟩ : ∃ j : Nat, at0 % (S.length : Int) = (j : Int) := ⟨(at0 % (S.length : Int)).toNat, by omega⟩
          rw [hj] at P1 b1 b2
          have hjl : j < S.length := by omega
          have hput := hRow.put j hjl 0 (by omega) (.int .i64 x0) ⟨x0, (S[j]'hjl).b⟩ (set_fst j x0 hjl)
          have hthere := hRow.there j hjl 0 (by omega)
          obtain ⟨vv, hvv⟩ := Option.isSome_iff_exists.1 hthere.1
          have hfz := hthere.2
          have hbb := below_of_grow hb3 (grow_cell w3 g (j * 2 + 0) (.int .i64 x0)) hb3.size hg
          rw [Nat.add_zero] at hput hvv hfz hbb
          have hSc : Sc (w3.setCell ⟨g, j * 2, none⟩ (.int .i64 x0)) (some ⟨g, 0, none⟩) fS (S.set j ⟨x0, (S[j]'hjl).b⟩) := ⟨hput.rw, by rw [List.length_set]; exact hf1, hf2, by rw [List.length_set]; omega⟩
          have hfc := hf2
          unfold maxLen at hfc
          have HF := Lib.hid (And.intro (HQ2.out.1.call hbb) (And.intro (HQ2.out.2.1.call hbb) (And.intro (HQ2.out.2.2.1.call hbb) (And.intro (HQ2.out.2.2.2.1.call hbb) (And.intro hSc (BelowOn HQ2.out.2.2.2.2 hbb))))))
          have hlen2 : (S.set j ⟨x0, (S[j]'hjl).b⟩).length = S.length := List.length_set ..
          have HL2 := Lib.hid hlen2
          clear hO3 hb3 hSc HQ2 hput hthere hRow hbb hj b1 hsl hf2 hlen2 hg hz
          generalize S.set j ⟨x0, (S[j]'hjl).b⟩ = S4 at *
          go_wp2_with fail
          refine P1.mono ?_; rintro e w4 ⟨rfl, rfl⟩
          clear P1
          go_upto_region 18 with (fail)
          generalize w3.setCell ⟨g, j * 2, none⟩ (.int .i64 x0) = w5 at *
          clear hvv hfz
          have hlen2 := HL2.out
          rw [← hlen2]
          clear hlen2 HL2 qz b2 hjl hpos hf1 hS100
          go_wp2_with fail
          go_loopw [81] (fun i w9 => ∃ k : Nat, k ≤ 3 ∧ i = .int .i64 k ∧ (Dr w9 pa ca A ∧ Dr w9 pb cb B ∧ Sc w9 p2 c2 S0 ∧ Sc w9 pl cl L ∧ Sc w9 (some ⟨g, 0, none⟩) fS S4 ∧ Below w.heap.size w w9)) (fun i _ => 3 - (intOf i).toNat)
          case atStart => exact ⟨0, by omega, rfl, HF.out⟩
          case round =>
            clear HF
            obtain ⟨k, hk, rfl, hR⟩ := hrel
            by_cases hlt : k < 3
            · have hpick : ∃ (q : Option Addr) (d : Nat) (X : List Ed), (∀ W, (Instr.index 47 (.agg #[.slice p2 S0.length c2, .slice pl L.length cl, .slice (some ⟨g, 0, none⟩) S4.length fS]) (.int .i64 (k : Int))).run Try.prog W = .ok (.slice q X.length d) W) ∧ Sc wr q d X := by
                have hk3 : k = 0 ∨ k = 1 ∨ k = 2 := by omega
                rcases hk3 with rfl | rfl | rfl
                · exact ⟨p2, c2, S0, fun W => ix30 _ _ _ _ _ _ _ _ _ W, hR.2.2.1⟩
                · exact ⟨pl, cl, L, fun W => ix31 _ _ _ _ _ _ _ _ _ W, hR.2.2.2.1⟩
                · exact ⟨(some ⟨g, 0, none⟩), fS, S4, fun W => ix32 _ _ _ _ _ _ _ _ _ W, hR.2.2.2.2.1⟩
              obtain ⟨q, d, X, hix, hX⟩ := hpick
              have h1 := hX.price hR.1 hR.2.1
              have ik : (k : Int) < 3 := by omega
              have HR := Lib.hid (And.intro hR hX)
              clear hR hX
              go_wp2_with fail
              refine h1.mono ?_; rintro e w7 ⟨rfl, hb⟩
              replace HR := Lib.hid (And.intro (And.intro (HR.out.1.1.call hb) (And.intro (HR.out.1.2.1.call hb) (And.intro (HR.out.1.2.2.1.call hb) (And.intro (HR.out.1.2.2.2.1.call hb) (And.intro (HR.out.1.2.2.2.2.1.call hb) (BelowOn HR.out.1.2.2.2.2.2 hb)))))) (HR.out.2.call hb))
              clear hb h1
              have h1 := HR.out.2.rprice HR.out.1.1 HR.out.1.2.1
              generalize prO A B X = U at *
              generalize prB A B X = V at *
              go_wp2_with fail
              refine h1.mono ?_; rintro e w8 ⟨rfl, hb⟩
              replace HR := Lib.hid (And.intro (And.intro (HR.out.1.1.call hb) (And.intro (HR.out.1.2.1.call hb) (And.intro (HR.out.1.2.2.1.call hb) (And.intro (HR.out.1.2.2.2.1.call hb) (And.intro (HR.out.1.2.2.2.2.1.call hb) (BelowOn HR.out.1.2.2.2.2.2 hb)))))) (HR.out.2.call hb))
              clear hb h1
              go_wp2_with fail
              go_roundw
              case rel => exact ⟨k + 1, hlt, by go_num, HR.out.1⟩
              case measure => simp [intOf] <;> omega
            · obtain rfl : k = 3 := by omega
              have HW := Lib.hid hR.2.2.2.2.2
              clear hR
              go_wp2_with fail
              refine (LV.out _ HW.out).mono ?_; rintro e w7 ⟨rfl, hb⟩
              go_wp2_with fail
              go_ret
              exact ⟨rfl, hb⟩
end Go.Proofs.Ytpkipdiecnokhaa
namespace Go.Proofs.Ytpkipdiecnokhaa.distancePrices
open Go.ChangeShapes Go.WideShapes Go.ChangeAt Go.RowKit
open Go.ChangeMaps (open_string shut_string)
set_option linter.unusedVariables false
set_option maxRecDepth 100000

theorem own : ownKnob Try.prog.godebug = none := by kernel_rfl
theorem laidOut : laidOutB Try.prog = true := by kernel_rfl


set_option maxHeartbeats 1600000 in
theorem walk (p0 : Option Addr) (c0 : Nat) (a0 : List Int) (p1 : Option Addr) (c1 : Nat) (a1 : List Int) (p2 : Option Addr) (c2 : Nat) (a2 : List Ed) (a3 : Int) (a4 : Int) (w : World) (r0 : Ones w (Value.int .i64) p0 a0) (o0 : ∀ i (h : i < a0.length), (Lit.int .i64 (a0[i]'h)).wf = true) (n0 : a0.length ≤ c0) (m0 : c0 ≤ maxLen) (r1 : Ones w (Value.int .i64) p1 a1) (o1 : ∀ i (h : i < a1.length), (Lit.int .i64 (a1[i]'h)).wf = true) (n1 : a1.length ≤ c1) (m1 : c1 ≤ maxLen) (r2 : Eds w p2 a2) (n2 : a2.length ≤ c2) (m2 : c2 ≤ maxLen) (w3 : (Lit.int .i64 a3).wf = true) (w4 : (Lit.int .i64 a4).wf = true) :
    Calls Try.prog 9 #[.slice p0 a0.length c0, .slice p1 a1.length c1, .slice p2 a2.length c2, .int .i64 a3, .int .i64 a4] w fun e w' => e = .returned (.bool true) ∧ Below w.heap.size w w' := by
  exact prices_law p0 c0 a0 p1 c1 a1 p2 c2 a2 a3 a4 w r0 o0 n0 m0 r1 o1 n1 m1 r2 n2 m2 w3

theorem lifted (os : Os) (started : os.Started) (H : Type) (enc : TypeId × Value → H) :
    ReturnsInHanded {} Try.checked os 9 .any (Rows.distancePricesSpec.pre6 enc Try.prog Try.f9 Rows.distancePricesRow.domain false) (Rows.distancePricesSpec.post enc Try.prog Try.f9 false true false false) := by
  refine returnsInHanded_of_change_sized (C := Try.checked) own started (by kernel_rfl) Try.func9
    (ChangeSpec.witness6 (enc := enc) (C := Try.checked) false ⟨#[], #[.slice none 0 0, .slice none 0 0, .slice none 0 0, .int .i64 0, .int .i64 0], []⟩ 8 (by kernel_rfl) (by kernel_rfl) (by kernel_rfl) (by kernel_rfl)) ?_
  intro W base args ds gs before hval0 hW hcnd hsz0 _
  have hval : ∀ (j : Nat) t v, Try.f9.params[j]? = some t → args[j]? = some v → Value.okWide Try.prog W .any base t v := hval0
  have hW' := hW
  have hlt : ∀ x ∈ before, x.block < W.heap.size := fun x hx => hW'.lt x hx
  obtain ⟨p, q, hA0, hV, rfl, hfz, hnd⟩ := hW
  have hA : DataW.TrodAll enc Try.prog W 0 (fun _ => true) true Try.f9.params.toList args.toList ds p := hA0
  rw [Try.params9] at hA hval hsz0
  obtain ⟨v0, vs0, d0, ds0, p0, q0, hargs, rfl, rfl, h0, r0⟩ := trodAll_cons hA
  obtain ⟨v1, vs1, d1, ds1, p1, q1, rfl, rfl, rfl, h1, r1⟩ := trodAll_cons r0
  obtain ⟨v2, vs2, d2, ds2, p2, q2, rfl, rfl, rfl, h2, r2⟩ := trodAll_cons r1
  obtain ⟨v3, vs3, d3, ds3, p3, q3, rfl, rfl, rfl, h3, r3⟩ := trodAll_cons r2
  obtain ⟨v4, vs4, d4, ds4, p4, q4, rfl, rfl, rfl, h4, r4⟩ := trodAll_cons r3
  obtain ⟨rfl, rfl, rfl⟩ := trodAll_nil r4
  obtain rfl : args = #[v0, v1, v2, v3, v4] := by cases args; simp_all
  obtain ⟨rfl, rfl⟩ := trodVars_none hV
  have hsz := hsz0; clear hsz0
  obtain ⟨pp0, c0, a0, rfl, n0, m0, y0, o0⟩ := opened_ints (okBase (hval 0 23 v0 rfl rfl)) h0
  obtain ⟨pp1, c1, a1, rfl, n1, m1, y1, o1⟩ := opened_ints (okBase (hval 1 23 v1 rfl rfl)) h1
  obtain ⟨pp2, c2, a2, rfl, n2, m2, y2⟩ := opened_eds (okBase (hval 2 43 v2 rfl rfl)) h2
  obtain ⟨a3, rfl, -, -, w3⟩ := open_int Try.underlying3 (hval 3 3 v3 rfl rfl) h3
  obtain ⟨a4, rfl, -, -, w4⟩ := open_int Try.underlying3 (hval 4 3 v4 rfl rfl) h4
  clear hA0 hval0
  refine (walk pp0 c0 a0 pp1 c1 a1 pp2 c2 a2 a3 a4 W y0 o0 n0 m0 y1 o1 n1 m1 y2 n2 m2 w3 w4).mono fun e W' ⟨he, bel⟩ => ?_
  subst he
  exact ⟨_, rfl, _, _, _, [], _, [], hW', trodAll_mk1 (shut_bool Try.underlying4 _), (trodAll_cons_mk (Below.trod laidOut (by kernel_rfl) (of_decide_eq_true (by kernel_rfl)) h0 bel (fun x hx => hlt x (by simp [hx]))) (trodAll_cons_mk (Below.trod laidOut (by kernel_rfl) (of_decide_eq_true (by kernel_rfl)) h1 bel (fun x hx => hlt x (by simp [hx]))) (trodAll_cons_mk (Below.trod laidOut (by kernel_rfl) (of_decide_eq_true (by kernel_rfl)) h2 bel (fun x hx => hlt x (by simp [hx]))) (trodAll_cons_mk (Below.trod laidOut (by kernel_rfl) (of_decide_eq_true (by kernel_rfl)) h3 bel (fun x hx => hlt x (by simp [hx]))) (trodAll_cons_mk (Below.trod laidOut (by kernel_rfl) (of_decide_eq_true (by kernel_rfl)) h4 bel (fun x hx => hlt x (by simp [hx]))) trodAll_mk0))))), rfl, bel.frame _, fun h => by cases h⟩

theorem over : Rows.distancePricesRow.holds Try.pinned (OpenSpec.ofChange Rows.distancePricesSpec) :=
  OpenClaim.holds_of_wide 9 Try.f9 rfl rfl rfl rfl rfl rfl rfl ⟨rfl, rfl, rfl, rfl, rfl⟩ rfl rfl rfl rfl rfl (by kernel_rfl) Try.func9 (by kernel_rfl)
    (of_decide_eq_true (by kernel_rfl)) (by unfold Func.isWrapper; first | (rw [if_pos (by decide +kernel)]; kernel_rfl) | (rw [if_neg (by decide +kernel)]; exact ⟨rfl, rfl⟩))
    (fun os started H enc _ => lifted os started H enc)

theorem proved : Rows.DistancePricesSaid := over
#print axioms proved
end Go.Proofs.Ytpkipdiecnokhaa.distancePrices
