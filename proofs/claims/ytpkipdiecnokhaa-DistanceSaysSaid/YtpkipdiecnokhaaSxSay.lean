/- Score: lists that differ in a few tokens (near): the model, and what a round has in hand. Score: contract of near. Score: the walks of ScoreAllows and ScoreMonotone. Score: small; what a law's lists bear; mathematics of the thresholds. Contract of Price. What the law of Align and Price carries: paths, the numbers, the lists, the script. The walk of DistanceAny. Contract of changed: it answers some list of tokens. The walk of DistanceSays. The law DistanceSays holds for every input. -/
import Derived.Test.YtpkipdiecnokhaaDtL
import Derived.Test.YtpkipdiecnokhaaDtK
import Derived.Test.YtpkipdiecnokhaaRows
import Derived.WalkKit
import Derived.ProofKit
import Derived.OpenShut
import Derived.ChangeOld
import Derived.Below
import Derived.Carry
import Derived.SizedLaws
import Derived.Test.YtpkipdiecnokhaaTka
namespace Go.Proofs.Ytpkipdiecnokhaa
open Go.ChangeShapes Go.WideShapes Go.ChangeAt Go.RowKit Go.Sort
set_option linter.unusedVariables false
set_option linter.unusedSimpArgs false
set_option maxRecDepth 100000

def blueT : It := ⟨6, ⟨#[98, 108, 117, 101]⟩, 0⟩
def sfxT (x : It) : It := if x.k = 6 then ⟨6, x.t ++ ⟨#[115]⟩, x.id⟩ else x
def nearS (M : List Int) (i : Nat) (x : It) : List It :=
  if nx M i 12 = 0 then [] else if nx M i 12 = 1 then [blueT, x] else if nx M i 12 = 2 then [sfxT x] else if nx M i 12 = 3 then [x, x] else [x]
def nearK (M : List Int) : Nat → List It → List It
  | _, [] => []
  | i, x :: l => nearS M i x ++ nearK M (i + 1) l
def nearL (M : List Int) (l : List It) : List It := nearK M 0 l
theorem nearK_snoc (M : List Int) (l : List It) (x : It) : ∀ i, nearK M i (l ++ [x]) = nearK M i l ++ nearS M (i + l.length) x := by
  induction l with
  | nil => intro i; simp [nearK]
  | cons y l ih => intro i; rw [List.cons_append, nearK, nearK, ih, List.append_assoc, List.length_cons, show i + 1 + l.length = i + (l.length + 1) by omega]
theorem nearL_next (M : List Int) (l : List It) (k : Nat) (h : k < l.length) : nearL M (l.take (k + 1)) = nearL M (l.take k) ++ nearS M k (l[k]'h) := by
  unfold nearL
  rw [List.take_succ_eq_append_getElem h, nearK_snoc, Nat.zero_add, List.length_take, Nat.min_eq_left (Nat.le_of_lt h)]
theorem nearS_len (M : List Int) (i : Nat) (x : It) : (nearS M i x).length ≤ 2 := by
  unfold nearS; repeat' split
  all_goals simp
theorem nearK_len (M : List Int) (l : List It) : ∀ i, (nearK M i l).length ≤ 2 * l.length := by
  induction l with
  | nil => intro i; exact Nat.le_refl _
  | cons x l ih => intro i; rw [nearK, List.length_append, List.length_cons]; have := ih (i + 1); have := nearS_len M i x; omega
theorem nearL_len (M : List Int) (l : List It) : (nearL M l).length ≤ 2 * l.length := nearK_len M l 0
theorem nearK_all {P : It → Prop} (M : List Int) (l : List It) (hb : P blueT) (hx : ∀ x ∈ l, P x) (hs : ∀ x ∈ l, P (sfxT x)) : ∀ i, ∀ y ∈ nearK M i l, P y := by
  induction l with
  | nil => intro i y hy; cases hy
  | cons x l ih =>
    intro i y hy
    rw [nearK, List.mem_append] at hy
    rcases hy with hy | hy
    · have h1 := hx x (List.mem_cons_self ..)
      have h2 := hs x (List.mem_cons_self ..)
      unfold nearS at hy
      split at hy
      · cases hy
      · split at hy
        · simp at hy; rcases hy with rfl | rfl <;> assumption
        · split at hy
          · simp at hy; subst hy; exact h2
          · split at hy
            · simp at hy; subst hy; exact h1
            · simp at hy; subst hy; exact h1
    · exact ih (fun z hz => hx z (List.mem_cons_of_mem _ hz)) (fun z hz => hs z (List.mem_cons_of_mem _ hz)) (i + 1) y hy
theorem nearL_kind (M : List Int) (l : List It) (h : kindV l) : kindV (nearL M l) :=
  nearK_all (P := fun x => 2 ≤ x.k ∧ x.k ≤ 9) M l (by decide) h (fun x hx => by
    unfold sfxT; split
    · exact ⟨show (2 : Int) ≤ 6 by decide, show (6 : Int) ≤ 9 by decide⟩
    · exact h x hx) 0
theorem nearL_txt (M : List Int) (l : List It) (h : ∀ x ∈ l, x.t.size ≤ 900) : txtsB (nearL M l) :=
  nearK_all (P := fun x => x.t.size ≤ 1000) M l (by decide) (fun x hx => by have := h x hx; omega) (fun x hx => by
    have := h x hx
    unfold sfxT; split
    · show (x.t ++ ⟨#[115]⟩).size ≤ 1000
      rw [ByteArray.size_append]; show x.t.size + 1 ≤ 1000; omega
    · omega) 0
theorem mkD_txt9 (L : List Int) (n : Nat) : ∀ x ∈ mkD L n, x.t.size ≤ 900 := fun x hx => by
  have h1 := toks_txt (mk L true false)
  have h2 := (mk_ok L true false).txt
  have := txt_mem _ x (show x ∈ toks (mk L true false) from List.mem_of_mem_take hx)
  omega
/-- What a round of near has in hand. -/
structure NrR (w : World) (pn : Option Addr) (cn : Nat) (M : List Int) (p : Option Addr) (l : List It) (out : List It) (v : Value) (m : Nat) (W : World) : Prop where
  below : Below w.heap.size w W
  nums : NumsAt W w.heap.size pn cn M m
  own : OwnT (w.heap.size + 1) out v W
  its : Its W p l
  plo : 0 < M.length → ∀ a, pn = some a → a.block < w.heap.size
  ilo : 0 < l.length → ∀ a, p = some a → a.block < w.heap.size
section
variable {w W W' : World} {pn p : Option Addr} {cn m : Nat} {M : List Int} {l out : List It} {v : Value}
theorem NrR.lt (h : NrR w pn cn M p l out v m W) : w.heap.size < W.heap.size := h.nums.lt
theorem NrR.call (h : NrR w pn cn M p l out v m W) (hb : Below W.heap.size W W') : NrR w pn cn M p l out v m W' :=
  ⟨BelowOn h.below hb, h.nums.call hb, h.own.call hb, h.its.call hb, h.plo, h.ilo⟩
theorem NrR.alloc (h : NrR w pn cn M p l out v m W) (o : Obj) : NrR w pn cn M p l out v m (W.alloc o) := h.call (blw (Below.refl _ _) o)
theorem its_keepB {W W' : World} {p : Option Addr} {l : List It} {B : Nat} (h : Its W p l) (hlo : 0 < l.length → ∀ a, p = some a → a.block < B) (hs : W.heap.size ≤ W'.heap.size) (hb : ∀ k, k < B → W'.heap[k]? = W.heap[k]?) : Its W' p l := fun h0 => by
  obtain ⟨a, hp, hlt, hc⟩ := h h0
  have hk := hb _ (hlo h0 a hp)
  refine ⟨a, hp, Nat.lt_of_lt_of_le hlt hs, fun i hi => ?_⟩
  obtain ⟨c0, c1, c2⟩ := hc i hi
  refine ⟨?_, ?_, ?_⟩
  · rw [World.cell?_of_block (w := W) (w' := W') (a := a.add (i * 3)) (by rw [add_block]; exact hk)]; exact c0
  · rw [World.cell?_of_block (w := W) (w' := W') (a := a.add (i * 3 + 1)) (by rw [add_block]; exact hk)]; exact c1
  · rw [World.cell?_of_block (w := W) (w' := W') (a := a.add (i * 3 + 2)) (by rw [add_block]; exact hk)]; exact c2
theorem NrR.next (h : NrR w pn cn M p l out v m W) {m' : Nat} (hg : W.grownBy W' (some w.heap.size)) (hN : NumsAt W' w.heap.size pn cn M m') : NrR w pn cn M p l out v m' W' :=
  ⟨below_of_grow h.below hg h.below.size (Nat.le_refl _), hN, h.own.other hg (by omega),
    its_keepB h.its h.ilo hg.size (fun k hk => hg.block k (by have := h.lt; omega) (fun e => by injection e; omega)), h.plo, h.ilo⟩
theorem NrR.push (h : NrR w pn cn M p l out v m W) {out' : List It} {v' : Value} (hown : OwnT (w.heap.size + 1) out' v' W') (hb : Below (w.heap.size + 1) W W') : NrR w pn cn M p l out' v' m W' :=
  ⟨h.below.trans (hb.mono (by omega)), h.nums.keep hb.size (hb.block _ (by omega)) (fun h0 a ha => hb.block _ (by have := h.plo h0 a ha; omega)), hown,
    its_keepB h.its h.ilo hb.size (fun k hk => hb.block k (by omega)), h.plo, h.ilo⟩
theorem NrR.set (h : NrR w pn cn M p l out v m W) {g : Nat} (hg : w.heap.size < g) (hv : v.ownBlock ≠ some g) (i : Nat) (x : Value) : NrR w pn cn M p l out v m (W.setCell ⟨g, i, none⟩ x) := by
  have hgr := grow_cell W g i x
  have hk : ∀ k, k ≠ g → (W.setCell ⟨g, i, none⟩ x).heap[k]? = W.heap[k]? := fun k hk => Below.heap_setCell W ⟨g, i, none⟩ _ k hk
  have hs : (W.setCell ⟨g, i, none⟩ x).heap.size = W.heap.size := by simp [World.setCell]
  exact ⟨below_of_grow h.below hgr h.below.size (by omega), h.nums.keep (by omega) (hk _ (by omega)) (fun h0 a ha => hk _ (by have := h.plo h0 a ha; omega)),
    h.own.keepAt (fun k e => hk k (fun e2 => hv (by rw [← e2]; exact e))), its_keepB h.its h.ilo (by omega) (fun k hkk => hk k (by omega)), h.plo, h.ilo⟩
theorem NrR.start (pn : Option Addr) (cn : Nat) (M : List Int) (p : Option Addr) (l : List It) (w : World) (hM : Ones w (Value.int .i64) pn M) (wM : ∀ i (h : i < M.length), (Lit.int .i64 (M[i]'h)).wf = true) (hc : M.length ≤ cn) (hm : cn ≤ maxLen) (hl : Its w p l) :
    NrR w pn cn M p l [] (.slice none 0 0) 0 (w.alloc (.cells #[.slice pn M.length cn, .int .i64 0] 63)) := by
  have hb : Below w.heap.size w (w.alloc (.cells #[.slice pn M.length cn, .int .i64 0] 63)) := blw (Below.refl _ _) _
  exact ⟨hb, NumsAt.made hM wM hc hm, OwnL.nil _ _, hl.call hb, fun h0 => ones_any hM h0, fun h0 a ha => by
    obtain ⟨b, e, hlt, _⟩ := hl h0
    rw [ha] at e; injection e with e; subst e; exact hlt⟩
end
/-- A round's token lies in a variable. -/
structure NrV (w : World) (pn : Option Addr) (cn : Nat) (M : List Int) (p : Option Addr) (l : List It) (out : List It) (v : Value) (m g : Nat) (x : It) (W : World) : Prop where
  r : NrR w pn cn M p l out v m W
  va : Var3 W g x.k x.t x.id
  ne : v.ownBlock ≠ some g
  gl : w.heap.size < g
  fz : ∃ cur, W.heap[g]? = some (.cells cur 57 (0, 0))
section
variable {w W W' : World} {pn p : Option Addr} {cn m g : Nat} {M : List Int} {l out : List It} {v : Value} {x : It}
theorem NrR.vars (h : NrR w pn cn M p l out v m W) (x : It) : NrV w pn cn M p l out v m W.heap.size x (W.alloc (.cells #[.int .i64 x.k, .string x.t, .int .i64 x.id] 57)) :=
  ⟨h.alloc _, Var3.newT W x.k x.t x.id, fun e => by have := (h.own.lt _ e).2; omega, h.lt, ⟨_, heap_alloc_new W _⟩⟩
theorem NrV.call (h : NrV w pn cn M p l out v m g x W) (hb : Below W.heap.size W W') : NrV w pn cn M p l out v m g x W' := ⟨h.r.call hb, h.va.call hb, h.ne, h.gl, by obtain ⟨cur, hc⟩ := h.fz; exact ⟨cur, keep_heap hc hb⟩⟩
theorem NrV.next (h : NrV w pn cn M p l out v m g x W) {m' : Nat} (hg : W.grownBy W' (some w.heap.size)) (hN : NumsAt W' w.heap.size pn cn M m') : NrV w pn cn M p l out v m' g x W' :=
  ⟨h.r.next hg hN, h.va.other hg (by have := h.gl; omega), h.ne, h.gl, by obtain ⟨cur, hc⟩ := h.fz; exact ⟨cur, (hg.block g (heap_lt hc) (fun e => by injection e with e; have := h.gl; omega)).trans hc⟩⟩
theorem NrV.push (h : NrV w pn cn M p l out v m g x W) {out' : List It} {g' n c : Nat} (hown : OwnT (w.heap.size + 1) out' (.slice (some ⟨g', 0, none⟩) n c) W') (hgr : W.grownBy W' v.ownBlock) (hloc : v.ownBlock = some g' ∨ g' = W.heap.size) : NrV w pn cn M p l out' (.slice (some ⟨g', 0, none⟩) n c) m g x W' := by
  have hlt := h.va.lt
  have hb : Below (w.heap.size + 1) W W' := ⟨hgr.os, hgr.tape, hgr.output, hgr.size, fun k hk => hgr.block k (by have := h.r.lt; omega) (fun e => by have := (h.r.own.lt k e.symm).1; omega)⟩
  refine ⟨h.r.push hown hb, h.va.same (hgr.block g hlt (fun e => h.ne e.symm)) hgr.size, fun e => ?_, h.gl, by obtain ⟨cur, hc⟩ := h.fz; exact ⟨cur, (hgr.block g hlt (fun e => h.ne e.symm)).trans hc⟩⟩
  have e' : g' = g := by simpa [Value.ownBlock] using e
  subst e'
  rcases hloc with h1 | h1
  · exact h.ne h1
  · omega
theorem NrV.text (h : NrV w pn cn M p l out v m g x W) (s : ByteArray) : NrV w pn cn M p l out v m g ⟨x.k, s, x.id⟩ (W.setCell ⟨g, 1, none⟩ (.string s)) := by
  refine ⟨h.r.set h.gl h.ne 1 _, ⟨?_, ?_, ?_, ?_⟩, h.ne, h.gl, by obtain ⟨cur, hc⟩ := h.fz; exact ⟨_, setCell_at W g 1 cur _ _ hc⟩⟩
  · rw [World.cell?_setCell_other _ _ _ _ (fun e => by injection e with e1 e2; omega)]; exact h.va.c0
  · exact World.cell?_setCell_same _ _ _ h.va.c1
  · rw [World.cell?_setCell_other _ _ _ _ (fun e => by injection e with e1 e2; omega)]; exact h.va.c2
  · have := h.va.lt; simpa [World.setCell] using this
end
end Go.Proofs.Ytpkipdiecnokhaa
namespace Go.Proofs.Ytpkipdiecnokhaa
open Go.ChangeShapes Go.WideShapes Go.ChangeAt Go.RowKit Go.Sort
set_option linter.unusedVariables false
set_option linter.unusedSimpArgs false
set_option maxRecDepth 100000

set_option maxHeartbeats 6400000 in
theorem near_any (p pn : Option Addr) (c cn : Nat) (l : List It) (M : List Int) (w : World) (hR : Its w p l) (hc : l.length ≤ c) (hcm : c ≤ maxLen) (hM : Ones w (Value.int .i64) pn M) (wM : ∀ i (h : i < M.length), (Lit.int .i64 (M[i]'h)).wf = true) (hcn : M.length ≤ cn) (hcnm : cn ≤ maxLen) (hl : l.length ≤ 1000) (hx : ∀ x ∈ l, x.t.size ≤ 900) :
    Calls Try.prog 16 #[.slice p l.length c, .slice pn M.length cn] w (EndT (nearL M l) w) := by
  have hS := NrR.start pn cn M p l w hM wM hcn hcnm hR
  have HL := Lib.hid (nearL_len M)
  have HX := Lib.hid hx
  have HNX := Lib.hid (fun W k h hk => next_any w.heap.size pn cn M k 12 12 rfl W h hk (by omega) (by omega))
  clear hM wM hR hx
  unfold maxLen at hcm
  go_enter Try.func16, Try.ntmps16
  go_wp2_with fail
  generalize (w.alloc (.cells #[.slice pn M.length cn, .int .i64 0] 63)) = w1 at *
  go_loopw [6, 14] (fun v i wr => ∃ k : Nat, k ≤ l.length ∧ i = .int .i64 k ∧ NrR w pn cn M p l (nearL M (l.take k)) v k wr) (fun _ i _ => l.length - (intOf i).toNat)
  case atStart => exact ⟨0, Nat.zero_le _, rfl, by simpa [nearL, nearK] using hS⟩
  case round =>
    clear hS
    obtain ⟨k, hk, rfl, hN⟩ := hrel
    by_cases hlt : k < l.length
    · obtain ⟨ad, rfl, had, x0, x1, x2⟩ := hN.its.row k hlt
      have hnx := nearL_next M l k hlt
      have hol := HL.out (l.take k)
      have hxs := HX.out _ (List.getElem_mem hlt)
      have hV := hN.vars l[k]
      rw [List.length_take] at hol
      have hol2 : (nearL M (l.take k)).length ≤ 2000 := by omega
      have ik : (k : Int) < (l.length : Int) := by omega
      have hg : (nearS M k l[k]) = (if nx M k 12 = 0 then [] else if nx M k 12 = 1 then [blueT, l[k]] else if nx M k 12 = 2 then [sfxT l[k]] else if nx M k 12 = 3 then [l[k], l[k]] else [l[k]]) := rfl
      have HG := Lib.hid hg; have HO := Lib.hid hnx
      have hN3 := HNX.out _ k hV.r.nums (by omega)
      generalize nearL M (l.take k) = out at *
      generalize l[k] = X at *
      generalize nx M k 12 = N at *
      have HV := Lib.hid hV; have HN3 := Lib.hid hN3
      clear hN hg hnx hV hN3 hol
      go_wp2_with fail
      refine HN3.out.mono ?_; rintro e w2 ⟨rfl, hgr, hNu⟩
      have HV2 := Lib.hid (HV.out.next hgr hNu)
      clear HV HN3 hgr hNu x0 x1 x2 had
      generalize wr.heap.size = g at *
      by_cases z0 : N = 0
      · have q0 : ((N : Int) == 0) = true := by simp; omega
        have hv := HV2.out
        go_wp2_with fail
        go_roundw
        case rel => exact ⟨k + 1, hlt, by go_num, by rw [HO.out, HG.out]; rw [if_pos z0, List.append_nil]; exact hv.r⟩
        case measure => simp [intOf] <;> omega
      have q0 : ((N : Int) == 0) = false := by simp; omega
      by_cases z1 : N = 1
      · have q1 : ((N : Int) == 1) = true := by simp; omega
        have hv1 := HV2.out
        obtain ⟨c0, c1, c2, clt⟩ := id hv1.va
        have hnew := heap_alloc_new w2 (.cells #[.int .i64 6, .string ⟨#[98, 108, 117, 101]⟩, .int .i64 0] 57)
        have hbn : Below w2.heap.size w2 (w2.alloc (.cells #[.int .i64 6, .string ⟨#[98, 108, 117, 101]⟩, .int .i64 0] 57)) := blw (Below.refl _ _) _
        have hv1' := hv1.call hbn
        go_wp2_with (first
          | (at_builtin; refine wpl_app eT _ rfl _ _ rfl (w.heap.size + 1) out _ rfl hv1'.r.own (by have := hv1'.r.lt; omega) blueT _ _ rfl hnew rfl (by (try simp only [List.length_append, List.length_cons, List.length_nil]); omega) (by unfold maxLen; (try simp only [List.length_append, List.length_cons, List.length_nil]); omega) ?_; intro g1 cap1 w3 hown hgr hloc; have hv2 := hv1'.push hown hgr hloc; clear hown hgr hloc hnew hbn hv1' hv1 c0 c1 c2 clt; obtain ⟨c0, c1, c2, clt⟩ := id hv2.va; have hnew2 := heap_alloc_new w3 (.cells #[.int .i64 X.k, .string X.t, .int .i64 X.id] 57); have hbn2 : Below w3.heap.size w3 (w3.alloc (.cells #[.int .i64 X.k, .string X.t, .int .i64 X.id] 57)) := blw (Below.refl _ _) _; have hv2' := hv2.call hbn2)
          | (at_builtin; refine wpl_app eT _ rfl _ _ rfl (w.heap.size + 1) (out ++ [blueT]) _ rfl hv2'.r.own (by have := hv2'.r.lt; omega) X _ _ rfl hnew2 rfl (by (try simp only [List.length_append, List.length_cons, List.length_nil]); omega) (by unfold maxLen; (try simp only [List.length_append, List.length_cons, List.length_nil]); omega) ?_; intro g2 cap2 w4 hown hgr hloc))
        have HV4 := Lib.hid (hv2'.push hown hgr hloc)
        clear hown hgr hloc hv2' hbn2 hnew2 hv2 c0 c1 c2 clt
        have hv := HV4.out
        go_wp2_with fail
        go_roundw
        case rel => exact ⟨k + 1, hlt, by go_num, by rw [HO.out, HG.out]; rw [if_neg z0, if_pos z1]; exact (by simpa using hv.r)⟩
        case measure => simp [intOf] <;> omega
      have q1 : ((N : Int) == 1) = false := by simp; omega
      by_cases z2 : N = 2
      · have q2 : ((N : Int) == 2) = true := by simp; omega
        by_cases y : X.k = 6
        · have qk : (X.k == 6) = true := by simp [y]
          have hsz : ¬ 9223372036854775807 < X.t.size + 1 := by omega
          have hsx : sfxT X = ⟨X.k, X.t ++ ⟨#[115]⟩, X.id⟩ := by unfold sfxT; rw [if_pos y, y]
          have HSX := Lib.hid hsx
          clear hsx y
          have hv := HV2.out
          obtain ⟨d0, d1, d2, dl⟩ := id hv.va
          have fz : w2.frozen? ⟨g, 1, none⟩ = false := by obtain ⟨cur, hc⟩ := hv.fz; exact Lib.frozen_of_heap hc _
          have HV3 := Lib.hid (hv.text (X.t ++ ⟨#[115]⟩))
          clear hv
          go_upto_region 15 with (fail)
          generalize w2.setCell ⟨g, 1, none⟩ (.string (X.t ++ ⟨#[115]⟩)) = w3 at *
          clear d0 d1 d2 dl fz
          have hv2 := HV3.out
          obtain ⟨c0, c1, c2, cl⟩ := id hv2.va
          have hnew := heap_alloc_new w3 (.cells #[.int .i64 X.k, .string (X.t ++ ⟨#[115]⟩), .int .i64 X.id] 57)
          have hbn : Below w3.heap.size w3 (w3.alloc (.cells #[.int .i64 X.k, .string (X.t ++ ⟨#[115]⟩), .int .i64 X.id] 57)) := blw (Below.refl _ _) _
          have hv2' := hv2.call hbn
          go_wp2_with (at_builtin; refine wpl_app eT _ rfl _ _ rfl (w.heap.size + 1) out _ rfl hv2'.r.own (by have := hv2'.r.lt; omega) (⟨X.k, X.t ++ ⟨#[115]⟩, X.id⟩ : It) _ _ rfl hnew rfl (by (try simp only [List.length_append, List.length_cons, List.length_nil]); omega) (by unfold maxLen; (try simp only [List.length_append, List.length_cons, List.length_nil]); omega) ?_; intro g2 cap2 w4 hown hgr hloc)
          have HV4 := Lib.hid (hv2'.push hown hgr hloc)
          clear hown hgr hloc hv2' hbn hnew hv2 c0 c1 c2 cl
          have hv := HV4.out
          go_wp2_with fail
          go_roundw
          case rel => exact ⟨k + 1, hlt, by go_num, by rw [HO.out, HG.out]; rw [if_neg z0, if_neg z1, if_pos z2, HSX.out]; exact hv.r⟩
          case measure => simp [intOf] <;> omega
        · have qk : (X.k == 6) = false := by simp [y]
          have HSX := Lib.hid (show sfxT X = X by unfold sfxT; rw [if_neg y])
          clear y
          have hv2 := HV2.out
          obtain ⟨c0, c1, c2, cl⟩ := id hv2.va
          have hnew := heap_alloc_new w2 (.cells #[.int .i64 X.k, .string X.t, .int .i64 X.id] 57)
          have hbn : Below w2.heap.size w2 (w2.alloc (.cells #[.int .i64 X.k, .string X.t, .int .i64 X.id] 57)) := blw (Below.refl _ _) _
          have hv2' := hv2.call hbn
          go_wp2_with (at_builtin; refine wpl_app eT _ rfl _ _ rfl (w.heap.size + 1) out _ rfl hv2'.r.own (by have := hv2'.r.lt; omega) X _ _ rfl hnew rfl (by (try simp only [List.length_append, List.length_cons, List.length_nil]); omega) (by unfold maxLen; (try simp only [List.length_append, List.length_cons, List.length_nil]); omega) ?_; intro g2 cap2 w4 hown hgr hloc)
          have HV4 := Lib.hid (hv2'.push hown hgr hloc)
          clear hown hgr hloc hv2' hbn hnew hv2 c0 c1 c2 cl
          have hv := HV4.out
          go_wp2_with fail
          go_roundw
          case rel => exact ⟨k + 1, hlt, by go_num, by rw [HO.out, HG.out]; rw [if_neg z0, if_neg z1, if_pos z2, HSX.out]; exact hv.r⟩
          case measure => simp [intOf] <;> omega
      have q2 : ((N : Int) == 2) = false := by simp; omega
      by_cases z3 : N = 3
      · have q3 : ((N : Int) == 3) = true := by simp; omega
        have hv1 := HV2.out
        obtain ⟨c0, c1, c2, clt⟩ := id hv1.va
        have hnew := heap_alloc_new w2 (.cells #[.int .i64 X.k, .string X.t, .int .i64 X.id] 57)
        have hbn : Below w2.heap.size w2 (w2.alloc (.cells #[.int .i64 X.k, .string X.t, .int .i64 X.id] 57)) := blw (Below.refl _ _) _
        have hv1' := hv1.call hbn
        go_wp2_with (first
          | (at_builtin; refine wpl_app eT _ rfl _ _ rfl (w.heap.size + 1) out _ rfl hv1'.r.own (by have := hv1'.r.lt; omega) X _ _ rfl hnew rfl (by (try simp only [List.length_append, List.length_cons, List.length_nil]); omega) (by unfold maxLen; (try simp only [List.length_append, List.length_cons, List.length_nil]); omega) ?_; intro g1 cap1 w3 hown hgr hloc; have hv2 := hv1'.push hown hgr hloc; clear hown hgr hloc hnew hbn hv1' hv1 c0 c1 c2 clt; obtain ⟨c0, c1, c2, clt⟩ := id hv2.va; have hnew2 := heap_alloc_new w3 (.cells #[.int .i64 X.k, .string X.t, .int .i64 X.id] 57); have hbn2 : Below w3.heap.size w3 (w3.alloc (.cells #[.int .i64 X.k, .string X.t, .int .i64 X.id] 57)) := blw (Below.refl _ _) _; have hv2' := hv2.call hbn2)
          | (at_builtin; refine wpl_app eT _ rfl _ _ rfl (w.heap.size + 1) (out ++ [X]) _ rfl hv2'.r.own (by have := hv2'.r.lt; omega) X _ _ rfl hnew2 rfl (by (try simp only [List.length_append, List.length_cons, List.length_nil]); omega) (by unfold maxLen; (try simp only [List.length_append, List.length_cons, List.length_nil]); omega) ?_; intro g2 cap2 w4 hown hgr hloc))
        have HV4 := Lib.hid (hv2'.push hown hgr hloc)
        clear hown hgr hloc hv2' hbn2 hnew2 hv2 c0 c1 c2 clt
        have hv := HV4.out
        go_wp2_with fail
        go_roundw
        case rel => exact ⟨k + 1, hlt, by go_num, by rw [HO.out, HG.out]; rw [if_neg z0, if_neg z1, if_neg z2, if_pos z3]; exact (by simpa using hv.r)⟩
        case measure => simp [intOf] <;> omega
      have q3 : ((N : Int) == 3) = false := by simp; omega
      have hv2 := HV2.out
      obtain ⟨c0, c1, c2, cl⟩ := id hv2.va
      have hnew := heap_alloc_new w2 (.cells #[.int .i64 X.k, .string X.t, .int .i64 X.id] 57)
      have hbn : Below w2.heap.size w2 (w2.alloc (.cells #[.int .i64 X.k, .string X.t, .int .i64 X.id] 57)) := blw (Below.refl _ _) _
      have hv2' := hv2.call hbn
      go_wp2_with (at_builtin; refine wpl_app eT _ rfl _ _ rfl (w.heap.size + 1) out _ rfl hv2'.r.own (by have := hv2'.r.lt; omega) X _ _ rfl hnew rfl (by (try simp only [List.length_append, List.length_cons, List.length_nil]); omega) (by unfold maxLen; (try simp only [List.length_append, List.length_cons, List.length_nil]); omega) ?_; intro g2 cap2 w4 hown hgr hloc)
      have HV4 := Lib.hid (hv2'.push hown hgr hloc)
      clear hown hgr hloc hv2' hbn hnew hv2 c0 c1 c2 cl
      have hv := HV4.out
      go_wp2_with fail
      go_roundw
      case rel => exact ⟨k + 1, hlt, by go_num, by rw [HO.out, HG.out]; rw [if_neg z0, if_neg z1, if_neg z2, if_neg z3]; exact hv.r⟩
      case measure => simp [intOf] <;> omega
    · obtain rfl : k = l.length := by omega
      rw [List.take_length] at hN
      go_wp2_with fail
      go_ret
      exact ⟨_, rfl, ⟨hN.below, ownsRow_base hN.own (by omega)⟩⟩
end Go.Proofs.Ytpkipdiecnokhaa
namespace Go.Proofs.Ytpkipdiecnokhaa
open Go.ChangeShapes Go.WideShapes Go.ChangeAt Go.RowKit Go.Sort
set_option linter.unusedVariables false
set_option linter.unusedSimpArgs false
set_option maxRecDepth 100000

theorem allows_law (a0 a1 : Int) (w : World) (w0 : (Lit.int .i64 a0).wf = true) (w1 : (Lit.int .i64 a1).wf = true) :
    Calls Try.prog 4 #[.int .i64 a0, .int .i64 a1] w fun e w' => e = .returned (.bool true) ∧ Below w.heap.size w w' := by
  have P1 := Lib.hid (fun W => place_any a1 104 W (by omega) (by omega) w1)
  have P2 := Lib.hid (fun W => place_any a0 200 W (by omega) (by omega) w0)
  have HA := Lib.hid (fun t p W => allowed_any t p W)
  have HR := Lib.hid (fun t p W => rallowed_any t p W)
  go_enter Try.func4, Try.ntmps4
  go_wp2_with fail
  refine (P1.out _).mono ?_; rintro e w1 ⟨rfl, rfl⟩
  go_wp2_with fail
  refine (P2.out _).mono ?_; rintro e w1 ⟨rfl, rfl⟩
  clear P1 P2
  generalize a1 % 104 = q
  generalize a0 % 200 = t
  go_wp2_with fail
  refine (HA.out _ _ _).mono ?_; rintro e w1 ⟨rfl, rfl⟩
  go_wp2_with fail
  refine (HR.out _ _ _).mono ?_; rintro e w1 ⟨rfl, rfl⟩
  generalize alw a0 a1 = X
  go_wp2_with fail
  refine (HA.out _ _ _).mono ?_; rintro e w1 ⟨rfl, rfl⟩
  go_wp2_with fail
  refine (HR.out _ _ _).mono ?_; rintro e w1 ⟨rfl, rfl⟩
  generalize alw a0 q = Y
  go_wp2_with fail
  refine (HA.out _ _ _).mono ?_; rintro e w1 ⟨rfl, rfl⟩
  go_wp2_with fail
  refine (HR.out _ _ _).mono ?_; rintro e w1 ⟨rfl, rfl⟩
  generalize alw t q = Z
  go_wp2_with fail
  refine (sknown_any _).mono ?_; rintro e w1 ⟨rfl, hb⟩
  go_wp2_with fail
  go_ret
  exact ⟨rfl, hb⟩
theorem alw_in (t p : Int) (h1 : 1 ≤ t) (h2 : t ≤ 1073741824) (h3 : 1 ≤ p) (h4 : p ≤ 100) : alw t p = t * (100 - p) / 100 := by
  unfold alw; rw [if_neg (by omega), if_neg (by omega), show min t 1073741824 = t by omega]
theorem alw_over (t p : Int) (h : 100 < p) : alw t p = -1 := if_pos h
theorem mono_facts (t p k : Int) (h1 : 1 ≤ t) (h2 : t ≤ 5000) (h3 : 1 ≤ p) (h4 : p ≤ 100) (h5 : 0 ≤ k) (h6 : k ≤ 99) : alw t (p + k) ≤ alw t p ∧ alw t p ≤ alw (t + k) p ∧ alw t 100 = 0 ∧ alw t p ≤ t ∧ 0 ≤ alw t p := by
  have e1 := alw_in t p h1 (by omega) h3 h4
  have b1 : 0 ≤ t * (100 - p) := Int.mul_nonneg (by omega) (by omega)
  refine ⟨?_, ?_, ?_, ?_, ?_⟩
  · by_cases h : 100 < p + k
    · rw [alw_over t _ h, e1]; omega
    · rw [alw_in t (p + k) h1 (by omega) (by omega) (by omega), e1]
      have : t * (100 - (p + k)) ≤ t * (100 - p) := Int.mul_le_mul_of_nonneg_left (by omega) (by omega)
      omega
  · rw [e1, alw_in (t + k) p (by omega) (by omega) h3 h4]
    have : t * (100 - p) ≤ (t + k) * (100 - p) := Int.mul_le_mul_of_nonneg_right (by omega) (by omega)
    omega
  · rw [alw_in t 100 h1 (by omega) (by omega) (by omega)]; simp
  · rw [e1]
    have : t * (100 - p) ≤ t * 100 := Int.mul_le_mul_of_nonneg_left (by omega) (by omega)
    omega
  · rw [e1]; omega
theorem monotone_law (a0 a1 a2 : Int) (w : World) (w0 : (Lit.int .i64 a0).wf = true) (w1 : (Lit.int .i64 a1).wf = true) (w2 : (Lit.int .i64 a2).wf = true) :
    Calls Try.prog 7 #[.int .i64 a0, .int .i64 a1, .int .i64 a2] w fun e w' => e = .returned (.bool true) ∧ Below w.heap.size w w' := by
  have P0 := Lib.hid (fun W => place_any a0 5000 W (by omega) (by omega) w0)
  have P1 := Lib.hid (fun W => place_any a1 100 W (by omega) (by omega) w1)
  have P2 := Lib.hid (fun W => place_any a2 100 W (by omega) (by omega) w2)
  have HA := Lib.hid (fun t p W => allowed_any t p W)
  have r0 : 0 ≤ a0 % 5000 ∧ a0 % 5000 < 5000 := by omega
  have r1 : 0 ≤ a1 % 100 ∧ a1 % 100 < 100 := by omega
  have r2 : 0 ≤ a2 % 100 ∧ a2 % 100 < 100 := by omega
  have hf := mono_facts (1 + a0 % 5000) (1 + a1 % 100) (a2 % 100) (by omega) (by omega) (by omega) (by omega) (by omega) (by omega)
  generalize a0 % 5000 = T at *
  generalize a1 % 100 = P at *
  generalize a2 % 100 = K at *
  have e1 : IntKind.i64.wrap (1 + T) = 1 + T := IntWalk.i64_in _ ⟨by omega, by omega⟩
  have e2 : IntKind.i64.wrap (1 + P) = 1 + P := IntWalk.i64_in _ ⟨by omega, by omega⟩
  have e3 : IntKind.i64.wrap (1 + P + K) = 1 + P + K := IntWalk.i64_in _ ⟨by omega, by omega⟩
  have e4 : IntKind.i64.wrap (1 + T + K) = 1 + T + K := IntWalk.i64_in _ ⟨by omega, by omega⟩
  obtain ⟨f1, f2, f3, f4, f5⟩ := hf
  have H3 := Lib.hid f3
  clear f3
  go_enter Try.func7, Try.ntmps7
  go_wp2_with fail
  refine (P0.out _).mono ?_; rintro e w1 ⟨rfl, rfl⟩
  go_wp2_with fail
  refine (P1.out _).mono ?_; rintro e w1 ⟨rfl, rfl⟩
  go_wp2_with fail
  refine (P2.out _).mono ?_; rintro e w1 ⟨rfl, rfl⟩
  clear P0 P1 P2
  go_wp2_with fail
  refine (HA.out _ _ _).mono ?_; rintro e w1 ⟨rfl, rfl⟩
  go_wp2_with fail
  refine (HA.out _ _ _).mono ?_; rintro e w1 ⟨rfl, rfl⟩
  have q1 : decide (alw (1 + T) (1 + P + K) ≤ alw (1 + T) (1 + P)) = true := decide_eq_true f1
  go_wp2_with fail
  refine (HA.out _ _ _).mono ?_; rintro e w1 ⟨rfl, rfl⟩
  go_wp2_with fail
  refine (HA.out _ _ _).mono ?_; rintro e w1 ⟨rfl, rfl⟩
  have q2 : decide (alw (1 + T) (1 + P) ≤ alw (1 + T + K) (1 + P)) = true := decide_eq_true f2
  go_wp2_with fail
  refine (HA.out _ _ _).mono ?_; rintro e w1 ⟨rfl, rfl⟩
  have q3 : ((alw (1 + T) 100) == 0) = true := by rw [H3.out]; rfl
  go_wp2_with fail
  refine (HA.out _ _ _).mono ?_; rintro e w1 ⟨rfl, rfl⟩
  have q4 : decide (alw (1 + T) (1 + P) ≤ 1 + T) = true := decide_eq_true f4
  go_wp2_with fail
  refine (sknown_any _).mono ?_; rintro e w1 ⟨rfl, hb⟩
  go_wp2_with fail
  go_ret
  exact ⟨rfl, hb⟩
end Go.Proofs.Ytpkipdiecnokhaa
namespace Go.Proofs.Ytpkipdiecnokhaa
open Go.ChangeShapes Go.WideShapes Go.ChangeAt Go.RowKit Go.Sort
set_option linter.unusedVariables false
set_option linter.unusedSimpArgs false
set_option maxRecDepth 100000

def smlB (l : List It) : Bool := decide (l.length ≤ 12) && decide (txtI l ≤ 300)
theorem small13_any (p : Option Addr) (cap : Nat) (l : List It) (w : World) (hR : Its w p l) (hO : Oks l) (hc : l.length ≤ cap) (hm : cap ≤ maxLen) :
    Calls Try.prog 13 #[.slice p l.length cap, .int .i64 12] w fun e w' => e = .returned (.bool (smlB l)) ∧ w = w' := by
  unfold maxLen at hm
  have hsum : l.length ≤ 12 → ∀ k, k ≤ l.length → txtI (l.take k) ≤ k * 140737488355328 := fun h60 k => by
    intro hk
    induction k with
    | zero => simp [txtI]
    | succ j ih =>
      rw [txtI_next l j (by omega)]
      have := ih (by omega)
      have h1 := (hO j (by omega)).t
      omega
  have HS := Lib.hid hsum; clear hsum
  go_enter Try.func13, Try.ntmps13
  go_wp2_with fail
  go_loop [5, 9] (fun v i => ∃ k : Nat, ∃ z : Int, k ≤ l.length ∧ i = .int .i64 k ∧ v = .int .i64 z ∧ Hid (l.length ≤ 12 → z = txtI (l.take k))) (fun _ i => l.length - (intOf i).toNat)
  case atStart => exact ⟨0, 0, Nat.zero_le _, rfl, rfl, Lib.hid (fun _ => rfl)⟩
  case round =>
    obtain ⟨k, z, hk, rfl, rfl, HZ⟩ := hrel
    by_cases hlt : k < l.length
    · obtain ⟨a, rfl, ha, c0, c1, c2⟩ := hR.row k hlt
      have hn := txtI_next l k hlt
      have HN := Lib.hid hn; clear hn
      have ik : (k : Int) < (l.length : Int) := by omega
      go_wp2_with fail
      go_round
      case rel =>
        refine ⟨k + 1, _, hlt, by go_num, rfl, Lib.hid (fun h60 => ?_)⟩
        have b := HS.out h60 (k + 1) hlt
        rw [HN.out] at b ⊢
        rw [HZ.out h60]
        unfold wrap64
        omega
      case measure => simp [intOf] <;> omega
    · obtain rfl : k = l.length := by omega
      rw [List.take_length] at HZ
      by_cases h60 : l.length ≤ 12
      · have hz := HZ.out h60
        go_wp2_with fail
        go_ret
        exact ⟨ret_bool (by unfold smlB; rw [Bool.eq_iff_iff]; simp [h60]; omega), rfl⟩
      · go_wp2_with fail
        go_ret
        exact ⟨ret_bool (by unfold smlB; simp [h60]), rfl⟩
theorem dr_small {W : World} {p : Option Addr} {c : Nat} {A : List It} (hI : Its W p A) (hc : A.length ≤ c) (hm : c ≤ maxLen) (hs : smlB A = true) : Dr W p c A := by
  unfold smlB at hs
  rw [Bool.and_eq_true, decide_eq_true_eq, decide_eq_true_eq] at hs
  exact ⟨hI, hc, hm, by omega, fun x hx => by have := txt_mem _ x hx; omega⟩
theorem Dr.percent {W : World} {p q : Option Addr} {c d : Nat} {A B : List It} (h : Dr W p c A) (k : Dr W q d B) : Calls Try.prog 17 #[.slice p A.length c, .slice q B.length d] W fun e w' => e = .returned (.int .i64 (pct A B : Nat)) ∧ Below W.heap.size W w' :=
  percent_any p q c d A B W h.its k.its h.le k.le h.cm k.cm (Nat.le_trans h.len (by omega)) (Nat.le_trans k.len (by omega)) h.txt k.txt (Nat.le_trans (dis_small A B h.len k.len) (by omega))
theorem Dr.rpercent {W : World} {p q : Option Addr} {c d : Nat} {A B : List It} (h : Dr W p c A) (k : Dr W q d B) : Calls Try.prog 18 #[.slice p A.length c, .slice q B.length d] W fun e w' => e = .returned (.int .i64 (pct A B : Nat)) ∧ Below W.heap.size W w' :=
  rpercent_any p q c d A B W h.its k.its h.le k.le h.cm k.cm (Nat.le_trans h.len (by omega)) (Nat.le_trans k.len (by omega)) h.txt k.txt (Nat.le_trans (dis_small A B h.len k.len) (by omega))
theorem Dr.total {W : World} {p q : Option Addr} {c d : Nat} {A B : List It} (h : Dr W p c A) (k : Dr W q d B) : Calls Try.prog 19 #[.slice p A.length c, .slice q B.length d] W fun e w' => e = .returned (.int .i64 (tot A B : Nat)) ∧ Below W.heap.size W w' :=
  total_both p q c d A B W h.its k.its h.le k.le h.cm k.cm (Nat.le_trans h.len (by omega)) (Nat.le_trans k.len (by omega))
theorem Dr.rboth {W : World} {p q : Option Addr} {c d : Nat} {A B : List It} (h : Dr W p c A) (k : Dr W q d B) : Calls Try.prog 20 #[.slice p A.length c, .slice q B.length d] W fun e w' => e = .returned (.int .i64 (tot A B : Nat)) ∧ Below W.heap.size W w' :=
  rboth_any p q c d A B W h.its k.its h.le k.le h.cm k.cm (Nat.le_trans h.len (by omega)) (Nat.le_trans k.len (by omega))
theorem Dr.rdist {W : World} {p q : Option Addr} {c d : Nat} {A B : List It} (h : Dr W p c A) (k : Dr W q d B) : Calls Try.prog 24 #[.slice p A.length c, .slice q B.length d] W fun e w' => e = .returned (.int .i64 (dis A B : Nat)) ∧ Below W.heap.size W w' :=
  rdistance_any p q c d A B W h.its k.its h.le k.le h.cm k.cm (Nat.le_trans h.len (by omega)) (Nat.le_trans k.len (by omega)) h.txt k.txt
theorem dr_near {w w' : World} {M : List Int} {l : List It} (hl : l.length ≤ 16) (hx : ∀ x ∈ l, x.t.size ≤ 900) {e : Ending} (h : EndT (nearL M l) w e w') : ∃ p c, e = .returned (.slice p (nearL M l).length c) ∧ Dr w' p c (nearL M l) ∧ Below w.heap.size w w' := by
  obtain ⟨p, c, he, h1, h2, h3, h4⟩ := h.f
  exact ⟨p, c, he, ⟨h3, h1, h2, Nat.le_trans (nearL_len M l) (by omega), nearL_txt M l hx⟩, h4⟩
theorem wtL_zero (l : List It) (h : kindV l) (hz : wtL l = 0) : l = [] := by
  cases l with
  | nil => rfl
  | cons x l =>
    have hx := h x (List.mem_cons_self ..)
    have e : wtL (x :: l) = wtT x.k + wtL l := by unfold wtL; simp
    have : 0 < wtT x.k := by
      unfold wtT; obtain ⟨h1, h2⟩ := hx
      repeat' split
      all_goals omega
    omega
theorem tot_zero (a b : List It) (ha : kindV a) (hb : kindV b) (h : tot a b = 0) : a = [] ∧ b = [] := by
  unfold tot at h
  exact ⟨wtL_zero a ha (by omega), wtL_zero b hb (by omega)⟩
theorem dis_empty : dis [] [] = 0 := by decide +kernel
theorem pct_whole (a b : List It) (ha : kindV a) (hb : kindV b) : pct a b = 100 ↔ dis a b = 0 := by
  unfold pct pcN
  by_cases hz : tot a b = 0
  · obtain ⟨rfl, rfl⟩ := tot_zero a b ha hb hz
    rw [if_pos hz, dis_empty]; simp
  · rw [if_neg hz]
    generalize tot a b = T at *
    generalize dis a b = D at *
    constructor
    · intro h
      rcases Nat.eq_zero_or_pos D with h0 | h0
      · exact h0
      · have h1 : 100 * (T - D) < 100 * T := by omega
        have h2 := Nat.div_lt_of_lt_mul (show 100 * (T - D) < T * 100 by omega)
        omega
    · intro h; subst h; rw [Nat.sub_zero, Nat.mul_div_cancel _ (by omega)]
theorem pct_reach (a b : List It) (ha : kindV a) (hb : kindV b) (hT : tot a b ≤ 400000) (p : Int) (h1 : 1 ≤ p) (h2 : p ≤ 100) : decide (p ≤ ((pct a b : Nat) : Int)) = decide (((dis a b : Nat) : Int) ≤ alw ((tot a b : Nat) : Int) p) := by
  rw [Bool.eq_iff_iff, decide_eq_true_eq, decide_eq_true_eq]
  unfold pct pcN
  by_cases hz : tot a b = 0
  · obtain ⟨rfl, rfl⟩ := tot_zero a b ha hb hz
    rw [if_pos hz, dis_empty]
    have : alw ((tot [] [] : Nat) : Int) p = 1073741824 := by unfold alw; rw [if_neg (by omega), if_pos (.inr (by rw [hz]; decide))]
    rw [this]; omega
  · rw [if_neg hz]
    generalize tot a b = T at *
    generalize dis a b = D at *
    have e := alw_in (T : Int) p (by omega) (by omega) h1 h2
    rw [e]
    obtain ⟨q, rfl⟩ : ∃ q : Nat, p = q := ⟨p.toNat, by omega⟩
    have e1 : ((T : Int) * (100 - (q : Int))) = ((T * (100 - q) : Nat) : Int) := by push_cast; rw [Int.natCast_sub (by omega)]; rfl
    rw [e1]
    have e2 : (q : Int) ≤ ((100 * (T - D) / T : Nat) : Int) ↔ q * T ≤ 100 * (T - D) := by
      rw [Int.ofNat_le]; exact Nat.le_div_iff_mul_le (by omega)
    have e3 : (D : Int) ≤ ((T * (100 - q) : Nat) : Int) / 100 ↔ D * 100 ≤ T * (100 - q) := by
      have : ((T * (100 - q) : Nat) : Int) / 100 = ((T * (100 - q) / 100 : Nat) : Int) := by push_cast; rfl
      rw [this, Int.ofNat_le]; exact Nat.le_div_iff_mul_le (by omega)
    rw [e2, e3]
    have e4 : T * (100 - q) = 100 * T - q * T := by rw [Nat.mul_sub, Nat.mul_comm T 100, Nat.mul_comm T q]
    have e5 : q * T ≤ 100 * T := Nat.mul_le_mul_right T (by omega)
    have e6 : T ≤ q * T := Nat.le_mul_of_pos_left T (by omega)
    rw [e4]
    omega
end Go.Proofs.Ytpkipdiecnokhaa
namespace Go.Proofs.Ytpkipdiecnokhaa
open Go.ChangeShapes Go.WideShapes Go.ChangeAt Go.RowKit Go.Sort
set_option linter.unusedVariables false
set_option linter.unusedSimpArgs false
set_option maxRecDepth 100000

set_option maxHeartbeats 6400000 in
theorem price_any (p q r : Option Addr) (c d f : Nat) (a b : List It) (S : List Ed) (w : World) (hA : Its w p a) (hB : Its w q b) (hS : Eds w r S) (hc : a.length ≤ c) (hd : b.length ≤ d) (hf : S.length ≤ f) (hcm : c ≤ maxLen) (hdm : d ≤ maxLen) (hfm : f ≤ maxLen) (ha : a.length ≤ 100000) (hb : b.length ≤ 100000) (hs : S.length ≤ 1000000) (ta : txtsB a) (tb : txtsB b) :
    Calls Try.prog 29 #[.slice p a.length c, .slice q b.length d, .slice r S.length f] w fun e w' => e = .returned (.tuple #[.int .i64 (prO a b S : Nat), .bool (prB a b S)]) ∧ Below w.heap.size w w' := by
  have h1 := fun W hA hB => surplus_any p q c d a b W hA hB hc hd hcm hdm ha hb ta tb
  have hsl := sur_le a b
  have hsl2 : 2 * sur a b ≤ 80000000000 := by
    have : (a.length + b.length) * (a.length + b.length) ≤ 200000 * 200000 := Nat.mul_le_mul (by omega) (by omega)
    omega
  have hcost := fun x y W hx hy => dcost_any x y W hx hy
  have hstp := fun k t id W => step_any k t id W
  have HNONE := Lib.hid (fun h => prc_none (a := a) (b := b) (S := S) h)
  have HSHORT := Lib.hid (fun i j u h hs => prc_short (a := a) (b := b) (S := S) (i := i) (j := j) (u := u) h hs)
  have HSOME := Lib.hid (fun i j u h hs => prc_some (a := a) (b := b) (S := S) (i := i) (j := j) (u := u) h hs)
  unfold maxLen at hcm hdm hfm
  generalize 2 * sur a b = U at *
  have H1 := Lib.hid h1; have HC := Lib.hid hcost; have HT := Lib.hid hstp
  clear h1 hsl hcost hstp
  have HTA := Lib.hid ta; have HTB := Lib.hid tb
  clear ta tb
  go_enter Try.func29, Try.ntmps29
  go_wp2_with fail
  refine (H1.out _ hA hB).mono ?_; rintro e w1 ⟨rfl, hb1⟩
  clear H1
  go_wp2_with fail
  go_loopw [8, 9, 10, 22] (fun u i j n wr => ∃ k i' j' u' : Nat, k ≤ S.length ∧ n = .int .i64 k ∧ u = .int .i64 ((U : Int) + (u' : Int)) ∧ i = .int .i64 i' ∧ j = .int .i64 j' ∧ i' ≤ a.length ∧ j' ≤ b.length ∧ u' ≤ 4 * k ∧ prRun a b S 0 0 0 = prRun a b (S.drop k) i' j' u' ∧ Below w.heap.size w wr) (fun _ _ _ n _ => S.length - (intOf n).toNat)
  case atStart => exact ⟨0, 0, 0, 0, Nat.zero_le _, rfl, by simp, rfl, rfl, Nat.zero_le _, Nat.zero_le _, Nat.zero_le _, rfl, hb1⟩
  case round =>
    obtain ⟨k, i, j, u, hk, rfl, rfl, rfl, rfl, hi, hj, hu, hR, hB1⟩ := hrel
    by_cases hlt : k < S.length
    · obtain ⟨br, or, rfl, hbr, hps⟩ := (hS.call hB1) (by omega)
      have c0 : wr.cell? ⟨br, or + k * 2, none⟩ = some (.int .i64 (S[k]).a) := (hps k hlt) 0 _ rfl
      have c1 := (hps k hlt) 1 _ rfl
      have hdr := prRun_drop a b S k i j u hlt
      rw [hdr] at hR
      have HR := Lib.hid hR
      have hAr := Lib.hid (hA.call hB1)
      have hBr := Lib.hid (hB.call hB1)
      have HB1 := Lib.hid hB1
      generalize S[k] = E at *
      clear hdr hR hps hB1
      have hv0 := heap_alloc_new wr (.cells #[.int .i64 E.a, .int .i64 E.b] 45)
      have hbv : Below wr.heap.size wr (wr.alloc (.cells #[.int .i64 E.a, .int .i64 E.b] 45)) := blw (Below.refl _ _) _
      have ik : (k : Int) < (S.length : Int) := by omega
      go_wp2_with fail
      have hw1 := BelowOn HB1.out hbv
      have hA1 := hAr.out.call hbv
      have hB1 := hBr.out.call hbv
      generalize (wr.alloc (.cells #[.int .i64 E.a, .int .i64 E.b] 45)) = v1 at *
      have d0 : v1.cell? ⟨wr.heap.size, 0, none⟩ = some (.int .i64 E.a) := by rw [Lib.cell_of_heap hv0]; rfl
      have d1 : v1.cell? ⟨wr.heap.size, 1, none⟩ = some (.int .i64 E.b) := by rw [Lib.cell_of_heap hv0]; rfl
      generalize wr.heap.size = g at *
      clear c0 c1 hv0 hbv hAr hBr HB1 hbr
      have HX := Lib.hid (And.intro hw1 (And.intro hA1 hB1))
      clear hw1 hA1 hB1
      by_cases A1 : (i : Int) < (a.length : Int)
      · by_cases A2 : E.a = (i : Int)
        · skip
          by_cases B1 : (j : Int) < (b.length : Int)
          · by_cases B2 : E.b = (j : Int)
            · have A1n : i < a.length := by omega
              rw [A2] at d0
              have B1n : j < b.length := by omega
              rw [B2] at d1
              have r0 := cell_regrown d0; have r1 := cell_regrown d1
              refine wp_region_quiet_below (by kernel_rfl) (by kernel_rfl) ?_
              repeat (go_big_quiet_step (fail))
              refine wpQuiet_nil ?_
              intro _ hw'
              obtain ⟨⟨dq, osq⟩, hw''⟩ := hw'
              subst hw''
              have hb2 := below_regrown v1 dq osq
              have k0 := r0 dq osq; have k1 := r1 dq osq
              generalize grow (redrawn v1 dq) osq = v2 at *
              clear r0 r1 d0 d1
              have hw2 := BelowOn HX.out.1 hb2
              have hA2 := HX.out.2.1.call hb2
              have hB2 := HX.out.2.2.call hb2
              clear hb2 HX
              have hst := pr_pair (a := a) (b := b) (u := u) A1n A2 B1n B2
              obtain ⟨ad, rfl, had, x0, x1, x2⟩ := hA2.row i A1n
              obtain ⟨bd, rfl, hbd, y0, y1, y2⟩ := hB2.row j B1n
              have hcc := fun W => HC.out a[i] b[j] W (HTA.out _ (List.getElem_mem A1n)) (HTB.out _ (List.getElem_mem B1n))
              have hR := HR.out
              rw [hst] at hR
              have s4 := cst_le4 a[i] b[j]
              have hcO : okP a[i] b[j] = true → cO a[i] b[j] = cst a[i] b[j] := fun h => by unfold cO; rw [if_pos h]
              generalize a[i] = X at *
              generalize b[j] = Y at *
              have HCC := Lib.hid hcc
              have HW0 := Lib.hid hw2
              clear hcc hst HR hw2 hA2 hB2 k0 k1
              cases hok : okP X Y with
              | false =>
                rw [if_neg (by rw [hok]; simp)] at hR
                simp only at hR
                obtain ⟨ee1, ee2⟩ := HNONE.out hR
                have HE := Lib.hid (And.intro ee1 ee2)
                clear ee1 ee2 hcO
                rw [hok] at HCC; clear hR
                go_wp2_with fail
                have q0 := cell_regrown x0; have q1 := cell_regrown x1; have q2 := cell_regrown x2; have q3 := cell_regrown y0; have q4 := cell_regrown y1; have q5 := cell_regrown y2
                have e1 := fun d os => Calls.regrown_of (HCC.out (grow (redrawn v2 d) os))
                refine wp_region_quiet_below (by kernel_rfl) (by kernel_rfl) ?_
                repeat (go_big_quiet_step (exact e1 _ _))
                refine wpQuiet_nil ?_
                intro _ hw'
                obtain ⟨⟨dq, osq⟩, hw''⟩ := hw'
                subst hw''
                have hb3 := below_regrown v2 dq osq
                generalize grow (redrawn v2 dq) osq = v3 at *
                clear q0 q1 q2 q3 q4 q5 e1 x0 x1 x2 y0 y1 y2
                have HW := Lib.hid (BelowOn HW0.out hb3)
                clear hb3 HCC HW0
                go_wp2_with fail
                go_ret2
                exact ⟨by rw [HE.out.1, HE.out.2]; rfl, HW.out⟩
              | true =>
                rw [if_pos hok] at hR
                simp only at hR
                have hcO2 := hcO hok
                rw [hcO2] at HCC
                have HR2 := Lib.hid hR
                generalize cst X Y = T at *
                clear hR hcO hcO2
                rw [hok] at HCC
                go_wp2_with fail
                have q0 := cell_regrown x0; have q1 := cell_regrown x1; have q2 := cell_regrown x2; have q3 := cell_regrown y0; have q4 := cell_regrown y1; have q5 := cell_regrown y2
                have e1 := fun d os => Calls.regrown_of (HCC.out (grow (redrawn v2 d) os))
                refine wp_region_quiet_below (by kernel_rfl) (by kernel_rfl) ?_
                repeat (go_big_quiet_step (exact e1 _ _))
                refine wpQuiet_nil ?_
                intro _ hw'
                obtain ⟨⟨dq, osq⟩, hw''⟩ := hw'
                subst hw''
                have hb3 := below_regrown v2 dq osq
                generalize grow (redrawn v2 dq) osq = v3 at *
                clear q0 q1 q2 q3 q4 q5 e1 x0 x1 x2 y0 y1 y2
                have HW := Lib.hid (BelowOn HW0.out hb3)
                clear hb3 HCC HW0
                go_wp2_with fail
                go_roundw
                case rel => exact ⟨k + 1, i + 1, j + 1, u + T, hlt, by go_num, by simp [Int.add_assoc], by go_num, by go_num, by omega, by omega, by omega, HR2.out, HW.out⟩
                case measure => simp [intOf]; omega
            · have A1n : i < a.length := by omega
              rw [A2] at d0
              have r0 := cell_regrown d0; have r1 := cell_regrown d1
              refine wp_region_quiet_below (by kernel_rfl) (by kernel_rfl) ?_
              repeat (go_big_quiet_step (fail))
              refine wpQuiet_nil ?_
              intro _ hw'
              obtain ⟨⟨dq, osq⟩, hw''⟩ := hw'
              subst hw''
              have hb2 := below_regrown v1 dq osq
              have k0 := r0 dq osq; have k1 := r1 dq osq
              generalize grow (redrawn v1 dq) osq = v2 at *
              clear r0 r1 d0 d1
              have hw2 := BelowOn HX.out.1 hb2
              have hA2 := HX.out.2.1.call hb2
              have hB2 := HX.out.2.2.call hb2
              clear hb2 HX
              have hst := pr_del (a := a) (b := b) (u := u) A1n A2 (fun h => B2 h.2)
              by_cases hC : E.b = -1
              · rw [hC] at k1
                have hR := HR.out
                rw [hst, if_pos hC] at hR
                simp only at hR
                obtain ⟨ad, rfl, had, x0, x1, x2⟩ := hA2.row i A1n
                have hs := HT.out (a[i]).k (a[i]).t (a[i]).id v2
                have s4 := stp_le4 a[i]
                have hee : stp ⟨(a[i]).k, (a[i]).t, (a[i]).id⟩ = stp a[i] := rfl
                rw [hee] at hs
                have HS1 := Lib.hid hs
                have HR2 := Lib.hid hR
                have HW0 := Lib.hid hw2
                generalize stp a[i] = T at *
                clear hs hR HR hst hee hw2 hA2 hB2
                go_wp2_with fail
                refine HS1.out.mono ?_; rintro e v3 ⟨rfl, hb3⟩
                have HW := Lib.hid (BelowOn HW0.out hb3)
                clear hb3 HS1 HW0 x0 x1 x2 had k0 k1
                go_wp2_with fail
                go_roundw
                case rel => exact ⟨k + 1, i + 1, j, u + T, hlt, by go_num, by simp [Int.add_assoc], by go_num, by go_num, by omega, by omega, by omega, HR2.out, HW.out⟩
                case measure => simp [intOf]; omega
              · have hst2 : prStep a b E i j u = none := by rw [hst, if_neg hC]
                have hR := HR.out
                rw [hst2] at hR
                simp only at hR
                obtain ⟨e1, e2⟩ := HNONE.out hR
                have HE := Lib.hid (And.intro e1 e2)
                have HW := Lib.hid hw2
                clear e1 e2 hR HR hw2 hA2 hB2
                go_wp2_with fail
                go_ret2
                exact ⟨by rw [HE.out.1, HE.out.2]; rfl, HW.out⟩
          · have A1n : i < a.length := by omega
            rw [A2] at d0
            have r0 := cell_regrown d0; have r1 := cell_regrown d1
            refine wp_region_quiet_below (by kernel_rfl) (by kernel_rfl) ?_
            repeat (go_big_quiet_step (fail))
            refine wpQuiet_nil ?_
            intro _ hw'
            obtain ⟨⟨dq, osq⟩, hw''⟩ := hw'
            subst hw''
            have hb2 := below_regrown v1 dq osq
            have k0 := r0 dq osq; have k1 := r1 dq osq
            generalize grow (redrawn v1 dq) osq = v2 at *
            clear r0 r1 d0 d1
            have hw2 := BelowOn HX.out.1 hb2
            have hA2 := HX.out.2.1.call hb2
            have hB2 := HX.out.2.2.call hb2
            clear hb2 HX
            have hst := pr_del (a := a) (b := b) (u := u) A1n A2 (fun h => B1 (Int.ofNat_lt.2 h.1))
            by_cases hC : E.b = -1
            · rw [hC] at k1
              have hR := HR.out
              rw [hst, if_pos hC] at hR
              simp only at hR
              obtain ⟨ad, rfl, had, x0, x1, x2⟩ := hA2.row i A1n
              have hs := HT.out (a[i]).k (a[i]).t (a[i]).id v2
              have s4 := stp_le4 a[i]
              have hee : stp ⟨(a[i]).k, (a[i]).t, (a[i]).id⟩ = stp a[i] := rfl
              rw [hee] at hs
              have HS1 := Lib.hid hs
              have HR2 := Lib.hid hR
              have HW0 := Lib.hid hw2
              generalize stp a[i] = T at *
              clear hs hR HR hst hee hw2 hA2 hB2
              go_wp2_with fail
              refine HS1.out.mono ?_; rintro e v3 ⟨rfl, hb3⟩
              have HW := Lib.hid (BelowOn HW0.out hb3)
              clear hb3 HS1 HW0 x0 x1 x2 had k0 k1
              go_wp2_with fail
              go_roundw
              case rel => exact ⟨k + 1, i + 1, j, u + T, hlt, by go_num, by simp [Int.add_assoc], by go_num, by go_num, by omega, by omega, by omega, HR2.out, HW.out⟩
              case measure => simp [intOf]; omega
            · have hst2 : prStep a b E i j u = none := by rw [hst, if_neg hC]
              have hR := HR.out
              rw [hst2] at hR
              simp only at hR
              obtain ⟨e1, e2⟩ := HNONE.out hR
              have HE := Lib.hid (And.intro e1 e2)
              have HW := Lib.hid hw2
              clear e1 e2 hR HR hw2 hA2 hB2
              go_wp2_with fail
              go_ret2
              exact ⟨by rw [HE.out.1, HE.out.2]; rfl, HW.out⟩
        · skip
          by_cases B1 : (j : Int) < (b.length : Int)
          · by_cases B2 : E.b = (j : Int)
            · have B1n : j < b.length := by omega
              rw [B2] at d1
              have r0 := cell_regrown d0; have r1 := cell_regrown d1
              refine wp_region_quiet_below (by kernel_rfl) (by kernel_rfl) ?_
              repeat (go_big_quiet_step (fail))
              refine wpQuiet_nil ?_
              intro _ hw'
              obtain ⟨⟨dq, osq⟩, hw''⟩ := hw'
              subst hw''
              have hb2 := below_regrown v1 dq osq
              have k0 := r0 dq osq; have k1 := r1 dq osq
              generalize grow (redrawn v1 dq) osq = v2 at *
              clear r0 r1 d0 d1
              have hw2 := BelowOn HX.out.1 hb2
              have hA2 := HX.out.2.1.call hb2
              have hB2 := HX.out.2.2.call hb2
              clear hb2 HX
              have hst := pr_ins (a := a) (b := b) (u := u) (fun h => A2 h.2) B1n B2
              by_cases hC : E.a = -1
              · rw [hC] at k0
                have hR := HR.out
                rw [hst, if_pos hC] at hR
                simp only at hR
                obtain ⟨ad, rfl, had, x0, x1, x2⟩ := hB2.row j B1n
                have hs := HT.out (b[j]).k (b[j]).t (b[j]).id v2
                have s4 := stp_le4 b[j]
                have hee : stp ⟨(b[j]).k, (b[j]).t, (b[j]).id⟩ = stp b[j] := rfl
                rw [hee] at hs
                have HS1 := Lib.hid hs
                have HR2 := Lib.hid hR
                have HW0 := Lib.hid hw2
                generalize stp b[j] = T at *
                clear hs hR HR hst hee hw2 hA2 hB2
                go_wp2_with fail
                refine HS1.out.mono ?_; rintro e v3 ⟨rfl, hb3⟩
                have HW := Lib.hid (BelowOn HW0.out hb3)
                clear hb3 HS1 HW0 x0 x1 x2 had k0 k1
                go_wp2_with fail
                go_roundw
                case rel => exact ⟨k + 1, i, j + 1, u + T, hlt, by go_num, by simp [Int.add_assoc], by go_num, by go_num, by omega, by omega, by omega, HR2.out, HW.out⟩
                case measure => simp [intOf]; omega
              · have hst2 : prStep a b E i j u = none := by rw [hst, if_neg hC]
                have hR := HR.out
                rw [hst2] at hR
                simp only at hR
                obtain ⟨e1, e2⟩ := HNONE.out hR
                have HE := Lib.hid (And.intro e1 e2)
                have HW := Lib.hid hw2
                clear e1 e2 hR HR hw2 hA2 hB2
                go_wp2_with fail
                go_ret2
                exact ⟨by rw [HE.out.1, HE.out.2]; rfl, HW.out⟩
            · have r0 := cell_regrown d0; have r1 := cell_regrown d1
              refine wp_region_quiet_below (by kernel_rfl) (by kernel_rfl) ?_
              repeat (go_big_quiet_step (fail))
              refine wpQuiet_nil ?_
              intro _ hw'
              obtain ⟨⟨dq, osq⟩, hw''⟩ := hw'
              subst hw''
              have hb2 := below_regrown v1 dq osq
              have k0 := r0 dq osq; have k1 := r1 dq osq
              generalize grow (redrawn v1 dq) osq = v2 at *
              clear r0 r1 d0 d1
              have hw2 := BelowOn HX.out.1 hb2
              have hA2 := HX.out.2.1.call hb2
              have hB2 := HX.out.2.2.call hb2
              clear hb2 HX
              have hst2 := pr_no (a := a) (b := b) (e := E) (i := i) (j := j) (u := u) (fun h => A2 h.2) (fun h => B2 h.2)
              have hR := HR.out
              rw [hst2] at hR
              simp only at hR
              obtain ⟨e1, e2⟩ := HNONE.out hR
              have HE := Lib.hid (And.intro e1 e2)
              have HW := Lib.hid hw2
              clear e1 e2 hR HR hw2 hA2 hB2
              go_wp2_with fail
              go_ret2
              exact ⟨by rw [HE.out.1, HE.out.2]; rfl, HW.out⟩
          · have r0 := cell_regrown d0; have r1 := cell_regrown d1
            refine wp_region_quiet_below (by kernel_rfl) (by kernel_rfl) ?_
            repeat (go_big_quiet_step (fail))
            refine wpQuiet_nil ?_
            intro _ hw'
            obtain ⟨⟨dq, osq⟩, hw''⟩ := hw'
            subst hw''
            have hb2 := below_regrown v1 dq osq
            have k0 := r0 dq osq; have k1 := r1 dq osq
            generalize grow (redrawn v1 dq) osq = v2 at *
            clear r0 r1 d0 d1
            have hw2 := BelowOn HX.out.1 hb2
            have hA2 := HX.out.2.1.call hb2
            have hB2 := HX.out.2.2.call hb2
            clear hb2 HX
            have hst2 := pr_no (a := a) (b := b) (e := E) (i := i) (j := j) (u := u) (fun h => A2 h.2) (fun h => B1 (Int.ofNat_lt.2 h.1))
            have hR := HR.out
            rw [hst2] at hR
            simp only at hR
            obtain ⟨e1, e2⟩ := HNONE.out hR
            have HE := Lib.hid (And.intro e1 e2)
            have HW := Lib.hid hw2
            clear e1 e2 hR HR hw2 hA2 hB2
            go_wp2_with fail
            go_ret2
            exact ⟨by rw [HE.out.1, HE.out.2]; rfl, HW.out⟩
      · skip
        by_cases B1 : (j : Int) < (b.length : Int)
        · by_cases B2 : E.b = (j : Int)
          · have B1n : j < b.length := by omega
            rw [B2] at d1
            have r0 := cell_regrown d0; have r1 := cell_regrown d1
            refine wp_region_quiet_below (by kernel_rfl) (by kernel_rfl) ?_
            repeat (go_big_quiet_step (fail))
            refine wpQuiet_nil ?_
            intro _ hw'
            obtain ⟨⟨dq, osq⟩, hw''⟩ := hw'
            subst hw''
            have hb2 := below_regrown v1 dq osq
            have k0 := r0 dq osq; have k1 := r1 dq osq
            generalize grow (redrawn v1 dq) osq = v2 at *
            clear r0 r1 d0 d1
            have hw2 := BelowOn HX.out.1 hb2
            have hA2 := HX.out.2.1.call hb2
            have hB2 := HX.out.2.2.call hb2
            clear hb2 HX
            have hst := pr_ins (a := a) (b := b) (u := u) (fun h => A1 (Int.ofNat_lt.2 h.1)) B1n B2
            by_cases hC : E.a = -1
            · rw [hC] at k0
              have hR := HR.out
              rw [hst, if_pos hC] at hR
              simp only at hR
              obtain ⟨ad, rfl, had, x0, x1, x2⟩ := hB2.row j B1n
              have hs := HT.out (b[j]).k (b[j]).t (b[j]).id v2
              have s4 := stp_le4 b[j]
              have hee : stp ⟨(b[j]).k, (b[j]).t, (b[j]).id⟩ = stp b[j] := rfl
              rw [hee] at hs
              have HS1 := Lib.hid hs
              have HR2 := Lib.hid hR
              have HW0 := Lib.hid hw2
              generalize stp b[j] = T at *
              clear hs hR HR hst hee hw2 hA2 hB2
              go_wp2_with fail
              refine HS1.out.mono ?_; rintro e v3 ⟨rfl, hb3⟩
              have HW := Lib.hid (BelowOn HW0.out hb3)
              clear hb3 HS1 HW0 x0 x1 x2 had k0 k1
              go_wp2_with fail
              go_roundw
              case rel => exact ⟨k + 1, i, j + 1, u + T, hlt, by go_num, by simp [Int.add_assoc], by go_num, by go_num, by omega, by omega, by omega, HR2.out, HW.out⟩
              case measure => simp [intOf]; omega
            · have hst2 : prStep a b E i j u = none := by rw [hst, if_neg hC]
              have hR := HR.out
              rw [hst2] at hR
              simp only at hR
              obtain ⟨e1, e2⟩ := HNONE.out hR
              have HE := Lib.hid (And.intro e1 e2)
              have HW := Lib.hid hw2
              clear e1 e2 hR HR hw2 hA2 hB2
              go_wp2_with fail
              go_ret2
              exact ⟨by rw [HE.out.1, HE.out.2]; rfl, HW.out⟩
          · have r0 := cell_regrown d0; have r1 := cell_regrown d1
            refine wp_region_quiet_below (by kernel_rfl) (by kernel_rfl) ?_
            repeat (go_big_quiet_step (fail))
            refine wpQuiet_nil ?_
            intro _ hw'
            obtain ⟨⟨dq, osq⟩, hw''⟩ := hw'
            subst hw''
            have hb2 := below_regrown v1 dq osq
            have k0 := r0 dq osq; have k1 := r1 dq osq
            generalize grow (redrawn v1 dq) osq = v2 at *
            clear r0 r1 d0 d1
            have hw2 := BelowOn HX.out.1 hb2
            have hA2 := HX.out.2.1.call hb2
            have hB2 := HX.out.2.2.call hb2
            clear hb2 HX
            have hst2 := pr_no (a := a) (b := b) (e := E) (i := i) (j := j) (u := u) (fun h => A1 (Int.ofNat_lt.2 h.1)) (fun h => B2 h.2)
            have hR := HR.out
            rw [hst2] at hR
            simp only at hR
            obtain ⟨e1, e2⟩ := HNONE.out hR
            have HE := Lib.hid (And.intro e1 e2)
            have HW := Lib.hid hw2
            clear e1 e2 hR HR hw2 hA2 hB2
            go_wp2_with fail
            go_ret2
            exact ⟨by rw [HE.out.1, HE.out.2]; rfl, HW.out⟩
        · have r0 := cell_regrown d0; have r1 := cell_regrown d1
          refine wp_region_quiet_below (by kernel_rfl) (by kernel_rfl) ?_
          repeat (go_big_quiet_step (fail))
          refine wpQuiet_nil ?_
          intro _ hw'
          obtain ⟨⟨dq, osq⟩, hw''⟩ := hw'
          subst hw''
          have hb2 := below_regrown v1 dq osq
          have k0 := r0 dq osq; have k1 := r1 dq osq
          generalize grow (redrawn v1 dq) osq = v2 at *
          clear r0 r1 d0 d1
          have hw2 := BelowOn HX.out.1 hb2
          have hA2 := HX.out.2.1.call hb2
          have hB2 := HX.out.2.2.call hb2
          clear hb2 HX
          have hst2 := pr_no (a := a) (b := b) (e := E) (i := i) (j := j) (u := u) (fun h => A1 (Int.ofNat_lt.2 h.1)) (fun h => B1 (Int.ofNat_lt.2 h.1))
          have hR := HR.out
          rw [hst2] at hR
          simp only at hR
          obtain ⟨e1, e2⟩ := HNONE.out hR
          have HE := Lib.hid (And.intro e1 e2)
          have HW := Lib.hid hw2
          clear e1 e2 hR HR hw2 hA2 hB2
          go_wp2_with fail
          go_ret2
          exact ⟨by rw [HE.out.1, HE.out.2]; rfl, HW.out⟩
    · obtain rfl : k = S.length := by omega
      rw [List.drop_length, prRun] at hR
      have HB1 := Lib.hid hB1
      clear hB1
      by_cases F1 : (i : Int) < (a.length : Int)
      · obtain ⟨e1, e2⟩ := HSHORT.out _ _ _ hR (.inl (by omega))
        have HE := Lib.hid (And.intro e1 e2)
        clear e1 e2 hR
        go_wp2_with fail
        go_ret2
        exact ⟨by rw [HE.out.1, HE.out.2]; rfl, HB1.out⟩
      · by_cases F2 : (j : Int) < (b.length : Int)
        · obtain ⟨e1, e2⟩ := HSHORT.out _ _ _ hR (.inr (by omega))
          have HE := Lib.hid (And.intro e1 e2)
          clear e1 e2 hR
          go_wp2_with fail
          go_ret2
          exact ⟨by rw [HE.out.1, HE.out.2]; rfl, HB1.out⟩
        · obtain ⟨e1, e2⟩ := HSOME.out _ _ _ hR (by omega)
          have HE := Lib.hid (And.intro e1 e2)
          clear e1 e2 hR
          go_wp2_with fail
          go_ret2
          exact ⟨by rw [HE.out.1, HE.out.2]; simp, HB1.out⟩
end Go.Proofs.Ytpkipdiecnokhaa
namespace Go.Proofs.Ytpkipdiecnokhaa
open Go.ChangeShapes Go.WideShapes Go.ChangeAt Go.RowKit Go.Sort
set_option linter.unusedVariables false
set_option linter.unusedSimpArgs false
set_option maxRecDepth 100000

theorem Pth.app {p1 : List Mv} {a1 b1 : List It} {n1 : Nat} (h : Pth p1 a1 b1 n1) {p2 : List Mv} {a2 b2 : List It} {n2 : Nat} (k : Pth p2 a2 b2 n2) : Pth (p1 ++ p2) (a1 ++ a2) (b1 ++ b2) (n1 + n2) := by
  induction h with
  | nil => rw [Nat.zero_add]; exact k
  | X x _ ih => rw [Nat.add_assoc]; exact .X x ih
  | I y _ ih => rw [Nat.add_assoc]; exact .I y ih
  | P ho _ ih => rw [Nat.add_assoc]; exact .P ho ih
/-- A path up to the i-th and the j-th token, and its script. -/
structure PS (A B : List It) (i j : Nat) (S : List Ed) : Prop where
  path : ∃ P n, Pth P (A.take i) (B.take j) n ∧ S = edM P 0 0
  li : i ≤ A.length
  lj : j ≤ B.length
  sl : S.length ≤ i + j
theorem PS.zero (A B : List It) : PS A B 0 0 [] := ⟨⟨[], 0, .nil, rfl⟩, Nat.zero_le _, Nat.zero_le _, Nat.zero_le _⟩
theorem PS.pair {A B : List It} {i j : Nat} {S : List Ed} (h : PS A B i j S) (hi : i < A.length) (hj : j < B.length) (ho : okP A[i] B[j] = true) : PS A B (i + 1) (j + 1) (S ++ [⟨i, j⟩]) := by
  obtain ⟨P, n, hp, rfl⟩ := h.path
  refine ⟨⟨P ++ [.P], n + (cst A[i] B[j] + 0), ?_, ?_⟩, hi, hj, by have := h.sl; rw [List.length_append]; simp; omega⟩
  · rw [List.take_succ_eq_append_getElem hi, List.take_succ_eq_append_getElem hj]; exact hp.app (.P ho .nil)
  · rw [edM_app hp]; simp [edM, Nat.min_eq_left h.li, Nat.min_eq_left h.lj]
theorem PS.del {A B : List It} {i j : Nat} {S : List Ed} (h : PS A B i j S) (hi : i < A.length) : PS A B (i + 1) j (S ++ [⟨i, -1⟩]) := by
  obtain ⟨P, n, hp, rfl⟩ := h.path
  refine ⟨⟨P ++ [.X], n + (stp A[i] + 0), ?_, ?_⟩, hi, h.lj, by have := h.sl; rw [List.length_append]; simp; omega⟩
  · rw [List.take_succ_eq_append_getElem hi]; have := hp.app (Pth.X A[i] .nil); rwa [List.append_nil] at this
  · rw [edM_app hp]; simp [edM, Nat.min_eq_left h.li]
theorem PS.ins {A B : List It} {i j : Nat} {S : List Ed} (h : PS A B i j S) (hj : j < B.length) : PS A B i (j + 1) (S ++ [⟨-1, j⟩]) := by
  obtain ⟨P, n, hp, rfl⟩ := h.path
  refine ⟨⟨P ++ [.I], n + (stp B[j] + 0), ?_, ?_⟩, h.li, hj, by have := h.sl; rw [List.length_append]; simp; omega⟩
  · rw [List.take_succ_eq_append_getElem hj]; have := hp.app (Pth.I B[j] .nil); rwa [List.append_nil] at this
  · rw [edM_app hp]; simp [edM, Nat.min_eq_left h.lj]
theorem PS.price {A B : List It} {S : List Ed} (h : PS A B A.length B.length S) : prB A B S = true ∧ dis A B ≤ prO A B S := by
  obtain ⟨P, n, hp, rfl⟩ := h.path
  rw [List.take_length, List.take_length] at hp
  obtain ⟨h1, h2⟩ := prc_path hp
  refine ⟨h2, ?_⟩
  rw [h1]
  have := dst_al hp.al
  unfold dis; omega
theorem align_price (A B : List It) : prO A B (scr 0 0 A B) = dis A B ∧ prB A B (scr 0 0 A B) = true := by
  obtain ⟨h1, h2⟩ := prc_path (can_pth A B)
  refine ⟨?_, h2⟩
  unfold scr
  rw [h1]
  unfold dis; omega
theorem own_eds {base : Nat} {S : List Ed} {v : Value} {W : World} (h : OwnE base S v W) : ∃ p c, v = .slice p S.length c ∧ S.length ≤ c ∧ c ≤ maxLen ∧ Eds W p S := by
  rcases h.2 with ⟨hv, h0⟩ | ⟨g, cap, cur, hv, hg, hh, hn, hm, hs, ht⟩
  · have : S = [] := List.length_eq_zero_iff.1 h0
    subst this
    exact ⟨none, 0, hv, Nat.le_refl _, Nat.zero_le _, Rw.nil _ _⟩
  · refine ⟨some ⟨g, 0, none⟩, cap, hv, hn, hm, fun _ => ⟨g, 0, rfl, ?_, fun i hi => ?_⟩⟩
    · rcases Nat.lt_or_ge g W.heap.size with hlt | hge
      · exact hlt
      · rw [Array.getElem?_eq_none hge] at hh; cases hh
    · have hc := World.ownsRow.cells h (g := g) (by rw [hv]; rfl)
      intro j u hu
      rw [Nat.zero_add]
      have ad : (⟨g, 0, none⟩ : Addr).add (i * 2 + j) = ⟨g, i * 2 + j, none⟩ := by unfold Addr.add; split <;> simp_all
      rw [← ad]
      refine hc _ _ ?_
      have key : ∀ (L : List Ed) (i : Nat) (hi : i < L.length), (eenc (L[i]'hi))[j]? = some u → (cellsOf eenc L)[i * 2 + j]? = some u := by
        intro L
        induction L with
        | nil => intro i hi; cases hi
        | cons x L ih =>
          intro i hi hv
          unfold cellsOf at ih ⊢
          rw [List.flatMap_cons]
          have hj : j < 2 := (List.getElem?_eq_some_iff.1 hu).1
          have e2 : ∀ x : Ed, (eenc x).length = 2 := fun _ => rfl
          cases i with
          | zero => rw [List.getElem?_append_left (by rw [e2]; omega), Nat.zero_mul, Nat.zero_add]; exact hv
          | succ i => rw [List.getElem?_append_right (by rw [e2]; omega), e2, show (i + 1) * 2 + j - 2 = i * 2 + j by omega]; exact ih i (by simpa using hi) hv
      exact key S i hi hu
/-- All that the law's loop carries. -/
structure AF (w : World) (base bN : Nat) (pa pb : Option Addr) (ca cb : Nat) (A B : List It) (pn : Option Addr) (cn : Nat) (L : List Int) (S : List Ed) (v : Value) (m : Nat) (W : World) : Prop where
  nm : NumsAt W bN pn cn L m
  da : Dr W pa ca A
  db : Dr W pb cb B
  la : 0 < A.length → ∀ x, pa = some x → x.block < bN
  lb : 0 < B.length → ∀ x, pb = some x → x.block < bN
  ln : 0 < L.length → ∀ x, pn = some x → x.block < bN
  hb : bN < base
  sz : base ≤ W.heap.size
  bw : Below w.heap.size w W
  own : OwnE base S v W
  w0 : w.heap.size ≤ bN
variable {w : World} {base bN : Nat} {pa pb : Option Addr} {ca cb : Nat} {A B : List It} {pn : Option Addr} {cn : Nat} {L : List Int} {S : List Ed} {v : Value} {m : Nat} {W W' : World}
theorem AF.call (h : AF w base bN pa pb ca cb A B pn cn L S v m W) (hb : Below W.heap.size W W') : AF w base bN pa pb ca cb A B pn cn L S v m W' :=
  ⟨h.nm.call hb, h.da.call hb, h.db.call hb, h.la, h.lb, h.ln, h.hb, Nat.le_trans h.sz hb.size, BelowOn h.bw hb, OwnL.call h.own hb, h.w0⟩
theorem AF.next (h : AF w base bN pa pb ca cb A B pn cn L S v m W) (hg : W.grownBy W' (some bN)) (hn : NumsAt W' bN pn cn L (m + 1)) : AF w base bN pa pb ca cb A B pn cn L S v (m + 1) W' :=
  ⟨hn, ⟨fun h0 => (Its.other h.da.its hg (fun a ha => by have := h.la h0 a ha; omega)) h0, h.da.le, h.da.cm, h.da.len, h.da.txt⟩, ⟨fun h0 => (Its.other h.db.its hg (fun a ha => by have := h.lb h0 a ha; omega)) h0, h.db.le, h.db.cm, h.db.len, h.db.txt⟩,
    h.la, h.lb, h.ln, h.hb, Nat.le_trans h.sz hg.size, below_of_grow h.bw hg h.bw.size h.w0,
    ownsRow_same h.own (fun i hi => hg.block i (World.ownsRow.lt h.own i hi).2 (fun e => by injection e with e; have := (World.ownsRow.lt h.own i hi).1; have := h.hb; omega)), h.w0⟩
theorem AF.push (h : AF w base bN pa pb ca cb A B pn cn L S v m W) {S' : List Ed} {v' : Value} (hb : Below base W W') (ho : OwnE base S' v' W') : AF w base bN pa pb ca cb A B pn cn L S' v' m W' :=
  ⟨⟨(hb.block bN h.hb).trans h.nm.hh, ones_keep h.nm.ones hb.size (fun h0 a ha => hb.block _ (Nat.lt_trans (h.ln h0 a ha) h.hb)), h.nm.ap, h.nm.wf, h.nm.le, h.nm.cm⟩,
    ⟨fun h0 => (Its.under h.da.its hb (fun a ha => Nat.lt_trans (h.la h0 a ha) h.hb)) h0, h.da.le, h.da.cm, h.da.len, h.da.txt⟩, ⟨fun h0 => (Its.under h.db.its hb (fun a ha => Nat.lt_trans (h.lb h0 a ha) h.hb)) h0, h.db.le, h.db.cm, h.db.len, h.db.txt⟩,
    h.la, h.lb, h.ln, h.hb, Nat.le_trans h.sz hb.size, h.bw.trans (hb.mono (Nat.le_of_lt (Nat.lt_of_le_of_lt h.w0 h.hb))), ho, h.w0⟩
end Go.Proofs.Ytpkipdiecnokhaa
namespace Go.Proofs.Ytpkipdiecnokhaa
open Go.ChangeShapes Go.WideShapes Go.ChangeAt Go.RowKit Go.Sort
set_option linter.unusedVariables false
set_option linter.unusedSimpArgs false
set_option maxRecDepth 100000

theorem small12_any (p : Option Addr) (cap : Nat) (l : List It) (w : World) (hR : Its w p l) (hO : Oks l) (hc : l.length ≤ cap) (hm : cap ≤ maxLen) :
    Calls Try.prog 35 #[.slice p l.length cap, .int .i64 12] w fun e w' => e = .returned (.bool (smlB l)) ∧ w = w' := by
  unfold maxLen at hm
  have hsum : l.length ≤ 12 → ∀ k, k ≤ l.length → txtI (l.take k) ≤ k * 140737488355328 := fun h60 k => by
    intro hk
    induction k with
    | zero => simp [txtI]
    | succ j ih =>
      rw [txtI_next l j (by omega)]
      have := ih (by omega)
      have h1 := (hO j (by omega)).t
      omega
  have HS := Lib.hid hsum; clear hsum
  go_enter Try.func35, Try.ntmps35
  go_wp2_with fail
  go_loop [5, 9] (fun v i => ∃ k : Nat, ∃ z : Int, k ≤ l.length ∧ i = .int .i64 k ∧ v = .int .i64 z ∧ Hid (l.length ≤ 12 → z = txtI (l.take k))) (fun _ i => l.length - (intOf i).toNat)
  case atStart => exact ⟨0, 0, Nat.zero_le _, rfl, rfl, Lib.hid (fun _ => rfl)⟩
  case round =>
    obtain ⟨k, z, hk, rfl, rfl, HZ⟩ := hrel
    by_cases hlt : k < l.length
    · obtain ⟨a, rfl, ha, c0, c1, c2⟩ := hR.row k hlt
      have hn := txtI_next l k hlt
      have HN := Lib.hid hn; clear hn
      have ik : (k : Int) < (l.length : Int) := by omega
      go_wp2_with fail
      go_round
      case rel =>
        refine ⟨k + 1, _, hlt, by go_num, rfl, Lib.hid (fun h60 => ?_)⟩
        have b := HS.out h60 (k + 1) hlt
        rw [HN.out] at b ⊢
        rw [HZ.out h60]
        unfold wrap64
        omega
      case measure => simp [intOf] <;> omega
    · obtain rfl : k = l.length := by omega
      rw [List.take_length] at HZ
      by_cases h60 : l.length ≤ 12
      · have hz := HZ.out h60
        go_wp2_with fail
        go_ret
        exact ⟨ret_bool (by unfold smlB; rw [Bool.eq_iff_iff]; simp [h60]; omega), rfl⟩
      · go_wp2_with fail
        go_ret
        exact ⟨ret_bool (by unfold smlB; simp [h60]), rfl⟩
theorem Dr.align {W : World} {p q : Option Addr} {c d : Nat} {A B : List It} (h : Dr W p c A) (k : Dr W q d B) : Calls Try.prog 34 #[.slice p A.length c, .slice q B.length d] W fun e w' => ∃ r f, e = .returned (.slice r (scr 0 0 A B).length f) ∧ (scr 0 0 A B).length ≤ f ∧ f ≤ maxLen ∧ Eds w' r (scr 0 0 A B) ∧ Below W.heap.size W w' :=
  (align_any p q c d A B W h.its k.its h.le k.le h.cm k.cm (Nat.le_trans h.len (by omega)) (Nat.le_trans k.len (by omega)) h.txt k.txt).mono fun e w' ⟨v, he, hO, hb⟩ => by
    obtain ⟨r, f, rfl, h1, h2, h3⟩ := own_eds hO
    exact ⟨r, f, he, h1, h2, h3, hb⟩
theorem Dr.ralign {W : World} {p q : Option Addr} {c d : Nat} {A B : List It} (h : Dr W p c A) (k : Dr W q d B) : Calls Try.prog 28 #[.slice p A.length c, .slice q B.length d] W fun e w' => ∃ r f, e = .returned (.slice r (scr 0 0 A B).length f) ∧ (scr 0 0 A B).length ≤ f ∧ f ≤ maxLen ∧ Eds w' r (scr 0 0 A B) ∧ Below W.heap.size W w' :=
  (ralign_any p q c d A B W h.its k.its h.le k.le h.cm k.cm (Nat.le_trans h.len (by omega)) (Nat.le_trans k.len (by omega)) h.txt k.txt).mono fun e w' ⟨v, he, hO, hb⟩ => by
    obtain ⟨r, f, rfl, h1, h2, h3⟩ := own_eds hO
    exact ⟨r, f, he, h1, h2, h3, hb⟩
set_option maxHeartbeats 6400000 in
theorem any_law (pa : Option Addr) (ca : Nat) (a : List It) (pb : Option Addr) (cb : Nat) (b : List It) (w : World)
    (ra : Its w pa a) (oa : Oks a) (na : a.length ≤ ca) (ma : ca ≤ maxLen) (rb : Its w pb b) (ob : Oks b) (nb : b.length ≤ cb) (mb : cb ≤ maxLen) :
    Calls Try.prog 11 #[.slice pa a.length ca, .slice pb b.length cb] w fun e w' => e = .returned (.bool true) ∧ Below w.heap.size w w' := by
  have SA := Lib.hid (fun W (h : Its W pa a) => small12_any pa ca a W h oa na ma)
  have SB := Lib.hid (fun W (h : Its W pb b) => small12_any pb cb b W h ob nb mb)
  have DA := Lib.hid (fun hs => dr_small ra na ma hs)
  have DB := Lib.hid (fun hs => dr_small rb nb mb hs)
  unfold maxLen at ma mb
  have leave : ∀ W, Below w.heap.size w W → Calls Try.prog 26 #[] W fun e w' => e = .returned (.bool true) ∧ Below w.heap.size w w' := fun W h => (known_any W).mono (fun e w' hh => ⟨hh.1, BelowOn h hh.2⟩)
  have LV := Lib.hid leave
  clear leave
  cases sa : smlB a with
  | false =>
    rw [sa] at SA
    go_enter Try.func11, Try.ntmps11
    go_wp2_with fail
    refine (SA.out _ ra).mono ?_; rintro e w1 ⟨rfl, rfl⟩
    go_wp2_with fail
    refine (LV.out _ (Below.refl _ _)).mono ?_; rintro e w1 ⟨rfl, hb⟩
    go_wp2_with fail
    go_ret
    exact ⟨rfl, hb⟩
  | true =>
  rw [sa] at SA
  cases sb : smlB b with
  | false =>
    rw [sb] at SB
    go_enter Try.func11, Try.ntmps11
    go_wp2_with fail
    refine (SA.out _ ra).mono ?_; rintro e w1 ⟨rfl, rfl⟩
    go_wp2_with fail
    refine (SB.out _ rb).mono ?_; rintro e w1 ⟨rfl, rfl⟩
    go_wp2_with fail
    refine (LV.out _ (Below.refl _ _)).mono ?_; rintro e w1 ⟨rfl, hb⟩
    go_wp2_with fail
    go_ret
    exact ⟨rfl, hb⟩
  | true =>
  rw [sb] at SB
  have hDA := DA.out sa; have hDB := DB.out sb
  clear DA DB
  go_enter Try.func11, Try.ntmps11
  go_wp2_with fail
  refine (SA.out _ ra).mono ?_; rintro e w1 ⟨rfl, rfl⟩
  go_wp2_with fail
  refine (SB.out _ rb).mono ?_; rintro e w1 ⟨rfl, rfl⟩
  clear SA SB ra rb oa ob
  have h1 := hDA.dist hDB
  have HK := Lib.hid (And.intro hDA hDB)
  clear hDA hDB
  go_wp2_with fail
  refine h1.mono ?_; rintro e w1 ⟨rfl, hb1⟩
  have hA := HK.out.1.call hb1; have hB := HK.out.2.call hb1
  have h2 := hA.rdist hB
  clear h1 HK
  have HK := Lib.hid (And.intro hA (And.intro hB hb1))
  clear hA hB hb1
  generalize hD : dis a b = D at *
  clear hD
  go_wp2_with fail
  refine h2.mono ?_; rintro e w2 ⟨rfl, hb⟩
  have hA := HK.out.1.call hb; have hB := HK.out.2.1.call hb; have hW := BelowOn HK.out.2.2 hb
  have h3 := hA.align hB
  clear h2 HK hb
  have HK := Lib.hid (And.intro hA (And.intro hB hW))
  have HLS := Lib.hid (fun W p q c d (hA : Eds W p (scr 0 0 a b)) (hB : Eds W q (scr 0 0 a b)) h1 h2 h3 h4 => sameedits_any p q c d (scr 0 0 a b) W hA hB h1 h2 h3 h4)
  clear hA hB hW
  go_wp2_with fail
  refine h3.mono ?_; rintro e w3 ⟨r, f, rfl, e1, e2, hE, hb⟩
  have hA := HK.out.1.call hb; have hB := HK.out.2.1.call hb; have hW := BelowOn HK.out.2.2 hb
  have h4 := hA.ralign hB
  clear h3 HK hb
  have HK := Lib.hid (And.intro hE hW)
  clear hA hB hW hE
  generalize scr 0 0 a b = S at *
  go_wp2_with fail
  refine h4.mono ?_; rintro e w4 ⟨r2, f2, rfl, e3, e4, hE2, hb⟩
  have h5 := HLS.out w4 r r2 f f2 (HK.out.1.call hb) hE2 e1 e3 e2 e4
  have HW := Lib.hid (BelowOn HK.out.2 hb)
  clear h4 HK hb hE2 HLS
  go_wp2_with fail
  refine h5.mono ?_; rintro e w5 ⟨rfl, hb⟩
  have HW2 := Lib.hid (BelowOn HW.out hb)
  clear hb h5
  go_wp2_with fail
  refine (LV.out _ HW2.out).mono ?_; rintro e w6 ⟨rfl, hb⟩
  go_wp2_with fail
  go_ret
  exact ⟨rfl, hb⟩
end Go.Proofs.Ytpkipdiecnokhaa
namespace Go.Proofs.Ytpkipdiecnokhaa
open Go.ChangeShapes Go.WideShapes Go.ChangeAt Go.RowKit Go.Sort
set_option linter.unusedVariables false
set_option linter.unusedSimpArgs false
set_option maxRecDepth 100000

def newT : It := ⟨6, ⟨#[110, 101, 119]⟩, 0⟩
theorem acc_own {w0 w : World} {L : List It} {v : Value} (h : AccT w0 L v w) : OwnT w0.heap.size L v w := h.own
theorem txt_ins {out : List It} {X : It} (K : Nat) (h : ∀ x ∈ out, x.t.size ≤ 1000) (hX : X.t.size ≤ 1000) : ∀ x ∈ out.take K ++ X :: out.drop K, x.t.size ≤ 1000 := fun x hx => by
  rcases List.mem_append.1 hx with hx | hx
  · exact h x (List.mem_of_mem_take hx)
  · rcases List.mem_cons.1 hx with rfl | hx
    · exact hX
    · exact h x (List.mem_of_mem_drop hx)
set_option maxHeartbeats 25600000 in
theorem changed_any (p : Option Addr) (c : Nat) (l : List It) (at0 to0 how0 : Int) (w : World) (hR : Its w p l) (hc : l.length ≤ c) (hm : c ≤ maxLen) (hl : l.length ≤ 30) (hx : ∀ x ∈ l, x.t.size ≤ 900) (wa : (Lit.int .i64 at0).wf = true) (wt : (Lit.int .i64 to0).wf = true) (wh : (Lit.int .i64 how0).wf = true) :
    Calls Try.prog 31 #[.slice p l.length c, .int .i64 at0, .int .i64 to0, .int .i64 how0] w fun e w' => ∃ L : List It, L.length ≤ 40 ∧ (∀ x ∈ L, x.t.size ≤ 1000) ∧ EndT L w e w' := by
  unfold maxLen at hm
  by_cases hz : l.length = 0
  · have qz : ((l.length : Int) == 0) = true := by rw [hz]; rfl
    go_enter Try.func31, Try.ntmps31
    go_wp2_with fail
    go_ret
    exact ⟨[], by simp, fun x hx => (by cases hx), _, rfl, Below.refl _ _, OwnL.nil _ _⟩
  have qz : ((l.length : Int) == 0) = false := beq_eq_false_iff_ne.2 (by omega)
  have P1 := Lib.hid (fun W => place_any at0 l.length W (by omega) (by omega) wa)
  have P2 := Lib.hid (fun W => place_any how0 4 W (by omega) (by omega) wh)
  have P3 := Lib.hid (fun (n : Nat) (h : n ≤ 100) W => place_any to0 ((n : Int) + 1) W (by omega) (by omega) wt)
  have b1 := Int.emod_nonneg at0 (show (l.length : Int) ≠ 0 by omega)
  have b2 := Int.emod_lt_of_pos at0 (show (0 : Int) < (l.length : Int) by omega)
  obtain ⟨i, hi⟩ : ∃ i : Nat, at0 % (l.length : Int) = (i : Int) := ⟨(at0 % (l.length : Int)).toNat, by omega⟩
  rw [hi] at P1 b1 b2
  have hil : i < l.length := by omega
  have b3 := Int.emod_nonneg how0 (show (4 : Int) ≠ 0 by omega)
  obtain ⟨h, hh⟩ : ∃ h : Nat, how0 % 4 = (h : Int) := ⟨(how0 % 4).toNat, by omega⟩
  rw [hh] at P2
  clear b3 hh hi
  obtain ⟨ad, rfl, had, x0, x1, x2⟩ := hR.row i hil
  have hxX := hx _ (List.getElem_mem hil)
  have hout : ∀ x ∈ l.take i ++ l.drop (i + 1), x.t.size ≤ 1000 := fun x hx' => by
    rcases List.mem_append.1 hx' with h1 | h1
    · have := hx x (List.mem_of_mem_take h1); omega
    · have := hx x (List.mem_of_mem_drop h1); omega
  have holen : (l.take i ++ l.drop (i + 1)).length = l.length - 1 := by simp; omega
  have hoi : i ≤ l.length - 1 := by omega
  have hVX := Var3.newT w l[i].k l[i].t l[i].id
  have hb0 : Below w.heap.size w (w.alloc (.cells #[.int .i64 l[i].k, .string l[i].t, .int .i64 l[i].id] 57)) := blw (Below.refl _ _) _
  have hfx : ∃ cur, (w.alloc (.cells #[.int .i64 l[i].k, .string l[i].t, .int .i64 l[i].id] 57)).heap[w.heap.size]? = some (.cells cur 57 (0, 0)) := ⟨_, heap_alloc_new w _⟩
  have hI := hR.call hb0
  have ii : (i : Int) < (l.length : Int) := by omega
  have HOUT := Lib.hid (And.intro hout holen)
  clear hout holen hx
  generalize l[i] = X at *
  have q0 : (0 : Int) ≤ (i : Int) := by omega
  have q2 : (i : Int) ≤ (c : Int) := by omega
  have q3 : (i : Int) + 1 ≤ (l.length : Int) := by omega
  have q4 : (0 : Int) ≤ (i : Int) + 1 := by omega
  have q5 : (i : Int) + 1 ≤ (c : Int) := by omega
  have hti : ((i : Int) + 1).toNat = i + 1 := by omega
  have hwi : IntKind.i64.wrap ((i : Int) + 1) = (i : Int) + 1 := IntWalk.i64_in _ ⟨by omega, by omega⟩
  go_enter Try.func31, Try.ntmps31
  go_wp2_with fail
  refine (P1.out _).mono ?_; rintro e w0 ⟨rfl, rfl⟩
  go_wp2_with fail
  generalize (w.alloc (.cells #[.int .i64 X.k, .string X.t, .int .i64 X.id] 57)) = w1 at *
  clear x0 x1 x2 P1
  refine wp_region_held_drew (S := fun W => True) (by kernel_rfl) (trivial) (fun hHeld => ?_)
  have hBd : Below w.heap.size w w1.drew := hb0.drew
  have hId : Its w1.drew (some ad) l := hI
  have hVd := hVX.drew
  have hfd : ∃ cur, w1.drew.heap[w.heap.size]? = some (.cells cur 57 (0, 0)) := hfx
  have vl2 : w.heap.size < w1.drew.heap.size := hVX.lt
  clear hI hb0 hR hVX hfx
  generalize w1.drew = w2 at *
  refine wpAnyH_take (i := 0) (v := ?_) rfl (by kernel_rfl) (by kernel_rfl) (by kernel_rfl) (fun _ _ _ h => h) (Or.inl ⟨by rfl, ?_⟩) hHeld ?_
  rotate_left
  · (intro w hSw; skip; go_simp; try with_reducible rfl)
  try simp only [Act.put, List.getElem_toArray, List.getElem_cons_zero, List.getElem_cons_succ, List.setIfInBounds_toArray, List.set_cons_zero, List.set_cons_succ]
  refine wpAnyH_take (i := 1) (v := ?_) rfl (by kernel_rfl) (by kernel_rfl) (by kernel_rfl) (fun _ _ _ h => h) (Or.inl ⟨by rfl, ?_⟩) hHeld ?_
  rotate_left
  · (intro w hSw; skip; go_simp; try with_reducible rfl)
  try simp only [Act.put, List.getElem_toArray, List.getElem_cons_zero, List.getElem_cons_succ, List.setIfInBounds_toArray, List.set_cons_zero, List.set_cons_succ]
  refine wpAnyH_take (i := 2) (v := ?_) rfl (by kernel_rfl) (by kernel_rfl) (by kernel_rfl) (fun _ _ _ h => h) (Or.inl ⟨by rfl, ?_⟩) hHeld ?_
  rotate_left
  · (intro w hSw; skip; go_simp; try with_reducible rfl)
  try simp only [Act.put, List.getElem_toArray, List.getElem_cons_zero, List.getElem_cons_succ, List.setIfInBounds_toArray, List.set_cons_zero, List.set_cons_succ]
  refine wpAnyH_take (i := 4) (v := ?_) rfl (by kernel_rfl) (by kernel_rfl) (by kernel_rfl) (fun _ _ _ h => h) (Or.inl ⟨by rfl, ?_⟩) hHeld ?_
  rotate_left
  · (intro w hSw; skip; go_simp; try with_reducible rfl)
  try simp only [Act.put, List.getElem_toArray, List.getElem_cons_zero, List.getElem_cons_succ, List.setIfInBounds_toArray, List.set_cons_zero, List.set_cons_succ]
  refine wpAnyH_take (i := 5) (v := ?_) rfl (by kernel_rfl) (by kernel_rfl) (by kernel_rfl) (fun _ _ _ h => h) (Or.inl ⟨by rfl, ?_⟩) hHeld ?_
  rotate_left
  · (intro w hSw; skip; go_simp; try with_reducible rfl)
  try simp only [Act.put, List.getElem_toArray, List.getElem_cons_zero, List.getElem_cons_succ, List.setIfInBounds_toArray, List.set_cons_zero, List.set_cons_succ]
  refine wpAnyH_take (i := 6) (v := ?_) rfl (by kernel_rfl) (by kernel_rfl) (by kernel_rfl) (fun _ _ _ h => h) (Or.inl ⟨by rfl, ?_⟩) hHeld ?_
  rotate_left
  · (intro w hSw; skip; go_simp; try with_reducible rfl)
  try simp only [Act.put, List.getElem_toArray, List.getElem_cons_zero, List.getElem_cons_succ, List.setIfInBounds_toArray, List.set_cons_zero, List.set_cons_succ]
  refine wpAnyH_take (i := 7) (v := ?_) rfl (by kernel_rfl) (by kernel_rfl) (by kernel_rfl) (fun _ _ _ h => h) (Or.inl ⟨by rfl, ?_⟩) hHeld ?_
  rotate_left
  · (intro w hSw; skip; go_simp; try with_reducible rfl)
  try simp only [Act.put, List.getElem_toArray, List.getElem_cons_zero, List.getElem_cons_succ, List.setIfInBounds_toArray, List.set_cons_zero, List.set_cons_succ]
  refine wpAnyH_ready (rs := [3]) (by kernel_rfl) (by simp) ?_
  refine (AllReadyH.cons rfl (fun K hK => ?_) AllReadyH.nil)
  have hti2 : (l.take i).length = i := by simp; omega
  obtain ⟨v3, w3, hrun3, own3, hg3⟩ := append_toks w2 22 w2.heap.size [] (l.take i) (.slice none 0 0) (some ad) c (OwnL.nil _ _) (its_takeD hId i) (Nat.le_refl _) (by simp; omega)
  rw [hti2] at hrun3
  rw [List.nil_append] at own3
  have hb3 : Below w2.heap.size w2 w3 := (Below.refl _ _).grown hg3 (Nat.le_refl _) (fun j hj => by cases hj)
  refine step_of_wp rfl ?_
  refine Lib.wp_append_run w2 _ _ 22 22 rfl _ _ rfl rfl v3 w3 hrun3 ?_
  refine hK.out _ _ trivial (fun hHeld => ?_)
  clear hK K hrun3
  try simp only [Act.put, List.getElem_toArray, List.getElem_cons_zero, List.getElem_cons_succ, List.setIfInBounds_toArray, List.set_cons_zero, List.set_cons_succ]
  have hI3 := hId.call hb3; have hV3 := hVd.call hb3; have hB3 := BelowOn hBd hb3
  have hf3 : ∃ cur, w3.heap[w.heap.size]? = some (.cells cur 57 (0, 0)) := by obtain ⟨cur, hcu⟩ := hfd; exact ⟨cur, keep_heap hcu hb3⟩
  have hdr := its_row w3 (some ad) l hI3 (i + 1) (by omega) (if c = i + 1 then some ad else some (ad.add ((i + 1) * 3))) (fun a ha hlt => by rw [if_neg (by omega)]; injection ha with ha; rw [ha])
  obtain ⟨v4, w4, hrun4, own4, hg4⟩ := append_toks w3 22 w2.heap.size (l.take i) (l.drop (i + 1)) v3 _ (c - (i + 1)) own3 hdr hb3.size (by simp; omega)
  rw [List.length_drop] at hrun4
  have hb4 : Below w2.heap.size w3 w4 := (Below.refl _ _).grown hg4 hb3.size (fun j hj => (own3.lt j hj).1)
  refine wpAnyH_ready (rs := [8]) (by kernel_rfl) (by simp) ?_
  refine (AllReadyH.cons rfl (fun K hK => ?_) AllReadyH.nil)
  refine step_of_wp rfl ?_
  refine Lib.wp_append_run w3 _ _ 22 22 rfl _ _ rfl rfl v4 w4 hrun4 ?_
  refine hK.out _ _ trivial (fun hHeld => ?_)
  clear hK K hrun4
  try simp only [Act.put, List.getElem_toArray, List.getElem_cons_zero, List.getElem_cons_succ, List.setIfInBounds_toArray, List.set_cons_zero, List.set_cons_succ]
  refine wpAnyH_take (i := 9) (v := ?_) rfl (by kernel_rfl) (by kernel_rfl) (by kernel_rfl) (fun _ _ _ h => h) (Or.inl ⟨by rfl, ?_⟩) hHeld ?_
  rotate_left
  · (intro w hSw; skip; go_simp; try with_reducible rfl)
  try simp only [Act.put, List.getElem_toArray, List.getElem_cons_zero, List.getElem_cons_succ, List.setIfInBounds_toArray, List.set_cons_zero, List.set_cons_succ]
  refine wpAnyH_done (by kernel_rfl) ?_ _
  have hbig := (hb3.trans hb4)
  have hV4 : Var3 w4 w.heap.size X.k X.t X.id := ⟨by rw [hbig.cell (p := ⟨w.heap.size, 0, none⟩) vl2]; exact hVd.c0, by rw [hbig.cell (p := ⟨w.heap.size, 1, none⟩) vl2]; exact hVd.c1, by rw [hbig.cell (p := ⟨w.heap.size, 2, none⟩) vl2]; exact hVd.c2, Nat.lt_of_lt_of_le vl2 hbig.size⟩
  have hf4 : ∃ cur, w4.heap[w.heap.size]? = some (.cells cur 57 (0, 0)) := by obtain ⟨cur, hcu⟩ := hfd; exact ⟨cur, (hbig.block _ vl2).trans hcu⟩
  have hB4 := BelowOn hBd hbig
  clear hI3 hV3 hB3 hf3 hdr own3 hg3 hg4 hb3 hb4 hbig hVd hfd hId hBd had hHeld hti2 q2 q3 q4 q5 hti hwi
  generalize l.take i ++ l.drop (i + 1) = out at *
  obtain ⟨po, co, rfl, ho1, ho2, hIo⟩ := OwnT.its own4
  have hol : out.length ≤ 30 := by have := HOUT.out.2; omega
  have hoi2 : i ≤ out.length := by have := HOUT.out.2; omega
  clear hoi
  have hmo := ho2
  unfold maxLen at hmo
  have HS := Lib.hid (And.intro own4 (And.intro hV4 (And.intro hf4 hB4)))
  obtain ⟨c0, c1, c2, cl⟩ := hV4
  clear own4 hf4 hB4 hIo
  generalize w2.heap.size = base at *
  generalize (if c = i + 1 then some ad else some (ad.add ((i + 1) * 3))) = pz0 at *
  go_wp2_with fail
  refine (P2.out _).mono ?_; rintro e w5 ⟨rfl, rfl⟩
  by_cases h0 : h = 0
  · have z0 : ((h : Int) == 0) = true := by simp; omega
    go_wp2_with fail
    go_ret
    exact ⟨out, by omega, HOUT.out.1, _, rfl, HS.out.2.2.2, ownsRow_base HS.out.1 (by omega)⟩
  have z0 : ((h : Int) == 0) = false := by simp; omega
  by_cases h1 : h = 1
  · have z1 : ((h : Int) == 1) = true := by simp; omega
    have hsz : ¬ 9223372036854775807 < X.t.size + 1 := by omega
    have fz : w4.frozen? ⟨w.heap.size, 1, none⟩ = false := by obtain ⟨cur, hcu⟩ := HS.out.2.2.1; exact Lib.frozen_of_heap hcu _
    have hX : (⟨X.k, X.t ++ ⟨#[115]⟩, X.id⟩ : It).t.size ≤ 1000 := by show (X.t ++ ⟨#[115]⟩).size ≤ 1000; rw [ByteArray.size_append]; show X.t.size + 1 ≤ 1000; omega
    go_upto_region 13 with (fail)
    have hgx := grow_cell w4 w.heap.size 1 (.string (X.t ++ ⟨#[115]⟩))
    obtain ⟨hO, hV, hf, hBw⟩ := HS.out
    have hV5 : Var3 (w4.setCell ⟨w.heap.size, 1, none⟩ (.string (X.t ++ ⟨#[115]⟩))) w.heap.size X.k (X.t ++ ⟨#[115]⟩) X.id := ⟨by rw [World.cell?_setCell_other _ _ _ _ (fun e => by injection e with e1 e2; omega)]; exact hV.c0, World.cell?_setCell_same _ _ _ hV.c1, by rw [World.cell?_setCell_other _ _ _ _ (fun e => by injection e with e1 e2; omega)]; exact hV.c2, by have := hV.lt; simpa [World.setCell] using this⟩
    have hf5 : ∃ cur, (w4.setCell ⟨w.heap.size, 1, none⟩ (.string (X.t ++ ⟨#[115]⟩))).heap[w.heap.size]? = some (.cells cur 57 (0, 0)) := by obtain ⟨cur, hcu⟩ := hf; exact ⟨_, setCell_at w4 _ 1 cur _ _ hcu⟩
    replace HS := Lib.hid (And.intro (OwnL.other hO hgx vl2) (And.intro hV5 (And.intro hf5 (below_of_grow hBw hgx hBw.size (Nat.le_refl _)))))
    clear hO hV hf hBw hV5 hf5 hgx fz hsz c0 c1 c2 cl
    generalize (w4.setCell ⟨w.heap.size, 1, none⟩ (.string (X.t ++ ⟨#[115]⟩))) = w5 at *
    obtain ⟨Y, hY⟩ : ∃ Y : It, Y = ⟨X.k, X.t ++ ⟨#[115]⟩, X.id⟩ := ⟨_, rfl⟩
    have hY0 : Y.k = X.k := by rw [hY]
    have hY1 : Y.t = X.t ++ ⟨#[115]⟩ := by rw [hY]
    have hY2 : Y.id = X.id := by rw [hY]
    replace hX : Y.t.size ≤ 1000 := by rw [hY1]; exact hX
    rw [← hY0, ← hY1, ← hY2] at HS
    clear hY hY0 hY1 hY2
    obtain ⟨c0, c1, c2, cl⟩ := HS.out.2.1
    have hwo : IntKind.i64.wrap ((out.length : Int) + 1) = (out.length : Int) + 1 := IntWalk.i64_in _ ⟨by omega, by omega⟩
    have p1 := Int.emod_nonneg to0 (show (out.length : Int) + 1 ≠ 0 by omega)
    have p2 := Int.emod_lt_of_pos to0 (show (0 : Int) < (out.length : Int) + 1 by omega)
    obtain ⟨K0, hK0⟩ : ∃ K : Nat, to0 % ((out.length : Int) + 1) = (K : Int) := ⟨(to0 % ((out.length : Int) + 1)).toNat, by omega⟩
    have P4 := P3.out out.length (by omega)
    rw [hK0] at P4 p1 p2
    have hK0l : K0 ≤ out.length := by omega
    clear hK0 p1 p2
    have HX := Lib.hid hX
    clear hX
    go_wp2_with fail
    refine (P4 _).mono ?_; rintro e w6 ⟨rfl, rfl⟩
    clear P4 P3 P2 hwo
    go_upto_if 55 with (fail)
    generalize (bits BinOp.and IntKind.i64 how0 4 == 0) = fl
    cases fl with
    | true =>
      have hKl : i ≤ out.length := by omega
      generalize i = kk at *
      have g1 : (kk : Int) ≤ (out.length : Int) := by omega
      have g0 : (0 : Int) ≤ (kk : Int) := by omega
      have g2 : (kk : Int) ≤ (co : Int) := by omega
      go_wp2_with fail
      have hB := HS.out.2.2.2; have hown := HS.out.1; have hVx := HS.out.2.1
      have hIo : Its w5 po out := by obtain ⟨p9, c9, e9, _, _, h9⟩ := OwnT.its hown; injection e9 with e9 _ _; subst e9; exact h9
      obtain ⟨v0, v1, v2, vl⟩ := hVx
      refine wp_region_held_drew (S := fun W => W.cell? ⟨w.heap.size, 0, none⟩ = some (.int .i64 Y.k) ∧ W.cell? ⟨w.heap.size, 1, none⟩ = some (.string Y.t) ∧ W.cell? ⟨w.heap.size, 2, none⟩ = some (.int .i64 Y.id)) (by kernel_rfl) ⟨v0, v1, v2⟩ (fun hHeld => ?_)
      refine wpAnyH_take (i := 0) (v := ?_) rfl (by kernel_rfl) (by kernel_rfl) (by kernel_rfl) (fun _ _ _ h => h) (Or.inl ⟨by rfl, ?_⟩) hHeld ?_
      rotate_left
      · (intro w hSw; obtain ⟨c0, c1, c2⟩ := hSw; go_simp; try with_reducible rfl)
      try simp only [Act.put, List.getElem_toArray, List.getElem_cons_zero, List.getElem_cons_succ, List.setIfInBounds_toArray, List.set_cons_zero, List.set_cons_succ]
      refine wpAnyH_take (i := 2) (v := ?_) rfl (by kernel_rfl) (by kernel_rfl) (by kernel_rfl) (fun _ _ _ h => h) (Or.inl ⟨by rfl, ?_⟩) hHeld ?_
      rotate_left
      · (intro w hSw; skip; go_simp; try with_reducible rfl)
      try simp only [Act.put, List.getElem_toArray, List.getElem_cons_zero, List.getElem_cons_succ, List.setIfInBounds_toArray, List.set_cons_zero, List.set_cons_succ]
      refine wpAnyH_take (i := 3) (v := ?_) rfl (by kernel_rfl) (by kernel_rfl) (by kernel_rfl) (fun _ _ _ h => h) (Or.inl ⟨by rfl, ?_⟩) hHeld ?_
      rotate_left
      · (intro w hSw; skip; go_simp; try with_reducible rfl)
      try simp only [Act.put, List.getElem_toArray, List.getElem_cons_zero, List.getElem_cons_succ, List.setIfInBounds_toArray, List.set_cons_zero, List.set_cons_succ]
      refine wpAnyH_take (i := 4) (v := ?_) rfl (by kernel_rfl) (by kernel_rfl) (by kernel_rfl) (fun _ _ _ h => h) (Or.inl ⟨by rfl, ?_⟩) hHeld ?_
      rotate_left
      · (intro w hSw; skip; go_simp; try with_reducible rfl)
      try simp only [Act.put, List.getElem_toArray, List.getElem_cons_zero, List.getElem_cons_succ, List.setIfInBounds_toArray, List.set_cons_zero, List.set_cons_succ]
      have hBd : Below w.heap.size w w5.drew := hB.drew
      have hId : Its w5.drew po out := hIo
      have vl2 : w.heap.size < w5.drew.heap.size := vl
      clear hIo hB hown HS v0 v1 v2 c0 c1 c2
      generalize w5.drew = u2 at *
      refine wpAnyH_ready (rs := [1]) (by kernel_rfl) (by simp) ?_
      refine (AllReadyH.cons rfl (fun K hK => ?_) AllReadyH.nil)
      have hone := heap_alloc_new u2 (.cells (icells [Y]).toArray 57)
      have hb3 := (Below.refl u2.heap.size u2).alloc (Nat.le_refl _) (.cells (icells [Y]).toArray 57)
      have hs3 : (u2.alloc (.cells (icells [Y]).toArray 57)).heap.size = u2.heap.size + 1 := by simp
      have hHeld2 := held_call (t := Y) hHeld hb3
      have hHX := Lib.hid (And.intro hone (And.intro hb3 hs3))
      clear hone hb3 hs3
      go_simp
      refine hK.out _ _ hHeld2 (fun hHeld => ?_)
      clear hK K hHeld2
      try simp only [Act.put, List.getElem_toArray, List.getElem_cons_zero, List.getElem_cons_succ, List.setIfInBounds_toArray, List.set_cons_zero, List.set_cons_succ]
      obtain ⟨hone, hb3, hs3⟩ := hHX.out
      have hB3 := BelowOn hBd hb3
      have hI3 := hId.call hb3
      have hcells : (u2.alloc (.cells #[.int .i64 Y.k, .string Y.t, .int .i64 Y.id] 57)) = (u2.alloc (.cells (icells [Y]).toArray 57)) := rfl
      rw [hcells]
      rw [hcells] at hHeld
      clear hcells hHX
      have hown : OwnT w.heap.size [Y] (.slice (some ⟨u2.heap.size, 0, none⟩) 1 1) _ := own_lit (L := [Y]) hone hBd.size (by simp) (by unfold maxLen; simp)
      generalize (u2.alloc (.cells (icells [Y]).toArray 57)) = u3 at *
      have hdr := its_row u3 po out hI3 kk hKl (if co = kk then po else Option.map (fun x => x.add (kk * 3)) po) (fun a ha hlt => by rw [if_neg (by omega), ha]; rfl)
      obtain ⟨v', u4, hrun, hown4, hg4⟩ := append_toks u3 22 w.heap.size [Y] (out.drop kk) _ _ (co - kk) hown hdr hB3.size (by simp; omega)
      rw [List.length_drop] at hrun
      replace hg4 : u3.grownBy u4 (some u2.heap.size) := hg4
      refine wpAnyH_ready (rs := [5]) (by kernel_rfl) (by simp) ?_
      refine AllReadyH.cons rfl (fun K hK => ?_) AllReadyH.nil
      have hB4 : Below w.heap.size w u4 := hB3.grown hg4 hB3.size (fun j hj => by injection hj with hj; have := hBd.size; omega)
      have hI4 : Its u4 po out := fun h0 => (Its.other (M := u2.heap.size) hI3 hg4 (fun a ha => by
        obtain ⟨b, e, hlt, _⟩ := hId h0
        have : a = b := by rw [ha] at e; injection e
        rw [this]; omega)) h0
      have hHeld4 := held_grow (t := Y) hHeld hg4 (by omega)
      have HX2 := Lib.hid (And.intro hown4 (And.intro hB4 hI4))
      clear hown hdr hown4 hB3 hI3 hB4 hI4 hg4 hone hb3 hs3 hId hBd
      refine step_of_wp rfl ?_
      refine Lib.wp_append_run u3 _ _ 22 22 rfl _ _ rfl rfl v' u4 hrun ?_
      refine hK.out _ _ hHeld4 (fun hHeld => ?_)
      clear hK K hHeld4
      try simp only [Act.put, List.getElem_toArray, List.getElem_cons_zero, List.getElem_cons_succ, List.setIfInBounds_toArray, List.set_cons_zero, List.set_cons_succ]
      refine wpAnyH_take (i := 6) (v := ?_) rfl (by kernel_rfl) (by kernel_rfl) (by kernel_rfl) (fun _ _ _ h => h) (Or.inl ⟨by rfl, ?_⟩) hHeld ?_
      rotate_left
      · (intro w hSw; skip; go_simp; try with_reducible rfl)
      try simp only [Act.put, List.getElem_toArray, List.getElem_cons_zero, List.getElem_cons_succ, List.setIfInBounds_toArray, List.set_cons_zero, List.set_cons_succ]
      refine wpAnyH_done (by kernel_rfl) ?_ _
      obtain ⟨hown4, hB4, hI4⟩ := HX2.out
      obtain ⟨p3, c3, rfl, h31, h32, h3⟩ := OwnT.its hown4
      have hlen : ([Y] ++ out.drop kk).length = 1 + (out.length - kk) := by simp; omega
      generalize hTT : [Y] ++ out.drop kk = TT at *
      have HTT := Lib.hid hTT; have HL := Lib.hid hlen; have HB4 := Lib.hid hB4
      clear hTT hlen hown4 HX2 hHeld hrun hB4
      have hl1 : TT.length ≤ 1001 := by have := HL.out; omega
      have tok : True := trivial
      have ht := its_takeD hI4 kk
      have hkl := Lib.hid (show kk = (out.take kk).length by simp; omega)
      have hS := Acc.start (e := 57) (size := 3) (enc := ienc) u4
      have HFIN := Lib.hid (txt_ins (X := Y) kk HOUT.out.1 HX.out)
      have HFL := Lib.hid (show (out.take kk ++ Y :: out.drop kk).length ≤ 40 by simp; omega)
      have HFE := Lib.hid (show out.take kk ++ Y :: out.drop kk = out.take kk ++ TT by rw [← HTT.out]; rfl)
      generalize out.take kk = T0 at *
      have hl0 : T0.length ≤ 1000 := by have := hkl.out; omega
      generalize (if co = kk then po else Option.map (fun x => x.add (kk * 3)) po) = pz at *
      go_wp2_with (first
        | (at_builtin; have _t := tok; refine wpl_catT rfl _ _ rfl u4 [] T0 _ rfl hS po _ co rfl hkl.out ht (by simp; omega) ?_; intro v1 u5 hA1; rw [List.nil_append] at hA1; clear tok)
        | (at_builtin; refine wpl_catT rfl _ _ rfl u4 T0 TT v1 rfl hA1 p3 _ c3 rfl rfl (h3.call hA1.below) (by omega) ?_; intro v2 u6 hA2; clear hA1))
      go_ret
      refine ⟨_, HFL.out, HFIN.out, _, rfl, BelowOn HB4.out hA2.below, ?_⟩
      rw [HFE.out]
      exact ownsRow_base hA2.own HB4.out.size
    | false =>
      have hKl : K0 ≤ out.length := by omega
      generalize K0 = kk at *
      have g1 : (kk : Int) ≤ (out.length : Int) := by omega
      have g0 : (0 : Int) ≤ (kk : Int) := by omega
      have g2 : (kk : Int) ≤ (co : Int) := by omega
      go_wp2_with fail
      have hB := HS.out.2.2.2; have hown := HS.out.1; have hVx := HS.out.2.1
      have hIo : Its w5 po out := by obtain ⟨p9, c9, e9, _, _, h9⟩ := OwnT.its hown; injection e9 with e9 _ _; subst e9; exact h9
      obtain ⟨v0, v1, v2, vl⟩ := hVx
      refine wp_region_held_drew (S := fun W => W.cell? ⟨w.heap.size, 0, none⟩ = some (.int .i64 Y.k) ∧ W.cell? ⟨w.heap.size, 1, none⟩ = some (.string Y.t) ∧ W.cell? ⟨w.heap.size, 2, none⟩ = some (.int .i64 Y.id)) (by kernel_rfl) ⟨v0, v1, v2⟩ (fun hHeld => ?_)
      refine wpAnyH_take (i := 0) (v := ?_) rfl (by kernel_rfl) (by kernel_rfl) (by kernel_rfl) (fun _ _ _ h => h) (Or.inl ⟨by rfl, ?_⟩) hHeld ?_
      rotate_left
      · (intro w hSw; obtain ⟨c0, c1, c2⟩ := hSw; go_simp; try with_reducible rfl)
      try simp only [Act.put, List.getElem_toArray, List.getElem_cons_zero, List.getElem_cons_succ, List.setIfInBounds_toArray, List.set_cons_zero, List.set_cons_succ]
      refine wpAnyH_take (i := 2) (v := ?_) rfl (by kernel_rfl) (by kernel_rfl) (by kernel_rfl) (fun _ _ _ h => h) (Or.inl ⟨by rfl, ?_⟩) hHeld ?_
      rotate_left
      · (intro w hSw; skip; go_simp; try with_reducible rfl)
      try simp only [Act.put, List.getElem_toArray, List.getElem_cons_zero, List.getElem_cons_succ, List.setIfInBounds_toArray, List.set_cons_zero, List.set_cons_succ]
      refine wpAnyH_take (i := 3) (v := ?_) rfl (by kernel_rfl) (by kernel_rfl) (by kernel_rfl) (fun _ _ _ h => h) (Or.inl ⟨by rfl, ?_⟩) hHeld ?_
      rotate_left
      · (intro w hSw; skip; go_simp; try with_reducible rfl)
      try simp only [Act.put, List.getElem_toArray, List.getElem_cons_zero, List.getElem_cons_succ, List.setIfInBounds_toArray, List.set_cons_zero, List.set_cons_succ]
      refine wpAnyH_take (i := 4) (v := ?_) rfl (by kernel_rfl) (by kernel_rfl) (by kernel_rfl) (fun _ _ _ h => h) (Or.inl ⟨by rfl, ?_⟩) hHeld ?_
      rotate_left
      · (intro w hSw; skip; go_simp; try with_reducible rfl)
      try simp only [Act.put, List.getElem_toArray, List.getElem_cons_zero, List.getElem_cons_succ, List.setIfInBounds_toArray, List.set_cons_zero, List.set_cons_succ]
      have hBd : Below w.heap.size w w5.drew := hB.drew
      have hId : Its w5.drew po out := hIo
      have vl2 : w.heap.size < w5.drew.heap.size := vl
      clear hIo hB hown HS v0 v1 v2 c0 c1 c2
      generalize w5.drew = u2 at *
      refine wpAnyH_ready (rs := [1]) (by kernel_rfl) (by simp) ?_
      refine (AllReadyH.cons rfl (fun K hK => ?_) AllReadyH.nil)
      have hone := heap_alloc_new u2 (.cells (icells [Y]).toArray 57)
      have hb3 := (Below.refl u2.heap.size u2).alloc (Nat.le_refl _) (.cells (icells [Y]).toArray 57)
      have hs3 : (u2.alloc (.cells (icells [Y]).toArray 57)).heap.size = u2.heap.size + 1 := by simp
      have hHeld2 := held_call (t := Y) hHeld hb3
      have hHX := Lib.hid (And.intro hone (And.intro hb3 hs3))
      clear hone hb3 hs3
      go_simp
      refine hK.out _ _ hHeld2 (fun hHeld => ?_)
      clear hK K hHeld2
      try simp only [Act.put, List.getElem_toArray, List.getElem_cons_zero, List.getElem_cons_succ, List.setIfInBounds_toArray, List.set_cons_zero, List.set_cons_succ]
      obtain ⟨hone, hb3, hs3⟩ := hHX.out
      have hB3 := BelowOn hBd hb3
      have hI3 := hId.call hb3
      have hcells : (u2.alloc (.cells #[.int .i64 Y.k, .string Y.t, .int .i64 Y.id] 57)) = (u2.alloc (.cells (icells [Y]).toArray 57)) := rfl
      rw [hcells]
      rw [hcells] at hHeld
      clear hcells hHX
      have hown : OwnT w.heap.size [Y] (.slice (some ⟨u2.heap.size, 0, none⟩) 1 1) _ := own_lit (L := [Y]) hone hBd.size (by simp) (by unfold maxLen; simp)
      generalize (u2.alloc (.cells (icells [Y]).toArray 57)) = u3 at *
      have hdr := its_row u3 po out hI3 kk hKl (if co = kk then po else Option.map (fun x => x.add (kk * 3)) po) (fun a ha hlt => by rw [if_neg (by omega), ha]; rfl)
      obtain ⟨v', u4, hrun, hown4, hg4⟩ := append_toks u3 22 w.heap.size [Y] (out.drop kk) _ _ (co - kk) hown hdr hB3.size (by simp; omega)
      rw [List.length_drop] at hrun
      replace hg4 : u3.grownBy u4 (some u2.heap.size) := hg4
      refine wpAnyH_ready (rs := [5]) (by kernel_rfl) (by simp) ?_
      refine AllReadyH.cons rfl (fun K hK => ?_) AllReadyH.nil
      have hB4 : Below w.heap.size w u4 := hB3.grown hg4 hB3.size (fun j hj => by injection hj with hj; have := hBd.size; omega)
      have hI4 : Its u4 po out := fun h0 => (Its.other (M := u2.heap.size) hI3 hg4 (fun a ha => by
        obtain ⟨b, e, hlt, _⟩ := hId h0
        have : a = b := by rw [ha] at e; injection e
        rw [this]; omega)) h0
      have hHeld4 := held_grow (t := Y) hHeld hg4 (by omega)
      have HX2 := Lib.hid (And.intro hown4 (And.intro hB4 hI4))
      clear hown hdr hown4 hB3 hI3 hB4 hI4 hg4 hone hb3 hs3 hId hBd
      refine step_of_wp rfl ?_
      refine Lib.wp_append_run u3 _ _ 22 22 rfl _ _ rfl rfl v' u4 hrun ?_
      refine hK.out _ _ hHeld4 (fun hHeld => ?_)
      clear hK K hHeld4
      try simp only [Act.put, List.getElem_toArray, List.getElem_cons_zero, List.getElem_cons_succ, List.setIfInBounds_toArray, List.set_cons_zero, List.set_cons_succ]
      refine wpAnyH_take (i := 6) (v := ?_) rfl (by kernel_rfl) (by kernel_rfl) (by kernel_rfl) (fun _ _ _ h => h) (Or.inl ⟨by rfl, ?_⟩) hHeld ?_
      rotate_left
      · (intro w hSw; skip; go_simp; try with_reducible rfl)
      try simp only [Act.put, List.getElem_toArray, List.getElem_cons_zero, List.getElem_cons_succ, List.setIfInBounds_toArray, List.set_cons_zero, List.set_cons_succ]
      refine wpAnyH_done (by kernel_rfl) ?_ _
      obtain ⟨hown4, hB4, hI4⟩ := HX2.out
      obtain ⟨p3, c3, rfl, h31, h32, h3⟩ := OwnT.its hown4
      have hlen : ([Y] ++ out.drop kk).length = 1 + (out.length - kk) := by simp; omega
      generalize hTT : [Y] ++ out.drop kk = TT at *
      have HTT := Lib.hid hTT; have HL := Lib.hid hlen; have HB4 := Lib.hid hB4
      clear hTT hlen hown4 HX2 hHeld hrun hB4
      have hl1 : TT.length ≤ 1001 := by have := HL.out; omega
      have tok : True := trivial
      have ht := its_takeD hI4 kk
      have hkl := Lib.hid (show kk = (out.take kk).length by simp; omega)
      have hS := Acc.start (e := 57) (size := 3) (enc := ienc) u4
      have HFIN := Lib.hid (txt_ins (X := Y) kk HOUT.out.1 HX.out)
      have HFL := Lib.hid (show (out.take kk ++ Y :: out.drop kk).length ≤ 40 by simp; omega)
      have HFE := Lib.hid (show out.take kk ++ Y :: out.drop kk = out.take kk ++ TT by rw [← HTT.out]; rfl)
      generalize out.take kk = T0 at *
      have hl0 : T0.length ≤ 1000 := by have := hkl.out; omega
      generalize (if co = kk then po else Option.map (fun x => x.add (kk * 3)) po) = pz at *
      go_wp2_with (first
        | (at_builtin; have _t := tok; refine wpl_catT rfl _ _ rfl u4 [] T0 _ rfl hS po _ co rfl hkl.out ht (by simp; omega) ?_; intro v1 u5 hA1; rw [List.nil_append] at hA1; clear tok)
        | (at_builtin; refine wpl_catT rfl _ _ rfl u4 T0 TT v1 rfl hA1 p3 _ c3 rfl rfl (h3.call hA1.below) (by omega) ?_; intro v2 u6 hA2; clear hA1))
      go_ret
      refine ⟨_, HFL.out, HFIN.out, _, rfl, BelowOn HB4.out hA2.below, ?_⟩
      rw [HFE.out]
      exact ownsRow_base hA2.own HB4.out.size
  have z1 : ((h : Int) == 1) = false := by simp; omega
  by_cases h2 : h = 2
  · have z2 : ((h : Int) == 2) = true := by simp; omega
    have fz0 : w4.frozen? ⟨w.heap.size, 0, none⟩ = false := by obtain ⟨cur, hcu⟩ := HS.out.2.2.1; exact Lib.frozen_of_heap hcu _
    have fz1 : w4.frozen? ⟨w.heap.size, 1, none⟩ = false := by obtain ⟨cur, hcu⟩ := HS.out.2.2.1; exact Lib.frozen_of_heap hcu _
    have fz2 : w4.frozen? ⟨w.heap.size, 2, none⟩ = false := by obtain ⟨cur, hcu⟩ := HS.out.2.2.1; exact Lib.frozen_of_heap hcu _
    have hX : newT.t.size ≤ 1000 := by decide
    go_upto_region 13 with (fail)
    obtain ⟨hO, hV, hf, hBw⟩ := HS.out
    have hgx : w4.grownBy (w4.setCells w.heap.size 0 [.int .i64 6, .string ⟨#[110, 101, 119]⟩, .int .i64 0]) (some w.heap.size) := setCells_grown _ w4 w.heap.size 0
    obtain ⟨cur, hcu⟩ := hf
    have hth : w4.there w.heap.size 0 3 := fun j hj => by
      refine ⟨?_, Lib.frozen_of_heap hcu _⟩
      match j, hj with
      | 0, _ => exact Option.isSome_iff_exists.2 ⟨_, hV.c0⟩
      | 1, _ => exact Option.isSome_iff_exists.2 ⟨_, hV.c1⟩
      | 2, _ => exact Option.isSome_iff_exists.2 ⟨_, hV.c2⟩
    have hra := World.rangeAt_setCells_same w4 w.heap.size 0 [.int .i64 6, .string ⟨#[110, 101, 119]⟩, .int .i64 0] hth
    have hV5 : Var3 (w4.setCells w.heap.size 0 [.int .i64 6, .string ⟨#[110, 101, 119]⟩, .int .i64 0]) w.heap.size 6 ⟨#[110, 101, 119]⟩ 0 := ⟨hra 0 _ rfl, hra 1 _ rfl, hra 2 _ rfl, Nat.lt_of_lt_of_le hV.lt hgx.size⟩
    have hf5 : ∃ cur, (w4.setCells w.heap.size 0 [.int .i64 6, .string ⟨#[110, 101, 119]⟩, .int .i64 0]).heap[w.heap.size]? = some (.cells cur 57 (0, 0)) := ⟨_, setCells_row _ w4 w.heap.size 0 cur _ hcu⟩
    replace HS := Lib.hid (And.intro (OwnL.other hO hgx vl2) (And.intro hV5 (And.intro hf5 (below_of_grow hBw hgx hBw.size (Nat.le_refl _)))))
    clear hO hV hcu hBw hV5 hf5 hgx fz0 fz1 fz2 c0 c1 c2 cl hth hra
    have hws : (((w4.setCell ⟨w.heap.size, 0, none⟩ (.int .i64 6)).setCell ⟨w.heap.size, 1, none⟩ (.string ⟨#[110, 101, 119]⟩)).setCell ⟨w.heap.size, 2, none⟩ (.int .i64 0)) = w4.setCells w.heap.size 0 [.int .i64 6, .string ⟨#[110, 101, 119]⟩, .int .i64 0] := rfl
    rw [hws]
    clear hws
    generalize (w4.setCells w.heap.size 0 [.int .i64 6, .string ⟨#[110, 101, 119]⟩, .int .i64 0]) = w5 at *
    have HS0 := HS.out
    obtain ⟨Y, hY⟩ : ∃ Y : It, Y = newT := ⟨_, rfl⟩
    have hY0 : Y.k = 6 := by rw [hY]; rfl
    have hY1 : Y.t = ⟨#[110, 101, 119]⟩ := by rw [hY]; rfl
    have hY2 : Y.id = 0 := by rw [hY]; rfl
    rw [← hY] at hX
    rw [← hY0, ← hY1] at HS0
    replace HS0 : _ ∧ Var3 w5 w.heap.size Y.k Y.t Y.id ∧ _ := ⟨HS0.1, by rw [hY2]; exact HS0.2.1, HS0.2.2⟩
    replace HS := Lib.hid HS0
    clear hY hY0 hY1 hY2 HS0
    obtain ⟨c0, c1, c2, cl⟩ := HS.out.2.1
    have hwo : IntKind.i64.wrap ((out.length : Int) + 1) = (out.length : Int) + 1 := IntWalk.i64_in _ ⟨by omega, by omega⟩
    have p1 := Int.emod_nonneg to0 (show (out.length : Int) + 1 ≠ 0 by omega)
    have p2 := Int.emod_lt_of_pos to0 (show (0 : Int) < (out.length : Int) + 1 by omega)
    obtain ⟨K0, hK0⟩ : ∃ K : Nat, to0 % ((out.length : Int) + 1) = (K : Int) := ⟨(to0 % ((out.length : Int) + 1)).toNat, by omega⟩
    have P4 := P3.out out.length (by omega)
    rw [hK0] at P4 p1 p2
    have hK0l : K0 ≤ out.length := by omega
    clear hK0 p1 p2
    have HX := Lib.hid hX
    clear hX
    go_wp2_with fail
    refine (P4 _).mono ?_; rintro e w6 ⟨rfl, rfl⟩
    clear P4 P3 P2 hwo
    go_upto_if 55 with (fail)
    generalize (bits BinOp.and IntKind.i64 how0 4 == 0) = fl
    cases fl with
    | true =>
      have hKl : i ≤ out.length := by omega
      generalize i = kk at *
      have g1 : (kk : Int) ≤ (out.length : Int) := by omega
      have g0 : (0 : Int) ≤ (kk : Int) := by omega
      have g2 : (kk : Int) ≤ (co : Int) := by omega
      go_wp2_with fail
      have hB := HS.out.2.2.2; have hown := HS.out.1; have hVx := HS.out.2.1
      have hIo : Its w5 po out := by obtain ⟨p9, c9, e9, _, _, h9⟩ := OwnT.its hown; injection e9 with e9 _ _; subst e9; exact h9
      obtain ⟨v0, v1, v2, vl⟩ := hVx
      refine wp_region_held_drew (S := fun W => W.cell? ⟨w.heap.size, 0, none⟩ = some (.int .i64 Y.k) ∧ W.cell? ⟨w.heap.size, 1, none⟩ = some (.string Y.t) ∧ W.cell? ⟨w.heap.size, 2, none⟩ = some (.int .i64 Y.id)) (by kernel_rfl) ⟨v0, v1, v2⟩ (fun hHeld => ?_)
      refine wpAnyH_take (i := 0) (v := ?_) rfl (by kernel_rfl) (by kernel_rfl) (by kernel_rfl) (fun _ _ _ h => h) (Or.inl ⟨by rfl, ?_⟩) hHeld ?_
      rotate_left
      · (intro w hSw; obtain ⟨c0, c1, c2⟩ := hSw; go_simp; try with_reducible rfl)
      try simp only [Act.put, List.getElem_toArray, List.getElem_cons_zero, List.getElem_cons_succ, List.setIfInBounds_toArray, List.set_cons_zero, List.set_cons_succ]
      refine wpAnyH_take (i := 2) (v := ?_) rfl (by kernel_rfl) (by kernel_rfl) (by kernel_rfl) (fun _ _ _ h => h) (Or.inl ⟨by rfl, ?_⟩) hHeld ?_
      rotate_left
      · (intro w hSw; skip; go_simp; try with_reducible rfl)
      try simp only [Act.put, List.getElem_toArray, List.getElem_cons_zero, List.getElem_cons_succ, List.setIfInBounds_toArray, List.set_cons_zero, List.set_cons_succ]
      refine wpAnyH_take (i := 3) (v := ?_) rfl (by kernel_rfl) (by kernel_rfl) (by kernel_rfl) (fun _ _ _ h => h) (Or.inl ⟨by rfl, ?_⟩) hHeld ?_
      rotate_left
      · (intro w hSw; skip; go_simp; try with_reducible rfl)
      try simp only [Act.put, List.getElem_toArray, List.getElem_cons_zero, List.getElem_cons_succ, List.setIfInBounds_toArray, List.set_cons_zero, List.set_cons_succ]
      refine wpAnyH_take (i := 4) (v := ?_) rfl (by kernel_rfl) (by kernel_rfl) (by kernel_rfl) (fun _ _ _ h => h) (Or.inl ⟨by rfl, ?_⟩) hHeld ?_
      rotate_left
      · (intro w hSw; skip; go_simp; try with_reducible rfl)
      try simp only [Act.put, List.getElem_toArray, List.getElem_cons_zero, List.getElem_cons_succ, List.setIfInBounds_toArray, List.set_cons_zero, List.set_cons_succ]
      have hBd : Below w.heap.size w w5.drew := hB.drew
      have hId : Its w5.drew po out := hIo
      have vl2 : w.heap.size < w5.drew.heap.size := vl
      clear hIo hB hown HS v0 v1 v2 c0 c1 c2
      generalize w5.drew = u2 at *
      refine wpAnyH_ready (rs := [1]) (by kernel_rfl) (by simp) ?_
      refine (AllReadyH.cons rfl (fun K hK => ?_) AllReadyH.nil)
      have hone := heap_alloc_new u2 (.cells (icells [Y]).toArray 57)
      have hb3 := (Below.refl u2.heap.size u2).alloc (Nat.le_refl _) (.cells (icells [Y]).toArray 57)
      have hs3 : (u2.alloc (.cells (icells [Y]).toArray 57)).heap.size = u2.heap.size + 1 := by simp
      have hHeld2 := held_call (t := Y) hHeld hb3
      have hHX := Lib.hid (And.intro hone (And.intro hb3 hs3))
      clear hone hb3 hs3
      go_simp
      refine hK.out _ _ hHeld2 (fun hHeld => ?_)
      clear hK K hHeld2
      try simp only [Act.put, List.getElem_toArray, List.getElem_cons_zero, List.getElem_cons_succ, List.setIfInBounds_toArray, List.set_cons_zero, List.set_cons_succ]
      obtain ⟨hone, hb3, hs3⟩ := hHX.out
      have hB3 := BelowOn hBd hb3
      have hI3 := hId.call hb3
      have hcells : (u2.alloc (.cells #[.int .i64 Y.k, .string Y.t, .int .i64 Y.id] 57)) = (u2.alloc (.cells (icells [Y]).toArray 57)) := rfl
      rw [hcells]
      rw [hcells] at hHeld
      clear hcells hHX
      have hown : OwnT w.heap.size [Y] (.slice (some ⟨u2.heap.size, 0, none⟩) 1 1) _ := own_lit (L := [Y]) hone hBd.size (by simp) (by unfold maxLen; simp)
      generalize (u2.alloc (.cells (icells [Y]).toArray 57)) = u3 at *
      have hdr := its_row u3 po out hI3 kk hKl (if co = kk then po else Option.map (fun x => x.add (kk * 3)) po) (fun a ha hlt => by rw [if_neg (by omega), ha]; rfl)
      obtain ⟨v', u4, hrun, hown4, hg4⟩ := append_toks u3 22 w.heap.size [Y] (out.drop kk) _ _ (co - kk) hown hdr hB3.size (by simp; omega)
      rw [List.length_drop] at hrun
      replace hg4 : u3.grownBy u4 (some u2.heap.size) := hg4
      refine wpAnyH_ready (rs := [5]) (by kernel_rfl) (by simp) ?_
      refine AllReadyH.cons rfl (fun K hK => ?_) AllReadyH.nil
      have hB4 : Below w.heap.size w u4 := hB3.grown hg4 hB3.size (fun j hj => by injection hj with hj; have := hBd.size; omega)
      have hI4 : Its u4 po out := fun h0 => (Its.other (M := u2.heap.size) hI3 hg4 (fun a ha => by
        obtain ⟨b, e, hlt, _⟩ := hId h0
        have : a = b := by rw [ha] at e; injection e
        rw [this]; omega)) h0
      have hHeld4 := held_grow (t := Y) hHeld hg4 (by omega)
      have HX2 := Lib.hid (And.intro hown4 (And.intro hB4 hI4))
      clear hown hdr hown4 hB3 hI3 hB4 hI4 hg4 hone hb3 hs3 hId hBd
      refine step_of_wp rfl ?_
      refine Lib.wp_append_run u3 _ _ 22 22 rfl _ _ rfl rfl v' u4 hrun ?_
      refine hK.out _ _ hHeld4 (fun hHeld => ?_)
      clear hK K hHeld4
      try simp only [Act.put, List.getElem_toArray, List.getElem_cons_zero, List.getElem_cons_succ, List.setIfInBounds_toArray, List.set_cons_zero, List.set_cons_succ]
      refine wpAnyH_take (i := 6) (v := ?_) rfl (by kernel_rfl) (by kernel_rfl) (by kernel_rfl) (fun _ _ _ h => h) (Or.inl ⟨by rfl, ?_⟩) hHeld ?_
      rotate_left
      · (intro w hSw; skip; go_simp; try with_reducible rfl)
      try simp only [Act.put, List.getElem_toArray, List.getElem_cons_zero, List.getElem_cons_succ, List.setIfInBounds_toArray, List.set_cons_zero, List.set_cons_succ]
      refine wpAnyH_done (by kernel_rfl) ?_ _
      obtain ⟨hown4, hB4, hI4⟩ := HX2.out
      obtain ⟨p3, c3, rfl, h31, h32, h3⟩ := OwnT.its hown4
      have hlen : ([Y] ++ out.drop kk).length = 1 + (out.length - kk) := by simp; omega
      generalize hTT : [Y] ++ out.drop kk = TT at *
      have HTT := Lib.hid hTT; have HL := Lib.hid hlen; have HB4 := Lib.hid hB4
      clear hTT hlen hown4 HX2 hHeld hrun hB4
      have hl1 : TT.length ≤ 1001 := by have := HL.out; omega
      have tok : True := trivial
      have ht := its_takeD hI4 kk
      have hkl := Lib.hid (show kk = (out.take kk).length by simp; omega)
      have hS := Acc.start (e := 57) (size := 3) (enc := ienc) u4
      have HFIN := Lib.hid (txt_ins (X := Y) kk HOUT.out.1 HX.out)
      have HFL := Lib.hid (show (out.take kk ++ Y :: out.drop kk).length ≤ 40 by simp; omega)
      have HFE := Lib.hid (show out.take kk ++ Y :: out.drop kk = out.take kk ++ TT by rw [← HTT.out]; rfl)
      generalize out.take kk = T0 at *
      have hl0 : T0.length ≤ 1000 := by have := hkl.out; omega
      generalize (if co = kk then po else Option.map (fun x => x.add (kk * 3)) po) = pz at *
      go_wp2_with (first
        | (at_builtin; have _t := tok; refine wpl_catT rfl _ _ rfl u4 [] T0 _ rfl hS po _ co rfl hkl.out ht (by simp; omega) ?_; intro v1 u5 hA1; rw [List.nil_append] at hA1; clear tok)
        | (at_builtin; refine wpl_catT rfl _ _ rfl u4 T0 TT v1 rfl hA1 p3 _ c3 rfl rfl (h3.call hA1.below) (by omega) ?_; intro v2 u6 hA2; clear hA1))
      go_ret
      refine ⟨_, HFL.out, HFIN.out, _, rfl, BelowOn HB4.out hA2.below, ?_⟩
      rw [HFE.out]
      exact ownsRow_base hA2.own HB4.out.size
    | false =>
      have hKl : K0 ≤ out.length := by omega
      generalize K0 = kk at *
      have g1 : (kk : Int) ≤ (out.length : Int) := by omega
      have g0 : (0 : Int) ≤ (kk : Int) := by omega
      have g2 : (kk : Int) ≤ (co : Int) := by omega
      go_wp2_with fail
      have hB := HS.out.2.2.2; have hown := HS.out.1; have hVx := HS.out.2.1
      have hIo : Its w5 po out := by obtain ⟨p9, c9, e9, _, _, h9⟩ := OwnT.its hown; injection e9 with e9 _ _; subst e9; exact h9
      obtain ⟨v0, v1, v2, vl⟩ := hVx
      refine wp_region_held_drew (S := fun W => W.cell? ⟨w.heap.size, 0, none⟩ = some (.int .i64 Y.k) ∧ W.cell? ⟨w.heap.size, 1, none⟩ = some (.string Y.t) ∧ W.cell? ⟨w.heap.size, 2, none⟩ = some (.int .i64 Y.id)) (by kernel_rfl) ⟨v0, v1, v2⟩ (fun hHeld => ?_)
      refine wpAnyH_take (i := 0) (v := ?_) rfl (by kernel_rfl) (by kernel_rfl) (by kernel_rfl) (fun _ _ _ h => h) (Or.inl ⟨by rfl, ?_⟩) hHeld ?_
      rotate_left
      · (intro w hSw; obtain ⟨c0, c1, c2⟩ := hSw; go_simp; try with_reducible rfl)
      try simp only [Act.put, List.getElem_toArray, List.getElem_cons_zero, List.getElem_cons_succ, List.setIfInBounds_toArray, List.set_cons_zero, List.set_cons_succ]
      refine wpAnyH_take (i := 2) (v := ?_) rfl (by kernel_rfl) (by kernel_rfl) (by kernel_rfl) (fun _ _ _ h => h) (Or.inl ⟨by rfl, ?_⟩) hHeld ?_
      rotate_left
      · (intro w hSw; skip; go_simp; try with_reducible rfl)
      try simp only [Act.put, List.getElem_toArray, List.getElem_cons_zero, List.getElem_cons_succ, List.setIfInBounds_toArray, List.set_cons_zero, List.set_cons_succ]
      refine wpAnyH_take (i := 3) (v := ?_) rfl (by kernel_rfl) (by kernel_rfl) (by kernel_rfl) (fun _ _ _ h => h) (Or.inl ⟨by rfl, ?_⟩) hHeld ?_
      rotate_left
      · (intro w hSw; skip; go_simp; try with_reducible rfl)
      try simp only [Act.put, List.getElem_toArray, List.getElem_cons_zero, List.getElem_cons_succ, List.setIfInBounds_toArray, List.set_cons_zero, List.set_cons_succ]
      refine wpAnyH_take (i := 4) (v := ?_) rfl (by kernel_rfl) (by kernel_rfl) (by kernel_rfl) (fun _ _ _ h => h) (Or.inl ⟨by rfl, ?_⟩) hHeld ?_
      rotate_left
      · (intro w hSw; skip; go_simp; try with_reducible rfl)
      try simp only [Act.put, List.getElem_toArray, List.getElem_cons_zero, List.getElem_cons_succ, List.setIfInBounds_toArray, List.set_cons_zero, List.set_cons_succ]
      have hBd : Below w.heap.size w w5.drew := hB.drew
      have hId : Its w5.drew po out := hIo
      have vl2 : w.heap.size < w5.drew.heap.size := vl
      clear hIo hB hown HS v0 v1 v2 c0 c1 c2
      generalize w5.drew = u2 at *
      refine wpAnyH_ready (rs := [1]) (by kernel_rfl) (by simp) ?_
      refine (AllReadyH.cons rfl (fun K hK => ?_) AllReadyH.nil)
      have hone := heap_alloc_new u2 (.cells (icells [Y]).toArray 57)
      have hb3 := (Below.refl u2.heap.size u2).alloc (Nat.le_refl _) (.cells (icells [Y]).toArray 57)
      have hs3 : (u2.alloc (.cells (icells [Y]).toArray 57)).heap.size = u2.heap.size + 1 := by simp
      have hHeld2 := held_call (t := Y) hHeld hb3
      have hHX := Lib.hid (And.intro hone (And.intro hb3 hs3))
      clear hone hb3 hs3
      go_simp
      refine hK.out _ _ hHeld2 (fun hHeld => ?_)
      clear hK K hHeld2
      try simp only [Act.put, List.getElem_toArray, List.getElem_cons_zero, List.getElem_cons_succ, List.setIfInBounds_toArray, List.set_cons_zero, List.set_cons_succ]
      obtain ⟨hone, hb3, hs3⟩ := hHX.out
      have hB3 := BelowOn hBd hb3
      have hI3 := hId.call hb3
      have hcells : (u2.alloc (.cells #[.int .i64 Y.k, .string Y.t, .int .i64 Y.id] 57)) = (u2.alloc (.cells (icells [Y]).toArray 57)) := rfl
      rw [hcells]
      rw [hcells] at hHeld
      clear hcells hHX
      have hown : OwnT w.heap.size [Y] (.slice (some ⟨u2.heap.size, 0, none⟩) 1 1) _ := own_lit (L := [Y]) hone hBd.size (by simp) (by unfold maxLen; simp)
      generalize (u2.alloc (.cells (icells [Y]).toArray 57)) = u3 at *
      have hdr := its_row u3 po out hI3 kk hKl (if co = kk then po else Option.map (fun x => x.add (kk * 3)) po) (fun a ha hlt => by rw [if_neg (by omega), ha]; rfl)
      obtain ⟨v', u4, hrun, hown4, hg4⟩ := append_toks u3 22 w.heap.size [Y] (out.drop kk) _ _ (co - kk) hown hdr hB3.size (by simp; omega)
      rw [List.length_drop] at hrun
      replace hg4 : u3.grownBy u4 (some u2.heap.size) := hg4
      refine wpAnyH_ready (rs := [5]) (by kernel_rfl) (by simp) ?_
      refine AllReadyH.cons rfl (fun K hK => ?_) AllReadyH.nil
      have hB4 : Below w.heap.size w u4 := hB3.grown hg4 hB3.size (fun j hj => by injection hj with hj; have := hBd.size; omega)
      have hI4 : Its u4 po out := fun h0 => (Its.other (M := u2.heap.size) hI3 hg4 (fun a ha => by
        obtain ⟨b, e, hlt, _⟩ := hId h0
        have : a = b := by rw [ha] at e; injection e
        rw [this]; omega)) h0
      have hHeld4 := held_grow (t := Y) hHeld hg4 (by omega)
      have HX2 := Lib.hid (And.intro hown4 (And.intro hB4 hI4))
      clear hown hdr hown4 hB3 hI3 hB4 hI4 hg4 hone hb3 hs3 hId hBd
      refine step_of_wp rfl ?_
      refine Lib.wp_append_run u3 _ _ 22 22 rfl _ _ rfl rfl v' u4 hrun ?_
      refine hK.out _ _ hHeld4 (fun hHeld => ?_)
      clear hK K hHeld4
      try simp only [Act.put, List.getElem_toArray, List.getElem_cons_zero, List.getElem_cons_succ, List.setIfInBounds_toArray, List.set_cons_zero, List.set_cons_succ]
      refine wpAnyH_take (i := 6) (v := ?_) rfl (by kernel_rfl) (by kernel_rfl) (by kernel_rfl) (fun _ _ _ h => h) (Or.inl ⟨by rfl, ?_⟩) hHeld ?_
      rotate_left
      · (intro w hSw; skip; go_simp; try with_reducible rfl)
      try simp only [Act.put, List.getElem_toArray, List.getElem_cons_zero, List.getElem_cons_succ, List.setIfInBounds_toArray, List.set_cons_zero, List.set_cons_succ]
      refine wpAnyH_done (by kernel_rfl) ?_ _
      obtain ⟨hown4, hB4, hI4⟩ := HX2.out
      obtain ⟨p3, c3, rfl, h31, h32, h3⟩ := OwnT.its hown4
      have hlen : ([Y] ++ out.drop kk).length = 1 + (out.length - kk) := by simp; omega
      generalize hTT : [Y] ++ out.drop kk = TT at *
      have HTT := Lib.hid hTT; have HL := Lib.hid hlen; have HB4 := Lib.hid hB4
      clear hTT hlen hown4 HX2 hHeld hrun hB4
      have hl1 : TT.length ≤ 1001 := by have := HL.out; omega
      have tok : True := trivial
      have ht := its_takeD hI4 kk
      have hkl := Lib.hid (show kk = (out.take kk).length by simp; omega)
      have hS := Acc.start (e := 57) (size := 3) (enc := ienc) u4
      have HFIN := Lib.hid (txt_ins (X := Y) kk HOUT.out.1 HX.out)
      have HFL := Lib.hid (show (out.take kk ++ Y :: out.drop kk).length ≤ 40 by simp; omega)
      have HFE := Lib.hid (show out.take kk ++ Y :: out.drop kk = out.take kk ++ TT by rw [← HTT.out]; rfl)
      generalize out.take kk = T0 at *
      have hl0 : T0.length ≤ 1000 := by have := hkl.out; omega
      generalize (if co = kk then po else Option.map (fun x => x.add (kk * 3)) po) = pz at *
      go_wp2_with (first
        | (at_builtin; have _t := tok; refine wpl_catT rfl _ _ rfl u4 [] T0 _ rfl hS po _ co rfl hkl.out ht (by simp; omega) ?_; intro v1 u5 hA1; rw [List.nil_append] at hA1; clear tok)
        | (at_builtin; refine wpl_catT rfl _ _ rfl u4 T0 TT v1 rfl hA1 p3 _ c3 rfl rfl (h3.call hA1.below) (by omega) ?_; intro v2 u6 hA2; clear hA1))
      go_ret
      refine ⟨_, HFL.out, HFIN.out, _, rfl, BelowOn HB4.out hA2.below, ?_⟩
      rw [HFE.out]
      exact ownsRow_base hA2.own HB4.out.size
  have z2 : ((h : Int) == 2) = false := by simp; omega
  have hX : X.t.size ≤ 1000 := by omega
  obtain ⟨Y, hY⟩ : ∃ Y : It, Y = X := ⟨_, rfl⟩
  subst hY
  have hwo : IntKind.i64.wrap ((out.length : Int) + 1) = (out.length : Int) + 1 := IntWalk.i64_in _ ⟨by omega, by omega⟩
  have p1 := Int.emod_nonneg to0 (show (out.length : Int) + 1 ≠ 0 by omega)
  have p2 := Int.emod_lt_of_pos to0 (show (0 : Int) < (out.length : Int) + 1 by omega)
  obtain ⟨K0, hK0⟩ : ∃ K : Nat, to0 % ((out.length : Int) + 1) = (K : Int) := ⟨(to0 % ((out.length : Int) + 1)).toNat, by omega⟩
  have P4 := P3.out out.length (by omega)
  rw [hK0] at P4 p1 p2
  have hK0l : K0 ≤ out.length := by omega
  clear hK0 p1 p2
  have HX := Lib.hid hX
  clear hX
  go_wp2_with fail
  refine (P4 _).mono ?_; rintro e w6 ⟨rfl, rfl⟩
  clear P4 P3 P2 hwo
  go_upto_if 55 with (fail)
  generalize (bits BinOp.and IntKind.i64 how0 4 == 0) = fl
  cases fl with
  | true =>
    have hKl : i ≤ out.length := by omega
    generalize i = kk at *
    have g1 : (kk : Int) ≤ (out.length : Int) := by omega
    have g0 : (0 : Int) ≤ (kk : Int) := by omega
    have g2 : (kk : Int) ≤ (co : Int) := by omega
    go_wp2_with fail
    have hB := HS.out.2.2.2; have hown := HS.out.1; have hVx := HS.out.2.1
    have hIo : Its w4 po out := by obtain ⟨p9, c9, e9, _, _, h9⟩ := OwnT.its hown; injection e9 with e9 _ _; subst e9; exact h9
    obtain ⟨v0, v1, v2, vl⟩ := hVx
    refine wp_region_held_drew (S := fun W => W.cell? ⟨w.heap.size, 0, none⟩ = some (.int .i64 Y.k) ∧ W.cell? ⟨w.heap.size, 1, none⟩ = some (.string Y.t) ∧ W.cell? ⟨w.heap.size, 2, none⟩ = some (.int .i64 Y.id)) (by kernel_rfl) ⟨v0, v1, v2⟩ (fun hHeld => ?_)
    refine wpAnyH_take (i := 0) (v := ?_) rfl (by kernel_rfl) (by kernel_rfl) (by kernel_rfl) (fun _ _ _ h => h) (Or.inl ⟨by rfl, ?_⟩) hHeld ?_
    rotate_left
    · (intro w hSw; obtain ⟨c0, c1, c2⟩ := hSw; go_simp; try with_reducible rfl)
    try simp only [Act.put, List.getElem_toArray, List.getElem_cons_zero, List.getElem_cons_succ, List.setIfInBounds_toArray, List.set_cons_zero, List.set_cons_succ]
    refine wpAnyH_take (i := 2) (v := ?_) rfl (by kernel_rfl) (by kernel_rfl) (by kernel_rfl) (fun _ _ _ h => h) (Or.inl ⟨by rfl, ?_⟩) hHeld ?_
    rotate_left
    · (intro w hSw; skip; go_simp; try with_reducible rfl)
    try simp only [Act.put, List.getElem_toArray, List.getElem_cons_zero, List.getElem_cons_succ, List.setIfInBounds_toArray, List.set_cons_zero, List.set_cons_succ]
    refine wpAnyH_take (i := 3) (v := ?_) rfl (by kernel_rfl) (by kernel_rfl) (by kernel_rfl) (fun _ _ _ h => h) (Or.inl ⟨by rfl, ?_⟩) hHeld ?_
    rotate_left
    · (intro w hSw; skip; go_simp; try with_reducible rfl)
    try simp only [Act.put, List.getElem_toArray, List.getElem_cons_zero, List.getElem_cons_succ, List.setIfInBounds_toArray, List.set_cons_zero, List.set_cons_succ]
    refine wpAnyH_take (i := 4) (v := ?_) rfl (by kernel_rfl) (by kernel_rfl) (by kernel_rfl) (fun _ _ _ h => h) (Or.inl ⟨by rfl, ?_⟩) hHeld ?_
    rotate_left
    · (intro w hSw; skip; go_simp; try with_reducible rfl)
    try simp only [Act.put, List.getElem_toArray, List.getElem_cons_zero, List.getElem_cons_succ, List.setIfInBounds_toArray, List.set_cons_zero, List.set_cons_succ]
    have hBd : Below w.heap.size w w4.drew := hB.drew
    have hId : Its w4.drew po out := hIo
    have vl2 : w.heap.size < w4.drew.heap.size := vl
    clear hIo hB hown HS v0 v1 v2 c0 c1 c2
    generalize w4.drew = u2 at *
    refine wpAnyH_ready (rs := [1]) (by kernel_rfl) (by simp) ?_
    refine (AllReadyH.cons rfl (fun K hK => ?_) AllReadyH.nil)
    have hone := heap_alloc_new u2 (.cells (icells [Y]).toArray 57)
    have hb3 := (Below.refl u2.heap.size u2).alloc (Nat.le_refl _) (.cells (icells [Y]).toArray 57)
    have hs3 : (u2.alloc (.cells (icells [Y]).toArray 57)).heap.size = u2.heap.size + 1 := by simp
    have hHeld2 := held_call (t := Y) hHeld hb3
    have hHX := Lib.hid (And.intro hone (And.intro hb3 hs3))
    clear hone hb3 hs3
    go_simp
    refine hK.out _ _ hHeld2 (fun hHeld => ?_)
    clear hK K hHeld2
    try simp only [Act.put, List.getElem_toArray, List.getElem_cons_zero, List.getElem_cons_succ, List.setIfInBounds_toArray, List.set_cons_zero, List.set_cons_succ]
    obtain ⟨hone, hb3, hs3⟩ := hHX.out
    have hB3 := BelowOn hBd hb3
    have hI3 := hId.call hb3
    have hcells : (u2.alloc (.cells #[.int .i64 Y.k, .string Y.t, .int .i64 Y.id] 57)) = (u2.alloc (.cells (icells [Y]).toArray 57)) := rfl
    rw [hcells]
    rw [hcells] at hHeld
    clear hcells hHX
    have hown : OwnT w.heap.size [Y] (.slice (some ⟨u2.heap.size, 0, none⟩) 1 1) _ := own_lit (L := [Y]) hone hBd.size (by simp) (by unfold maxLen; simp)
    generalize (u2.alloc (.cells (icells [Y]).toArray 57)) = u3 at *
    have hdr := its_row u3 po out hI3 kk hKl (if co = kk then po else Option.map (fun x => x.add (kk * 3)) po) (fun a ha hlt => by rw [if_neg (by omega), ha]; rfl)
    obtain ⟨v', u4, hrun, hown4, hg4⟩ := append_toks u3 22 w.heap.size [Y] (out.drop kk) _ _ (co - kk) hown hdr hB3.size (by simp; omega)
    rw [List.length_drop] at hrun
    replace hg4 : u3.grownBy u4 (some u2.heap.size) := hg4
    refine wpAnyH_ready (rs := [5]) (by kernel_rfl) (by simp) ?_
    refine AllReadyH.cons rfl (fun K hK => ?_) AllReadyH.nil
    have hB4 : Below w.heap.size w u4 := hB3.grown hg4 hB3.size (fun j hj => by injection hj with hj; have := hBd.size; omega)
    have hI4 : Its u4 po out := fun h0 => (Its.other (M := u2.heap.size) hI3 hg4 (fun a ha => by
      obtain ⟨b, e, hlt, _⟩ := hId h0
      have : a = b := by rw [ha] at e; injection e
      rw [this]; omega)) h0
    have hHeld4 := held_grow (t := Y) hHeld hg4 (by omega)
    have HX2 := Lib.hid (And.intro hown4 (And.intro hB4 hI4))
    clear hown hdr hown4 hB3 hI3 hB4 hI4 hg4 hone hb3 hs3 hId hBd
    refine step_of_wp rfl ?_
    refine Lib.wp_append_run u3 _ _ 22 22 rfl _ _ rfl rfl v' u4 hrun ?_
    refine hK.out _ _ hHeld4 (fun hHeld => ?_)
    clear hK K hHeld4
    try simp only [Act.put, List.getElem_toArray, List.getElem_cons_zero, List.getElem_cons_succ, List.setIfInBounds_toArray, List.set_cons_zero, List.set_cons_succ]
    refine wpAnyH_take (i := 6) (v := ?_) rfl (by kernel_rfl) (by kernel_rfl) (by kernel_rfl) (fun _ _ _ h => h) (Or.inl ⟨by rfl, ?_⟩) hHeld ?_
    rotate_left
    · (intro w hSw; skip; go_simp; try with_reducible rfl)
    try simp only [Act.put, List.getElem_toArray, List.getElem_cons_zero, List.getElem_cons_succ, List.setIfInBounds_toArray, List.set_cons_zero, List.set_cons_succ]
    refine wpAnyH_done (by kernel_rfl) ?_ _
    obtain ⟨hown4, hB4, hI4⟩ := HX2.out
    obtain ⟨p3, c3, rfl, h31, h32, h3⟩ := OwnT.its hown4
    have hlen : ([Y] ++ out.drop kk).length = 1 + (out.length - kk) := by simp; omega
    generalize hTT : [Y] ++ out.drop kk = TT at *
    have HTT := Lib.hid hTT; have HL := Lib.hid hlen; have HB4 := Lib.hid hB4
    clear hTT hlen hown4 HX2 hHeld hrun hB4
    have hl1 : TT.length ≤ 1001 := by have := HL.out; omega
    have tok : True := trivial
    have ht := its_takeD hI4 kk
    have hkl := Lib.hid (show kk = (out.take kk).length by simp; omega)
    have hS := Acc.start (e := 57) (size := 3) (enc := ienc) u4
    have HFIN := Lib.hid (txt_ins (X := Y) kk HOUT.out.1 HX.out)
    have HFL := Lib.hid (show (out.take kk ++ Y :: out.drop kk).length ≤ 40 by simp; omega)
    have HFE := Lib.hid (show out.take kk ++ Y :: out.drop kk = out.take kk ++ TT by rw [← HTT.out]; rfl)
    generalize out.take kk = T0 at *
    have hl0 : T0.length ≤ 1000 := by have := hkl.out; omega
    generalize (if co = kk then po else Option.map (fun x => x.add (kk * 3)) po) = pz at *
    go_wp2_with (first
      | (at_builtin; have _t := tok; refine wpl_catT rfl _ _ rfl u4 [] T0 _ rfl hS po _ co rfl hkl.out ht (by simp; omega) ?_; intro v1 u5 hA1; rw [List.nil_append] at hA1; clear tok)
      | (at_builtin; refine wpl_catT rfl _ _ rfl u4 T0 TT v1 rfl hA1 p3 _ c3 rfl rfl (h3.call hA1.below) (by omega) ?_; intro v2 u6 hA2; clear hA1))
    go_ret
    refine ⟨_, HFL.out, HFIN.out, _, rfl, BelowOn HB4.out hA2.below, ?_⟩
    rw [HFE.out]
    exact ownsRow_base hA2.own HB4.out.size
  | false =>
    have hKl : K0 ≤ out.length := by omega
    generalize K0 = kk at *
    have g1 : (kk : Int) ≤ (out.length : Int) := by omega
    have g0 : (0 : Int) ≤ (kk : Int) := by omega
    have g2 : (kk : Int) ≤ (co : Int) := by omega
    go_wp2_with fail
    have hB := HS.out.2.2.2; have hown := HS.out.1; have hVx := HS.out.2.1
    have hIo : Its w4 po out := by obtain ⟨p9, c9, e9, _, _, h9⟩ := OwnT.its hown; injection e9 with e9 _ _; subst e9; exact h9
    obtain ⟨v0, v1, v2, vl⟩ := hVx
    refine wp_region_held_drew (S := fun W => W.cell? ⟨w.heap.size, 0, none⟩ = some (.int .i64 Y.k) ∧ W.cell? ⟨w.heap.size, 1, none⟩ = some (.string Y.t) ∧ W.cell? ⟨w.heap.size, 2, none⟩ = some (.int .i64 Y.id)) (by kernel_rfl) ⟨v0, v1, v2⟩ (fun hHeld => ?_)
    refine wpAnyH_take (i := 0) (v := ?_) rfl (by kernel_rfl) (by kernel_rfl) (by kernel_rfl) (fun _ _ _ h => h) (Or.inl ⟨by rfl, ?_⟩) hHeld ?_
    rotate_left
    · (intro w hSw; obtain ⟨c0, c1, c2⟩ := hSw; go_simp; try with_reducible rfl)
    try simp only [Act.put, List.getElem_toArray, List.getElem_cons_zero, List.getElem_cons_succ, List.setIfInBounds_toArray, List.set_cons_zero, List.set_cons_succ]
    refine wpAnyH_take (i := 2) (v := ?_) rfl (by kernel_rfl) (by kernel_rfl) (by kernel_rfl) (fun _ _ _ h => h) (Or.inl ⟨by rfl, ?_⟩) hHeld ?_
    rotate_left
    · (intro w hSw; skip; go_simp; try with_reducible rfl)
    try simp only [Act.put, List.getElem_toArray, List.getElem_cons_zero, List.getElem_cons_succ, List.setIfInBounds_toArray, List.set_cons_zero, List.set_cons_succ]
    refine wpAnyH_take (i := 3) (v := ?_) rfl (by kernel_rfl) (by kernel_rfl) (by kernel_rfl) (fun _ _ _ h => h) (Or.inl ⟨by rfl, ?_⟩) hHeld ?_
    rotate_left
    · (intro w hSw; skip; go_simp; try with_reducible rfl)
    try simp only [Act.put, List.getElem_toArray, List.getElem_cons_zero, List.getElem_cons_succ, List.setIfInBounds_toArray, List.set_cons_zero, List.set_cons_succ]
    refine wpAnyH_take (i := 4) (v := ?_) rfl (by kernel_rfl) (by kernel_rfl) (by kernel_rfl) (fun _ _ _ h => h) (Or.inl ⟨by rfl, ?_⟩) hHeld ?_
    rotate_left
    · (intro w hSw; skip; go_simp; try with_reducible rfl)
    try simp only [Act.put, List.getElem_toArray, List.getElem_cons_zero, List.getElem_cons_succ, List.setIfInBounds_toArray, List.set_cons_zero, List.set_cons_succ]
    have hBd : Below w.heap.size w w4.drew := hB.drew
    have hId : Its w4.drew po out := hIo
    have vl2 : w.heap.size < w4.drew.heap.size := vl
    clear hIo hB hown HS v0 v1 v2 c0 c1 c2
    generalize w4.drew = u2 at *
    refine wpAnyH_ready (rs := [1]) (by kernel_rfl) (by simp) ?_
    refine (AllReadyH.cons rfl (fun K hK => ?_) AllReadyH.nil)
    have hone := heap_alloc_new u2 (.cells (icells [Y]).toArray 57)
    have hb3 := (Below.refl u2.heap.size u2).alloc (Nat.le_refl _) (.cells (icells [Y]).toArray 57)
    have hs3 : (u2.alloc (.cells (icells [Y]).toArray 57)).heap.size = u2.heap.size + 1 := by simp
    have hHeld2 := held_call (t := Y) hHeld hb3
    have hHX := Lib.hid (And.intro hone (And.intro hb3 hs3))
    clear hone hb3 hs3
    go_simp
    refine hK.out _ _ hHeld2 (fun hHeld => ?_)
    clear hK K hHeld2
    try simp only [Act.put, List.getElem_toArray, List.getElem_cons_zero, List.getElem_cons_succ, List.setIfInBounds_toArray, List.set_cons_zero, List.set_cons_succ]
    obtain ⟨hone, hb3, hs3⟩ := hHX.out
    have hB3 := BelowOn hBd hb3
    have hI3 := hId.call hb3
    have hcells : (u2.alloc (.cells #[.int .i64 Y.k, .string Y.t, .int .i64 Y.id] 57)) = (u2.alloc (.cells (icells [Y]).toArray 57)) := rfl
    rw [hcells]
    rw [hcells] at hHeld
    clear hcells hHX
    have hown : OwnT w.heap.size [Y] (.slice (some ⟨u2.heap.size, 0, none⟩) 1 1) _ := own_lit (L := [Y]) hone hBd.size (by simp) (by unfold maxLen; simp)
    generalize (u2.alloc (.cells (icells [Y]).toArray 57)) = u3 at *
    have hdr := its_row u3 po out hI3 kk hKl (if co = kk then po else Option.map (fun x => x.add (kk * 3)) po) (fun a ha hlt => by rw [if_neg (by omega), ha]; rfl)
    obtain ⟨v', u4, hrun, hown4, hg4⟩ := append_toks u3 22 w.heap.size [Y] (out.drop kk) _ _ (co - kk) hown hdr hB3.size (by simp; omega)
    rw [List.length_drop] at hrun
    replace hg4 : u3.grownBy u4 (some u2.heap.size) := hg4
    refine wpAnyH_ready (rs := [5]) (by kernel_rfl) (by simp) ?_
    refine AllReadyH.cons rfl (fun K hK => ?_) AllReadyH.nil
    have hB4 : Below w.heap.size w u4 := hB3.grown hg4 hB3.size (fun j hj => by injection hj with hj; have := hBd.size; omega)
    have hI4 : Its u4 po out := fun h0 => (Its.other (M := u2.heap.size) hI3 hg4 (fun a ha => by
      obtain ⟨b, e, hlt, _⟩ := hId h0
      have : a = b := by rw [ha] at e; injection e
      rw [this]; omega)) h0
    have hHeld4 := held_grow (t := Y) hHeld hg4 (by omega)
    have HX2 := Lib.hid (And.intro hown4 (And.intro hB4 hI4))
    clear hown hdr hown4 hB3 hI3 hB4 hI4 hg4 hone hb3 hs3 hId hBd
    refine step_of_wp rfl ?_
    refine Lib.wp_append_run u3 _ _ 22 22 rfl _ _ rfl rfl v' u4 hrun ?_
    refine hK.out _ _ hHeld4 (fun hHeld => ?_)
    clear hK K hHeld4
    try simp only [Act.put, List.getElem_toArray, List.getElem_cons_zero, List.getElem_cons_succ, List.setIfInBounds_toArray, List.set_cons_zero, List.set_cons_succ]
    refine wpAnyH_take (i := 6) (v := ?_) rfl (by kernel_rfl) (by kernel_rfl) (by kernel_rfl) (fun _ _ _ h => h) (Or.inl ⟨by rfl, ?_⟩) hHeld ?_
    rotate_left
    · (intro w hSw; skip; go_simp; try with_reducible rfl)
    try simp only [Act.put, List.getElem_toArray, List.getElem_cons_zero, List.getElem_cons_succ, List.setIfInBounds_toArray, List.set_cons_zero, List.set_cons_succ]
    refine wpAnyH_done (by kernel_rfl) ?_ _
    obtain ⟨hown4, hB4, hI4⟩ := HX2.out
    obtain ⟨p3, c3, rfl, h31, h32, h3⟩ := OwnT.its hown4
    have hlen : ([Y] ++ out.drop kk).length = 1 + (out.length - kk) := by simp; omega
    generalize hTT : [Y] ++ out.drop kk = TT at *
    have HTT := Lib.hid hTT; have HL := Lib.hid hlen; have HB4 := Lib.hid hB4
    clear hTT hlen hown4 HX2 hHeld hrun hB4
    have hl1 : TT.length ≤ 1001 := by have := HL.out; omega
    have tok : True := trivial
    have ht := its_takeD hI4 kk
    have hkl := Lib.hid (show kk = (out.take kk).length by simp; omega)
    have hS := Acc.start (e := 57) (size := 3) (enc := ienc) u4
    have HFIN := Lib.hid (txt_ins (X := Y) kk HOUT.out.1 HX.out)
    have HFL := Lib.hid (show (out.take kk ++ Y :: out.drop kk).length ≤ 40 by simp; omega)
    have HFE := Lib.hid (show out.take kk ++ Y :: out.drop kk = out.take kk ++ TT by rw [← HTT.out]; rfl)
    generalize out.take kk = T0 at *
    have hl0 : T0.length ≤ 1000 := by have := hkl.out; omega
    generalize (if co = kk then po else Option.map (fun x => x.add (kk * 3)) po) = pz at *
    go_wp2_with (first
      | (at_builtin; have _t := tok; refine wpl_catT rfl _ _ rfl u4 [] T0 _ rfl hS po _ co rfl hkl.out ht (by simp; omega) ?_; intro v1 u5 hA1; rw [List.nil_append] at hA1; clear tok)
      | (at_builtin; refine wpl_catT rfl _ _ rfl u4 T0 TT v1 rfl hA1 p3 _ c3 rfl rfl (h3.call hA1.below) (by omega) ?_; intro v2 u6 hA2; clear hA1))
    go_ret
    refine ⟨_, HFL.out, HFIN.out, _, rfl, BelowOn HB4.out hA2.below, ?_⟩
    rw [HFE.out]
    exact ownsRow_base hA2.own HB4.out.size
end Go.Proofs.Ytpkipdiecnokhaa
namespace Go.Proofs.Ytpkipdiecnokhaa
open Go.ChangeShapes Go.WideShapes Go.ChangeAt Go.RowKit Go.Sort
set_option linter.unusedVariables false
set_option linter.unusedSimpArgs false
set_option maxRecDepth 100000

set_option maxHeartbeats 12800000 in
theorem says_law (p0 : Option Addr) (c0 : Nat) (l : List Int) (p1 : Option Addr) (c1 : Nat) (m : List Int) (at0 to0 how0 : Int) (w : World)
    (r0 : Ones w (Value.int .i64) p0 l) (o0 : ∀ i (h : i < l.length), (Lit.int .i64 (l[i]'h)).wf = true) (n0 : l.length ≤ c0) (m0 : c0 ≤ maxLen)
    (r1 : Ones w (Value.int .i64) p1 m) (o1 : ∀ i (h : i < m.length), (Lit.int .i64 (m[i]'h)).wf = true) (n1 : m.length ≤ c1) (m1 : c1 ≤ maxLen) (wa : (Lit.int .i64 at0).wf = true) (wt : (Lit.int .i64 to0).wf = true) (wh : (Lit.int .i64 how0).wf = true) :
    Calls Try.prog 10 #[.slice p0 l.length c0, .slice p1 m.length c1, .int .i64 at0, .int .i64 to0, .int .i64 how0] w fun e w' => e = .returned (.bool true) ∧ Below w.heap.size w w' := by
  have M0 := Lib.hid (dmade_any p0 c0 l 16 w r0 o0 n0 m0 (by omega))
  have M1 := Lib.hid (fun W h => dmade_any p1 c1 m 16 W h o1 n1 m1 (by omega))
  have CH := Lib.hid (fun W p c (h : Dr W p c (mkD l 16)) => changed_any p c (mkD l 16) at0 to0 how0 W h.its h.le h.cm (by have := mkD_len l 16; omega) (mkD_txt9 l 16) wa wt wh)
  have R1 := Lib.hid r1
  unfold maxLen at m0 m1
  clear r0 r1 o0 o1 wa wt wh
  have leave : ∀ W, Below w.heap.size w W → Calls Try.prog 26 #[] W fun e w' => e = .returned (.bool true) ∧ Below w.heap.size w w' := fun W h => (known_any W).mono (fun e w' hh => ⟨hh.1, BelowOn h hh.2⟩)
  have LV := Lib.hid leave
  clear leave
  by_cases z0 : 60 < l.length
  · go_enter Try.func10, Try.ntmps10
    go_wp2_with fail
    refine (LV.out _ (Below.refl _ _)).mono ?_; rintro e w1 ⟨rfl, hb⟩
    go_wp2_with fail
    go_ret
    exact ⟨rfl, hb⟩
  by_cases z1 : 60 < m.length
  · go_enter Try.func10, Try.ntmps10
    go_wp2_with fail
    refine (LV.out _ (Below.refl _ _)).mono ?_; rintro e w1 ⟨rfl, hb⟩
    go_wp2_with fail
    go_ret
    exact ⟨rfl, hb⟩
  go_enter Try.func10, Try.ntmps10
  go_wp2_with fail
  refine M0.out.mono ?_; rintro e w1 hE
  obtain ⟨pa, ca, rfl, hA, hb1⟩ := dr_made (by omega) hE
  clear hE M0
  go_wp2_with fail
  refine (M1.out _ (R1.out.call hb1)).mono ?_; rintro e w2 hE
  obtain ⟨pb, cb, rfl, hB, hb2⟩ := dr_made (by omega) hE
  replace hA := hA.call hb2
  have hW := BelowOn hb1 hb2
  clear hE hb1 hb2 M1 R1
  have hch := CH.out w2 pa ca hA
  clear CH
  generalize mkD l 16 = A at *
  generalize mkD m 16 = B at *
  have HQ := Lib.hid (And.intro hA (And.intro hB hW))
  clear hA hB hW
  go_wp2_with fail
  refine hch.mono ?_; rintro e w3 ⟨C, hCl, hCt, hE⟩
  obtain ⟨pc, cc, rfl, hC1, hC2, hCI, hb3⟩ := EndT.f hE
  have hC : Dr w3 pc cc C := ⟨hCI, hC1, hC2, hCl, hCt⟩
  replace HQ := Lib.hid (And.intro (HQ.out.1.call hb3) (And.intro (HQ.out.2.1.call hb3) (And.intro hC (BelowOn HQ.out.2.2 hb3))))
  clear hE hC hC1 hC2 hCI hb3 hch hCl hCt
  have hh := HQ.out.1.dist HQ.out.2.1
  go_wp2_with fail
  refine hh.mono ?_; rintro e w4 ⟨rfl, hb⟩
  replace HQ := Lib.hid (And.intro (HQ.out.1.call hb) (And.intro (HQ.out.2.1.call hb) (And.intro (HQ.out.2.2.1.call hb) (BelowOn HQ.out.2.2.2 hb))))
  clear hh hb
  have hh := HQ.out.1.rdist HQ.out.2.1
  go_wp2_with fail
  refine hh.mono ?_; rintro e w5 ⟨rfl, hb⟩
  replace HQ := Lib.hid (And.intro (HQ.out.1.call hb) (And.intro (HQ.out.2.1.call hb) (And.intro (HQ.out.2.2.1.call hb) (BelowOn HQ.out.2.2.2 hb))))
  clear hh hb
  generalize dis A B = D9 at *
  have hh := HQ.out.1.dist HQ.out.2.2.1
  go_wp2_with fail
  refine hh.mono ?_; rintro e w6 ⟨rfl, hb⟩
  replace HQ := Lib.hid (And.intro (HQ.out.1.call hb) (And.intro (HQ.out.2.1.call hb) (And.intro (HQ.out.2.2.1.call hb) (BelowOn HQ.out.2.2.2 hb))))
  clear hh hb
  have hh := HQ.out.1.rdist HQ.out.2.2.1
  go_wp2_with fail
  refine hh.mono ?_; rintro e w7 ⟨rfl, hb⟩
  replace HQ := Lib.hid (And.intro (HQ.out.1.call hb) (And.intro (HQ.out.2.1.call hb) (And.intro (HQ.out.2.2.1.call hb) (BelowOn HQ.out.2.2.2 hb))))
  clear hh hb
  generalize dis A C = D8 at *
  have HSE := Lib.hid (fun W p q c d (hA : Eds W p (scr 0 0 A B)) (hB : Eds W q (scr 0 0 A B)) h1 h2 h3 h4 => sameedits_any p q c d (scr 0 0 A B) W hA hB h1 h2 h3 h4)
  have hh := HQ.out.1.align HQ.out.2.1
  go_wp2_with fail
  refine hh.mono ?_; rintro e w8 ⟨r, f, rfl, f1, f2, hEd, hb⟩
  replace HQ := Lib.hid (And.intro (HQ.out.1.call hb) (And.intro (HQ.out.2.1.call hb) (And.intro (HQ.out.2.2.1.call hb) (BelowOn HQ.out.2.2.2 hb))))
  clear hh hb
  have HE := Lib.hid hEd
  clear hEd
  have h4 := HQ.out.1.ralign HQ.out.2.1
  generalize scr 0 0 A B = S1 at *
  go_wp2_with fail
  refine h4.mono ?_; rintro e w9 ⟨r2, f2', rfl, f3, f4, hE2, hb⟩
  replace HQ := Lib.hid (And.intro (HQ.out.1.call hb) (And.intro (HQ.out.2.1.call hb) (And.intro (HQ.out.2.2.1.call hb) (BelowOn HQ.out.2.2.2 hb))))
  have h5 := HSE.out w9 r r2 f f2' (HE.out.call hb) hE2 f1 f3 f2 f4
  clear h4 hb hE2 HE HSE
  go_wp2_with fail
  refine h5.mono ?_; rintro e w10 ⟨rfl, hb⟩
  replace HQ := Lib.hid (And.intro (HQ.out.1.call hb) (And.intro (HQ.out.2.1.call hb) (And.intro (HQ.out.2.2.1.call hb) (BelowOn HQ.out.2.2.2 hb))))
  clear h5 hb f1 f2 f3 f4
  have HSE := Lib.hid (fun W p q c d (hA : Eds W p (scr 0 0 A C)) (hB : Eds W q (scr 0 0 A C)) h1 h2 h3 h4 => sameedits_any p q c d (scr 0 0 A C) W hA hB h1 h2 h3 h4)
  have hh := HQ.out.1.align HQ.out.2.2.1
  go_wp2_with fail
  refine hh.mono ?_; rintro e w11 ⟨r, f, rfl, f1, f2, hEd, hb⟩
  replace HQ := Lib.hid (And.intro (HQ.out.1.call hb) (And.intro (HQ.out.2.1.call hb) (And.intro (HQ.out.2.2.1.call hb) (BelowOn HQ.out.2.2.2 hb))))
  clear hh hb
  have HE := Lib.hid hEd
  clear hEd
  have h4 := HQ.out.1.ralign HQ.out.2.2.1
  generalize scr 0 0 A C = S2 at *
  go_wp2_with fail
  refine h4.mono ?_; rintro e w12 ⟨r2, f2', rfl, f3, f4, hE2, hb⟩
  replace HQ := Lib.hid (And.intro (HQ.out.1.call hb) (And.intro (HQ.out.2.1.call hb) (And.intro (HQ.out.2.2.1.call hb) (BelowOn HQ.out.2.2.2 hb))))
  have h5 := HSE.out w12 r r2 f f2' (HE.out.call hb) hE2 f1 f3 f2 f4
  clear h4 hb hE2 HE HSE
  go_wp2_with fail
  refine h5.mono ?_; rintro e w13 ⟨rfl, hb⟩
  replace HQ := Lib.hid (And.intro (HQ.out.1.call hb) (And.intro (HQ.out.2.1.call hb) (And.intro (HQ.out.2.2.1.call hb) (BelowOn HQ.out.2.2.2 hb))))
  clear h5 hb f1 f2 f3 f4
  go_wp2_with fail
  refine (LV.out _ HQ.out.2.2.2).mono ?_; rintro e w99 ⟨rfl, hb⟩
  go_wp2_with fail
  go_ret
  exact ⟨rfl, hb⟩
end Go.Proofs.Ytpkipdiecnokhaa
namespace Go.Proofs.Ytpkipdiecnokhaa.distanceSays
open Go.ChangeShapes Go.WideShapes Go.ChangeAt Go.RowKit
open Go.ChangeMaps (open_string shut_string)
set_option linter.unusedVariables false
set_option maxRecDepth 100000

theorem own : ownKnob Try.prog.godebug = none := by kernel_rfl
theorem laidOut : laidOutB Try.prog = true := by kernel_rfl


set_option maxHeartbeats 1600000 in
theorem walk (p0 : Option Addr) (c0 : Nat) (a0 : List Int) (p1 : Option Addr) (c1 : Nat) (a1 : List Int) (a2 : Int) (a3 : Int) (a4 : Int) (w : World) (r0 : Ones w (Value.int .i64) p0 a0) (o0 : ∀ i (h : i < a0.length), (Lit.int .i64 (a0[i]'h)).wf = true) (n0 : a0.length ≤ c0) (m0 : c0 ≤ maxLen) (r1 : Ones w (Value.int .i64) p1 a1) (o1 : ∀ i (h : i < a1.length), (Lit.int .i64 (a1[i]'h)).wf = true) (n1 : a1.length ≤ c1) (m1 : c1 ≤ maxLen) (w2 : (Lit.int .i64 a2).wf = true) (w3 : (Lit.int .i64 a3).wf = true) (w4 : (Lit.int .i64 a4).wf = true) :
    Calls Try.prog 10 #[.slice p0 a0.length c0, .slice p1 a1.length c1, .int .i64 a2, .int .i64 a3, .int .i64 a4] w fun e w' => e = .returned (.bool true) ∧ Below w.heap.size w w' := by
  exact says_law p0 c0 a0 p1 c1 a1 a2 a3 a4 w r0 o0 n0 m0 r1 o1 n1 m1 w2 w3 w4

theorem lifted (os : Os) (started : os.Started) (H : Type) (enc : TypeId × Value → H) :
    ReturnsInHanded {} Try.checked os 10 .any (Rows.distanceSaysSpec.pre6 enc Try.prog Try.f10 Rows.distanceSaysRow.domain false) (Rows.distanceSaysSpec.post enc Try.prog Try.f10 false true false false) := by
  refine returnsInHanded_of_change_sized (C := Try.checked) own started (by kernel_rfl) Try.func10
    (ChangeSpec.witness6 (enc := enc) (C := Try.checked) false ⟨#[], #[.slice none 0 0, .slice none 0 0, .int .i64 0, .int .i64 0, .int .i64 0], []⟩ 8 (by kernel_rfl) (by kernel_rfl) (by kernel_rfl) (by kernel_rfl)) ?_
  intro W base args ds gs before hval0 hW hcnd hsz0 _
  have hval : ∀ (j : Nat) t v, Try.f10.params[j]? = some t → args[j]? = some v → Value.okWide Try.prog W .any base t v := hval0
  have hW' := hW
  have hlt : ∀ x ∈ before, x.block < W.heap.size := fun x hx => hW'.lt x hx
  obtain ⟨p, q, hA0, hV, rfl, hfz, hnd⟩ := hW
  have hA : DataW.TrodAll enc Try.prog W 0 (fun _ => true) true Try.f10.params.toList args.toList ds p := hA0
  rw [Try.params10] at hA hval hsz0
  obtain ⟨v0, vs0, d0, ds0, p0, q0, hargs, rfl, rfl, h0, r0⟩ := trodAll_cons hA
  obtain ⟨v1, vs1, d1, ds1, p1, q1, rfl, rfl, rfl, h1, r1⟩ := trodAll_cons r0
  obtain ⟨v2, vs2, d2, ds2, p2, q2, rfl, rfl, rfl, h2, r2⟩ := trodAll_cons r1
  obtain ⟨v3, vs3, d3, ds3, p3, q3, rfl, rfl, rfl, h3, r3⟩ := trodAll_cons r2
  obtain ⟨v4, vs4, d4, ds4, p4, q4, rfl, rfl, rfl, h4, r4⟩ := trodAll_cons r3
  obtain ⟨rfl, rfl, rfl⟩ := trodAll_nil r4
  obtain rfl : args = #[v0, v1, v2, v3, v4] := by cases args; simp_all
  obtain ⟨rfl, rfl⟩ := trodVars_none hV
  have hsz := hsz0; clear hsz0
  obtain ⟨pp0, c0, a0, rfl, n0, m0, y0, o0⟩ := opened_ints (okBase (hval 0 23 v0 rfl rfl)) h0
  obtain ⟨pp1, c1, a1, rfl, n1, m1, y1, o1⟩ := opened_ints (okBase (hval 1 23 v1 rfl rfl)) h1
  obtain ⟨a2, rfl, -, -, w2⟩ := open_int Try.underlying3 (hval 2 3 v2 rfl rfl) h2
  obtain ⟨a3, rfl, -, -, w3⟩ := open_int Try.underlying3 (hval 3 3 v3 rfl rfl) h3
  obtain ⟨a4, rfl, -, -, w4⟩ := open_int Try.underlying3 (hval 4 3 v4 rfl rfl) h4
  clear hA0 hval0
  refine (walk pp0 c0 a0 pp1 c1 a1 a2 a3 a4 W y0 o0 n0 m0 y1 o1 n1 m1 w2 w3 w4).mono fun e W' ⟨he, bel⟩ => ?_
  subst he
  exact ⟨_, rfl, _, _, _, [], _, [], hW', trodAll_mk1 (shut_bool Try.underlying4 _), (trodAll_cons_mk (Below.trod laidOut (by kernel_rfl) (of_decide_eq_true (by kernel_rfl)) h0 bel (fun x hx => hlt x (by simp [hx]))) (trodAll_cons_mk (Below.trod laidOut (by kernel_rfl) (of_decide_eq_true (by kernel_rfl)) h1 bel (fun x hx => hlt x (by simp [hx]))) (trodAll_cons_mk (Below.trod laidOut (by kernel_rfl) (of_decide_eq_true (by kernel_rfl)) h2 bel (fun x hx => hlt x (by simp [hx]))) (trodAll_cons_mk (Below.trod laidOut (by kernel_rfl) (of_decide_eq_true (by kernel_rfl)) h3 bel (fun x hx => hlt x (by simp [hx]))) (trodAll_cons_mk (Below.trod laidOut (by kernel_rfl) (of_decide_eq_true (by kernel_rfl)) h4 bel (fun x hx => hlt x (by simp [hx]))) trodAll_mk0))))), rfl, bel.frame _, fun h => by cases h⟩

theorem over : Rows.distanceSaysRow.holds Try.pinned (OpenSpec.ofChange Rows.distanceSaysSpec) :=
  OpenClaim.holds_of_wide 10 Try.f10 rfl rfl rfl rfl rfl rfl rfl ⟨rfl, rfl, rfl, rfl, rfl⟩ rfl rfl rfl rfl rfl (by kernel_rfl) Try.func10 (by kernel_rfl)
    (of_decide_eq_true (by kernel_rfl)) (by unfold Func.isWrapper; first | (rw [if_pos (by decide +kernel)]; kernel_rfl) | (rw [if_neg (by decide +kernel)]; exact ⟨rfl, rfl⟩))
    (fun os started H enc _ => lifted os started H enc)

theorem proved : Rows.DistanceSaysSaid := over
#print axioms proved
end Go.Proofs.Ytpkipdiecnokhaa.distanceSays
