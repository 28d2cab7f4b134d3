/- Contract of fill. Contract of firstCell. Maps from tags to numbers; contracts of count and surplus. Contract of Distance; the laws' generator; the fixed example. The fixed example; the laws' generator. The walk of DistanceMetric. The walk of DistanceJoins. -/
import Derived.Test.YthfgpagmepdblaaGreatDtC
import Derived.Test.YthfgpagmepdblaaGreatDtA
import Derived.Test.YthfgpagmepdblaaGreatDtB
import Derived.Test.YthfgpagmepdblaaGreatMap
import Derived.Test.YthfgpagmepdblaaGreatVal
import Derived.DeepKeys4
import Derived.WideKeyEntry
import Derived.Test.YthfgpagmepdblaaGreatItD
import Derived.WalkKit
import Derived.Maps.Ext
import Derived.Maps.RangeWalk
import Derived.Laws.IdiomRangeMap
import Derived.Deep.LoopGhost
import Derived.Test.YthfgpagmepdblaaGreatDtU
namespace Go.Proofs.YthfgpagmepdblaaGreat
open Go.ChangeShapes Go.WideShapes Go.ChangeAt Go.RowKit Go.Sort
set_option linter.unusedVariables false
set_option linter.unusedSimpArgs false
set_option maxRecDepth 100000

def ShareQ (A : Nat → Act) (F : Nat → World → Prop) (e : Exit) (a : Act) (w : World) : Prop :=
  match e with
  | .normal => ∃ gb, a = A gb ∧ F gb w
  | _ => False
/-- What stands behind a region whose orders differ in where a new variable lies is walked once. -/
theorem wp_share {P : Program} {c : Code} {Q : Exit → Act → World → Prop} {a : Act} {w : World} (F : Nat → World → Prop) (h : ∃ A : Nat → Act, c.wp P (ShareQ A F) a w ∧ ∀ gb w', F gb w' → Q .normal (A gb) w') : c.wp P Q a w := by
  obtain ⟨A, h1, h2⟩ := h
  refine Code.wp_mono (fun e a' w' h => ?_) h1
  cases e with
  | normal => obtain ⟨gb, rfl, hF⟩ := h; exact h2 gb w' hF
  | _ => exact h.elim
def rowT (n : Nat) (f : Nat → Ce) : List Ce := (List.range (n + 1)).map f
theorem rowT_len (n : Nat) (f : Nat → Ce) : (rowT n f).length = n + 1 := by simp [rowT]
theorem rowT_at (n : Nat) (f : Nat → Ce) (j : Nat) (h : j < n + 1) : (rowT n f)[j]'(by rw [rowT_len]; exact h) = f j := by simp [rowT]
def cellB (a b : List It) (cF : Nat → Nat) (j : Nat) : Ce := ⟨dst a (b.drop j), cF j⟩
def cellR (x : It) (a b : List It) (cF : Nat → Nat) (j : Nat) : Ce := ⟨dst (x :: a) (b.drop j), rowK x a cF (b.drop j) j⟩
theorem mix_prev {α : Type} (A B : List α) (k : Nat) (hk : k < A.length) (hl : A.length = B.length) : (A.take (k + 1) ++ B.drop (k + 1)).set k (B[k]'(by omega)) = A.take k ++ B.drop k := by
  have h1 : (A.take k).length = k := by simp; omega
  rw [List.take_succ_eq_append_getElem hk, List.append_assoc, List.set_append_right _ _ (by omega), h1, Nat.sub_self]
  rw [List.drop_eq_getElem_cons (show k < B.length by omega)]
  rfl
theorem mix_hi {α : Type} (A B : List α) (k j : Nat) (hk : k ≤ A.length) (hl : A.length = B.length) (hj : j < A.length) (hkj : k ≤ j) : (A.take k ++ B.drop k)[j]'(by rw [mix_len A B k hk hl]; exact hj) = B[j]'(by omega) := by
  have h1 : (A.take k).length = k := by simp; omega
  rw [List.getElem_append_right (by omega)]
  simp [h1, Nat.add_sub_of_le hkj]
theorem PtA.other {W W' : World} {b o : Nat} {x : It} {ix : Int} (h : PtA W ⟨b, o, none⟩ x ix) {g : Nat} (hg : W.grownBy W' (some g)) (hne : b ≠ g) : PtA W' ⟨b, o, none⟩ x ix := by
  have hb : W'.heap[b]? = W.heap[b]? := hg.block b h.lt (fun e => hne (by injection e))
  have k : ∀ j, W'.cell? ⟨b, o + j, none⟩ = W.cell? ⟨b, o + j, none⟩ := fun j => World.cell?_of_block (w := W) (a := ⟨b, o + j, none⟩) hb
  exact ⟨Nat.lt_of_lt_of_le h.lt hg.size, (k 0).trans h.c0, (k 1).trans h.c1, (k 2).trans h.c2, (k 3).trans h.c3, (k 4).trans h.c4, (k 5).trans h.c5, (k 6).trans h.c6⟩
theorem cell_of_h {W : World} {g : Nat} {cs : Array Value} {t : TypeId} (h : W.heap[g]? = some (.cells cs t (0, 0))) (j : Nat) (v : Value) (hv : cs[j]? = some v) : W.cell? ⟨g, j, none⟩ = some v := by
  rw [Lib.cell_of_heap h]; exact hv
theorem growOf {w w' : World} (h : Below w.heap.size w w') (g : Nat) : w.grownBy w' (some g) := grow_below h _
section
variable {g1 g2 : Nat} {x : It} {ix : Int} {bx ox : Nat} {a b : List It} {i0 : Nat} {cF : Nat → Nat} {p : Option Addr} {L L' : List Ce} {W W' : World}
end

end Go.Proofs.YthfgpagmepdblaaGreat
namespace Go.Proofs.YthfgpagmepdblaaGreat
open Go.ChangeShapes Go.WideShapes Go.ChangeAt Go.RowKit Go.Sort
set_option linter.unusedVariables false
set_option linter.unusedSimpArgs false
set_option maxRecDepth 100000

def ShareQ2 (A : Nat → Nat → Act) (F : Nat → Nat → World → Prop) (e : Exit) (a : Act) (w : World) : Prop :=
  match e with
  | .normal => ∃ g h, a = A g h ∧ F g h w
  | _ => False
theorem wp_share2 {P : Program} {c : Code} {Q : Exit → Act → World → Prop} {a : Act} {w : World} (F : Nat → Nat → World → Prop) (h : ∃ A : Nat → Nat → Act, c.wp P (ShareQ2 A F) a w ∧ ∀ g h w', F g h w' → Q .normal (A g h) w') : c.wp P Q a w := by
  obtain ⟨A, h1, h2⟩ := h
  refine Code.wp_mono (fun e a' w' h => ?_) h1
  cases e with
  | normal => obtain ⟨g, h, rfl, hF⟩ := h; exact h2 g h w' hF
  | _ => exact h.elim
theorem mix_lo {α : Type} (A B : List α) (k : Nat) (hk : k < A.length) (hl : A.length = B.length) : (A.take (k + 1) ++ B.drop (k + 1))[k]'(by rw [mix_len A B (k + 1) (by omega) hl]; exact hk) = A[k]'hk := by
  rw [List.getElem_append_left (by simp; omega)]; simp
def cfF (mid : Nat) (a b : List It) (k j : Nat) : Nat := if k < mid then j + crs (mid - k) (a.drop k) (b.drop j) else 0
def cfG (mid : Nat) (a b : List It) (k j : Nat) : Nat := if k ≤ mid then j + crs (mid - k) (a.drop k) (b.drop j) else 0
theorem rowT_congr (n : Nat) (f g : Nat → Ce) (h : ∀ j, j ≤ n → f j = g j) : rowT n f = rowT n g := by
  unfold rowT
  refine List.map_congr_left fun j hj => h j ?_
  have := List.mem_range.1 hj; omega
theorem row_up (mid : Nat) (a b : List It) (m : Nat) (hm : m < a.length) (n : Nat) : rowT n (cellR a[m] (a.drop (m + 1)) b (cfG mid a b (m + 1))) = rowT n (cellB (a.drop m) b (cfF mid a b m)) := by
  refine rowT_congr n _ _ fun j _ => ?_
  have hd : a.drop m = a[m] :: a.drop (m + 1) := List.drop_eq_getElem_cons hm
  unfold cellR cellB cfF
  rw [hd]
  congr 1
  by_cases h : m < mid
  · rw [if_pos h]
    have e : cfG mid a b (m + 1) = fun j => j + crs (mid - (m + 1)) (a.drop (m + 1)) (b.drop j) := by funext j; exact if_pos h
    rw [e, rowK_crs _ _ _ _ _ _ rfl, show mid - (m + 1) + 1 = mid - m by omega]
  · rw [if_neg h]
    exact rowK_zero _ _ _ (fun j => if_neg (by omega)) _ _
theorem row_begin (mid : Nat) (a b : List It) (n : Nat) : begL 0 (rowT n (cellB (a.drop mid) b (cfF mid a b mid))) = rowT n (cellB (a.drop mid) b (cfG mid a b mid)) := by
  apply List.ext_getElem
  · rw [begL_len, rowT_len, rowT_len]
  · intro j h1 h2
    rw [rowT_len] at h2
    rw [begL_at _ _ _ (by rw [rowT_len]; exact h2)]
    rw [rowT_at _ _ _ h2, rowT_at _ _ _ h2]
    unfold cellB cfG
    rw [if_pos (Nat.le_refl _), Nat.sub_self, Nat.zero_add]; rfl
theorem row_same (mid : Nat) (a b : List It) (k : Nat) (hk : k ≠ mid) : cfF mid a b k = cfG mid a b k := by
  funext j; unfold cfF cfG
  by_cases h : k < mid
  · rw [if_pos h, if_pos (by omega)]
  · rw [if_neg h, if_neg (by omega)]
section
variable {base gr gb : Nat} {pa pb : Option Addr} {a b : List It} {ia ib : Nat} {L M L' : List Ce} {W W' : World}
end
theorem Rw.blk {w : World} {p : Option Addr} {l : List Pa} (h : Pas w p l) (h0 : 0 < l.length) : ∀ x, p = some x → x.block < w.heap.size := fun x hx => by
  obtain ⟨b, o, e, hl, _⟩ := h h0
  rw [hx] at e; injection e with e; rw [e]; exact hl

end Go.Proofs.YthfgpagmepdblaaGreat
namespace Go.Proofs.YthfgpagmepdblaaGreat
open Go.ChangeShapes Go.WideShapes Go.ChangeAt Go.RowKit Go.Maps
set_option linter.unusedVariables false
set_option linter.unusedSimpArgs false
set_option linter.unusedSectionVars false
set_option maxRecDepth 100000

theorem laidOut : laidOutB Tryz.prog = true := by kernel_rfl
theorem tgv_inj (a b : Tg) (h : a.v = b.v) : a = b := by
  unfold Tg.v at h
  injection h with h
  simp only [Array.mk.injEq, List.cons.injEq, Value.int.injEq, Value.string.injEq, true_and, and_true] at h
  cases a; cases b; simp_all
theorem zeroT (u : World) : (zeroValue 3).run Tryz.prog u = .ok (vInt 0) u := zeroI u

section
variable {κ β : Type} [DecidableEq κ] {kt et T : TypeId} {kv : κ → Value} {enc : β → Value}
open Go.ChangeMaps (setBlock heap_setBlock_same heap_setBlock_other)
/-- An entry is looked for, or laid; and what is stored into it afterwards. -/
theorem MapAt.entryG (law : WideMaps.KeyLaw Tryz.prog kt) (hinj : ∀ a b : κ, kv a = kv b → a = b) {w : World} {b n : Nat} {f : κ → Option β} (h : MapAt kt kv enc w b n f) (ht : Tryz.prog.underlying T = some (.map kt et)) (hn : n < maxLen) (z : β) (hz : ∀ u : World, (zeroValue et).run Tryz.prog u = .ok (enc z) u)
    {k : κ} {l : Lit} (hkey : keyOf Tryz.prog kt (kv k) = some l) : ∃ (st : Nat) (w1 : World) (f1 : κ → Option β), (Instr.mapEntry T (.map (some b)) (kv k)).run Tryz.prog w = .ok (.tuple #[pickE enc (enc z) (f k), goInt st]) w1 ∧ w.grownBy w1 (some b) ∧ w1.heap.size = w.heap.size ∧
      MapAt kt kv enc w1 b (n + 1) f1 ∧ pickE enc (enc z) (f1 k) = pickE enc (enc z) (f k) ∧
      ∀ (w2 : World) (v : β), w2.heap[b]? = w1.heap[b]? → ∃ w3, (Instr.entryStore T (.map (some b)) (goInt st) (enc v)).run Tryz.prog w2 = .ok () w3 ∧ MapAt kt kv enc w3 b (n + 1) (fun k' => if k' = k then some v else f k') ∧ w2.grownBy w3 (some b) ∧ w3.heap.size = w2.heap.size := by
  have hlook := h.look (T := T) (Keyed.of_law law) ht (hz w) hkey
  have hput := h.put (Keyed.of_law law) hinj ht hn hkey
  obtain ⟨D, ⟨es, clock, hb, F, h2⟩, r⟩ := id h
  have hbl : b < w.heap.size := h.lt
  obtain ⟨v0, st, es1, clock1, hrun, hv0, hst⟩ := WideElems.entry_then_store law ht hz hb F hkey
  have hbl2 : ∀ w2 : World, w2.heap[b]? = (setBlock w b (.map es1 clock1)).heap[b]? → w2.heap[b]? = some (.map es1 clock1) ∧ b < w2.heap.size := fun w2 e => by
    rw [heap_setBlock_same hb] at e
    refine ⟨e, ?_⟩
    rcases Nat.lt_or_ge b w2.heap.size with hlt | hge
    · exact hlt
    · rw [Array.getElem?_eq_none hge] at e; cases e
  have grow : ∀ (u : World) (o : Obj) (es : Array MapEntry) (c : Nat), u.heap[b]? = some (.map es c) → u.grownBy (setBlock u b o) (some b) := fun u o es c hu => ⟨rfl, rfl, rfl, by simp [setBlock], fun i hi hne => heap_setBlock_other hu o (fun e => hne (by rw [e]))⟩
  have store : ∀ (w2 : World) (v : β), w2.heap[b]? = (setBlock w b (.map es1 clock1)).heap[b]? → ∃ w3, (Instr.entryStore T (.map (some b)) (goInt st) (enc v)).run Tryz.prog w2 = .ok () w3 ∧ MapAt kt kv enc w3 b (n + 1) (fun k' => if k' = k then some v else f k') ∧ w2.grownBy w3 (some b) ∧ w3.heap.size = w2.heap.size := fun w2 v e => by
    obtain ⟨e1, hlt⟩ := hbl2 w2 e
    obtain ⟨es', clock', hr1, hr2⟩ := hst w2 (enc v) e1
    obtain ⟨w', hp1, hp2, _⟩ := hput v
    rw [hr2] at hp1
    replace hp1 := (Result.ok.inj hp1).2
    refine ⟨_, hr1, ?_, grow _ _ _ _ e1, by simp [setBlock]⟩
    rw [← hp1] at hp2
    exact hp2.block (by rw [heap_setBlock_same hb, heap_setBlock_same e1])
  -- the world behind the entry
  rcases law.find w hkey es.toList F.keys with ⟨h3, h4⟩ | ⟨j, e0, h3, h4, h5⟩
  · -- no entry: the zero value is laid
    have hz0 : pickE enc (enc z) (f k) = enc z := by
      have : (Instr.lookup T (.map (some b)) (kv k) false).run Tryz.prog w = .ok (enc z) w := by
        simp [Instr.lookup, run_underlying ht, MapKept.run_getObj_map hb, law.check w _ hkey, h3, hz, Result.andThen]
      rw [this] at hlook
      exact (Result.ok.inj hlook).1.symm
    obtain ⟨w', hp1, hp2, hp3⟩ := hput z
    have e1 : (Instr.mapEntry T (.map (some b)) (kv k)).run Tryz.prog w = .ok (.tuple #[enc z, goInt clock]) w' := by
      have e2 : (Instr.mapUpdate T (.map (some b)) (kv k) (enc z)).run Tryz.prog w = .ok () (setBlock w b (.map (es.push ⟨(kv k), enc z, clock⟩) (clock + 1))) := by
        simp [Instr.mapUpdate, run_underlying ht, MapKept.run_getObj_map hb, law.check w false hkey, h3, MapKept.run_setObj_map _ hb, Result.andThen, setBlock]
      rw [e2] at hp1
      replace hp1 := (Result.ok.inj hp1).2
      rw [← hp1]
      simp [Instr.mapEntry, run_underlying ht, MapKept.run_getObj_map hb, law.check w false hkey, h3, hz, MapKept.run_setObj_map _ hb, Result.andThen, setBlock]
    rw [e1] at hrun
    obtain ⟨hr, hw⟩ := Result.ok.inj hrun
    refine ⟨st, w', _, ?_, hp3, by rw [hw]; simp [setBlock], hp2, by rw [hz0]; simp [pickE], fun w2 v e => store w2 v (by rw [e, hw])⟩
    rw [hz0, e1]
    have : goInt clock = goInt st := by
      injection hr with hr
      simp only [Array.mk.injEq, List.cons.injEq, and_true] at hr
      exact hr.2
    rw [this]
  · have hj : es[j]? = some e0 := by simpa using h4
    have hl0 : pickE enc (enc z) (f k) = e0.val := by
      have : (Instr.lookup T (.map (some b)) (kv k) false).run Tryz.prog w = .ok e0.val w := by
        simp [Instr.lookup, run_underlying ht, MapKept.run_getObj_map hb, law.check w _ hkey, h3, Result.andThen]
      rw [this] at hlook
      exact (Result.ok.inj hlook).1.symm
    have hsame : es.modify j (fun e => { e with key := (kv k) }) = es := by
      apply Array.ext'
      rw [Array.toList_modify, ChangeMaps.modify_eq_set _ _ _ _ h4]
      have : ({ e0 with key := (kv k) } : MapEntry) = e0 := by rw [← h5]
      rw [this]
      exact WideElems.set_self _ _ _ h4
    have e1 : (Instr.mapEntry T (.map (some b)) (kv k)).run Tryz.prog w = .ok (.tuple #[e0.val, goInt e0.born]) (setBlock w b (.map es clock)) := by
      simp [Instr.mapEntry, run_underlying ht, MapKept.run_getObj_map hb, law.check w false hkey, h3, hj, h5, law.stays w hkey, hsame, MapKept.run_setObj_map _ hb, Result.andThen, setBlock]
    have hrun0 := hrun
    rw [e1] at hrun
    obtain ⟨hr, hw⟩ := Result.ok.inj hrun
    refine ⟨st, _, f, ?_, grow w _ _ _ hb, by simp [setBlock], ?_, rfl, store⟩
    · rw [hl0, hrun0]
      have : e0.val = v0 := by
        injection hr with hr
        simp only [Array.mk.injEq, List.cons.injEq, and_true] at hr
        exact hr.1
      rw [this]
    · rw [← hw]
      exact (h.mono (Nat.le_succ n)).block (by rw [heap_setBlock_same hb, hb])
end

/-- What count works with: a function for each list counted so far. -/
structure CntF (G : List It → Tg → Option Int) (d : Int) : Prop where
  next : ∀ l x, isT x.k = true → ∀ y, (if y = tkey x then some (numT (G l (tkey x)) + d) else G l y) = G (l ++ [x]) y
  skip : ∀ l x, isT x.k = false → G (l ++ [x]) = G l
  small : ∀ l y, l.length ≤ 1000000 → -2000000 ≤ numT (G l y) ∧ numT (G l y) ≤ 2000000
theorem pick_num (f : Option Int) : pickE vInt (vInt 0) f = .int .i64 (numT f) := by cases f <;> rfl
theorem kwf {x : It} (h : isT x.k = true) : (Lit.int .i64 x.k).wf = true := by
  unfold isT at h; simp at h; rcases h with h | h | h <;> (rw [h]; decide)
theorem cntF_A (B : List It) (hB : B.length ≤ 1000000) : CntF (fun l => gM l B) 1 :=
  ⟨fun l x h => gM_A l B x h, fun l x h => gM_A0 l B x h, fun l y hl => by rw [gM_num]; have := cntN_le l y; have := cntN_le B y; omega⟩
theorem cntF_B (A : List It) (hA : A.length ≤ 1000000) : CntF (fun l => gM A l) (-1) :=
  ⟨fun l x h => gM_B A l x h, fun l x h => gM_B0 A l x h, fun l y hl => by rw [gM_num]; have := cntN_le l y; have := cntN_le A y; omega⟩
theorem sumT_le (K : List Tg) (g : Tg → Nat) (M : Nat) (h : ∀ y, g y ≤ M) : sumT K g ≤ K.length * M := by
  induction K with
  | nil => exact Nat.zero_le _
  | cons x K ih => rw [sumT_cons, List.length_cons, Nat.add_mul, Nat.one_mul]; have := h x; omega
theorem tkeys_len (l : List It) : (tkeys l).length ≤ l.length := by unfold tkeys; rw [List.length_map]; exact List.length_filter_le _ _
theorem sur_le (a b : List It) : sur a b ≤ (a.length + b.length) * (a.length + b.length) := by
  refine Nat.le_trans (sumT_le _ _ (a.length + b.length) fun y => ?_) (Nat.mul_le_mul_right _ ?_)
  · unfold dif; have := cntN_le a y; have := cntN_le b y; omega
  · unfold surK; have := uniq_len (tkeys a ++ tkeys b); rw [List.length_append] at this; have := tkeys_len a; have := tkeys_len b; omega
end Go.Proofs.YthfgpagmepdblaaGreat
namespace Go.Proofs.YthfgpagmepdblaaGreat
open Go.ChangeShapes Go.WideShapes Go.ChangeAt Go.RowKit Go.Sort
set_option linter.unusedVariables false
set_option linter.unusedSimpArgs false
set_option maxRecDepth 100000

end Go.Proofs.YthfgpagmepdblaaGreat
namespace Go.Proofs.YthfgpagmepdblaaGreat
open Go.ChangeShapes Go.WideShapes Go.ChangeAt Go.RowKit Go.Sort
set_option linter.unusedVariables false
set_option linter.unusedSimpArgs false
set_option maxRecDepth 100000

def rc : List It := [⟨1, ⟨#[114, 101, 100, 32, 99, 97, 114]⟩, 0⟩]
def rcs : List It := [⟨1, ⟨#[82, 101, 100, 32, 99, 97, 114, 115]⟩, 0⟩]
def rcT : List It := [⟨6, ⟨#[114, 101, 100]⟩, 0⟩, ⟨8, ⟨#[32]⟩, 0⟩, ⟨6, ⟨#[99, 97, 114]⟩, 0⟩]
def rcsT : List It := [⟨6, ⟨#[82, 101, 100]⟩, 0⟩, ⟨8, ⟨#[32]⟩, 0⟩, ⟨6, ⟨#[99, 97, 114, 115]⟩, 0⟩]
theorem rc_toks : toks rc = rcT := by decide +kernel
theorem rcs_toks : toks rcs = rcsT := by decide +kernel
def tX : It := ⟨2, ⟨#[98]⟩, 1⟩
def xX : It := ⟨6, ⟨#[120]⟩, 0⟩
theorem dis5 : dis rcT rcsT = 5 := by decide +kernel
theorem dis2 : dis [tX, xX] [xX, tX] = 2 := by decide +kernel
theorem dis3 : dis [tX, xX] [xX] = 3 := by decide +kernel
theorem Its.litT {W : World} {B : Nat} {cs : Array Value} {fr : Nat × Nat} {l : List It} (h : W.heap[B]? = some (.cells cs 43 fr)) (hc : cs.toList = icells l) : Its W (some ⟨B, 0, none⟩) l := fun h0 => by
  refine ⟨_, rfl, (Array.getElem?_eq_some_iff.1 h).1, fun i hi => ?_⟩
  obtain ⟨c0, c1, c2⟩ := icells_at l i hi
  have hn := World.news_of_block h
  rw [hc] at hn
  exact ⟨hn _ _ c0, hn _ _ c1, hn _ _ c2⟩
theorem txtsB_of (l : List It) (h : l.all (fun x => decide (x.t.size ≤ 1000)) = true) : txtsB l := fun x hx => by
  have := List.all_eq_true.1 h x hx
  simpa using this
/-- The tokens that a law draws. -/
def mkD (L : List Int) (n : Nat) : List It := (toks (mk L true false)).take n
theorem mkD_len (L : List Int) (n : Nat) : (mkD L n).length ≤ n := by unfold mkD; simp; omega
theorem kinds_toks (f : List It) (h : kindsOk f) : kindV (toks f) := fun x hx => by
  unfold toks at hx
  rw [List.mem_flatMap] at hx
  obtain ⟨y, hy, hx⟩ := hx
  have hk := h y hy
  unfold tokI at hx
  split at hx
  · have key : ∀ r : List UInt8, ∀ x ∈ cutT r, 6 ≤ x.k ∧ x.k ≤ 9 := by
      intro r
      induction r using cut_ind with
      | h0 => intro x hx; rw [cutT_nil] at hx; cases hx
      | h1 b t ih =>
        intro x hx
        rw [cutT_cons] at hx
        rcases List.mem_cons.1 hx with rfl | hx
        · exact kindT_range b
        · exact ih x hx
    have := key _ x hx; omega
  · split at hx
    · rename_i h2
      simp at hx; subst hx; omega
    · cases hx
theorem mkD_kind (L : List Int) (n : Nat) : kindV (mkD L n) := fun x hx => kinds_toks _ (mk_kinds L) x (List.mem_of_mem_take hx)
theorem txt_mem (l : List It) (x : It) (h : x ∈ l) : x.t.size ≤ txtI l := by
  induction l with
  | nil => cases h
  | cons y l ih =>
    have e : txtI (y :: l) = y.t.size + txtI l := rfl
    rcases List.mem_cons.1 h with rfl | h
    · omega
    · have := ih h; omega
theorem mkD_txt (L : List Int) (n : Nat) : txtsB (mkD L n) := fun x hx => by
  have h1 := toks_txt (mk L true false)
  have h2 := (mk_ok L true false).txt
  have := txt_mem _ x (show x ∈ toks (mk L true false) from List.mem_of_mem_take hx)
  omega
theorem own_take {base n cap : Nat} {L : List It} {p : Option Addr} {w : World} (h : OwnT base L (.slice p L.length cap) w) (hn : n ≤ L.length) : OwnT base (L.take n) (.slice p n cap) w := by
  have hl : (L.take n).length = n := by simp; omega
  have hcl : (cellsOf ienc (L.take n)) = (cellsOf ienc L).take (n * 3) := by
    unfold cellsOf
    have : ∀ (L : List It) (n : Nat), (L.take n).flatMap ienc = (L.flatMap ienc).take (n * 3) := by
      intro L
      induction L with
      | nil => intro n; simp
      | cons x L ih =>
        intro n
        cases n with
        | zero => simp
        | succ n =>
          rw [List.take_succ_cons, List.flatMap_cons, List.flatMap_cons, ih n, show (n + 1) * 3 = 3 + n * 3 by omega]
          have e3 : (ienc x).length = 3 := rfl
          rw [List.take_append, e3, List.take_of_length_le (l := ienc x) (by rw [e3]; omega), show 3 + n * 3 - 3 = n * 3 by omega]
    exact this L n
  obtain ⟨h1, h2⟩ := h
  refine ⟨by rw [cellsOf_len eT, hl], ?_⟩
  rcases h2 with ⟨hv, h0⟩ | ⟨g, c, cur, hv, hg, hh, hnn, hm, hs, ht⟩
  · injection hv with e1 e2 e3
    left
    rw [hl]
    refine ⟨by rw [e1, e3]; congr 1; omega, by omega⟩
  · injection hv with e1 e2 e3
    right
    refine ⟨g, c, cur, by rw [e1, e3, hl], hg, hh, by rw [hl]; omega, hm, hs, ?_⟩
    rw [hl, hcl, ← ht, List.take_take, Nat.min_eq_left (Nat.mul_le_mul_right 3 hn)]
end Go.Proofs.YthfgpagmepdblaaGreat
namespace Go.Proofs.YthfgpagmepdblaaGreat
open Go.ChangeShapes Go.WideShapes Go.ChangeAt Go.RowKit Go.Sort
set_option linter.unusedVariables false
set_option linter.unusedSimpArgs false
set_option maxRecDepth 100000

theorem smL_len {a b : List It} (h : smL a b = true) : a.length = b.length := by
  induction a generalizing b with
  | nil => cases b with
    | nil => rfl
    | cons y b => cases h
  | cons x a ih => cases b with
    | nil => cases h
    | cons y b => rw [smL, Bool.and_eq_true] at h; rw [List.length_cons, List.length_cons, ih h.2]
theorem smL_snoc (a b : List It) (x y : It) (hl : a.length = b.length) : smL (a ++ [x]) (b ++ [y]) = (smL a b && sm x y) := by
  induction a generalizing b with
  | nil => cases b with
    | nil => simp [smL]
    | cons y b => cases hl
  | cons z a ih => cases b with
    | nil => cases hl
    | cons u b => simp only [List.cons_append, smL]; rw [ih b (by simpa using hl), Bool.and_assoc]
theorem smL_pre (a b c d : List It) (hl : a.length = b.length) (h : smL a b = false) : smL (a ++ c) (b ++ d) = false := by
  induction a generalizing b with
  | nil => cases b with
    | nil => cases h
    | cons y b => cases hl
  | cons z a ih => cases b with
    | nil => cases hl
    | cons u b =>
      simp only [List.cons_append, smL] at h ⊢
      cases hs : sm z u with
      | false => rfl
      | true => rw [hs] at h; rw [ih b (by simpa using hl) h]; rfl
def sK (A B : List It) (k : Nat) : Bool := decide (A.length = B.length) && smL (A.take k) (B.take k)
theorem sK_zero (A B : List It) : sK A B 0 = decide (A.length = B.length) := by unfold sK; simp [smL]
theorem sK_next (A B : List It) (k : Nat) (h : sK A B k = true) (hk : k < A.length) (hkB : k < B.length) : sK A B (k + 1) = sm A[k] B[k] := by
  unfold sK at h ⊢
  rw [Bool.and_eq_true, decide_eq_true_eq] at h
  rw [List.take_succ_eq_append_getElem hk, List.take_succ_eq_append_getElem hkB, smL_snoc _ _ _ _ (by simp; omega), h.2, decide_eq_true h.1]; rfl
theorem sK_no (A B : List It) (k : Nat) (h : sK A B k = false) : smL A B = false := by
  unfold sK at h
  cases hs : smL A B with
  | false => rfl
  | true =>
    have hl := smL_len hs
    rw [decide_eq_true hl, Bool.true_and] at h
    have := smL_pre (A.take k) (B.take k) (A.drop k) (B.drop k) (by simp; omega) h
    rw [List.take_append_drop, List.take_append_drop] at this
    rw [hs] at this; exact this
theorem sK_all (A B : List It) : sK A B A.length = smL A B := by
  cases h : sK A B A.length with
  | false => exact (sK_no A B _ h).symm
  | true =>
    unfold sK at h
    rw [Bool.and_eq_true, decide_eq_true_eq] at h
    have h2 := h.2
    rw [List.take_length, h.1, List.take_length] at h2
    exact h2.symm
theorem dis_small (A B : List It) (ha : A.length ≤ 40) (hb : B.length ≤ 40) : dis A B ≤ 100000 := by
  have h1 := dst_le A B
  have h2 := sur_le A B
  have : (A.length + B.length) * (A.length + B.length) ≤ 80 * 80 := Nat.mul_le_mul (by omega) (by omega)
  unfold dis; omega
/-- A slice of tokens that a law has drawn. -/
structure Dr (W : World) (p : Option Addr) (c : Nat) (A : List It) : Prop where
  its : Its W p A
  le : A.length ≤ c
  cm : c ≤ maxLen
  len : A.length ≤ 40
  txt : txtsB A
theorem Dr.call {W W' : World} {p : Option Addr} {c : Nat} {A : List It} (h : Dr W p c A) (hb : Below W.heap.size W W') : Dr W' p c A := ⟨h.its.call hb, h.le, h.cm, h.len, h.txt⟩
theorem dr_made {w w' : World} {L : List Int} {n : Nat} (hn : n ≤ 40) {e : Ending} (h : EndT (mkD L n) w e w') : ∃ p c, e = .returned (.slice p (mkD L n).length c) ∧ Dr w' p c (mkD L n) ∧ Below w.heap.size w w' := by
  obtain ⟨p, c, he, h1, h2, h3, h4⟩ := h.f
  exact ⟨p, c, he, ⟨h3, h1, h2, Nat.le_trans (mkD_len L n) hn, mkD_txt L n⟩, h4⟩
end Go.Proofs.YthfgpagmepdblaaGreat
namespace Go.Proofs.YthfgpagmepdblaaGreat
open Go.ChangeShapes Go.WideShapes Go.ChangeAt Go.RowKit Go.Sort
set_option linter.unusedVariables false
set_option linter.unusedSimpArgs false
set_option maxRecDepth 100000

theorem dr_own {W W' : World} {L : List It} {v : Value} (h : AccT W L v W') (hl : L.length ≤ 40) (ht : txtsB L) : ∃ p c, v = .slice p L.length c ∧ Dr W' p c L := by
  obtain ⟨p, c, hv, h1, h2, h3⟩ := OwnT.its h.own
  exact ⟨p, c, hv, h3, h1, h2, hl, ht⟩
theorem txtsB_app {a b : List It} (h : txtsB a) (k : txtsB b) : txtsB (a ++ b) := fun x hx => by
  rcases List.mem_append.1 hx with h1 | h1
  · exact h x h1
  · exact k x h1
end Go.Proofs.YthfgpagmepdblaaGreat
