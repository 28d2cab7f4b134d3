/- firstTags and Numbers of package item. -/
import Derived.Test.YtnfapcfajoboaaaNum
import Derived.Test.YtnfapcfajoboaaaVal
namespace Go.Proofs.Ytnfapcfajoboaaa
open Go.ChangeShapes Go.WideShapes Go.ChangeAt Go.RowKit
set_option linter.unusedVariables false
set_option maxRecDepth 100000

def fstS (out : List It) (x : It) : List It := if x.id ∈ out.map It.id then out else out ++ [x]
def fstL (l : List It) : List It := l.foldl fstS []
def firsts (l : List It) : List It := fstL (tagsL l)
theorem fst_next (l : List It) (k : Nat) (h : k < l.length) : fstL (l.take (k + 1)) = fstS (fstL (l.take k)) (l[k]'h) := by
  rw [List.take_succ_eq_append_getElem h]; unfold fstL; rw [List.foldl_append]; rfl
theorem fstS_len (out : List It) (x : It) : (fstS out x).length ≤ out.length + 1 := by unfold fstS; split <;> simp
theorem fst_len (l : List It) : ∀ k, k ≤ l.length → (fstL (l.take k)).length ≤ k := by
  intro k
  induction k with
  | zero => intro _; simp [fstL]
  | succ j ih =>
    intro hj
    rw [fst_next l j hj]
    have := fstS_len (fstL (l.take j)) l[j]; have := ih (by omega); omega
theorem firsts_len (l : List It) : (firsts l).length ≤ l.length := by
  have h := fst_len (tagsL l) _ (Nat.le_refl _)
  rw [List.take_length] at h
  have := tags_len l
  unfold firsts; omega
theorem nums_firsts (l : List It) : (firsts l).map It.id = numsL l := by
  have : ∀ (l : List It) (out : List It), ((l.filter (fun x => isT x.k)).foldl fstS out).map It.id = l.foldl numS (out.map It.id) := by
    intro l
    induction l with
    | nil => intro out; rfl
    | cons x t ih =>
      intro out
      rw [List.filter_cons, List.foldl_cons]
      cases q : isT x.k
      · rw [if_neg (by simp), ih, show numS (out.map It.id) x = out.map It.id from if_neg (by simp [q])]
      · rw [if_pos rfl, List.foldl_cons, ih]
        congr 1
        unfold fstS numS
        by_cases h : x.id ∈ out.map It.id
        · rw [if_pos h, if_neg (fun c => c.2 h)]
        · rw [if_neg h, if_pos ⟨q, h⟩]; simp
  exact this l []
def seenF (out : List It) (id : Int) : Option Bool := if id ∈ out.map It.id then some true else none
theorem txt_fst (l : List It) : ∀ out, txtI (l.foldl fstS out) ≤ txtI out + txtI l := by
  induction l with
  | nil => intro out; exact Nat.le_refl _
  | cons x t ih =>
    intro out
    rw [List.foldl_cons]
    have h1 := ih (fstS out x)
    have h2 : txtI (fstS out x) ≤ txtI out + x.t.size := by
      unfold fstS; split
      · omega
      · rw [txtI_snoc]; omega
    have h3 : txtI (x :: t) = x.t.size + txtI t := rfl
    omega
theorem Oks.tags {l : List It} (h : Oks l) : Oks (tagsL l) := fun i hi => by
  have : (tagsL l)[i] ∈ l := (List.mem_filter.1 (List.getElem_mem hi)).1
  obtain ⟨j, hj, e⟩ := List.getElem_of_mem this
  rw [← e]; exact h j hj

/-! ### worlds in which one old block turns -/
theorem OwnL.keep {α : Type} {e size : Nat} {enc : α → List Value} {base : Nat} {L : List α} {v : Value} {w w1 : World} (h : OwnL e size enc base L v w) (hs : w.heap.size ≤ w1.heap.size) (hb : ∀ k, base ≤ k → k < w.heap.size → w1.heap[k]? = w.heap[k]?) : OwnL e size enc base L v w1 := by
  obtain ⟨h1, h2⟩ := h
  refine ⟨h1, ?_⟩
  rcases h2 with h2 | ⟨g, cap, cur, hv, hg, hh, r⟩
  · exact .inl h2
  · refine .inr ⟨g, cap, cur, hv, hg, ?_, r⟩
    have hlt : g < w.heap.size := by
      rcases Nat.lt_or_ge g w.heap.size with hlt | hge
      · exact hlt
      · rw [Array.getElem?_eq_none hge] at hh; cases hh
    rw [hb g hg hlt]; exact hh
theorem OwnL.other {α : Type} {e size : Nat} {enc : α → List Value} {base M : Nat} {L : List α} {v : Value} {w w1 : World} (h : OwnL e size enc base L v w) (hg : w.grownBy w1 (some M)) (hM : M < base) : OwnL e size enc base L v w1 :=
  h.keep hg.size fun k hk hlt => hg.block k hlt (fun e => by injection e; omega)
theorem OwnL.addr {α : Type} {e size : Nat} {enc : α → List Value} {base n cap : Nat} {L : List α} {p : Option Addr} {w : World} (h : OwnL e size enc base L (.slice p n cap) w) : ∀ a, p = some a → base ≤ a.block ∧ a.block < w.heap.size := fun a ha => by
  rcases h.2 with ⟨hv, _⟩ | ⟨g, c, cur, hv, hg, hh, _⟩
  · injection hv with h1; rw [ha] at h1; cases h1
  · injection hv with h1; rw [ha] at h1; injection h1 with h1; subst h1
    refine ⟨hg, ?_⟩
    rcases Nat.lt_or_ge g w.heap.size with hlt | hge
    · exact hlt
    · rw [Array.getElem?_eq_none hge] at hh; cases hh
theorem Its.keep {W w1 : World} {p : Option Addr} {l : List It} (h : Its W p l) (hs : W.heap.size ≤ w1.heap.size) (hb : ∀ a, p = some a → w1.heap[a.block]? = W.heap[a.block]?) : Its w1 p l := fun h0 => by
  obtain ⟨a, hp, hlt, hc⟩ := h h0
  have hh := hb a hp
  have e : ∀ n, w1.cell? (a.add n) = W.cell? (a.add n) := fun n => World.cell?_of_block (by rw [add_block]; exact hh)
  refine ⟨a, hp, Nat.lt_of_lt_of_le hlt hs, fun i hi => ?_⟩
  rw [e, e, e]; exact hc i hi
theorem Its.other {W w1 : World} {p : Option Addr} {l : List It} {M : Nat} (h : Its W p l) (hg : W.grownBy w1 (some M)) (hp : ∀ a, p = some a → a.block ≠ M) : Its w1 p l := fun h0 => by
  obtain ⟨a, ha, hlt, _⟩ := h h0
  exact (h.keep hg.size fun b hb => hg.block _ (by rw [ha] at hb; injection hb with hb; subst hb; exact hlt) (fun e => by injection e with e; exact hp b hb e)) h0
theorem Its.under {W w1 : World} {p : Option Addr} {l : List It} {B : Nat} (h : Its W p l) (hb : Below B W w1) (hp : ∀ a, p = some a → a.block < B) : Its w1 p l :=
  h.keep hb.size fun a ha => hb.block _ (hp a ha)

section
variable {α : Type} {t e size bytes : Nat} {z : Value} {enc : α → List Value}
/-- append of one element to a slice that is owned from block base on. -/
theorem wpl_append2 (E : El t e size bytes z enc) (w : World) {ops : Array Oper} {rest : List Oper} {o : Oper} {a : Act} {Q : Exit → Act → World → Prop} (hg : o.guard = none) (s x : Operand)
    (ho : o.op = .call { callee := .builtin .append, args := #[s, x], argTypes := #[t, t] }) (base : Nat) (hbase : base ≤ w.heap.size) (L : List α) (v : Value) (hs : a.eval s = v) (h : OwnL e size enc base L v w) (y : α) (B : Nat) (cs : Array Value)
    (hx : a.eval x = .slice (some ⟨B, 0, none⟩) 1 1) (hB : w.heap[B]? = some (.cells cs e (0, 0))) (hcs : cs.toList = enc y) (hlen : (L.length + 1) * bytes ≤ 140737488355328) (hlen' : L.length + 1 ≤ maxLen)
    (hK : ∀ v' w', OwnL e size enc base (L ++ [y]) v' w' → Below base w w' → wpList Try.prog ops Q rest (a.put o.dst v') w') : wpList Try.prog ops Q (o :: rest) a w := by
  obtain ⟨i, hi, hz0, hz1, hz2⟩ := E.hi
  refine wpList_append_lies w hg s x t ho base e i z size bytes E.ht hi hz0 hz1 hz2 E.hzs E.hsz v L.length (cellsOf enc L) hs h ⟨B, 0, none⟩ 1 1 (enc y) hx (by rw [E.len]; omega) ?_ (E.one y) (by omega) hlen' hlen hbase _ rfl ?_
  · rw [← hcs]; exact World.news_of_block hB
  · intro g cap w' h2 h3 h4 h5
    refine hK _ w' ?_ ((Below.refl base w).grown h3 hbase (fun k hk => (h.lt k hk).1))
    unfold OwnL; rw [List.length_append, show cellsOf enc (L ++ [y]) = cellsOf enc L ++ enc y from by unfold cellsOf; rw [List.flatMap_append]; simp]; exact h2
end

/-- What holds at each round's head of firstTags. -/
structure FRel (g : List It) (w : World) (p1 : Option Addr) (S k : Nat) (v : Value) (wr : World) : Prop where
  le : k ≤ g.length
  base : w.heap.size < S
  size : S ≤ wr.heap.size
  below : Below w.heap.size w wr
  own : OwnL 26 3 ienc S (fstL (g.take k)) v wr
  map : MapAt 3 vInt Value.bool wr w.heap.size k (seenF (fstL (g.take k)))
  its : Its wr p1 g
  addr : ∀ a, p1 = some a → a.block < S ∧ a.block ≠ w.heap.size
theorem FRel.alloc {g : List It} {w : World} {p1 : Option Addr} {S k : Nat} {v : Value} {wr : World} (h : FRel g w p1 S k v wr) (o : Obj) : FRel g w p1 S k v (wr.alloc o) :=
  ⟨h.le, h.base, by have := h.size; simp; omega, blw h.below o, World.ownsRow.alloc h.own o, h.map.alloc o, h.its.call (blw (Below.refl _ _) o), h.addr⟩

set_option maxHeartbeats 3200000 in
theorem firsttags_any (p : Option Addr) (cap : Nat) (l : List It) (w : World) (hR : Its w p l) (hO : Oks l) (hc : l.length ≤ cap) (hm : cap ≤ maxLen) (hn : l.length ≤ 4000000000) :
    Calls Try.prog 81 #[.slice p l.length cap] w (EndI (firsts l) w) := by
  have htags := fun W hI => tags_any p cap l W hI hc hm hn
  have hlen0 := tags_len l
  have hO' := hO.tags
  unfold firsts
  generalize tagsL l = g at *
  have HT := Lib.hid htags; clear htags
  have hmm := @run_makeMap Try.prog
  unfold maxLen at hm
  go_enter Try.func81, Try.ntmps81
  go_wp2_with fail
  refine (HT.out _ (hR.call (blw (Below.refl _ _) _))).mono ?_; rintro e w1 ⟨v1, rfl, hA1⟩
  obtain ⟨p1, c1, rfl, g1, g2, hI1⟩ := hA1.own.its
  have hb1 := BelowOn (blw (Below.refl _ _) _) hA1.below
  have hsz : w.heap.size + 1 ≤ w1.heap.size := by have := hA1.below.size; simpa using this
  have hmap : MapAt 3 vInt Value.bool w1 w.heap.size 0 (fun _ => none) := (MapAt.made w).call hA1.below
  have hst : FRel g w p1 w1.heap.size 0 (.slice none 0 0) w1 := ⟨Nat.zero_le _, hsz, Nat.le_refl _, hb1, OwnL.nil _ _, hmap.ext (fun id => rfl), hI1, fun a ha => by
    have := hA1.own.addr a ha
    simp at this; omega⟩
  unfold maxLen at g2
  go_wp2_with fail
  clear hmm hmap hI1 hA1
  generalize w1.heap.size = S at *
  have HS := Lib.hid hst; clear hst
  go_loopw [3, 11] (fun v i wr => ∃ k : Nat, i = .int .i64 k ∧ FRel g w p1 S k v wr) (fun _ i _ => g.length - (intOf i).toNat)
  case atStart => exact ⟨0, rfl, HS.out⟩
  case round =>
    obtain ⟨k, rfl, hF⟩ := hrel
    by_cases hlt : k < g.length
    · obtain ⟨ad, rfl, had, c0, c1, c2⟩ := hF.its.row k hlt
      have hok := hO' k hlt
      have hnx := fst_next g k hlt
      have hlen := fst_len g k hF.le
      have hF1 := hF.alloc (.cells #[.int .i64 g[k].k, .string g[k].t, .int .i64 g[k].id] 26)
      generalize g[k] = x at *
      have hkey := key_int hok.id
      have hbase := hF.base
      have hsize := hF.size
      have MT := hF1.map
      have hown := hF1.own
      have hnext : fstL (g.take (k + 1)) = fstS (fstL (g.take k)) x → True := fun _ => trivial
      generalize hout : fstL (g.take k) = out at *
      by_cases q : x.id ∈ out.map It.id
      · rw [show fstS out x = out from if_pos q] at hnx
        have e1 : pickE Value.bool (.bool false) (seenF out x.id) = .bool true := by rw [show seenF out x.id = some true from if_pos q]; rfl
        have HX := Lib.hid hnx; have HO := Lib.hid hout
        clear hnx hout q hok hnext
        go_wp2_with (at_lookup; refine wpl_look rfl _ _ 74 rfl k3 Try.underlying74 _ (zeroB _) w.heap.size rfl MT x.id rfl hkey ?_; rw [e1])
        go_wp2_with fail
        go_roundw
        case rel => exact ⟨k + 1, by go_num, hlt, hF1.base, hF1.size, hF1.below, by rw [HX.out]; exact hown, by rw [HX.out]; exact MT.mono (Nat.le_succ k), hF1.its, hF1.addr⟩
        case measure => simp [intOf]; omega
      · rw [show fstS out x = out ++ [x] from if_neg q] at hnx
        have e1 : pickE Value.bool (.bool false) (seenF out x.id) = .bool false := by rw [show seenF out x.id = none from if_neg q]; rfl
        have hsn : ∀ id, (if id = x.id then some true else seenF out id) = seenF (out ++ [x]) id := fun id => by
          unfold seenF
          by_cases he : id = x.id
          · rw [if_pos he, if_pos (by rw [he]; simp)]
          · rw [if_neg he]
            have : (id ∈ (out ++ [x]).map It.id) ↔ id ∈ out.map It.id := by simp [he]
            by_cases h2 : id ∈ out.map It.id
            · rw [if_pos h2, if_pos (this.2 h2)]
            · rw [if_neg h2, if_neg (fun c => h2 (this.1 c))]
        have V := Var3.new wr x.k x.t x.id
        have HX := Lib.hid hnx; have HO := Lib.hid hout; have HN := Lib.hid hsn
        have tok : True := trivial
        clear hnx hout q hok hnext hsn
        go_wp2_with (first | (at_lookup; refine wpl_look rfl _ _ 74 rfl k3 Try.underlying74 _ (zeroB _) w.heap.size rfl MT x.id rfl hkey ?_; rw [e1]) | (at_mapUpdate; have _t := tok; refine wpl_put rfl _ _ _ 74 rfl k3 vInt_inj Try.underlying74 w.heap.size rfl MT (by unfold maxLen; omega) x.id true rfl rfl hkey ?_; intro w2 MT2 hg2; clear tok; obtain ⟨z0, z1, z2, zl⟩ := V.other hg2 (by omega)) | (at_builtin; have zs := hg2.size; have hown2 := hown.other hg2 hbase; refine wpl_append2 eI _ rfl _ _ rfl S (by simp at zs; simp; omega) out _ rfl (World.ownsRow.alloc hown2 _) x w2.heap.size _ rfl (heap_alloc_new w2 _) rfl (by omega) (by unfold maxLen; omega) ?_; intro v' w4 hown4 hb4))
        go_wp2_with fail
        have hb5 : Below S w2 w4 := ((Below.refl S w2).alloc (by simp at zs; omega) _).trans hb4
        have s4 := hb4.size
        have hI2 := hF1.its.other hg2 (fun a ha => (hF1.addr a ha).2)
        have hB2 : Below w.heap.size w w2 := hF1.below.trans (grown_below hg2 (Nat.le_refl _) (by simp; omega))
        have hfin : FRel g w (some ad) S (k + 1) v' w4 := ⟨hlt, hbase, by simp at zs s4; omega, hB2.trans (hb5.mono (by omega)), by rw [HX.out]; exact hown4, by rw [HX.out]; exact (MT2.ext HN.out).block (hb5.block _ hbase), hI2.under hb5 (fun a ha => (hF1.addr a ha).1), hF1.addr⟩
        go_roundw
        case rel => exact ⟨k + 1, by go_num, hfin⟩
        case measure => simp [intOf]; omega
    · obtain rfl : k = g.length := by have := hF.le; omega
      have hown := hF.own
      rw [List.take_length] at hown
      go_wp2_with fail
      go_ret
      exact ⟨_, rfl, hF.below, ownsRow_base hown (Nat.le_of_lt hF.base)⟩


set_option maxHeartbeats 1600000 in
theorem numbers_any (p : Option Addr) (cap : Nat) (l : List It) (w : World) (hR : Its w p l) (hO : Oks l) (hc : l.length ≤ cap) (hm : cap ≤ maxLen) (hn : l.length ≤ 4000000000) :
    Calls Try.prog 38 #[.slice p l.length cap] w (EndN (numsL l) w) := by
  have htags := fun W hI => firsttags_any p cap l W hI hO hc hm hn
  have hlen0 := firsts_len l
  rw [← nums_firsts]
  generalize firsts l = g at *
  have HT := Lib.hid htags; clear htags
  unfold maxLen at hm
  go_enter Try.func38, Try.ntmps38
  go_wp2_with fail
  refine (HT.out _ hR).mono ?_; rintro e w1 ⟨v1, rfl, hA1⟩
  obtain ⟨p1, c1, rfl, g1, g2, hI1⟩ := hA1.own.its
  have hb1 := hA1.below
  unfold maxLen at g2
  go_wp2_with fail
  clear hA1
  go_loopw [3, 9] (fun v i wr => ∃ k : Nat, k ≤ g.length ∧ i = .int .i64 k ∧ AccN w1 ((g.take k).map It.id) v wr) (fun _ i _ => g.length - (intOf i).toNat)
  case atStart => exact ⟨0, Nat.zero_le _, rfl, Acc.start _⟩
  case round =>
    obtain ⟨k, hk, rfl, hA⟩ := hrel
    by_cases hlt : k < g.length
    · obtain ⟨ad, rfl, had, c0, c1, c2⟩ := (hI1.call hA.below).row k hlt
      have hnx : (g.take (k + 1)).map It.id = (g.take k).map It.id ++ [(g[k]).id] := by rw [List.take_succ_eq_append_getElem hlt, List.map_append]; rfl
      have hlen : ((g.take k).map It.id).length ≤ k := by simp; omega
      generalize g[k] = x at *
      generalize (g.take k).map It.id = out at *
      have HX := Lib.hid hnx; clear hnx
      go_wp2_with (at_builtin; refine wpl_append eN _ rfl _ _ rfl w1 out _ rfl ((hA.alloc _).alloc _) x.id (wr.heap.size + 1) #[.int .i64 x.id] rfl (heap_new2 _ _ _) rfl (by omega) (by unfold maxLen; omega) ?_; intro v' w4 hA4 hb4)
      go_wp2_with fail
      go_roundw
      case rel => exact ⟨k + 1, hlt, by go_num, by rw [HX.out]; exact hA4⟩
      case measure => simp [intOf]; omega
    · obtain rfl : k = g.length := by omega
      rw [List.take_length] at hA
      go_wp2_with fail
      go_ret
      exact ⟨_, rfl, BelowOn hb1 hA.below, ownsRow_base hA.own hb1.size⟩
end Go.Proofs.Ytnfapcfajoboaaa
