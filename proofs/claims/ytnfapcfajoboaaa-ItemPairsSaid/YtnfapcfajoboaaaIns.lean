/- Insert and Slots. -/
import Derived.Test.YtnfapcfajoboaaaPrt
import Derived.Test.YtnfapcfajoboaaaFst
import Derived.Test.YtnfapcfajoboaaaCat
import Derived.Test.YtnfapcfajoboaaaShelfS
import Derived.Sort.OwnSorted
import Derived.Sort.Walk0
import Derived.Laws.Cover1
namespace Go.Proofs.Ytnfapcfajoboaaa
open Go.ChangeShapes Go.WideShapes Go.ChangeAt Go.RowKit
set_option linter.unusedVariables false
set_option maxRecDepth 100000

def leS (x s : ByteArray) : Bool := decide (x.data.toList ≤ s.data.toList)
theorem leS_eq (x s : ByteArray) : (Op.bytesLess x.toList s.toList || x.toList == s.toList) = leS x s := by
  rw [bytesLess_eq, Lib.toList_data, Lib.toList_data]
  unfold leS
  generalize x.data.toList = a
  generalize s.data.toList = b
  by_cases h : a ≤ b
  · rw [decide_eq_true h]
    rcases List.le_iff_lt_or_eq.1 h with h1 | h1
    · simp [h1]
    · simp [h1]
  · rw [decide_eq_false h]
    have h1 : ¬ a < b := fun c => h (List.le_iff_lt_or_eq.2 (.inl c))
    have h2 : a ≠ b := fun c => h (List.le_iff_lt_or_eq.2 (.inr c))
    simp [h1, h2]
def insS (l : List ByteArray) (s : ByteArray) : List ByteArray := l.takeWhile (fun x => leS x s) ++ [s] ++ l.dropWhile (fun x => leS x s)
theorem tw {α : Type} (p : α → Bool) (l : List α) : ∀ k, k ≤ l.length → (∀ j (hj : j < l.length), j < k → p l[j] = true) → (∀ hj : k < l.length, p l[k] = false) → l.takeWhile p = l.take k ∧ l.dropWhile p = l.drop k := by
  induction l with
  | nil => intro k hk _ _; have : k = 0 := by simpa using hk
           subst this; exact ⟨rfl, rfl⟩
  | cons x t ih =>
    intro k hk h1 h2
    cases k with
    | zero =>
      have := h2 (by simp)
      simp at this
      rw [List.takeWhile_cons, List.dropWhile_cons, this]; exact ⟨rfl, rfl⟩
    | succ j =>
      have h0 := h1 0 (by simp) (by omega)
      simp at h0
      obtain ⟨a, b⟩ := ih j (by simpa using hk) (fun i hi hij => by have := h1 (i + 1) (by simp; omega) (by omega); simpa using this) (fun hj => by have := h2 (by simp; omega); simpa using this)
      rw [List.takeWhile_cons, List.dropWhile_cons, h0]
      simp only [if_true]
      exact ⟨by rw [a]; rfl, by rw [b]; rfl⟩

theorem scells (L : List ByteArray) : cellsOf senc L = L.map Value.string := cells_map Value.string L
theorem OnesS.news {w : World} {a : Addr} {M : List ByteArray} (hM : Ones w Value.string (some a) M) : ∀ j u, (cellsOf senc M)[j]? = some u → w.cell? (a.add j) = some u := fun j u hj => by
  rw [scells, List.getElem?_map] at hj
  rcases Nat.lt_or_ge j M.length with h | h
  · rw [List.getElem?_eq_getElem h] at hj
    obtain ⟨a', e, _, hc⟩ := hM (by omega)
    cases e
    rw [hc j h]; exact hj
  · rw [List.getElem?_eq_none h] at hj; cases hj
theorem append_strs (w : World) (ty : TypeId) (base : Nat) (L M : List ByteArray) (v : Value) (p : Option Addr) (c : Nat) (h : OwnL 9 1 senc base L v w) (hM : Ones w Value.string p M) (hbase : base ≤ w.heap.size) (hl : (L.length + M.length) * 16 ≤ 140737488355328) :
    ∃ v' w', (Builtin.append_ #[47, 47] ty #[v, .slice p M.length c]).run Try.prog w = .ok v' w' ∧ OwnL 9 1 senc base (L ++ M) v' w' ∧ w.grownBy w' v.ownBlock := by
  obtain ⟨i, hi, hz0, hz1, hz2⟩ := eS.hi
  by_cases h0 : M.length = 0
  · have hM0 : M = [] := List.length_eq_zero_iff.1 h0
    subst hM0
    rw [List.append_nil]
    refine ⟨v, w, ?_, h, World.grownBy.refl _ _⟩
    obtain ⟨p1, c1, rfl, hle, _⟩ := h.strs
    refine run_append_nothing w 47 47 ty 9 i eS.ht hi p1 L.length c1 hle _ ?_
    cases p with
    | none => exact Src.ofNil w eS.ht c
    | some a => exact Src.ofSlice w eS.ht a 0 c [] (by simp) (fun j u hj => by simp at hj) (fun u hu => by cases hu)
  · obtain ⟨a, rfl, hlt, _⟩ := hM (by omega)
    have hm3 : (cellsOf senc M).length = M.length * 1 := cellsOf_len eS M
    obtain ⟨g, cap, w', hr, h2, h3, h4, h5⟩ := run_append_lies (P := Try.prog) w 47 ty base 9 i _ 1 16 eS.ht hi hz0 hz1 hz2 eS.hzs eS.hsz v L.length (cellsOf senc L) h a M.length c (cellsOf senc M) hm3 (OnesS.news hM) (fun u hu => by rw [scells] at hu; obtain ⟨x, _, rfl⟩ := List.mem_map.1 hu; rfl) (by omega) (by unfold maxLen; omega) hl hbase _ rfl
    refine ⟨_, w', hr, ?_, h3⟩
    unfold OwnL
    rw [List.length_append, show cellsOf senc (L ++ M) = cellsOf senc L ++ cellsOf senc M from by unfold cellsOf; rw [List.flatMap_append]]
    exact h2
theorem wpl_catS {w : World} {ops : Array Oper} {rest : List Oper} {o : Oper} {a : Act} {Q : Exit → Act → World → Prop} (hgd : o.guard = none) (s x : Operand) (ho : o.op = .call { callee := .builtin .append, args := #[s, x], argTypes := #[47, 47] })
    (w0 : World) (L M : List ByteArray) (v : Value) (hs : a.eval s = v) (h : AccS w0 L v w) (p : Option Addr) (m c : Nat) (hx : a.eval x = .slice p m c) (hm : m = M.length) (hM : Ones w Value.string p M) (hl : (L.length + M.length) * 16 ≤ 140737488355328)
    (hK : ∀ v' w', AccS w0 (L ++ M) v' w' → wpList Try.prog ops Q rest (a.put o.dst v') w') : wpList Try.prog ops Q (o :: rest) a w := by
  subst hm
  obtain ⟨v', w', hr, h1, h2⟩ := append_strs w o.type w0.heap.size L M v p c h.own hM h.below.size hl
  exact Lib.wpList_append_run w hgd s x 47 47 ho v _ hs hx v' w' hr (hK v' w' (h.more h2 h1))
def EndS (L : List ByteArray) (w : World) (e : Ending) (w' : World) : Prop := ∃ v, e = .returned v ∧ AccS w L v w'
theorem addr0 (g k : Nat) : (⟨g, 0, none⟩ : Addr).add k = ⟨g, k, none⟩ := by unfold Addr.add; split <;> simp_all
theorem ones_take {w : World} {a : Addr} {l : List ByteArray} (h : Ones w Value.string (some a) l) (k : Nat) : Ones w Value.string (some a) (l.take k) := fun h0 => by
  have hlt : 0 < l.length := by rw [List.length_take] at h0; omega
  obtain ⟨b, e, hb, hc⟩ := h hlt
  refine ⟨b, e, hb, fun i hi => ?_⟩
  rw [List.length_take] at hi
  rw [hc i (by omega), List.getElem_take]
theorem ones_drop {w : World} {g : Nat} {l : List ByteArray} (h : Ones w Value.string (some ⟨g, 0, none⟩) l) (k : Nat) (hk : k < l.length) : Ones w Value.string (some ⟨g, k, none⟩) (l.drop k) := fun h0 => by
  obtain ⟨b, e, hb, hc⟩ := h (by omega)
  cases e
  refine ⟨_, rfl, hb, fun i hi => ?_⟩
  rw [List.length_drop] at hi
  have := hc (k + i) (by omega)
  rw [List.getElem_drop, ← this]
  rw [addr0]
  congr 1
  unfold Addr.add
  split <;> simp_all

set_option maxHeartbeats 1600000 in
theorem insert_some (g cap : Nat) (l : List ByteArray) (s : ByteArray) (w : World) (hR : Ones w Value.string (some ⟨g, 0, none⟩) l) (hc : l.length ≤ cap) (hm : cap ≤ maxLen) (hn : l.length ≤ 4000000000) :
    Calls Try.prog 80 #[.slice (some ⟨g, 0, none⟩) l.length cap, .string s] w (EndS (insS l s) w) := by
  unfold maxLen at hm
  have hfin : ∀ k, k ≤ l.length → (∀ j (hj : j < l.length), j < k → leS l[j] s = true) → (∀ hj : k < l.length, leS l[k] s = false) → insS l s = l.take k ++ [s] ++ l.drop k := fun k h1 h2 h3 => by
    obtain ⟨a, b⟩ := tw (fun x => leS x s) l k h1 h2 h3
    unfold insS; rw [a, b]
  have HF := Lib.hid hfin; clear hfin
  go_enter Try.func80, Try.ntmps80
  go_wp2_with fail
  go_loopw [5] (fun i wr => ∃ k : Nat, k ≤ l.length ∧ i = .int .i64 k ∧ w = wr ∧ Hid (∀ j (hj : j < l.length), j < k → leS l[j] s = true)) (fun i _ => l.length - (intOf i).toNat)
  case atStart => exact ⟨0, Nat.zero_le _, rfl, rfl, Lib.hid (fun j hj h => by omega)⟩
  case round =>
    obtain ⟨k, hk, rfl, rfl, HK⟩ := hrel
    by_cases hlt : k < l.length
    · obtain ⟨ad, e, had, c0⟩ := one_row hR k hlt
      cases e
      rw [addr0] at c0
      have hle := leS_eq l[k] s
      have hnext : leS l[k] s = true → ∀ j (hj : j < l.length), j < k + 1 → leS l[j] s = true := fun h j hj hjk => by
        by_cases e : j = k
        · subst e; exact h
        · exact HK.out j hj (by omega)
      have hfin := fun h : leS l[k] s = false => HF.out k hk HK.out (fun _ => h)
      generalize l[k] = x at *
      cases q : leS x s
      · rw [q] at hle
        have HE := Lib.hid (hfin q)
        rw [Bool.or_eq_false_iff] at hle
        obtain ⟨q1, q2⟩ := hle
        have hT := ones_take hR k
        have hD := ones_drop hR k hlt
        have lT : (l.take k).length = k := by rw [List.length_take]; omega
        have lD : (l.drop k).length = l.length - k := by rw [List.length_drop]
        generalize l.take k = T at *
        generalize l.drop k = D at *
        clear hnext hfin q
        have tok : True := trivial
        go_wp2_with (first
          | (at_builtin; have _t := tok; refine wpl_catS rfl _ _ rfl w [] T _ rfl (Acc.start w) _ _ cap rfl lT.symm hT (by simp; omega) ?_; intro v1 w1 hA1; obtain ⟨p1, c1, hv1, _⟩ := hA1.own.strs; rw [List.nil_append] at hv1 hA1; rw [lT] at hv1; subst hv1; clear tok)
          | (at_builtin; have _t := hA1; refine wpl_append eS _ rfl _ _ rfl w T _ rfl (hA1.alloc _) s w1.heap.size _ rfl (heap_alloc_new w1 _) rfl (by omega) (by unfold maxLen; omega) ?_; intro v2 w2 hA2 hb2; obtain ⟨p2, c2, hv2, _⟩ := hA2.own.strs; simp only [List.length_append, List.length_singleton, lT] at hv2; subst hv2; clear hA1)
          | (at_builtin; refine wpl_catS rfl _ _ rfl w (T ++ [s]) D _ rfl hA2 _ _ (cap - k) rfl lD.symm (hD.call hA2.below) (by simp; omega) ?_; intro v3 w3 hA3))
        go_wp2_with fail
        go_ret
        exact ⟨_, rfl, by rw [HE.out]; exact hA3⟩
      · rw [q] at hle
        have HE := Lib.hid (hnext q)
        clear hfin hnext q
        cases q1 : Op.bytesLess x.toList s.toList
        · have q2 : (x.toList == s.toList) = true := by simpa [q1] using hle
          go_wp2_with fail
          go_roundw
          case rel => exact ⟨k + 1, hlt, by go_num, by first | trivial | rfl, HE⟩
          case measure => simp [intOf]; omega
        · go_wp2_with fail
          go_roundw
          case rel => exact ⟨k + 1, hlt, by go_num, by first | trivial | rfl, HE⟩
          case measure => simp [intOf]; omega
    · obtain rfl : k = l.length := by omega
      have hE := HF.out l.length (Nat.le_refl _) HK.out (fun h => absurd h (Nat.lt_irrefl _))
      rw [List.take_length, List.drop_length, List.append_nil] at hE
      have HE := Lib.hid hE; clear hE
      have tok : True := trivial
      go_wp2_with (first
        | (at_builtin; have _t := tok; refine wpl_catS rfl _ _ rfl w [] l _ rfl (Acc.start w) _ _ cap rfl rfl hR (by simp; omega) ?_; intro v1 w1 hA1; obtain ⟨p1, c1, hv1, _⟩ := hA1.own.strs; rw [List.nil_append] at hv1 hA1; subst hv1; clear tok)
        | (at_builtin; have _t := hA1; refine wpl_append eS _ rfl _ _ rfl w l _ rfl (hA1.alloc _) s w1.heap.size _ rfl (heap_alloc_new w1 _) rfl (by omega) (by unfold maxLen; omega) ?_; intro v2 w2 hA2 hb2; obtain ⟨p2, c2, hv2, _⟩ := hA2.own.strs; simp only [List.length_append, List.length_singleton] at hv2; subst hv2; clear hA1)
        | (at_builtin; refine wpl_catS rfl _ _ rfl w (l ++ [s]) [] _ rfl hA2 _ _ (cap - l.length) rfl rfl (Ones.nil _ _ _) (by simp; omega) ?_; intro v3 w3 hA3))
      all_goals try go_wp2_with fail
      all_goals go_ret
      all_goals exact ⟨_, rfl, by rw [HE.out]; rw [List.append_nil] at hA3; exact hA3⟩
theorem insert_nil (s : ByteArray) (w : World) : Calls Try.prog 80 #[.slice none 0 0, .string s] w (EndS (insS [] s) w) := by
  have HE : insS [] s = [s] := rfl
  rw [HE]
  go_enter Try.func80, Try.ntmps80
  go_wp2_with fail
  go_loopw [5] (fun i wr => i = .int .i64 0 ∧ w = wr) (fun i _ => 0)
  case atStart => exact ⟨rfl, rfl⟩
  case round =>
    obtain ⟨rfl, rfl⟩ := hrel
    have tok : True := trivial
    go_wp2_with (first
      | (at_builtin; have _t := tok; refine wpl_catS rfl _ _ rfl w [] [] _ rfl (Acc.start w) none 0 0 rfl rfl (Ones.nil _ _ _) (by simp) ?_; intro v1 w1 hA1; obtain ⟨p1, c1, hv1, _⟩ := hA1.own.strs; subst hv1; clear tok)
      | (at_builtin; have _t := hA1; refine wpl_append eS _ rfl _ _ rfl w [] _ rfl (hA1.alloc _) s w1.heap.size _ rfl (heap_alloc_new w1 _) rfl (by simp) (by unfold maxLen; simp) ?_; intro v2 w2 hA2 hb2; obtain ⟨p2, c2, hv2, _⟩ := hA2.own.strs; subst hv2; clear hA1)
      | (at_builtin; refine wpl_catS rfl _ _ rfl w ([] ++ [s]) [] _ rfl hA2 none 0 0 rfl rfl (Ones.nil _ _ _) (by simp) ?_; intro v3 w3 hA3))
    go_ret
    exact ⟨_, rfl, hA3⟩
end Go.Proofs.Ytnfapcfajoboaaa
