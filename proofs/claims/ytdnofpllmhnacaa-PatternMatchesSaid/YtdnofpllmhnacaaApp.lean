/- Patterns appended to patterns; calls with owned patterns; pieces of strings. -/
import Derived.Test.YtdnofpllmhnacaaTxt
import Derived.Lib.AppendZeros
import Derived.Deep.Upon
namespace Go.Proofs.Ytdnofpllmhnacaa
open Go.ChangeShapes Go.WideShapes Go.ChangeAt Go.RowKit Go.Sort
set_option linter.unusedVariables false
set_option linter.unusedSimpArgs false
set_option maxRecDepth 100000

theorem at_one' (x : At) : ∀ u ∈ x.cs, u.oneCell' = true := fun u hu => by
  unfold At.cs setC at hu
  rcases List.mem_append.1 hu with hu | hu
  · obtain ⟨i, _, rfl⟩ := List.mem_map.1 hu; rfl
  · simp at hu; rcases hu with rfl | rfl <;> rfl
theorem ca_one (P : List At) : ∀ u ∈ ca P, u.oneCell' = true := fun u hu => by
  obtain ⟨x, _, hx⟩ := List.mem_flatMap.1 hu
  exact at_one' x u hx
theorem ca_get (P : List At) (j : Nat) (u : Value) (h : (ca P)[j]? = some u) : ∃ (i k : Nat) (hi : i < P.length), j = i * 34 + k ∧ (P[i]'hi).cs[k]? = some u := by
  have hj : j < P.length * 34 := by
    rcases Nat.lt_or_ge j (P.length * 34) with h1 | h1
    · exact h1
    · rw [List.getElem?_eq_none (by rw [ca_len]; exact h1)] at h; cases h
  have hi : j / 34 < P.length := by omega
  refine ⟨j / 34, j % 34, hi, by omega, ?_⟩
  have hk : j % 34 < (P[j / 34]'hi).cs.length := by rw [At.cs_length]; omega
  have := ca_at P (j / 34) hi (j % 34) _ (List.getElem?_eq_getElem hk)
  rw [show j / 34 * 34 + j % 34 = j by omega, h] at this
  rw [List.getElem?_eq_getElem hk, ← this]
theorem add_flat (b o n : Nat) : (⟨b, o, none⟩ : Addr).add n = ⟨b, o + n, none⟩ := by
  unfold Addr.add
  split
  · rename_i h; simp_all
  · rfl
theorem Ats.news {w : World} {b o : Nat} {M : List At} (hM : Ats w (some ⟨b, o, none⟩) M) : ∀ j u, (ca M)[j]? = some u → w.cell? ((⟨b, o, none⟩ : Addr).add j) = some u := fun j u hj => by
  obtain ⟨i, k, hi, rfl, hu⟩ := ca_get M j u hj
  obtain ⟨b', o', e, _, hc⟩ := hM (by omega)
  injection e with e; injection e with e1 e2 _; subst e1; subst e2
  have := hc i hi k u hu
  have ha : (⟨b, o, none⟩ : Addr).add (i * 34 + k) = ⟨b, o + i * 34 + k, none⟩ := by rw [add_flat, Nat.add_assoc]
  rw [ha]; exact this
/-- Appending a pattern, whatever it is, to one that the call owns. -/
theorem append_ats (w : World) (ty : TypeId) (base : Nat) (L M : List At) (v : Value) (p : Option Addr) (c : Nat) (h : OwA base L v w) (hM : Ats w p M) (hbase : base ≤ w.heap.size) (hl : L.length + M.length ≤ 1000000) :
    ∃ v' w', (Builtin.append_ #[26, 26] ty #[v, .slice p M.length c]).run Try.prog w = .ok v' w' ∧ OwA base (L ++ M) v' w' ∧ w.grownBy w' v.ownBlock := by
  obtain ⟨i, hi, hz0, hz1, hz2⟩ := info37'
  by_cases h0 : M.length = 0
  · have hM0 : M = [] := List.length_eq_zero_iff.1 h0
    subst hM0
    rw [List.append_nil]
    refine ⟨v, w, ?_, h, World.grownBy.refl _ _⟩
    obtain ⟨p1, c1, rfl, hle, _⟩ := h.ats
    refine run_append_nothing w 26 26 ty 37 i Try.underlying26 hi p1 L.length c1 hle _ ?_
    cases p with
    | none => exact Src.ofNil w Try.underlying26 c
    | some a => exact Src.ofSlice w Try.underlying26 a 0 c [] (by simp) (fun j u hj => by simp at hj) (fun u hu => by cases hu)
  · obtain ⟨b, o, rfl, hlt, _⟩ := hM (by omega)
    obtain ⟨g, cap, w', hr, h2, h3, h4, h5⟩ := run_append_lies (P := Try.prog) w 26 ty base 37 i _ 34 48 Try.underlying26 hi hz0 hz1 hz2 (by rfl) (by omega) v L.length (ca L) h ⟨b, o, none⟩ M.length c (ca M) (ca_len M) hM.news (ca_one M) (by omega) (by unfold maxLen; omega) (by omega) hbase _ rfl
    refine ⟨_, w', hr, ?_, h3⟩
    unfold OwA
    rw [List.length_append, show ca (L ++ M) = ca L ++ ca M from by unfold ca; rw [List.flatMap_append]]
    exact h2
theorem wpl_catA {w : World} {ops : Array Oper} {rest : List Oper} {o : Oper} {a : Act} {Q : Exit → Act → World → Prop} (hgd : o.guard = none) (s x : Operand) (ho : o.op = .call { callee := .builtin .append, args := #[s, x], argTypes := #[26, 26] })
    (base : Nat) (L M : List At) (v : Value) (hs : a.eval s = v) (h : OwA base L v w) (p : Option Addr) (m c : Nat) (hx : a.eval x = .slice p m c) (hm : m = M.length) (hM : Ats w p M) (hbase : base ≤ w.heap.size) (hl : L.length + M.length ≤ 1000000)
    (hK : ∀ v' w', OwA base (L ++ M) v' w' → w.grownBy w' v.ownBlock → wpList Try.prog ops Q rest (a.put o.dst v') w') : wpList Try.prog ops Q (o :: rest) a w := by
  subst hm
  obtain ⟨v', w', hr, h1, h2⟩ := append_ats w o.type base L M v p c h hM hbase hl
  exact Lib.wpList_append_run w hgd s x 26 26 ho v _ hs hx v' w' hr (hK v' w' h1 h2)
/-- Below, behind a step that writes the call's own row. -/
theorem OwA.below {base : Nat} {P : List At} {v : Value} {w W W' : World} (h : OwA base P v W) (hB : Below base w W) (hs : base ≤ W.heap.size) (g : W.grownBy W' v.ownBlock) : Below base w W' :=
  hB.grown g hs (fun k hk => (World.ownsRow.lt h k hk).1)
theorem match_own {base : Nat} {P : List At} {v : Value} {W : World} (h : OwA base P v W) (hn : P.length ≤ 1000) (s : ByteArray) (hs : s.size ≤ 4000000000) :
    Calls Try.prog 19 #[v, .string s] W fun e w' => e = .returned (.bool (matchF P (byt s))) ∧ Below W.heap.size W w' := by
  obtain ⟨p, c, rfl, hc, hm, ha, _⟩ := h.ats
  exact match_any p c P s W ha hc hm (by omega) hs
theorem prefix_own {base : Nat} {P : List At} {v : Value} {W : World} (h : OwA base P v W) (hn : P.length ≤ 1000) (s : ByteArray) (hs : s.size ≤ 4000000000) :
    Calls Try.prog 23 #[v, .string s] W fun e w' => e = .returned (.bool (prefF P (byt s))) ∧ Below W.heap.size W w' := by
  obtain ⟨p, c, rfl, hc, hm, ha, _⟩ := h.ats
  exact prefix_any p c P s W ha hc hm (by omega) hs
theorem longest_own {base : Nat} {P : List At} {v : Value} {W : World} (h : OwA base P v W) (hn : P.length ≤ 1000) (s : ByteArray) (hs : s.size ≤ 4000000000) :
    Calls Try.prog 27 #[v, .string s] W fun e w' => e = .returned (.int .i64 (longF P (byt s))) ∧ Below W.heap.size W w' := by
  obtain ⟨p, c, rfl, hc, hm, ha, _⟩ := h.ats
  exact longest_any p c P s W ha hc hm (by omega) hs
/-- Pieces of strings. -/
theorem byt_extract (s : ByteArray) (i j : Nat) : byt (s.extract i j) = ((byt s).drop i).take (j - i) := by
  unfold byt
  rw [show (s.extract i j).data.toList = (s.data.toList.drop i).take (j - i) from Lib.extract_data s i j, List.map_take, List.map_drop]
theorem byt_to (s : ByteArray) (i : Nat) : byt (s.extract 0 i) = (byt s).take i := by rw [byt_extract]; simp
theorem byt_from (s : ByteArray) (i : Nat) : byt (s.extract i s.size) = (byt s).drop i := by
  rw [byt_extract, List.take_of_length_le (by rw [List.length_drop, byt_len]; exact Nat.le_refl _)]
/-- Two patterns one behind the other. -/
def joinF (P Q : List At) (l : List Nat) : Nat → Bool
  | 0 => false
  | k + 1 => joinF P Q l k || (matchF P (l.take k) && matchF Q (l.drop k))
theorem join_iff (P Q : List At) (l : List Nat) (k : Nat) : joinF P Q l k = true ↔ ∃ i, i < k ∧ matchF P (l.take i) = true ∧ matchF Q (l.drop i) = true := by
  induction k with
  | zero => simp [joinF]
  | succ k ih =>
    rw [joinF, Bool.or_eq_true, Bool.and_eq_true, ih]
    constructor
    · rintro (⟨i, h1, h2⟩ | h)
      · exact ⟨i, by omega, h2⟩
      · exact ⟨k, by omega, h⟩
    · rintro ⟨i, h1, h2⟩
      by_cases e : i = k
      · right; rw [← e]; exact h2
      · left; exact ⟨i, by omega, h2⟩
theorem join_all (P Q : List At) (l : List Nat) : joinF P Q l (l.length + 1) = matchF (P ++ Q) l := by
  rw [Bool.eq_iff_iff, join_iff, match_iff, Mat_append]
  constructor
  · rintro ⟨i, h1, h2, h3⟩
    exact ⟨l.take i, l.drop i, (List.take_append_drop i l).symm, (match_iff _ _).1 h2, (match_iff _ _).1 h3⟩
  · rintro ⟨x, y, rfl, hx, hy⟩
    refine ⟨x.length, by simp; omega, ?_, ?_⟩
    · rw [List.take_left]; exact (match_iff _ _).2 hx
    · rw [List.drop_left]; exact (match_iff _ _).2 hy
end Go.Proofs.Ytdnofpllmhnacaa
