/- Plain mathematics of tokens: how a text is cut, what joins again. Contracts of class.Of, of what fits a token, of joints and of runs. Contracts of first, appendText, Tokens; of the reference's word, number, blank, Cut, Tokens. Contract of Tokens; SameTokens; appending tokens. Contracts of the reference's word, number, blank, Cut and Tokens. Contracts of Weight, Key, Same, Total, Count and of the reference's; of kind; of the fixed example. Contracts of Join, few, kind, Lower, Key, Same, and of the reference's. -/
import Derived.Test.YthfgpagmepdblaaGreatNrq
import Derived.Test.YthfgpagmepdblaaGreatSam
import Derived.Test.YthfgpagmepdblaaGreatLeaf
import Derived.Test.YthfgpagmepdblaaGreatShelf0
import Derived.LoopTactic
import Derived.Outline
import Derived.Test.YthfgpagmepdblaaGreatItD
import Derived.Test.YthfgpagmepdblaaGreatCat
import Derived.Laws.IdiomStrings
import Derived.Lib.SlBytesRow
namespace Go.Proofs.YthfgpagmepdblaaGreat
set_option linter.unusedVariables false
set_option maxRecDepth 100000

def cb (b : UInt8) : Int := cls (b.toNat : Int)
def fW (b : UInt8) : Bool := decide (cb b = 4 ∨ cb b = 3)
def fD (b : UInt8) : Bool := decide (cb b = 3)
def fS (b : UInt8) : Bool := decide (cb b = 2)
def jW (b : UInt8) : Bool := decide (b = 39 ∨ b = 45)
def jD (b : UInt8) : Bool := decide (b = 46 ∨ b = 44)
def jS (b : UInt8) : Bool := false
def bsT (l : List UInt8) : ByteArray := ⟨l.toArray⟩
theorem bsT_list (s : ByteArray) : bsT s.data.toList = s := by apply ByteArray.ext; simp [bsT]
theorem bsT_toList (l : List UInt8) : (bsT l).data.toList = l := rfl
theorem bsT_size (l : List UInt8) : (bsT l).size = l.length := by show l.toArray.size = _; simp
/-- Does a rest begin with a byte that fits? -/
def hdF (f : UInt8 → Bool) : List UInt8 → Bool
  | [] => false
  | b :: _ => f b
/-- How many bytes fit, or are single joints between two that fit. -/
def runL (f j : UInt8 → Bool) : List UInt8 → Nat
  | [] => 0
  | b :: t => if (f b || (j b && hdF f t)) = true then runL f j t + 1 else 0
theorem runL_le (f j : UInt8 → Bool) (l : List UInt8) : runL f j l ≤ l.length := by
  induction l with
  | nil => exact Nat.le_refl _
  | cons b t ih => unfold runL; split <;> simp <;> omega
theorem runL_yes (f j : UInt8 → Bool) (b : UInt8) (t : List UInt8) (h : f b = true) : runL f j (b :: t) = runL f j t + 1 := by rw [runL, if_pos (by simp [h])]
theorem runL_joint (f j : UInt8 → Bool) (b : UInt8) (t : List UInt8) (h : (j b && hdF f t) = true) : runL f j (b :: t) = runL f j t + 1 := by rw [runL, if_pos (by rw [h]; simp)]
theorem runL_no (f j : UInt8 → Bool) (b : UInt8) (t : List UInt8) (h : f b = false) (h2 : (j b && hdF f t) = false) : runL f j (b :: t) = 0 := by rw [runL, if_neg (by rw [h, h2]; simp)]
def kindT (b : UInt8) : Int := if cb b = 4 then 6 else if cb b = 3 then 7 else if cb b = 2 then 8 else 9
def sizeT : List UInt8 → Nat
  | [] => 0
  | b :: t => if cb b = 4 then runL fW jW t + 1 else if cb b = 3 then runL fD jD t + 1 else if cb b = 2 then runL fS jS t + 1 else 1
theorem sizeT_pos (b : UInt8) (t : List UInt8) : 1 ≤ sizeT (b :: t) := by rw [sizeT]; split; omega; split; omega; split <;> omega
theorem sizeT_le (l : List UInt8) : sizeT l ≤ l.length := by
  cases l with
  | nil => exact Nat.le_refl _
  | cons b t =>
    have h1 := runL_le fW jW t; have h2 := runL_le fD jD t; have h3 := runL_le fS jS t
    rw [sizeT]; simp only [List.length_cons]
    split; omega; split; omega; split <;> omega
def tokT (b : UInt8) (t : List UInt8) : It := ⟨kindT b, bsT ((b :: t).take (sizeT (b :: t))), 0⟩
def cutF : Nat → List UInt8 → List It
  | 0, _ => []
  | _ + 1, [] => []
  | n + 1, b :: t => tokT b t :: cutF n ((b :: t).drop (sizeT (b :: t)))
/-- The tokens of a text. -/
def cutT (r : List UInt8) : List It := cutF r.length r
theorem cutF_fuel : ∀ n m r, r.length ≤ n → r.length ≤ m → cutF n r = cutF m r := by
  intro n
  induction n with
  | zero =>
    intro m r h _
    have : r = [] := List.length_eq_zero_iff.1 (by omega)
    subst this
    cases m <;> rfl
  | succ n ih =>
    intro m r h1 h2
    cases r with
    | nil => cases m <;> rfl
    | cons b t =>
      cases m with
      | zero => simp at h2
      | succ m =>
        have := sizeT_pos b t
        rw [cutF, cutF, ih m _ (by simp at h1 ⊢; omega) (by simp at h2 ⊢; omega)]
theorem cutT_nil : cutT [] = [] := rfl
theorem cutT_cons (b : UInt8) (t : List UInt8) : cutT (b :: t) = tokT b t :: cutT ((b :: t).drop (sizeT (b :: t))) := by
  have := sizeT_pos b t
  show cutF (t.length + 1) (b :: t) = _
  rw [cutF]; unfold cutT
  rw [cutF_fuel _ _ _ (by simp; omega) (Nat.le_refl _)]
theorem cut_ind {P : List UInt8 → Prop} (h0 : P []) (h1 : ∀ b t, P ((b :: t).drop (sizeT (b :: t))) → P (b :: t)) (r : List UInt8) : P r := by
  have : ∀ n r, r.length ≤ n → P r := by
    intro n
    induction n with
    | zero => intro r h; have : r = [] := List.length_eq_zero_iff.1 (by omega); subst this; exact h0
    | succ n ih =>
      intro r h
      cases r with
      | nil => exact h0
      | cons b t => have := sizeT_pos b t; exact h1 b t (ih _ (by simp at h ⊢; omega))
  exact this _ _ (Nat.le_refl _)
theorem cutT_len (r : List UInt8) : (cutT r).length ≤ r.length := by
  refine cut_ind (P := fun r => (cutT r).length ≤ r.length) (Nat.le_refl _) (fun b t ih => ?_) r
  have := sizeT_pos b t
  rw [cutT_cons]; simp at ih ⊢; omega
theorem tokT_size (b : UInt8) (t : List UInt8) : (tokT b t).t.size = sizeT (b :: t) := by
  have := sizeT_le (b :: t)
  show (bsT _).size = _
  rw [bsT_size, List.length_take]; omega
theorem cutT_txt (r : List UInt8) : txtI (cutT r) = r.length := by
  refine cut_ind (P := fun r => txtI (cutT r) = r.length) rfl (fun b t ih => ?_) r
  have h1 := sizeT_pos b t; have h2 := sizeT_le (b :: t)
  rw [cutT_cons]
  show (tokT b t).t.size + txtI _ = _
  rw [ih, tokT_size, List.length_drop]; omega

/-! ### fragments -/
def tokI (x : It) : List It := if x.k = 1 then cutT x.t.data.toList else if 2 ≤ x.k ∧ x.k ≤ 5 then [x] else []
def toks (f : List It) : List It := f.flatMap tokI
theorem toks_next (l : List It) (k : Nat) (h : k < l.length) : toks (l.take (k + 1)) = toks (l.take k) ++ tokI (l[k]'h) := by
  rw [List.take_succ_eq_append_getElem h]; unfold toks; rw [List.flatMap_append]; simp
theorem toks_len (l : List It) : (toks l).length ≤ txtI l + l.length := by
  induction l with
  | nil => exact Nat.le_refl _
  | cons x t ih =>
    show (tokI x ++ toks t).length ≤ x.t.size + txtI t + (t.length + 1)
    rw [List.length_append]
    have h1 := cutT_len x.t.data.toList
    have h2 : x.t.data.toList.length = x.t.size := by simp
    have : (tokI x).length ≤ x.t.size + 1 := by unfold tokI; split; omega; split <;> simp
    omega
theorem toks_txt (l : List It) : txtI (toks l) ≤ txtI l := by
  induction l with
  | nil => exact Nat.le_refl _
  | cons x t ih =>
    show txtI (tokI x ++ toks t) ≤ x.t.size + txtI t
    have ha : txtI (tokI x ++ toks t) = txtI (tokI x) + txtI (toks t) := by unfold txtI; rw [List.map_append, List.sum_append]
    rw [ha]
    have h1 := cutT_txt x.t.data.toList
    have h2 : x.t.data.toList.length = x.t.size := by simp
    have : txtI (tokI x) ≤ x.t.size := by
      unfold tokI; split; omega; split
      · show x.t.size + 0 ≤ _; omega
      · exact Nat.zero_le _
    omega
theorem toks_one (s : ByteArray) : toks [⟨1, s, 0⟩] = cutT s.data.toList := by
  show tokI ⟨1, s, 0⟩ ++ [] = _
  rw [List.append_nil]; rfl
def unI (t : It) : List It := if 6 ≤ t.k ∧ t.k ≤ 9 then [⟨1, t.t, 0⟩] else if 2 ≤ t.k ∧ t.k ≤ 5 then [t] else []
def unL (l : List It) : List It := l.flatMap unI
theorem unL_next (l : List It) (k : Nat) (h : k < l.length) : unL (l.take (k + 1)) = unL (l.take k) ++ unI (l[k]'h) := by
  rw [List.take_succ_eq_append_getElem h]; unfold unL; rw [List.flatMap_append]; simp
theorem unL_len (l : List It) : (unL l).length ≤ l.length := by
  induction l with
  | nil => exact Nat.le_refl _
  | cons x t ih =>
    show (unI x ++ unL t).length ≤ t.length + 1
    rw [List.length_append]
    have : (unI x).length ≤ 1 := by unfold unI; split; simp; split <;> simp
    omega
theorem unL_txt (l : List It) : txtI (unL l) ≤ txtI l := by
  induction l with
  | nil => exact Nat.le_refl _
  | cons x t ih =>
    show txtI (unI x ++ unL t) ≤ x.t.size + txtI t
    have ha : txtI (unI x ++ unL t) = txtI (unI x) + txtI (unL t) := by unfold txtI; rw [List.map_append, List.sum_append]
    rw [ha]
    have : txtI (unI x) ≤ x.t.size := by
      unfold unI; split
      · show x.t.size + 0 ≤ _; omega
      · split
        · show x.t.size + 0 ≤ _; omega
        · exact Nat.zero_le _
    omega
theorem kindT_range (b : UInt8) : 6 ≤ kindT b ∧ kindT b ≤ 9 := by unfold kindT; split; omega; split; omega; split <;> omega
/-- The tokens of a text, behind a fragment, give the text again. -/
theorem fold_cut (r : List UInt8) : ∀ o, (unL (cutT r)).foldl normS o = normS o ⟨1, bsT r, 0⟩ := by
  refine cut_ind (P := fun r => ∀ o, (unL (cutT r)).foldl normS o = normS o ⟨1, bsT r, 0⟩) (fun o => ?_) (fun b t ih o => ?_) r
  · rw [norm_skip o _ rfl (bsT_size [])]; rfl
  · have h1 := sizeT_pos b t; have h2 := sizeT_le (b :: t)
    rw [cutT_cons]
    have e : unI (tokT b t) = [⟨1, (tokT b t).t, 0⟩] := if_pos (kindT_range b)
    show (unI (tokT b t) ++ unL _).foldl normS o = _
    rw [e, List.foldl_append, ih]
    show normS (normS o ⟨1, (tokT b t).t, 0⟩) _ = _
    have e2 : bsT (b :: t) = (tokT b t).t ++ bsT ((b :: t).drop (sizeT (b :: t))) := by
      show _ = bsT ((b :: t).take (sizeT (b :: t))) ++ _
      apply ByteArray.ext; rw [ByteArray.data_append]; apply Array.ext'
      show b :: t = _
      simp only [bsT, List.append_toArray]
      exact (List.take_append_drop _ _).symm
    by_cases hr : (bsT ((b :: t).drop (sizeT (b :: t)))).size = 0
    · rw [norm_skip _ _ rfl hr, e2, size_zero _ hr]
      rw [show (tokT b t).t ++ ByteArray.empty = (tokT b t).t by simp]
    · rw [two_texts o _ _ rfl rfl hr, e2]
def kindsOk (f : List It) : Prop := ∀ x ∈ f, 1 ≤ x.k ∧ x.k ≤ 5
theorem fold_toks (f : List It) (h : kindsOk f) : ∀ o, (unL (toks f)).foldl normS o = f.foldl normS o := by
  induction f with
  | nil => intro o; rfl
  | cons x t ih =>
    intro o
    have hx := h x (.head _)
    have e : unL (toks (x :: t)) = unL (tokI x) ++ unL (toks t) := by
      show unL (tokI x ++ toks t) = _
      unfold unL; rw [List.flatMap_append]
    rw [e, List.foldl_append, ih (fun y hy => h y (.tail _ hy)), List.foldl_cons]
    congr 1
    by_cases h1 : x.k = 1
    · unfold tokI; rw [if_pos h1, fold_cut, bsT_list]
      obtain ⟨k, t, id⟩ := x
      dsimp only at h1; subst h1
      exact normS_text _ _ _ _
    · have : tokI x = [x] := by unfold tokI; rw [if_neg h1, if_pos (by omega)]
      rw [this]
      show (unI x ++ []).foldl normS o = _
      rw [List.append_nil]
      unfold unI; rw [if_neg (by omega), if_pos (by omega)]; rfl
theorem norm_toks (f : List It) (h : kindsOk f) : norm (unL (toks f)) = norm f := fold_toks f h []
theorem normS_mem (o : List It) (x : It) : ∀ y ∈ normS o x, y ∈ o ∨ y = x ∨ y.k = 1 := by
  intro y hy
  unfold normS at hy
  split at hy
  · split at hy
    · exact .inl hy
    · split at hy
      · split at hy
        · rcases List.mem_append.1 hy with h | h
          · exact .inl (List.dropLast_subset _ h)
          · right; right; rw [List.mem_singleton.1 h]
        · rcases List.mem_append.1 hy with h | h
          · exact .inl h
          · right; right; rw [List.mem_singleton.1 h]
      · rcases List.mem_append.1 hy with h | h
        · exact .inl h
        · right; right; rw [List.mem_singleton.1 h]
  · rcases List.mem_append.1 hy with h | h
    · exact .inl h
    · right; left; exact List.mem_singleton.1 h
theorem kinds_norm (f : List It) (h : kindsOk f) : kindsOk (norm f) := by
  have : ∀ k, k ≤ f.length → kindsOk (norm (f.take k)) := by
    intro k
    induction k with
    | zero => intro _ x hx; simp [norm] at hx
    | succ j ih =>
      intro hj x hx
      rw [norm_next f j hj] at hx
      rcases normS_mem _ _ x hx with h1 | h1 | h1
      · exact ih (by omega) x h1
      · rw [h1]; exact h _ (List.getElem_mem hj)
      · omega
  have := this f.length (Nat.le_refl _)
  rwa [List.take_length] at this
end Go.Proofs.YthfgpagmepdblaaGreat
namespace Go.Proofs.YthfgpagmepdblaaGreat
open Go.ChangeShapes Go.WideShapes Go.ChangeAt Go.RowKit
set_option linter.unusedVariables false
set_option linter.unusedSimpArgs false
set_option maxRecDepth 100000

theorem byteU_le (b : UInt8) : (b.toNat : Int) ≤ 255 := by have := b.toNat_lt; omega
theorem rof_any (n : Int) (w : World) (h0 : 0 ≤ n) (h1 : n ≤ 255) :
    Calls Tryz.prog 74 #[.int .u8 n] w fun e w' => e = .returned (.int .i64 (cls n)) ∧ w = w' := by
  go_enter Tryz.func74, Tryz.ntmps74
  go_wp2
  all_goals go_ret
  all_goals refine ⟨ret_int ?_, rfl⟩
  all_goals (unfold cls; simp_all; try omega)
theorem drop_cons (s : ByteArray) (k : Nat) (h : k < s.size) : s.data.toList.drop k = s[k] :: s.data.toList.drop (k + 1) := by
  rw [List.drop_eq_getElem_cons (by simpa using h)]; rfl
theorem drop_end (s : ByteArray) (k : Nat) (h : s.size ≤ k) : s.data.toList.drop k = [] := List.drop_eq_nil_iff.2 (by simpa using h)
theorem rest_size (s : ByteArray) (k : Nat) : (s.extract k s.size).size = s.size - k := by rw [ByteArray.size_extract]; omega
theorem rest_list (s : ByteArray) (k : Nat) : (s.extract k s.size).data.toList = s.data.toList.drop k := by
  rw [ByteArray.data_extract, Array.toList_extract, List.extract_eq_take_drop]
  rw [List.take_of_length_le (by simp)]
theorem rest_at (s : ByteArray) (k j : Nat) (h : k + j < s.size) : (s.extract k s.size)[j]'(by rw [rest_size]; omega) = s[k + j] := by
  have e := rest_list s k
  have h1 : (s.extract k s.size).data.toList[j]'(by rw [e]; simp; omega) = (s.data.toList.drop k)[j]'(by simp; omega) := by simp only [e]
  rw [List.getElem_drop] at h1
  exact h1
theorem hd_drop (f : UInt8 → Bool) (s : ByteArray) (k : Nat) (h : k < s.size) : hdF f (s.data.toList.drop k) = f s[k] := by rw [drop_cons s k h]; rfl
theorem hd_end (f : UInt8 → Bool) (s : ByteArray) (k : Nat) (h : s.size ≤ k) : hdF f (s.data.toList.drop k) = false := by rw [drop_end s k h]; rfl

end Go.Proofs.YthfgpagmepdblaaGreat
namespace Go.Proofs.YthfgpagmepdblaaGreat
open Go.ChangeShapes Go.WideShapes Go.ChangeAt Go.RowKit
set_option linter.unusedVariables false
set_option linter.unusedSimpArgs false
set_option maxRecDepth 100000

theorem infoTok : (Tryz.prog.info? 43).map (fun i => (i.zero, i.size, i.bytes)) = some (some (.agg #[.int .i64 0, .string .empty, .int .i64 0]), 3, 32) := by kernel_rfl
theorem eT : El 23 43 3 32 (.agg #[.int .i64 0, .string .empty, .int .i64 0]) ienc :=
  ⟨Tryz.underlying23, info_parts infoTok, rfl, by omega, fun _ => rfl, fun x u hu => by simp [ienc] at hu; rcases hu with rfl | rfl | rfl <;> rfl⟩
/-- A slice of tokens that the call owns from block base on. -/
abbrev OwnT := OwnL 43 3 ienc
abbrev AccT := Acc 43 3 ienc
theorem OwnT.its {base : Nat} {L : List It} {v : Value} {wr : World} (h : OwnT base L v wr) : ∃ p cap, v = .slice p L.length cap ∧ L.length ≤ cap ∧ cap ≤ maxLen ∧ Its wr p L := by
  rcases h.2 with ⟨hv, h0⟩ | ⟨g, cap, cur, hv, hg, hh, hn, hm, hs, ht⟩
  · have : L = [] := List.length_eq_zero_iff.1 h0
    subst this
    exact ⟨none, 0, hv, Nat.le_refl _, Nat.zero_le _, Its.nil _ _⟩
  · refine ⟨some ⟨g, 0, none⟩, cap, hv, hn, hm, fun _ => ⟨_, rfl, ?_, fun i hi => ?_⟩⟩
    · rcases Nat.lt_or_ge g wr.heap.size with hlt | hge
      · exact hlt
      · rw [Array.getElem?_eq_none hge] at hh; cases hh
    · have hc := World.ownsRow.cells h (g := g) (by rw [hv]; rfl)
      obtain ⟨c0, c1, c2⟩ := icells_at L i hi
      exact ⟨hc _ _ c0, hc _ _ c1, hc _ _ c2⟩
/-- What a call that answers tokens says. -/
def EndT (L : List It) (w : World) (e : Ending) (w' : World) : Prop := ∃ v, e = .returned v ∧ AccT w L v w'
theorem EndT.f {L : List It} {w w' : World} {e : Ending} (h : EndT L w e w') : EndF L w e w' := by
  obtain ⟨v, rfl, hA⟩ := h
  obtain ⟨p, c, rfl, h1, h2, hI⟩ := OwnT.its hA.own
  exact ⟨p, c, rfl, h1, h2, hI, hA.below⟩
theorem list_at (s : ByteArray) (h : 0 < s.size) : s.data.toList = s[0] :: s.data.toList.drop 1 := by have := drop_cons s 0 h; rwa [List.drop_zero] at this

theorem head_list (s : ByteArray) (n : Nat) : (s.extract 0 n) = bsT (s.data.toList.take n) := by
  apply ByteArray.ext; apply Array.ext'
  rw [ByteArray.data_extract, Array.toList_extract, List.extract_eq_take_drop]; simp [bsT]
/-- What a round of appendText or Cut makes of a rest. -/
theorem cut_step (r : ByteArray) (h : 0 < r.size) : cutT r.data.toList = ⟨kindT r[0], r.extract 0 (sizeT r.data.toList), 0⟩ :: cutT (r.extract (sizeT r.data.toList) r.size).data.toList := by
  rw [rest_list, head_list]
  have e := list_at r h
  generalize r.data.toList = T at *
  rw [e, cutT_cons]; rfl
theorem size_step (r : ByteArray) (h : 0 < r.size) : 1 ≤ sizeT r.data.toList ∧ sizeT r.data.toList ≤ r.size := by
  have e := list_at r h
  have h2 := sizeT_le r.data.toList
  have h3 : r.data.toList.length = r.size := by simp
  refine ⟨?_, by omega⟩
  rw [e]; exact sizeT_pos _ _

end Go.Proofs.YthfgpagmepdblaaGreat
namespace Go.Proofs.YthfgpagmepdblaaGreat
open Go.ChangeShapes Go.WideShapes Go.ChangeAt Go.RowKit
set_option linter.unusedVariables false
set_option linter.unusedSimpArgs false
set_option maxRecDepth 100000


/-- What word and number answer. -/
def wN (l : List UInt8) : Nat := match l with | [] => 0 | b :: t => if cb b = 4 then runL fW jW t + 1 else 0
def nN (l : List UInt8) : Nat := match l with | [] => 0 | b :: t => if cb b = 3 then runL fD jD t + 1 else 0
theorem runL_hd (f j : UInt8 → Bool) (l : List UInt8) (h : hdF f l = true) : runL f j l = runL f j (l.drop 1) + 1 := by
  cases l with
  | nil => cases h
  | cons b t => rw [runL_yes _ _ _ _ h]; rfl
theorem fW_eq (b : UInt8) : fW b = (cls (b.toNat : Int) == 4 || cls (b.toNat : Int) == 3) := by unfold fW cb; rw [Bool.eq_iff_iff]; simp
theorem fD_eq (b : UInt8) : fD b = (cls (b.toNat : Int) == 3) := by unfold fD cb; rw [Bool.eq_iff_iff]; simp
theorem fS_eq (b : UInt8) : fS b = (cls (b.toNat : Int) == 2) := by unfold fS cb; rw [Bool.eq_iff_iff]; simp
theorem u39 (b : UInt8) : b = 39 ↔ (b.toNat : Int) = 39 := ⟨fun h => by subst h; rfl, fun h => UInt8.toNat_inj.1 (by show b.toNat = 39; omega)⟩
theorem u45 (b : UInt8) : b = 45 ↔ (b.toNat : Int) = 45 := ⟨fun h => by subst h; rfl, fun h => UInt8.toNat_inj.1 (by show b.toNat = 45; omega)⟩
theorem u46 (b : UInt8) : b = 46 ↔ (b.toNat : Int) = 46 := ⟨fun h => by subst h; rfl, fun h => UInt8.toNat_inj.1 (by show b.toNat = 46; omega)⟩
theorem u44 (b : UInt8) : b = 44 ↔ (b.toNat : Int) = 44 := ⟨fun h => by subst h; rfl, fun h => UInt8.toNat_inj.1 (by show b.toNat = 44; omega)⟩
theorem jW_eq (b : UInt8) : jW b = (((b.toNat : Int) == 39) || ((b.toNat : Int) == 45)) := by
  unfold jW; rw [Bool.eq_iff_iff, decide_eq_true_iff, u39, u45]; simp
theorem jD_eq (b : UInt8) : jD b = (((b.toNat : Int) == 46) || ((b.toNat : Int) == 44)) := by
  unfold jD; rw [Bool.eq_iff_iff, decide_eq_true_iff, u46, u44]; simp

/-- Appending a slice of tokens, whatever it is, to one that the call owns. -/
theorem append_toks (w : World) (ty : TypeId) (base : Nat) (L M : List It) (v : Value) (p : Option Addr) (c : Nat) (h : OwnT base L v w) (hM : Its w p M) (hbase : base ≤ w.heap.size) (hl : (L.length + M.length) * 32 ≤ 140737488355328) :
    ∃ v' w', (Builtin.append_ #[23, 23] ty #[v, .slice p M.length c]).run Tryz.prog w = .ok v' w' ∧ OwnT base (L ++ M) v' w' ∧ w.grownBy w' v.ownBlock := by
  obtain ⟨i, hi, hz0, hz1, hz2⟩ := eT.hi
  by_cases h0 : M.length = 0
  · have hM0 : M = [] := List.length_eq_zero_iff.1 h0
    subst hM0
    rw [List.append_nil]
    refine ⟨v, w, ?_, h, World.grownBy.refl _ _⟩
    obtain ⟨p1, c1, rfl, hle, _⟩ := OwnT.its h
    refine run_append_nothing w 23 23 ty 43 i eT.ht hi p1 L.length c1 hle _ ?_
    cases p with
    | none => exact Src.ofNil w eT.ht c
    | some a => exact Src.ofSlice w eT.ht a 0 c [] (by simp) (fun j u hj => by simp at hj) (fun u hu => by cases hu)
  · obtain ⟨a, rfl, hlt, _⟩ := hM (by omega)
    have hm3 := icells_length M
    obtain ⟨g, cap, w', hr, h2, h3, h4, h5⟩ := run_append_lies (P := Tryz.prog) w 23 ty base 43 i _ 3 32 eT.ht hi hz0 hz1 hz2 eT.hzs eT.hsz v L.length (cellsOf ienc L) h a M.length c (icells M) hm3 hM.news (icells_one M) (by omega) (by unfold maxLen; omega) hl hbase _ rfl
    refine ⟨_, w', hr, ?_, h3⟩
    unfold OwnT OwnL
    rw [List.length_append, show cellsOf ienc (L ++ M) = cellsOf ienc L ++ icells M from by unfold cellsOf icells; rw [List.flatMap_append]; rfl]
    exact h2
theorem wpl_catT {w : World} {ops : Array Oper} {rest : List Oper} {o : Oper} {a : Act} {Q : Exit → Act → World → Prop} (hgd : o.guard = none) (s x : Operand) (ho : o.op = .call { callee := .builtin .append, args := #[s, x], argTypes := #[23, 23] })
    (w0 : World) (L M : List It) (v : Value) (hs : a.eval s = v) (h : AccT w0 L v w) (p : Option Addr) (m c : Nat) (hx : a.eval x = .slice p m c) (hm : m = M.length) (hM : Its w p M) (hl : (L.length + M.length) * 32 ≤ 140737488355328)
    (hK : ∀ v' w', AccT w0 (L ++ M) v' w' → wpList Tryz.prog ops Q rest (a.put o.dst v') w') : wpList Tryz.prog ops Q (o :: rest) a w := by
  subst hm
  obtain ⟨v', w', hr, h1, h2⟩ := append_toks w o.type w0.heap.size L M v p c h.own hM h.below.size hl
  exact Lib.wpList_append_run w hgd s x 23 23 ho v _ hs hx v' w' hr (hK v' w' (h.more h2 h1))


theorem heap_newT (w : World) (a b : Obj) : ((w.alloc a).alloc b).heap[w.heap.size + 1]? = some b := by
  have h := heap_alloc_new (w.alloc a) b
  rwa [show (w.alloc a).heap.size = w.heap.size + 1 by simp] at h
theorem tokI_one (k : Int) (t : ByteArray) (id : Int) (h : 2 ≤ k ∧ k ≤ 5) : tokI ⟨k, t, id⟩ = [⟨k, t, id⟩] := by unfold tokI; rw [if_neg (by show ¬ k = 1; omega), if_pos (by exact h)]
theorem tokI_none (k : Int) (t : ByteArray) (id : Int) (h1 : ¬ k = 1) (h : ¬ (2 ≤ k ∧ k ≤ 5)) : tokI ⟨k, t, id⟩ = [] := by unfold tokI; rw [if_neg (by show ¬ k = 1; omega), if_neg (by exact h)]
end Go.Proofs.YthfgpagmepdblaaGreat
namespace Go.Proofs.YthfgpagmepdblaaGreat
open Go.ChangeShapes Go.WideShapes Go.ChangeAt Go.RowKit
set_option linter.unusedVariables false
set_option linter.unusedSimpArgs false
set_option maxRecDepth 100000

theorem wN_not (T T' : List UInt8) (b : UInt8) (e : T = b :: T') (h : ¬ cls (b.toNat : Int) = 4) : wN T = 0 := by rw [e]; exact if_neg h
theorem wN_yes (T T' : List UInt8) (b : UInt8) (e : T = b :: T') (h : cls (b.toNat : Int) = 4) : wN T = 1 + runL fW jW T' := by rw [e, Nat.add_comm]; exact if_pos h
theorem nN_not (T T' : List UInt8) (b : UInt8) (e : T = b :: T') (h : ¬ cls (b.toNat : Int) = 3) : nN T = 0 := by rw [e]; exact if_neg h
theorem nN_yes (T T' : List UInt8) (b : UInt8) (e : T = b :: T') (h : cls (b.toNat : Int) = 3) : nN T = 1 + runL fD jD T' := by rw [e, Nat.add_comm]; exact if_pos h
theorem two_on (f j : UInt8 → Bool) (s : ByteArray) (k R : Nat) (h1 : k + 1 < s.size) (hj : j (s[k]'(by omega)) = true) (hf : f s[k + 1] = true) (h : k + runL f j (s.data.toList.drop k) = R) : k + 2 + runL f j (s.data.toList.drop (k + 2)) = R := by
  rw [drop_cons s k (by omega), runL_joint f j _ _ (by rw [hj, hd_drop f s (k + 1) h1, hf]; rfl), drop_cons s (k + 1) h1, runL_yes f j _ _ hf] at h
  change k + 2 + runL f j (s.data.toList.drop (k + 1 + 1)) = R
  omega
theorem one_on (f j : UInt8 → Bool) (s : ByteArray) (k R : Nat) (h1 : k < s.size) (hf : f s[k] = true) (h : k + runL f j (s.data.toList.drop k) = R) : k + 1 + runL f j (s.data.toList.drop (k + 1)) = R := by
  rw [drop_cons s k h1, runL_yes f j _ _ hf] at h
  omega
theorem stop_j (f j : UInt8 → Bool) (s : ByteArray) (k R : Nat) (h1 : k < s.size) (hf : f s[k] = false) (hj : j s[k] = false) (h : k + runL f j (s.data.toList.drop k) = R) : k = R := by
  rw [drop_cons s k h1, runL_no f j _ _ hf (by rw [hj]; rfl)] at h; omega
theorem stop_f (f j : UInt8 → Bool) (s : ByteArray) (k R : Nat) (h1 : k + 1 < s.size) (hf : f (s[k]'(by omega)) = false) (hg : f s[k + 1] = false) (h : k + runL f j (s.data.toList.drop k) = R) : k = R := by
  rw [drop_cons s k (by omega), runL_no f j _ _ hf (by rw [hd_drop f s (k + 1) h1, hg]; simp)] at h; omega
theorem stop_e (f j : UInt8 → Bool) (s : ByteArray) (k R : Nat) (h0 : k < s.size) (h1 : ¬ k + 1 < s.size) (hf : f s[k] = false) (h : k + runL f j (s.data.toList.drop k) = R) : k = R := by
  rw [drop_cons s k h0, runL_no f j _ _ hf (by rw [hd_end f s (k + 1) (by omega)]; simp)] at h; omega
theorem stop_n (f j : UInt8 → Bool) (s : ByteArray) (R : Nat) (h : s.size + runL f j (s.data.toList.drop s.size) = R) : s.size = R := by
  rw [drop_end s _ (Nat.le_refl _)] at h; exact h
theorem int_of {k : IntKind} {a b : Nat} (h : a = b) : Ending.returned (.int k (a : Int)) = .returned (.int k (b : Int)) := by rw [h]

set_option maxHeartbeats 3200000 in
theorem rword_any (s : ByteArray) (w : World) (h0 : 0 < s.size) (hs : s.size ≤ 140737488355328) : Calls Tryz.prog 46 #[.string s] w fun e w' => e = .returned (.int .i64 (wN s.data.toList)) ∧ w = w' := by
  have hb := byteU_le s[0]
  have hc := fun W => rof_any (s[0].toNat : Int) W (by omega) hb
  have e := list_at s h0
  have hq := str_some (a := s) (by omega)
  have h0' : (0 : Int) < (s.size : Int) := by omega
  have HC := Lib.hid hc; clear hc
  by_cases c4 : cls (s[0].toNat : Int) = 4
  · have hR := wN_yes _ _ _ e c4
    have q4 : (cls (s[0].toNat : Int) == 4) = true := by simpa using c4
    have q4' : (cls (s[0].toNat : Int) != 4) = false := by simp [c4]
    generalize wN s.data.toList = R at *
    have H0 := Lib.hid hR.symm
    clear hR c4 e
    go_enter Tryz.func46, Tryz.ntmps46
    go_wp2_with fail
    refine (HC.out _).mono ?_; rintro e w1 ⟨rfl, rfl⟩
    go_wp2_with fail
    go_loop [3] (fun i => ∃ k : Nat, k ≤ s.size ∧ i = .int .i64 k ∧ Hid (k + runL fW jW (s.data.toList.drop k) = R)) (fun i => s.size - (intOf i).toNat)
    case atStart => exact ⟨1, h0, rfl, H0⟩
    case round =>
      obtain ⟨k, hk, rfl, HK⟩ := hrel
      by_cases hlt : k < s.size
      · have hlt' : (k : Int) < (s.size : Int) := by omega
        have hb1 := byteU_le (s[k]'hlt)
        have hd := fun W => rof_any ((s[k]'hlt).toNat : Int) W (by omega) hb1
        have HD := Lib.hid hd; clear hd
        have EF := Lib.hid (fW_eq (s[k]'hlt)); have EJ := Lib.hid (jW_eq (s[k]'hlt))
        cases a4 : (cls ((s[k]'hlt).toNat : Int) == 4)
        · cases a3 : (cls ((s[k]'hlt).toNat : Int) == 3)
          · have hf : fW (s[k]'hlt) = false := by rw [EF.out, a4, a3]; rfl
            have HF := Lib.hid hf; clear hf
            cases a39 : (((s[k]'hlt).toNat : Int) == 39)
            · cases a45 : (((s[k]'hlt).toNat : Int) == 45)
              · have HZ := Lib.hid (stop_j fW jW s k R hlt HF.out (by rw [EJ.out, a39, a45]; rfl) HK.out)
                go_wp2_with fail
                refine (HD.out _).mono ?_; rintro e w1 ⟨rfl, rfl⟩
                go_wp2_with fail
                go_ret
                exact ⟨int_of HZ.out, rfl⟩
              · have hj : jW (s[k]'hlt) = true := by rw [EJ.out, a39, a45]; rfl
                have HJ := Lib.hid hj; clear hj
                by_cases hl2 : k + 1 < s.size
                · have hl2' : (k : Int) + 1 < (s.size : Int) := by omega
                  have hb2 := byteU_le (s[k + 1]'hl2)
                  have he := fun W => rof_any ((s[k + 1]'hl2).toNat : Int) W (by omega) hb2
                  have HE := Lib.hid he; clear he
                  have EG := Lib.hid (fW_eq (s[k + 1]'hl2))
                  cases b4 : (cls ((s[k + 1]'hl2).toNat : Int) == 4)
                  · cases b3 : (cls ((s[k + 1]'hl2).toNat : Int) == 3)
                    · have HZ := Lib.hid (stop_f fW jW s k R hl2 HF.out (by rw [EG.out, b4, b3]; rfl) HK.out)
                      go_wp2_with fail
                      refine (HD.out _).mono ?_; rintro e w1 ⟨rfl, rfl⟩
                      go_wp2_with fail
                      refine (HE.out _).mono ?_; rintro e w1 ⟨rfl, rfl⟩
                      go_wp2_with fail
                      go_ret
                      exact ⟨int_of HZ.out, rfl⟩
                    · have HZ := Lib.hid (two_on fW jW s k R hl2 HJ.out (by rw [EG.out, b4, b3]; rfl) HK.out)
                      go_wp2_with fail
                      refine (HD.out _).mono ?_; rintro e w1 ⟨rfl, rfl⟩
                      go_wp2_with fail
                      refine (HE.out _).mono ?_; rintro e w1 ⟨rfl, rfl⟩
                      go_wp2_with fail
                      go_round
                      case rel => exact ⟨k + 2, hl2, by go_num, HZ⟩
                      case measure => simp [intOf]; omega
                  · have HZ := Lib.hid (two_on fW jW s k R hl2 HJ.out (by rw [EG.out, b4]; rfl) HK.out)
                    go_wp2_with fail
                    refine (HD.out _).mono ?_; rintro e w1 ⟨rfl, rfl⟩
                    go_wp2_with fail
                    refine (HE.out _).mono ?_; rintro e w1 ⟨rfl, rfl⟩
                    go_wp2_with fail
                    go_round
                    case rel => exact ⟨k + 2, hl2, by go_num, HZ⟩
                    case measure => simp [intOf]; omega
                · have hl2' : ¬ (k : Int) + 1 < (s.size : Int) := by omega
                  have HZ := Lib.hid (stop_e fW jW s k R hlt hl2 HF.out HK.out)
                  go_wp2_with fail
                  refine (HD.out _).mono ?_; rintro e w1 ⟨rfl, rfl⟩
                  go_wp2_with fail
                  go_ret
                  exact ⟨int_of HZ.out, rfl⟩
            · have hj : jW (s[k]'hlt) = true := by rw [EJ.out, a39]; rfl
              have HJ := Lib.hid hj; clear hj
              by_cases hl2 : k + 1 < s.size
              · have hl2' : (k : Int) + 1 < (s.size : Int) := by omega
                have hb2 := byteU_le (s[k + 1]'hl2)
                have he := fun W => rof_any ((s[k + 1]'hl2).toNat : Int) W (by omega) hb2
                have HE := Lib.hid he; clear he
                have EG := Lib.hid (fW_eq (s[k + 1]'hl2))
                cases b4 : (cls ((s[k + 1]'hl2).toNat : Int) == 4)
                · cases b3 : (cls ((s[k + 1]'hl2).toNat : Int) == 3)
                  · have HZ := Lib.hid (stop_f fW jW s k R hl2 HF.out (by rw [EG.out, b4, b3]; rfl) HK.out)
                    go_wp2_with fail
                    refine (HD.out _).mono ?_; rintro e w1 ⟨rfl, rfl⟩
                    go_wp2_with fail
                    refine (HE.out _).mono ?_; rintro e w1 ⟨rfl, rfl⟩
                    go_wp2_with fail
                    go_ret
                    exact ⟨int_of HZ.out, rfl⟩
                  · have HZ := Lib.hid (two_on fW jW s k R hl2 HJ.out (by rw [EG.out, b4, b3]; rfl) HK.out)
                    go_wp2_with fail
                    refine (HD.out _).mono ?_; rintro e w1 ⟨rfl, rfl⟩
                    go_wp2_with fail
                    refine (HE.out _).mono ?_; rintro e w1 ⟨rfl, rfl⟩
                    go_wp2_with fail
                    go_round
                    case rel => exact ⟨k + 2, hl2, by go_num, HZ⟩
                    case measure => simp [intOf]; omega
                · have HZ := Lib.hid (two_on fW jW s k R hl2 HJ.out (by rw [EG.out, b4]; rfl) HK.out)
                  go_wp2_with fail
                  refine (HD.out _).mono ?_; rintro e w1 ⟨rfl, rfl⟩
                  go_wp2_with fail
                  refine (HE.out _).mono ?_; rintro e w1 ⟨rfl, rfl⟩
                  go_wp2_with fail
                  go_round
                  case rel => exact ⟨k + 2, hl2, by go_num, HZ⟩
                  case measure => simp [intOf]; omega
              · have hl2' : ¬ (k : Int) + 1 < (s.size : Int) := by omega
                have HZ := Lib.hid (stop_e fW jW s k R hlt hl2 HF.out HK.out)
                go_wp2_with fail
                refine (HD.out _).mono ?_; rintro e w1 ⟨rfl, rfl⟩
                go_wp2_with fail
                go_ret
                exact ⟨int_of HZ.out, rfl⟩
          · have HZ := Lib.hid (one_on fW jW s k R hlt (by rw [EF.out, a4, a3]; rfl) HK.out)
            go_wp2_with fail
            refine (HD.out _).mono ?_; rintro e w1 ⟨rfl, rfl⟩
            go_wp2_with fail
            go_round
            case rel => exact ⟨k + 1, hlt, by go_num, HZ⟩
            case measure => simp [intOf]; omega
        · have HZ := Lib.hid (one_on fW jW s k R hlt (by rw [EF.out, a4]; rfl) HK.out)
          go_wp2_with fail
          refine (HD.out _).mono ?_; rintro e w1 ⟨rfl, rfl⟩
          go_wp2_with fail
          go_round
          case rel => exact ⟨k + 1, hlt, by go_num, HZ⟩
          case measure => simp [intOf]; omega
      · obtain rfl : k = s.size := by omega
        have HZ := Lib.hid (stop_n _ _ _ _ HK.out)
        go_wp2_with fail
        go_ret
        exact ⟨int_of HZ.out, rfl⟩
  · have hR := wN_not _ _ _ e c4
    have q4 : (cls (s[0].toNat : Int) == 4) = false := by simpa using c4
    have q4' : (cls (s[0].toNat : Int) != 4) = true := by simp [c4]
    have HR := Lib.hid hR; clear hR c4 e
    go_enter Tryz.func46, Tryz.ntmps46
    go_wp2_with fail
    refine (HC.out _).mono ?_; rintro e w1 ⟨rfl, rfl⟩
    go_wp2_with fail
    go_ret
    exact ⟨by rw [HR.out]; rfl, rfl⟩

set_option maxHeartbeats 3200000 in
theorem rnumber_any (s : ByteArray) (w : World) (h0 : 0 < s.size) (hs : s.size ≤ 140737488355328) : Calls Tryz.prog 47 #[.string s] w fun e w' => e = .returned (.int .i64 (nN s.data.toList)) ∧ w = w' := by
  have hb := byteU_le s[0]
  have hc := fun W => rof_any (s[0].toNat : Int) W (by omega) hb
  have e := list_at s h0
  have hq := str_some (a := s) (by omega)
  have h0' : (0 : Int) < (s.size : Int) := by omega
  have HC := Lib.hid hc; clear hc
  by_cases c4 : cls (s[0].toNat : Int) = 3
  · have hR := nN_yes _ _ _ e c4
    have q4 : (cls (s[0].toNat : Int) == 3) = true := by simpa using c4
    have q4' : (cls (s[0].toNat : Int) != 3) = false := by simp [c4]
    generalize nN s.data.toList = R at *
    have H0 := Lib.hid hR.symm
    clear hR c4 e
    go_enter Tryz.func47, Tryz.ntmps47
    go_wp2_with fail
    refine (HC.out _).mono ?_; rintro e w1 ⟨rfl, rfl⟩
    go_wp2_with fail
    go_loop [3] (fun i => ∃ k : Nat, k ≤ s.size ∧ i = .int .i64 k ∧ Hid (k + runL fD jD (s.data.toList.drop k) = R)) (fun i => s.size - (intOf i).toNat)
    case atStart => exact ⟨1, h0, rfl, H0⟩
    case round =>
      obtain ⟨k, hk, rfl, HK⟩ := hrel
      by_cases hlt : k < s.size
      · have hlt' : (k : Int) < (s.size : Int) := by omega
        have hb1 := byteU_le (s[k]'hlt)
        have hd := fun W => rof_any ((s[k]'hlt).toNat : Int) W (by omega) hb1
        have HD := Lib.hid hd; clear hd
        have EF := Lib.hid (fD_eq (s[k]'hlt)); have EJ := Lib.hid (jD_eq (s[k]'hlt))
        cases a3 : (cls ((s[k]'hlt).toNat : Int) == 3)
        · have hf : fD (s[k]'hlt) = false := by rw [EF.out, a3]
          have HF := Lib.hid hf; clear hf
          cases a39 : (((s[k]'hlt).toNat : Int) == 46)
          · cases a45 : (((s[k]'hlt).toNat : Int) == 44)
            · have HZ := Lib.hid (stop_j fD jD s k R hlt HF.out (by rw [EJ.out, a39, a45]; rfl) HK.out)
              go_wp2_with fail
              refine (HD.out _).mono ?_; rintro e w1 ⟨rfl, rfl⟩
              go_wp2_with fail
              go_ret
              exact ⟨int_of HZ.out, rfl⟩
            · have hj : jD (s[k]'hlt) = true := by rw [EJ.out, a39, a45]; rfl
              have HJ := Lib.hid hj; clear hj
              by_cases hl2 : k + 1 < s.size
              · have hl2' : (k : Int) + 1 < (s.size : Int) := by omega
                have hb2 := byteU_le (s[k + 1]'hl2)
                have he := fun W => rof_any ((s[k + 1]'hl2).toNat : Int) W (by omega) hb2
                have HE := Lib.hid he; clear he
                have EG := Lib.hid (fD_eq (s[k + 1]'hl2))
                cases b3 : (cls ((s[k + 1]'hl2).toNat : Int) == 3)
                · have HZ := Lib.hid (stop_f fD jD s k R hl2 HF.out (by rw [EG.out, b3]) HK.out)
                  go_wp2_with fail
                  refine (HD.out _).mono ?_; rintro e w1 ⟨rfl, rfl⟩
                  go_wp2_with fail
                  refine (HE.out _).mono ?_; rintro e w1 ⟨rfl, rfl⟩
                  go_wp2_with fail
                  go_ret
                  exact ⟨int_of HZ.out, rfl⟩
                · have HZ := Lib.hid (two_on fD jD s k R hl2 HJ.out (by rw [EG.out, b3]) HK.out)
                  go_wp2_with fail
                  refine (HD.out _).mono ?_; rintro e w1 ⟨rfl, rfl⟩
                  go_wp2_with fail
                  refine (HE.out _).mono ?_; rintro e w1 ⟨rfl, rfl⟩
                  go_wp2_with fail
                  go_round
                  case rel => exact ⟨k + 2, hl2, by go_num, HZ⟩
                  case measure => simp [intOf]; omega
              · have hl2' : ¬ (k : Int) + 1 < (s.size : Int) := by omega
                have HZ := Lib.hid (stop_e fD jD s k R hlt hl2 HF.out HK.out)
                go_wp2_with fail
                refine (HD.out _).mono ?_; rintro e w1 ⟨rfl, rfl⟩
                go_wp2_with fail
                go_ret
                exact ⟨int_of HZ.out, rfl⟩
          · have hj : jD (s[k]'hlt) = true := by rw [EJ.out, a39]; rfl
            have HJ := Lib.hid hj; clear hj
            by_cases hl2 : k + 1 < s.size
            · have hl2' : (k : Int) + 1 < (s.size : Int) := by omega
              have hb2 := byteU_le (s[k + 1]'hl2)
              have he := fun W => rof_any ((s[k + 1]'hl2).toNat : Int) W (by omega) hb2
              have HE := Lib.hid he; clear he
              have EG := Lib.hid (fD_eq (s[k + 1]'hl2))
              cases b3 : (cls ((s[k + 1]'hl2).toNat : Int) == 3)
              · have HZ := Lib.hid (stop_f fD jD s k R hl2 HF.out (by rw [EG.out, b3]) HK.out)
                go_wp2_with fail
                refine (HD.out _).mono ?_; rintro e w1 ⟨rfl, rfl⟩
                go_wp2_with fail
                refine (HE.out _).mono ?_; rintro e w1 ⟨rfl, rfl⟩
                go_wp2_with fail
                go_ret
                exact ⟨int_of HZ.out, rfl⟩
              · have HZ := Lib.hid (two_on fD jD s k R hl2 HJ.out (by rw [EG.out, b3]) HK.out)
                go_wp2_with fail
                refine (HD.out _).mono ?_; rintro e w1 ⟨rfl, rfl⟩
                go_wp2_with fail
                refine (HE.out _).mono ?_; rintro e w1 ⟨rfl, rfl⟩
                go_wp2_with fail
                go_round
                case rel => exact ⟨k + 2, hl2, by go_num, HZ⟩
                case measure => simp [intOf]; omega
            · have hl2' : ¬ (k : Int) + 1 < (s.size : Int) := by omega
              have HZ := Lib.hid (stop_e fD jD s k R hlt hl2 HF.out HK.out)
              go_wp2_with fail
              refine (HD.out _).mono ?_; rintro e w1 ⟨rfl, rfl⟩
              go_wp2_with fail
              go_ret
              exact ⟨int_of HZ.out, rfl⟩
        · have HZ := Lib.hid (one_on fD jD s k R hlt (by rw [EF.out, a3]) HK.out)
          go_wp2_with fail
          refine (HD.out _).mono ?_; rintro e w1 ⟨rfl, rfl⟩
          go_wp2_with fail
          go_round
          case rel => exact ⟨k + 1, hlt, by go_num, HZ⟩
          case measure => simp [intOf]; omega
      · obtain rfl : k = s.size := by omega
        have HZ := Lib.hid (stop_n _ _ _ _ HK.out)
        go_wp2_with fail
        go_ret
        exact ⟨int_of HZ.out, rfl⟩
  · have hR := nN_not _ _ _ e c4
    have q4 : (cls (s[0].toNat : Int) == 3) = false := by simpa using c4
    have q4' : (cls (s[0].toNat : Int) != 3) = true := by simp [c4]
    have HR := Lib.hid hR; clear hR c4 e
    go_enter Tryz.func47, Tryz.ntmps47
    go_wp2_with fail
    refine (HC.out _).mono ?_; rintro e w1 ⟨rfl, rfl⟩
    go_wp2_with fail
    go_ret
    exact ⟨by rw [HR.out]; rfl, rfl⟩

set_option maxHeartbeats 1600000 in
theorem rblank_any (s : ByteArray) (w : World) (hs : s.size ≤ 140737488355328) : Calls Tryz.prog 48 #[.string s] w fun e w' => e = .returned (.int .i64 (runL fS jS s.data.toList)) ∧ w = w' := by
  generalize hR : runL fS jS s.data.toList = R
  have H0 := Lib.hid (show 0 + runL fS jS (s.data.toList.drop 0) = R by rw [List.drop_zero, hR]; omega)
  clear hR
  go_enter Tryz.func48, Tryz.ntmps48
  go_wp2_with fail
  go_loop [3] (fun i => ∃ k : Nat, k ≤ s.size ∧ i = .int .i64 k ∧ Hid (k + runL fS jS (s.data.toList.drop k) = R)) (fun i => s.size - (intOf i).toNat)
  case atStart => exact ⟨0, Nat.zero_le _, rfl, H0⟩
  case round =>
    obtain ⟨k, hk, rfl, HK⟩ := hrel
    by_cases hlt : k < s.size
    · have hlt' : (k : Int) < (s.size : Int) := by omega
      have hb1 := byteU_le (s[k]'hlt)
      have hd := fun W => rof_any ((s[k]'hlt).toNat : Int) W (by omega) hb1
      have HD := Lib.hid hd; clear hd
      have EF := Lib.hid (fS_eq (s[k]'hlt))
      cases a2 : (cls ((s[k]'hlt).toNat : Int) == 2)
      · have HZ := Lib.hid (stop_j fS jS s k R hlt (by rw [EF.out, a2]) rfl HK.out)
        go_wp2_with fail
        refine (HD.out _).mono ?_; rintro e w1 ⟨rfl, rfl⟩
        go_wp2_with fail
        go_ret
        exact ⟨int_of HZ.out, rfl⟩
      · have HZ := Lib.hid (one_on fS jS s k R hlt (by rw [EF.out, a2]) HK.out)
        go_wp2_with fail
        refine (HD.out _).mono ?_; rintro e w1 ⟨rfl, rfl⟩
        go_wp2_with fail
        go_round
        case rel => exact ⟨k + 1, hlt, by go_num, HZ⟩
        case measure => simp [intOf]; omega
    · obtain rfl : k = s.size := by omega
      have HZ := Lib.hid (stop_n _ _ _ _ HK.out)
      go_wp2_with fail
      go_ret
      exact ⟨int_of HZ.out, rfl⟩

/-- What word, number and blank answer at a rest, together. -/
def Parts3 (T : List UInt8) (kk : Int) (n : Nat) : Prop := (kk = 6 ∧ wN T = n ∧ nN T = 0 ∧ runL fS jS T = 0) ∨ (kk = 7 ∧ wN T = 0 ∧ nN T = n ∧ runL fS jS T = 0) ∨ (kk = 8 ∧ wN T = 0 ∧ nN T = 0 ∧ runL fS jS T = n) ∨ (kk = 9 ∧ n = 1 ∧ wN T = 0 ∧ nN T = 0 ∧ runL fS jS T = 0)
theorem parts3 (b : UInt8) (t : List UInt8) : Parts3 (b :: t) (kindT b) (sizeT (b :: t)) := by
  unfold Parts3
  by_cases c4 : cb b = 4
  · left
    refine ⟨if_pos c4, by rw [sizeT, if_pos c4]; exact if_pos c4, if_neg (by omega), ?_⟩
    rw [runL_no _ _ _ _ (by unfold fS; simp [c4]) rfl]
  · by_cases c3 : cb b = 3
    · right; left
      refine ⟨by unfold kindT; rw [if_neg c4, if_pos c3], if_neg c4, by rw [sizeT, if_neg c4, if_pos c3]; exact if_pos c3, ?_⟩
      rw [runL_no _ _ _ _ (by unfold fS; simp [c3]) rfl]
    · by_cases c2 : cb b = 2
      · right; right; left
        refine ⟨by unfold kindT; rw [if_neg c4, if_neg c3, if_pos c2], if_neg c4, if_neg c3, by rw [sizeT, if_neg c4, if_neg c3, if_pos c2, runL_yes _ _ _ _ (by unfold fS; simp [c2])]⟩
      · right; right; right
        refine ⟨by unfold kindT; rw [if_neg c4, if_neg c3, if_neg c2], by rw [sizeT, if_neg c4, if_neg c3, if_neg c2], if_neg c4, if_neg c3, ?_⟩
        rw [runL_no _ _ _ _ (by unfold fS; simp [c2]) rfl]
set_option maxHeartbeats 3200000 in
theorem rcut_any (s : ByteArray) (w : World) (hs : s.size ≤ 2000000000) : Calls Tryz.prog 29 #[.string s] w (EndT (cutT s.data.toList) w) := by
  generalize hF : cutT s.data.toList = F
  have hFl : F.length ≤ 4000000000 := by
    have h1 := cutT_len s.data.toList
    have h2 : s.data.toList.length = s.size := by simp
    rw [← hF]; omega
  have HF := Lib.hid (show [] ++ cutT s.data.toList = F from hF); clear hF
  go_enter Tryz.func29, Tryz.ntmps29
  go_wp2_with fail
  go_loopw [0, 3] (fun t v wr => ∃ (L' : List It) (r : ByteArray), t = .string r ∧ AccT w L' v wr ∧ r.size ≤ 2000000000 ∧ Hid (L' ++ cutT r.data.toList = F)) (fun t _ _ => match t with | .string r => r.size | _ => 0)
  case atStart => exact ⟨[], s, rfl, Acc.start _, hs, HF⟩
  case round =>
    obtain ⟨L', r, rfl, hA, hr, HL⟩ := hrel
    by_cases h0 : 0 < r.size
    · obtain ⟨s1, s2⟩ := size_step r h0
      have k1 := fun W => rword_any r W h0 (by omega)
      have k2 := fun W => rnumber_any r W h0 (by omega)
      have k3 := fun W => rblank_any r W (by omega)
      have hcs := cut_step r h0
      have hP := parts3 r[0] (r.data.toList.drop 1)
      rw [← list_at r h0] at hP
      have hlen : L'.length + 1 ≤ 4000000000 := by
        have := congrArg List.length HL.out
        rw [hcs, List.length_append, List.length_cons] at this; omega
      generalize hz : sizeT r.data.toList = n at *
      generalize kindT r[0] = kk at *
      have HQ := Lib.hid (show (L' ++ [⟨kk, r.extract 0 n, 0⟩]) ++ cutT (r.extract n r.size).data.toList = F by rw [← HL.out, hcs]; simp)
      have HS := Lib.hid (rest_size r n)
      clear hcs hz
      unfold Parts3 at hP
      generalize r.data.toList = T at k1 k2 k3 hP
      generalize wN T = n1 at *
      generalize nN T = n2 at *
      generalize runL fS jS T = n3 at *
      have h0' : (0 : Int) < (r.size : Int) := by omega
      have s1' : (1 : Int) ≤ (n : Int) := by omega
      have s2' : (n : Int) ≤ (r.size : Int) := by omega
      have hnp : 0 < n := by omega
      rcases hP with ⟨rfl, rfl, rfl, rfl⟩ | ⟨rfl, rfl, rfl, rfl⟩ | ⟨rfl, rfl, rfl, rfl⟩ | ⟨rfl, rfl, rfl, rfl, rfl⟩
      · have k2 : ∀ W, Calls Tryz.prog 47 #[.string r] W fun e w' => e = .returned (.int .i64 0) ∧ W = w' := k2
        have k3 : ∀ W, Calls Tryz.prog 48 #[.string r] W fun e w' => e = .returned (.int .i64 0) ∧ W = w' := k3
        have K1 := Lib.hid k1; have K2 := Lib.hid k2; have K3 := Lib.hid k3; clear k1 k2 k3
        go_wp2_with fail
        refine (K1.out _).mono ?_; rintro e w1 ⟨rfl, rfl⟩
        go_wp2_with fail
        refine (K2.out _).mono ?_; rintro e w1 ⟨rfl, rfl⟩
        go_wp2_with fail
        refine (K3.out _).mono ?_; rintro e w1 ⟨rfl, rfl⟩
        go_wp2_with (at_builtin; refine wpl_append eT _ rfl _ _ rfl w L' _ rfl (hA.alloc _) ⟨6, r.extract 0 n1, 0⟩ wr.heap.size _ rfl (heap_alloc_new _ _) rfl (by omega) (by unfold maxLen; omega) ?_; intro v' w4 hA4 hb4)
        go_wp2_with fail
        go_roundw
        case rel => exact ⟨_, _, rfl, hA4, by have := HS.out; omega, HQ⟩
        case measure => have := HS.out; show (r.extract n1 r.size).size < r.size; omega
      · have k1 : ∀ W, Calls Tryz.prog 46 #[.string r] W fun e w' => e = .returned (.int .i64 0) ∧ W = w' := k1
        have k3 : ∀ W, Calls Tryz.prog 48 #[.string r] W fun e w' => e = .returned (.int .i64 0) ∧ W = w' := k3
        have K1 := Lib.hid k1; have K2 := Lib.hid k2; have K3 := Lib.hid k3; clear k1 k2 k3
        go_wp2_with fail
        refine (K1.out _).mono ?_; rintro e w1 ⟨rfl, rfl⟩
        go_wp2_with fail
        refine (K2.out _).mono ?_; rintro e w1 ⟨rfl, rfl⟩
        go_wp2_with fail
        refine (K3.out _).mono ?_; rintro e w1 ⟨rfl, rfl⟩
        go_wp2_with (at_builtin; refine wpl_append eT _ rfl _ _ rfl w L' _ rfl (hA.alloc _) ⟨7, r.extract 0 n2, 0⟩ wr.heap.size _ rfl (heap_alloc_new _ _) rfl (by omega) (by unfold maxLen; omega) ?_; intro v' w4 hA4 hb4)
        go_wp2_with fail
        go_roundw
        case rel => exact ⟨_, _, rfl, hA4, by have := HS.out; omega, HQ⟩
        case measure => have := HS.out; show (r.extract n2 r.size).size < r.size; omega
      · have k1 : ∀ W, Calls Tryz.prog 46 #[.string r] W fun e w' => e = .returned (.int .i64 0) ∧ W = w' := k1
        have k2 : ∀ W, Calls Tryz.prog 47 #[.string r] W fun e w' => e = .returned (.int .i64 0) ∧ W = w' := k2
        have K1 := Lib.hid k1; have K2 := Lib.hid k2; have K3 := Lib.hid k3; clear k1 k2 k3
        go_wp2_with fail
        refine (K1.out _).mono ?_; rintro e w1 ⟨rfl, rfl⟩
        go_wp2_with fail
        refine (K2.out _).mono ?_; rintro e w1 ⟨rfl, rfl⟩
        go_wp2_with fail
        refine (K3.out _).mono ?_; rintro e w1 ⟨rfl, rfl⟩
        go_wp2_with (at_builtin; refine wpl_append eT _ rfl _ _ rfl w L' _ rfl (hA.alloc _) ⟨8, r.extract 0 n3, 0⟩ wr.heap.size _ rfl (heap_alloc_new _ _) rfl (by omega) (by unfold maxLen; omega) ?_; intro v' w4 hA4 hb4)
        go_wp2_with fail
        go_roundw
        case rel => exact ⟨_, _, rfl, hA4, by have := HS.out; omega, HQ⟩
        case measure => have := HS.out; show (r.extract n3 r.size).size < r.size; omega
      · have k1 : ∀ W, Calls Tryz.prog 46 #[.string r] W fun e w' => e = .returned (.int .i64 0) ∧ W = w' := k1
        have k2 : ∀ W, Calls Tryz.prog 47 #[.string r] W fun e w' => e = .returned (.int .i64 0) ∧ W = w' := k2
        have k3 : ∀ W, Calls Tryz.prog 48 #[.string r] W fun e w' => e = .returned (.int .i64 0) ∧ W = w' := k3
        have K1 := Lib.hid k1; have K2 := Lib.hid k2; have K3 := Lib.hid k3; clear k1 k2 k3
        go_wp2_with fail
        refine (K1.out _).mono ?_; rintro e w1 ⟨rfl, rfl⟩
        go_wp2_with fail
        refine (K2.out _).mono ?_; rintro e w1 ⟨rfl, rfl⟩
        go_wp2_with fail
        refine (K3.out _).mono ?_; rintro e w1 ⟨rfl, rfl⟩
        go_wp2_with (at_builtin; refine wpl_append eT _ rfl _ _ rfl w L' _ rfl (hA.alloc _) ⟨9, r.extract 0 1, 0⟩ wr.heap.size _ rfl (heap_alloc_new _ _) rfl (by omega) (by unfold maxLen; omega) ?_; intro v' w4 hA4 hb4)
        go_wp2_with fail
        go_roundw
        case rel => exact ⟨_, _, rfl, hA4, by have := HS.out; omega, HQ⟩
        case measure => have := HS.out; show (r.extract 1 r.size).size < r.size; omega
    · have hz : r.size = 0 := by omega
      have HE := Lib.hid (show L' = F by have := HL.out; rw [(bytes_nil r).2 hz, cutT_nil, List.append_nil] at this; exact this)
      have h0' : ¬ (0 : Int) < (r.size : Int) := by omega
      go_wp2_with fail
      go_ret
      exact ⟨_, rfl, by rw [← HE.out]; exact hA⟩

set_option maxHeartbeats 1600000 in
theorem rtokens_any (p : Option Addr) (cap : Nat) (l : List It) (w : World) (hR : Its w p l) (hc : l.length ≤ cap) (hm : cap ≤ maxLen) (hn : txtI l + l.length ≤ 2000000000) :
    Calls Tryz.prog 14 #[.slice p l.length cap] w (EndT (toks l) w) := by
  unfold maxLen at hm
  go_enter Tryz.func14, Tryz.ntmps14
  go_wp2_with fail
  go_loopw [3, 8] (fun v i wr => ∃ k : Nat, k ≤ l.length ∧ i = .int .i64 k ∧ AccT w (toks (l.take k)) v wr) (fun _ i _ => l.length - (intOf i).toNat)
  case atStart => exact ⟨0, Nat.zero_le _, rfl, Acc.start _⟩
  case round =>
    obtain ⟨k, hk, rfl, hA⟩ := hrel
    by_cases hlt : k < l.length
    · obtain ⟨ad, rfl, had, c0, c1, c2⟩ := (hR.call hA.below).row k hlt
      have hnx := toks_next l k hlt
      have hlen := toks_len (l.take k)
      have ht1 := txtI_take l k
      have ht2 := txtI_take l (k + 1)
      rw [txtI_next l k hlt] at ht2
      have hol : (toks (l.take k)).length + l[k].t.size ≤ 4000000000 := by simp at hlen; omega
      have hzz : l[k].t.size ≤ 2000000000 := by omega
      generalize l[k] = x at *
      generalize toks (l.take k) = out at *
      clear hlen ht1 ht2
      have hHX := hA.below.size
      obtain ⟨kk, t, id⟩ := x
      dsimp only at c0 c1 c2 hol hzz
      by_cases h1 : kk = 1
      · subst h1
        rw [show tokI ⟨1, t, id⟩ = cutT t.data.toList from if_pos rfl] at hnx
        have ha := fun W => rcut_any t W hzz
        have hcl := cutT_len t.data.toList
        rw [show t.data.toList.length = t.size by simp] at hcl
        generalize cutT t.data.toList = M at *
        have HX := Lib.hid hnx; have HT := Lib.hid ha; clear hnx ha
        go_wp2_with fail
        refine (HT.out _).mono ?_; rintro e w2 hE
        obtain ⟨p2, d2, rfl, hcM, hmM, hIM, hb2⟩ := EndT.f hE
        have hA2 := (hA.alloc (.cells #[.int .i64 1, .string t, .int .i64 id] 45)).call hb2
        clear hE
        go_wp2_with (at_builtin; refine wpl_catT rfl _ _ rfl w out M _ rfl hA2 p2 _ _ rfl rfl hIM (by omega) ?_; intro v' w4 hA4)
        go_wp2_with fail
        go_roundw
        case rel => exact ⟨k + 1, hlt, by go_num, by rw [HX.out]; exact hA4⟩
        case measure => simp [intOf]; omega
      · by_cases h2 : 2 ≤ kk ∧ kk ≤ 5
        · rw [tokI_one kk t id h2] at hnx
          have HX := Lib.hid hnx; clear hnx
          have h3 : kk = 2 ∨ kk = 3 ∨ kk = 4 ∨ kk = 5 := by omega
          clear h1 h2
          rcases h3 with rfl | rfl | rfl | rfl
          · go_wp2_with (at_builtin; refine wpl_append eT _ rfl _ _ rfl w out _ rfl ((hA.alloc _).alloc _) ⟨2, t, id⟩ _ #[.int .i64 2, .string t, .int .i64 id] rfl (heap_newT _ _ _) rfl (by omega) (by unfold maxLen; omega) ?_; intro v' w4 hA4 hb4)
            go_wp2_with fail
            go_roundw
            case rel => exact ⟨k + 1, hlt, by go_num, by rw [HX.out]; exact hA4⟩
            case measure => simp [intOf]; omega
          · go_wp2_with (at_builtin; refine wpl_append eT _ rfl _ _ rfl w out _ rfl ((hA.alloc _).alloc _) ⟨3, t, id⟩ _ #[.int .i64 3, .string t, .int .i64 id] rfl (heap_newT _ _ _) rfl (by omega) (by unfold maxLen; omega) ?_; intro v' w4 hA4 hb4)
            go_wp2_with fail
            go_roundw
            case rel => exact ⟨k + 1, hlt, by go_num, by rw [HX.out]; exact hA4⟩
            case measure => simp [intOf]; omega
          · go_wp2_with (at_builtin; refine wpl_append eT _ rfl _ _ rfl w out _ rfl ((hA.alloc _).alloc _) ⟨4, t, id⟩ _ #[.int .i64 4, .string t, .int .i64 id] rfl (heap_newT _ _ _) rfl (by omega) (by unfold maxLen; omega) ?_; intro v' w4 hA4 hb4)
            go_wp2_with fail
            go_roundw
            case rel => exact ⟨k + 1, hlt, by go_num, by rw [HX.out]; exact hA4⟩
            case measure => simp [intOf]; omega
          · go_wp2_with (at_builtin; refine wpl_append eT _ rfl _ _ rfl w out _ rfl ((hA.alloc _).alloc _) ⟨5, t, id⟩ _ #[.int .i64 5, .string t, .int .i64 id] rfl (heap_newT _ _ _) rfl (by omega) (by unfold maxLen; omega) ?_; intro v' w4 hA4 hb4)
            go_wp2_with fail
            go_roundw
            case rel => exact ⟨k + 1, hlt, by go_num, by rw [HX.out]; exact hA4⟩
            case measure => simp [intOf]; omega
        · rw [tokI_none kk t id h1 h2, List.append_nil] at hnx
          have HX := Lib.hid hnx; clear hnx
          have q1 : (kk == 1) = false := by simpa using h1
          have q2 : (kk == 2) = false := by have : ¬ kk = 2 := by omega
                                            simpa using this
          have q3 : (kk == 3) = false := by have : ¬ kk = 3 := by omega
                                            simpa using this
          have q4 : (kk == 4) = false := by have : ¬ kk = 4 := by omega
                                            simpa using this
          have q5 : (kk == 5) = false := by have : ¬ kk = 5 := by omega
                                            simpa using this
          go_wp2_with fail
          go_roundw
          case rel => exact ⟨k + 1, hlt, by go_num, by rw [HX.out]; exact hA.alloc _⟩
          case measure => simp [intOf]; omega
    · obtain rfl : k = l.length := by omega
      rw [List.take_length] at hA
      go_wp2_with fail
      go_ret
      exact ⟨_, rfl, hA⟩
end Go.Proofs.YthfgpagmepdblaaGreat
namespace Go.Proofs.YthfgpagmepdblaaGreat
open Go.ChangeShapes Go.WideShapes Go.ChangeAt Go.RowKit
set_option linter.unusedVariables false
set_option linter.unusedSimpArgs false
set_option maxRecDepth 100000

def wtT (k : Int) : Nat := if k = 6 ∨ k = 5 then 4 else if k = 7 ∨ k = 2 ∨ k = 3 ∨ k = 4 then 3 else if k = 9 then 2 else if k = 8 then 1 else 0
theorem wtT_le (k : Int) : wtT k ≤ 4 := by unfold wtT; repeat' split
                                           all_goals omega
def cntT (k : Int) : Nat := if k = 6 ∨ k = 7 then 1 else 0
def wtL (l : List It) : Nat := (l.map fun x => wtT x.k).sum
def cntL (l : List It) : Nat := (l.map fun x => cntT x.k).sum
theorem wtL_snoc (l : List It) (x : It) : wtL (l ++ [x]) = wtL l + wtT x.k := by unfold wtL; simp
theorem cntL_snoc (l : List It) (x : It) : cntL (l ++ [x]) = cntL l + cntT x.k := by unfold cntL; simp
theorem wtL_next (l : List It) (k : Nat) (h : k < l.length) : wtL (l.take (k + 1)) = wtL (l.take k) + wtT l[k].k := by rw [List.take_succ_eq_append_getElem h, wtL_snoc]
theorem cntL_next (l : List It) (k : Nat) (h : k < l.length) : cntL (l.take (k + 1)) = cntL (l.take k) + cntT l[k].k := by rw [List.take_succ_eq_append_getElem h, cntL_snoc]
theorem wtL_append (l m : List It) : wtL (l ++ m) = wtL l + wtL m := by unfold wtL; simp
theorem cntL_append (l m : List It) : cntL (l ++ m) = cntL l + cntL m := by unfold cntL; simp
theorem wtL_le (l : List It) : wtL l ≤ 4 * l.length := by
  induction l with
  | nil => exact Nat.le_refl _
  | cons x t ih => show wtT x.k + wtL t ≤ 4 * (t.length + 1); have := wtT_le x.k; omega
theorem cntL_le (l : List It) : cntL l ≤ l.length := by
  induction l with
  | nil => exact Nat.le_refl _
  | cons x t ih => show cntT x.k + cntL t ≤ t.length + 1; have : cntT x.k ≤ 1 := by unfold cntT; split <;> omega
                   omega

set_option maxHeartbeats 1600000 in
theorem weight_any (k : Int) (t : ByteArray) (id : Int) (w : World) : Calls Tryz.prog 54 #[.agg #[.int .i64 k, .string t, .int .i64 id]] w fun e w' => e = .returned (.int .i64 (wtT k)) ∧ Below w.heap.size w w' := by
  go_enter Tryz.func54, Tryz.ntmps54
  go_wp2
  all_goals go_ret
  all_goals refine ⟨ret_int ?_, blw (Below.refl _ _) _⟩
  all_goals (unfold wtT; simp_all)
set_option maxHeartbeats 1600000 in
theorem total_any (p : Option Addr) (cap : Nat) (l : List It) (w : World) (hR : Its w p l) (hc : l.length ≤ cap) (hm : cap ≤ maxLen) (hl : l.length ≤ 4000000000) :
    Calls Tryz.prog 37 #[.slice p l.length cap] w fun e w' => e = .returned (.int .i64 (wtL l)) ∧ Below w.heap.size w w' := by
  unfold maxLen at hm
  go_enter Tryz.func37, Tryz.ntmps37
  go_wp2_with fail
  go_loopw [3, 8] (fun v i wr => ∃ k : Nat, k ≤ l.length ∧ i = .int .i64 k ∧ v = .int .i64 (wtL (l.take k)) ∧ Below w.heap.size w wr) (fun _ i _ => l.length - (intOf i).toNat)
  case atStart => exact ⟨0, Nat.zero_le _, rfl, rfl, Below.refl _ _⟩
  case round =>
    obtain ⟨k, hk, rfl, rfl, hB⟩ := hrel
    by_cases hlt : k < l.length
    · obtain ⟨a, rfl, ha, c0, c1, c2⟩ := (hR.call hB).row k hlt
      have hn := wtL_next l k hlt
      have h2 := wtL_le (l.take k)
      rw [List.length_take] at h2
      have h4 := wtT_le l[k].k
      have hw := weight_any l[k].k l[k].t l[k].id
      generalize l[k] = x at *
      generalize hm1 : wtL (l.take (k + 1)) = m1 at *
      generalize wtL (l.take k) = m0 at *
      generalize wtT x.k = wt at *
      have hm0 : m0 ≤ 16000000000 := by omega
      have HM := Lib.hid hm1; clear hm1 h2
      have HN := Lib.hid hn; clear hn
      have HW := Lib.hid hw; clear hw
      go_wp2_with fail
      refine (HW.out _).mono ?_; rintro e w1 ⟨rfl, hb⟩
      go_wp2_with fail
      go_roundw
      case rel => exact ⟨k + 1, hlt, by go_num, by rw [HM.out, HN.out]; go_num, BelowOn (blw hB _) hb⟩
      case measure => simp [intOf]; omega
    · obtain rfl : k = l.length := by omega
      rw [List.take_length]
      go_wp2_with fail
      go_ret
      exact ⟨rfl, hB⟩
set_option maxHeartbeats 1600000 in
theorem rweight_any (k : Int) (t : ByteArray) (id : Int) (w : World) : Calls Tryz.prog 73 #[.agg #[.int .i64 k, .string t, .int .i64 id]] w fun e w' => e = .returned (.int .i64 (wtT k)) ∧ Below w.heap.size w w' := by
  go_enter Tryz.func73, Tryz.ntmps73
  go_wp2
  all_goals go_ret
  all_goals refine ⟨ret_int ?_, blw (Below.refl _ _) _⟩
  all_goals (unfold wtT; simp_all)
set_option maxHeartbeats 1600000 in
theorem rtotal_any (p : Option Addr) (cap : Nat) (l : List It) (w : World) (hR : Its w p l) (hc : l.length ≤ cap) (hm : cap ≤ maxLen) (hl : l.length ≤ 4000000000) :
    Calls Tryz.prog 45 #[.slice p l.length cap] w fun e w' => e = .returned (.int .i64 (wtL l)) ∧ Below w.heap.size w w' := by
  unfold maxLen at hm
  go_enter Tryz.func45, Tryz.ntmps45
  go_wp2_with fail
  go_loopw [3, 8] (fun v i wr => ∃ k : Nat, k ≤ l.length ∧ i = .int .i64 k ∧ v = .int .i64 (wtL (l.take k)) ∧ Below w.heap.size w wr) (fun _ i _ => l.length - (intOf i).toNat)
  case atStart => exact ⟨0, Nat.zero_le _, rfl, rfl, Below.refl _ _⟩
  case round =>
    obtain ⟨k, hk, rfl, rfl, hB⟩ := hrel
    by_cases hlt : k < l.length
    · obtain ⟨a, rfl, ha, c0, c1, c2⟩ := (hR.call hB).row k hlt
      have hn := wtL_next l k hlt
      have h2 := wtL_le (l.take k)
      rw [List.length_take] at h2
      have h4 := wtT_le l[k].k
      have hw := rweight_any l[k].k l[k].t l[k].id
      generalize l[k] = x at *
      generalize hm1 : wtL (l.take (k + 1)) = m1 at *
      generalize wtL (l.take k) = m0 at *
      generalize wtT x.k = wt at *
      have hm0 : m0 ≤ 16000000000 := by omega
      have HM := Lib.hid hm1; clear hm1 h2
      have HN := Lib.hid hn; clear hn
      have HW := Lib.hid hw; clear hw
      go_wp2_with fail
      refine (HW.out _).mono ?_; rintro e w1 ⟨rfl, hb⟩
      go_wp2_with fail
      go_roundw
      case rel => exact ⟨k + 1, hlt, by go_num, by rw [HM.out, HN.out]; go_num, BelowOn (blw hB _) hb⟩
      case measure => simp [intOf]; omega
    · obtain rfl : k = l.length := by omega
      rw [List.take_length]
      go_wp2_with fail
      go_ret
      exact ⟨rfl, hB⟩
def kx : List It := [⟨1, ⟨#[68, 111, 110, 39, 116, 32, 112, 97, 121, 32, 49, 44, 48, 48, 48, 46, 53, 48, 32, 110, 111, 119, 33]⟩, 0⟩]
def ky : List It := [⟨6, ⟨#[68, 111, 110, 39, 116]⟩, 0⟩, ⟨8, ⟨#[32]⟩, 0⟩, ⟨6, ⟨#[112, 97, 121]⟩, 0⟩, ⟨8, ⟨#[32]⟩, 0⟩, ⟨7, ⟨#[49, 44, 48, 48, 48, 46, 53, 48]⟩, 0⟩, ⟨8, ⟨#[32]⟩, 0⟩, ⟨6, ⟨#[110, 111, 119]⟩, 0⟩, ⟨9, ⟨#[33]⟩, 0⟩]
theorem kx_toks : toks kx = ky := by decide +kernel
theorem ky_cnt : cntL ky = 4 := by decide +kernel
end Go.Proofs.YthfgpagmepdblaaGreat
namespace Go.Proofs.YthfgpagmepdblaaGreat
open Go.ChangeShapes Go.WideShapes Go.ChangeAt Go.RowKit
open Go.ChangeMaps (open_string shut_string)
set_option linter.unusedVariables false
set_option linter.unusedSimpArgs false
set_option maxRecDepth 100000

theorem upper_any (n : Int) (w : World) (h0 : 0 ≤ n) (h1 : n ≤ 255) :
    Calls Tryz.prog 99 #[.int .u8 n] w fun e w' => e = .returned (.bool (upB n)) ∧ w = w' := by
  go_enter Tryz.func99, Tryz.ntmps99
  go_wp2
  all_goals go_ret
  all_goals refine ⟨ret_bool ?_, rfl⟩
  all_goals (unfold upB; simp; try omega)

/-- What the loop of Lower keeps. -/
structure LowRel (s : ByteArray) (w : World) (k : Nat) (wr : World) : Prop where
  below : Below w.heap.size w wr
  size : w.heap.size < wr.heap.size
  done : ∀ i (h : i < s.size), i < k → wr.cell? ⟨w.heap.size, i, none⟩ = some (.int .u8 ((lowU s[i]).toNat : Int))
  todo : ∀ i (h : i < s.size), k ≤ i → wr.cell? ⟨w.heap.size, i, none⟩ = some (.int .u8 (s[i].toNat : Int))
  free : ∀ i, i < s.size → wr.frozen? ⟨w.heap.size, i, none⟩ = false

theorem LowRel.start (s : ByteArray) (w : World) (cap : Nat) (fr : Nat) (hfr : s.size ≤ fr) : LowRel s w 0 (w.alloc (.cells (bytesRow s cap) 5 (fr, fr + 1))).drew where
  below := ((Below.refl _ w).alloc (Nat.le_refl _) _).drew
  size := by simp
  done := fun i h hi => by omega
  todo := fun i h _ => by
    show (w.alloc (.cells (bytesRow s cap) 5 (fr, fr + 1))).cell? ⟨w.heap.size, i, none⟩ = _
    rw [World.cell?_alloc_mark, bytesRow_at s cap i h]; rfl
  free := fun i h => by
    show (w.alloc (.cells (bytesRow s cap) 5 (fr, fr + 1))).frozen? ⟨w.heap.size, i, none⟩ = _
    rw [World.frozen?_alloc_mark]; simp; omega

theorem LowRel.store {s : ByteArray} {w wr : World} {k : Nat} (h : LowRel s w k wr) (hk : k < s.size) (v : Int) (hv : v = ((lowU s[k]).toNat : Int)) :
    LowRel s w (k + 1) (wr.setCell ⟨w.heap.size, k, none⟩ (.int .u8 v)) where
  below := h.below.setCell (Nat.le_refl _) _
  size := by have := h.size; simpa [World.setCell] using this
  done := fun i hi hik => by
    by_cases e : i = k
    · subst e; rw [World.cell?_setCell_same _ _ _ (h.todo i hi (Nat.le_refl _)), hv]
    · rw [World.cell?_setCell_other _ _ _ _ (by intro e0; injection e0; omega)]; exact h.done i hi (by omega)
  todo := fun i hi hik => by rw [World.cell?_setCell_other _ _ _ _ (by intro e0; injection e0; omega)]; exact h.todo i hi (by omega)
  free := fun i hi => by rw [World.frozen?_setCell]; exact h.free i hi
theorem LowRel.skip {s : ByteArray} {w wr : World} {k : Nat} (h : LowRel s w k wr) (hk : k < s.size) (hv : lowU s[k] = s[k]) : LowRel s w (k + 1) wr where
  below := h.below
  size := h.size
  done := fun i hi hik => by
    by_cases e : i = k
    · subst e; rw [h.todo i hi (Nat.le_refl _), hv]
    · exact h.done i hi (by omega)
  todo := fun i hi hik => h.todo i hi (by omega)
  free := h.free
theorem LowRel.bytes {s : ByteArray} {w wr : World} (h : LowRel s w s.size wr) : Lib.Bytes wr w.heap.size 0 (low s) := fun i hi => by
  have hi' : i < s.size := by rw [low_size] at hi; exact hi
  rw [Nat.zero_add, h.done i hi' hi', low_at s i hi']
theorem lowU_up {c : UInt8} (h : upB (c.toNat : Int) = true) : ((c.toNat : Int) - 65 + 97) % 256 = ((lowU c).toNat : Int) := by
  have : 65 ≤ c.toNat ∧ c.toNat ≤ 90 := by unfold upB at h; simp at h; omega
  rw [lowU_toNat, if_pos this]; omega
theorem lowU_not {c : UInt8} (h : upB (c.toNat : Int) = false) : lowU c = c := by
  have : ¬ (65 ≤ c.toNat ∧ c.toNat ≤ 90) := by unfold upB at h; simp at h; omega
  unfold lowU; rw [if_neg this]
theorem lowU_raw (c : UInt8) : (if 65 ≤ c.toNat ∧ c.toNat ≤ 90 then ((c.toNat : Int) + 32) % 256 else c.toNat) = ((lowU c).toNat : Int) := by
  rw [lowU_toNat]; split <;> omega

set_option maxRecDepth 100000 in
theorem clower_any (s : ByteArray) (w : World) (hs : s.size ≤ 1000) :
    Calls Tryz.prog 78 #[.string s] w fun e w' => e = .returned (.string (low s)) ∧ Below w.heap.size w w' := by
  have hcv := fun w => run_bytes_of_string (P := Tryz.prog) w 9 133 5 s Tryz.underlying9 Tryz.underlying133 Tryz.underlying5
  have hst := LowRel.start s w (grownCap w s.size 0 5) (bytesRow s (grownCap w s.size 0 5)).size (by unfold bytesRow; rw [Array.size_append, Array.size_map]; exact Nat.le_add_right _ _)
  have HST := Lib.hid hst; clear hst
  go_enter Tryz.func78, Tryz.ntmps78
  go_wp2_with fail
  clear hcv
  generalize grownCap w s.size 0 5 = cap at HST ⊢
  go_loopw [10] (fun i wr => ∃ k : Nat, k ≤ s.size ∧ i = .int .i64 k ∧ LowRel s w k wr) (fun i _ => s.size - (intOf i).toNat)
  case atStart => exact ⟨0, Nat.zero_le _, rfl, HST.out⟩
  case round =>
    obtain ⟨k, hk, rfl, hR⟩ := hrel
    by_cases hlt : k < s.size
    · have hc := hR.todo k hlt (Nat.le_refl _)
      have hf := hR.free k hlt
      have hb : (s[k].toNat : Int) ≤ 255 := by have := s[k].toNat_lt; omega
      have HR := Lib.hid hR; clear hR
      go_wp2_with (go_at_call 99; refine (upper_any _ _ (by omega) hb).mono ?_; rintro e w' ⟨rfl, rfl⟩)
      · have hu : upB (s[k].toNat : Int) = true := by assumption
        go_roundw
        case rel => exact ⟨k + 1, by omega, by go_num, HR.out.store hlt _ (lowU_up hu)⟩
        case measure => simp [intOf]; omega
      · have hu : upB (s[k].toNat : Int) = false := by assumption
        go_roundw
        case rel => exact ⟨k + 1, by omega, by go_num, HR.out.skip hlt (lowU_not hu)⟩
        case measure => simp [intOf]; omega
    · obtain rfl : k = s.size := by omega
      have hB := hR.below
      have hback := Lib.run_convert_whole (P := Tryz.prog) wr 133 5 9 Tryz.underlying133 Tryz.underlying5 Tryz.underlying9 w.heap.size 0 (low s) hR.bytes cap
      rw [low_size] at hback
      clear hR
      go_wp2_with fail
      go_ret
      exact ⟨rfl, hB⟩

set_option maxRecDepth 100000 in
theorem crlower_any (s : ByteArray) (w : World) (hs : s.size ≤ 1000) :
    Calls Tryz.prog 86 #[.string s] w fun e w' => e = .returned (.string (low s)) ∧ Below w.heap.size w w' := by
  have hcv := fun w => run_bytes_of_string (P := Tryz.prog) w 9 133 5 s Tryz.underlying9 Tryz.underlying133 Tryz.underlying5
  have hst := LowRel.start s w (grownCap w s.size 0 5) (bytesRow s (grownCap w s.size 0 5)).size (by unfold bytesRow; rw [Array.size_append, Array.size_map]; exact Nat.le_add_right _ _)
  have HST := Lib.hid hst; clear hst
  go_enter Tryz.func86, Tryz.ntmps86
  go_wp2_with fail
  clear hcv
  generalize grownCap w s.size 0 5 = cap at HST ⊢
  go_loopw [9] (fun i wr => ∃ k : Nat, k ≤ s.size ∧ i = .int .i64 k ∧ LowRel s w k wr) (fun i _ => s.size - (intOf i).toNat)
  case atStart => exact ⟨0, Nat.zero_le _, rfl, HST.out⟩
  case round =>
    obtain ⟨k, hk, rfl, hR⟩ := hrel
    by_cases hlt : k < s.size
    · have hc := hR.todo k hlt (Nat.le_refl _)
      have hf := hR.free k hlt
      have hb : (s[k].toNat : Int) ≤ 255 := by have := s[k].toNat_lt; omega
      have HR := Lib.hid hR; clear hR
      go_wp2_with fail
      · have h1 : (65 : Int) ≤ s[k].toNat := by assumption
        have h2 : (s[k].toNat : Int) ≤ 90 := by assumption
        go_roundw
        case rel => exact ⟨k + 1, by omega, by go_num, HR.out.store hlt _ (by rw [lowU_toNat, if_pos (by omega)]; omega)⟩
        case measure => simp [intOf]; omega
      · have h2 : 90 < (s[k].toNat : Int) := by assumption
        go_roundw
        case rel => exact ⟨k + 1, by omega, by go_num, HR.out.skip hlt (by unfold lowU; rw [if_neg (by omega)])⟩
        case measure => simp [intOf]; omega
      · have h1 : ¬ (65 : Int) ≤ s[k].toNat := by assumption
        go_roundw
        case rel => exact ⟨k + 1, by omega, by go_num, HR.out.skip hlt (by unfold lowU; rw [if_neg (by omega)])⟩
        case measure => simp [intOf]; omega
    · obtain rfl : k = s.size := by omega
      have hB := hR.below
      have hback := Lib.run_convert_whole (P := Tryz.prog) wr 133 5 9 Tryz.underlying133 Tryz.underlying5 Tryz.underlying9 w.heap.size 0 (low s) hR.bytes cap
      rw [low_size] at hback
      clear hR
      go_wp2_with fail
      go_ret
      exact ⟨rfl, hB⟩

/-- Is a list short? -/
def fewT (l : List It) : Bool := decide (l.length ≤ 40) && decide (txtI l ≤ 600)
def kdN (n : Int) : Int := if n = 9 ∨ n = 10 ∨ n = 13 ∨ n = 32 then 8 else if 48 ≤ n ∧ n ≤ 57 then 7 else if (65 ≤ n ∧ n ≤ 90) ∨ (97 ≤ n ∧ n ≤ 122) ∨ 128 ≤ n then 6 else 9
theorem kdN_eq (b : UInt8) : kindT b = kdN (b.toNat : Int) := by
  have hb := byteU_le b
  have h0 : (0 : Int) ≤ (b.toNat : Int) := by omega
  unfold kindT cb kdN cls
  generalize (b.toNat : Int) = n at *
  repeat' split
  all_goals first | rfl | omega
def keyT (k : Int) (t : ByteArray) : ByteArray := if k = 6 then low t else t

theorem key_any (k : Int) (t : ByteArray) (id : Int) (w : World) (ht : t.size ≤ 1000) : Calls Tryz.prog 53 #[.agg #[.int .i64 k, .string t, .int .i64 id]] w fun e w' => e = .returned (.string (keyT k t)) ∧ Below w.heap.size w w' := by
  have hl := fun W => clower_any t W ht
  have HL := Lib.hid hl; clear hl
  by_cases h : k = 6
  · have HK := Lib.hid (show keyT k t = low t from if_pos h)
    have q : (k == 6) = true := by simpa using h
    clear h
    go_enter Tryz.func53, Tryz.ntmps53
    go_wp2_with fail
    refine (HL.out _).mono ?_; rintro e w1 ⟨rfl, hb⟩
    go_wp2_with fail
    go_ret
    exact ⟨by rw [HK.out]; rfl, BelowOn (blw (Below.refl _ _) _) hb⟩
  · have HK := Lib.hid (show keyT k t = t from if_neg h)
    have q : (k == 6) = false := by simpa using h
    clear h
    go_enter Tryz.func53, Tryz.ntmps53
    go_wp2_with fail
    go_ret
    exact ⟨by rw [HK.out]; rfl, blw (Below.refl _ _) _⟩
theorem rkey_any (k : Int) (t : ByteArray) (id : Int) (w : World) (ht : t.size ≤ 1000) : Calls Tryz.prog 69 #[.agg #[.int .i64 k, .string t, .int .i64 id]] w fun e w' => e = .returned (.string (keyT k t)) ∧ Below w.heap.size w w' := by
  have hl := fun W => crlower_any t W ht
  have HL := Lib.hid hl; clear hl
  by_cases h : k = 6
  · have HK := Lib.hid (show keyT k t = low t from if_pos h)
    have q : (k == 6) = true := by simpa using h
    clear h
    go_enter Tryz.func69, Tryz.ntmps69
    go_wp2_with fail
    refine (HL.out _).mono ?_; rintro e w1 ⟨rfl, hb⟩
    go_wp2_with fail
    go_ret
    exact ⟨by rw [HK.out]; rfl, BelowOn (blw (Below.refl _ _) _) hb⟩
  · have HK := Lib.hid (show keyT k t = t from if_neg h)
    have q : (k == 6) = false := by simpa using h
    clear h
    go_enter Tryz.func69, Tryz.ntmps69
    go_wp2_with fail
    go_ret
    exact ⟨by rw [HK.out]; rfl, blw (Below.refl _ _) _⟩
theorem rtsame_any (k1 : Int) (t1 : ByteArray) (i1 k2 : Int) (t2 : ByteArray) (i2 : Int) (w : World) : Calls Tryz.prog 101 #[.agg #[.int .i64 k1, .string t1, .int .i64 i1], .agg #[.int .i64 k2, .string t2, .int .i64 i2]] w
    fun e w' => e = .returned (.bool (decide (k1 = k2 ∧ t1 = t2))) ∧ Below w.heap.size w w' := by
  by_cases h : k1 = k2
  · by_cases h2 : t1 = t2
    · have HK := Lib.hid (show decide (k1 = k2 ∧ t1 = t2) = true from decide_eq_true ⟨h, h2⟩)
      rw [HK.out]
      clear HK
      subst h; subst h2
      go_enter Tryz.func101, Tryz.ntmps101
      go_wp2_with fail
      go_ret
      exact ⟨rfl, blw (blw (Below.refl _ _) _) _⟩
    · have HK := Lib.hid (show decide (k1 = k2 ∧ t1 = t2) = false from decide_eq_false fun c => h2 c.2)
      rw [HK.out]
      clear HK
      subst h
      have q1 := strl_ne h2
      have q2 := str_ne h2
      clear h2
      go_enter Tryz.func101, Tryz.ntmps101
      go_wp2_with fail
      go_ret
      exact ⟨rfl, blw (blw (Below.refl _ _) _) _⟩
  · have HK := Lib.hid (show decide (k1 = k2 ∧ t1 = t2) = false from decide_eq_false fun c => h c.1)
    rw [HK.out]
    clear HK
    have q1 : (k1 == k2) = false := by simpa using h
    go_enter Tryz.func101, Tryz.ntmps101
    go_wp2_with fail
    go_ret
    exact ⟨rfl, blw (blw (Below.refl _ _) _) _⟩
end Go.Proofs.YthfgpagmepdblaaGreat
