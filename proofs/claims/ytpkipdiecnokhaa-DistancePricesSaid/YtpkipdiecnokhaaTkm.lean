/- Plain mathematics of tokens: how a text is cut, what joins again. -/
import Derived.Test.YtpkipdiecnokhaaNrq
import Derived.Test.YtpkipdiecnokhaaSam
namespace Go.Proofs.Ytpkipdiecnokhaa
set_option linter.unusedVariables false
set_option maxRecDepth 100000

def cb (b : UInt8) : Int := cls (b.toNat : Int)
def fW (b : UInt8) : Bool := decide (cb b = 4 ∨ cb b = 3)
def fD (b : UInt8) : Bool := decide (cb b = 3)
def fS (b : UInt8) : Bool := decide (cb b = 2)
def jW (b : UInt8) : Bool := decide (b = 39 ∨ b = 45)
def jD (b : UInt8) : Bool := decide (b = 46 ∨ b = 44)
def jS (b : UInt8) : Bool := false
def bsT (l : List UInt8) : ByteArray := ⟨l.toArray⟩
theorem bsT_list (s : ByteArray) : bsT s.data.toList = s := by apply ByteArray.ext; simp [bsT]
theorem bsT_toList (l : List UInt8) : (bsT l).data.toList = l := rfl
theorem bsT_size (l : List UInt8) : (bsT l).size = l.length := by show l.toArray.size = _; simp
/-- Does a rest begin with a byte that fits? -/
def hdF (f : UInt8 → Bool) : List UInt8 → Bool
  | [] => false
  | b :: _ => f b
/-- How many bytes fit, or are single joints between two that fit. -/
def runL (f j : UInt8 → Bool) : List UInt8 → Nat
  | [] => 0
  | b :: t => if (f b || (j b && hdF f t)) = true then runL f j t + 1 else 0
theorem runL_le (f j : UInt8 → Bool) (l : List UInt8) : runL f j l ≤ l.length := by
  induction l with
  | nil => exact Nat.le_refl _
  | cons b t ih => unfold runL; split <;> simp <;> omega
theorem runL_yes (f j : UInt8 → Bool) (b : UInt8) (t : List UInt8) (h : f b = true) : runL f j (b :: t) = runL f j t + 1 := by rw [runL, if_pos (by simp [h])]
theorem runL_joint (f j : UInt8 → Bool) (b : UInt8) (t : List UInt8) (h : (j b && hdF f t) = true) : runL f j (b :: t) = runL f j t + 1 := by rw [runL, if_pos (by rw [h]; simp)]
theorem runL_no (f j : UInt8 → Bool) (b : UInt8) (t : List UInt8) (h : f b = false) (h2 : (j b && hdF f t) = false) : runL f j (b :: t) = 0 := by rw [runL, if_neg (by rw [h, h2]; simp)]
def kindT (b : UInt8) : Int := if cb b = 4 then 6 else if cb b = 3 then 7 else if cb b = 2 then 8 else 9
def sizeT : List UInt8 → Nat
  | [] => 0
  | b :: t => if cb b = 4 then runL fW jW t + 1 else if cb b = 3 then runL fD jD t + 1 else if cb b = 2 then runL fS jS t + 1 else 1
theorem sizeT_pos (b : UInt8) (t : List UInt8) : 1 ≤ sizeT (b :: t) := by rw [sizeT]; split; omega; split; omega; split <;> omega
theorem sizeT_le (l : List UInt8) : sizeT l ≤ l.length := by
  cases l with
  | nil => exact Nat.le_refl _
  | cons b t =>
    have h1 := runL_le fW jW t; have h2 := runL_le fD jD t; have h3 := runL_le fS jS t
    rw [sizeT]; simp only [List.length_cons]
    split; omega; split; omega; split <;> omega
def tokT (b : UInt8) (t : List UInt8) : It := ⟨kindT b, bsT ((b :: t).take (sizeT (b :: t))), 0⟩
def cutF : Nat → List UInt8 → List It
  | 0, _ => []
  | _ + 1, [] => []
  | n + 1, b :: t => tokT b t :: cutF n ((b :: t).drop (sizeT (b :: t)))
/-- The tokens of a text. -/
def cutT (r : List UInt8) : List It := cutF r.length r
theorem cutF_fuel : ∀ n m r, r.length ≤ n → r.length ≤ m → cutF n r = cutF m r := by
  intro n
  induction n with
  | zero =>
    intro m r h _
    have : r = [] := List.length_eq_zero_iff.1 (by omega)
    subst this
    cases m <;> rfl
  | succ n ih =>
    intro m r h1 h2
    cases r with
    | nil => cases m <;> rfl
    | cons b t =>
      cases m with
      | zero => simp at h2
      | succ m =>
        have := sizeT_pos b t
        rw [cutF, cutF, ih m _ (by simp at h1 ⊢; omega) (by simp at h2 ⊢; omega)]
theorem cutT_nil : cutT [] = [] := rfl
theorem cutT_cons (b : UInt8) (t : List UInt8) : cutT (b :: t) = tokT b t :: cutT ((b :: t).drop (sizeT (b :: t))) := by
  have := sizeT_pos b t
  show cutF (t.length + 1) (b :: t) = _
  rw [cutF]; unfold cutT
  rw [cutF_fuel _ _ _ (by simp; omega) (Nat.le_refl _)]
theorem cut_ind {P : List UInt8 → Prop} (h0 : P []) (h1 : ∀ b t, P ((b :: t).drop (sizeT (b :: t))) → P (b :: t)) (r : List UInt8) : P r := by
  have : ∀ n r, r.length ≤ n → P r := by
    intro n
    induction n with
    | zero => intro r h; have : r = [] := List.length_eq_zero_iff.1 (by omega); subst this; exact h0
    | succ n ih =>
      intro r h
      cases r with
      | nil => exact h0
      | cons b t => have := sizeT_pos b t; exact h1 b t (ih _ (by simp at h ⊢; omega))
  exact this _ _ (Nat.le_refl _)
theorem cutT_len (r : List UInt8) : (cutT r).length ≤ r.length := by
  refine cut_ind (P := fun r => (cutT r).length ≤ r.length) (Nat.le_refl _) (fun b t ih => ?_) r
  have := sizeT_pos b t
  rw [cutT_cons]; simp at ih ⊢; omega
theorem tokT_size (b : UInt8) (t : List UInt8) : (tokT b t).t.size = sizeT (b :: t) := by
  have := sizeT_le (b :: t)
  show (bsT _).size = _
  rw [bsT_size, List.length_take]; omega
theorem cutT_txt (r : List UInt8) : txtI (cutT r) = r.length := by
  refine cut_ind (P := fun r => txtI (cutT r) = r.length) rfl (fun b t ih => ?_) r
  have h1 := sizeT_pos b t; have h2 := sizeT_le (b :: t)
  rw [cutT_cons]
  show (tokT b t).t.size + txtI _ = _
  rw [ih, tokT_size, List.length_drop]; omega

/-! ### fragments -/
def tokI (x : It) : List It := if x.k = 1 then cutT x.t.data.toList else if 2 ≤ x.k ∧ x.k ≤ 5 then [x] else []
def toks (f : List It) : List It := f.flatMap tokI
theorem toks_next (l : List It) (k : Nat) (h : k < l.length) : toks (l.take (k + 1)) = toks (l.take k) ++ tokI (l[k]'h) := by
  rw [List.take_succ_eq_append_getElem h]; unfold toks; rw [List.flatMap_append]; simp
theorem toks_len (l : List It) : (toks l).length ≤ txtI l + l.length := by
  induction l with
  | nil => exact Nat.le_refl _
  | cons x t ih =>
    show (tokI x ++ toks t).length ≤ x.t.size + txtI t + (t.length + 1)
    rw [List.length_append]
    have h1 := cutT_len x.t.data.toList
    have h2 : x.t.data.toList.length = x.t.size := by simp
    have : (tokI x).length ≤ x.t.size + 1 := by unfold tokI; split; omega; split <;> simp
    omega
theorem toks_txt (l : List It) : txtI (toks l) ≤ txtI l := by
  induction l with
  | nil => exact Nat.le_refl _
  | cons x t ih =>
    show txtI (tokI x ++ toks t) ≤ x.t.size + txtI t
    have ha : txtI (tokI x ++ toks t) = txtI (tokI x) + txtI (toks t) := by unfold txtI; rw [List.map_append, List.sum_append]
    rw [ha]
    have h1 := cutT_txt x.t.data.toList
    have h2 : x.t.data.toList.length = x.t.size := by simp
    have : txtI (tokI x) ≤ x.t.size := by
      unfold tokI; split; omega; split
      · show x.t.size + 0 ≤ _; omega
      · exact Nat.zero_le _
    omega
theorem toks_one (s : ByteArray) : toks [⟨1, s, 0⟩] = cutT s.data.toList := by
  show tokI ⟨1, s, 0⟩ ++ [] = _
  rw [List.append_nil]; rfl
def unI (t : It) : List It := if 6 ≤ t.k ∧ t.k ≤ 9 then [⟨1, t.t, 0⟩] else if 2 ≤ t.k ∧ t.k ≤ 5 then [t] else []
def unL (l : List It) : List It := l.flatMap unI
theorem unL_next (l : List It) (k : Nat) (h : k < l.length) : unL (l.take (k + 1)) = unL (l.take k) ++ unI (l[k]'h) := by
  rw [List.take_succ_eq_append_getElem h]; unfold unL; rw [List.flatMap_append]; simp
theorem unL_len (l : List It) : (unL l).length ≤ l.length := by
  induction l with
  | nil => exact Nat.le_refl _
  | cons x t ih =>
    show (unI x ++ unL t).length ≤ t.length + 1
    rw [List.length_append]
    have : (unI x).length ≤ 1 := by unfold unI; split; simp; split <;> simp
    omega
theorem unL_txt (l : List It) : txtI (unL l) ≤ txtI l := by
  induction l with
  | nil => exact Nat.le_refl _
  | cons x t ih =>
    show txtI (unI x ++ unL t) ≤ x.t.size + txtI t
    have ha : txtI (unI x ++ unL t) = txtI (unI x) + txtI (unL t) := by unfold txtI; rw [List.map_append, List.sum_append]
    rw [ha]
    have : txtI (unI x) ≤ x.t.size := by
      unfold unI; split
      · show x.t.size + 0 ≤ _; omega
      · split
        · show x.t.size + 0 ≤ _; omega
        · exact Nat.zero_le _
    omega
theorem kindT_range (b : UInt8) : 6 ≤ kindT b ∧ kindT b ≤ 9 := by unfold kindT; split; omega; split; omega; split <;> omega
/-- The tokens of a text, behind a fragment, give the text again. -/
theorem fold_cut (r : List UInt8) : ∀ o, (unL (cutT r)).foldl normS o = normS o ⟨1, bsT r, 0⟩ := by
  refine cut_ind (P := fun r => ∀ o, (unL (cutT r)).foldl normS o = normS o ⟨1, bsT r, 0⟩) (fun o => ?_) (fun b t ih o => ?_) r
  · rw [norm_skip o _ rfl (bsT_size [])]; rfl
  · have h1 := sizeT_pos b t; have h2 := sizeT_le (b :: t)
    rw [cutT_cons]
    have e : unI (tokT b t) = [⟨1, (tokT b t).t, 0⟩] := if_pos (kindT_range b)
    show (unI (tokT b t) ++ unL _).foldl normS o = _
    rw [e, List.foldl_append, ih]
    show normS (normS o ⟨1, (tokT b t).t, 0⟩) _ = _
    have e2 : bsT (b :: t) = (tokT b t).t ++ bsT ((b :: t).drop (sizeT (b :: t))) := by
      show _ = bsT ((b :: t).take (sizeT (b :: t))) ++ _
      apply ByteArray.ext; rw [ByteArray.data_append]; apply Array.ext'
      show b :: t = _
      simp only [bsT, List.append_toArray]
      exact (List.take_append_drop _ _).symm
    by_cases hr : (bsT ((b :: t).drop (sizeT (b :: t)))).size = 0
    · rw [norm_skip _ _ rfl hr, e2, size_zero _ hr]
      rw [show (tokT b t).t ++ ByteArray.empty = (tokT b t).t by simp]
    · rw [two_texts o _ _ rfl rfl hr, e2]
def kindsOk (f : List It) : Prop := ∀ x ∈ f, 1 ≤ x.k ∧ x.k ≤ 5
theorem fold_toks (f : List It) (h : kindsOk f) : ∀ o, (unL (toks f)).foldl normS o = f.foldl normS o := by
  induction f with
  | nil => intro o; rfl
  | cons x t ih =>
    intro o
    have hx := h x (.head _)
    have e : unL (toks (x :: t)) = unL (tokI x) ++ unL (toks t) := by
      show unL (tokI x ++ toks t) = _
      unfold unL; rw [List.flatMap_append]
    rw [e, List.foldl_append, ih (fun y hy => h y (.tail _ hy)), List.foldl_cons]
    congr 1
    by_cases h1 : x.k = 1
    · unfold tokI; rw [if_pos h1, fold_cut, bsT_list]
      obtain ⟨k, t, id⟩ := x
      dsimp only at h1; subst h1
      exact normS_text _ _ _ _
    · have : tokI x = [x] := by unfold tokI; rw [if_neg h1, if_pos (by omega)]
      rw [this]
      show (unI x ++ []).foldl normS o = _
      rw [List.append_nil]
      unfold unI; rw [if_neg (by omega), if_pos (by omega)]; rfl
theorem norm_toks (f : List It) (h : kindsOk f) : norm (unL (toks f)) = norm f := fold_toks f h []
theorem normS_mem (o : List It) (x : It) : ∀ y ∈ normS o x, y ∈ o ∨ y = x ∨ y.k = 1 := by
  intro y hy
  unfold normS at hy
  split at hy
  · split at hy
    · exact .inl hy
    · split at hy
      · split at hy
        · rcases List.mem_append.1 hy with h | h
          · exact .inl (List.dropLast_subset _ h)
          · right; right; rw [List.mem_singleton.1 h]
        · rcases List.mem_append.1 hy with h | h
          · exact .inl h
          · right; right; rw [List.mem_singleton.1 h]
      · rcases List.mem_append.1 hy with h | h
        · exact .inl h
        · right; right; rw [List.mem_singleton.1 h]
  · rcases List.mem_append.1 hy with h | h
    · exact .inl h
    · right; left; exact List.mem_singleton.1 h
theorem kinds_norm (f : List It) (h : kindsOk f) : kindsOk (norm f) := by
  have : ∀ k, k ≤ f.length → kindsOk (norm (f.take k)) := by
    intro k
    induction k with
    | zero => intro _ x hx; simp [norm] at hx
    | succ j ih =>
      intro hj x hx
      rw [norm_next f j hj] at hx
      rcases normS_mem _ _ x hx with h1 | h1 | h1
      · exact ih (by omega) x h1
      · rw [h1]; exact h _ (List.getElem_mem hj)
      · omega
  have := this f.length (Nat.le_refl _)
  rwa [List.take_length] at this
end Go.Proofs.Ytpkipdiecnokhaa
