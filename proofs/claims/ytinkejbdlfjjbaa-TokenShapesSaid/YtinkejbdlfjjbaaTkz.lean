/- Mathematics of the forms of tokens, and of texts that are cut at a space. -/
import Derived.Test.YtinkejbdlfjjbaaTkw
namespace Go.Proofs.Ytinkejbdlfjjbaa
set_option linter.unusedVariables false
set_option maxRecDepth 100000

theorem run_bytes (f j : UInt8 → Bool) (l : List UInt8) : ∀ c ∈ l.take (runL f j l), f c = true ∨ j c = true := by
  induction l with
  | nil => intro c hc; simp at hc
  | cons b t ih =>
    intro c hc
    by_cases h : (f b || (j b && hdF f t)) = true
    · rw [runL, if_pos h, List.take_succ_cons] at hc
      rcases List.mem_cons.1 hc with rfl | hc
      · rw [Bool.or_eq_true, Bool.and_eq_true] at h
        rcases h with h | h
        · exact .inl h
        · exact .inr h.1
      · exact ih c hc
    · rw [runL, if_neg h] at hc; simp at hc
theorem run_stop (f j : UInt8 → Bool) (l : List UInt8) : hdF f (l.drop (runL f j l)) = false := by
  induction l with
  | nil => rfl
  | cons b t ih =>
    by_cases h : (f b || (j b && hdF f t)) = true
    · rw [runL, if_pos h, List.drop_succ_cons]; exact ih
    · rw [runL, if_neg h, List.drop_zero]
      show f b = false
      cases hb : f b
      · rfl
      · exact absurd (by rw [hb]; rfl) h
theorem kd_W (c : UInt8) (h : fW c = true ∨ jW c = true) : kindT c ≠ 8 := by
  rcases h with h | h
  · have : cb c = 4 ∨ cb c = 3 := of_decide_eq_true h
    unfold kindT
    rcases this with h | h <;> rw [h] <;> decide
  · have : c = 39 ∨ c = 45 := of_decide_eq_true h
    rcases this with rfl | rfl <;> decide
theorem kd_D (c : UInt8) (h : fD c = true ∨ jD c = true) : kindT c ≠ 8 ∧ kindT c ≠ 6 := by
  rcases h with h | h
  · have : cb c = 3 := of_decide_eq_true h
    unfold kindT; rw [this]; decide
  · have : c = 46 ∨ c = 44 := of_decide_eq_true h
    rcases this with rfl | rfl <;> decide
theorem kd_S (c : UInt8) (h : fS c = true) : kindT c = 8 := by
  have : cb c = 2 := of_decide_eq_true h
  unfold kindT; rw [this]; decide
theorem fS_iff (c : UInt8) : fS c = true ↔ kindT c = 8 := ⟨kd_S c, fun h => by
  unfold kindT at h; unfold fS
  split at h
  · omega
  · split at h
    · omega
    · split at h
      · rename_i h2; exact decide_eq_true h2
      · omega⟩

/-- What TokenShapes asks of a token behind one of kind last. -/
structure GoodT (last : Int) (x : It) : Prop where
  pos : 0 < x.t.size
  id : x.id = 0
  kd : ∀ h : 0 < x.t.size, kindT x.t[0] = x.k
  one : x.k = 9 → x.t.size = 1
  bl : x.k = 8 → last ≠ 8
  bytes : ∀ i (h : i < x.t.size), (kindT x.t[i] = 8 → x.k = 8) ∧ (x.k = 7 → kindT x.t[i] ≠ 6)
def chainG : Int → List It → Prop
  | _, [] => True
  | l, x :: r => GoodT l x ∧ chainG x.k r
theorem bsT_at (l : List UInt8) (i : Nat) (h : i < (bsT l).size) : (bsT l)[i] = l[i]'(by rw [bsT_size] at h; exact h) := by
  show l.toArray[i]'(by simpa [bsT_size] using h) = _
  simp
theorem size_W (b : UInt8) (t : List UInt8) (h : cb b = 4) : sizeT (b :: t) = runL fW jW t + 1 := by rw [sizeT, if_pos h]
theorem good_tok (b : UInt8) (t : List UInt8) (last : Int) (hl : last = 8 → kindT b ≠ 8) : GoodT last (tokT b t) := by
  have h1 := sizeT_pos b t; have h2 := sizeT_le (b :: t)
  have hs := tokT_size b t
  have hmem : ∀ i (h : i < (tokT b t).t.size), (tokT b t).t[i] ∈ (b :: t).take (sizeT (b :: t)) := fun i h => by
    have := bsT_at ((b :: t).take (sizeT (b :: t))) i h
    show (bsT ((b :: t).take (sizeT (b :: t))))[i] ∈ _
    rw [this]; exact List.getElem_mem _
  refine ⟨by rw [hs]; omega, rfl, fun h => ?_, fun h => ?_, fun h e => hl e h, fun i h => ?_⟩
  · have := bsT_at ((b :: t).take (sizeT (b :: t))) 0 h
    show kindT ((bsT ((b :: t).take (sizeT (b :: t))))[0]) = kindT b
    rw [this, List.getElem_take]; rfl
  · rw [hs]
    have h : kindT b = 9 := h
    unfold kindT at h
    rw [sizeT]
    split at h
    · omega
    · split at h
      · omega
      · split at h
        · omega
        · rename_i a1 a2 a3; rw [if_neg a1, if_neg a2, if_neg a3]
  · have hm := hmem i h
    generalize (tokT b t).t[i] = c at *
    show (kindT c = 8 → kindT b = 8) ∧ (kindT b = 7 → kindT c ≠ 6)
    rw [sizeT] at hm
    by_cases c4 : cb b = 4
    · rw [if_pos c4, List.take_succ_cons] at hm
      have hb : kindT b = 6 := by unfold kindT; rw [if_pos c4]
      have hn : kindT c ≠ 8 := by
        rcases List.mem_cons.1 hm with rfl | hm
        · omega
        · exact kd_W c (run_bytes _ _ _ c hm)
      exact ⟨fun e => absurd e hn, fun e => by omega⟩
    · rw [if_neg c4] at hm
      by_cases c3 : cb b = 3
      · rw [if_pos c3, List.take_succ_cons] at hm
        have hb : kindT b = 7 := by unfold kindT; rw [if_neg c4, if_pos c3]
        have hn : kindT c ≠ 8 ∧ kindT c ≠ 6 := by
          rcases List.mem_cons.1 hm with rfl | hm
          · omega
          · exact kd_D c (run_bytes _ _ _ c hm)
        exact ⟨fun e => absurd e hn.1, fun _ => hn.2⟩
      · rw [if_neg c3] at hm
        by_cases c2 : cb b = 2
        · have hb : kindT b = 8 := by unfold kindT; rw [if_neg c4, if_neg c3, if_pos c2]
          exact ⟨fun _ => hb, fun e => by omega⟩
        · rw [if_neg c2] at hm
          have : c = b := by simpa using hm
          subst this
          exact ⟨fun e => e, fun e => by omega⟩
theorem chain_cut (r : List UInt8) : ∀ last : Int, (last = 8 → hdF fS r = false) → chainG last (cutT r) := by
  refine cut_ind (P := fun r => ∀ last : Int, (last = 8 → hdF fS r = false) → chainG last (cutT r)) (fun _ _ => trivial) (fun b t ih last hl => ?_) r
  rw [cutT_cons]
  refine ⟨good_tok b t last (fun e h => ?_), ih _ (fun e => ?_)⟩
  · have := hl e
    have h2 : hdF fS (b :: t) = fS b := rfl
    rw [h2, (fS_iff b).2 h] at this; cases this
  · have hb : kindT b = 8 := e
    have c2 : cb b = 2 := of_decide_eq_true ((fS_iff b).2 hb)
    rw [sizeT, if_neg (by omega), if_neg (by omega), if_pos c2, List.drop_succ_cons]
    exact run_stop _ _ _
def flatT (l : List It) : List UInt8 := l.flatMap fun x => x.t.data.toList
theorem flat_cut (r : List UInt8) : flatT (cutT r) = r := by
  refine cut_ind (P := fun r => flatT (cutT r) = r) rfl (fun b t ih => ?_) r
  rw [cutT_cons]
  show (tokT b t).t.data.toList ++ flatT _ = _
  rw [ih]
  show (b :: t).take (sizeT (b :: t)) ++ _ = _
  exact List.take_append_drop _ _
theorem chain_le (l : Int) (r : List It) : True := trivial

/-! ### cut at a space -/
theorem run_app (f j : UInt8 → Bool) (t : List UInt8) (hf : f 32 = false) (hj : j 32 = false) : ∀ l : List UInt8, runL f j (l ++ 32 :: t) = runL f j l := by
  intro l
  induction l with
  | nil => rw [List.nil_append, runL_no f j _ _ hf (by rw [hj]; rfl)]; rfl
  | cons b r ih =>
    have hh : hdF f (r ++ 32 :: t) = hdF f r := by
      cases r with
      | nil => exact hf
      | cons c r => rfl
    rw [List.cons_append, runL, runL, ih, hh]
theorem runS_app (x : List UInt8) : ∀ l : List UInt8, (∀ h : l ≠ [], fS (l.getLast h) = false) → l ≠ [] → runL fS jS (l ++ x) = runL fS jS l ∧ runL fS jS l < l.length := by
  intro l
  induction l with
  | nil => intro _ h; exact absurd rfl h
  | cons b r ih =>
    intro hl _
    cases hb : fS b
    · rw [List.cons_append, runL_no _ _ _ _ hb rfl, runL_no _ _ _ _ hb rfl]
      exact ⟨rfl, by simp⟩
    · have hr : r ≠ [] := fun e => by subst e; have := hl (by simp); rw [List.getLast_singleton, hb] at this; cases this
      obtain ⟨h1, h2⟩ := ih (fun h => by have := hl (by simp); rwa [List.getLast_cons h] at this) hr
      rw [List.cons_append, runL_yes _ _ _ _ hb, runL_yes _ _ _ _ hb, h1]
      exact ⟨rfl, by simp; omega⟩
def lastOk (l : List UInt8) : Prop := ∀ h : l ≠ [], fS (l.getLast h) = false
theorem size_app (b : UInt8) (r t : List UInt8) (h : lastOk (b :: r)) : sizeT (b :: r ++ 32 :: t) = sizeT (b :: r) := by
  have e : b :: r ++ 32 :: t = b :: (r ++ 32 :: t) := rfl
  rw [e, sizeT, sizeT]
  rw [run_app fW jW t (by decide) (by decide), run_app fD jD t (by decide) (by decide)]
  by_cases c4 : cb b = 4
  · rw [if_pos c4, if_pos c4]
  · rw [if_neg c4, if_neg c4]
    by_cases c3 : cb b = 3
    · rw [if_pos c3, if_pos c3]
    · rw [if_neg c3, if_neg c3]
      by_cases c2 : cb b = 2
      · rw [if_pos c2, if_pos c2]
        have hr : r ≠ [] := fun e => by
          subst e
          have := h (by simp)
          rw [List.getLast_singleton] at this
          unfold fS at this; rw [decide_eq_false_iff_not] at this; exact this c2
        rw [(runS_app (32 :: t) r (fun hh => by have := h (by simp); rwa [List.getLast_cons hh] at this) hr).1]
      · rw [if_neg c2, if_neg c2]
theorem lastOk_drop (l : List UInt8) (n : Nat) (h : lastOk l) : lastOk (l.drop n) := fun hh => by
  have h0 : l ≠ [] := fun e => by subst e; simp at hh
  rw [List.getLast_drop hh]; exact h h0
theorem cut_app (t : List UInt8) (ht : hdF fS t = false) (s : List UInt8) : lastOk s → cutT (s ++ 32 :: t) = cutT s ++ ⟨8, bsT [32], 0⟩ :: cutT t := by
  refine cut_ind (P := fun s => lastOk s → cutT (s ++ 32 :: t) = cutT s ++ ⟨8, bsT [32], 0⟩ :: cutT t) (fun _ => ?_) (fun b r ih hs => ?_) s
  · have h0 : runL fS jS t = 0 := by
      cases t with
      | nil => rfl
      | cons c t => exact runL_no _ _ _ _ ht rfl
    have hz : sizeT (32 :: t) = 1 := by rw [sizeT, if_neg (by decide), if_neg (by decide), if_pos (by decide), h0]
    rw [List.nil_append, cutT_cons, cutT_nil, List.nil_append]
    unfold tokT
    rw [hz]
    rfl
  · have hz := size_app b r t hs
    have h2 := sizeT_le (b :: r)
    have e : b :: r ++ 32 :: t = b :: (r ++ 32 :: t) := rfl
    have hd : (b :: (r ++ 32 :: t)).drop (sizeT (b :: r)) = (b :: r).drop (sizeT (b :: r)) ++ 32 :: t := by
      rw [← e, List.drop_append_of_le_length h2]
    have htk : (b :: (r ++ 32 :: t)).take (sizeT (b :: r)) = (b :: r).take (sizeT (b :: r)) := by
      rw [← e, List.take_append_of_le_length h2]
    rw [e] at hz
    rw [e, cutT_cons, cutT_cons b r, List.cons_append, hz, hd, ih (lastOk_drop _ _ hs)]
    congr 1
    unfold tokT
    rw [hz, htk]
end Go.Proofs.Ytinkejbdlfjjbaa
