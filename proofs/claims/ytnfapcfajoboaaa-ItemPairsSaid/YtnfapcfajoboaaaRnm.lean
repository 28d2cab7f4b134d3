/- Plain mathematics of renumbering. -/
import Derived.Test.YtnfapcfajoboaaaCan
import Derived.Test.YtnfapcfajoboaaaSlm
namespace Go.Proofs.Ytnfapcfajoboaaa
set_option linter.unusedVariables false

theorem nums_snoc (l : List It) (x : It) : numsL (l ++ [x]) = numS (numsL l) x := by unfold numsL; rw [List.foldl_append]; rfl
theorem mem_nums (l : List It) : ∀ id, id ∈ numsL l ↔ ∃ x ∈ l, isT x.k = true ∧ x.id = id := by
  refine list_rev (P := fun l => ∀ id, id ∈ numsL l ↔ ∃ x ∈ l, isT x.k = true ∧ x.id = id) (fun id => by simp [numsL]) (fun l x ih id => ?_) l
  rw [nums_snoc]
  have e : (∃ y ∈ l ++ [x], isT y.k = true ∧ y.id = id) ↔ (∃ y ∈ l, isT y.k = true ∧ y.id = id) ∨ (isT x.k = true ∧ x.id = id) := by
    constructor
    · rintro ⟨y, hy, h⟩
      rcases List.mem_append.1 hy with hy | hy
      · exact .inl ⟨y, hy, h⟩
      · rw [List.mem_singleton] at hy; subst hy; exact .inr h
    · rintro (⟨y, hy, h⟩ | h)
      · exact ⟨y, List.mem_append_left _ hy, h⟩
      · exact ⟨x, List.mem_append_right _ (List.mem_singleton.2 rfl), h⟩
  rw [e, ← ih id]
  unfold numS
  by_cases hc : isT x.k = true ∧ x.id ∉ numsL l
  · rw [if_pos hc, List.mem_append, List.mem_singleton]
    constructor
    · rintro (h | h)
      · exact .inl h
      · exact .inr ⟨hc.1, h.symm⟩
    · rintro (h | h)
      · exact .inl h
      · exact .inr h.2.symm
  · rw [if_neg hc]
    refine ⟨fun h => .inl h, fun h => ?_⟩
    rcases h with h | h
    · exact h
    · by_cases hm : x.id ∈ numsL l
      · rw [← h.2]; exact hm
      · exact absurd ⟨h.1, hm⟩ hc
theorem nums_nodup (l : List It) : (numsL l).Nodup := by
  refine list_rev (P := fun l => (numsL l).Nodup) (by simp [numsL]) (fun l x ih => ?_) l
  rw [nums_snoc]
  unfold numS
  split
  · rename_i h
    rw [List.nodup_append]
    exact ⟨ih, List.pairwise_singleton _ _, fun a ha b hb e => by rw [List.mem_singleton] at hb; subst hb; subst e; exact h.2 ha⟩
  · exact ih
/-- The number that Renumber gives. -/
def phi (ns : List Int) (id : Int) : Int := (ns.idxOf id : Int) + 1
theorem phi_inj {ns : List Int} {a b : Int} (ha : a ∈ ns) (hb : b ∈ ns) (h : phi ns a = phi ns b) : a = b := by
  unfold phi at h
  have h' : ns.idxOf a = ns.idxOf b := by omega
  have l1 := List.idxOf_lt_length_of_mem ha
  have e1 := List.getElem_idxOf l1
  have l2 := List.idxOf_lt_length_of_mem hb
  have e2 := List.getElem_idxOf l2
  rw [← e1, ← e2]
  simp only [h']
theorem phi_range {ns : List Int} {a : Int} (ha : a ∈ ns) : 1 ≤ phi ns a ∧ phi ns a ≤ (ns.length : Int) := by
  have := List.idxOf_lt_length_of_mem ha
  unfold phi; omega
theorem nm_up (ns : List Int) : ∀ id, nmF (upPairs ns) id = if id ∈ ns then some (phi ns id) else none := by
  refine list_rev (P := fun ns => ∀ id, nmF (upPairs ns) id = if id ∈ ns then some (phi ns id) else none) (fun id => by rw [if_neg (by simp)]; rfl) (fun l a ih id => ?_) ns
  have e : upPairs (l ++ [a]) = upPairs l ++ [(a, (l.length : Int) + 1)] := by
    unfold upPairs
    rw [List.length_append, show l.length + [a].length = l.length + 1 from rfl, upL_next, List.zip_append (by rw [upL_len])]; rfl
  rw [e, nm_snoc, ih id]
  unfold phi
  by_cases h : id ∈ l
  · rw [if_pos h, if_pos (List.mem_append_left _ h), List.idxOf_append, if_pos h]
  · rw [if_neg h]
    by_cases ha : a = id
    · subst ha
      rw [if_pos (List.mem_append_right _ (List.mem_singleton.2 rfl)), List.idxOf_append, if_neg h]
      simp
    · rw [if_neg ha]
      show none = _
      rw [if_neg (fun hm => by
        rcases List.mem_append.1 hm with hm | hm
        · exact h hm
        · exact ha (List.mem_singleton.1 hm).symm)]
theorem map_phi (ns : List Int) : ns.Nodup → ns.map (phi ns) = upL ns.length := by
  refine list_rev (P := fun ns => ns.Nodup → ns.map (phi ns) = upL ns.length) (fun _ => rfl) (fun l a ih h => ?_) ns
  rw [List.nodup_append] at h
  have ha : a ∉ l := fun hm => h.2.2 a hm a (List.mem_singleton.2 rfl) rfl
  rw [List.map_append, List.length_append, show l.length + [a].length = l.length + 1 from rfl, upL_next, ← ih h.1]
  congr 1
  · refine List.map_congr_left fun y hy => ?_
    unfold phi; rw [List.idxOf_append, if_pos hy]
  · show [phi (l ++ [a]) a] = _
    unfold phi; rw [List.idxOf_append, if_neg ha]; simp
/-- An item with the number of its tag turned. -/
def rho (f : Int → Int) (x : It) : It := if isT x.k = true then ⟨x.k, x.t, f x.id⟩ else x
theorem rho_k (f : Int → Int) (x : It) : (rho f x).k = x.k := by unfold rho; split <;> rfl
theorem rho_t (f : Int → Int) (x : It) : (rho f x).t = x.t := by unfold rho; split <;> rfl
theorem rho_id (f : Int → Int) (x : It) (h : isT x.k = true) : (rho f x).id = f x.id := by unfold rho; rw [if_pos h]
theorem rho_not (f : Int → Int) (x : It) (h : ¬ isT x.k = true) : rho f x = x := by unfold rho; rw [if_neg h]
theorem ren_up (l : List It) (ns : List Int) (h : ∀ x ∈ l, isT x.k = true → x.id ∈ ns) : renL (upPairs ns) l = l.map (rho (phi ns)) := by
  induction l with
  | nil => rfl
  | cons x t ih =>
    have e : renL (upPairs ns) (x :: t) = ren1 (upPairs ns) x ++ renL (upPairs ns) t := rfl
    rw [e, ih (fun y hy => h y (.tail _ hy)), List.map_cons]
    by_cases hx : isT x.k = true
    · unfold ren1 rho
      rw [if_pos hx, if_pos hx, nm_up, if_pos (h x (.head _) hx)]; rfl
    · unfold ren1 rho
      rw [if_neg hx, if_neg hx]; rfl
theorem rho_norm (f : Int → Int) (out : List It) (x : It) : normS (out.map (rho f)) (rho f x) = (normS out x).map (rho f) := by
  by_cases hk : x.k = 1
  · have hx : rho f x = x := rho_not f x (by rw [hk]; decide)
    rw [hx]
    by_cases hz : x.t.size = 0
    · rw [norm_skip _ x hk hz, norm_skip _ x hk hz]
    · rcases Nat.eq_zero_or_pos out.length with h0 | h0
      · rw [List.length_eq_zero_iff.1 h0]
        rw [List.map_nil, norm_fresh [] x hk hz rfl]
        show [_] = [rho f _]
        rw [rho_not f ⟨1, x.t, 0⟩ (fun h => by cases h)]
      · obtain ⟨D, y, e, hl⟩ := out_last out h0
        subst e
        rw [show (D ++ [y]).map (rho f) = D.map (rho f) ++ [rho f y] by rw [List.map_append]; rfl]
        by_cases hy : y.k = 1
        · rw [norm_last (D ++ [y]) x hk hz D y rfl hy, norm_last _ x hk hz (D.map (rho f)) (rho f y) rfl (by rw [rho_k]; exact hy), List.map_append]
          show _ = _ ++ [rho f _]
          rw [rho_not f ⟨1, y.t ++ x.t, 0⟩ (fun h => by cases h), rho_t]
        · rw [norm_fresh (D ++ [y]) x hk hz (by rw [hl]; simpa using hy), norm_fresh _ x hk hz (by unfold lastText; simp [rho_k, hy]), List.map_append, List.map_append]
          show _ = _ ++ [rho f _]
          rw [rho_not f ⟨1, x.t, 0⟩ (fun h => by cases h)]; simp
  · rw [norm_other _ _ (by rw [rho_k]; exact hk), norm_other _ _ hk, List.map_append]; rfl
theorem norm_rho (f : Int → Int) (l : List It) : norm (l.map (rho f)) = (norm l).map (rho f) := by
  refine list_rev (P := fun l => norm (l.map (rho f)) = (norm l).map (rho f)) rfl (fun l x ih => ?_) l
  rw [List.map_append, List.map_cons, List.map_nil, norm_snoc, norm_snoc, ih, rho_norm]
theorem plain_rho (f : Int → Int) (l : List It) : plainL (l.map (rho f)) = plainL l := by
  unfold plainL
  rw [List.flatMap_map]
  congr 1
  funext x
  unfold plainB; rw [rho_k, rho_t]
theorem len_rho (f : Int → Int) (l : List It) : lenI (l.map (rho f)) = lenI l := by
  refine list_rev (P := fun l => lenI (l.map (rho f)) = lenI l) rfl (fun l x ih => ?_) l
  rw [List.map_append, List.map_cons, List.map_nil, lenI_snoc, lenI_snoc, ih]
  unfold wid; rw [rho_k, rho_t]
theorem txt_rho (f : Int → Int) (l : List It) : txtI (l.map (rho f)) = txtI l := by
  refine list_rev (P := fun l => txtI (l.map (rho f)) = txtI l) rfl (fun l x ih => ?_) l
  rw [List.map_append, List.map_cons, List.map_nil, txtI_snoc, txtI_snoc, ih, rho_t]
/-- Numbers that a function keeps apart. -/
def Apart (f : Int → Int) (l : List It) : Prop := ∀ x ∈ l, isT x.k = true → ∀ y ∈ l, isT y.k = true → f x.id = f y.id → x.id = y.id
theorem Apart.left {f : Int → Int} {l m : List It} (h : Apart f (l ++ m)) : Apart f l := fun x hx hxt y hy hyt e => h x (List.mem_append_left _ hx) hxt y (List.mem_append_left _ hy) hyt e
theorem apart_phi (l : List It) : Apart (phi (numsL l)) l := fun x hx hxt y hy hyt e => phi_inj ((mem_nums l _).2 ⟨x, hx, hxt, rfl⟩) ((mem_nums l _).2 ⟨y, hy, hyt, rfl⟩) e
theorem nums_rho (f : Int → Int) (l : List It) : Apart f l → numsL (l.map (rho f)) = (numsL l).map f := by
  refine list_rev (P := fun l => Apart f l → numsL (l.map (rho f)) = (numsL l).map f) (fun _ => rfl) (fun l x ih h => ?_) l
  rw [List.map_append, List.map_cons, List.map_nil, nums_snoc, nums_snoc, ih h.left]
  unfold numS
  rw [rho_k]
  by_cases hx : isT x.k = true
  · rw [rho_id f x hx]
    have e : f x.id ∈ (numsL l).map f ↔ x.id ∈ numsL l := by
      refine ⟨fun hm => ?_, fun hm => List.mem_map.2 ⟨_, hm, rfl⟩⟩
      obtain ⟨n, hn, he⟩ := List.mem_map.1 hm
      obtain ⟨y, hy, hyt, rfl⟩ := (mem_nums l n).1 hn
      rw [← h y (List.mem_append_left _ hy) hyt x (List.mem_append_right _ (List.mem_singleton.2 rfl)) hx he]
      exact hn
    by_cases hm : x.id ∈ numsL l
    · rw [if_neg (fun c => c.2 (e.2 hm)), if_neg (fun c => c.2 hm)]
    · rw [if_pos ⟨hx, fun c => hm (e.1 c)⟩, if_pos ⟨hx, hm⟩, List.map_append]; rfl
  · rw [if_neg (fun c => hx c.1), if_neg (fun c => hx c.1)]
theorem last_rho (f : Int → Int) (l : List It) : lastText (l.map (rho f)) = lastText l := by
  unfold lastText
  rw [List.getLast?_map]
  cases l.getLast? with
  | none => rfl
  | some y => simp [rho_k]
theorem err_rho (f : Int → Int) (l : List It) : Apart f l → (∀ x ∈ l, isT x.k = true → 1 ≤ f x.id ∧ f x.id ≤ 999) → errL [] l = 0 → errL [] (l.map (rho f)) = 0 := by
  refine list_rev (P := fun l => Apart f l → (∀ x ∈ l, isT x.k = true → 1 ≤ f x.id ∧ f x.id ≤ 999) → errL [] l = 0 → errL [] (l.map (rho f)) = 0) (fun _ _ h => h) (fun l x ih ha hr h => ?_) l
  have h0 := errL_left _ _ h
  rw [errL_snoc _ _ h0, errAt_zero] at h
  obtain ⟨hp, ht, hb⟩ := h
  have i0 := ih ha.left (fun y hy => hr y (List.mem_append_left _ hy)) h0
  have hxm : x ∈ l ++ [x] := List.mem_append_right _ (List.mem_singleton.2 rfl)
  rw [List.map_append, List.map_cons, List.map_nil, errL_snoc _ _ i0, errAt_zero]
  refine ⟨?_, fun hk => ?_, fun hk => ?_⟩
  · by_cases hx : isT x.k = true
    · have hr' := hr x hxm hx
      unfold properB at hp ⊢
      rw [rho_k, rho_t, rho_id f x hx]
      have hx2 : x.k = 2 ∨ x.k = 3 ∨ x.k = 4 := of_decide_eq_true hx
      rw [if_neg (by omega)] at hp ⊢
      have hn : numB (f x.id) = true := decide_eq_true hr'
      split at hp
      · rename_i hc
        rw [if_pos hc]; rw [Bool.and_eq_true] at hp ⊢; exact ⟨hp.1, hn⟩
      · rename_i hc
        rw [if_neg hc]
        split at hp
        · rename_i h3; rw [if_pos h3]; rw [Bool.and_eq_true] at hp ⊢; exact ⟨hp.1, hn⟩
        · omega
    · rw [rho_not f x hx]; exact hp
  · rw [last_rho]; rw [rho_k] at hk; exact ht hk
  · rw [rho_k] at hk
    rw [tagBad_iff]
    intro y hy hyt hyi
    obtain ⟨z, hz, rfl⟩ := List.mem_map.1 hy
    rw [rho_k] at hyt ⊢
    rw [rho_id f z hyt, rho_id f x hk] at hyi
    rw [rho_k, rho_t, rho_t]
    exact (tagBad_iff _ _).1 (hb hk) z hz hyt (ha z (List.mem_append_left _ hz) hyt x hxm hk hyi)
def mapSt (f : Int → Int) (st : Option (List Int × List Int)) : Option (List Int × List Int) := st.map fun p => (p.1.map f, p.2.map f)
theorem sh_mem (l : List It) : ∀ c o, shL l = some (c, o) → ∀ n ∈ o, ∃ x ∈ l, isT x.k = true ∧ x.id = n := by
  refine list_rev (P := fun l => ∀ c o, shL l = some (c, o) → ∀ n ∈ o, ∃ x ∈ l, isT x.k = true ∧ x.id = n) (fun c o h n hn => by simp [shL] at h; rw [h.2] at hn; cases hn) (fun l x ih c o h n hn => ?_) l
  have e : shL (l ++ [x]) = shS (shL l) x := by unfold shL; rw [List.foldl_append]; rfl
  rw [e] at h
  have up : ∀ c' o', shL l = some (c', o') → n ∈ o' → ∃ y ∈ l ++ [x], isT y.k = true ∧ y.id = n := fun c' o' h1 h2 => by
    obtain ⟨y, hy, h3⟩ := ih c' o' h1 n h2
    exact ⟨y, List.mem_append_left _ hy, h3⟩
  cases hs : shL l with
  | none => rw [hs] at h; cases h
  | some st =>
    obtain ⟨c', o'⟩ := st
    rw [hs] at h
    unfold shS at h
    dsimp only at h
    split at h
    · rename_i h2
      cases h
      rcases List.mem_append.1 hn with hn | hn
      · exact up _ _ hs hn
      · rw [List.mem_singleton] at hn
        exact ⟨x, List.mem_append_right _ (List.mem_singleton.2 rfl), by rw [h2]; rfl, hn.symm⟩
    · split at h
      · cases hl : o'.getLast? with
        | none => rw [hl] at h; cases h; exact up _ _ hs hn
        | some y =>
          rw [hl] at h; dsimp only at h
          split at h
          · cases h; exact up _ _ hs (List.dropLast_subset _ hn)
          · cases h
      · cases h; exact up _ _ hs hn
theorem sh_rho (f : Int → Int) (l : List It) : Apart f l → shL (l.map (rho f)) = mapSt f (shL l) := by
  refine list_rev (P := fun l => Apart f l → shL (l.map (rho f)) = mapSt f (shL l)) (fun _ => rfl) (fun l x ih h => ?_) l
  have e : ∀ (l : List It) (x : It), shL (l ++ [x]) = shS (shL l) x := fun l x => by unfold shL; rw [List.foldl_append]; rfl
  rw [List.map_append, List.map_cons, List.map_nil, e, e, ih h.left]
  have hm := sh_mem l
  cases hs : shL l with
  | none => rfl
  | some st =>
    obtain ⟨c, o⟩ := st
    have hm := hm c o hs
    unfold shS mapSt
    dsimp only [Option.map]
    rw [rho_k]
    by_cases h2 : x.k = 2
    · rw [if_pos h2, if_pos h2, rho_id f x (by rw [h2]; rfl)]; simp
    · rw [if_neg h2, if_neg h2]
      by_cases h3 : x.k = 3
      · have hxt : isT x.k = true := by rw [h3]; rfl
        rw [if_pos h3, if_pos h3, rho_id f x hxt, List.getLast?_map]
        cases hl : o.getLast? with
        | none => simp
        | some y =>
          dsimp only [Option.map]
          have hy := List.mem_of_getLast? hl
          obtain ⟨z, hz, hzt, rfl⟩ := hm y hy
          by_cases hc : z.id = x.id
          · rw [if_pos hc, if_pos (by rw [hc])]; simp [List.map_dropLast]
          · rw [if_neg hc, if_neg (fun c => hc (h z (List.mem_append_left _ hz) hzt x (List.mem_append_right _ (List.mem_singleton.2 rfl)) hxt c))]
      · rw [if_neg h3, if_neg h3]

/-! ### Renumber of a valid fragment -/
def reno (l : List It) : List It := norm (renL (upPairs (numsL l)) l)
theorem reno_eq (l : List It) : reno l = (norm l).map (rho (phi (numsL l))) := by
  unfold reno
  rw [ren_up l _ (fun x hx hxt => (mem_nums l _).2 ⟨x, hx, hxt, rfl⟩), norm_rho]
theorem reno_valid {l : List It} (h : errL [] l = 0) : reno l = l.map (rho (phi (numsL l))) := by rw [reno_eq, norm_valid l h]
theorem nums_reno {l : List It} (h : errL [] l = 0) : numsL (reno l) = upL (numsL l).length := by
  rw [reno_valid h, nums_rho _ l (apart_phi l), map_phi _ (nums_nodup l)]
theorem idx_up (n : Nat) : ∀ i, i < n → (upL n).idxOf ((i : Int) + 1) = i := by
  induction n with
  | zero => intro i h; omega
  | succ n ih =>
    intro i h
    rw [upL_next, List.idxOf_append]
    by_cases hi : i < n
    · have hm : ((i : Int) + 1) ∈ upL n := by unfold upL; exact List.mem_map.2 ⟨i, List.mem_range.2 hi, rfl⟩
      rw [if_pos hm, ih i hi]
    · have : i = n := by omega
      subst this
      have hm : ((i : Int) + 1) ∉ upL i := fun hm => by
        unfold upL at hm
        obtain ⟨j, hj, e⟩ := List.mem_map.1 hm
        have := List.mem_range.1 hj; omega
      rw [if_neg hm, upL_len]; simp
theorem phi_up (n : Nat) (a : Int) (h : a ∈ upL n) : phi (upL n) a = a := by
  unfold upL at h
  obtain ⟨i, hi, rfl⟩ := List.mem_map.1 h
  unfold phi
  rw [idx_up n i (List.mem_range.1 hi)]
theorem err_reno {l : List It} (h : errL [] l = 0) (hl : l.length ≤ 900) : errL [] (reno l) = 0 := by
  rw [reno_valid h]
  refine err_rho _ l (apart_phi l) (fun x hx hxt => ?_) h
  have h1 := phi_range ((mem_nums l x.id).2 ⟨x, hx, hxt, rfl⟩)
  have h2 := nums_le l
  omega
theorem reno_reno {l : List It} (h : errL [] l = 0) (hl : l.length ≤ 900) : reno (reno l) = reno l := by
  rw [reno_valid (err_reno h hl), nums_reno h]
  rw [List.map_congr_left (g := id), List.map_id]
  intro x hx
  by_cases hxt : isT x.k = true
  · have hm : x.id ∈ upL (numsL l).length := by rw [← nums_reno h]; exact (mem_nums _ _).2 ⟨x, hx, hxt, rfl⟩
    show rho _ x = x
    unfold rho
    rw [if_pos hxt, phi_up _ _ hm]
  · exact rho_not _ x hxt
theorem reno_ok {l : List It} (h : FragOk 8 l) : (reno l).length = l.length ∧ txtI (reno l) = txtI l ∧ lenI (reno l) = lenI l ∧ valE (reno l) = 0 ∧ plainL (reno l) = plainL l ∧ shL (reno l) = mapSt (phi (numsL l)) (shL l) ∧ errL [] (reno l) = 0 := by
  have h1 := h.len; have h3 := h.lenI
  have he := err_reno h.e (by omega)
  have e := reno_valid h.e
  have hl : (reno l).length = l.length := by rw [e, List.length_map]
  have hi : lenI (reno l) = lenI l := by rw [e, len_rho]
  refine ⟨hl, by rw [e, txt_rho], hi, ?_, by rw [e, plain_rho], by rw [e, sh_rho _ l (apart_phi l)], he⟩
  unfold valE
  rw [if_neg (by omega)]; exact he
end Go.Proofs.Ytnfapcfajoboaaa
