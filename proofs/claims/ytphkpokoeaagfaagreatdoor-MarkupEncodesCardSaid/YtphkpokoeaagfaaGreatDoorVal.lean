/- Contracts of Validate and of what it calls. -/
import Derived.Test.YtphkpokoeaagfaaGreatDoorValM
import Derived.Test.YtphkpokoeaagfaaGreatDoorMap
import Derived.Test.YtphkpokoeaagfaaGreatDoorCon
import Derived.Test.YtphkpokoeaagfaaGreatDoorAcc
import Derived.Deep.RegionHeld3
namespace Go.Proofs.YtphkpokoeaagfaaGreatDoor
open Go.ChangeShapes Go.WideShapes Go.ChangeAt Go.RowKit
set_option linter.unusedVariables false
set_option maxRecDepth 100000

theorem isnumber_any (n : Int) (w : World) : Calls Tryz.prog 104 #[.int .i64 n] w fun e w' => e = .returned (.bool (numB n)) ∧ w = w' := by
  go_enter Tryz.func104, Tryz.ntmps104
  go_wp2
  all_goals go_ret
  all_goals refine ⟨ret_bool ?_, rfl⟩
  all_goals (unfold numB; rw [Bool.eq_iff_iff]; simp_all; try omega)

set_option maxHeartbeats 1600000 in
theorem isproper_any (k : Int) (t : ByteArray) (id : Int) (w : World) (ht : t.size ≤ maxLen) : Calls Tryz.prog 68 #[.agg #[.int .i64 k, .string t, .int .i64 id]] w fun e w' => e = .returned (.bool (properB ⟨k, t, id⟩)) ∧ Below w.heap.size w w' := by
  have hc := fun w => iscontent_any t w ht
  have hn := fun w => isname_any t w ht
  have hi := fun w => isnumber_any id w
  have hz : properB ⟨k, t, id⟩ = if k = 1 then decide (t.size ≠ 0) && decide (id = 0) else if k = 2 ∨ k = 4 then isCon t && numB id else if k = 3 then isNm t && numB id else if k = 5 then isNm t && decide (id = 0) else false := rfl
  rw [hz]
  have he : t.toList.isEmpty = decide (t.size = 0) := by
    by_cases h0 : t.size = 0
    · rw [str_none h0]; simp [h0]
    · rw [str_some h0]; simp [h0]
  generalize isCon t = bc at *
  generalize isNm t = bn at *
  generalize numB id = bi at *
  have HC := Lib.hid hc; have HN := Lib.hid hn; have HI := Lib.hid hi; have HE := Lib.hid he
  clear hc hn hi hz he ht
  by_cases h1 : k = 1
  · subst h1
    rw [if_pos rfl]
    have he := HE.out
    have ei : (id == 0) = decide (id = 0) := rfl
    by_cases h0 : t.size = 0
    · have e0 : decide (t.size ≠ 0) = false := by simp [h0]
      have e1 : t.toList.isEmpty = true := by rw [he]; simp [h0]
      rw [e0]
      clear he h0
      go_enter Tryz.func68, Tryz.ntmps68
      go_wp2_with fail
      go_ret
      exact ⟨rfl, blw (Below.refl _ _) _⟩
    · have e0 : decide (t.size ≠ 0) = true := by simp [h0]
      have e1 : t.toList.isEmpty = false := by rw [he]; simp [h0]
      rw [e0]
      clear he h0
      go_enter Tryz.func68, Tryz.ntmps68
      go_wp2_with fail
      go_ret
      exact ⟨ret_bool (by simp), blw (Below.refl _ _) _⟩
  rw [if_neg h1]
  have q1 : (k == 1) = false := by simpa using h1
  by_cases h2 : k = 2 ∨ k = 4
  · rw [if_pos h2]
    have hb1 : ∀ w1, Below (w.alloc (.cells #[.int .i64 k, .string t, .int .i64 id] 62)).heap.size (w.alloc (.cells #[.int .i64 k, .string t, .int .i64 id] 62)) w1 → Below w.heap.size w w1 := fun w1 hb => BelowOn (blw (Below.refl _ _) _) hb
    have HB := Lib.hid hb1; clear hb1
    rcases h2 with rfl | rfl
    all_goals cases bc
    · go_enter Tryz.func68, Tryz.ntmps68
      go_wp2_with fail
      refine (HC.out _).mono ?_; rintro e w1 ⟨rfl, hb⟩
      obtain ⟨c0, c1, c2, lt⟩ := (Var3.new w 2 t id).call hb
      go_wp2_with fail
      go_ret
      exact ⟨rfl, HB.out _ hb⟩
    · go_enter Tryz.func68, Tryz.ntmps68
      go_wp2_with fail
      refine (HC.out _).mono ?_; rintro e w1 ⟨rfl, hb⟩
      obtain ⟨c0, c1, c2, lt⟩ := (Var3.new w 2 t id).call hb
      go_wp2_with fail
      refine (HI.out _).mono ?_; rintro e w2 ⟨rfl, rfl⟩
      go_wp2_with fail
      go_ret
      exact ⟨ret_bool (by simp), HB.out _ hb⟩
    · go_enter Tryz.func68, Tryz.ntmps68
      go_wp2_with fail
      refine (HC.out _).mono ?_; rintro e w1 ⟨rfl, hb⟩
      obtain ⟨c0, c1, c2, lt⟩ := (Var3.new w 4 t id).call hb
      go_wp2_with fail
      go_ret
      exact ⟨rfl, HB.out _ hb⟩
    · go_enter Tryz.func68, Tryz.ntmps68
      go_wp2_with fail
      refine (HC.out _).mono ?_; rintro e w1 ⟨rfl, hb⟩
      obtain ⟨c0, c1, c2, lt⟩ := (Var3.new w 4 t id).call hb
      go_wp2_with fail
      refine (HI.out _).mono ?_; rintro e w2 ⟨rfl, rfl⟩
      go_wp2_with fail
      go_ret
      exact ⟨ret_bool (by simp), HB.out _ hb⟩
  rw [if_neg h2]
  have q2 : (k == 2) = false := by simp; omega
  have q4 : (k == 4) = false := by simp; omega
  clear h2
  by_cases h3 : k = 3
  · rw [if_pos h3]
    have q3 : (k == 3) = true := by simpa using h3
    clear h3
    cases bn
    · go_enter Tryz.func68, Tryz.ntmps68
      go_wp2_with fail
      refine (HN.out _).mono ?_; rintro e w1 ⟨rfl, rfl⟩
      go_wp2_with fail
      go_ret
      exact ⟨rfl, blw (Below.refl _ _) _⟩
    · go_enter Tryz.func68, Tryz.ntmps68
      go_wp2_with fail
      refine (HN.out _).mono ?_; rintro e w1 ⟨rfl, rfl⟩
      go_wp2_with fail
      refine (HI.out _).mono ?_; rintro e w2 ⟨rfl, rfl⟩
      go_wp2_with fail
      go_ret
      exact ⟨ret_bool (by simp), blw (Below.refl _ _) _⟩
  rw [if_neg h3]
  have q3 : (k == 3) = false := by simpa using h3
  by_cases h5 : k = 5
  · rw [if_pos h5]
    have q5 : (k == 5) = true := by simpa using h5
    clear h5
    cases bn
    · go_enter Tryz.func68, Tryz.ntmps68
      go_wp2_with fail
      refine (HN.out _).mono ?_; rintro e w1 ⟨rfl, rfl⟩
      go_wp2_with fail
      go_ret
      exact ⟨rfl, blw (Below.refl _ _) _⟩
    · go_enter Tryz.func68, Tryz.ntmps68
      go_wp2_with fail
      refine (HN.out _).mono ?_; rintro e w1 ⟨rfl, rfl⟩
      go_wp2_with fail
      go_ret
      exact ⟨ret_bool (by rw [Bool.eq_iff_iff]; simp), blw (Below.refl _ _) _⟩
  rw [if_neg h5]
  have q5 : (k == 5) = false := by simpa using h5
  go_enter Tryz.func68, Tryz.ntmps68
  go_wp2_with fail
  go_ret
  exact ⟨rfl, blw (Below.refl _ _) _⟩

theorem zeroB (w : World) : (zeroValue 4).run Tryz.prog w = .ok (.bool false) w := by kernel_rfl
theorem zeroS (w : World) : (zeroValue 9).run Tryz.prog w = .ok (.string .empty) w := by kernel_rfl
theorem zeroI (w : World) : (zeroValue 3).run Tryz.prog w = .ok (.int .i64 0) w := by kernel_rfl
/-- Nothing that lay has turned but two maps. -/
def But (T U : Nat) (w w' : World) : Prop := ∀ i, i < w.heap.size → i ≠ T → i ≠ U → w'.heap[i]? = w.heap[i]?
theorem But.of {T U : Nat} {w w' : World} (h : Below w.heap.size w w') : But T U w w' := fun i hi _ _ => h.block i hi
theorem But.grown1 {T U : Nat} {w w' : World} (h : w.grownBy w' (some T)) : But T U w w' := fun i hi h1 _ => h.block i hi (fun e => h1 (Option.some.inj e))
theorem But.grown2 {T U : Nat} {w w' : World} (h : w.grownBy w' (some U)) : But T U w w' := fun i hi _ h2 => h.block i hi (fun e => h2 (Option.some.inj e))
theorem But.trans {T U : Nat} {w w1 w2 : World} (h : But T U w w1) (hs : w.heap.size ≤ w1.heap.size) (k : But T U w1 w2) : But T U w w2 := fun i hi h1 h2 => (k i (by omega) h1 h2).trans (h i hi h1 h2)
theorem grown_below {b base : Nat} {w w' : World} (h : w.grownBy w' (some b)) (hb : base ≤ b) (hs : base ≤ w.heap.size) : Below base w w' :=
  (Below.refl base w).grown h hs (fun k hk => by injection hk with hk; omega)

/-- A variable of two maps, where it lies. -/
structure Var2M (W : World) (b T U : Nat) : Prop where
  c0 : W.cell? ⟨b, 0, none⟩ = some (.map (some T))
  c1 : W.cell? ⟨b, 1, none⟩ = some (.map (some U))
  lt : b < W.heap.size
theorem cell_block {W W' : World} {b : Nat} (h : W'.heap[b]? = W.heap[b]?) (j : Nat) : W'.cell? ⟨b, j, none⟩ = W.cell? ⟨b, j, none⟩ := by simp only [World.cell?, h]
theorem Var2M.same {W W' : World} {b T U : Nat} (h : Var2M W b T U) (hb : W'.heap[b]? = W.heap[b]?) (hs : W.heap.size ≤ W'.heap.size) : Var2M W' b T U :=
  ⟨by rw [cell_block hb]; exact h.c0, by rw [cell_block hb]; exact h.c1, Nat.lt_of_lt_of_le h.lt hs⟩
theorem Var3.same {W W' : World} {b : Nat} {k id : Int} {t : ByteArray} (h : Var3 W b k t id) (hb : W'.heap[b]? = W.heap[b]?) (hs : W.heap.size ≤ W'.heap.size) : Var3 W' b k t id :=
  ⟨by rw [cell_block hb]; exact h.c0, by rw [cell_block hb]; exact h.c1, by rw [cell_block hb]; exact h.c2, Nat.lt_of_lt_of_le h.lt hs⟩
theorem Var2M.other {W W' : World} {b c T U : Nat} (h : Var2M W b T U) (hg : W.grownBy W' (some c)) (hne : b ≠ c) : Var2M W' b T U := h.same (hg.block b h.lt (fun e => hne (Option.some.inj e))) hg.size
theorem Var3.other {W W' : World} {b c : Nat} {k id : Int} {t : ByteArray} (h : Var3 W b k t id) (hg : W.grownBy W' (some c)) (hne : b ≠ c) : Var3 W' b k t id := h.same (hg.block b h.lt (fun e => hne (Option.some.inj e))) hg.size
theorem Var2M.call {W W' : World} {b T U : Nat} (h : Var2M W b T U) (hb : Below W.heap.size W W') : Var2M W' b T U := h.same (hb.block b h.lt) hb.size
theorem Var2M.alloc {W : World} {b T U : Nat} (h : Var2M W b T U) (o : Obj) : Var2M (W.alloc o) b T U := h.call ((Below.refl _ _).alloc (Nat.le_refl _) o)
theorem Var2M.drew {W : World} {b T U : Nat} (h : Var2M W b T U) : Var2M W.drew b T U := ⟨h.c0, h.c1, h.lt⟩
theorem Var2M.new (W : World) (T U : Nat) : Var2M (W.alloc (.cells #[.map (some T), .map (some U)] 111)) W.heap.size T U := ⟨by simp, by simp, by simp⟩

set_option maxHeartbeats 1600000 in
theorem admits_any (T U n m base : Nat) (P : List It) (x : It) (w : World) (hbT : base ≤ T) (hbU : base ≤ U) (hTU : T ≠ U) (hx : x.ok) (hT : isT x.k = true) (hn : n < 1000000) (hm : m < 1000000)
    (MT : MapAt 3 vInt Value.bool w T n (fun id => if taken P id = true then some true else none)) (MU : MapAt 3 vInt Value.string w U m (unc P)) :
    Calls Tryz.prog 70 #[.agg #[.map (some T), .map (some U)], .agg #[.int .i64 x.k, .string x.t, .int .i64 x.id]] w fun e w' => e = .returned (.bool (adm P x)) ∧ Below base w w' ∧ But T U w w' ∧
      (adm P x = true → MapAt 3 vInt Value.bool w' T (n + 1) (fun id => if taken (P ++ [x]) id = true then some true else none) ∧ MapAt 3 vInt Value.string w' U (m + 1) (unc (P ++ [x]))) := by
  have hkey := key_int hx.id
  have hts : x.t.size ≤ maxLen := by have := hx.t; unfold maxLen; omega
  have hno := fun w => nameof_any x.t w hts
  have fTn : ∀ id, (if taken (P ++ [x]) id = true then some true else none) = (if id = x.id then some true else (if taken P id = true then some true else none)) := fun id => by
    rw [taken_snoc, hT]
    by_cases he : id = x.id
    · rw [if_pos he, he]; simp
    · rw [if_neg he]
      have : decide (x.id = id) = false := by simp; exact fun e => he e.symm
      rw [this]; simp
  have fUn := unc_snoc P x
  have szT := MT.lt; have szU := MU.lt
  have MT1 := (MT.alloc (.cells #[.map (some T), .map (some U)] 111)).alloc (.cells #[.int .i64 x.k, .string x.t, .int .i64 x.id] 62)
  have MU1 := (MU.alloc (.cells #[.map (some T), .map (some U)] 111)).alloc (.cells #[.int .i64 x.k, .string x.t, .int .i64 x.id] 62)
  have hW := blw (blw (Below.refl w.heap.size w) (.cells #[.map (some T), .map (some U)] 111)) (.cells #[.int .i64 x.k, .string x.t, .int .i64 x.id] 62)
  have hW' : Below base w ((w.alloc (.cells #[.map (some T), .map (some U)] 111)).alloc (.cells #[.int .i64 x.k, .string x.t, .int .i64 x.id] 62)) := hW.mono (by omega)
  have V : Var3 ((w.alloc (.cells #[.map (some T), .map (some U)] 111)).alloc (.cells #[.int .i64 x.k, .string x.t, .int .i64 x.id] 62)) (w.heap.size + 1) x.k x.t x.id := by have := Var3.new (w.alloc (.cells #[.map (some T), .map (some U)] 111)) x.k x.t x.id; simpa using this
  have VM : Var2M ((w.alloc (.cells #[.map (some T), .map (some U)] 111)).alloc (.cells #[.int .i64 x.k, .string x.t, .int .i64 x.id] 62)) w.heap.size T U := (Var2M.new w T U).alloc _
  have tok : True := trivial
  have hfin : ∀ w2 fT fU, MapAt 3 vInt Value.bool w2 T (n + 1) fT → MapAt 3 vInt Value.string w2 U (m + 1) fU → (∀ id, fT id = if id = x.id then some true else if taken P id = true then some true else none) → (∀ id, fU id = unc (P ++ [x]) id) →
      MapAt 3 vInt Value.bool w2 T (n + 1) (fun id => if taken (P ++ [x]) id = true then some true else none) ∧ MapAt 3 vInt Value.string w2 U (m + 1) (unc (P ++ [x])) := fun w2 fT fU a1 a2 a3 a4 =>
    ⟨a1.ext (fun id => (a3 id).trans (fTn id).symm), a2.ext a4⟩
  have hAl : adm P x = if taken P x.id = true then (match unc P x.id with | some n => decide (x.k = 3) && decide (x.t = n) | none => false) else true := rfl
  have HF := Lib.hid hfin; have HN := Lib.hid hno; have FU := Lib.hid fUn
  clear hfin hno fTn fUn
  cases hk : taken P x.id
  · have e1 : pickE Value.bool (.bool false) (if taken P x.id = true then some true else none) = .bool false := by rw [hk]; rfl
    rw [hk, if_neg (by simp)] at hAl
    have hun := unc_none P x.id hk
    have HA := Lib.hid hAl; have HU := Lib.hid hun; have HK := Lib.hid hk
    clear hAl hk hun
    by_cases h2 : x.k = 2
    · have q2 : (x.k == 2) = true := by simpa using h2
      have hend : ∀ id, (if id = x.id then some (nameB x.t) else unc P id) = unc (P ++ [x]) id := fun id => by
        rw [FU.out]
        by_cases hc : id = x.id
        · rw [if_pos hc, if_pos ⟨hT, hc.symm⟩, hc, HK.out, if_neg (by simp), if_pos h2]
        · rw [if_neg hc, if_neg (fun h => hc h.2.symm)]
      have HE := Lib.hid hend; clear hend h2 hT
      generalize nameB x.t = nm at *
      go_enter Tryz.func70, Tryz.ntmps70
      go_wp2_with (first | (at_lookup; refine wpl_look rfl _ _ 108 rfl k3 Tryz.underlying108 _ (zeroB _) T rfl MT1 x.id rfl hkey ?_; rw [e1]) | (at_mapUpdate; have _t := tok; refine wpl_put rfl _ _ _ 108 rfl k3 vInt_inj Tryz.underlying108 T rfl MT1 (by unfold maxLen; omega) x.id true rfl rfl hkey ?_; intro w2 MT2 hg2; clear tok; obtain ⟨z0, z1, z2, zl⟩ := V.other hg2 (by omega); obtain ⟨y0, y1, yl⟩ := VM.other hg2 (by omega)))
      have hW2 : Below base w w2 := hW'.trans (grown_below hg2 hbT (by simp; omega))
      have hB2 : But T U w w2 := (But.of hW).trans hW.size (But.grown1 hg2)
      have MU2 := (MU1.other hg2 hTU.symm).drew
      have V2 := (V.other hg2 (by omega)).drew
      have VM2 := (VM.other hg2 (by omega)).drew
      have s2 : w.heap.size ≤ w2.heap.size := Nat.le_trans hW.size hg2.size
      clear hg2 MT MU MT1 MU1
      go_region_held3 (fun w' => w'.cell? ⟨w.heap.size, 1, none⟩ = some (.map (some U)) ∧ w'.cell? ⟨w.heap.size + 1, 1, none⟩ = some (.string x.t) ∧ w'.cell? ⟨w.heap.size + 1, 2, none⟩ = some (.int .i64 x.id))
        (first | exact ⟨y1, z1, z2⟩ | exact ⟨(VM2.call hb3).c1, (V2.call hb3).c1, (V2.call hb3).c2⟩ | exact ⟨((VM2.call hb3).other hg4 (by omega)).c1, ((V2.call hb3).other hg4 (by omega)).c1, ((V2.call hb3).other hg4 (by omega)).c2⟩)
        ((first | (go_at_call 106; refine (HN.out _).mono ?_; rintro e w3 ⟨rfl, hb3⟩; obtain ⟨w4, hrun, MU4, hg4⟩ := (MU2.call hb3).put (T := 109) k3 vInt_inj Tryz.underlying109 (by unfold maxLen; omega) hkey nm; have hrun' : (Instr.mapUpdate 109 (.map (some U)) (.int .i64 x.id) (.string nm)).run Tryz.prog w3 = .ok () w4 := hrun; clear hrun)))
      have z3 : w2.heap.size ≤ w3.heap.size := hb3.size
      have hB3 : But T U w w3 := hB2.trans s2 (fun i hi _ _ => hb3.block i hi)
      have hB4 := hB3.trans (Nat.le_trans s2 z3) (But.grown2 hg4)
      have hW4 : Below base w w4 := (hW2.drew.trans (hb3.mono (by simp; omega))).trans (grown_below hg4 hbU (by omega))
      have MT4 := (MT2.drew.call hb3).other hg4 hTU
      go_wp2_with fail
      go_ret
      refine ⟨ret_bool HA.out.symm, hW4, hB4, fun _ => HF.out _ _ _ MT4 MU4 (fun id => rfl) HE.out⟩
    · have q2 : (x.k == 2) = false := by simpa using h2
      have hend : ∀ id, unc P id = unc (P ++ [x]) id := fun id => by
        rw [FU.out]
        by_cases hc : isT x.k = true ∧ x.id = id
        · rw [if_pos hc, ← hc.2, HK.out, if_neg (by simp), if_neg h2]
        · rw [if_neg hc]
      have HE := Lib.hid hend; clear hend h2 hT
      go_enter Tryz.func70, Tryz.ntmps70
      go_wp2_with (first | (at_lookup; refine wpl_look rfl _ _ 108 rfl k3 Tryz.underlying108 _ (zeroB _) T rfl MT1 x.id rfl hkey ?_; rw [e1]) | (at_mapUpdate; have _t := tok; refine wpl_put rfl _ _ _ 108 rfl k3 vInt_inj Tryz.underlying108 T rfl MT1 (by unfold maxLen; omega) x.id true rfl rfl hkey ?_; intro w2 MT2 hg2; clear tok; obtain ⟨z0, z1, z2, zl⟩ := V.other hg2 (by omega); obtain ⟨y0, y1, yl⟩ := VM.other hg2 (by omega)))
      have hW2 : Below base w w2 := hW'.trans (grown_below hg2 hbT (by simp; omega))
      have hB2 : But T U w w2 := (But.of hW).trans hW.size (But.grown1 hg2)
      have MU2 := (MU1.other hg2 hTU.symm).mono (Nat.le_succ m)
      go_ret
      refine ⟨ret_bool HA.out.symm, hW2, hB2, fun _ => HF.out _ _ _ MT2 MU2 (fun id => rfl) HE.out⟩
  · have e1 : pickE Value.bool (.bool false) (if taken P x.id = true then some true else none) = .bool true := by rw [hk]; rfl
    rw [hk, if_pos rfl] at hAl
    have HK := Lib.hid hk; clear hk
    cases hu : unc P x.id with
    | none =>
      have e2 : pickE Value.string (.string .empty) (unc P x.id) = .string .empty := by rw [hu]; rfl
      have e3 : (unc P x.id).isSome = false := by rw [hu]; rfl
      rw [hu] at hAl
      have HA := Lib.hid hAl
      clear hAl hu
      · go_enter Tryz.func70, Tryz.ntmps70
        go_wp2_with (first | (at_lookup; refine wpl_look rfl _ _ 108 rfl k3 Tryz.underlying108 _ (zeroB _) T rfl MT1 x.id rfl hkey ?_; rw [e1]) | (at_lookup; refine wpl_lookOk rfl _ _ 109 rfl k3 Tryz.underlying109 _ (zeroS _) U rfl MU1 x.id rfl hkey ?_; rw [e2, e3]) | (at_delete; refine wpl_del rfl _ _ 109 rfl k3 vInt_inj Tryz.underlying109 U rfl MU1 x.id rfl hkey ?_; intro w2 MU2 hg2; obtain ⟨z0, z1, z2, zl⟩ := V.other hg2 (by omega)))
        have hW2 : Below base w w2 := hW'.trans (grown_below hg2 hbU (by simp; omega))
        have hB2 : But T U w w2 := (But.of hW).trans hW.size (But.grown2 hg2)
        go_wp2_with fail
        go_ret
        refine ⟨ret_bool HA.out.symm, hW2, hB2, fun h => (by rw [HA.out] at h; cases h)⟩
    | some nm =>
      have e2 : pickE Value.string (.string .empty) (unc P x.id) = .string nm := by rw [hu]; rfl
      have e3 : (unc P x.id).isSome = true := by rw [hu]; rfl
      have hAl : adm P x = (decide (x.k = 3) && decide (x.t = nm)) := by rw [hAl, hu]
      by_cases h3 : x.k = 3
      · have q3 : (x.k == 3) = true := by simpa using h3
        by_cases h4 : x.t = nm
        · have q4 : (x.t.toList == nm.toList) = true := strl_eq h4
          have HA := Lib.hid (show adm P x = true by rw [hAl]; simp [h3, h4])
          have hend : ∀ id, (if id = x.id then none else unc P id) = unc (P ++ [x]) id := fun id => by
            rw [FU.out]
            by_cases hc : id = x.id
            · rw [if_pos hc, if_pos ⟨hT, hc.symm⟩, hc, HK.out, if_pos rfl]
            · rw [if_neg hc, if_neg (fun h => hc h.2.symm)]
          have htk : ∀ id, (if taken P id = true then some true else none) = (if id = x.id then some true else (if taken P id = true then some true else none)) := fun id => by
            by_cases hc : id = x.id
            · rw [if_pos hc, hc, HK.out, if_pos rfl]
            · rw [if_neg hc]
          have HE := Lib.hid hend; have HT := Lib.hid htk
          clear hAl hu hend htk h3 h4
          go_enter Tryz.func70, Tryz.ntmps70
          go_wp2_with (first | (at_lookup; refine wpl_look rfl _ _ 108 rfl k3 Tryz.underlying108 _ (zeroB _) T rfl MT1 x.id rfl hkey ?_; rw [e1]) | (at_lookup; refine wpl_lookOk rfl _ _ 109 rfl k3 Tryz.underlying109 _ (zeroS _) U rfl MU1 x.id rfl hkey ?_; rw [e2, e3]) | (at_delete; refine wpl_del rfl _ _ 109 rfl k3 vInt_inj Tryz.underlying109 U rfl MU1 x.id rfl hkey ?_; intro w2 MU2 hg2; obtain ⟨z0, z1, z2, zl⟩ := V.other hg2 (by omega)))
          have hW2 : Below base w w2 := hW'.trans (grown_below hg2 hbU (by simp; omega))
          have hB2 : But T U w w2 := (But.of hW).trans hW.size (But.grown2 hg2)
          go_wp2_with fail
          go_ret
          refine ⟨ret_bool HA.out.symm, hW2, hB2, fun h => HF.out _ _ _ ((MT1.other hg2 hTU).mono (Nat.le_succ n)) (MU2.mono (Nat.le_succ m)) HT.out HE.out⟩
        · have q4 : (x.t.toList == nm.toList) = false := strl_ne h4
          have HA := Lib.hid (show adm P x = false by rw [hAl]; simp [h4])
          clear hAl hu h3 h4
          go_enter Tryz.func70, Tryz.ntmps70
          go_wp2_with (first | (at_lookup; refine wpl_look rfl _ _ 108 rfl k3 Tryz.underlying108 _ (zeroB _) T rfl MT1 x.id rfl hkey ?_; rw [e1]) | (at_lookup; refine wpl_lookOk rfl _ _ 109 rfl k3 Tryz.underlying109 _ (zeroS _) U rfl MU1 x.id rfl hkey ?_; rw [e2, e3]) | (at_delete; refine wpl_del rfl _ _ 109 rfl k3 vInt_inj Tryz.underlying109 U rfl MU1 x.id rfl hkey ?_; intro w2 MU2 hg2; obtain ⟨z0, z1, z2, zl⟩ := V.other hg2 (by omega)))
          have hW2 : Below base w w2 := hW'.trans (grown_below hg2 hbU (by simp; omega))
          have hB2 : But T U w w2 := (But.of hW).trans hW.size (But.grown2 hg2)
          go_wp2_with fail
          go_ret
          refine ⟨ret_bool HA.out.symm, hW2, hB2, fun h => (by rw [HA.out] at h; cases h)⟩
      · have q3 : (x.k == 3) = false := by simpa using h3
        have HA := Lib.hid (show adm P x = false by rw [hAl]; simp [h3])
        clear hAl hu h3
        go_enter Tryz.func70, Tryz.ntmps70
        go_wp2_with (first | (at_lookup; refine wpl_look rfl _ _ 108 rfl k3 Tryz.underlying108 _ (zeroB _) T rfl MT1 x.id rfl hkey ?_; rw [e1]) | (at_lookup; refine wpl_lookOk rfl _ _ 109 rfl k3 Tryz.underlying109 _ (zeroS _) U rfl MU1 x.id rfl hkey ?_; rw [e2, e3]) | (at_delete; refine wpl_del rfl _ _ 109 rfl k3 vInt_inj Tryz.underlying109 U rfl MU1 x.id rfl hkey ?_; intro w2 MU2 hg2; obtain ⟨z0, z1, z2, zl⟩ := V.other hg2 (by omega)))
        have hW2 : Below base w w2 := hW'.trans (grown_below hg2 hbU (by simp; omega))
        have hB2 : But T U w w2 := (But.of hW).trans hW.size (But.grown2 hg2)
        go_wp2_with fail
        go_ret
        refine ⟨ret_bool HA.out.symm, hW2, hB2, fun h => (by rw [HA.out] at h; cases h)⟩
end Go.Proofs.YtphkpokoeaagfaaGreatDoor
