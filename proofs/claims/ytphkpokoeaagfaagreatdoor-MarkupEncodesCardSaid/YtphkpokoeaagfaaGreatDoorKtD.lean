/- The contract of readContent. Contracts of Decode and Cuts. -/
import Derived.Test.YtphkpokoeaagfaaGreatDoorKtH
import Derived.Test.YtphkpokoeaagfaaGreatDoorNrw
namespace Go.Proofs.YtphkpokoeaagfaaGreatDoor
open Go.ChangeShapes Go.WideShapes Go.ChangeAt Go.RowKit
set_option linter.unusedVariables false
set_option linter.unusedSimpArgs false
set_option maxRecDepth 100000

theorem Cnt.set5 {base V n t : Nat} {E op : List It} {S : List Nat} {vE vS vO : Value} {w : World} (h : Cnt base V E S n t op vE vS vO w) {E' op' : List It} {S' : List Nat} {vE' vS' vO' : Value} (n' t' : Nat) (h1 : OwnL 62 3 ienc base E' vE' w) (h2 : OwnL 3 1 nenc base (nI S') vS' w) (h3 : OwnL 62 3 ienc base op' vO' w) (h4 : ∀ i, vE'.ownBlock = some i → vO'.ownBlock ≠ some i) :
    Cnt base V E' S' n' t' op' vE' vS' vO' (((((w.setCell ⟨V, 0, none⟩ vE').setCell ⟨V, 1, none⟩ vS').setCell ⟨V, 2, none⟩ (.int .i64 (n' : Int))).setCell ⟨V, 3, none⟩ (.int .i64 (t' : Int))).setCell ⟨V, 4, none⟩ vO') ∧ Only (fun i => i = V) w (((((w.setCell ⟨V, 0, none⟩ vE').setCell ⟨V, 1, none⟩ vS').setCell ⟨V, 2, none⟩ (.int .i64 (n' : Int))).setCell ⟨V, 3, none⟩ (.int .i64 (t' : Int))).setCell ⟨V, 4, none⟩ vO') := by
  have hV := h.var
  have hold : ∀ i, i ≠ V → (((((w.setCell ⟨V, 0, none⟩ vE').setCell ⟨V, 1, none⟩ vS').setCell ⟨V, 2, none⟩ (.int .i64 (n' : Int))).setCell ⟨V, 3, none⟩ (.int .i64 (t' : Int))).setCell ⟨V, 4, none⟩ vO').heap[i]? = w.heap[i]? := fun i h1 => by
    rw [Below.heap_setCell _ _ _ _ h1, Below.heap_setCell _ _ _ _ h1, Below.heap_setCell _ _ _ _ h1, Below.heap_setCell _ _ _ _ h1, Below.heap_setCell _ _ _ _ h1]
  refine ⟨⟨?_, ?_, ?_, ?_, h.bV, h4⟩, ?_⟩
  · have a1 := setCell_heap w V 0 _ _ vE' hV
    have a2 := setCell_heap _ V 1 _ _ vS' a1
    have a3 := setCell_heap _ V 2 _ _ (.int .i64 (n' : Int)) a2
    have a4 := setCell_heap _ V 3 _ _ (.int .i64 (t' : Int)) a3
    have a5 := setCell_heap _ V 4 _ _ vO' a4
    exact a5
  · exact ownsRow_same h1 (fun i hi => hold i (fun e => by
      subst e
      obtain ⟨cur, hc⟩ := h1.obj hi
      exact apart hc hV (fun e => by simp at e) rfl))
  · exact ownsRow_same h2 (fun i hi => hold i (fun e => by
      subst e
      obtain ⟨cur, hc⟩ := h2.obj hi
      exact apart hc hV (fun e => by simp at e) rfl))
  · exact ownsRow_same h3 (fun i hi => hold i (fun e => by
      subst e
      obtain ⟨cur, hc⟩ := h3.obj hi
      exact apart hc hV (fun e => by simp at e) rfl))
  · have o0 := (Only.refl (fun i => i = V) w).setCell ⟨V, 0, none⟩ vE' rfl
    have o1 := o0.setCell ⟨V, 1, none⟩ vS' rfl
    have o2 := o1.setCell ⟨V, 2, none⟩ (.int .i64 (n' : Int)) rfl
    have o3 := o2.setCell ⟨V, 3, none⟩ (.int .i64 (t' : Int)) rfl
    exact o3.setCell ⟨V, 4, none⟩ vO' rfl
/-- What readContent answers. -/
def EndV (R : List It × List Nat × Nat × Int) (w : World) (e : Ending) (w' : World) : Prop :=
  ∃ (E op : List It) (S : List Nat) (vE vS vO : Value) (n t : Nat), e = .returned (.tuple #[.agg #[vE, vS, .int .i64 n, .int .i64 t, vO], .int .i64 R.2.2.1, .int .i64 R.2.2.2]) ∧ norm E = R.1 ∧ (∀ x ∈ E, SmE x) ∧ E.length ≤ 1024 ∧ S.length ≤ 1024 ∧ (R.2.2.2 = 0 → ∃ l, R.2.1 = S ++ [l]) ∧ OwnL 62 3 ienc w.heap.size E vE w' ∧ OwnL 3 1 nenc w.heap.size (nI S) vS w' ∧ OwnL 62 3 ienc w.heap.size op vO w' ∧ Below w.heap.size w w'
/-- What holds at each round's head. -/
structure CvR (s : ByteArray) (R : List It × List Nat × Nat × Int) (w : World) (p : Nat) (E : List It) (S : List Nat) (n t : Nat) (op : List It) (vE vS vO : Value) (wr : World) : Prop where
  val : Cnt w.heap.size w.heap.size E S n t op vE vS vO wr
  scn : Scn wr (w.heap.size + 1) s p
  sep : ¬ cS w.heap.size vE vS vO (w.heap.size + 1)
  dec : decN E S op t p (s.data.toList.drop p) = R
  sm : ∀ x ∈ E, SmE x
  len : n = (norm E).length
  five : n ≤ 512
  cnt : S.length = E.length
  four : E.length ≤ 1024
  tle : t ≤ E.length
  ople : op.length ≤ E.length
  opsm : ∀ z ∈ op, z.t.size ≤ 1024
  le : p ≤ s.size
  bel : Below w.heap.size w wr
theorem only_sc {w a b : World} {q : Nat} (h : OnB q a b) (hb : Below w.heap.size w a) (hq : w.heap.size ≤ q) : Below w.heap.size w b := hb.trans (h.below w.heap.size hb.size (fun i hi => by have hi : i = q := hi; omega))
theorem numM_bd {op : List It} {n : Nat} {x y : It} {op' : List It} {n' : Nat} (h : numM op n x = some (y, op', n')) (hx : x.t.size ≤ 1024) (ho : ∀ z ∈ op, z.t.size ≤ 1024) : n' ≤ n + 1 ∧ op'.length ≤ op.length + 1 ∧ ∀ z ∈ op', z.t.size ≤ 1024 := by
  unfold numM at h
  split at h
  · injection h with h; injection h with h1 h; injection h with h2 h3
    subst h2; subst h3
    refine ⟨Nat.le_refl _, by simp, fun z hz => ?_⟩
    rcases List.mem_append.1 hz with hz | hz
    · exact ho z hz
    · rw [List.mem_singleton.1 hz]; exact hx
  · split at h
    · injection h with h; injection h with h1 h; injection h with h2 h3
      subst h2; subst h3
      exact ⟨Nat.le_refl _, by omega, ho⟩
    · split at h
      · split at h
        · split at h
          · injection h with h; injection h with h1 h; injection h with h2 h3
            subst h2; subst h3
            exact ⟨by omega, by simp; omega, fun z hz => ho z (List.dropLast_subset _ hz)⟩
          · cases h
        · cases h
      · injection h with h; injection h with h1 h; injection h with h2 h3
        subst h2; subst h3
        exact ⟨by omega, by omega, ho⟩
set_option maxHeartbeats 3200000 in
theorem readcon_any (s : ByteArray) (w : World) (hMx : Mx w) (hs : s.size ≤ 1000000000) : Calls Tryz.prog 28 #[.string s] w (EndV (dcM s.data.toList) w) := by
  have hlen : s.data.toList.length = s.size := by simp
  obtain ⟨R, hR⟩ : ∃ R, dcM s.data.toList = R := ⟨_, rfl⟩
  have hR0 : decN [] [] [] 0 0 (s.data.toList.drop 0) = R := hR
  rw [hR]
  have hmo := fun p W (h : Scn W (w.heap.size + 1) s p) (hp : p ≤ s.size) => more_any (w.heap.size + 1) p s W h (by omega) (by omega)
  have hre := fun p W (h : Scn W (w.heap.size + 1) s p) (hM : Mx W) (hp : p < s.size) => readelem_any (w.heap.size + 1) p s W h hM (by have := hMx.lt; omega) hs hp
  have HMO := Lib.hid hmo; have HRE := Lib.hid hre; have HR0 := Lib.hid hR0; have HMX := Lib.hid hMx
  clear hmo hre hR hR0 hMx
  go_enter Tryz.func28, Tryz.ntmps28
  go_upto_region 2 with fail
  have hV := heap_alloc_new w (.cells #[.slice none 0 0, .slice none 0 0, .int .i64 0, .int .i64 0, .slice none 0 0] 69)
  have hB1 := blw (blw (Below.refl w.heap.size w) (.cells #[.slice none 0 0, .slice none 0 0, .int .i64 0, .int .i64 0, .slice none 0 0] 69)) (.cells #[.string s, .int .i64 0] 88)
  change Code.wp _ _ _ _ ((w.alloc (.cells #[.slice none 0 0, .slice none 0 0, .int .i64 0, .int .i64 0, .slice none 0 0] 69)).alloc (.cells #[.string s, .int .i64 0] 88))
  have hz2 : (w.alloc (.cells #[.slice none 0 0, .slice none 0 0, .int .i64 0, .int .i64 0, .slice none 0 0] 69)).heap.size = w.heap.size + 1 := by simp
  generalize (w.alloc (.cells #[.slice none 0 0, .slice none 0 0, .int .i64 0, .int .i64 0, .slice none 0 0] 69)) = W2 at *
  have hS3 := Scn.new W2 s 0
  have hVal2 : Cnt w.heap.size w.heap.size [] [] 0 0 [] (.slice none 0 0) (.slice none 0 0) (.slice none 0 0) W2 := ⟨hV, OwnL.nil _ _, OwnL.nil _ _, OwnL.nil _ _, Nat.le_refl _, fun i hi => by cases hi⟩
  have hVal3 := hVal2.alloc (.cells #[.string s, .int .i64 0] 88)
  rw [hz2] at hS3
  clear hV hVal2
  generalize W2.alloc (.cells #[.string s, .int .i64 0] 88) = W3 at *
  clear hz2
  have hrel : CvR s R w 0 [] [] 0 0 [] (.slice none 0 0) (.slice none 0 0) (.slice none 0 0) W3 :=
    ⟨hVal3, hS3, (fun hv => by rcases hv with h | h | h | h; omega; cases h; cases h; cases h), HR0.out, (fun x hx => by cases hx), rfl, by omega, rfl, by simp, by simp, by simp, (fun x hx => by cases hx), by omega, hB1⟩
  have HREL := Lib.hid hrel
  clear hrel hS3 hVal3 hB1 HR0
  go_loopw [] (fun wr => ∃ p E S n t op vE vS vO, CvR s R w p E S n t op vE vS vO wr) (fun wr => s.size - (intOf ((wr.cell? ⟨w.heap.size + 1, 1, none⟩).getD (.int .i64 0))).toNat)
  case atStart => exact ⟨0, [], [], 0, 0, [], _, _, _, HREL.out⟩
  case round =>
    obtain ⟨p, E, S, n, t, op, vE, vS, vO, hr⟩ := hrel
    have HR := Lib.hid hr
    have hm0 := hr.scn.cells.2.1
    have hle := hr.le
    obtain ⟨pE, mE, cE, rfl⟩ : ∃ p m c, vE = .slice p m c := by obtain ⟨a, c, h, _⟩ := hr.val.own.its; exact ⟨_, _, _, h⟩
    obtain ⟨pS, mS, cS', rfl⟩ : ∃ p m c, vS = .slice p m c := by obtain ⟨a, c, h, _⟩ := hr.val.cut.ints; exact ⟨_, _, _, h⟩
    obtain ⟨pO, cO, rfl, _, _, _⟩ := hr.val.opn.its
    clear hr HREL
    by_cases hlt : p < s.size
    case neg =>
      obtain rfl : p = s.size := by omega
      have hd : s.data.toList.drop s.size = [] := List.drop_of_length_le (by omega)
      have hdec := HR.out.dec
      rw [hd, decN_nil] at hdec
      have HM := Lib.hid (HMO.out s.size wr HR.out.scn (Nat.le_refl _))
      have q : decide (s.size < s.size) = false := decide_eq_false (by omega)
      rw [q] at HM
      clear hd q
      go_wp2_with fail
      refine HM.out.mono ?_; rintro e w2 ⟨rfl, hb⟩
      have HV := Lib.hid (HR.out.val.call hb)
      have HB := Lib.hid (BelowOn HR.out.bel hb)
      obtain ⟨c0, c1, c2, c3, c4, f0, f1, f2, f3, f4⟩ := HV.out.cells
      clear hm0 hb
      by_cases ho : op = []
      · rw [if_pos ho] at hdec
        subst ho
        have HD := Lib.hid hdec
        clear hdec
        go_wp2_with fail
        (try simp only [Exit.inBlock, Exit.then])
        have hz := HV.out.set5 (E' := E) (S' := S) (op' := []) n t HV.out.own HV.out.cut HV.out.opn HV.out.eo
        have HZ := Lib.hid hz
        clear hz
        change bodyPost _ _ _ _ _ (((((w2.setCell ⟨w.heap.size, 0, none⟩ (.slice pE mE cE)).setCell ⟨w.heap.size, 1, none⟩ (.slice pS mS cS')).setCell ⟨w.heap.size, 2, none⟩ (.int .i64 ((n : Nat) : Int))).setCell ⟨w.heap.size, 3, none⟩ (.int .i64 ((t : Nat) : Int))).setCell ⟨w.heap.size, 4, none⟩ (.slice pO ([] : List It).length cO))
        generalize (((((w2.setCell ⟨w.heap.size, 0, none⟩ (.slice pE mE cE)).setCell ⟨w.heap.size, 1, none⟩ (.slice pS mS cS')).setCell ⟨w.heap.size, 2, none⟩ (.int .i64 ((n : Nat) : Int))).setCell ⟨w.heap.size, 3, none⟩ (.int .i64 ((t : Nat) : Int))).setCell ⟨w.heap.size, 4, none⟩ (.slice pO ([] : List It).length cO)) = wz at *
        obtain ⟨z0, z1, z2, z3, z4, _⟩ := HZ.out.1.cells
        refine bodyPost_ret (v := .tuple #[.agg #[(.slice pE mE cE), (.slice pS mS cS'), .int .i64 ((n : Nat) : Int), .int .i64 ((t : Nat) : Int), (.slice pO ([] : List It).length cO)], .int .i64 0, .int .i64 0]) (by simp [results, Tryz.results28, go_sem, z0, z1, z2, z3, z4]; try rfl) rfl ⟨E, [], S, _, _, _, n, t, (by rw [← HD.out]; rfl), (by rw [← HD.out]), HR.out.sm, HR.out.four, (by rw [HR.out.cnt]; exact HR.out.four), (by rw [← HD.out]; exact fun _ => ⟨_, rfl⟩), HZ.out.1.own, HZ.out.1.cut, HZ.out.1.opn, HB.out.trans (HZ.out.2.below w.heap.size HB.out.size (fun i hi => by have hi : i = w.heap.size := hi; omega))⟩
      · rw [if_neg ho] at hdec
        have HD := Lib.hid hdec
        have hp0 : 0 < op.length := List.length_pos_iff.2 ho
        have hp1 : (0 : Int) < (op.length : Int) := by omega
        clear hdec ho
        go_wp2_with fail
        (try simp only [Exit.inBlock, Exit.then])
        have hz := HV.out.set5 (E' := []) (S' := []) (op' := []) 0 0 (OwnL.nil _ _) (OwnL.nil _ _) (OwnL.nil _ _) (fun i hi => by cases hi)
        have HZ := Lib.hid hz
        clear hz
        change bodyPost _ _ _ _ _ (((((w2.setCell ⟨w.heap.size, 0, none⟩ (.slice none 0 0)).setCell ⟨w.heap.size, 1, none⟩ (.slice none 0 0)).setCell ⟨w.heap.size, 2, none⟩ (.int .i64 ((0 : Nat) : Int))).setCell ⟨w.heap.size, 3, none⟩ (.int .i64 ((0 : Nat) : Int))).setCell ⟨w.heap.size, 4, none⟩ (.slice none 0 0))
        generalize (((((w2.setCell ⟨w.heap.size, 0, none⟩ (.slice none 0 0)).setCell ⟨w.heap.size, 1, none⟩ (.slice none 0 0)).setCell ⟨w.heap.size, 2, none⟩ (.int .i64 ((0 : Nat) : Int))).setCell ⟨w.heap.size, 3, none⟩ (.int .i64 ((0 : Nat) : Int))).setCell ⟨w.heap.size, 4, none⟩ (.slice none 0 0)) = wz at *
        obtain ⟨z0, z1, z2, z3, z4, _⟩ := HZ.out.1.cells
        refine bodyPost_ret (v := .tuple #[.agg #[(.slice none 0 0), (.slice none 0 0), .int .i64 ((0 : Nat) : Int), .int .i64 ((0 : Nat) : Int), (.slice none 0 0)], .int .i64 ((s.size : Nat) : Int), .int .i64 7]) (by simp [results, Tryz.results28, go_sem, z0, z1, z2, z3, z4]; try rfl) rfl ⟨[], [], [], _, _, _, 0, 0, (by rw [← HD.out]), (by rw [← HD.out]; rfl), (fun x hx => by cases hx), (by simp), (by simp), (by rw [← HD.out]; intro h; exact absurd (show (7 : Int) = 0 from h) (by decide)), HZ.out.1.own, HZ.out.1.cut, HZ.out.1.opn, HB.out.trans (HZ.out.2.below w.heap.size HB.out.size (fun i hi => by have hi : i = w.heap.size := hi; omega))⟩
    have HM := Lib.hid (HMO.out p wr HR.out.scn hle)
    have q : decide (p < s.size) = true := decide_eq_true hlt
    rw [q] at HM
    clear q
    go_wp2_with fail
    refine HM.out.mono ?_; rintro e w2 ⟨rfl, hb⟩
    have HV := Lib.hid (HR.out.val.call hb)
    have HS := Lib.hid (HR.out.scn.call hb)
    have HB := Lib.hid (BelowOn HR.out.bel hb)
    have x1 := HS.out.cells.2.1
    clear hb
    go_wp2_with fail
    refine (HRE.out p _ HS.out (HMX.out.same (HB.out.block _ HMX.out.lt)) hlt).mono ?_; rintro e w3 ⟨x, ok, q, rfl, hx, hS3, hO3⟩
    have hns : ∀ i, (fun i => i = w.heap.size + 1) i → ¬ cS w.heap.size (.slice pE mE cE) (.slice pS mS cS') (.slice pO op.length cO) i := fun i hi => by have hi : i = w.heap.size + 1 := hi; subst hi; exact HR.out.sep
    have HV3 := Lib.hid ((HV.out.only hO3 hns).alloc (.cells #[.int .i64 x.k, .string x.t, .int .i64 x.id] 62))
    have HB3 := Lib.hid (blw (only_sc hO3 HB.out (by omega)) (.cells #[.int .i64 x.k, .string x.t, .int .i64 x.id] 62))
    have HS3 := Lib.hid (hS3.call (blw (Below.refl _ _) (.cells #[.int .i64 x.k, .string x.t, .int .i64 x.id] 62)))
    have hX3 := heap_alloc_new w3 (.cells #[.int .i64 x.k, .string x.t, .int .i64 x.id] 62)
    clear hS3 hO3 x1 hns
    go_upto_region 5 with fail
    change Code.wp _ _ _ _ (w3.alloc (.cells #[.int .i64 x.k, .string x.t, .int .i64 x.id] 62))
    generalize w3.heap.size = BX at *
    generalize w3.alloc (.cells #[.int .i64 x.k, .string x.t, .int .i64 x.id] 62) = w4 at *
    have hne : s.data.toList.drop p ≠ [] := fun e => by have := congrArg List.length e; rw [List.length_drop, hlen] at this; simp at this; omega
    have hdec := HR.out.dec
    obtain ⟨c0, c1, c2, c3, c4, f0, f1, f2, f3, f4⟩ := HV3.out.cells
    cases he : elM (s.data.toList.drop p) with
    | none =>
      rw [he] at hx
      obtain ⟨rfl, rfl, hq⟩ : x = zI ∧ ok = false ∧ q = p := hx
      rw [hq] at HS3
      rw [decN_none _ _ _ _ _ _ hne he] at hdec
      have HD := Lib.hid hdec
      clear hdec hne he hq
      go_wp2_with fail
      (try simp only [Exit.inBlock, Exit.then])
      have hz := HV3.out.set5 (E' := []) (S' := []) (op' := []) 0 0 (OwnL.nil _ _) (OwnL.nil _ _) (OwnL.nil _ _) (fun i hi => by cases hi)
      have HZ := Lib.hid hz
      clear hz
      change bodyPost _ _ _ _ _ (((((w4.setCell ⟨w.heap.size, 0, none⟩ (.slice none 0 0)).setCell ⟨w.heap.size, 1, none⟩ (.slice none 0 0)).setCell ⟨w.heap.size, 2, none⟩ (.int .i64 ((0 : Nat) : Int))).setCell ⟨w.heap.size, 3, none⟩ (.int .i64 ((0 : Nat) : Int))).setCell ⟨w.heap.size, 4, none⟩ (.slice none 0 0))
      generalize (((((w4.setCell ⟨w.heap.size, 0, none⟩ (.slice none 0 0)).setCell ⟨w.heap.size, 1, none⟩ (.slice none 0 0)).setCell ⟨w.heap.size, 2, none⟩ (.int .i64 ((0 : Nat) : Int))).setCell ⟨w.heap.size, 3, none⟩ (.int .i64 ((0 : Nat) : Int))).setCell ⟨w.heap.size, 4, none⟩ (.slice none 0 0)) = wz at *
      obtain ⟨z0, z1, z2, z3, z4, _⟩ := HZ.out.1.cells
      refine bodyPost_ret (v := .tuple #[.agg #[(.slice none 0 0), (.slice none 0 0), .int .i64 ((0 : Nat) : Int), .int .i64 ((0 : Nat) : Int), (.slice none 0 0)], .int .i64 ((p : Nat) : Int), .int .i64 2]) (by simp [results, Tryz.results28, go_sem, z0, z1, z2, z3, z4]; try rfl) rfl ⟨[], [], [], _, _, _, 0, 0, (by rw [← HD.out]), (by rw [← HD.out]; rfl), (fun x hx => by cases hx), (by simp), (by simp), (by rw [← HD.out]; intro h; exact absurd (show (2 : Int) = 0 from h) (by decide)), HZ.out.1.own, HZ.out.1.cut, HZ.out.1.opn, HB3.out.trans (HZ.out.2.below w.heap.size HB3.out.size (fun i hi => by have hi : i = w.heap.size := hi; omega))⟩
    | some y =>
      obtain ⟨y, k⟩ := y
      rw [he] at hx
      obtain ⟨rfl, rfl, hq⟩ : x = y ∧ ok = true ∧ q = p + k := hx
      rw [hq] at HS3
      clear hq
      have hone := elM_one he
      have hkl := elM_take he
      rw [List.length_drop, hlen] at hkl
      have HE := Lib.hid he
      obtain ⟨x2, x3, x4, _, _, _⟩ := cells_item hX3
      clear he
      cases hnm : numM op t x with
      | none =>
        have hadd := add_none w.heap.size w.heap.size n t E S op _ _ _ x p w4 HV3.out HB3.out.size HR.out.sm hone HR.out.len HR.out.four (by rw [HR.out.cnt]; exact HR.out.four) HR.out.five (by have := HR.out.tle; have := HR.out.four; omega) (by have := HR.out.ople; have := HR.out.four; omega) HR.out.opsm hnm
        have HADD := Lib.hid hadd
        rw [decN_tag _ _ _ _ _ _ HE.out hnm] at hdec
        have HD := Lib.hid hdec
        clear hadd hdec hnm
        go_wp2_with fail
        refine (HADD.out).mono ?_
        rintro e w5 ⟨rfl, hv5, hb5⟩
        have HV5 := Lib.hid hv5
        have HO5 := Lib.hid (BelowOn HB3.out hb5)
        clear hv5 hb5 c0 c1 c2 c3 c4 f0 f1 f2 f3 f4
        obtain ⟨c0, c1, c2, c3, c4, f0, f1, f2, f3, f4⟩ := HV5.out.cells
        go_wp2_with fail
        (try simp only [Exit.inBlock, Exit.then])
        have hz := HV5.out.set5 (E' := []) (S' := []) (op' := []) 0 0 (OwnL.nil _ _) (OwnL.nil _ _) (OwnL.nil _ _) (fun i hi => by cases hi)
        have HZ := Lib.hid hz
        clear hz
        change bodyPost _ _ _ _ _ (((((w5.setCell ⟨w.heap.size, 0, none⟩ (.slice none 0 0)).setCell ⟨w.heap.size, 1, none⟩ (.slice none 0 0)).setCell ⟨w.heap.size, 2, none⟩ (.int .i64 ((0 : Nat) : Int))).setCell ⟨w.heap.size, 3, none⟩ (.int .i64 ((0 : Nat) : Int))).setCell ⟨w.heap.size, 4, none⟩ (.slice none 0 0))
        generalize (((((w5.setCell ⟨w.heap.size, 0, none⟩ (.slice none 0 0)).setCell ⟨w.heap.size, 1, none⟩ (.slice none 0 0)).setCell ⟨w.heap.size, 2, none⟩ (.int .i64 ((0 : Nat) : Int))).setCell ⟨w.heap.size, 3, none⟩ (.int .i64 ((0 : Nat) : Int))).setCell ⟨w.heap.size, 4, none⟩ (.slice none 0 0)) = wz at *
        obtain ⟨z0, z1, z2, z3, z4, _⟩ := HZ.out.1.cells
        refine bodyPost_ret (v := .tuple #[.agg #[(.slice none 0 0), (.slice none 0 0), .int .i64 ((0 : Nat) : Int), .int .i64 ((0 : Nat) : Int), (.slice none 0 0)], .int .i64 ((p : Nat) : Int), .int .i64 7]) (by simp [results, Tryz.results28, go_sem, z0, z1, z2, z3, z4]; try rfl) rfl ⟨[], [], [], _, _, _, 0, 0, (by rw [← HD.out]), (by rw [← HD.out]; rfl), (fun x hx => by cases hx), (by simp), (by simp), (by rw [← HD.out]; intro h; exact absurd (show (7 : Int) = 0 from h) (by decide)), HZ.out.1.own, HZ.out.1.cut, HZ.out.1.opn, HO5.out.trans (HZ.out.2.below w.heap.size HO5.out.size (fun i hi => by have hi : i = w.heap.size := hi; omega))⟩
      | some z =>
        obtain ⟨y, op', t'⟩ := z
        have hadd := add_some w.heap.size w.heap.size n t E S op _ _ _ x p w4 HV3.out HB3.out.size HR.out.sm hone HR.out.len HR.out.four (by rw [HR.out.cnt]; exact HR.out.four) HR.out.five (by have := HR.out.tle; have := HR.out.four; omega) (by have := HR.out.ople; have := HR.out.four; omega) HR.out.opsm y op' t' hnm
        have hbd := numM_bd hnm hone.sm.small HR.out.opsm
        have hsy := numM_sm hnm hone.sm
        unfold EndA1 at hadd
        have HNM := Lib.hid hnm
        have HBD := Lib.hid hbd
        have HSY := Lib.hid hsy
        clear hnm hbd hsy
        by_cases hfull : 512 < (norm (E ++ [y])).length ∨ 1024 ≤ S.length
        · rw [decN_full _ _ _ _ _ _ HE.out HNM.out hfull] at hdec
          rw [if_pos (by rw [HR.out.cnt] at hfull; exact hfull)] at hadd
          have HADD := Lib.hid hadd
          have HD := Lib.hid hdec
          clear hadd hdec hfull
          go_wp2_with fail
          refine (HADD.out).mono ?_
          rintro e w5 ⟨rfl, vE', vS', vO', hv5, ho5, hl5⟩
          have HV5 := Lib.hid hv5
          have HO5 := Lib.hid (HB3.out.trans (ho5.below w.heap.size HB3.out.size (fun i hi => (HV3.out.lt i hi).1)))
          clear hv5 ho5 hl5 c0 c1 c2 c3 c4 f0 f1 f2 f3 f4
          obtain ⟨c0, c1, c2, c3, c4, f0, f1, f2, f3, f4⟩ := HV5.out.cells
          go_wp2_with fail
          (try simp only [Exit.inBlock, Exit.then])
          have hz := HV5.out.set5 (E' := []) (S' := []) (op' := []) 0 0 (OwnL.nil _ _) (OwnL.nil _ _) (OwnL.nil _ _) (fun i hi => by cases hi)
          have HZ := Lib.hid hz
          clear hz
          change bodyPost _ _ _ _ _ (((((w5.setCell ⟨w.heap.size, 0, none⟩ (.slice none 0 0)).setCell ⟨w.heap.size, 1, none⟩ (.slice none 0 0)).setCell ⟨w.heap.size, 2, none⟩ (.int .i64 ((0 : Nat) : Int))).setCell ⟨w.heap.size, 3, none⟩ (.int .i64 ((0 : Nat) : Int))).setCell ⟨w.heap.size, 4, none⟩ (.slice none 0 0))
          generalize (((((w5.setCell ⟨w.heap.size, 0, none⟩ (.slice none 0 0)).setCell ⟨w.heap.size, 1, none⟩ (.slice none 0 0)).setCell ⟨w.heap.size, 2, none⟩ (.int .i64 ((0 : Nat) : Int))).setCell ⟨w.heap.size, 3, none⟩ (.int .i64 ((0 : Nat) : Int))).setCell ⟨w.heap.size, 4, none⟩ (.slice none 0 0)) = wz at *
          obtain ⟨z0, z1, z2, z3, z4, _⟩ := HZ.out.1.cells
          refine bodyPost_ret (v := .tuple #[.agg #[(.slice none 0 0), (.slice none 0 0), .int .i64 ((0 : Nat) : Int), .int .i64 ((0 : Nat) : Int), (.slice none 0 0)], .int .i64 ((p : Nat) : Int), .int .i64 3]) (by simp [results, Tryz.results28, go_sem, z0, z1, z2, z3, z4]; try rfl) rfl ⟨[], [], [], _, _, _, 0, 0, (by rw [← HD.out]), (by rw [← HD.out]; rfl), (fun x hx => by cases hx), (by simp), (by simp), (by rw [← HD.out]; intro h; exact absurd (show (3 : Int) = 0 from h) (by decide)), HZ.out.1.own, HZ.out.1.cut, HZ.out.1.opn, HO5.out.trans (HZ.out.2.below w.heap.size HO5.out.size (fun i hi => by have hi : i = w.heap.size := hi; omega))⟩
        · have h1 : (norm (E ++ [y])).length ≤ 512 := by omega
          have h2 : S.length < 1024 := by omega
          rw [decN_more _ _ _ _ _ _ HE.out HNM.out h1 h2, List.drop_drop] at hdec
          rw [if_neg (by rw [HR.out.cnt] at hfull; exact hfull)] at hadd
          have HADD := Lib.hid hadd
          have HD := Lib.hid hdec
          have hcn := HR.out.cnt
          have hone2 : ∀ z ∈ E ++ [y], SmE z := fun z hz => by
            rcases List.mem_append.1 hz with h | h
            · exact HR.out.sm z h
            · rw [List.mem_singleton.1 h]; exact HSY.out
          have hx4 : (E ++ [y]).length ≤ 1024 := by rw [List.length_append]; simp; omega
          have hc4 : (S ++ [p]).length = (E ++ [y]).length := by rw [List.length_append, List.length_append, hcn]; rfl
          have ht4 : t' ≤ (E ++ [y]).length := by rw [List.length_append]; have := HBD.out.1; have := HR.out.tle; simp; omega
          have ho4 : op'.length ≤ (E ++ [y]).length := by rw [List.length_append]; have := HBD.out.2.1; have := HR.out.ople; simp; omega
          have HH := Lib.hid (And.intro h1 (And.intro hone2 (And.intro hx4 (And.intro hc4 (And.intro ht4 ho4)))))
          clear hadd hdec hfull h1 h2 hcn hone2 hx4 hc4 ht4 ho4 hone
          go_wp2_with fail
          refine (HADD.out).mono ?_
          rintro e w5 ⟨rfl, vE', vS', vO', hv5, ho5, hl5⟩
          have HV5 := Lib.hid hv5
          have HO5 := Lib.hid (HB3.out.trans (ho5.below w.heap.size HB3.out.size (fun i hi => (HV3.out.lt i hi).1)))
          have HS5 := Lib.hid (HS3.out.only ho5 HR.out.sep)
          have hsep5 : ¬ cS w.heap.size vE' vS' vO' (w.heap.size + 1) := fun hv => by
            rcases hl5 _ hv with h | h
            · exact HR.out.sep h
            · have := HS3.out.lt; omega
          have hrel : CvR s R w (p + k) (E ++ [y]) (S ++ [p]) _ t' op' vE' vS' vO' w5 :=
            ⟨HV5.out, HS5.out, hsep5, HD.out, HH.out.2.1, rfl, HH.out.1, HH.out.2.2.2.1, HH.out.2.2.1, HH.out.2.2.2.2.1, HH.out.2.2.2.2.2, HBD.out.2.2, (by omega), HO5.out⟩
          have HREL := Lib.hid hrel
          clear hrel hv5 ho5 hl5 hsep5 c0 c1 c2 c3 c4 f0 f1 f2 f3 f4 x2 x3 x4 hX3
          go_wp2_with fail
          go_roundw
          case rel => exact ⟨p + k, _, _, _, _, _, _, _, _, HREL.out⟩
          case measure =>
            rw [hm0, HREL.out.scn.cells.2.1]
            simp [intOf]; omega
end Go.Proofs.YtphkpokoeaagfaaGreatDoor
namespace Go.Proofs.YtphkpokoeaagfaaGreatDoor
open Go.ChangeShapes Go.WideShapes Go.ChangeAt Go.RowKit
set_option linter.unusedVariables false
set_option linter.unusedSimpArgs false
set_option maxRecDepth 100000

/-- What Decode answers, and what Cuts. -/
def EndD (R : List It × List Nat × Nat × Int) (w : World) (e : Ending) (w' : World) : Prop := ∃ p c, e = .returned (.tuple #[.slice p R.1.length c, .int .i64 (R.2.2.1 : Nat), .int .i64 R.2.2.2]) ∧ R.1.length ≤ c ∧ c ≤ maxLen ∧ Its w' p R.1 ∧ Below w.heap.size w w'
def EndC (cs : List Nat) (z : Int) (w : World) (e : Ending) (w' : World) : Prop := ∃ p c, e = .returned (.tuple #[.slice p (nI cs).length c, .int .i64 z]) ∧ (nI cs).length ≤ c ∧ c ≤ maxLen ∧ Ones w' (Value.int .i64) p (nI cs) ∧ Below w.heap.size w w'
theorem sm_tails {xs : List It} (h : ∀ x ∈ xs, SmE x) (hl : xs.length ≤ 1024) : txtI xs ≤ 140737488355328 := by have := sm_txt xs h; omega
set_option maxHeartbeats 1600000 in
theorem decode_any (s : ByteArray) (w : World) (hM : Mx w) (hs : s.size ≤ 1000000000) : Calls Tryz.prog 10 #[.string s] w (EndD (dcM s.data.toList) w) := by
  have hv := readcon_any s w hM hs
  have hn := fun p c xs W (h : ∀ x ∈ xs, SmE x) (hl : xs.length ≤ 1024) (i : Its W p xs) (a : xs.length ≤ c) (b : c ≤ maxLen) => normalize_any p c xs W i a b (by omega) (sm_tails h hl)
  generalize dcM s.data.toList = R at *
  have HN := Lib.hid hn
  clear hn
  go_enter Tryz.func10, Tryz.ntmps10
  go_wp2_with fail
  refine hv.mono ?_
  rintro e w1 ⟨E, op, S, vE, vS, vO, n, t, rfl, h1, h2, h3, h4, h4', h5, h6, h7, hb⟩
  obtain ⟨pi, ci, rfl, hi1, hi2, hI⟩ := h5.its
  obtain ⟨pc, mc, cc, rfl⟩ : ∃ p m c, vS = .slice p m c := by obtain ⟨a, c, h, _⟩ := h6.ints; exact ⟨_, _, _, h⟩
  obtain ⟨po, mo, co, rfl⟩ : ∃ p m c, vO = .slice p m c := by obtain ⟨a, c, h, _⟩ := h7.its; exact ⟨_, _, _, h⟩
  have H1 := Lib.hid h1
  clear hv h5 h6 h7 h1 h4 h4'
  have hb1 := blw hb (.cells #[.slice pi E.length ci, .slice pc mc cc, .int .i64 n, .int .i64 t, .slice po mo co] 69)
  have hI1 := hI.call (blw (Below.refl _ _) (.cells #[.slice pi E.length ci, .slice pc mc cc, .int .i64 n, .int .i64 t, .slice po mo co] 69))
  go_wp2_with fail
  refine (HN.out _ _ _ _ h2 h3 hI1 hi1 hi2).mono ?_
  rintro e w2 ⟨v, rfl, hA⟩
  obtain ⟨p2, c2, rfl, j1, j2, hI2⟩ := hA.own.its
  have hb2 := BelowOn hb1 hA.below
  clear hA hI1 hb1
  go_wp2_with fail
  go_ret3
  refine ⟨p2, c2, by rw [← H1.out]; rfl, by rw [← H1.out]; exact j1, j2, by rw [← H1.out]; exact hI2, hb2⟩
/-- An error comes without cuts. -/
theorem decM_err : ∀ (m : Nat) (E : List It) (S : List Nat) (op : List It) (n p : Nat) (s : List UInt8), (decM m E S op n p s).2.2.2 ≠ 0 → (decM m E S op n p s).1 = [] ∧ (decM m E S op n p s).2.1 = [] := by
  intro m
  induction m with
  | zero =>
    intro E S op n p s h
    unfold decM at h ⊢
    split at h
    · exact absurd rfl h
    · rename_i ho; rw [if_neg ho]; exact ⟨rfl, rfl⟩
  | succ m ih =>
    intro E S op n p s h
    by_cases hs : s = []
    · subst hs
      rw [decM_nil0] at h ⊢
      split at h
      · exact absurd rfl h
      · rename_i ho; rw [if_neg ho]; exact ⟨rfl, rfl⟩
    · unfold decM at h ⊢
      rw [if_neg hs] at h ⊢
      cases he : elM s with
      | none => exact ⟨rfl, rfl⟩
      | some y =>
        obtain ⟨x, k⟩ := y
        rw [he] at h
        dsimp only at h ⊢
        cases hn : numM op n x with
        | none => exact ⟨rfl, rfl⟩
        | some z =>
          obtain ⟨y, op', n'⟩ := z
          rw [hn] at h
          dsimp only at h ⊢
          by_cases hf : 512 < (norm (E ++ [y])).length ∨ 1024 ≤ S.length
          · rw [if_pos hf]; exact ⟨rfl, rfl⟩
          · rw [if_neg hf] at h ⊢; exact ih _ _ _ _ _ _ h
theorem dcM_err {s : List UInt8} (h : (dcM s).2.2.2 ≠ 0) : (dcM s).1 = [] ∧ (dcM s).2.1 = [] := decM_err _ _ _ _ _ _ _ h
/-- The last cut is the length. -/
theorem dcM_last {s : List UInt8} (h : (dcM s).2.2.2 = 0) : ∃ S, (dcM s).2.1 = S ++ [s.length] := by
  obtain ⟨ws, ys, n, e1, _, _, e2, _⟩ := dcM_made h
  rw [e2]
  refine ⟨sts 0 ws, ?_⟩
  have := sts_offs ws 0
  rw [e1, ← this, Nat.zero_add]
set_option maxHeartbeats 1600000 in
theorem cuts_any (s : ByteArray) (w : World) (hM : Mx w) (hs : s.size ≤ 1000000000) : Calls Tryz.prog 11 #[.string s] w (EndC (dcM s.data.toList).2.1 (dcM s.data.toList).2.2.2 w) := by
  have hv := readcon_any s w hM hs
  have hE := fun h => (dcM_err (s := s.data.toList) h).2
  have hL := fun h => dcM_last (s := s.data.toList) h
  rw [ll_size] at hL
  generalize dcM s.data.toList = R at *
  have HE := Lib.hid hE; have HL := Lib.hid hL
  clear hE hL
  go_enter Tryz.func11, Tryz.ntmps11
  go_wp2_with fail
  refine hv.mono ?_
  rintro e w1 ⟨E, op, S, vE, vS, vO, n, t, rfl, h1, h2, h3, h4, h4', h5, h6, h7, hb⟩
  obtain ⟨pi, mi, ci, rfl⟩ : ∃ p m c, vE = .slice p m c := by obtain ⟨a, c, h, _⟩ := h5.its; exact ⟨_, _, _, h⟩
  have H6 := Lib.hid h6
  obtain ⟨pc, cc, rfl, hi1, hi2, hI⟩ := h6.ints
  obtain ⟨po, mo, co, rfl⟩ : ∃ p m c, vO = .slice p m c := by obtain ⟨a, c, h, _⟩ := h7.its; exact ⟨_, _, _, h⟩
  have H4 := Lib.hid h4'
  clear hv h5 h6 h7 h1 h2 h4' hI
  have hnl := nI_len S
  have hn4 : (nI S).length ≤ 1024 := by omega
  have HB := Lib.hid hb
  have hCont := heap_alloc_new w1 (.cells #[.slice pi mi ci, .slice pc (nI S).length cc, .int .i64 n, .int .i64 t, .slice po mo co] 69)
  by_cases h0 : R.2.2.2 = 0
  · obtain ⟨l, hl⟩ := H4.out h0
    obtain ⟨S', hS'⟩ := HL.out h0
    have hll : S' = S ∧ s.size = l := by
      rw [hS'] at hl
      have := List.append_inj' hl rfl
      exact ⟨this.1, by simpa using this.2⟩
    obtain ⟨rfl, rfl⟩ := hll
    have HS := Lib.hid hl
    clear hl hS'
    have hms := nI_snoc S' s.size
    rw [← HS.out] at hms
    rw [h0]
    have H0 := Lib.hid h0
    clear h0 hnl H4 HE HL
    generalize nI S' = ms at *
    have HMS := Lib.hid hms
    clear hms
    go_upto_region 4 with fail
    generalize hW : w1.alloc (.cells #[.slice pi mi ci, .slice pc ms.length cc, .int .i64 n, .int .i64 t, .slice po mo co] 69) = W at *
    have hbW : Below w.heap.size w W := by rw [← hW]; exact blw hb _
    have hOw : OwnL 3 1 nenc w.heap.size ms (.slice pc ms.length cc) W := by rw [← hW]; exact World.ownsRow.alloc H6.out _
    have HBW := Lib.hid hbW
    have HOW := Lib.hid (World.ownsRow.alloc hOw (.cells #[.int .i64 (s.size : Int)] 3))
    obtain ⟨c0, c1⟩ : W.cell? ⟨w1.heap.size, 1, none⟩ = some (.slice pc ms.length cc) ∧ True := ⟨by rw [Lib.cell_of_heap hCont]; rfl, trivial⟩
    have hlt1 := (Array.getElem?_eq_some_iff.1 hCont).1
    have hsz : w.heap.size ≤ W.heap.size := hbW.size
    clear hW hb HB H6 hOw hbW hCont hi1
    go_wp2_with (at_builtin; refine wpl_app eN _ rfl _ _ rfl w.heap.size ms _ rfl HOW.out (by simp; omega) (s.size : Int) W.heap.size _ rfl (heap_alloc_new W _) rfl (by omega) (by unfold maxLen; omega) ?_; intro g2 CP w8 hown8 hgr8 hloc8)
    go_ret2
    have hown9 : OwnL 3 1 nenc w.heap.size (nI R.2.1) (.slice (some ⟨g2, 0, none⟩) (ms.length + 1) CP) w8 := by rw [HMS.out]; exact hown8
    obtain ⟨p9, c9, e9, hc9, hm9, hI9⟩ := hown9.ints
    refine ⟨p9, c9, by show Ending.returned (.tuple #[.slice (some ⟨g2, 0, none⟩) (ms.length + 1) CP, .int .i64 0]) = _; rw [e9, H0.out], hc9, hm9, hI9, ?_⟩
    exact (blw HBW.out _).grown hgr8 (by simp; omega) (fun k hk => (World.ownsRow.lt HOW.out k hk).1)
  · have hne : (R.2.2.2 == 0) = false := by simpa using h0
    have h1 := HE.out h0
    have H1 := Lib.hid h1
    clear h1
    have h0' : ¬ R.2.2.2 = 0 := h0
    go_wp2_with fail
    go_ret2
    refine ⟨none, 0, by rw [H1.out]; rfl, by rw [H1.out]; exact Nat.le_refl _, Nat.zero_le _, by rw [H1.out]; exact Ones.nil _ _ _, blw HB.out _⟩
end Go.Proofs.YtphkpokoeaagfaaGreatDoor
