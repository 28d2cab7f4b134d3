/- Contract of Tokens; SameTokens; appending tokens. -/
import Derived.Test.YtinkejbdlfjjbaaTkf
import Derived.Test.YtinkejbdlfjjbaaSam
namespace Go.Proofs.Ytinkejbdlfjjbaa
open Go.ChangeShapes Go.WideShapes Go.ChangeAt Go.RowKit
set_option linter.unusedVariables false
set_option linter.unusedSimpArgs false
set_option maxRecDepth 100000


/-- What word and number answer. -/
def wN (l : List UInt8) : Nat := match l with | [] => 0 | b :: t => if cb b = 4 then runL fW jW t + 1 else 0
def nN (l : List UInt8) : Nat := match l with | [] => 0 | b :: t => if cb b = 3 then runL fD jD t + 1 else 0
theorem runL_hd (f j : UInt8 → Bool) (l : List UInt8) (h : hdF f l = true) : runL f j l = runL f j (l.drop 1) + 1 := by
  cases l with
  | nil => cases h
  | cons b t => rw [runL_yes _ _ _ _ h]; rfl
theorem fW_eq (b : UInt8) : fW b = (cls (b.toNat : Int) == 4 || cls (b.toNat : Int) == 3) := by unfold fW cb; rw [Bool.eq_iff_iff]; simp
theorem fD_eq (b : UInt8) : fD b = (cls (b.toNat : Int) == 3) := by unfold fD cb; rw [Bool.eq_iff_iff]; simp
theorem fS_eq (b : UInt8) : fS b = (cls (b.toNat : Int) == 2) := by unfold fS cb; rw [Bool.eq_iff_iff]; simp
theorem u39 (b : UInt8) : b = 39 ↔ (b.toNat : Int) = 39 := ⟨fun h => by subst h; rfl, fun h => UInt8.toNat_inj.1 (by show b.toNat = 39; omega)⟩
theorem u45 (b : UInt8) : b = 45 ↔ (b.toNat : Int) = 45 := ⟨fun h => by subst h; rfl, fun h => UInt8.toNat_inj.1 (by show b.toNat = 45; omega)⟩
theorem u46 (b : UInt8) : b = 46 ↔ (b.toNat : Int) = 46 := ⟨fun h => by subst h; rfl, fun h => UInt8.toNat_inj.1 (by show b.toNat = 46; omega)⟩
theorem u44 (b : UInt8) : b = 44 ↔ (b.toNat : Int) = 44 := ⟨fun h => by subst h; rfl, fun h => UInt8.toNat_inj.1 (by show b.toNat = 44; omega)⟩
theorem jW_eq (b : UInt8) : jW b = (((b.toNat : Int) == 39) || ((b.toNat : Int) == 45)) := by
  unfold jW; rw [Bool.eq_iff_iff, decide_eq_true_iff, u39, u45]; simp
theorem jD_eq (b : UInt8) : jD b = (((b.toNat : Int) == 46) || ((b.toNat : Int) == 44)) := by
  unfold jD; rw [Bool.eq_iff_iff, decide_eq_true_iff, u46, u44]; simp

/-- Appending a slice of tokens, whatever it is, to one that the call owns. -/
theorem append_toks (w : World) (ty : TypeId) (base : Nat) (L M : List It) (v : Value) (p : Option Addr) (c : Nat) (h : OwnT base L v w) (hM : Its w p M) (hbase : base ≤ w.heap.size) (hl : (L.length + M.length) * 32 ≤ 140737488355328) :
    ∃ v' w', (Builtin.append_ #[29, 29] ty #[v, .slice p M.length c]).run Try.prog w = .ok v' w' ∧ OwnT base (L ++ M) v' w' ∧ w.grownBy w' v.ownBlock := by
  obtain ⟨i, hi, hz0, hz1, hz2⟩ := eT.hi
  by_cases h0 : M.length = 0
  · have hM0 : M = [] := List.length_eq_zero_iff.1 h0
    subst hM0
    rw [List.append_nil]
    refine ⟨v, w, ?_, h, World.grownBy.refl _ _⟩
    obtain ⟨p1, c1, rfl, hle, _⟩ := OwnT.its h
    refine run_append_nothing w 29 29 ty 33 i eT.ht hi p1 L.length c1 hle _ ?_
    cases p with
    | none => exact Src.ofNil w eT.ht c
    | some a => exact Src.ofSlice w eT.ht a 0 c [] (by simp) (fun j u hj => by simp at hj) (fun u hu => by cases hu)
  · obtain ⟨a, rfl, hlt, _⟩ := hM (by omega)
    have hm3 := icells_length M
    obtain ⟨g, cap, w', hr, h2, h3, h4, h5⟩ := run_append_lies (P := Try.prog) w 29 ty base 33 i _ 3 32 eT.ht hi hz0 hz1 hz2 eT.hzs eT.hsz v L.length (cellsOf ienc L) h a M.length c (icells M) hm3 hM.news (icells_one M) (by omega) (by unfold maxLen; omega) hl hbase _ rfl
    refine ⟨_, w', hr, ?_, h3⟩
    unfold OwnT OwnL
    rw [List.length_append, show cellsOf ienc (L ++ M) = cellsOf ienc L ++ icells M from by unfold cellsOf icells; rw [List.flatMap_append]; rfl]
    exact h2
theorem wpl_catT {w : World} {ops : Array Oper} {rest : List Oper} {o : Oper} {a : Act} {Q : Exit → Act → World → Prop} (hgd : o.guard = none) (s x : Operand) (ho : o.op = .call { callee := .builtin .append, args := #[s, x], argTypes := #[29, 29] })
    (w0 : World) (L M : List It) (v : Value) (hs : a.eval s = v) (h : AccT w0 L v w) (p : Option Addr) (m c : Nat) (hx : a.eval x = .slice p m c) (hm : m = M.length) (hM : Its w p M) (hl : (L.length + M.length) * 32 ≤ 140737488355328)
    (hK : ∀ v' w', AccT w0 (L ++ M) v' w' → wpList Try.prog ops Q rest (a.put o.dst v') w') : wpList Try.prog ops Q (o :: rest) a w := by
  subst hm
  obtain ⟨v', w', hr, h1, h2⟩ := append_toks w o.type w0.heap.size L M v p c h.own hM h.below.size hl
  exact Lib.wpList_append_run w hgd s x 29 29 ho v _ hs hx v' w' hr (hK v' w' (h.more h2 h1))


set_option maxHeartbeats 1600000 in
theorem stoks_any (p q : Option Addr) (c d : Nat) (l m : List It) (w : World) (hR : Its w p l) (hS : Its w q m) (hc : l.length ≤ c) (hd : m.length ≤ d) (hcm : c ≤ maxLen) (hdm : d ≤ maxLen) :
    Calls Try.prog 12 #[.slice p l.length c, .slice q m.length d] w fun e w' => e = .returned (.bool (decide (l = m))) ∧ Below w.heap.size w w' := by
  unfold maxLen at hcm hdm
  by_cases hlen : l.length = m.length
  · have qn : ((l.length : Int) != (l.length : Int)) = false := by simp
    have hl' : l.length ≤ d := by omega
    rw [← hlen]
    have HLEN := Lib.hid hlen
    have hm : ∀ k, k < l.length → k < m.length := fun k h => by omega
    have HM := Lib.hid hm
    clear hlen hm hd
    go_enter Try.func12, Try.ntmps12
    go_wp2_with fail
    go_loopw [13] (fun i wr => ∃ k : Nat, k ≤ l.length ∧ i = .int .i64 k ∧ Below w.heap.size w wr ∧ Hid (∀ j (hl : j < l.length) (hm : j < m.length), j < k → l[j] = m[j])) (fun i _ => l.length - (intOf i).toNat)
    case atStart => exact ⟨0, Nat.zero_le _, rfl, Below.refl _ _, Lib.hid (fun j _ _ h => by omega)⟩
    case round =>
      obtain ⟨k, hk, rfl, hB, HK⟩ := hrel
      by_cases hlt : k < l.length
      · obtain ⟨a, rfl, ha, c0, c1, c2⟩ := (hR.call hB).row k hlt
        obtain ⟨b, rfl, hb, d0, d1, d2⟩ := (hS.call hB).row k (HM.out k hlt)
        have hne := ne_at (l := l) (m := m) k hlt (HM.out k hlt)
        have hnext : l[k] = m[k]'(HM.out k hlt) → ∀ j (hl : j < l.length) (hm : j < m.length), j < k + 1 → l[j] = m[j] := fun h j hl hm hj => by
          by_cases e : j = k
          · subst e; exact h
          · exact HK.out j hl hm (by omega)
        generalize l[k] = x at *
        generalize m[k]'(HM.out k hlt) = y at *
        have HN := Lib.hid hne; have HX := Lib.hid hnext; clear hne hnext
        obtain ⟨k1, t1, i1⟩ := x
        obtain ⟨k2, t2, i2⟩ := y
        dsimp only at c0 c1 c2 d0 d1 d2
        by_cases hkk : k1 = k2
        · subst hkk
          by_cases htt : t1 = t2
          · subst htt
            by_cases hii : i1 = i2
            · subst hii
              have HX' := Lib.hid (HX.out rfl)
              clear HX HN
              go_wp2_with fail
              go_quiet (fail)
              go_wp2_with fail
              go_roundw
              case rel => exact ⟨k + 1, hlt, by go_num, bdrN hB _, HX'⟩
              case measure => simp [intOf]; omega
            · clear HX
              have HZ := Lib.hid (HN.out (by intro e; injection e with e1 e2 e3; first | exact hkk e1 | exact htt e2 | exact hii e3))
              go_wp2_with fail
              go_quiet (fail)
              go_wp2_with fail
              go_ret
              exact ⟨ret_bool (decide_eq_false HZ.out).symm, bdrN hB _⟩
          · clear HX
            have qs := strl_ne htt
            have qs' := str_ne htt
            have HZ := Lib.hid (HN.out (by intro e; injection e with e1 e2 e3; first | exact hkk e1 | exact htt e2 | exact hii e3))
            go_wp2_with fail
            go_quiet (fail)
            go_wp2_with fail
            go_ret
            exact ⟨ret_bool (decide_eq_false HZ.out).symm, bdrN hB _⟩
        · clear HX
          have HZ := Lib.hid (HN.out (by intro e; injection e with e1 e2 e3; first | exact hkk e1 | exact htt e2 | exact hii e3))
          go_wp2_with fail
          go_quiet (fail)
          go_wp2_with fail
          go_ret
          exact ⟨ret_bool (decide_eq_false HZ.out).symm, bdrN hB _⟩
      · obtain rfl : k = l.length := by omega
        have HZ := Lib.hid (eq_at HLEN.out (fun j hl hm => HK.out j hl hm hl))
        go_wp2_with fail
        go_ret
        exact ⟨ret_bool (decide_eq_true HZ.out).symm, hB⟩
  · have qn : ((l.length : Int) != (m.length : Int)) = true := by simp; omega
    have qn' : (l.length != m.length) = true := by simp; omega
    have HZ := Lib.hid (decide_eq_false (p := l = m) (fun e => hlen (by rw [e])))
    clear hlen
    go_enter Try.func12, Try.ntmps12
    go_wp2_with fail
    go_ret
    exact ⟨ret_bool HZ.out.symm, Below.refl _ _⟩

theorem heap_newT (w : World) (a b : Obj) : ((w.alloc a).alloc b).heap[w.heap.size + 1]? = some b := by
  have h := heap_alloc_new (w.alloc a) b
  rwa [show (w.alloc a).heap.size = w.heap.size + 1 by simp] at h
theorem tokI_one (k : Int) (t : ByteArray) (id : Int) (h : 2 ≤ k ∧ k ≤ 5) : tokI ⟨k, t, id⟩ = [⟨k, t, id⟩] := by unfold tokI; rw [if_neg (by show ¬ k = 1; omega), if_pos (by exact h)]
theorem tokI_none (k : Int) (t : ByteArray) (id : Int) (h1 : ¬ k = 1) (h : ¬ (2 ≤ k ∧ k ≤ 5)) : tokI ⟨k, t, id⟩ = [] := by unfold tokI; rw [if_neg (by show ¬ k = 1; omega), if_neg (by exact h)]
set_option maxHeartbeats 1600000 in
theorem tokens_any (p : Option Addr) (cap : Nat) (l : List It) (w : World) (hR : Its w p l) (hc : l.length ≤ cap) (hm : cap ≤ maxLen) (hn : txtI l + l.length ≤ 2000000000) :
    Calls Try.prog 13 #[.slice p l.length cap] w (EndT (toks l) w) := by
  unfold maxLen at hm
  go_enter Try.func13, Try.ntmps13
  go_wp2_with fail
  go_loopw [3, 8] (fun v i wr => ∃ k : Nat, k ≤ l.length ∧ i = .int .i64 k ∧ AccT w (toks (l.take k)) v wr) (fun _ i _ => l.length - (intOf i).toNat)
  case atStart => exact ⟨0, Nat.zero_le _, rfl, Acc.start _⟩
  case round =>
    obtain ⟨k, hk, rfl, hA⟩ := hrel
    by_cases hlt : k < l.length
    · obtain ⟨ad, rfl, had, c0, c1, c2⟩ := (hR.call hA.below).row k hlt
      have hnx := toks_next l k hlt
      have hlen := toks_len (l.take k)
      have ht1 := txtI_take l k
      have ht2 := txtI_take l (k + 1)
      rw [txtI_next l k hlt] at ht2
      have hol : (toks (l.take k)).length + l[k].t.size ≤ 4000000000 := by simp at hlen; omega
      have hzz : l[k].t.size ≤ 140737488355328 := by omega
      generalize l[k] = x at *
      generalize toks (l.take k) = out at *
      clear hlen ht1 ht2
      have hHX := hA.below.size
      obtain ⟨kk, t, id⟩ := x
      dsimp only at c0 c1 c2 hol hzz
      by_cases h1 : kk = 1
      · subst h1
        rw [show tokI ⟨1, t, id⟩ = cutT t.data.toList from if_pos rfl] at hnx
        have ha := fun W v hO hb => appendtext_any w.heap.size out v t W hO hb hzz hol
        have HX := Lib.hid hnx; have HT := Lib.hid ha; clear hnx ha
        go_wp2_with fail
        refine (HT.out _ _ (hA.alloc _).own (by simp; omega)).mono ?_; rintro e w2 ⟨v', rfl, hO2, hb2⟩
        have hA2 : AccT w (out ++ cutT t.data.toList) v' w2 := ⟨(hA.alloc (.cells #[.int .i64 1, .string t, .int .i64 id] 27)).below.trans hb2, hO2⟩
        go_wp2_with fail
        go_roundw
        case rel => exact ⟨k + 1, hlt, by go_num, by rw [HX.out]; exact hA2⟩
        case measure => simp [intOf]; omega
      · by_cases h2 : 2 ≤ kk ∧ kk ≤ 5
        · rw [tokI_one kk t id h2] at hnx
          have HX := Lib.hid hnx; clear hnx
          have h3 : kk = 2 ∨ kk = 3 ∨ kk = 4 ∨ kk = 5 := by omega
          clear h1 h2
          rcases h3 with rfl | rfl | rfl | rfl
          · go_wp2_with (at_builtin; refine wpl_append eT _ rfl _ _ rfl w out _ rfl ((hA.alloc _).alloc _) ⟨2, t, id⟩ _ #[.int .i64 2, .string t, .int .i64 id] rfl (heap_newT _ _ _) rfl (by omega) (by unfold maxLen; omega) ?_; intro v' w4 hA4 hb4)
            go_wp2_with fail
            go_roundw
            case rel => exact ⟨k + 1, hlt, by go_num, by rw [HX.out]; exact hA4⟩
            case measure => simp [intOf]; omega
          · go_wp2_with (at_builtin; refine wpl_append eT _ rfl _ _ rfl w out _ rfl ((hA.alloc _).alloc _) ⟨3, t, id⟩ _ #[.int .i64 3, .string t, .int .i64 id] rfl (heap_newT _ _ _) rfl (by omega) (by unfold maxLen; omega) ?_; intro v' w4 hA4 hb4)
            go_wp2_with fail
            go_roundw
            case rel => exact ⟨k + 1, hlt, by go_num, by rw [HX.out]; exact hA4⟩
            case measure => simp [intOf]; omega
          · go_wp2_with (at_builtin; refine wpl_append eT _ rfl _ _ rfl w out _ rfl ((hA.alloc _).alloc _) ⟨4, t, id⟩ _ #[.int .i64 4, .string t, .int .i64 id] rfl (heap_newT _ _ _) rfl (by omega) (by unfold maxLen; omega) ?_; intro v' w4 hA4 hb4)
            go_wp2_with fail
            go_roundw
            case rel => exact ⟨k + 1, hlt, by go_num, by rw [HX.out]; exact hA4⟩
            case measure => simp [intOf]; omega
          · go_wp2_with (at_builtin; refine wpl_append eT _ rfl _ _ rfl w out _ rfl ((hA.alloc _).alloc _) ⟨5, t, id⟩ _ #[.int .i64 5, .string t, .int .i64 id] rfl (heap_newT _ _ _) rfl (by omega) (by unfold maxLen; omega) ?_; intro v' w4 hA4 hb4)
            go_wp2_with fail
            go_roundw
            case rel => exact ⟨k + 1, hlt, by go_num, by rw [HX.out]; exact hA4⟩
            case measure => simp [intOf]; omega
        · rw [tokI_none kk t id h1 h2, List.append_nil] at hnx
          have HX := Lib.hid hnx; clear hnx
          have q1 : (kk == 1) = false := by simpa using h1
          have q2 : (kk == 2) = false := by have : ¬ kk = 2 := by omega
                                            simpa using this
          have q3 : (kk == 3) = false := by have : ¬ kk = 3 := by omega
                                            simpa using this
          have q4 : (kk == 4) = false := by have : ¬ kk = 4 := by omega
                                            simpa using this
          have q5 : (kk == 5) = false := by have : ¬ kk = 5 := by omega
                                            simpa using this
          go_wp2_with fail
          go_roundw
          case rel => exact ⟨k + 1, hlt, by go_num, by rw [HX.out]; exact hA.alloc _⟩
          case measure => simp [intOf]; omega
    · obtain rfl : k = l.length := by omega
      rw [List.take_length] at hA
      go_wp2_with fail
      go_ret
      exact ⟨_, rfl, hA⟩
end Go.Proofs.Ytinkejbdlfjjbaa
