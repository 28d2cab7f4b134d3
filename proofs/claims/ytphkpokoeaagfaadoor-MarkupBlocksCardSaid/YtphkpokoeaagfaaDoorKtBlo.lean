/- What is read behind a written fragment. A block around a written fragment. The walk of MarkupBlocks. The law MarkupBlocks holds for every input. -/
import Derived.Test.YtphkpokoeaagfaaDoorKtF
import Derived.Test.YtphkpokoeaagfaaDoorNxt
import Derived.Test.YtphkpokoeaagfaaDoorRows
import Derived.WalkKit
import Derived.ProofKit
import Derived.OpenShut
import Derived.ChangeOld
import Derived.Below
import Derived.Carry
import Derived.SizedLaws
import Derived.Test.YtphkpokoeaagfaaDoorCards
import Derived.Test.YtphkpokoeaagfaaDoorTie
import Derived.Stop.Joined
import Derived.SevenTiedAt
import Derived.Lay
import Derived.MakeChecks
import Derived.Test.YtphkpokoeaagfaaDoorArf
import Derived.Test.YtphkpokoeaagfaaDoorKtL
namespace Go.Proofs.YtphkpokoeaagfaaDoor
open Go.ChangeShapes Go.WideShapes Go.ChangeAt Go.RowKit
set_option linter.unusedVariables false
set_option linter.unusedSimpArgs false
set_option maxRecDepth 100000

/-- A written fragment with bytes behind it. -/
theorem dec_behind {f : List It} (h : valE f = 0) (hm : MadeOk f) (t : List UInt8) : ∃ E S n, decN [] [] [] 0 0 (encM f ++ t) = decN E S [] n (encM f).length t ∧ (norm E).length = f.length ∧ S.length = lenI f := by
  obtain ⟨h1, h2, h3⟩ := valE_zero h
  obtain ⟨n, hr⟩ := hm.run
  have hd := dec_wordsM (wsE f) t [] [] [] 0 0 (expI f) [] n (wsE_all h3 hm.nb) (by rw [wsE_it]; exact hr) (by rw [List.nil_append, norm_exp, norm_valid f h3]; exact h1) (by rw [wsE_len]; simpa using h2)
  rw [wsE_flat, List.nil_append, List.nil_append, Nat.zero_add] at hd
  refine ⟨expI f, sts 0 (wsE f), n, hd, by rw [norm_exp, norm_valid f h3], ?_⟩
  have := congrArg List.length (sts_offs (wsE f) 0)
  rw [List.length_append] at this
  have h4 : (offs 0 (wsE f)).length = (wsE f).length + 1 := by
    have : ∀ (ws : Ws) p, (offs p ws).length = ws.length + 1 := by
      intro ws
      induction ws with
      | nil => intro p; rfl
      | cons w ws ih => intro p; show (offs (p + w.1.length) ws).length + 1 = _; rw [ih]; rfl
    exact this _ _
  rw [h4] at this
  simp only [List.length_cons, List.length_nil] at this
  rw [← wsE_len]; omega
theorem norm_more (E : List It) (y : It) : (norm (E ++ [y])).length ≤ (norm E).length + 1 := by rw [norm_snoc]; exact normS_len _ _
theorem numM_no (op : List It) (z : It) (n : Nat) (tx : ByteArray) (h : nameB z.t ≠ tx) : numM (op ++ [z]) n ⟨3, tx, 0⟩ = none := by
  unfold numM
  rw [if_neg (show ¬ (3 : Int) = 2 by decide), if_neg (show ¬ (3 : Int) = 4 by decide), if_pos rfl, List.getLast?_concat]
  dsimp only
  rw [if_neg h]
def tlN : Nat → List UInt8
  | 0 => [60, 47, 98, 62]
  | 1 => [60, 98, 62, 60, 47, 105, 62]
  | 2 => [60, 98, 62]
  | 3 => [60, 105, 62, 60, 98, 62, 60, 47, 105, 62, 60, 47, 98, 62]
  | _ => [60, 98, 47, 62, 60, 47, 98, 62]
def atN : Nat → Nat
  | 0 => 0
  | 1 => 3
  | 2 => 3
  | 3 => 6
  | _ => 4
theorem dec_tail (j : Nat) (E : List It) (S : List Nat) (n p : Nat) (h1 : (norm E).length ≤ 100) (h2 : S.length ≤ 900) : decN E S [] n p (tlN j) = ([], [], p + atN j, 7) := by
  have e0 : elM [60, 47, 98, 62] = some (⟨3, ⟨#[98]⟩, 0⟩, 4) := by kernel_rfl
  have step : ∀ (x : It) (k : Nat) (s : List UInt8) (y : It) (op' : List It) (n' : Nat), elM s = some (x, k) → numM [] n x = some (y, op', n') → decN E S [] n p s = decN (E ++ [y]) (S ++ [p]) op' n' (p + k) (s.drop k) := fun x k s y op' n' he hn =>
    decN_more E S [] n p s he hn (by have := norm_more E y; omega) (by omega)
  match j with
  | 0 => exact decN_tag E S [] n p _ e0 rfl
  | 1 =>
    rw [show tlN 1 = [60, 98, 62, 60, 47, 105, 62] from rfl, step ⟨2, ⟨#[98]⟩, 0⟩ 3 _ _ _ _ (by kernel_rfl) rfl]
    exact decN_tag _ _ _ _ _ _ (x := ⟨3, ⟨#[105]⟩, 0⟩) (k := 4) (by kernel_rfl) (numM_no [] _ _ _ (show nameB ⟨#[98]⟩ ≠ ⟨#[105]⟩ by decide +kernel))
  | 2 =>
    rw [show tlN 2 = [60, 98, 62] from rfl, step ⟨2, ⟨#[98]⟩, 0⟩ 3 _ _ _ _ (by kernel_rfl) rfl]
    show decN _ _ _ _ _ [] = _
    rw [decN_nil, if_neg (by simp)]
    rfl
  | 3 =>
    rw [show tlN 3 = [60, 105, 62, 60, 98, 62, 60, 47, 105, 62, 60, 47, 98, 62] from rfl, step ⟨2, ⟨#[105]⟩, 0⟩ 3 _ _ _ _ (by kernel_rfl) rfl]
    rw [decN_more _ _ _ _ _ _ (x := ⟨2, ⟨#[98]⟩, 0⟩) (k := 3) (by kernel_rfl) rfl (by
      refine Nat.le_trans (norm_more _ _) ?_
      refine Nat.le_trans (Nat.add_le_add_right (norm_more _ _) 1) ?_
      omega) (by rw [List.length_append]; simp; omega)]
    exact decN_tag _ _ _ _ _ _ (x := ⟨3, ⟨#[105]⟩, 0⟩) (k := 4) (by kernel_rfl) (numM_no _ _ _ _ (show nameB ⟨#[98]⟩ ≠ ⟨#[105]⟩ by decide +kernel))
  | j + 4 =>
    rw [show tlN (j + 4) = [60, 98, 47, 62, 60, 47, 98, 62] from rfl, step ⟨4, ⟨#[98]⟩, 0⟩ 4 _ _ _ _ (by kernel_rfl) rfl]
    exact decN_tag _ _ _ _ _ _ (x := ⟨3, ⟨#[98]⟩, 0⟩) (k := 4) e0 rfl
theorem dec_nest (j : Nat) (L : List Int) : dcM (encM (mk L true true) ++ tlN j) = ([], [], (encM (mk L true true)).length + atN j, 7) := by
  obtain ⟨E, S, n, h1, h2, h3⟩ := dec_behind (mk_valid L) (mk_made L) (tlN j)
  have hk := mk_ok L true true
  have := hk.len; have := hk.lenI
  show decN [] [] [] 0 0 _ = _
  rw [h1]
  exact dec_tail j E S n _ (by omega) (by omega)
end Go.Proofs.YtphkpokoeaagfaaDoor
namespace Go.Proofs.YtphkpokoeaagfaaDoor
open Go.ChangeShapes Go.WideShapes Go.ChangeAt Go.RowKit
set_option linter.unusedVariables false
set_option linter.unusedSimpArgs false
set_option maxRecDepth 100000

theorem con_lt {s : ByteArray} (h : isCon s = true) {c : UInt8} (hc : c ∈ s.data.toList) : c ≠ 60 := by
  have := con_mem h hc
  unfold conB at this; simp at this
  refine u8_ne ?_
  show _ ≠ (60 : Int); omega
theorem nm_lt {s : ByteArray} (h : isNm s = true) {c : UInt8} (hc : c ∈ s.data.toList) : c ≠ 60 := by
  have := nm_mem h hc
  unfold nmB at this; simp at this
  refine u8_ne ?_
  show _ ≠ (60 : Int); omega
/-- Only the first byte of a word opens a tag. -/
theorem word_lt {y : It} (h : One y) : ∀ c ∈ (e1M y).drop 1, c ≠ 60 := by
  rcases h with ⟨h1, h2, h3⟩ | ⟨h1, hp⟩
  · obtain ⟨b, rfl⟩ := one_bT (.inl ⟨h1, h2, h3⟩) h1
    have e : e1M (bT b) = byM b := by show [b].flatMap byM = _; simp
    rw [e]
    intro c hc
    unfold byM at hc
    split at hc
    · simp at hc; rcases hc with rfl | rfl | rfl <;> decide
    · split at hc
      · simp at hc; rcases hc with rfl | rfl | rfl | rfl <;> decide
      · split at hc
        · simp at hc; rcases hc with rfl | rfl | rfl <;> decide
        · simp at hc
  · rcases proper_kinds hp with hk | hk | hk
    · exact absurd hk h1
    · obtain ⟨_, _, p3, p2⟩ := isT_proper hk hp
      have hk' : y.k = 2 ∨ y.k = 3 ∨ y.k = 4 := by unfold isT at hk; simpa using hk
      rcases hk' with hk | hk | hk
      · have hc := p2 (.inl hk)
        intro c hcm
        have ew : e1M y = 60 :: (y.t.data.toList ++ [62]) := by unfold e1M; rw [if_neg h1, if_pos hk]
        rw [ew] at hcm
        rcases List.mem_append.1 (show c ∈ y.t.data.toList ++ [62] from hcm) with hcm | hcm
        · exact con_lt hc hcm
        · rw [List.mem_singleton.1 hcm]; decide
      · have hc := p3 hk
        intro c hcm
        have ew : e1M y = 60 :: (47 :: y.t.data.toList ++ [62]) := by unfold e1M; rw [if_neg h1, if_neg (by omega), if_pos hk]
        rw [ew] at hcm
        rcases List.mem_append.1 (show c ∈ 47 :: y.t.data.toList ++ [62] from hcm) with hcm | hcm
        · rcases List.mem_cons.1 hcm with rfl | hcm
          · decide
          · exact nm_lt hc hcm
        · rw [List.mem_singleton.1 hcm]; decide
      · have hc := p2 (.inr hk)
        intro c hcm
        have ew : e1M y = 60 :: ((y.t.data.toList ++ [47]) ++ [62]) := by unfold e1M; rw [if_neg h1, if_neg (by omega), if_neg (by omega), if_pos hk]
        rw [ew] at hcm
        rcases List.mem_append.1 (show c ∈ (y.t.data.toList ++ [47]) ++ [62] from hcm) with hcm | hcm
        · rcases List.mem_append.1 hcm with hcm | hcm
          · exact con_lt hc hcm
          · rw [List.mem_singleton.1 hcm]; decide
        · rw [List.mem_singleton.1 hcm]; decide
    · rw [slot_proper hk] at hp
      simp only [Bool.and_eq_true, decide_eq_true_eq] at hp
      have ew : e1M y = 123 :: (y.t.data.toList ++ [125]) := by unfold e1M; rw [if_neg h1, if_neg (by omega), if_neg (by omega), if_neg (by omega)]
      intro c hcm
      rw [ew] at hcm
      rcases List.mem_append.1 (show c ∈ y.t.data.toList ++ [125] from hcm) with hcm | hcm
      · exact nm_lt hp.1 hcm
      · rw [List.mem_singleton.1 hcm]; decide
/-- The names of blocks. -/
structure BN (nm : ByteArray) : Prop where
  ne : ∀ c ∈ nm.data.toList, c ≠ 62
  blk : blkN (nameB nm) = true
  con : isCon nm = true
  nam : nameB nm = nm
  pos : nm ≠ .empty
  hd : nm.data.toList.head? ≠ some 33
  few : nm.size ≤ 5
/-- No element begins with a closing tag of a block. -/
theorem el_close {nm : ByteArray} (h : BN nm) (r : List UInt8) : elM ((clB nm).data.toList ++ r) = none := by
  have hc : (clB nm).data.toList ++ r = 60 :: ((47 :: nm.data.toList) ++ 62 :: r) := by unfold clB; simp
  rw [hc, elM_60]
  unfold inlT
  cases hr : rdT ((47 :: nm.data.toList) ++ 62 :: r) with
  | none => rfl
  | some y =>
    unfold rdT at hr
    rw [upto_app 62 (47 :: nm.data.toList) r (fun c hcm => by
      rcases List.mem_cons.1 hcm with rfl | hcm
      · decide
      · exact h.ne c hcm)] at hr
    split at hr
    · injection hr with hr
      subst hr
      dsimp only
      rw [show tgM (47 :: nm.data.toList) = ⟨3, nm, 0⟩ from tg_close nm]
      have : blk ⟨3, nm, 0⟩ = true := h.blk
      rw [if_pos this]
    · cases hr
theorem el_open {nm : ByteArray} (h : BN nm) (r : List UInt8) : elM (60 :: (nm.data.toList ++ 62 :: r)) = none := by
  rw [elM_60]
  unfold inlT
  rw [rdT_of nm.data.toList r h.ne (by rw [tg_open nm h.con]; exact h.con), tg_open nm h.con]
  have : blk ⟨2, nm, 0⟩ = true := h.blk
  dsimp only
  rw [if_pos this]
theorem no_close {nm : ByteArray} (h : BN nm) (t : List UInt8) : ∀ (ws : Ws), (∀ w ∈ ws, WordM w.1 w.2 ∧ ∀ c ∈ w.1.drop 1, c ≠ 60) → ∀ i, i < (flatW ws).length → Lib.occAt (flatW ws ++ t) (clB nm).data.toList i = false := by
  intro ws
  induction ws with
  | nil => intro _ i hi; cases hi
  | cons w ws ih =>
    intro hw i hi
    obtain ⟨hW, hlt⟩ := hw w (by simp)
    rw [flatW_cons] at hi ⊢
    rw [List.append_assoc]
    rw [List.length_append] at hi
    rcases Nat.lt_or_ge i w.1.length with hiw | hiw
    · rw [Bool.eq_false_iff]
      intro ho
      unfold Lib.occAt at ho
      rw [List.isPrefixOf_iff_prefix] at ho
      obtain ⟨r, hr⟩ := ho
      cases i with
      | zero =>
        rw [List.drop_zero] at hr
        have := hW.2.2 (flatW ws ++ t)
        rw [← hr, el_close h r] at this
        cases this
      | succ i =>
        have h1 : (w.1 ++ (flatW ws ++ t))[i + 1]? = some 60 := by
          have : ((w.1 ++ (flatW ws ++ t)).drop (i + 1))[0]? = some 60 := by rw [← hr]; unfold clB; simp
          rwa [List.getElem?_drop] at this
        rw [List.getElem?_append_left hiw] at h1
        refine hlt 60 ?_ rfl
        refine List.mem_of_getElem? (i := i) ?_
        rw [List.getElem?_drop, Nat.add_comm]; exact h1
    · have := ih (fun v hv => hw v (by simp [hv])) (i - w.1.length) (by omega)
      unfold Lib.occAt at this ⊢
      rw [List.drop_append, List.drop_of_length_le hiw, List.nil_append]
      exact this
theorem words_ok {f : List It} (h : valE f = 0) (hm : MadeOk f) : ∀ w ∈ wsE f, WordM w.1 w.2 ∧ ∀ c ∈ w.1.drop 1, c ≠ 60 := fun w hw => by
  obtain ⟨_, _, h3⟩ := valE_zero h
  refine ⟨wsE_all h3 hm.nb w hw, ?_⟩
  unfold wsE at hw
  rw [List.mem_map] at hw
  obtain ⟨y, hy, rfl⟩ := hw
  exact word_lt (exp_ok h3 y hy)
theorem cut_found {nm : ByteArray} (hb : BN nm) {f : List It} (h : valE f = 0) (hm : MadeOk f) : Lib.cut (encM f ++ (clB nm).data.toList) (clB nm).data.toList = (encM f, [], true) := by
  have hi : Lib.index (encM f ++ (clB nm).data.toList) (clB nm).data.toList = ((encM f).length : Int) := by
    refine Lib.index_first (by rw [List.length_append]; omega) ?_ (fun j hj => ?_)
    · unfold Lib.occAt
      rw [List.drop_left' rfl, List.isPrefixOf_iff_prefix]
      exact List.prefix_refl _
    · have := no_close hb (clB nm).data.toList (wsE f) (words_ok h hm) j (by rw [wsE_flat]; exact hj)
      rwa [wsE_flat] at this
  unfold Lib.cut
  rw [hi, if_pos (by omega)]
  have e1 : (((encM f).length : Nat) : Int).toNat = (encM f).length := rfl
  rw [e1, List.take_left' rfl, List.drop_of_length_le (by rw [List.length_append]; omega)]
theorem cut_none {nm : ByteArray} (hb : BN nm) {f : List It} (h : valE f = 0) (hm : MadeOk f) : Lib.cut (encM f) (clB nm).data.toList = (encM f, [], false) := by
  have hi : Lib.index (encM f) (clB nm).data.toList = -1 := by
    refine Lib.index_none (fun j hj => ?_)
    rcases Nat.lt_or_ge j (encM f).length with hlt | hge
    · have := no_close hb [] (wsE f) (words_ok h hm) j (by rw [wsE_flat]; exact hlt)
      rwa [wsE_flat, List.append_nil] at this
    · unfold Lib.occAt
      rw [List.drop_of_length_le hge, Bool.eq_false_iff]
      intro e
      rw [List.isPrefixOf_iff_prefix] at e
      have := e.length_le
      rw [ll_size, clB_size] at this
      simp at this
  unfold Lib.cut
  rw [hi, if_neg (by omega)]
theorem upto_sign (r : List UInt8) : upto 60 (60 :: r) = [] := by unfold upto; rw [List.takeWhile_cons, if_neg (by decide)]
theorem nx_open {nm : ByteArray} (h : BN nm) (r : List UInt8) (p : Nat) : nxB p (60 :: (nm.data.toList ++ 62 :: r)) = (p + (nm.size + 2), nm, true) := by
  unfold nxB
  rw [upto_sign]
  show hdK (p + 0) (60 :: (nm.data.toList ++ 62 :: r)) = _
  rw [hdK_step _ _ (by simp)]
  have hc : comM (60 :: (nm.data.toList ++ 62 :: r)) = none := by
    unfold comM btw
    have hp : Lib.hasPrefix (60 :: (nm.data.toList ++ 62 :: r)) [60, 33, 45, 45] = false := by
      rw [Bool.eq_false_iff]
      intro e
      unfold Lib.hasPrefix at e
      rw [List.isPrefixOf_iff_prefix] at e
      obtain ⟨z, hz⟩ := e
      have hz : (33 :: ([45, 45] ++ z)) = nm.data.toList ++ 62 :: r := by
        have := congrArg List.tail hz
        simpa using this
      have hne : nm.data.toList ≠ [] := fun e => by
        have := (bytes_nil nm).1 e
        exact h.pos (by rw [← bsL_of nm, e]; rfl)
      have h1 := head_app (b := 62 :: r) hne
      rw [← hz] at h1
      exact h.hd h1.symm
    rw [hp, if_neg (by simp)]
  rw [hc]
  dsimp only
  have ht : rdT ((60 :: (nm.data.toList ++ 62 :: r)).drop 1) = some (⟨2, nm, 0⟩, nm.data.toList.length + 2) := by
    show rdT (nm.data.toList ++ 62 :: r) = _
    rw [rdT_of nm.data.toList r h.ne (by rw [tg_open nm h.con]; exact h.con), tg_open nm h.con]
  rw [ht]
  have hb : blk ⟨2, nm, 0⟩ = true := h.blk
  dsimp only
  rw [if_pos hb, if_pos rfl, ll_size, h.nam, Nat.add_zero]
/-- The three documents of the law, and the content with a block's tag behind it. -/
def dFull (nm raw : ByteArray) : ByteArray := ⟨#[60]⟩ ++ nm ++ ⟨#[62]⟩ ++ raw ++ ⟨#[60, 47]⟩ ++ nm ++ ⟨#[62]⟩
def dTag (nm raw : ByteArray) : ByteArray := raw ++ ⟨#[60]⟩ ++ nm ++ ⟨#[62]⟩
def dHead (nm raw : ByteArray) : ByteArray := ⟨#[60]⟩ ++ nm ++ ⟨#[62]⟩ ++ raw
section
variable {nm : ByteArray} {f : List It}
theorem dFull_list : (dFull nm (bsL (encM f))).data.toList = 60 :: (nm.data.toList ++ 62 :: (encM f ++ (clB nm).data.toList)) := by
  unfold dFull clB
  simp [ByteArray.data_append, bsL_list]
theorem dHead_list : (dHead nm (bsL (encM f))).data.toList = 60 :: (nm.data.toList ++ 62 :: encM f) := by
  unfold dHead
  simp [ByteArray.data_append, bsL_list]
theorem dTag_list : (dTag nm (bsL (encM f))).data.toList = encM f ++ (60 :: (nm.data.toList ++ [62])) := by
  unfold dTag
  simp [ByteArray.data_append, bsL_list]
theorem dFull_size : (dFull nm (bsL (encM f))).size = nm.size + 2 + (encM f).length + (nm.size + 3) := by
  rw [← ll_size, dFull_list]; simp [clB_size]; omega
theorem dHead_size : (dHead nm (bsL (encM f))).size = nm.size + 2 + (encM f).length := by
  rw [← ll_size, dHead_list]; simp; omega
theorem dec_tagB (hb : BN nm) (h : valE f = 0) (hm : MadeOk f) (h1 : lenI f ≤ 900) : dcM (dTag nm (bsL (encM f))).data.toList = ([], [], (encM f).length, 2) := by
  obtain ⟨E, S, n, e1, e2, e3⟩ := dec_behind h hm (60 :: (nm.data.toList ++ [62]))
  rw [dTag_list]
  show decN [] [] [] 0 0 _ = _
  rw [e1]
  exact decN_none _ _ _ _ _ _ (by simp) (el_open hb [])
theorem spl_full (hb : BN nm) (h : valE f = 0) (hm : MadeOk f) (hs : (dFull nm (bsL (encM f))).size ≤ 65536) : ∃ x z, splB (dFull nm (bsL (encM f))) = ([x, ⟨true, keyR 1, bsL (encM f)⟩, z], 0, 0) := by
  have hl := dFull_list (nm := nm) (f := f)
  have hz := dFull_size (nm := nm) (f := f)
  generalize dFull nm (bsL (encM f)) = D at *
  have hnx : nxB 0 (D.data.toList.drop 0) = (nm.size + 2, nm, true) := by
    rw [List.drop_zero, hl, nx_open hb, Nat.zero_add]
  have hd : D.data.toList.drop (nm.size + 2) = encM f ++ (clB nm).data.toList := by
    rw [hl]
    show (nm.data.toList ++ 62 :: (encM f ++ (clB nm).data.toList)).drop (nm.size + 1) = _
    rw [List.drop_append, List.drop_of_length_le (by rw [ll_size]; omega), ll_size, Nat.add_sub_cancel_left]; rfl
  have hru : ruM nm (nm.size + 2) D = (bsL (encM f), 0, 0, nm.size + 2 + (encM f).length) := by
    unfold ruM
    rw [hd, cut_found hb h hm]
    unfold ruC
    rw [dec_made h hm]; rfl
  have hbe : behB nm D (nm.size + 2 + (encM f).length) = D.size := by
    have hd2 : D.data.toList.drop (nm.size + 2 + (encM f).length) = (clB nm).data.toList := by
      rw [← List.drop_drop, hd, List.drop_left' rfl]
    unfold behB
    rw [hd2, if_pos (by unfold hasP Lib.hasPrefix; rw [List.isPrefixOf_iff_prefix]; exact List.prefix_refl _), clB_size, hz]
  unfold splB
  rw [if_neg (by omega), splN_more (Nat.zero_le _) hnx hb.pos (by rw [hru]), hru]
  dsimp only
  rw [hbe, splN_end (q := D.size) (Nat.le_refl _) (by
    rw [List.drop_of_length_le (by rw [ll_size]; exact Nat.le_refl _)]
    unfold nxB
    show hdK (D.size + 0) [] = _
    rw [hdK_nil, Nat.add_zero])]
  exact ⟨_, _, rfl⟩
theorem spl_head (hb : BN nm) (h : valE f = 0) (hm : MadeOk f) (hs : (dHead nm (bsL (encM f))).size ≤ 65536) : splB (dHead nm (bsL (encM f))) = ([], nm.size + 2 + (encM f).length, 2) := by
  have hl := dHead_list (nm := nm) (f := f)
  have hz := dHead_size (nm := nm) (f := f)
  generalize dHead nm (bsL (encM f)) = D at *
  have hnx : nxB 0 (D.data.toList.drop 0) = (nm.size + 2, nm, true) := by
    rw [List.drop_zero, hl, nx_open hb, Nat.zero_add]
  have hd : D.data.toList.drop (nm.size + 2) = encM f := by
    rw [hl]
    show (nm.data.toList ++ 62 :: encM f).drop (nm.size + 1) = _
    rw [List.drop_append, List.drop_of_length_le (by rw [ll_size]; omega), ll_size, Nat.add_sub_cancel_left]; rfl
  have hru : ruM nm (nm.size + 2) D = (.empty, D.size, 2, nm.size + 2) := by
    unfold ruM
    rw [hd, cut_none hb h hm]
    unfold ruC
    rw [dec_made h hm]; rfl
  unfold splB
  rw [if_neg (by omega), splN_err (Nat.zero_le _) hnx hb.pos (by rw [hru]; show (2 : Int) ≠ 0; decide), hru, hz]
end
end Go.Proofs.YtphkpokoeaagfaaDoor
namespace Go.Proofs.YtphkpokoeaagfaaDoor
open Go.ChangeShapes Go.WideShapes Go.ChangeAt Go.RowKit
set_option linter.unusedVariables false
set_option linter.unusedSimpArgs false
set_option maxRecDepth 100000

theorem bk_txt (L : List Int) : txtI (mk L true true) ≤ 140737488355328 := by have := (mk_ok L true true).txt; omega
theorem e1M_small (y : It) : (e1M y).length ≤ 5 * y.t.size + 4 := by
  have hs : y.t.data.toList.length = y.t.size := by simp
  unfold e1M
  split
  · have := encT_len y.t.data.toList
    unfold encT at this; omega
  · repeat' split
    all_goals (simp only [List.length_cons, List.length_append, List.length_nil, hs]; omega)
theorem encM_small (l : List It) : (encM l).length ≤ 5 * txtI l + 4 * l.length := by
  induction l with
  | nil => exact Nat.le_refl _
  | cons y t ih =>
    have h1 := e1M_small y
    have h2 : encM (y :: t) = e1M y ++ encM t := rfl
    have h3 : txtI (y :: t) = y.t.size + txtI t := by unfold txtI; simp
    rw [h2, List.length_append, h3]; simp; omega
theorem mk_bytes (L : List Int) : (encM (mk L true true)).length ≤ 2000 := by
  have h1 := encM_small (mk L true true)
  have h2 := (mk_ok L true true).txt
  have h3 := (mk_ok L true true).len
  omega
theorem ItoaOk.le {M N : Nat} {w : World} (h : ItoaOk N w) (hn : M ≤ N) : ItoaOk M w := fun r W hr hb => h r W (by omega) hb
theorem ItoaOk.call {N : Nat} {w w1 : World} (h : ItoaOk N w) (hb : Below w.heap.size w w1) : ItoaOk N w1 := fun r W hr hb' => h r W hr (BelowOn hb hb')
/-- What the walk knows of the four calls. -/
structure BlC (nm S : ByteArray) (w : World) : Prop where
  full : ∀ W, Below w.heap.size w W → Calls Tryd.prog 10 #[.string (dFull nm S)] W fun e w' => ∃ p c x z, e = .returned (.tuple #[.slice p 3 c, .int .i64 0, .int .i64 0]) ∧ 3 ≤ c ∧ Pts w' p [x, ⟨true, ⟨#[49]⟩, S⟩, z] ∧ Below W.heap.size W w'
  tag : ∀ W, Below w.heap.size w W → Calls Tryd.prog 12 #[.string (dTag nm S)] W fun e w' => ∃ p c, e = .returned (.tuple #[.slice p 0 c, .int .i64 (S.size : Int), .int .i64 2]) ∧ Below W.heap.size W w'
  head : ∀ W, Below w.heap.size w W → Calls Tryd.prog 10 #[.string (dHead nm S)] W fun e w' => ∃ p c, e = .returned (.tuple #[.slice p 0 c, .int .i64 ((nm.size + 2 + S.size : Nat) : Int), .int .i64 2]) ∧ Below W.heap.size W w'
  clos : ∀ W, Below w.heap.size w W → Calls Tryd.prog 10 #[.string (clB nm)] W fun e w' => ∃ p c, e = .returned (.tuple #[.slice p 0 c, .int .i64 0, .int .i64 2]) ∧ Below W.heap.size W w'
theorem blc_of {nm : ByteArray} (hb : BN nm) (L : List Int) (w : World) (hM : Mx w) (hI : ItoaOk 1000000000 w) (hc : splB (clB nm) = ([], 0, 2)) : BlC nm (bsL (encM (mk L true true))) w := by
  have hv := mk_valid L
  have hm := mk_made L
  have hby := mk_bytes L
  have hl := (mk_ok L true true).lenI
  have hf := hb.few
  have hz1 := dFull_size (nm := nm) (f := mk L true true)
  have hz2 := dHead_size (nm := nm) (f := mk L true true)
  have hcz := clB_size nm
  refine ⟨fun W h => ?_, fun W h => ?_, fun W h => ?_, fun W h => ?_⟩
  · obtain ⟨x, z, he⟩ := spl_full hb hv hm (by omega)
    refine (split_any _ W (hM.call h) (by omega) ((hI.call h).le (by omega))).mono ?_
    rintro e w' ⟨p, c, rfl, h1, h2, h3, h4⟩
    rw [he, key1] at h1 h3 ⊢
    exact ⟨p, c, x, z, rfl, h1, h3, h4⟩
  · have he := dec_tagB hb hv hm (by omega)
    refine (decode_any _ W (hM.call h) (by unfold dTag; rw [ByteArray.size_append, ByteArray.size_append, ByteArray.size_append, bsL_size]; show _ + 1 + _ + 1 ≤ _; omega)).mono ?_
    rintro e w' ⟨p, c, rfl, h1, h2, h3, h4⟩
    rw [he]
    exact ⟨p, c, by rw [bsL_size]; rfl, h4⟩
  · have he := spl_head hb hv hm (by omega)
    refine (split_any _ W (hM.call h) (by omega) ((hI.call h).le (by omega))).mono ?_
    rintro e w' ⟨p, c, rfl, h1, h2, h3, h4⟩
    rw [he]
    exact ⟨p, c, by rw [bsL_size]; rfl, h4⟩
  · refine (split_any _ W (hM.call h) (by omega) ((hI.call h).le (by omega))).mono ?_
    rintro e w' ⟨p, c, rfl, h1, h2, h3, h4⟩
    rw [hc]
    exact ⟨p, c, rfl, h4⟩
theorem bn_0 : BN ⟨#[112]⟩ := ⟨by decide, by decide +kernel, by decide +kernel, by decide +kernel, by decide, by decide, by decide⟩
theorem cl_0 : splB (clB ⟨#[112]⟩) = ([], 0, 2) := by kernel_rfl
theorem bn_1 : BN ⟨#[104]⟩ := ⟨by decide, by decide +kernel, by decide +kernel, by decide +kernel, by decide, by decide, by decide⟩
theorem cl_1 : splB (clB ⟨#[104]⟩) = ([], 0, 2) := by kernel_rfl
theorem bn_2 : BN ⟨#[108, 105]⟩ := ⟨by decide, by decide +kernel, by decide +kernel, by decide +kernel, by decide, by decide, by decide⟩
theorem cl_2 : splB (clB ⟨#[108, 105]⟩) = ([], 0, 2) := by kernel_rfl
theorem bn_3 : BN ⟨#[116, 100]⟩ := ⟨by decide, by decide +kernel, by decide +kernel, by decide +kernel, by decide, by decide, by decide⟩
theorem cl_3 : splB (clB ⟨#[116, 100]⟩) = ([], 0, 2) := by kernel_rfl
theorem bn_4 : BN ⟨#[116, 105, 116, 108, 101]⟩ := ⟨by decide, by decide +kernel, by decide +kernel, by decide +kernel, by decide, by decide, by decide⟩
theorem cl_4 : splB (clB ⟨#[116, 105, 116, 108, 101]⟩) = ([], 0, 2) := by kernel_rfl
set_option maxHeartbeats 6400000 in
theorem blocks_0 (p0 : Option Addr) (c0 : Nat) (a0 : List Int) (a1 : Int) (w : World) (r0 : Ones w (Value.int .i64) p0 a0) (o0 : ∀ i (h : i < a0.length), (Lit.int .i64 (a0[i]'h)).wf = true) (n0 : a0.length ≤ c0) (m0 : c0 ≤ maxLen) (w1 : (Lit.int .i64 a1).wf = true) (hI : ItoaOk 1000000000 w) (hM : Mx w) (l0 : a0.length ≤ 60) (hj : a1 % 5 = 0) :
    Calls Tryd.prog 8 #[.slice p0 a0.length c0, .int .i64 a1] w fun e w' => e = .returned (.bool true) ∧ Below w.heap.size w w' := by
  have HK := Lib.hid (fun W (h : Below w.heap.size w W) => known_any W (hM.call h))
  have HB := Lib.hid (blc_of bn_0 a0 w hM hI cl_0)
  have hnf : (⟨#[112]⟩ : ByteArray).size ≤ 5 := by decide
  clear hM hI
  have q0 : decide (60 < a0.length) = false := decide_eq_false (by omega)
  have hpl := fun W => place_any a1 5 W (by omega) (by omega) w1
  rw [hj] at hpl
  have PL := Lib.hid hpl
  clear hpl hj w1
  have M0 := Lib.hid (fun W h => rmade_any p0 c0 a0 W h o0 n0 m0)
  unfold EndF at M0
  have v0 := mk_valid a0
  have x0 := oks_valid (valE_zero v0).2.2 (bk_txt a0)
  have f0 := fun p c W (i : Its W p (mk a0 true true)) (a : (mk a0 true true).length ≤ c) (b : c ≤ maxLen) => encode_any p c (mk a0 true true) W i x0 a b
  rw [encE_ok v0 (any_tags (mk_made a0).nb)] at f0
  have hsz : (bsL (encM (mk a0 true true))).size ≤ 4000000 := by rw [bsL_size]; have := enc_bytes v0; omega
  dsimp only at f0
  generalize bsL (encM (mk a0 true true)) = S at *
  generalize mk a0 true true = G at *
  have F0 := Lib.hid f0
  have hs9 : (S.size : Int) ≤ 4000000 := by omega
  clear f0 x0 v0 o0
  go_enter Tryd.func8, Tryd.ntmps8
  go_wp2_with fail
  refine (PL.out _).mono ?_; rintro e w4 ⟨rfl, rfl⟩
  have bl := blw (Below.refl w.heap.size w) (.cells #[.string ⟨#[112]⟩, .string ⟨#[104]⟩, .string ⟨#[108, 105]⟩, .string ⟨#[116, 100]⟩, .string ⟨#[116, 105, 116, 108, 101]⟩] 9)
  have r1 := r0.call (blw (Below.refl w.heap.size w) (.cells #[.string ⟨#[112]⟩, .string ⟨#[104]⟩, .string ⟨#[108, 105]⟩, .string ⟨#[116, 100]⟩, .string ⟨#[116, 105, 116, 108, 101]⟩] 9))
  go_upto_region 4 with fail
  obtain ⟨nm, hnm⟩ : ∃ nm, nm = (⟨#[112]⟩ : ByteArray) := ⟨_, rfl⟩
  rw [← hnm] at HB hnf
  change Code.wp _ _ _ _ (w.alloc (.cells #[.string ⟨#[112]⟩, .string ⟨#[104]⟩, .string ⟨#[108, 105]⟩, .string ⟨#[116, 100]⟩, .string ⟨#[116, 105, 116, 108, 101]⟩] 9))
  generalize w.alloc (.cells #[.string ⟨#[112]⟩, .string ⟨#[104]⟩, .string ⟨#[108, 105]⟩, .string ⟨#[116, 100]⟩, .string ⟨#[116, 105, 116, 108, 101]⟩] 9) = W at *
  rw [← hnm]
  clear hnm r0
  have hn9 : (nm.size : Int) ≤ 5 := by omega
  have z1 : ¬ (9223372036854775807 < 1 + nm.size) := by omega
  have e1 : (⟨#[60]⟩ ++ nm : ByteArray).size = 1 + nm.size := by rw [ByteArray.size_append]; rfl
  have z2 : ¬ (9223372036854775807 < (⟨#[60]⟩ ++ nm : ByteArray).size + 1) := by omega
  have e2 : (⟨#[60]⟩ ++ nm ++ ⟨#[62]⟩ : ByteArray).size = 1 + nm.size + 1 := by rw [ByteArray.size_append, e1]; rfl
  have z3 : ¬ (9223372036854775807 < (⟨#[60]⟩ ++ nm ++ ⟨#[62]⟩ : ByteArray).size + S.size) := by omega
  have e3 : (⟨#[60]⟩ ++ nm ++ ⟨#[62]⟩ ++ S : ByteArray).size = 1 + nm.size + 1 + S.size := by rw [ByteArray.size_append, e2]
  have z4 : ¬ (9223372036854775807 < (⟨#[60]⟩ ++ nm ++ ⟨#[62]⟩ ++ S : ByteArray).size + 2) := by omega
  have e4 : (⟨#[60]⟩ ++ nm ++ ⟨#[62]⟩ ++ S ++ ⟨#[60, 47]⟩ : ByteArray).size = 1 + nm.size + 1 + S.size + 2 := by rw [ByteArray.size_append, e3]; rfl
  have z5 : ¬ (9223372036854775807 < (⟨#[60]⟩ ++ nm ++ ⟨#[62]⟩ ++ S ++ ⟨#[60, 47]⟩ : ByteArray).size + nm.size) := by omega
  have e5 : (⟨#[60]⟩ ++ nm ++ ⟨#[62]⟩ ++ S ++ ⟨#[60, 47]⟩ ++ nm : ByteArray).size = 1 + nm.size + 1 + S.size + 2 + nm.size := by rw [ByteArray.size_append, e4]
  have z6 : ¬ (9223372036854775807 < (⟨#[60]⟩ ++ nm ++ ⟨#[62]⟩ ++ S ++ ⟨#[60, 47]⟩ ++ nm : ByteArray).size + 1) := by omega
  have y1 : ¬ (9223372036854775807 < S.size + 1) := by omega
  have d1 : (S ++ ⟨#[60]⟩ : ByteArray).size = S.size + 1 := by rw [ByteArray.size_append]; rfl
  have y2 : ¬ (9223372036854775807 < (S ++ ⟨#[60]⟩ : ByteArray).size + nm.size) := by omega
  have d2 : (S ++ ⟨#[60]⟩ ++ nm : ByteArray).size = S.size + 1 + nm.size := by rw [ByteArray.size_append, d1]
  have y3 : ¬ (9223372036854775807 < (S ++ ⟨#[60]⟩ ++ nm : ByteArray).size + 1) := by omega
  have x1 : ¬ (9223372036854775807 < 2 + nm.size) := by omega
  have x2 : ¬ (9223372036854775807 < (⟨#[60, 47]⟩ ++ nm : ByteArray).size + 1) := by
    rw [ByteArray.size_append, show (⟨#[60, 47]⟩ : ByteArray).size = 2 from rfl]; omega
  have hnh : ((nm.size + 2 + S.size : Nat) : Int) = (S.size : Int) + (nm.size : Int) + 2 := by omega
  have HNH := Lib.hid hnh
  clear hnh e1 e2 e3 e4 e5 d1 d2
  go_wp2_with fail
  refine (M0.out _ r1).mono ?_; rintro e w1 ⟨p2, c2, rfl, a2, b2, i2, hb⟩
  have bl := BelowOn bl hb; clear r1 hb
  go_wp2_with fail
  refine (F0.out _ _ _ i2 a2 b2).mono ?_; rintro e w3 ⟨rfl, hb⟩
  have bl := BelowOn bl hb; clear hb i2
  go_wp2_with fail
  refine (HB.out.full _ bl).mono ?_; rintro e w5 ⟨pp, cp, xp, zp, rfl, hcp, ip, hb⟩
  have bl := BelowOn bl hb; clear hb
  go_wp2_with fail
  refine (HB.out.tag _ bl).mono ?_; rintro e w6 ⟨pq, cq, rfl, hb⟩
  have bl := BelowOn bl hb; have ip := ip.call hb; clear hb
  go_wp2_with fail
  refine (HB.out.head _ bl).mono ?_; rintro e w7 ⟨pr, cr, rfl, hb⟩
  rw [HNH.out]
  have bl := BelowOn bl hb; have ip := ip.call hb; clear hb
  go_wp2_with fail
  refine (HB.out.clos _ bl).mono ?_; rintro e w8 ⟨ps, cs, rfl, hb⟩
  have bl := BelowOn bl hb; have ip := ip.call hb; clear hb
  obtain ⟨b, rfl, hltb, m0, m1, m2⟩ := ip.row 1 (show 1 < 3 by omega)
  have g1 : w8.cell? ⟨b.block, b.off + 3 + 1, none⟩ = some (.string ⟨#[49]⟩) := by
    have := m1
    unfold Addr.add at this; simpa using this
  have g2 : w8.cell? ⟨b.block, b.off + 3 + 2, none⟩ = some (.string S) := by
    have := m2
    unfold Addr.add at this; simpa using this
  clear m0 m1 m2
  go_wp2_with fail
  refine (HK.out _ bl).mono ?_; rintro e w9 ⟨rfl, hb⟩
  have bl := BelowOn bl hb; clear hb
  go_wp2_with fail
  go_ret
  exact ⟨rfl, bl⟩
set_option maxHeartbeats 6400000 in
theorem blocks_1 (p0 : Option Addr) (c0 : Nat) (a0 : List Int) (a1 : Int) (w : World) (r0 : Ones w (Value.int .i64) p0 a0) (o0 : ∀ i (h : i < a0.length), (Lit.int .i64 (a0[i]'h)).wf = true) (n0 : a0.length ≤ c0) (m0 : c0 ≤ maxLen) (w1 : (Lit.int .i64 a1).wf = true) (hI : ItoaOk 1000000000 w) (hM : Mx w) (l0 : a0.length ≤ 60) (hj : a1 % 5 = 1) :
    Calls Tryd.prog 8 #[.slice p0 a0.length c0, .int .i64 a1] w fun e w' => e = .returned (.bool true) ∧ Below w.heap.size w w' := by
  have HK := Lib.hid (fun W (h : Below w.heap.size w W) => known_any W (hM.call h))
  have HB := Lib.hid (blc_of bn_1 a0 w hM hI cl_1)
  have hnf : (⟨#[104]⟩ : ByteArray).size ≤ 5 := by decide
  clear hM hI
  have q0 : decide (60 < a0.length) = false := decide_eq_false (by omega)
  have hpl := fun W => place_any a1 5 W (by omega) (by omega) w1
  rw [hj] at hpl
  have PL := Lib.hid hpl
  clear hpl hj w1
  have M0 := Lib.hid (fun W h => rmade_any p0 c0 a0 W h o0 n0 m0)
  unfold EndF at M0
  have v0 := mk_valid a0
  have x0 := oks_valid (valE_zero v0).2.2 (bk_txt a0)
  have f0 := fun p c W (i : Its W p (mk a0 true true)) (a : (mk a0 true true).length ≤ c) (b : c ≤ maxLen) => encode_any p c (mk a0 true true) W i x0 a b
  rw [encE_ok v0 (any_tags (mk_made a0).nb)] at f0
  have hsz : (bsL (encM (mk a0 true true))).size ≤ 4000000 := by rw [bsL_size]; have := enc_bytes v0; omega
  dsimp only at f0
  generalize bsL (encM (mk a0 true true)) = S at *
  generalize mk a0 true true = G at *
  have F0 := Lib.hid f0
  have hs9 : (S.size : Int) ≤ 4000000 := by omega
  clear f0 x0 v0 o0
  go_enter Tryd.func8, Tryd.ntmps8
  go_wp2_with fail
  refine (PL.out _).mono ?_; rintro e w4 ⟨rfl, rfl⟩
  have bl := blw (Below.refl w.heap.size w) (.cells #[.string ⟨#[112]⟩, .string ⟨#[104]⟩, .string ⟨#[108, 105]⟩, .string ⟨#[116, 100]⟩, .string ⟨#[116, 105, 116, 108, 101]⟩] 9)
  have r1 := r0.call (blw (Below.refl w.heap.size w) (.cells #[.string ⟨#[112]⟩, .string ⟨#[104]⟩, .string ⟨#[108, 105]⟩, .string ⟨#[116, 100]⟩, .string ⟨#[116, 105, 116, 108, 101]⟩] 9))
  go_upto_region 4 with fail
  obtain ⟨nm, hnm⟩ : ∃ nm, nm = (⟨#[104]⟩ : ByteArray) := ⟨_, rfl⟩
  rw [← hnm] at HB hnf
  change Code.wp _ _ _ _ (w.alloc (.cells #[.string ⟨#[112]⟩, .string ⟨#[104]⟩, .string ⟨#[108, 105]⟩, .string ⟨#[116, 100]⟩, .string ⟨#[116, 105, 116, 108, 101]⟩] 9))
  generalize w.alloc (.cells #[.string ⟨#[112]⟩, .string ⟨#[104]⟩, .string ⟨#[108, 105]⟩, .string ⟨#[116, 100]⟩, .string ⟨#[116, 105, 116, 108, 101]⟩] 9) = W at *
  rw [← hnm]
  clear hnm r0
  have hn9 : (nm.size : Int) ≤ 5 := by omega
  have z1 : ¬ (9223372036854775807 < 1 + nm.size) := by omega
  have e1 : (⟨#[60]⟩ ++ nm : ByteArray).size = 1 + nm.size := by rw [ByteArray.size_append]; rfl
  have z2 : ¬ (9223372036854775807 < (⟨#[60]⟩ ++ nm : ByteArray).size + 1) := by omega
  have e2 : (⟨#[60]⟩ ++ nm ++ ⟨#[62]⟩ : ByteArray).size = 1 + nm.size + 1 := by rw [ByteArray.size_append, e1]; rfl
  have z3 : ¬ (9223372036854775807 < (⟨#[60]⟩ ++ nm ++ ⟨#[62]⟩ : ByteArray).size + S.size) := by omega
  have e3 : (⟨#[60]⟩ ++ nm ++ ⟨#[62]⟩ ++ S : ByteArray).size = 1 + nm.size + 1 + S.size := by rw [ByteArray.size_append, e2]
  have z4 : ¬ (9223372036854775807 < (⟨#[60]⟩ ++ nm ++ ⟨#[62]⟩ ++ S : ByteArray).size + 2) := by omega
  have e4 : (⟨#[60]⟩ ++ nm ++ ⟨#[62]⟩ ++ S ++ ⟨#[60, 47]⟩ : ByteArray).size = 1 + nm.size + 1 + S.size + 2 := by rw [ByteArray.size_append, e3]; rfl
  have z5 : ¬ (9223372036854775807 < (⟨#[60]⟩ ++ nm ++ ⟨#[62]⟩ ++ S ++ ⟨#[60, 47]⟩ : ByteArray).size + nm.size) := by omega
  have e5 : (⟨#[60]⟩ ++ nm ++ ⟨#[62]⟩ ++ S ++ ⟨#[60, 47]⟩ ++ nm : ByteArray).size = 1 + nm.size + 1 + S.size + 2 + nm.size := by rw [ByteArray.size_append, e4]
  have z6 : ¬ (9223372036854775807 < (⟨#[60]⟩ ++ nm ++ ⟨#[62]⟩ ++ S ++ ⟨#[60, 47]⟩ ++ nm : ByteArray).size + 1) := by omega
  have y1 : ¬ (9223372036854775807 < S.size + 1) := by omega
  have d1 : (S ++ ⟨#[60]⟩ : ByteArray).size = S.size + 1 := by rw [ByteArray.size_append]; rfl
  have y2 : ¬ (9223372036854775807 < (S ++ ⟨#[60]⟩ : ByteArray).size + nm.size) := by omega
  have d2 : (S ++ ⟨#[60]⟩ ++ nm : ByteArray).size = S.size + 1 + nm.size := by rw [ByteArray.size_append, d1]
  have y3 : ¬ (9223372036854775807 < (S ++ ⟨#[60]⟩ ++ nm : ByteArray).size + 1) := by omega
  have x1 : ¬ (9223372036854775807 < 2 + nm.size) := by omega
  have x2 : ¬ (9223372036854775807 < (⟨#[60, 47]⟩ ++ nm : ByteArray).size + 1) := by
    rw [ByteArray.size_append, show (⟨#[60, 47]⟩ : ByteArray).size = 2 from rfl]; omega
  have hnh : ((nm.size + 2 + S.size : Nat) : Int) = (S.size : Int) + (nm.size : Int) + 2 := by omega
  have HNH := Lib.hid hnh
  clear hnh e1 e2 e3 e4 e5 d1 d2
  go_wp2_with fail
  refine (M0.out _ r1).mono ?_; rintro e w1 ⟨p2, c2, rfl, a2, b2, i2, hb⟩
  have bl := BelowOn bl hb; clear r1 hb
  go_wp2_with fail
  refine (F0.out _ _ _ i2 a2 b2).mono ?_; rintro e w3 ⟨rfl, hb⟩
  have bl := BelowOn bl hb; clear hb i2
  go_wp2_with fail
  refine (HB.out.full _ bl).mono ?_; rintro e w5 ⟨pp, cp, xp, zp, rfl, hcp, ip, hb⟩
  have bl := BelowOn bl hb; clear hb
  go_wp2_with fail
  refine (HB.out.tag _ bl).mono ?_; rintro e w6 ⟨pq, cq, rfl, hb⟩
  have bl := BelowOn bl hb; have ip := ip.call hb; clear hb
  go_wp2_with fail
  refine (HB.out.head _ bl).mono ?_; rintro e w7 ⟨pr, cr, rfl, hb⟩
  rw [HNH.out]
  have bl := BelowOn bl hb; have ip := ip.call hb; clear hb
  go_wp2_with fail
  refine (HB.out.clos _ bl).mono ?_; rintro e w8 ⟨ps, cs, rfl, hb⟩
  have bl := BelowOn bl hb; have ip := ip.call hb; clear hb
  obtain ⟨b, rfl, hltb, m0, m1, m2⟩ := ip.row 1 (show 1 < 3 by omega)
  have g1 : w8.cell? ⟨b.block, b.off + 3 + 1, none⟩ = some (.string ⟨#[49]⟩) := by
    have := m1
    unfold Addr.add at this; simpa using this
  have g2 : w8.cell? ⟨b.block, b.off + 3 + 2, none⟩ = some (.string S) := by
    have := m2
    unfold Addr.add at this; simpa using this
  clear m0 m1 m2
  go_wp2_with fail
  refine (HK.out _ bl).mono ?_; rintro e w9 ⟨rfl, hb⟩
  have bl := BelowOn bl hb; clear hb
  go_wp2_with fail
  go_ret
  exact ⟨rfl, bl⟩
set_option maxHeartbeats 6400000 in
theorem blocks_2 (p0 : Option Addr) (c0 : Nat) (a0 : List Int) (a1 : Int) (w : World) (r0 : Ones w (Value.int .i64) p0 a0) (o0 : ∀ i (h : i < a0.length), (Lit.int .i64 (a0[i]'h)).wf = true) (n0 : a0.length ≤ c0) (m0 : c0 ≤ maxLen) (w1 : (Lit.int .i64 a1).wf = true) (hI : ItoaOk 1000000000 w) (hM : Mx w) (l0 : a0.length ≤ 60) (hj : a1 % 5 = 2) :
    Calls Tryd.prog 8 #[.slice p0 a0.length c0, .int .i64 a1] w fun e w' => e = .returned (.bool true) ∧ Below w.heap.size w w' := by
  have HK := Lib.hid (fun W (h : Below w.heap.size w W) => known_any W (hM.call h))
  have HB := Lib.hid (blc_of bn_2 a0 w hM hI cl_2)
  have hnf : (⟨#[108, 105]⟩ : ByteArray).size ≤ 5 := by decide
  clear hM hI
  have q0 : decide (60 < a0.length) = false := decide_eq_false (by omega)
  have hpl := fun W => place_any a1 5 W (by omega) (by omega) w1
  rw [hj] at hpl
  have PL := Lib.hid hpl
  clear hpl hj w1
  have M0 := Lib.hid (fun W h => rmade_any p0 c0 a0 W h o0 n0 m0)
  unfold EndF at M0
  have v0 := mk_valid a0
  have x0 := oks_valid (valE_zero v0).2.2 (bk_txt a0)
  have f0 := fun p c W (i : Its W p (mk a0 true true)) (a : (mk a0 true true).length ≤ c) (b : c ≤ maxLen) => encode_any p c (mk a0 true true) W i x0 a b
  rw [encE_ok v0 (any_tags (mk_made a0).nb)] at f0
  have hsz : (bsL (encM (mk a0 true true))).size ≤ 4000000 := by rw [bsL_size]; have := enc_bytes v0; omega
  dsimp only at f0
  generalize bsL (encM (mk a0 true true)) = S at *
  generalize mk a0 true true = G at *
  have F0 := Lib.hid f0
  have hs9 : (S.size : Int) ≤ 4000000 := by omega
  clear f0 x0 v0 o0
  go_enter Tryd.func8, Tryd.ntmps8
  go_wp2_with fail
  refine (PL.out _).mono ?_; rintro e w4 ⟨rfl, rfl⟩
  have bl := blw (Below.refl w.heap.size w) (.cells #[.string ⟨#[112]⟩, .string ⟨#[104]⟩, .string ⟨#[108, 105]⟩, .string ⟨#[116, 100]⟩, .string ⟨#[116, 105, 116, 108, 101]⟩] 9)
  have r1 := r0.call (blw (Below.refl w.heap.size w) (.cells #[.string ⟨#[112]⟩, .string ⟨#[104]⟩, .string ⟨#[108, 105]⟩, .string ⟨#[116, 100]⟩, .string ⟨#[116, 105, 116, 108, 101]⟩] 9))
  go_upto_region 4 with fail
  obtain ⟨nm, hnm⟩ : ∃ nm, nm = (⟨#[108, 105]⟩ : ByteArray) := ⟨_, rfl⟩
  rw [← hnm] at HB hnf
  change Code.wp _ _ _ _ (w.alloc (.cells #[.string ⟨#[112]⟩, .string ⟨#[104]⟩, .string ⟨#[108, 105]⟩, .string ⟨#[116, 100]⟩, .string ⟨#[116, 105, 116, 108, 101]⟩] 9))
  generalize w.alloc (.cells #[.string ⟨#[112]⟩, .string ⟨#[104]⟩, .string ⟨#[108, 105]⟩, .string ⟨#[116, 100]⟩, .string ⟨#[116, 105, 116, 108, 101]⟩] 9) = W at *
  rw [← hnm]
  clear hnm r0
  have hn9 : (nm.size : Int) ≤ 5 := by omega
  have z1 : ¬ (9223372036854775807 < 1 + nm.size) := by omega
  have e1 : (⟨#[60]⟩ ++ nm : ByteArray).size = 1 + nm.size := by rw [ByteArray.size_append]; rfl
  have z2 : ¬ (9223372036854775807 < (⟨#[60]⟩ ++ nm : ByteArray).size + 1) := by omega
  have e2 : (⟨#[60]⟩ ++ nm ++ ⟨#[62]⟩ : ByteArray).size = 1 + nm.size + 1 := by rw [ByteArray.size_append, e1]; rfl
  have z3 : ¬ (9223372036854775807 < (⟨#[60]⟩ ++ nm ++ ⟨#[62]⟩ : ByteArray).size + S.size) := by omega
  have e3 : (⟨#[60]⟩ ++ nm ++ ⟨#[62]⟩ ++ S : ByteArray).size = 1 + nm.size + 1 + S.size := by rw [ByteArray.size_append, e2]
  have z4 : ¬ (9223372036854775807 < (⟨#[60]⟩ ++ nm ++ ⟨#[62]⟩ ++ S : ByteArray).size + 2) := by omega
  have e4 : (⟨#[60]⟩ ++ nm ++ ⟨#[62]⟩ ++ S ++ ⟨#[60, 47]⟩ : ByteArray).size = 1 + nm.size + 1 + S.size + 2 := by rw [ByteArray.size_append, e3]; rfl
  have z5 : ¬ (9223372036854775807 < (⟨#[60]⟩ ++ nm ++ ⟨#[62]⟩ ++ S ++ ⟨#[60, 47]⟩ : ByteArray).size + nm.size) := by omega
  have e5 : (⟨#[60]⟩ ++ nm ++ ⟨#[62]⟩ ++ S ++ ⟨#[60, 47]⟩ ++ nm : ByteArray).size = 1 + nm.size + 1 + S.size + 2 + nm.size := by rw [ByteArray.size_append, e4]
  have z6 : ¬ (9223372036854775807 < (⟨#[60]⟩ ++ nm ++ ⟨#[62]⟩ ++ S ++ ⟨#[60, 47]⟩ ++ nm : ByteArray).size + 1) := by omega
  have y1 : ¬ (9223372036854775807 < S.size + 1) := by omega
  have d1 : (S ++ ⟨#[60]⟩ : ByteArray).size = S.size + 1 := by rw [ByteArray.size_append]; rfl
  have y2 : ¬ (9223372036854775807 < (S ++ ⟨#[60]⟩ : ByteArray).size + nm.size) := by omega
  have d2 : (S ++ ⟨#[60]⟩ ++ nm : ByteArray).size = S.size + 1 + nm.size := by rw [ByteArray.size_append, d1]
  have y3 : ¬ (9223372036854775807 < (S ++ ⟨#[60]⟩ ++ nm : ByteArray).size + 1) := by omega
  have x1 : ¬ (9223372036854775807 < 2 + nm.size) := by omega
  have x2 : ¬ (9223372036854775807 < (⟨#[60, 47]⟩ ++ nm : ByteArray).size + 1) := by
    rw [ByteArray.size_append, show (⟨#[60, 47]⟩ : ByteArray).size = 2 from rfl]; omega
  have hnh : ((nm.size + 2 + S.size : Nat) : Int) = (S.size : Int) + (nm.size : Int) + 2 := by omega
  have HNH := Lib.hid hnh
  clear hnh e1 e2 e3 e4 e5 d1 d2
  go_wp2_with fail
  refine (M0.out _ r1).mono ?_; rintro e w1 ⟨p2, c2, rfl, a2, b2, i2, hb⟩
  have bl := BelowOn bl hb; clear r1 hb
  go_wp2_with fail
  refine (F0.out _ _ _ i2 a2 b2).mono ?_; rintro e w3 ⟨rfl, hb⟩
  have bl := BelowOn bl hb; clear hb i2
  go_wp2_with fail
  refine (HB.out.full _ bl).mono ?_; rintro e w5 ⟨pp, cp, xp, zp, rfl, hcp, ip, hb⟩
  have bl := BelowOn bl hb; clear hb
  go_wp2_with fail
  refine (HB.out.tag _ bl).mono ?_; rintro e w6 ⟨pq, cq, rfl, hb⟩
  have bl := BelowOn bl hb; have ip := ip.call hb; clear hb
  go_wp2_with fail
  refine (HB.out.head _ bl).mono ?_; rintro e w7 ⟨pr, cr, rfl, hb⟩
  rw [HNH.out]
  have bl := BelowOn bl hb; have ip := ip.call hb; clear hb
  go_wp2_with fail
  refine (HB.out.clos _ bl).mono ?_; rintro e w8 ⟨ps, cs, rfl, hb⟩
  have bl := BelowOn bl hb; have ip := ip.call hb; clear hb
  obtain ⟨b, rfl, hltb, m0, m1, m2⟩ := ip.row 1 (show 1 < 3 by omega)
  have g1 : w8.cell? ⟨b.block, b.off + 3 + 1, none⟩ = some (.string ⟨#[49]⟩) := by
    have := m1
    unfold Addr.add at this; simpa using this
  have g2 : w8.cell? ⟨b.block, b.off + 3 + 2, none⟩ = some (.string S) := by
    have := m2
    unfold Addr.add at this; simpa using this
  clear m0 m1 m2
  go_wp2_with fail
  refine (HK.out _ bl).mono ?_; rintro e w9 ⟨rfl, hb⟩
  have bl := BelowOn bl hb; clear hb
  go_wp2_with fail
  go_ret
  exact ⟨rfl, bl⟩
set_option maxHeartbeats 6400000 in
theorem blocks_3 (p0 : Option Addr) (c0 : Nat) (a0 : List Int) (a1 : Int) (w : World) (r0 : Ones w (Value.int .i64) p0 a0) (o0 : ∀ i (h : i < a0.length), (Lit.int .i64 (a0[i]'h)).wf = true) (n0 : a0.length ≤ c0) (m0 : c0 ≤ maxLen) (w1 : (Lit.int .i64 a1).wf = true) (hI : ItoaOk 1000000000 w) (hM : Mx w) (l0 : a0.length ≤ 60) (hj : a1 % 5 = 3) :
    Calls Tryd.prog 8 #[.slice p0 a0.length c0, .int .i64 a1] w fun e w' => e = .returned (.bool true) ∧ Below w.heap.size w w' := by
  have HK := Lib.hid (fun W (h : Below w.heap.size w W) => known_any W (hM.call h))
  have HB := Lib.hid (blc_of bn_3 a0 w hM hI cl_3)
  have hnf : (⟨#[116, 100]⟩ : ByteArray).size ≤ 5 := by decide
  clear hM hI
  have q0 : decide (60 < a0.length) = false := decide_eq_false (by omega)
  have hpl := fun W => place_any a1 5 W (by omega) (by omega) w1
  rw [hj] at hpl
  have PL := Lib.hid hpl
  clear hpl hj w1
  have M0 := Lib.hid (fun W h => rmade_any p0 c0 a0 W h o0 n0 m0)
  unfold EndF at M0
  have v0 := mk_valid a0
  have x0 := oks_valid (valE_zero v0).2.2 (bk_txt a0)
  have f0 := fun p c W (i : Its W p (mk a0 true true)) (a : (mk a0 true true).length ≤ c) (b : c ≤ maxLen) => encode_any p c (mk a0 true true) W i x0 a b
  rw [encE_ok v0 (any_tags (mk_made a0).nb)] at f0
  have hsz : (bsL (encM (mk a0 true true))).size ≤ 4000000 := by rw [bsL_size]; have := enc_bytes v0; omega
  dsimp only at f0
  generalize bsL (encM (mk a0 true true)) = S at *
  generalize mk a0 true true = G at *
  have F0 := Lib.hid f0
  have hs9 : (S.size : Int) ≤ 4000000 := by omega
  clear f0 x0 v0 o0
  go_enter Tryd.func8, Tryd.ntmps8
  go_wp2_with fail
  refine (PL.out _).mono ?_; rintro e w4 ⟨rfl, rfl⟩
  have bl := blw (Below.refl w.heap.size w) (.cells #[.string ⟨#[112]⟩, .string ⟨#[104]⟩, .string ⟨#[108, 105]⟩, .string ⟨#[116, 100]⟩, .string ⟨#[116, 105, 116, 108, 101]⟩] 9)
  have r1 := r0.call (blw (Below.refl w.heap.size w) (.cells #[.string ⟨#[112]⟩, .string ⟨#[104]⟩, .string ⟨#[108, 105]⟩, .string ⟨#[116, 100]⟩, .string ⟨#[116, 105, 116, 108, 101]⟩] 9))
  go_upto_region 4 with fail
  obtain ⟨nm, hnm⟩ : ∃ nm, nm = (⟨#[116, 100]⟩ : ByteArray) := ⟨_, rfl⟩
  rw [← hnm] at HB hnf
  change Code.wp _ _ _ _ (w.alloc (.cells #[.string ⟨#[112]⟩, .string ⟨#[104]⟩, .string ⟨#[108, 105]⟩, .string ⟨#[116, 100]⟩, .string ⟨#[116, 105, 116, 108, 101]⟩] 9))
  generalize w.alloc (.cells #[.string ⟨#[112]⟩, .string ⟨#[104]⟩, .string ⟨#[108, 105]⟩, .string ⟨#[116, 100]⟩, .string ⟨#[116, 105, 116, 108, 101]⟩] 9) = W at *
  rw [← hnm]
  clear hnm r0
  have hn9 : (nm.size : Int) ≤ 5 := by omega
  have z1 : ¬ (9223372036854775807 < 1 + nm.size) := by omega
  have e1 : (⟨#[60]⟩ ++ nm : ByteArray).size = 1 + nm.size := by rw [ByteArray.size_append]; rfl
  have z2 : ¬ (9223372036854775807 < (⟨#[60]⟩ ++ nm : ByteArray).size + 1) := by omega
  have e2 : (⟨#[60]⟩ ++ nm ++ ⟨#[62]⟩ : ByteArray).size = 1 + nm.size + 1 := by rw [ByteArray.size_append, e1]; rfl
  have z3 : ¬ (9223372036854775807 < (⟨#[60]⟩ ++ nm ++ ⟨#[62]⟩ : ByteArray).size + S.size) := by omega
  have e3 : (⟨#[60]⟩ ++ nm ++ ⟨#[62]⟩ ++ S : ByteArray).size = 1 + nm.size + 1 + S.size := by rw [ByteArray.size_append, e2]
  have z4 : ¬ (9223372036854775807 < (⟨#[60]⟩ ++ nm ++ ⟨#[62]⟩ ++ S : ByteArray).size + 2) := by omega
  have e4 : (⟨#[60]⟩ ++ nm ++ ⟨#[62]⟩ ++ S ++ ⟨#[60, 47]⟩ : ByteArray).size = 1 + nm.size + 1 + S.size + 2 := by rw [ByteArray.size_append, e3]; rfl
  have z5 : ¬ (9223372036854775807 < (⟨#[60]⟩ ++ nm ++ ⟨#[62]⟩ ++ S ++ ⟨#[60, 47]⟩ : ByteArray).size + nm.size) := by omega
  have e5 : (⟨#[60]⟩ ++ nm ++ ⟨#[62]⟩ ++ S ++ ⟨#[60, 47]⟩ ++ nm : ByteArray).size = 1 + nm.size + 1 + S.size + 2 + nm.size := by rw [ByteArray.size_append, e4]
  have z6 : ¬ (9223372036854775807 < (⟨#[60]⟩ ++ nm ++ ⟨#[62]⟩ ++ S ++ ⟨#[60, 47]⟩ ++ nm : ByteArray).size + 1) := by omega
  have y1 : ¬ (9223372036854775807 < S.size + 1) := by omega
  have d1 : (S ++ ⟨#[60]⟩ : ByteArray).size = S.size + 1 := by rw [ByteArray.size_append]; rfl
  have y2 : ¬ (9223372036854775807 < (S ++ ⟨#[60]⟩ : ByteArray).size + nm.size) := by omega
  have d2 : (S ++ ⟨#[60]⟩ ++ nm : ByteArray).size = S.size + 1 + nm.size := by rw [ByteArray.size_append, d1]
  have y3 : ¬ (9223372036854775807 < (S ++ ⟨#[60]⟩ ++ nm : ByteArray).size + 1) := by omega
  have x1 : ¬ (9223372036854775807 < 2 + nm.size) := by omega
  have x2 : ¬ (9223372036854775807 < (⟨#[60, 47]⟩ ++ nm : ByteArray).size + 1) := by
    rw [ByteArray.size_append, show (⟨#[60, 47]⟩ : ByteArray).size = 2 from rfl]; omega
  have hnh : ((nm.size + 2 + S.size : Nat) : Int) = (S.size : Int) + (nm.size : Int) + 2 := by omega
  have HNH := Lib.hid hnh
  clear hnh e1 e2 e3 e4 e5 d1 d2
  go_wp2_with fail
  refine (M0.out _ r1).mono ?_; rintro e w1 ⟨p2, c2, rfl, a2, b2, i2, hb⟩
  have bl := BelowOn bl hb; clear r1 hb
  go_wp2_with fail
  refine (F0.out _ _ _ i2 a2 b2).mono ?_; rintro e w3 ⟨rfl, hb⟩
  have bl := BelowOn bl hb; clear hb i2
  go_wp2_with fail
  refine (HB.out.full _ bl).mono ?_; rintro e w5 ⟨pp, cp, xp, zp, rfl, hcp, ip, hb⟩
  have bl := BelowOn bl hb; clear hb
  go_wp2_with fail
  refine (HB.out.tag _ bl).mono ?_; rintro e w6 ⟨pq, cq, rfl, hb⟩
  have bl := BelowOn bl hb; have ip := ip.call hb; clear hb
  go_wp2_with fail
  refine (HB.out.head _ bl).mono ?_; rintro e w7 ⟨pr, cr, rfl, hb⟩
  rw [HNH.out]
  have bl := BelowOn bl hb; have ip := ip.call hb; clear hb
  go_wp2_with fail
  refine (HB.out.clos _ bl).mono ?_; rintro e w8 ⟨ps, cs, rfl, hb⟩
  have bl := BelowOn bl hb; have ip := ip.call hb; clear hb
  obtain ⟨b, rfl, hltb, m0, m1, m2⟩ := ip.row 1 (show 1 < 3 by omega)
  have g1 : w8.cell? ⟨b.block, b.off + 3 + 1, none⟩ = some (.string ⟨#[49]⟩) := by
    have := m1
    unfold Addr.add at this; simpa using this
  have g2 : w8.cell? ⟨b.block, b.off + 3 + 2, none⟩ = some (.string S) := by
    have := m2
    unfold Addr.add at this; simpa using this
  clear m0 m1 m2
  go_wp2_with fail
  refine (HK.out _ bl).mono ?_; rintro e w9 ⟨rfl, hb⟩
  have bl := BelowOn bl hb; clear hb
  go_wp2_with fail
  go_ret
  exact ⟨rfl, bl⟩
set_option maxHeartbeats 6400000 in
theorem blocks_4 (p0 : Option Addr) (c0 : Nat) (a0 : List Int) (a1 : Int) (w : World) (r0 : Ones w (Value.int .i64) p0 a0) (o0 : ∀ i (h : i < a0.length), (Lit.int .i64 (a0[i]'h)).wf = true) (n0 : a0.length ≤ c0) (m0 : c0 ≤ maxLen) (w1 : (Lit.int .i64 a1).wf = true) (hI : ItoaOk 1000000000 w) (hM : Mx w) (l0 : a0.length ≤ 60) (hj : a1 % 5 = 4) :
    Calls Tryd.prog 8 #[.slice p0 a0.length c0, .int .i64 a1] w fun e w' => e = .returned (.bool true) ∧ Below w.heap.size w w' := by
  have HK := Lib.hid (fun W (h : Below w.heap.size w W) => known_any W (hM.call h))
  have HB := Lib.hid (blc_of bn_4 a0 w hM hI cl_4)
  have hnf : (⟨#[116, 105, 116, 108, 101]⟩ : ByteArray).size ≤ 5 := by decide
  clear hM hI
  have q0 : decide (60 < a0.length) = false := decide_eq_false (by omega)
  have hpl := fun W => place_any a1 5 W (by omega) (by omega) w1
  rw [hj] at hpl
  have PL := Lib.hid hpl
  clear hpl hj w1
  have M0 := Lib.hid (fun W h => rmade_any p0 c0 a0 W h o0 n0 m0)
  unfold EndF at M0
  have v0 := mk_valid a0
  have x0 := oks_valid (valE_zero v0).2.2 (bk_txt a0)
  have f0 := fun p c W (i : Its W p (mk a0 true true)) (a : (mk a0 true true).length ≤ c) (b : c ≤ maxLen) => encode_any p c (mk a0 true true) W i x0 a b
  rw [encE_ok v0 (any_tags (mk_made a0).nb)] at f0
  have hsz : (bsL (encM (mk a0 true true))).size ≤ 4000000 := by rw [bsL_size]; have := enc_bytes v0; omega
  dsimp only at f0
  generalize bsL (encM (mk a0 true true)) = S at *
  generalize mk a0 true true = G at *
  have F0 := Lib.hid f0
  have hs9 : (S.size : Int) ≤ 4000000 := by omega
  clear f0 x0 v0 o0
  go_enter Tryd.func8, Tryd.ntmps8
  go_wp2_with fail
  refine (PL.out _).mono ?_; rintro e w4 ⟨rfl, rfl⟩
  have bl := blw (Below.refl w.heap.size w) (.cells #[.string ⟨#[112]⟩, .string ⟨#[104]⟩, .string ⟨#[108, 105]⟩, .string ⟨#[116, 100]⟩, .string ⟨#[116, 105, 116, 108, 101]⟩] 9)
  have r1 := r0.call (blw (Below.refl w.heap.size w) (.cells #[.string ⟨#[112]⟩, .string ⟨#[104]⟩, .string ⟨#[108, 105]⟩, .string ⟨#[116, 100]⟩, .string ⟨#[116, 105, 116, 108, 101]⟩] 9))
  go_upto_region 4 with fail
  obtain ⟨nm, hnm⟩ : ∃ nm, nm = (⟨#[116, 105, 116, 108, 101]⟩ : ByteArray) := ⟨_, rfl⟩
  rw [← hnm] at HB hnf
  change Code.wp _ _ _ _ (w.alloc (.cells #[.string ⟨#[112]⟩, .string ⟨#[104]⟩, .string ⟨#[108, 105]⟩, .string ⟨#[116, 100]⟩, .string ⟨#[116, 105, 116, 108, 101]⟩] 9))
  generalize w.alloc (.cells #[.string ⟨#[112]⟩, .string ⟨#[104]⟩, .string ⟨#[108, 105]⟩, .string ⟨#[116, 100]⟩, .string ⟨#[116, 105, 116, 108, 101]⟩] 9) = W at *
  rw [← hnm]
  clear hnm r0
  have hn9 : (nm.size : Int) ≤ 5 := by omega
  have z1 : ¬ (9223372036854775807 < 1 + nm.size) := by omega
  have e1 : (⟨#[60]⟩ ++ nm : ByteArray).size = 1 + nm.size := by rw [ByteArray.size_append]; rfl
  have z2 : ¬ (9223372036854775807 < (⟨#[60]⟩ ++ nm : ByteArray).size + 1) := by omega
  have e2 : (⟨#[60]⟩ ++ nm ++ ⟨#[62]⟩ : ByteArray).size = 1 + nm.size + 1 := by rw [ByteArray.size_append, e1]; rfl
  have z3 : ¬ (9223372036854775807 < (⟨#[60]⟩ ++ nm ++ ⟨#[62]⟩ : ByteArray).size + S.size) := by omega
  have e3 : (⟨#[60]⟩ ++ nm ++ ⟨#[62]⟩ ++ S : ByteArray).size = 1 + nm.size + 1 + S.size := by rw [ByteArray.size_append, e2]
  have z4 : ¬ (9223372036854775807 < (⟨#[60]⟩ ++ nm ++ ⟨#[62]⟩ ++ S : ByteArray).size + 2) := by omega
  have e4 : (⟨#[60]⟩ ++ nm ++ ⟨#[62]⟩ ++ S ++ ⟨#[60, 47]⟩ : ByteArray).size = 1 + nm.size + 1 + S.size + 2 := by rw [ByteArray.size_append, e3]; rfl
  have z5 : ¬ (9223372036854775807 < (⟨#[60]⟩ ++ nm ++ ⟨#[62]⟩ ++ S ++ ⟨#[60, 47]⟩ : ByteArray).size + nm.size) := by omega
  have e5 : (⟨#[60]⟩ ++ nm ++ ⟨#[62]⟩ ++ S ++ ⟨#[60, 47]⟩ ++ nm : ByteArray).size = 1 + nm.size + 1 + S.size + 2 + nm.size := by rw [ByteArray.size_append, e4]
  have z6 : ¬ (9223372036854775807 < (⟨#[60]⟩ ++ nm ++ ⟨#[62]⟩ ++ S ++ ⟨#[60, 47]⟩ ++ nm : ByteArray).size + 1) := by omega
  have y1 : ¬ (9223372036854775807 < S.size + 1) := by omega
  have d1 : (S ++ ⟨#[60]⟩ : ByteArray).size = S.size + 1 := by rw [ByteArray.size_append]; rfl
  have y2 : ¬ (9223372036854775807 < (S ++ ⟨#[60]⟩ : ByteArray).size + nm.size) := by omega
  have d2 : (S ++ ⟨#[60]⟩ ++ nm : ByteArray).size = S.size + 1 + nm.size := by rw [ByteArray.size_append, d1]
  have y3 : ¬ (9223372036854775807 < (S ++ ⟨#[60]⟩ ++ nm : ByteArray).size + 1) := by omega
  have x1 : ¬ (9223372036854775807 < 2 + nm.size) := by omega
  have x2 : ¬ (9223372036854775807 < (⟨#[60, 47]⟩ ++ nm : ByteArray).size + 1) := by
    rw [ByteArray.size_append, show (⟨#[60, 47]⟩ : ByteArray).size = 2 from rfl]; omega
  have hnh : ((nm.size + 2 + S.size : Nat) : Int) = (S.size : Int) + (nm.size : Int) + 2 := by omega
  have HNH := Lib.hid hnh
  clear hnh e1 e2 e3 e4 e5 d1 d2
  go_wp2_with fail
  refine (M0.out _ r1).mono ?_; rintro e w1 ⟨p2, c2, rfl, a2, b2, i2, hb⟩
  have bl := BelowOn bl hb; clear r1 hb
  go_wp2_with fail
  refine (F0.out _ _ _ i2 a2 b2).mono ?_; rintro e w3 ⟨rfl, hb⟩
  have bl := BelowOn bl hb; clear hb i2
  go_wp2_with fail
  refine (HB.out.full _ bl).mono ?_; rintro e w5 ⟨pp, cp, xp, zp, rfl, hcp, ip, hb⟩
  have bl := BelowOn bl hb; clear hb
  go_wp2_with fail
  refine (HB.out.tag _ bl).mono ?_; rintro e w6 ⟨pq, cq, rfl, hb⟩
  have bl := BelowOn bl hb; have ip := ip.call hb; clear hb
  go_wp2_with fail
  refine (HB.out.head _ bl).mono ?_; rintro e w7 ⟨pr, cr, rfl, hb⟩
  rw [HNH.out]
  have bl := BelowOn bl hb; have ip := ip.call hb; clear hb
  go_wp2_with fail
  refine (HB.out.clos _ bl).mono ?_; rintro e w8 ⟨ps, cs, rfl, hb⟩
  have bl := BelowOn bl hb; have ip := ip.call hb; clear hb
  obtain ⟨b, rfl, hltb, m0, m1, m2⟩ := ip.row 1 (show 1 < 3 by omega)
  have g1 : w8.cell? ⟨b.block, b.off + 3 + 1, none⟩ = some (.string ⟨#[49]⟩) := by
    have := m1
    unfold Addr.add at this; simpa using this
  have g2 : w8.cell? ⟨b.block, b.off + 3 + 2, none⟩ = some (.string S) := by
    have := m2
    unfold Addr.add at this; simpa using this
  clear m0 m1 m2
  go_wp2_with fail
  refine (HK.out _ bl).mono ?_; rintro e w9 ⟨rfl, hb⟩
  have bl := BelowOn bl hb; clear hb
  go_wp2_with fail
  go_ret
  exact ⟨rfl, bl⟩
theorem blocks_any (p0 : Option Addr) (c0 : Nat) (a0 : List Int) (a1 : Int) (w : World) (r0 : Ones w (Value.int .i64) p0 a0) (o0 : ∀ i (h : i < a0.length), (Lit.int .i64 (a0[i]'h)).wf = true) (n0 : a0.length ≤ c0) (m0 : c0 ≤ maxLen) (w1 : (Lit.int .i64 a1).wf = true) (hI : ItoaOk 1000000000 w) (hM : Mx w) :
    Calls Tryd.prog 8 #[.slice p0 a0.length c0, .int .i64 a1] w fun e w' => e = .returned (.bool true) ∧ Below w.heap.size w w' := by
  by_cases l0 : a0.length ≤ 60
  case neg =>
    have HK := Lib.hid (fun W (h : Below w.heap.size w W) => known_any W (hM.call h))
    clear hM
    have z0 : 60 < a0.length := by omega
    clear r0 o0 l0
    go_enter Tryd.func8, Tryd.ntmps8
    go_wp2_with fail
    refine (HK.out _ (Below.refl _ _)).mono ?_; rintro e w1 ⟨rfl, hb⟩
    go_wp2_with fail
    go_ret
    exact ⟨rfl, hb⟩
  have u0 := Int.emod_nonneg a1 (show (5 : Int) ≠ 0 by decide)
  have u1 := Int.emod_lt_of_pos a1 (show (0 : Int) < 5 by decide)
  have : a1 % 5 = 0 ∨ a1 % 5 = 1 ∨ a1 % 5 = 2 ∨ a1 % 5 = 3 ∨ a1 % 5 = 4 := by omega
  rcases this with h | h | h | h | h
  · exact blocks_0 p0 c0 a0 a1 w r0 o0 n0 m0 w1 hI hM l0 h
  · exact blocks_1 p0 c0 a0 a1 w r0 o0 n0 m0 w1 hI hM l0 h
  · exact blocks_2 p0 c0 a0 a1 w r0 o0 n0 m0 w1 hI hM l0 h
  · exact blocks_3 p0 c0 a0 a1 w r0 o0 n0 m0 w1 hI hM l0 h
  · exact blocks_4 p0 c0 a0 a1 w r0 o0 n0 m0 w1 hI hM l0 h
end Go.Proofs.YtphkpokoeaagfaaDoor
namespace Go.Proofs.YtphkpokoeaagfaaDoor.markupBlocks
open Go.ChangeShapes Go.WideShapes Go.ChangeAt Go.RowKit
open Go.ChangeMaps (open_string shut_string)
set_option linter.unusedVariables false
set_option maxRecDepth 100000

theorem own : ownKnob Tryd.prog.godebug = none := by kernel_rfl
theorem laidOut : laidOutB Tryd.prog = true := by kernel_rfl


set_option maxHeartbeats 1600000 in
theorem walk (p0 : Option Addr) (c0 : Nat) (a0 : List Int) (a1 : Int) (w : World) (r0 : Ones w (Value.int .i64) p0 a0) (o0 : ∀ i (h : i < a0.length), (Lit.int .i64 (a0[i]'h)).wf = true) (n0 : a0.length ≤ c0) (m0 : c0 ≤ maxLen) (w1 : (Lit.int .i64 a1).wf = true) (hE : ItoaOk 1000000000 w) (hMx : Mx w) :
    Calls Tryd.prog 8 #[.slice p0 a0.length c0, .int .i64 a1] w fun e w' => e = .returned (.bool true) ∧ Below w.heap.size w w' := by
  exact blocks_any p0 c0 a0 a1 w r0 o0 n0 m0 w1 hE hMx

theorem lifted (os : Os) (started : os.Started) (H : Type) (enc : TypeId × Value → H) :
    ReturnsInHanded {} Tryd.checked os 8 .any (fun w args => (Rows.markupBlocksSpec.pre enc Tryd.prog Tryd.f8 Rows.markupBlocksRow.domain false w args ∧ laidMetH Tryd.prog Rows.markupBlocksRow.laid w) ∧ sizedMet enc Tryd.prog Tryd.f8 (OpenSpec.ofChange Rows.markupBlocksSpec) false w args)
      (Rows.markupBlocksSpec.post enc Tryd.prog Tryd.f8 false true false false) := by
  refine returnsInHanded_of_calls (C := Tryd.checked) own started (by kernel_rfl)
    (ChangeSpec.witness_shaped (enc := enc) (C := Tryd.checked) (os := os) (X := fun w _ => laidMetH Tryd.prog Rows.markupBlocksRow.laid w) false (World.laidAll Tryd.prog os Rows.markupBlocksRow.laid) #[.slice none 0 0, .int .i64 0] 8 (World.laidAll_os _ _ _) (World.shaped_of_ZipB (by kernel_rfl) (by kernel_rfl)) (by kernel_rfl) (by kernel_rfl) (by kernel_rfl) (by rw [MakeChecks.laidMetH_plain _ _ _ (by kernel_rfl)]; exact laidMet_laidAll _ (by kernel_rfl) (by kernel_rfl))) ?_
  intro w0 tape inp _ hsh _ hok hpre _
  obtain ⟨_, _, _, fn1, hfn1, _, _, _, _, hval0⟩ := hok
  obtain rfl : Tryd.f8 = fn1 := Option.some.inj (Tryd.func8.symm.trans hfn1)
  obtain ⟨⟨⟨ds, gs, before, hW0, hcnd⟩, hL0⟩, hz0⟩ := hpre
  have hW := DataW.Whole.of_heap (w' := w0.forCall tape inp) (by rfl) hW0
  have hsz0 := hz0.weights hW0
  have hL : laidMetH Tryd.prog Rows.markupBlocksRow.laid (w0.forCall tape inp) := hL0.of_heap (by rfl)
  suffices hK : Calls Tryd.prog 8 inp.args (w0.forCall tape inp) fun e W' => ∃ v, e = .returned v ∧ Rows.markupBlocksSpec.post enc Tryd.prog Tryd.f8 false true false false (w0.forCall tape inp) inp.args v W' from
    hK.mono fun e W' ⟨v, he, hp⟩ => by subst he; exact ChangeSpec.post_blind hp
  clear hW0 hz0 hL0
  generalize w0.forCall tape inp = W at *
  generalize inp.args = args at *
  generalize w0.heap.size = base at *
  have hval : ∀ (j : Nat) t v, Tryd.f8.params[j]? = some t → args[j]? = some v → Value.okWide Tryd.prog W .any base t v := hval0
  have hW' := hW
  have hlt : ∀ x ∈ before, x.block < W.heap.size := fun x hx => hW'.lt x hx
  obtain ⟨p, q, hA0, hV, rfl, hfz, hnd⟩ := hW
  have hA : DataW.TrodAll enc Tryd.prog W 0 (fun _ => true) true Tryd.f8.params.toList args.toList ds p := hA0
  rw [Tryd.params8] at hA hval hsz0
  obtain ⟨v0, vs0, d0, ds0, p0, q0, hargs, rfl, rfl, h0, r0⟩ := trodAll_cons hA
  obtain ⟨v1, vs1, d1, ds1, p1, q1, rfl, rfl, rfl, h1, r1⟩ := trodAll_cons r0
  obtain ⟨rfl, rfl, rfl⟩ := trodAll_nil r1
  obtain rfl : args = #[v0, v1] := by cases args; simp_all
  obtain ⟨rfl, rfl⟩ := trodVars_none hV
  have hsz := hsz0; clear hsz0
  obtain ⟨pp0, c0, a0, rfl, n0, m0, y0, o0⟩ := opened_ints (okBase (hval 0 32 v0 rfl rfl)) h0
  obtain ⟨a1, rfl, -, -, w1⟩ := open_int Tryd.underlying3 (hval 1 3 v1 rfl rfl) h1
  clear hA0 hval0
  refine (walk pp0 c0 a0 a1 W y0 o0 n0 m0 w1 (itoa_of_laid hL) (mx_of_shaped hsh)).mono fun e W' ⟨he, bel⟩ => ?_
  subst he
  exact ⟨_, rfl, _, _, _, [], _, [], hW', trodAll_mk1 (shut_bool Tryd.underlying4 _), (trodAll_cons_mk (Below.trod laidOut (by kernel_rfl) (of_decide_eq_true (by kernel_rfl)) h0 bel (fun x hx => hlt x (by simp [hx]))) (trodAll_cons_mk (Below.trod laidOut (by kernel_rfl) (of_decide_eq_true (by kernel_rfl)) h1 bel (fun x hx => hlt x (by simp [hx]))) trodAll_mk0)), rfl, bel.frame _, fun h => by cases h⟩

theorem over : Rows.MarkupBlocksSaid :=
  OpenClaim.holds_of_wide 8 Tryd.f8 rfl rfl rfl rfl rfl rfl rfl ⟨rfl, rfl, rfl, rfl, rfl⟩ rfl rfl rfl rfl rfl (by kernel_rfl) Tryd.func8 (by kernel_rfl)
    (of_decide_eq_true (by kernel_rfl)) (by unfold Func.isWrapper; first | (rw [if_pos (by decide +kernel)]; kernel_rfl) | (rw [if_neg (by decide +kernel)]; exact ⟨rfl, rfl⟩))
    (fun os started H enc _ => lifted os started H enc)

theorem proved : Rows.MarkupBlocksCardSaid :=
  Claim7.holds_tied_plain_at .later [] [.data, .data, .data] true (true, "57ef196fd23df9bba85e5a26644ca28b94ab80892a4814cbd88e02ce20a34e9b") false
    over (fun _ h => by cases h) (by kernel_rfl) (fun _ h => by cases h) markupBlocks_row_tie rfl ⟨rfl, rfl⟩ (by kernel_rfl) rfl
    (fun f fn hf hfn => by
      obtain rfl : f = 8 := Option.some.inj ((show Tryd.prog.funcNamed "bitext/bitextlaw7.MarkupBlocks" = some 8 by kernel_rfl).symm.trans hf) |>.symm
      obtain rfl : fn = Tryd.f8 := (Option.some.inj (Tryd.func8.symm.trans hfn)).symm
      exact ⟨by kernel_rfl, fun j t ht => by
        rw [Tryd.params8] at ht
        have hm : t ∈ [32, 3] := by simpa using Array.mem_of_getElem? ht
        have hall : ([32, 3].all fun u => !Tryd.prog.wantsStandIn u) = true := by kernel_rfl
        exact (show Tryd.prog.wantsStandIn t = false by simpa using List.all_eq_true.1 hall t hm)⟩)
    (by kernel_rfl)
#print axioms proved
end Go.Proofs.YtphkpokoeaagfaaDoor.markupBlocks
