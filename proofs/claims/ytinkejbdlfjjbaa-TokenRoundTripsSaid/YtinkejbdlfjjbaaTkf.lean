/- Contracts of first, appendText, Tokens; of the reference's word, number, blank, Cut, Tokens. -/
import Derived.Test.YtinkejbdlfjjbaaTkl
import Derived.Test.YtinkejbdlfjjbaaFst
import Derived.Test.YtinkejbdlfjjbaaCat
import Derived.Test.YtinkejbdlfjjbaaCcW
namespace Go.Proofs.Ytinkejbdlfjjbaa
open Go.ChangeShapes Go.WideShapes Go.ChangeAt Go.RowKit
set_option linter.unusedVariables false
set_option linter.unusedSimpArgs false
set_option maxRecDepth 100000

theorem infoTok : (Try.prog.info? 33).map (fun i => (i.zero, i.size, i.bytes)) = some (some (.agg #[.int .i64 0, .string .empty, .int .i64 0]), 3, 32) := by kernel_rfl
theorem eT : El 29 33 3 32 (.agg #[.int .i64 0, .string .empty, .int .i64 0]) ienc :=
  ⟨Try.underlying29, info_parts infoTok, rfl, by omega, fun _ => rfl, fun x u hu => by simp [ienc] at hu; rcases hu with rfl | rfl | rfl <;> rfl⟩
/-- A slice of tokens that the call owns from block base on. -/
abbrev OwnT := OwnL 33 3 ienc
abbrev AccT := Acc 33 3 ienc
theorem OwnT.its {base : Nat} {L : List It} {v : Value} {wr : World} (h : OwnT base L v wr) : ∃ p cap, v = .slice p L.length cap ∧ L.length ≤ cap ∧ cap ≤ maxLen ∧ Its wr p L := by
  rcases h.2 with ⟨hv, h0⟩ | ⟨g, cap, cur, hv, hg, hh, hn, hm, hs, ht⟩
  · have : L = [] := List.length_eq_zero_iff.1 h0
    subst this
    exact ⟨none, 0, hv, Nat.le_refl _, Nat.zero_le _, Its.nil _ _⟩
  · refine ⟨some ⟨g, 0, none⟩, cap, hv, hn, hm, fun _ => ⟨_, rfl, ?_, fun i hi => ?_⟩⟩
    · rcases Nat.lt_or_ge g wr.heap.size with hlt | hge
      · exact hlt
      · rw [Array.getElem?_eq_none hge] at hh; cases hh
    · have hc := World.ownsRow.cells h (g := g) (by rw [hv]; rfl)
      obtain ⟨c0, c1, c2⟩ := icells_at L i hi
      exact ⟨hc _ _ c0, hc _ _ c1, hc _ _ c2⟩
/-- What a call that answers tokens says. -/
def EndT (L : List It) (w : World) (e : Ending) (w' : World) : Prop := ∃ v, e = .returned v ∧ AccT w L v w'
theorem EndT.f {L : List It} {w w' : World} {e : Ending} (h : EndT L w e w') : EndF L w e w' := by
  obtain ⟨v, rfl, hA⟩ := h
  obtain ⟨p, c, rfl, h1, h2, hI⟩ := OwnT.its hA.own
  exact ⟨p, c, rfl, h1, h2, hI, hA.below⟩
theorem list_at (s : ByteArray) (h : 0 < s.size) : s.data.toList = s[0] :: s.data.toList.drop 1 := by have := drop_cons s 0 h; rwa [List.drop_zero] at this

theorem first_any (s : ByteArray) (w : World) (h0 : 0 < s.size) (hs : s.size ≤ 140737488355328) :
    Calls Try.prog 39 #[.string s] w fun e w' => e = .returned (.tuple #[.int .i64 (kindT s[0]), .int .i64 (sizeT s.data.toList)]) ∧ w = w' := by
  have hb := byteU_le s[0]
  have hc := fun W => of_any (s[0].toNat : Int) W (by omega) hb
  have e := list_at s h0
  have r1 := fun W => runW_any s W hs
  have r2 := fun W => runD_any s W hs
  have r3 := fun W => runS_any s W hs
  have h0' : (0 : Int) < (s.size : Int) := by omega
  generalize hT : s.data.toList = T at *
  have HC := Lib.hid hc; have R1 := Lib.hid r1; have R2 := Lib.hid r2; have R3 := Lib.hid r3; have HE := Lib.hid e
  clear hc r1 r2 r3 e
  by_cases c4 : cls (s[0].toNat : Int) = 4
  · have q4 : (cls (s[0].toNat : Int) == 4) = true := by simpa using c4
    have E1 := Lib.hid (show kindT s[0] = 6 from if_pos c4)
    have E2 := Lib.hid (show runL fW jW T = sizeT T by rw [HE.out, sizeT, if_pos (show cb s[0] = 4 from c4), runL_yes _ _ _ _ (by unfold fW cb; simp [c4])])
    clear c4
    go_enter Try.func39, Try.ntmps39
    go_wp2_with fail
    refine (HC.out _).mono ?_; rintro e w1 ⟨rfl, rfl⟩
    go_wp2_with fail
    refine (R1.out _).mono ?_; rintro e w1 ⟨rfl, rfl⟩
    go_wp2_with fail
    go_ret2
    exact ⟨by rw [E1.out, E2.out]; rfl, rfl⟩
  · have q4 : (cls (s[0].toNat : Int) == 4) = false := by simpa using c4
    by_cases c3 : cls (s[0].toNat : Int) = 3
    · have q3 : (cls (s[0].toNat : Int) == 3) = true := by simpa using c3
      have E1 := Lib.hid (show kindT s[0] = 7 by unfold kindT; rw [if_neg (show ¬ cb s[0] = 4 from c4), if_pos (show cb s[0] = 3 from c3)])
      have E2 := Lib.hid (show runL fD jD T = sizeT T by rw [HE.out, sizeT, if_neg (show ¬ cb s[0] = 4 from c4), if_pos (show cb s[0] = 3 from c3), runL_yes _ _ _ _ (by unfold fD cb; simp [c3])])
      clear c4 c3
      go_enter Try.func39, Try.ntmps39
      go_wp2_with fail
      refine (HC.out _).mono ?_; rintro e w1 ⟨rfl, rfl⟩
      go_wp2_with fail
      refine (R2.out _).mono ?_; rintro e w1 ⟨rfl, rfl⟩
      go_wp2_with fail
      go_ret2
      exact ⟨by rw [E1.out, E2.out]; rfl, rfl⟩
    · have q3 : (cls (s[0].toNat : Int) == 3) = false := by simpa using c3
      by_cases c2 : cls (s[0].toNat : Int) = 2
      · have q2 : (cls (s[0].toNat : Int) == 2) = true := by simpa using c2
        have E1 := Lib.hid (show kindT s[0] = 8 by unfold kindT; rw [if_neg (show ¬ cb s[0] = 4 from c4), if_neg (show ¬ cb s[0] = 3 from c3), if_pos (show cb s[0] = 2 from c2)])
        have E2 := Lib.hid (show runL fS jS T = sizeT T by rw [HE.out, sizeT, if_neg (show ¬ cb s[0] = 4 from c4), if_neg (show ¬ cb s[0] = 3 from c3), if_pos (show cb s[0] = 2 from c2), runL_yes _ _ _ _ (by unfold fS cb; simp [c2])])
        clear c4 c3 c2
        go_enter Try.func39, Try.ntmps39
        go_wp2_with fail
        refine (HC.out _).mono ?_; rintro e w1 ⟨rfl, rfl⟩
        go_wp2_with fail
        refine (R3.out _).mono ?_; rintro e w1 ⟨rfl, rfl⟩
        go_wp2_with fail
        go_ret2
        exact ⟨by rw [E1.out, E2.out]; rfl, rfl⟩
      · have q2 : (cls (s[0].toNat : Int) == 2) = false := by simpa using c2
        have E1 := Lib.hid (show kindT s[0] = 9 by unfold kindT; rw [if_neg (show ¬ cb s[0] = 4 from c4), if_neg (show ¬ cb s[0] = 3 from c3), if_neg (show ¬ cb s[0] = 2 from c2)])
        have E2 := Lib.hid (show sizeT T = 1 by rw [HE.out, sizeT, if_neg (show ¬ cb s[0] = 4 from c4), if_neg (show ¬ cb s[0] = 3 from c3), if_neg (show ¬ cb s[0] = 2 from c2)])
        clear c4 c3 c2
        go_enter Try.func39, Try.ntmps39
        go_wp2_with fail
        refine (HC.out _).mono ?_; rintro e w1 ⟨rfl, rfl⟩
        go_wp2_with fail
        go_ret2
        exact ⟨by rw [E1.out, E2.out]; rfl, rfl⟩
theorem head_list (s : ByteArray) (n : Nat) : (s.extract 0 n) = bsT (s.data.toList.take n) := by
  apply ByteArray.ext; apply Array.ext'
  rw [ByteArray.data_extract, Array.toList_extract, List.extract_eq_take_drop]; simp [bsT]
/-- What a round of appendText or Cut makes of a rest. -/
theorem cut_step (r : ByteArray) (h : 0 < r.size) : cutT r.data.toList = ⟨kindT r[0], r.extract 0 (sizeT r.data.toList), 0⟩ :: cutT (r.extract (sizeT r.data.toList) r.size).data.toList := by
  rw [rest_list, head_list]
  have e := list_at r h
  generalize r.data.toList = T at *
  rw [e, cutT_cons]; rfl
theorem size_step (r : ByteArray) (h : 0 < r.size) : 1 ≤ sizeT r.data.toList ∧ sizeT r.data.toList ≤ r.size := by
  have e := list_at r h
  have h2 := sizeT_le r.data.toList
  have h3 : r.data.toList.length = r.size := by simp
  refine ⟨?_, by omega⟩
  rw [e]; exact sizeT_pos _ _

set_option maxHeartbeats 1600000 in
theorem appendtext_any (base : Nat) (L : List It) (v : Value) (s : ByteArray) (w : World) (hO : OwnT base L v w) (hbase : base ≤ w.heap.size) (hs : s.size ≤ 140737488355328) (hn : L.length + s.size ≤ 4000000000) :
    Calls Try.prog 32 #[v, .string s] w fun e w' => ∃ v', e = .returned v' ∧ OwnT base (L ++ cutT s.data.toList) v' w' ∧ Below base w w' := by
  generalize hF : L ++ cutT s.data.toList = F
  have hFl : F.length ≤ 4000000000 := by
    have h1 := cutT_len s.data.toList
    have h2 : s.data.toList.length = s.size := by simp
    rw [← hF, List.length_append]; omega
  have HF := Lib.hid hF; clear hF hn
  go_enter Try.func32, Try.ntmps32
  go_wp2_with fail
  go_loopw [0, 1] (fun v t wr => ∃ (L' : List It) (r : ByteArray), t = .string r ∧ OwnT base L' v wr ∧ Below base w wr ∧ r.size ≤ 140737488355328 ∧ Hid (L' ++ cutT r.data.toList = F)) (fun _ t _ => match t with | .string r => r.size | _ => 0)
  case atStart => exact ⟨L, s, rfl, hO, Below.refl _ _, hs, HF⟩
  case round =>
    obtain ⟨L', r, rfl, hO, hB, hr, HL⟩ := hrel
    by_cases h0 : 0 < r.size
    · obtain ⟨s1, s2⟩ := size_step r h0
      have hf := fun W => first_any r W h0 hr
      have hcs := cut_step r h0
      have hq := str_some (a := r) (by omega)
      have hlen : L'.length + 1 ≤ 4000000000 := by
        have := congrArg List.length HL.out
        rw [hcs, List.length_append, List.length_cons] at this; omega
      generalize hz : sizeT r.data.toList = n at *
      generalize kindT r[0] = kk at *
      have HQ := Lib.hid (show (L' ++ [⟨kk, r.extract 0 n, 0⟩]) ++ cutT (r.extract n r.size).data.toList = F by rw [← HL.out, hcs]; simp)
      have HS := Lib.hid (rest_size r n)
      have HW := Lib.hid hf; clear hf hcs hz
      have hbw := hB.size
      have s1' : (1 : Int) ≤ (n : Int) := by omega
      have s2' : (n : Int) ≤ (r.size : Int) := by omega
      go_wp2_with fail
      refine (HW.out _).mono ?_; rintro e w1 ⟨rfl, rfl⟩
      go_wp2_with (at_builtin; refine wpl_append2 eT _ rfl _ _ rfl base (by simp; omega) L' _ rfl (World.ownsRow.alloc hO _) ⟨kk, r.extract 0 n, 0⟩ wr.heap.size _ rfl (heap_alloc_new _ _) rfl (by omega) (by unfold maxLen; omega) ?_; intro v' w4 hA4 hb4)
      go_wp2_with fail
      go_roundw
      case rel => exact ⟨_, _, rfl, hA4, (hB.alloc (by omega) _).trans hb4, by have := HS.out; omega, HQ⟩
      case measure => have := HS.out; show (r.extract n r.size).size < r.size; omega
    · have hz : r.size = 0 := by omega
      have hq := str_none (a := r) hz
      have HE := Lib.hid (show L' = F by have := HL.out; rw [(bytes_nil r).2 hz, cutT_nil, List.append_nil] at this; exact this)
      go_wp2_with fail
      go_ret
      exact ⟨_, rfl, by rw [← HE.out]; exact hO, hB⟩
end Go.Proofs.Ytinkejbdlfjjbaa
