/- Contracts of first, appendText, Tokens; of the reference's word, number, blank, Cut, Tokens. -/
import Derived.Test.YtpkipdiecnokhaaTkl
import Derived.Test.YtpkipdiecnokhaaFst
import Derived.Test.YtpkipdiecnokhaaCat
import Derived.Test.YtpkipdiecnokhaaCcW
namespace Go.Proofs.Ytpkipdiecnokhaa
open Go.ChangeShapes Go.WideShapes Go.ChangeAt Go.RowKit
set_option linter.unusedVariables false
set_option linter.unusedSimpArgs false
set_option maxRecDepth 100000

theorem infoTok : (Try.prog.info? 57).map (fun i => (i.zero, i.size, i.bytes)) = some (some (.agg #[.int .i64 0, .string .empty, .int .i64 0]), 3, 32) := by kernel_rfl
theorem eT : El 22 57 3 32 (.agg #[.int .i64 0, .string .empty, .int .i64 0]) ienc :=
  ⟨Try.underlying22, info_parts infoTok, rfl, by omega, fun _ => rfl, fun x u hu => by simp [ienc] at hu; rcases hu with rfl | rfl | rfl <;> rfl⟩
/-- A slice of tokens that the call owns from block base on. -/
abbrev OwnT := OwnL 57 3 ienc
abbrev AccT := Acc 57 3 ienc
theorem OwnT.its {base : Nat} {L : List It} {v : Value} {wr : World} (h : OwnT base L v wr) : ∃ p cap, v = .slice p L.length cap ∧ L.length ≤ cap ∧ cap ≤ maxLen ∧ Its wr p L := by
  rcases h.2 with ⟨hv, h0⟩ | ⟨g, cap, cur, hv, hg, hh, hn, hm, hs, ht⟩
  · have : L = [] := List.length_eq_zero_iff.1 h0
    subst this
    exact ⟨none, 0, hv, Nat.le_refl _, Nat.zero_le _, Its.nil _ _⟩
  · refine ⟨some ⟨g, 0, none⟩, cap, hv, hn, hm, fun _ => ⟨_, rfl, ?_, fun i hi => ?_⟩⟩
    · rcases Nat.lt_or_ge g wr.heap.size with hlt | hge
      · exact hlt
      · rw [Array.getElem?_eq_none hge] at hh; cases hh
    · have hc := World.ownsRow.cells h (g := g) (by rw [hv]; rfl)
      obtain ⟨c0, c1, c2⟩ := icells_at L i hi
      exact ⟨hc _ _ c0, hc _ _ c1, hc _ _ c2⟩
/-- What a call that answers tokens says. -/
def EndT (L : List It) (w : World) (e : Ending) (w' : World) : Prop := ∃ v, e = .returned v ∧ AccT w L v w'
theorem EndT.f {L : List It} {w w' : World} {e : Ending} (h : EndT L w e w') : EndF L w e w' := by
  obtain ⟨v, rfl, hA⟩ := h
  obtain ⟨p, c, rfl, h1, h2, hI⟩ := OwnT.its hA.own
  exact ⟨p, c, rfl, h1, h2, hI, hA.below⟩
theorem list_at (s : ByteArray) (h : 0 < s.size) : s.data.toList = s[0] :: s.data.toList.drop 1 := by have := drop_cons s 0 h; rwa [List.drop_zero] at this

theorem head_list (s : ByteArray) (n : Nat) : (s.extract 0 n) = bsT (s.data.toList.take n) := by
  apply ByteArray.ext; apply Array.ext'
  rw [ByteArray.data_extract, Array.toList_extract, List.extract_eq_take_drop]; simp [bsT]
/-- What a round of appendText or Cut makes of a rest. -/
theorem cut_step (r : ByteArray) (h : 0 < r.size) : cutT r.data.toList = ⟨kindT r[0], r.extract 0 (sizeT r.data.toList), 0⟩ :: cutT (r.extract (sizeT r.data.toList) r.size).data.toList := by
  rw [rest_list, head_list]
  have e := list_at r h
  generalize r.data.toList = T at *
  rw [e, cutT_cons]; rfl
theorem size_step (r : ByteArray) (h : 0 < r.size) : 1 ≤ sizeT r.data.toList ∧ sizeT r.data.toList ≤ r.size := by
  have e := list_at r h
  have h2 := sizeT_le r.data.toList
  have h3 : r.data.toList.length = r.size := by simp
  refine ⟨?_, by omega⟩
  rw [e]; exact sizeT_pos _ _

end Go.Proofs.Ytpkipdiecnokhaa
