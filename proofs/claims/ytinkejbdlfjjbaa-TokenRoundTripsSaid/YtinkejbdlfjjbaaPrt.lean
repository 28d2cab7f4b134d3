/- The reference's Plain, SameInts, SameTexts. -/
import Derived.Test.YtinkejbdlfjjbaaPln
import Derived.Test.YtinkejbdlfjjbaaNum
namespace Go.Proofs.Ytinkejbdlfjjbaa
open Go.ChangeShapes Go.WideShapes Go.ChangeAt Go.RowKit
set_option linter.unusedVariables false
set_option maxRecDepth 100000

def pS (l : List It) : ByteArray := ⟨(plainL l).toArray⟩
theorem pS_text (l : List It) (k : Nat) (h : k < l.length) (hk : (l[k]'h).k = 1) : pS (l.take (k + 1)) = pS (l.take k) ++ (l[k]'h).t := by
  unfold pS; rw [plain_next l k h, show plainB (l[k]'h) = (l[k]'h).t.data.toList from if_pos hk]
  apply ByteArray.ext; simp
theorem pS_slot (l : List It) (k : Nat) (h : k < l.length) (hk : (l[k]'h).k = 5) : pS (l.take (k + 1)) = pS (l.take k) ++ ⟨#[255]⟩ := by
  unfold pS; rw [plain_next l k h, show plainB (l[k]'h) = [255] by unfold plainB; rw [hk]; rfl]
  apply ByteArray.ext; simp
theorem pS_other (l : List It) (k : Nat) (h : k < l.length) (h1 : (l[k]'h).k ≠ 1) (h5 : (l[k]'h).k ≠ 5) : pS (l.take (k + 1)) = pS (l.take k) := by
  unfold pS; rw [plain_next l k h, show plainB (l[k]'h) = [] by unfold plainB; rw [if_neg h1, if_neg h5]]; simp
theorem pS_size (l : List It) (k : Nat) (h : k ≤ l.length) : (pS (l.take k)).size ≤ txtI (l.take k) + k := by
  have h1 := plain_len l k h
  have h2 : (pS (l.take k)).size = (plainL (l.take k)).length := by show (plainL (l.take k)).toArray.size = _; simp
  rw [h2]; exact h1

theorem one_row {α : Type} {en : α → Value} {W : World} {p : Option Addr} {l : List α} (h : Ones W en p l) (i : Nat) (hi : i < l.length) : ∃ a, p = some a ∧ a.block < W.heap.size ∧ W.cell? (a.add i) = some (en (l[i]'hi)) := by
  obtain ⟨a, hp, hlt, hc⟩ := h (by omega)
  exact ⟨a, hp, hlt, hc i hi⟩
theorem ones_eq_at {α : Type} {l m : List α} (hlen : l.length = m.length) (h : ∀ j (hl : j < l.length) (hm : j < m.length), l[j] = m[j]) : l = m := List.ext_getElem hlen h

end Go.Proofs.Ytinkejbdlfjjbaa
