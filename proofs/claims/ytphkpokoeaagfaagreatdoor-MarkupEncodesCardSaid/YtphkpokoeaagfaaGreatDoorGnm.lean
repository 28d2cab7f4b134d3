/- The generator of fragments as a function of its numbers. -/
import Derived.Test.YtphkpokoeaagfaaGreatDoorNrmM
namespace Go.Proofs.YtphkpokoeaagfaaGreatDoor
set_option linter.unusedVariables false

/-- The number that is drawn at place m, below n. -/
def nx (L : List Int) (m n : Nat) : Nat := ((L.getD m 0) % (n : Int)).toNat
theorem nx_lt (L : List Int) (m n : Nat) (h : 0 < n) : nx L m n < n := by
  have h1 := Int.emod_lt_of_pos (L.getD m 0) (show (0 : Int) < n by omega)
  have h2 := Int.emod_nonneg (L.getD m 0) (show (n : Int) ≠ 0 by omega)
  unfold nx; omega
theorem nx_eq (L : List Int) (m n : Nat) (h : 0 < n) : (nx L m n : Int) = (L.getD m 0) % (n : Int) := by
  have h2 := Int.emod_nonneg (L.getD m 0) (show (n : Int) ≠ 0 by omega)
  unfold nx; omega
def wordL : List ByteArray := [⟨#[114, 101, 100]⟩, ⟨#[99, 97, 114]⟩, ⟨#[82, 101, 100]⟩, ⟨#[97]⟩, ⟨#[99, 97, 114, 115]⟩, ⟨#[49, 44, 53]⟩, ⟨#[50, 50]⟩, ⟨#[100, 111, 110, 39, 116]⟩, ⟨#[46]⟩, ⟨#[33]⟩, ⟨#[32]⟩, ⟨#[32, 32]⟩, ⟨#[60]⟩, ⟨#[38]⟩, ⟨#[123]⟩, ⟨#[34]⟩, ⟨#[92]⟩, ⟨#[120, 45, 121]⟩, ⟨#[10]⟩, ⟨#[61]⟩, ⟨#[125]⟩, ⟨#[62]⟩, ⟨#[9]⟩, ⟨#[98]⟩]
def slotL : List ByteArray := [⟨#[110]⟩, ⟨#[110, 97, 109, 101]⟩, ⟨#[120, 49]⟩]
def emptyL : List ByteArray := [⟨#[98, 114]⟩, ⟨#[105, 109, 103, 32, 97]⟩]
def openL : List ByteArray := [⟨#[98]⟩, ⟨#[105]⟩, ⟨#[97, 32, 104, 61, 49]⟩]
def pickB (wl : List ByteArray) (k : Nat) : ByteArray := wl.getD k .empty
theorem pickB_all {P : ByteArray → Prop} (wl : List ByteArray) (h : ∀ x ∈ wl, P x) (k : Nat) (hk : k < wl.length) : P (pickB wl k) := by
  unfold pickB; rw [List.getD_eq_getElem?_getD, List.getElem?_eq_getElem hk]; exact h _ (List.getElem_mem hk)
def lineGo (L : List Int) : Nat → Nat → ByteArray → ByteArray × Nat
  | 0, m, o => (o, m)
  | k + 1, m, o => if o.size = 0 then lineGo L k (m + 1) (o ++ pickB wordL (nx L m 24)) else if 0 < nx L (m + 1) 3 then lineGo L k (m + 2) (o ++ (⟨#[32]⟩ : ByteArray) ++ pickB wordL (nx L m 24)) else lineGo L k (m + 2) (o ++ pickB wordL (nx L m 24))
def lineF (L : List Int) (m n : Nat) : ByteArray × Nat := lineGo L (nx L m (n + 1)) (m + 1) .empty
theorem word_size (L : List Int) (m : Nat) : 1 ≤ (pickB wordL (nx L m 24)).size ∧ (pickB wordL (nx L m 24)).size ≤ 5 :=
  pickB_all (P := fun s => 1 ≤ s.size ∧ s.size ≤ 5) wordL (by decide) _ (nx_lt L m 24 (by decide))
theorem lineGo_size (L : List Int) : ∀ (k m : Nat) (o : ByteArray), (lineGo L k m o).1.size ≤ o.size + 6 * k ∧ (lineGo L k m o).2 ≤ m + 2 * k ∧ m ≤ (lineGo L k m o).2 := by
  intro k
  induction k with
  | zero => intro m o; exact ⟨Nat.le_refl _, Nat.le_refl _, Nat.le_refl _⟩
  | succ k ih =>
    intro m o
    have hw := word_size L m
    rw [lineGo]
    split
    · obtain ⟨a, b, c⟩ := ih (m + 1) (o ++ pickB wordL (nx L m 24))
      rw [ByteArray.size_append] at a; exact ⟨by omega, by omega, by omega⟩
    · split
      · obtain ⟨a, b, c⟩ := ih (m + 2) (o ++ (⟨#[32]⟩ : ByteArray) ++ pickB wordL (nx L m 24))
        rw [ByteArray.size_append, ByteArray.size_append, show (⟨#[32]⟩ : ByteArray).size = 1 from rfl] at a; exact ⟨by omega, by omega, by omega⟩
      · obtain ⟨a, b, c⟩ := ih (m + 2) (o ++ pickB wordL (nx L m 24))
        rw [ByteArray.size_append] at a; exact ⟨by omega, by omega, by omega⟩
theorem lineF_size (L : List Int) (m n : Nat) : (lineF L m n).1.size ≤ 6 * n ∧ (lineF L m n).2 ≤ m + 1 + 2 * n ∧ m + 1 ≤ (lineF L m n).2 := by
  obtain ⟨a, b, c⟩ := lineGo_size L (nx L m (n + 1)) (m + 1) .empty
  have := nx_lt L m (n + 1) (by omega)
  rw [show ByteArray.empty.size = 0 from rfl] at a
  unfold lineF; exact ⟨by omega, by omega, c⟩

/-- Where the generator of fragments stands: the fragment, the open tags, the last number, how many numbers are used. -/
structure St where
  f : List It
  o : List It
  id : Nat
  m : Nat
def closeI (y : It) : It := ⟨3, nameB y.t, y.id⟩
/-- Which open tag is closed, and how many numbers are used behind it. -/
def pickK (L : List Int) (nested : Bool) (n m : Nat) : Nat × Nat := if nested = true then (n - 1, m) else (nx L m n, m + 1)
/-- The next item, with what becomes of the open tags, of the number, of the place. -/
def nextG (L : List Int) (tags nested : Bool) (o : List It) (id m : Nat) : It × List It × Nat × Nat :=
  let t := (lineF L m 3).1
  let m1 := (lineF L m 3).2
  let c := nx L m1 8
  let m2 := m1 + 1
  if c = 0 ∨ c = 1 then (⟨5, pickB slotL (nx L m2 3), 0⟩, o, id, m2 + 1)
  else if c = 2 then (if tags = true then (⟨4, pickB emptyL (nx L m2 2), (id + 1 : Nat)⟩, o, id + 1, m2 + 1) else (⟨1, t, 0⟩, o, id, m2))
  else if c = 3 ∨ c = 4 then (if tags = true then (⟨2, pickB openL (nx L m2 3), (id + 1 : Nat)⟩, o ++ [⟨2, pickB openL (nx L m2 3), (id + 1 : Nat)⟩], id + 1, m2 + 1) else (⟨1, t, 0⟩, o, id, m2))
  else if c = 5 ∨ c = 6 then
    (if 0 < o.length then (closeI (o.getD (pickK L nested o.length m2).1 ⟨0, .empty, 0⟩), o.take (pickK L nested o.length m2).1 ++ o.drop ((pickK L nested o.length m2).1 + 1), id, (pickK L nested o.length m2).2)
     else if tags = true ∧ nested = false then (⟨3, ⟨#[98]⟩, (id + 1 : Nat)⟩, o, id + 1, m2) else (⟨1, t, 0⟩, o, id, m2))
  else (⟨1, t, 0⟩, o, id, m2)
def stepG (L : List Int) (tags nested : Bool) (s : St) : St :=
  ⟨norm (s.f ++ [(nextG L tags nested s.o s.id s.m).1]), (nextG L tags nested s.o s.id s.m).2.1, (nextG L tags nested s.o s.id s.m).2.2.1, (nextG L tags nested s.o s.id s.m).2.2.2⟩
def runG (L : List Int) (tags nested : Bool) : Nat → St → St
  | 0, s => s
  | k + 1, s => runG L tags nested k (stepG L tags nested s)
def startG (L : List Int) (tags nested : Bool) (m n : Nat) : St := runG L tags nested (nx L m (n + 1)) ⟨[], [], 0, m + 1⟩
/-- The fragment that the generator makes, and how many numbers it has used. -/
def fragG (L : List Int) (tags nested : Bool) (m n : Nat) : List It × Nat :=
  (if nested = true then (startG L tags nested m n).f ++ (startG L tags nested m n).o.reverse.map closeI else (startG L tags nested m n).f, (startG L tags nested m n).m)
section
variable (L : List Int) (tags nested : Bool) (o : List It) (id m : Nat)
theorem nextG_slot (hc : nx L (lineF L m 3).2 8 = 0 ∨ nx L (lineF L m 3).2 8 = 1) : nextG L tags nested o id m = (⟨5, pickB slotL (nx L ((lineF L m 3).2 + 1) 3), 0⟩, o, id, (lineF L m 3).2 + 1 + 1) := by
  unfold nextG; dsimp only; rw [if_pos hc]
theorem nextG_empty (hc : nx L (lineF L m 3).2 8 = 2) (ht : tags = true) : nextG L tags nested o id m = (⟨4, pickB emptyL (nx L ((lineF L m 3).2 + 1) 2), (id + 1 : Nat)⟩, o, id + 1, (lineF L m 3).2 + 1 + 1) := by
  unfold nextG; dsimp only; rw [if_neg (by omega), if_pos hc, if_pos ht]
theorem nextG_open (hc : nx L (lineF L m 3).2 8 = 3 ∨ nx L (lineF L m 3).2 8 = 4) (ht : tags = true) : nextG L tags nested o id m = (⟨2, pickB openL (nx L ((lineF L m 3).2 + 1) 3), (id + 1 : Nat)⟩, o ++ [⟨2, pickB openL (nx L ((lineF L m 3).2 + 1) 3), (id + 1 : Nat)⟩], id + 1, (lineF L m 3).2 + 1 + 1) := by
  unfold nextG; dsimp only; rw [if_neg (by omega), if_neg (by omega), if_pos hc, if_pos ht]
theorem nextG_close (hc : nx L (lineF L m 3).2 8 = 5 ∨ nx L (lineF L m 3).2 8 = 6) (ho : 0 < o.length) (K : Nat × Nat) (hK : pickK L nested o.length ((lineF L m 3).2 + 1) = K) : nextG L tags nested o id m = (closeI (o.getD K.1 ⟨0, .empty, 0⟩), o.take K.1 ++ o.drop (K.1 + 1), id, K.2) := by
  unfold nextG; dsimp only; rw [if_neg (by omega), if_neg (by omega), if_neg (by omega), if_pos hc, if_pos ho, hK]
theorem nextG_alone (hc : nx L (lineF L m 3).2 8 = 5 ∨ nx L (lineF L m 3).2 8 = 6) (ho : ¬ 0 < o.length) (ht : tags = true ∧ nested = false) : nextG L tags nested o id m = (⟨3, ⟨#[98]⟩, (id + 1 : Nat)⟩, o, id + 1, (lineF L m 3).2 + 1) := by
  unfold nextG; dsimp only; rw [if_neg (by omega), if_neg (by omega), if_neg (by omega), if_pos hc, if_neg ho, if_pos ht]
theorem nextG_text (hc : nx L (lineF L m 3).2 8 = 7 ∨ (2 ≤ nx L (lineF L m 3).2 8 ∧ nx L (lineF L m 3).2 8 ≤ 4 ∧ tags = false) ∨ (5 ≤ nx L (lineF L m 3).2 8 ∧ nx L (lineF L m 3).2 8 ≤ 6 ∧ ¬ 0 < o.length ∧ ¬ (tags = true ∧ nested = false))) : nextG L tags nested o id m = (⟨1, (lineF L m 3).1, 0⟩, o, id, (lineF L m 3).2 + 1) := by
  unfold nextG; dsimp only
  generalize nx L (lineF L m 3).2 8 = c at *
  rcases hc with rfl | ⟨h1, h2, h3⟩ | ⟨h1, h2, h3, h4⟩
  · rw [if_neg (by omega), if_neg (by omega), if_neg (by omega), if_neg (by omega)]
  · have ht : ¬ tags = true := by simp [h3]
    rw [if_neg (by omega)]
    by_cases e : c = 2
    · rw [if_pos e, if_neg ht]
    · rw [if_neg e, if_pos (by omega), if_neg ht]
  · rw [if_neg (by omega), if_neg (by omega), if_neg (by omega), if_pos (by omega), if_neg h3, if_neg h4]
end
end Go.Proofs.YtphkpokoeaagfaaGreatDoor
