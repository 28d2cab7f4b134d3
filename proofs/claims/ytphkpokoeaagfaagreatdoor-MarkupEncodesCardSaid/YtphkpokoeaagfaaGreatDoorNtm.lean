/- Plain mathematics of notations: how the bytes of a text are written, what one element reads as. -/
import Derived.Test.YtphkpokoeaagfaaGreatDoorNrmM
import Derived.Lib.ItoaNum
namespace Go.Proofs.YtphkpokoeaagfaaGreatDoor
set_option linter.unusedVariables false
open Go.Lib

/-- The sign behind the backslash of a byte, or 0. -/
def sgN (n : Int) : Int := if n = 92 ∨ n = 60 ∨ n = 123 then n else if n = 10 then 110 else if n = 9 then 116 else if n = 13 ∨ cls n = 1 then 120 else 0
def sg (c : UInt8) : UInt8 := UInt8.ofNat (sgN (c.toNat : Int)).toNat
/-- The digits of an escape. -/
def hxU (n : Nat) : UInt8 := if n < 10 then UInt8.ofNat (48 + n) else UInt8.ofNat (87 + n)
/-- The notation of a byte of a text. -/
def wrU (c : UInt8) : List UInt8 := if sg c = 0 then [c] else if sg c = 120 then [92, 120, hxU (c.toNat / 16), hxU (c.toNat % 16)] else [92, sg c]
def wrL (l : List UInt8) : List UInt8 := l.flatMap wrU
theorem wrL_append (a b : List UInt8) : wrL (a ++ b) = wrL a ++ wrL b := by unfold wrL; rw [List.flatMap_append]
theorem wrL_snoc (a : List UInt8) (c : UInt8) : wrL (a ++ [c]) = wrL a ++ wrU c := by rw [wrL_append]; unfold wrL; simp
theorem sgN_range (n : Int) (h0 : 0 ≤ n) (h1 : n ≤ 255) : 0 ≤ sgN n ∧ sgN n ≤ 123 := by
  unfold sgN; repeat (first | split | omega)
theorem sg_toNat (c : UInt8) : ((sg c).toNat : Int) = sgN (c.toNat : Int) := by
  have h := sgN_range (c.toNat : Int) (by omega) (by have := c.toNat_lt; omega)
  unfold sg
  rw [UInt8.toNat_ofNat']
  omega
theorem wrU_len (c : UInt8) : 1 ≤ (wrU c).length ∧ (wrU c).length ≤ 4 := by
  unfold wrU
  by_cases h : sg c = 0
  · rw [if_pos h]; simp
  · rw [if_neg h]
    by_cases h1 : sg c = 120
    · rw [if_pos h1]; simp
    · rw [if_neg h1]; simp
theorem wrL_len (l : List UInt8) : (wrL l).length ≤ 4 * l.length := by
  induction l with
  | nil => simp [wrL]
  | cons x t ih =>
    have e : wrL (x :: t) = wrU x ++ wrL t := rfl
    rw [e, List.length_append, List.length_cons]
    have := (wrU_len x).2
    omega

/-- The digit that a byte is, or 16. -/
def hxV (c : UInt8) : Nat := if 48 ≤ c.toNat ∧ c.toNat ≤ 57 then c.toNat - 48 else if 97 ≤ c.toNat ∧ c.toNat ≤ 102 then c.toNat - 87 else 16
theorem hxV_hxU (n : Nat) (h : n < 16) : hxV (hxU n) = n := by
  have : ∀ m : Fin 16, hxV (hxU m.val) = m.val := by decide +kernel
  exact this ⟨n, h⟩
theorem hxU_hxV (c : UInt8) (h : hxV c < 16) : hxU (hxV c) = c := by
  have : ∀ m : Fin 256, hxV (UInt8.ofNat m.val) < 16 → hxU (hxV (UInt8.ofNat m.val)) = UInt8.ofNat m.val := by decide +kernel
  have e : UInt8.ofNat c.toNat = c := by simp
  have := this ⟨c.toNat, c.toNat_lt⟩
  rw [e] at this
  exact this h
/-- A text of one byte. -/
def bT (c : UInt8) : It := ⟨1, ⟨#[c]⟩, 0⟩
def rdHex (r : List UInt8) : Option (It × Nat) :=
  match r with
  | a :: b :: _ => if hxV a < 16 ∧ hxV b < 16 ∧ sg (UInt8.ofNat (16 * hxV a + hxV b)) = 120 then some (bT (UInt8.ofNat (16 * hxV a + hxV b)), 4) else none
  | _ => none
/-- The byte that a sign behind a backslash stands for. -/
def unS (c : UInt8) : UInt8 := if c = 110 then 10 else if c = 116 then 9 else c
/-- What stands behind a backslash. -/
def rdEsc (r : List UInt8) : Option (It × Nat) :=
  match r with
  | [] => none
  | c :: r' => if c = 120 then rdHex r' else if sg (unS c) = c then some (bT (unS c), 2) else none
theorem rdEsc_cons (c : UInt8) (r : List UInt8) : rdEsc (c :: r) = if c = 120 then rdHex r else if sg (unS c) = c then some (bT (unS c), 2) else none := rfl
theorem rdHex_two (a b : UInt8) (r : List UInt8) : rdHex (a :: b :: r) = if hxV a < 16 ∧ hxV b < 16 ∧ sg (UInt8.ofNat (16 * hxV a + hxV b)) = 120 then some (bT (UInt8.ofNat (16 * hxV a + hxV b)), 4) else none := rfl
/-- The bytes ahead of a byte, and behind it. -/
def upto (c : UInt8) (l : List UInt8) : List UInt8 := l.takeWhile (· != c)
def aft (c : UInt8) (l : List UInt8) : List UInt8 := l.drop ((upto c l).length + 1)
def hasU (c : UInt8) (l : List UInt8) : Bool := decide ((upto c l).length < l.length)
def bsL (l : List UInt8) : ByteArray := ⟨l.toArray⟩
theorem bsL_of (s : ByteArray) : bsL s.data.toList = s := by unfold bsL; apply ByteArray.ext; simp
theorem bsL_list (l : List UInt8) : (bsL l).data.toList = l := by unfold bsL; simp
theorem bsL_size (l : List UInt8) : (bsL l).size = l.length := by show l.toArray.size = _; simp
theorem bsL_append (a b : List UInt8) : bsL a ++ bsL b = bsL (a ++ b) := by
  apply ByteArray.ext; unfold bsL; rw [ByteArray.data_append]; simp
theorem bsL_inj {a b : List UInt8} (h : bsL a = bsL b) : a = b := by have := congrArg (fun s : ByteArray => s.data.toList) h; simpa [bsL] using this
def rdSlot (r : List UInt8) : Option (It × Nat) :=
  if hasU 125 r = true ∧ isNm (bsL (upto 125 r)) = true then some (⟨5, bsL (upto 125 r), 0⟩, (upto 125 r).length + 2) else none
/-- The number that digits write, from 1 to 999; else 0. -/
def numF (d : List UInt8) : Nat := ((List.range 1000).find? fun n => decide (1 ≤ n) && decide (d = decDigits n)).getD 0
def kindT (d t : List UInt8) : Int := if d.head? = some 47 then 3 else if t.getLast? = some 47 then 4 else 2
def digT (d t : List UInt8) : List UInt8 := if d.head? = some 47 then d.drop 1 else d
def txtT (d t : List UInt8) : List UInt8 := if d.head? = some 47 then t else if t.getLast? = some 47 then t.dropLast else t
def tagT (d t : List UInt8) : It := ⟨kindT d t, bsL (txtT d t), numF (digT d t)⟩
def rdTag (r : List UInt8) : Option (It × Nat) :=
  if hasU 62 r = true ∧ hasU 58 (upto 62 r) = true ∧ properB (tagT (upto 58 (upto 62 r)) (aft 58 (upto 62 r))) = true then some (tagT (upto 58 (upto 62 r)) (aft 58 (upto 62 r)), (upto 62 r).length + 2) else none
def rdPlain (c : UInt8) : Option (It × Nat) := if sg c = 0 then some (bT c, 1) else none
/-- The element at the beginning of bytes, and how many bytes it takes. -/
def rdE (l : List UInt8) : Option (It × Nat) :=
  match l with
  | [] => none
  | c :: r => if c = 60 then rdTag r else if c = 123 then rdSlot r else if c = 92 then rdEsc r else rdPlain c
theorem rdE_cons (c : UInt8) (r : List UInt8) : rdE (c :: r) = if c = 60 then rdTag r else if c = 123 then rdSlot r else if c = 92 then rdEsc r else rdPlain c := rfl
theorem rdE_60 (r : List UInt8) : rdE (60 :: r) = rdTag r := by rw [rdE_cons, if_pos rfl]
theorem rdE_123 (r : List UInt8) : rdE (123 :: r) = rdSlot r := by rw [rdE_cons, if_neg (show ¬ (123 : UInt8) = 60 by decide), if_pos rfl]
theorem rdE_92 (r : List UInt8) : rdE (92 :: r) = rdEsc r := by rw [rdE_cons, if_neg (show ¬ (92 : UInt8) = 60 by decide), if_neg (show ¬ (92 : UInt8) = 123 by decide), if_pos rfl]
theorem rdE_plain (c : UInt8) (r : List UInt8) (h1 : c ≠ 60) (h2 : c ≠ 123) (h3 : c ≠ 92) : rdE (c :: r) = rdPlain c := by rw [rdE_cons, if_neg h1, if_neg h2, if_neg h3]
/-- How an item is written. -/
def elL (x : It) : List UInt8 :=
  if x.k = 1 then wrL x.t.data.toList
  else if x.k = 2 then [60] ++ decDigits x.id.toNat ++ [58] ++ x.t.data.toList ++ [62]
  else if x.k = 3 then [60, 47] ++ decDigits x.id.toNat ++ [58] ++ x.t.data.toList ++ [62]
  else if x.k = 4 then [60] ++ decDigits x.id.toNat ++ [58] ++ x.t.data.toList ++ [47, 62]
  else [123] ++ x.t.data.toList ++ [125]
def fmtN (f : List It) : List UInt8 := f.flatMap elL
theorem fmtN_append (f g : List It) : fmtN (f ++ g) = fmtN f ++ fmtN g := by unfold fmtN; rw [List.flatMap_append]
theorem fmtN_snoc (f : List It) (x : It) : fmtN (f ++ [x]) = fmtN f ++ elL x := by rw [fmtN_append]; unfold fmtN; simp
theorem fmtN_next (l : List It) (k : Nat) (h : k < l.length) : fmtN (l.take (k + 1)) = fmtN (l.take k) ++ elL (l[k]'h) := by rw [List.take_succ_eq_append_getElem h, fmtN_snoc]

/-! ### cuts -/
theorem upto_app (c : UInt8) (a r : List UInt8) (h : ∀ x ∈ a, x ≠ c) : upto c (a ++ c :: r) = a := by
  induction a with
  | nil => simp [upto]
  | cons y t ih =>
    have h1 : (y != c) = true := by simpa using h y (.head _)
    show List.takeWhile _ (y :: (t ++ c :: r)) = _
    rw [List.takeWhile_cons, h1, if_pos rfl]
    have := ih fun x hx => h x (.tail _ hx)
    unfold upto at this
    rw [this]
theorem has_app (c : UInt8) (a r : List UInt8) (h : ∀ x ∈ a, x ≠ c) : hasU c (a ++ c :: r) = true := by
  unfold hasU; rw [upto_app c a r h]; simp
theorem aft_app (c : UInt8) (a r : List UInt8) (h : ∀ x ∈ a, x ≠ c) : aft c (a ++ c :: r) = r := by
  unfold aft; rw [upto_app c a r h, show a ++ c :: r = (a ++ [c]) ++ r by simp, List.drop_append_of_le_length (by simp), List.drop_of_length_le (by simp)]; rfl
theorem upto_mem (c : UInt8) (l : List UInt8) : ∀ x ∈ upto c l, x ≠ c := by
  induction l with
  | nil => intro x hx; cases hx
  | cons y t ih =>
    intro x hx
    unfold upto at hx
    rw [List.takeWhile_cons] at hx
    split at hx
    · rename_i hy
      rcases List.mem_cons.1 hx with rfl | hx
      · simpa using hy
      · exact ih x hx
    · cases hx
theorem has_split (c : UInt8) (l : List UInt8) (h : hasU c l = true) : l = upto c l ++ c :: aft c l := by
  induction l with
  | nil => simp [hasU, upto] at h
  | cons y t ih =>
    by_cases hy : y = c
    · subst hy; simp [upto, aft]
    · have h1 : (y != c) = true := by simpa using hy
      have e : upto c (y :: t) = y :: upto c t := by unfold upto; rw [List.takeWhile_cons, h1, if_pos rfl]
      have h2 : hasU c t = true := by unfold hasU at h ⊢; rw [e] at h; simpa using h
      have := ih h2
      have e2 : aft c (y :: t) = aft c t := by unfold aft; rw [e]; rfl
      rw [e, e2]
      show y :: t = y :: (upto c t ++ c :: aft c t)
      rw [← this]
theorem upto_none (c : UInt8) (l : List UInt8) (h : hasU c l = false) : upto c l = l ∧ ∀ x ∈ l, x ≠ c := by
  have e : upto c l = l := by
    unfold hasU at h
    have h1 : ¬ (upto c l).length < l.length := by simpa using h
    have h2 : upto c l <+: l := List.takeWhile_prefix _
    exact h2.eq_of_length_le (by omega)
  exact ⟨e, fun x hx => by rw [← e] at hx; exact upto_mem c l x hx⟩

/-! ### digits -/
def dval (l : List UInt8) : Nat := l.foldl (fun a c => 10 * a + (c.toNat - 48)) 0
theorem dval_snoc (l : List UInt8) (c : UInt8) : dval (l ++ [c]) = 10 * dval l + (c.toNat - 48) := by unfold dval; rw [List.foldl_append]; rfl
theorem digit_toNat (d : Nat) (h : d < 10) : (UInt8.ofNat (48 + d)).toNat = 48 + d := by rw [UInt8.toNat_ofNat']; omega
theorem dec_big {n : Nat} (h : ¬ n < 10) : decDigits n = decDigits (n / 10) ++ [UInt8.ofNat (48 + n % 10)] := by rw [decDigits, dif_neg h]
theorem dval_dec (n : Nat) : dval (decDigits n) = n := by
  induction n using Nat.strongRecOn with
  | ind n ih =>
    by_cases h : n < 10
    · rw [decDigits_one h]
      show 10 * 0 + ((UInt8.ofNat (48 + n)).toNat - 48) = n
      rw [digit_toNat n h]; omega
    · rw [dec_big h, dval_snoc, ih (n / 10) (by omega), digit_toNat _ (by omega)]; omega
theorem dec_inj (a b : Nat) (h : decDigits a = decDigits b) : a = b := by rw [← dval_dec a, h, dval_dec]
theorem dec_digit (n : Nat) : ∀ c ∈ decDigits n, 48 ≤ c.toNat ∧ c.toNat ≤ 57 := by
  induction n using Nat.strongRecOn with
  | ind n ih =>
    intro c hc
    by_cases h : n < 10
    · rw [decDigits_one h] at hc
      rw [List.mem_singleton] at hc
      rw [hc, digit_toNat n h]; omega
    · rw [dec_big h, List.mem_append] at hc
      rcases hc with hc | hc
      · exact ih (n / 10) (by omega) c hc
      · rw [List.mem_singleton] at hc
        rw [hc, digit_toNat _ (by omega)]; omega
theorem dec_ne (n : Nat) : decDigits n ≠ [] := fun e => by have := nDigits_pos n; rw [← decDigits_length, e] at this; simp at this
theorem numF_dec (n : Nat) (h1 : 1 ≤ n) (h2 : n ≤ 999) : numF (decDigits n) = n := by
  unfold numF
  cases hf : ((List.range 1000).find? fun m => decide (1 ≤ m) && decide (decDigits n = decDigits m)) with
  | none =>
    rw [List.find?_eq_none] at hf
    have := hf n (by simp; omega)
    simp [h1] at this
  | some m =>
    have h3 := List.find?_some hf
    simp at h3
    exact (dec_inj _ _ h3.2).symm
theorem numF_spec (d : List UInt8) (h : numF d ≠ 0) : 1 ≤ numF d ∧ numF d ≤ 999 ∧ d = decDigits (numF d) := by
  unfold numF at h ⊢
  cases hf : ((List.range 1000).find? fun n => decide (1 ≤ n) && decide (d = decDigits n)) with
  | none => rw [hf] at h; exact absurd rfl h
  | some n =>
    have h1 := List.find?_some hf
    have h2 := List.mem_of_find?_eq_some hf
    simp at h1 h2
    show 1 ≤ n ∧ n ≤ 999 ∧ d = decDigits n
    exact ⟨h1.1, by omega, h1.2⟩
/-- Another number that digits are read as, where it is one of a tag. -/
def NumOk (z : Int) (d : List UInt8) : Prop := ∀ n : Nat, 1 ≤ n → n ≤ 999 → (z = n ↔ d = decDigits n)
theorem NumOk.nums {z : Int} {d : List UInt8} (h : NumOk z d) : numB z = numB (numF d : Int) ∧ (numB z = true → z = numF d) := by
  have h1 : numB z = true → z = numF d := fun hz => by
    unfold numB at hz
    simp at hz
    have := (h z.toNat (by omega) (by omega)).1 (by omega)
    rw [this, numF_dec _ (by omega) (by omega)]; omega
  refine ⟨?_, h1⟩
  rw [Bool.eq_iff_iff]
  constructor
  · intro hz; rw [← h1 hz]; exact hz
  · intro hz
    have h0 : numF d ≠ 0 := fun e => by rw [e] at hz; cases hz
    obtain ⟨a, b, c⟩ := numF_spec d h0
    rw [(h (numF d) a b).2 c]; exact hz
theorem NumOk.proper {z : Int} {d : List UInt8} (h : NumOk z d) (k : Int) (t : ByteArray) (hk : k = 2 ∨ k = 3 ∨ k = 4) : properB ⟨k, t, z⟩ = properB ⟨k, t, numF d⟩ ∧ (properB ⟨k, t, z⟩ = true → (⟨k, t, z⟩ : It) = ⟨k, t, numF d⟩) := by
  obtain ⟨h1, h2⟩ := h.nums
  rcases hk with rfl | rfl | rfl
  all_goals
    constructor
    · unfold properB; simp [h1]
    · intro hp
      unfold properB at hp
      simp at hp
      rw [h2 hp.2]
end Go.Proofs.YtphkpokoeaagfaaGreatDoor
