/- Plain mathematics of notations: how the bytes of a text are written, what one element reads as. Plain mathematics of notations: what is written is read, and what is read is what was written. Plain mathematics of notations: the whole of a notation. Plain mathematics: the tags of one number, and whether one more fits. -/
import Derived.Test.YtaogjccmeajpoaaGreatDoorNrmM
import Derived.Lib.ItoaNum
import Derived.Test.YtaogjccmeajpoaaGreatDoorGvl
namespace Go.Proofs.YtaogjccmeajpoaaGreatDoor
set_option linter.unusedVariables false
open Go.Lib

/-- The sign behind the backslash of a byte, or 0. -/
def sgN (n : Int) : Int := if n = 92 ∨ n = 60 ∨ n = 123 then n else if n = 10 then 110 else if n = 9 then 116 else if n = 13 ∨ cls n = 1 then 120 else 0
def sg (c : UInt8) : UInt8 := UInt8.ofNat (sgN (c.toNat : Int)).toNat
/-- The digits of an escape. -/
def hxU (n : Nat) : UInt8 := if n < 10 then UInt8.ofNat (48 + n) else UInt8.ofNat (87 + n)
/-- The notation of a byte of a text. -/
def wrU (c : UInt8) : List UInt8 := if sg c = 0 then [c] else if sg c = 120 then [92, 120, hxU (c.toNat / 16), hxU (c.toNat % 16)] else [92, sg c]
def wrL (l : List UInt8) : List UInt8 := l.flatMap wrU
theorem wrL_append (a b : List UInt8) : wrL (a ++ b) = wrL a ++ wrL b := by unfold wrL; rw [List.flatMap_append]
theorem wrL_snoc (a : List UInt8) (c : UInt8) : wrL (a ++ [c]) = wrL a ++ wrU c := by rw [wrL_append]; unfold wrL; simp
theorem sgN_range (n : Int) (h0 : 0 ≤ n) (h1 : n ≤ 255) : 0 ≤ sgN n ∧ sgN n ≤ 123 := by
  unfold sgN; repeat (first | split | omega)
theorem sg_toNat (c : UInt8) : ((sg c).toNat : Int) = sgN (c.toNat : Int) := by
  have h := sgN_range (c.toNat : Int) (by omega) (by have := c.toNat_lt; omega)
  unfold sg
  rw [UInt8.toNat_ofNat']
  omega
theorem wrU_len (c : UInt8) : 1 ≤ (wrU c).length ∧ (wrU c).length ≤ 4 := by
  unfold wrU
  by_cases h : sg c = 0
  · rw [if_pos h]; simp
  · rw [if_neg h]
    by_cases h1 : sg c = 120
    · rw [if_pos h1]; simp
    · rw [if_neg h1]; simp
theorem wrL_len (l : List UInt8) : (wrL l).length ≤ 4 * l.length := by
  induction l with
  | nil => simp [wrL]
  | cons x t ih =>
    have e : wrL (x :: t) = wrU x ++ wrL t := rfl
    rw [e, List.length_append, List.length_cons]
    have := (wrU_len x).2
    omega

/-- The digit that a byte is, or 16. -/
def hxV (c : UInt8) : Nat := if 48 ≤ c.toNat ∧ c.toNat ≤ 57 then c.toNat - 48 else if 97 ≤ c.toNat ∧ c.toNat ≤ 102 then c.toNat - 87 else 16
theorem hxV_hxU (n : Nat) (h : n < 16) : hxV (hxU n) = n := by
  have : ∀ m : Fin 16, hxV (hxU m.val) = m.val := by decide +kernel
  exact this ⟨n, h⟩
theorem hxU_hxV (c : UInt8) (h : hxV c < 16) : hxU (hxV c) = c := by
  have : ∀ m : Fin 256, hxV (UInt8.ofNat m.val) < 16 → hxU (hxV (UInt8.ofNat m.val)) = UInt8.ofNat m.val := by decide +kernel
  have e : UInt8.ofNat c.toNat = c := by simp
  have := this ⟨c.toNat, c.toNat_lt⟩
  rw [e] at this
  exact this h
/-- A text of one byte. -/
def bT (c : UInt8) : It := ⟨1, ⟨#[c]⟩, 0⟩
def rdHex (r : List UInt8) : Option (It × Nat) :=
  match r with
  | a :: b :: _ => if hxV a < 16 ∧ hxV b < 16 ∧ sg (UInt8.ofNat (16 * hxV a + hxV b)) = 120 then some (bT (UInt8.ofNat (16 * hxV a + hxV b)), 4) else none
  | _ => none
/-- The byte that a sign behind a backslash stands for. -/
def unS (c : UInt8) : UInt8 := if c = 110 then 10 else if c = 116 then 9 else c
/-- What stands behind a backslash. -/
def rdEsc (r : List UInt8) : Option (It × Nat) :=
  match r with
  | [] => none
  | c :: r' => if c = 120 then rdHex r' else if sg (unS c) = c then some (bT (unS c), 2) else none
theorem rdEsc_cons (c : UInt8) (r : List UInt8) : rdEsc (c :: r) = if c = 120 then rdHex r else if sg (unS c) = c then some (bT (unS c), 2) else none := rfl
theorem rdHex_two (a b : UInt8) (r : List UInt8) : rdHex (a :: b :: r) = if hxV a < 16 ∧ hxV b < 16 ∧ sg (UInt8.ofNat (16 * hxV a + hxV b)) = 120 then some (bT (UInt8.ofNat (16 * hxV a + hxV b)), 4) else none := rfl
/-- The bytes ahead of a byte, and behind it. -/
def upto (c : UInt8) (l : List UInt8) : List UInt8 := l.takeWhile (· != c)
def aft (c : UInt8) (l : List UInt8) : List UInt8 := l.drop ((upto c l).length + 1)
def hasU (c : UInt8) (l : List UInt8) : Bool := decide ((upto c l).length < l.length)
def bsL (l : List UInt8) : ByteArray := ⟨l.toArray⟩
theorem bsL_of (s : ByteArray) : bsL s.data.toList = s := by unfold bsL; apply ByteArray.ext; simp
theorem bsL_list (l : List UInt8) : (bsL l).data.toList = l := by unfold bsL; simp
theorem bsL_size (l : List UInt8) : (bsL l).size = l.length := by show l.toArray.size = _; simp
theorem bsL_append (a b : List UInt8) : bsL a ++ bsL b = bsL (a ++ b) := by
  apply ByteArray.ext; unfold bsL; rw [ByteArray.data_append]; simp
theorem bsL_inj {a b : List UInt8} (h : bsL a = bsL b) : a = b := by have := congrArg (fun s : ByteArray => s.data.toList) h; simpa [bsL] using this
def rdSlot (r : List UInt8) : Option (It × Nat) :=
  if hasU 125 r = true ∧ isNm (bsL (upto 125 r)) = true then some (⟨5, bsL (upto 125 r), 0⟩, (upto 125 r).length + 2) else none
/-- The number that digits write, from 1 to 999; else 0. -/
def numF (d : List UInt8) : Nat := ((List.range 1000).find? fun n => decide (1 ≤ n) && decide (d = decDigits n)).getD 0
def kindT (d t : List UInt8) : Int := if d.head? = some 47 then 3 else if t.getLast? = some 47 then 4 else 2
def digT (d t : List UInt8) : List UInt8 := if d.head? = some 47 then d.drop 1 else d
def txtT (d t : List UInt8) : List UInt8 := if d.head? = some 47 then t else if t.getLast? = some 47 then t.dropLast else t
def tagT (d t : List UInt8) : It := ⟨kindT d t, bsL (txtT d t), numF (digT d t)⟩
def rdTag (r : List UInt8) : Option (It × Nat) :=
  if hasU 62 r = true ∧ hasU 58 (upto 62 r) = true ∧ properB (tagT (upto 58 (upto 62 r)) (aft 58 (upto 62 r))) = true then some (tagT (upto 58 (upto 62 r)) (aft 58 (upto 62 r)), (upto 62 r).length + 2) else none
def rdPlain (c : UInt8) : Option (It × Nat) := if sg c = 0 then some (bT c, 1) else none
/-- The element at the beginning of bytes, and how many bytes it takes. -/
def rdE (l : List UInt8) : Option (It × Nat) :=
  match l with
  | [] => none
  | c :: r => if c = 60 then rdTag r else if c = 123 then rdSlot r else if c = 92 then rdEsc r else rdPlain c
theorem rdE_cons (c : UInt8) (r : List UInt8) : rdE (c :: r) = if c = 60 then rdTag r else if c = 123 then rdSlot r else if c = 92 then rdEsc r else rdPlain c := rfl
theorem rdE_60 (r : List UInt8) : rdE (60 :: r) = rdTag r := by rw [rdE_cons, if_pos rfl]
theorem rdE_123 (r : List UInt8) : rdE (123 :: r) = rdSlot r := by rw [rdE_cons, if_neg (show ¬ (123 : UInt8) = 60 by decide), if_pos rfl]
theorem rdE_92 (r : List UInt8) : rdE (92 :: r) = rdEsc r := by rw [rdE_cons, if_neg (show ¬ (92 : UInt8) = 60 by decide), if_neg (show ¬ (92 : UInt8) = 123 by decide), if_pos rfl]
theorem rdE_plain (c : UInt8) (r : List UInt8) (h1 : c ≠ 60) (h2 : c ≠ 123) (h3 : c ≠ 92) : rdE (c :: r) = rdPlain c := by rw [rdE_cons, if_neg h1, if_neg h2, if_neg h3]
/-- How an item is written. -/
def elL (x : It) : List UInt8 :=
  if x.k = 1 then wrL x.t.data.toList
  else if x.k = 2 then [60] ++ decDigits x.id.toNat ++ [58] ++ x.t.data.toList ++ [62]
  else if x.k = 3 then [60, 47] ++ decDigits x.id.toNat ++ [58] ++ x.t.data.toList ++ [62]
  else if x.k = 4 then [60] ++ decDigits x.id.toNat ++ [58] ++ x.t.data.toList ++ [47, 62]
  else [123] ++ x.t.data.toList ++ [125]
def fmtN (f : List It) : List UInt8 := f.flatMap elL
theorem fmtN_append (f g : List It) : fmtN (f ++ g) = fmtN f ++ fmtN g := by unfold fmtN; rw [List.flatMap_append]
theorem fmtN_snoc (f : List It) (x : It) : fmtN (f ++ [x]) = fmtN f ++ elL x := by rw [fmtN_append]; unfold fmtN; simp
theorem fmtN_next (l : List It) (k : Nat) (h : k < l.length) : fmtN (l.take (k + 1)) = fmtN (l.take k) ++ elL (l[k]'h) := by rw [List.take_succ_eq_append_getElem h, fmtN_snoc]

/-! ### cuts -/
theorem upto_app (c : UInt8) (a r : List UInt8) (h : ∀ x ∈ a, x ≠ c) : upto c (a ++ c :: r) = a := by
  induction a with
  | nil => simp [upto]
  | cons y t ih =>
    have h1 : (y != c) = true := by simpa using h y (.head _)
    show List.takeWhile _ (y :: (t ++ c :: r)) = _
    rw [List.takeWhile_cons, h1, if_pos rfl]
    have := ih fun x hx => h x (.tail _ hx)
    unfold upto at this
    rw [this]
theorem has_app (c : UInt8) (a r : List UInt8) (h : ∀ x ∈ a, x ≠ c) : hasU c (a ++ c :: r) = true := by
  unfold hasU; rw [upto_app c a r h]; simp
theorem aft_app (c : UInt8) (a r : List UInt8) (h : ∀ x ∈ a, x ≠ c) : aft c (a ++ c :: r) = r := by
  unfold aft; rw [upto_app c a r h, show a ++ c :: r = (a ++ [c]) ++ r by simp, List.drop_append_of_le_length (by simp), List.drop_of_length_le (by simp)]; rfl
theorem upto_mem (c : UInt8) (l : List UInt8) : ∀ x ∈ upto c l, x ≠ c := by
  induction l with
  | nil => intro x hx; cases hx
  | cons y t ih =>
    intro x hx
    unfold upto at hx
    rw [List.takeWhile_cons] at hx
    split at hx
    · rename_i hy
      rcases List.mem_cons.1 hx with rfl | hx
      · simpa using hy
      · exact ih x hx
    · cases hx
theorem has_split (c : UInt8) (l : List UInt8) (h : hasU c l = true) : l = upto c l ++ c :: aft c l := by
  induction l with
  | nil => simp [hasU, upto] at h
  | cons y t ih =>
    by_cases hy : y = c
    · subst hy; simp [upto, aft]
    · have h1 : (y != c) = true := by simpa using hy
      have e : upto c (y :: t) = y :: upto c t := by unfold upto; rw [List.takeWhile_cons, h1, if_pos rfl]
      have h2 : hasU c t = true := by unfold hasU at h ⊢; rw [e] at h; simpa using h
      have := ih h2
      have e2 : aft c (y :: t) = aft c t := by unfold aft; rw [e]; rfl
      rw [e, e2]
      show y :: t = y :: (upto c t ++ c :: aft c t)
      rw [← this]
theorem upto_none (c : UInt8) (l : List UInt8) (h : hasU c l = false) : upto c l = l ∧ ∀ x ∈ l, x ≠ c := by
  have e : upto c l = l := by
    unfold hasU at h
    have h1 : ¬ (upto c l).length < l.length := by simpa using h
    have h2 : upto c l <+: l := List.takeWhile_prefix _
    exact h2.eq_of_length_le (by omega)
  exact ⟨e, fun x hx => by rw [← e] at hx; exact upto_mem c l x hx⟩

/-! ### digits -/
def dval (l : List UInt8) : Nat := l.foldl (fun a c => 10 * a + (c.toNat - 48)) 0
theorem dval_snoc (l : List UInt8) (c : UInt8) : dval (l ++ [c]) = 10 * dval l + (c.toNat - 48) := by unfold dval; rw [List.foldl_append]; rfl
theorem digit_toNat (d : Nat) (h : d < 10) : (UInt8.ofNat (48 + d)).toNat = 48 + d := by rw [UInt8.toNat_ofNat']; omega
theorem dec_big {n : Nat} (h : ¬ n < 10) : decDigits n = decDigits (n / 10) ++ [UInt8.ofNat (48 + n % 10)] := by rw [decDigits, dif_neg h]
theorem dval_dec (n : Nat) : dval (decDigits n) = n := by
  induction n using Nat.strongRecOn with
  | ind n ih =>
    by_cases h : n < 10
    · rw [decDigits_one h]
      show 10 * 0 + ((UInt8.ofNat (48 + n)).toNat - 48) = n
      rw [digit_toNat n h]; omega
    · rw [dec_big h, dval_snoc, ih (n / 10) (by omega), digit_toNat _ (by omega)]; omega
theorem dec_inj (a b : Nat) (h : decDigits a = decDigits b) : a = b := by rw [← dval_dec a, h, dval_dec]
theorem dec_digit (n : Nat) : ∀ c ∈ decDigits n, 48 ≤ c.toNat ∧ c.toNat ≤ 57 := by
  induction n using Nat.strongRecOn with
  | ind n ih =>
    intro c hc
    by_cases h : n < 10
    · rw [decDigits_one h] at hc
      rw [List.mem_singleton] at hc
      rw [hc, digit_toNat n h]; omega
    · rw [dec_big h, List.mem_append] at hc
      rcases hc with hc | hc
      · exact ih (n / 10) (by omega) c hc
      · rw [List.mem_singleton] at hc
        rw [hc, digit_toNat _ (by omega)]; omega
theorem dec_ne (n : Nat) : decDigits n ≠ [] := fun e => by have := nDigits_pos n; rw [← decDigits_length, e] at this; simp at this
theorem numF_dec (n : Nat) (h1 : 1 ≤ n) (h2 : n ≤ 999) : numF (decDigits n) = n := by
  unfold numF
  cases hf : ((List.range 1000).find? fun m => decide (1 ≤ m) && decide (decDigits n = decDigits m)) with
  | none =>
    rw [List.find?_eq_none] at hf
    have := hf n (by simp; omega)
    simp [h1] at this
  | some m =>
    have h3 := List.find?_some hf
    simp at h3
    exact (dec_inj _ _ h3.2).symm
theorem numF_spec (d : List UInt8) (h : numF d ≠ 0) : 1 ≤ numF d ∧ numF d ≤ 999 ∧ d = decDigits (numF d) := by
  unfold numF at h ⊢
  cases hf : ((List.range 1000).find? fun n => decide (1 ≤ n) && decide (d = decDigits n)) with
  | none => rw [hf] at h; exact absurd rfl h
  | some n =>
    have h1 := List.find?_some hf
    have h2 := List.mem_of_find?_eq_some hf
    simp at h1 h2
    show 1 ≤ n ∧ n ≤ 999 ∧ d = decDigits n
    exact ⟨h1.1, by omega, h1.2⟩
/-- Another number that digits are read as, where it is one of a tag. -/
def NumOk (z : Int) (d : List UInt8) : Prop := ∀ n : Nat, 1 ≤ n → n ≤ 999 → (z = n ↔ d = decDigits n)
theorem NumOk.nums {z : Int} {d : List UInt8} (h : NumOk z d) : numB z = numB (numF d : Int) ∧ (numB z = true → z = numF d) := by
  have h1 : numB z = true → z = numF d := fun hz => by
    unfold numB at hz
    simp at hz
    have := (h z.toNat (by omega) (by omega)).1 (by omega)
    rw [this, numF_dec _ (by omega) (by omega)]; omega
  refine ⟨?_, h1⟩
  rw [Bool.eq_iff_iff]
  constructor
  · intro hz; rw [← h1 hz]; exact hz
  · intro hz
    have h0 : numF d ≠ 0 := fun e => by rw [e] at hz; cases hz
    obtain ⟨a, b, c⟩ := numF_spec d h0
    rw [(h (numF d) a b).2 c]; exact hz
theorem NumOk.proper {z : Int} {d : List UInt8} (h : NumOk z d) (k : Int) (t : ByteArray) (hk : k = 2 ∨ k = 3 ∨ k = 4) : properB ⟨k, t, z⟩ = properB ⟨k, t, numF d⟩ ∧ (properB ⟨k, t, z⟩ = true → (⟨k, t, z⟩ : It) = ⟨k, t, numF d⟩) := by
  obtain ⟨h1, h2⟩ := h.nums
  rcases hk with rfl | rfl | rfl
  all_goals
    constructor
    · unfold properB; simp [h1]
    · intro hp
      unfold properB at hp
      simp at hp
      rw [h2 hp.2]
end Go.Proofs.YtaogjccmeajpoaaGreatDoor
namespace Go.Proofs.YtaogjccmeajpoaaGreatDoor
set_option linter.unusedVariables false
open Go.Lib

theorem all_u8 {P : UInt8 → Prop} (h : ∀ m : Fin 256, P (UInt8.ofNat m.val)) (c : UInt8) : P c := by
  have := h ⟨c.toNat, c.toNat_lt⟩
  simpa using this
theorem sg_60 : sg 60 = 60 := by decide +kernel
theorem sg_123 : sg 123 = 123 := by decide +kernel
theorem sg_92 : sg 92 = 92 := by decide +kernel
theorem plain_ne (c : UInt8) (h : sg c = 0) : c ≠ 60 ∧ c ≠ 123 ∧ c ≠ 92 := by
  refine ⟨fun e => ?_, fun e => ?_, fun e => ?_⟩ <;> subst e <;> revert h <;> decide +kernel
theorem esc_back : ∀ c : UInt8, sg c ≠ 0 → sg c ≠ 120 → unS (sg c) = c := all_u8 (by decide +kernel)
theorem hex_back : ∀ c : UInt8, UInt8.ofNat (16 * (c.toNat / 16) + c.toNat % 16) = c := fun c => by
  rw [show 16 * (c.toNat / 16) + c.toNat % 16 = c.toNat by omega]; simp
theorem sg_zero : sg 0 = 120 := by decide +kernel
/-- The notation of a byte is read. -/
theorem rd_byte (c : UInt8) (r : List UInt8) : rdE (wrU c ++ r) = some (bT c, (wrU c).length) := by
  by_cases h0 : sg c = 0
  · obtain ⟨a1, a2, a3⟩ := plain_ne c h0
    have e : wrU c = [c] := if_pos h0
    rw [e]
    show rdE (c :: r) = _
    rw [rdE_plain c r a1 a2 a3, rdPlain, if_pos h0]; rfl
  · by_cases h1 : sg c = 120
    · have e : wrU c = [92, 120, hxU (c.toNat / 16), hxU (c.toNat % 16)] := by unfold wrU; rw [if_neg h0, if_pos h1]
      have hlt := c.toNat_lt
      rw [e]
      show rdE (92 :: 120 :: hxU (c.toNat / 16) :: hxU (c.toNat % 16) :: r) = _
      rw [rdE_92, rdEsc_cons, if_pos rfl, rdHex_two, hxV_hxU _ (by omega), hxV_hxU _ (by omega), hex_back, if_pos ⟨by omega, by omega, h1⟩]; rfl
    · have e : wrU c = [92, sg c] := by unfold wrU; rw [if_neg h0, if_neg h1]
      rw [e]
      show rdE (92 :: sg c :: r) = _
      rw [rdE_92, rdEsc_cons, if_neg h1, esc_back c h0 h1, if_pos rfl]; rfl
theorem esc_fwd (c : UInt8) (hc : c ≠ 120) (h : sg (unS c) = c) : wrU (unS c) = [92, c] := by
  have h0 : c ≠ 0 := fun e => by subst e; revert h; decide +kernel
  unfold wrU
  rw [h, if_neg h0, if_neg hc]
theorem kindT_cases (d t : List UInt8) : kindT d t = 2 ∨ kindT d t = 3 ∨ kindT d t = 4 := by
  unfold kindT; split
  · exact .inr (.inl rfl)
  · split
    · exact .inr (.inr rfl)
    · exact .inl rfl
theorem rdHex_some {r : List UInt8} {x : It} {n : Nat} (h : rdHex r = some (x, n)) : ∃ a b t, r = a :: b :: t ∧ hxV a < 16 ∧ hxV b < 16 ∧ sg (UInt8.ofNat (16 * hxV a + hxV b)) = 120 ∧ x = bT (UInt8.ofNat (16 * hxV a + hxV b)) ∧ n = 4 := by
  match r, h with
  | a :: b :: t, h =>
    rw [rdHex_two] at h
    by_cases hh : hxV a < 16 ∧ hxV b < 16 ∧ sg (UInt8.ofNat (16 * hxV a + hxV b)) = 120
    · rw [if_pos hh] at h
      injection h with h
      injection h with h1 h2
      exact ⟨a, b, t, rfl, hh.1, hh.2.1, hh.2.2, h1.symm, h2.symm⟩
    · rw [if_neg hh] at h; cases h
  | [], h => cases h
  | [a], h => cases h
theorem rdEsc_some {r : List UInt8} {x : It} {n : Nat} (h : rdEsc r = some (x, n)) : ∃ c, x = bT c ∧ (92 :: r).take n = wrU c ∧ n = (wrU c).length ∧ n ≤ r.length + 1 := by
  cases r with
  | nil => cases h
  | cons c r' =>
    rw [rdEsc_cons] at h
    by_cases hc : c = 120
    · rw [if_pos hc] at h
      obtain ⟨a, b, t, e0, ha, hb, hs, e1, e2⟩ := rdHex_some h
      subst e0 e2 hc
      have ht : (UInt8.ofNat (16 * hxV a + hxV b)).toNat = 16 * hxV a + hxV b := by rw [UInt8.toNat_ofNat']; omega
      have e : wrU (UInt8.ofNat (16 * hxV a + hxV b)) = [92, 120, a, b] := by
        unfold wrU
        rw [if_neg (by rw [hs]; decide), if_pos hs, ht, show (16 * hxV a + hxV b) / 16 = hxV a by omega, show (16 * hxV a + hxV b) % 16 = hxV b by omega, hxU_hxV a ha, hxU_hxV b hb]
      exact ⟨_, e1, by rw [e]; rfl, by rw [e]; rfl, by simp⟩
    · rw [if_neg hc] at h
      by_cases hs : sg (unS c) = c
      · rw [if_pos hs] at h
        injection h with h
        injection h with h1 h2
        have e := esc_fwd c hc hs
        subst h2
        exact ⟨_, h1.symm, by rw [e]; rfl, by rw [e]; rfl, by simp⟩
      · rw [if_neg hs] at h; cases h
/-- What is read as a text is the notation of its byte. -/
theorem rd_text {l : List UInt8} {x : It} {n : Nat} (h : rdE l = some (x, n)) (hk : x.k = 1) : ∃ c, x = bT c ∧ l.take n = wrU c ∧ n = (wrU c).length ∧ n ≤ l.length := by
  cases l with
  | nil => cases h
  | cons c r =>
    rw [rdE_cons] at h
    by_cases h1 : c = 60
    · rw [if_pos h1, rdTag] at h
      split at h
      · injection h with h; injection h with h a2
        rw [← h] at hk
        have hk' : kindT (upto 58 (upto 62 r)) (aft 58 (upto 62 r)) = 1 := hk
        rcases kindT_cases (upto 58 (upto 62 r)) (aft 58 (upto 62 r)) with e | e | e <;> rw [e] at hk' <;> cases hk'
      · cases h
    · rw [if_neg h1] at h
      by_cases h2 : c = 123
      · rw [if_pos h2, rdSlot] at h
        split at h
        · injection h with h; injection h with h a2
          rw [← h] at hk; cases hk
        · cases h
      · rw [if_neg h2] at h
        by_cases h3 : c = 92
        · rw [if_pos h3] at h
          subst h3
          obtain ⟨c, a1, a2, a3, a4⟩ := rdEsc_some h
          exact ⟨c, a1, a2, a3, by simpa using a4⟩
        · rw [if_neg h3, rdPlain] at h
          split at h
          · rename_i hs
            injection h with h; injection h with h h'
            have e : wrU c = [c] := if_pos hs
            exact ⟨c, h.symm, by rw [e, ← h']; rfl, by rw [e, ← h']; rfl, by rw [← h']; simp⟩
          · cases h

/-! ### tags and slots -/
theorem mem_byte {s : ByteArray} {c : UInt8} (h : c ∈ s.data.toList) : ∃ i, i < s.size ∧ byte s i = (c.toNat : Int) := by
  obtain ⟨i, hi, e⟩ := List.mem_iff_getElem.1 h
  have hi' : i < s.size := by simpa using hi
  exact ⟨i, hi', by unfold byte; rw [List.getD_eq_getElem?_getD, List.getElem?_eq_getElem hi]; show ((s.data.toList[i]).toNat : Int) = _; rw [e]⟩
theorem nm_mem {s : ByteArray} (h : isNm s = true) {c : UInt8} (hc : c ∈ s.data.toList) : nmB (c.toNat : Int) = true := by
  obtain ⟨i, hi, e⟩ := mem_byte hc
  rw [← e]; exact (isNm_bytes s h).2.2 i hi
theorem con_mem {s : ByteArray} (h : isCon s = true) {c : UInt8} (hc : c ∈ s.data.toList) : conB (c.toNat : Int) = true := by
  obtain ⟨i, hi, e⟩ := mem_byte hc
  rw [← e]; exact con_all s ((isCon_iff s).1 h) i hi
theorem u8_ne {c d : UInt8} (h : (c.toNat : Int) ≠ (d.toNat : Int)) : c ≠ d := fun e => h (by rw [e])
theorem nm_ne {s : ByteArray} (h : isNm s = true) {c : UInt8} (hc : c ∈ s.data.toList) : c ≠ 125 ∧ c ≠ 62 ∧ c ≠ 10 ∧ c ≠ 47 := by
  have := nm_mem h hc
  unfold nmB at this; simp at this
  refine ⟨u8_ne ?_, u8_ne ?_, u8_ne ?_, u8_ne ?_⟩
  · show _ ≠ (125 : Int); omega
  · show _ ≠ (62 : Int); omega
  · show _ ≠ (10 : Int); omega
  · show _ ≠ (47 : Int); omega
theorem con_ne {s : ByteArray} (h : isCon s = true) {c : UInt8} (hc : c ∈ s.data.toList) : c ≠ 62 ∧ c ≠ 10 := by
  have := con_mem h hc
  unfold conB at this; simp at this
  refine ⟨u8_ne ?_, u8_ne ?_⟩
  · show _ ≠ (62 : Int); omega
  · show _ ≠ (10 : Int); omega
theorem last_byte (s : ByteArray) (c : UInt8) (h : s.data.toList.getLast? = some c) : byte s (s.size - 1) = (c.toNat : Int) := by
  rw [List.getLast?_eq_getElem?] at h
  have hl : s.data.toList.length = s.size := by simp
  unfold byte
  rw [List.getD_eq_getElem?_getD, ← hl, h]; rfl
theorem con_nolast {s : ByteArray} (h : isCon s = true) : s.data.toList.getLast? ≠ some 47 := fun e =>
  con_last s ((isCon_iff s).1 h) (by rw [last_byte s 47 e]; rfl)
theorem dec_ne58 (n : Nat) : ∀ c ∈ decDigits n, c ≠ 58 ∧ c ≠ 62 ∧ c ≠ 10 ∧ c ≠ 47 := fun c hc => by
  have := dec_digit n c hc
  refine ⟨u8_ne ?_, u8_ne ?_, u8_ne ?_, u8_ne ?_⟩
  · show _ ≠ (58 : Int); omega
  · show _ ≠ (62 : Int); omega
  · show _ ≠ (10 : Int); omega
  · show _ ≠ (47 : Int); omega
theorem dec_head (n : Nat) : (decDigits n).head? ≠ some 47 := fun e => by
  cases hd : decDigits n with
  | nil => exact dec_ne n hd
  | cons a t =>
    rw [hd] at e
    simp at e
    exact (dec_ne58 n a (by rw [hd]; exact .head _)).2.2.2 e
theorem head_app {a b : List UInt8} (h : a ≠ []) : (a ++ b).head? = a.head? := by cases a with | nil => exact absurd rfl h | cons x t => rfl
theorem isT_proper {x : It} (ht : isT x.k = true) (hp : properB x = true) : 1 ≤ x.id ∧ x.id ≤ 999 ∧ (x.k = 3 → isNm x.t = true) ∧ (x.k = 2 ∨ x.k = 4 → isCon x.t = true) := by
  unfold isT at ht; simp at ht
  unfold properB at hp
  rcases ht with h | h | h
  · rw [if_neg (by omega), if_pos (.inl h)] at hp
    simp [numB] at hp
    exact ⟨hp.2.1, hp.2.2, fun e => by omega, fun _ => hp.1⟩
  · rw [if_neg (by omega), if_neg (by omega), if_pos h] at hp
    simp [numB] at hp
    exact ⟨hp.2.1, hp.2.2, fun _ => hp.1, fun e => by omega⟩
  · rw [if_neg (by omega), if_pos (.inr h)] at hp
    simp [numB] at hp
    exact ⟨hp.2.1, hp.2.2, fun e => by omega, fun _ => hp.1⟩
/-- What stands between the brackets of a tag. -/
def insL (x : It) : List UInt8 := (if x.k = 3 then [47] else []) ++ decDigits x.id.toNat ++ [58] ++ x.t.data.toList ++ (if x.k = 4 then [47] else [])
theorem el_tag (x : It) (ht : isT x.k = true) : elL x = 60 :: (insL x ++ [62]) := by
  unfold isT at ht; simp at ht
  unfold elL insL
  rcases ht with h | h | h
  · rw [if_neg (by omega), if_pos h, if_neg (by omega), if_neg (by omega)]; simp
  · rw [if_neg (by omega), if_neg (by omega), if_pos h, if_pos h, if_neg (by omega)]; simp
  · rw [if_neg (by omega), if_neg (by omega), if_neg (by omega), if_pos h, if_neg (by omega), if_pos h]; simp
theorem ins_ne (x : It) (ht : isT x.k = true) (hp : properB x = true) : ∀ c ∈ insL x, c ≠ 62 ∧ c ≠ 10 := by
  obtain ⟨h1, h2, h3, h4⟩ := isT_proper ht hp
  intro c hc
  unfold insL at hc
  simp only [List.mem_append] at hc
  rcases hc with (((hc | hc) | hc) | hc) | hc
  · split at hc
    · simp at hc; subst hc; exact ⟨by decide, by decide⟩
    · cases hc
  · have := dec_ne58 _ c hc; exact ⟨this.2.1, this.2.2.1⟩
  · simp at hc; subst hc; exact ⟨by decide, by decide⟩
  · by_cases hk : x.k = 3
    · have := nm_ne (h3 hk) hc; exact ⟨this.2.1, this.2.2.1⟩
    · unfold isT at ht; simp at ht
      exact con_ne (h4 (by omega)) hc
  · split at hc
    · simp at hc; subst hc; exact ⟨by decide, by decide⟩
    · cases hc
theorem tag_ins (x : It) (ht : isT x.k = true) (hp : properB x = true) : hasU 58 (insL x) = true ∧ tagT (upto 58 (insL x)) (aft 58 (insL x)) = x := by
  obtain ⟨h1, h2, h3, h4⟩ := isT_proper ht hp
  have hd := dec_head x.id.toNat
  have hne := dec_ne x.id.toNat
  have h58 := dec_ne58 x.id.toNat
  have hnum := numF_dec x.id.toNat (by omega) (by omega)
  have e : insL x = ((if x.k = 3 then [47] else []) ++ decDigits x.id.toNat) ++ 58 :: (x.t.data.toList ++ (if x.k = 4 then [47] else [])) := by unfold insL; simp
  have hA : ∀ c ∈ (if x.k = 3 then [(47 : UInt8)] else []) ++ decDigits x.id.toNat, c ≠ 58 := by
    intro c hc
    rw [List.mem_append] at hc
    rcases hc with hc | hc
    · split at hc
      · simp at hc; subst hc; decide
      · cases hc
    · exact (h58 c hc).1
  rw [e, has_app _ _ _ hA, upto_app _ _ _ hA, aft_app _ _ _ hA]
  refine ⟨rfl, ?_⟩
  clear e hA
  unfold isT at ht; simp at ht
  have hid : ((x.id.toNat : Nat) : Int) = x.id := by omega
  rcases ht with h | h | h
  · have a3 : (if x.k = 3 then [(47 : UInt8)] else []) = [] := if_neg (by omega)
    have a4 : (if x.k = 4 then [(47 : UInt8)] else []) = [] := if_neg (by omega)
    rw [a3, a4, List.nil_append, List.append_nil]
    have hl := con_nolast (h4 (.inl h))
    apply It.ext'
    · show kindT _ _ = _; rw [kindT, if_neg hd, if_neg hl, h]
    · show bsL (txtT _ _) = _; rw [txtT, if_neg hd, if_neg hl, bsL_of]
    · show ((numF (digT _ _) : Nat) : Int) = _; rw [digT, if_neg hd, hnum, hid]
  · have a3 : (if x.k = 3 then [(47 : UInt8)] else []) = [47] := if_pos h
    have a4 : (if x.k = 4 then [(47 : UInt8)] else []) = [] := if_neg (by omega)
    rw [a3, a4, List.append_nil]
    have hd' : ([47] ++ decDigits x.id.toNat).head? = some (47 : UInt8) := rfl
    apply It.ext'
    · show kindT ([47] ++ decDigits x.id.toNat) x.t.data.toList = x.k; rw [kindT, if_pos hd', h]
    · show bsL (txtT ([47] ++ decDigits x.id.toNat) x.t.data.toList) = x.t; rw [txtT, if_pos hd', bsL_of]
    · show ((numF (digT ([47] ++ decDigits x.id.toNat) x.t.data.toList) : Nat) : Int) = x.id; rw [digT, if_pos hd']; show ((numF (decDigits x.id.toNat) : Nat) : Int) = x.id; rw [hnum, hid]
  · have a3 : (if x.k = 3 then [(47 : UInt8)] else []) = [] := if_neg (by omega)
    have a4 : (if x.k = 4 then [(47 : UInt8)] else []) = [47] := if_pos h
    rw [a3, a4, List.nil_append]
    have hl : (x.t.data.toList ++ [47]).getLast? = some (47 : UInt8) := by simp
    apply It.ext'
    · show kindT _ _ = _; rw [kindT, if_neg hd, if_pos hl, h]
    · show bsL (txtT _ _) = _; rw [txtT, if_neg hd, if_pos hl, List.dropLast_concat, bsL_of]
    · show ((numF (digT _ _) : Nat) : Int) = _; rw [digT, if_neg hd, hnum, hid]
theorem proper_kinds {x : It} (hp : properB x = true) : x.k = 1 ∨ isT x.k = true ∨ x.k = 5 := by
  unfold properB at hp
  by_cases h1 : x.k = 1
  · exact .inl h1
  · rw [if_neg h1] at hp
    by_cases h2 : x.k = 2 ∨ x.k = 4
    · refine .inr (.inl ?_); unfold isT; simp; omega
    · rw [if_neg h2] at hp
      by_cases h3 : x.k = 3
      · refine .inr (.inl ?_); unfold isT; simp; omega
      · rw [if_neg h3] at hp
        by_cases h5 : x.k = 5
        · exact .inr (.inr h5)
        · rw [if_neg h5] at hp; cases hp
theorem slot_proper {x : It} (hk : x.k = 5) : properB x = (isNm x.t && decide (x.id = 0)) := by
  unfold properB; rw [if_neg (by omega), if_neg (by omega), if_neg (by omega), if_pos hk]
theorem el_slot {x : It} (hk : x.k = 5) : elL x = 123 :: (x.t.data.toList ++ [125]) := by
  unfold elL; rw [if_neg (by omega), if_neg (by omega), if_neg (by omega), if_neg (by omega)]; simp
/-- The notation of a tag or a slot is read. -/
theorem rd_el (x : It) (hp : properB x = true) (hk : x.k ≠ 1) (r : List UInt8) : rdE (elL x ++ r) = some (x, (elL x).length) := by
  rcases proper_kinds hp with h | h | h
  · exact absurd h hk
  · obtain ⟨a1, a2⟩ := tag_ins x h hp
    have hn := fun c hc => (ins_ne x h hp c hc).1
    rw [el_tag x h]
    have e : 60 :: (insL x ++ [62]) ++ r = 60 :: (insL x ++ 62 :: r) := by simp
    have b1 := has_app 62 (insL x) r hn
    have b2 := upto_app 62 (insL x) r hn
    rw [e, rdE_60, rdTag, if_pos (by rw [b2, b1, a1, a2]; exact ⟨rfl, rfl, hp⟩), b2, a2]
    simp
  · rw [slot_proper h] at hp
    simp at hp
    have hn : ∀ c ∈ x.t.data.toList, c ≠ 125 := fun c hc => (nm_ne hp.1 hc).1
    rw [el_slot h]
    have e : 123 :: (x.t.data.toList ++ [125]) ++ r = 123 :: (x.t.data.toList ++ 125 :: r) := by simp
    have b1 := has_app 125 x.t.data.toList r hn
    have b2 := upto_app 125 x.t.data.toList r hn
    have e5 : (⟨5, x.t, 0⟩ : It) = x := It.ext' h.symm rfl hp.2.symm
    rw [e, rdE_123, rdSlot, if_pos (by rw [b2, b1, bsL_of]; exact ⟨rfl, hp.1⟩), b2, bsL_of, e5]
    simp
theorem txt_dec {d t : List UInt8} (hp : properB (tagT d t) = true) : insL (tagT d t) = d ++ 58 :: t := by
  have hT : isT (tagT d t).k = true := by
    show isT (kindT d t) = true
    unfold isT; have := kindT_cases d t; simp; omega
  obtain ⟨h1, h2, h3, h4⟩ := isT_proper hT hp
  have h0 : numF (digT d t) ≠ 0 := fun e => by
    have : (tagT d t).id = ((numF (digT d t) : Nat) : Int) := rfl
    rw [this, e] at h1; simp at h1
  obtain ⟨g1, g2, g3⟩ := numF_spec _ h0
  have eid : (tagT d t).id.toNat = numF (digT d t) := by show ((numF (digT d t) : Nat) : Int).toNat = _; omega
  have et : (tagT d t).t.data.toList = txtT d t := by show (bsL (txtT d t)).data.toList = _; exact bsL_list _
  have e0 : insL (tagT d t) = (if kindT d t = 3 then [47] else []) ++ digT d t ++ [58] ++ txtT d t ++ (if kindT d t = 4 then [47] else []) := by
    unfold insL; rw [eid, et, ← g3]; rfl
  rw [e0]
  clear e0 eid et g1 g2 g3 h0 h1 h2 h3 h4 hT hp
  by_cases hd : d.head? = some 47
  · have k3 : kindT d t = 3 := if_pos hd
    have k1 : digT d t = d.drop 1 := if_pos hd
    have k2 : txtT d t = t := if_pos hd
    rw [k3, k1, k2]
    cases d with
    | nil => cases hd
    | cons a r => simp at hd; subst hd; simp
  · have k1 : digT d t = d := if_neg hd
    rw [k1]
    by_cases hl : t.getLast? = some 47
    · have k3 : kindT d t = 4 := by rw [kindT, if_neg hd, if_pos hl]
      have k2 : txtT d t = t.dropLast := by rw [txtT, if_neg hd, if_pos hl]
      have e : t = t.dropLast ++ [47] := by
        have hne : t ≠ [] := by intro h; rw [h] at hl; cases hl
        rw [List.getLast?_eq_some_getLast hne] at hl
        injection hl with hl
        rw [← hl, List.dropLast_concat_getLast]
      rw [k3, k2]
      conv => rhs; rw [e]
      simp
    · have k3 : kindT d t = 2 := by rw [kindT, if_neg hd, if_neg hl]
      have k2 : txtT d t = t := by rw [txtT, if_neg hd, if_neg hl]
      rw [k3, k2]; simp
theorem take_cons_app (u v : List UInt8) (c : UInt8) : (u ++ c :: v).take (u.length + 1) = u ++ [c] := by
  rw [show u ++ c :: v = (u ++ [c]) ++ v by simp, List.take_append_of_le_length (by simp), List.take_of_length_le (by simp)]
/-- What is read as a tag or a slot is its notation. -/
theorem rd_other {l : List UInt8} {x : It} {n : Nat} (h : rdE l = some (x, n)) (hk : x.k ≠ 1) : properB x = true ∧ l.take n = elL x ∧ n = (elL x).length ∧ n ≤ l.length := by
  cases l with
  | nil => cases h
  | cons c r =>
    rw [rdE_cons] at h
    by_cases h1 : c = 60
    · rw [if_pos h1, rdTag] at h
      split at h
      · rename_i hh
        obtain ⟨b1, b2, b3⟩ := hh
        injection h with h; injection h with h a2
        have hT : isT x.k = true := by
          rw [← h]
          show isT (kindT _ _) = true
          have := kindT_cases (upto 58 (upto 62 r)) (aft 58 (upto 62 r))
          unfold isT; simp; omega
        have hi := txt_dec b3
        rw [h] at hi b3
        rw [← has_split 58 _ b2] at hi
        have hs := has_split 62 r b1
        have e : elL x = 60 :: (upto 62 r ++ [62]) := by rw [el_tag x hT, hi]
        refine ⟨b3, ?_, ?_, ?_⟩
        · rw [e, h1, ← a2]
          show 60 :: List.take ((upto 62 r).length + 1) r = _
          congr 1
          have := take_cons_app (upto 62 r) (aft 62 r) 62
          rwa [← hs] at this
        · rw [e, ← a2]; simp
        · rw [← a2]
          have := congrArg List.length hs
          simp at this
          simp; omega
      · cases h
    · rw [if_neg h1] at h
      by_cases h2 : c = 123
      · rw [if_pos h2, rdSlot] at h
        split at h
        · rename_i hh
          injection h with h; injection h with h a2
          have hs := has_split 125 r hh.1
          generalize hu : upto 125 r = u at *
          generalize aft 125 r = v at *
          have hk5 : x.k = 5 := by rw [← h]
          have e : elL x = 123 :: (u ++ [125]) := by rw [el_slot hk5, ← h]; show 123 :: ((bsL u).data.toList ++ _) = _; rw [bsL_list]
          refine ⟨?_, ?_, ?_, ?_⟩
          · rw [slot_proper hk5, ← h]; simp; exact hh.2
          · rw [e, h2, ← a2, hs]
            show 123 :: List.take (u.length + 1) (u ++ 125 :: v) = _
            rw [take_cons_app]
          · rw [e, ← a2]; simp
          · rw [← a2, hs]; simp
        · cases h
      · rw [if_neg h2] at h
        by_cases h3 : c = 92
        · rw [if_pos h3] at h
          obtain ⟨c, a1, _⟩ := rdEsc_some h
          rw [a1] at hk; exact absurd rfl hk
        · rw [if_neg h3, rdPlain] at h
          split at h
          · injection h with h; injection h with h h'
            rw [← h] at hk; exact absurd rfl hk
          · cases h
theorem rd_pos {l : List UInt8} {x : It} {n : Nat} (h : rdE l = some (x, n)) : 1 ≤ n ∧ n ≤ l.length := by
  by_cases hk : x.k = 1
  · obtain ⟨c, _, _, h2, h3⟩ := rd_text h hk
    have := (wrU_len c).1; omega
  · obtain ⟨h1, _, h2, h3⟩ := rd_other h hk
    have : 1 ≤ (elL x).length := by
      rcases proper_kinds h1 with h | h | h
      · exact absurd h hk
      · rw [el_tag x h]; simp
      · rw [el_slot h]; simp
    omega
end Go.Proofs.YtaogjccmeajpoaaGreatDoor
namespace Go.Proofs.YtaogjccmeajpoaaGreatDoor
set_option linter.unusedVariables false
open Go.Lib

def goP : Nat → List It → Nat → Nat → List UInt8 → List It × Nat × Int
  | 0, f, _, _, _ => (f, 0, 0)
  | m + 1, f, n, p, s =>
    if s = [] then (f, 0, 0)
    else match rdE s with
      | none => ([], p, 2)
      | some (x, k) => if x.k ≠ 1 ∧ errAt f x ≠ 0 then ([], p, errAt f x) else if 512 < (normS f x).length ∨ 1024 < n + 1 then ([], p, 3) else goP m (normS f x) (n + 1) (p + k) (s.drop k)
theorem goP_fuel : ∀ m m' f n p s, s.length ≤ m → s.length ≤ m' → goP m f n p s = goP m' f n p s := by
  intro m
  induction m with
  | zero =>
    intro m' f n p s h h'
    obtain rfl : s = [] := List.length_eq_zero_iff.1 (by omega)
    cases m' with
    | zero => rfl
    | succ j => rw [goP, goP, if_pos rfl]
  | succ m ih =>
    intro m' f n p s h h'
    cases s with
    | nil =>
      cases m' with
      | zero => rw [goP, goP, if_pos rfl]
      | succ j => rw [goP, goP, if_pos rfl, if_pos rfl]
    | cons c r =>
      cases m' with
      | zero => simp at h'
      | succ j =>
        rw [goP, goP, if_neg (by simp), if_neg (by simp)]
        cases hr : rdE (c :: r) with
        | none => rfl
        | some y =>
          obtain ⟨x, k⟩ := y
          have hk := rd_pos hr
          simp only []
          split
          · rfl
          · split
            · rfl
            · simp only [List.length_cons] at h h' hk
              exact ih j _ _ _ _ (by rw [List.length_drop, List.length_cons]; omega) (by rw [List.length_drop, List.length_cons]; omega)
/-- What is read behind f, of n positions, from offset p on. -/
def go (f : List It) (n p : Nat) (s : List UInt8) : List It × Nat × Int := goP s.length f n p s
def parseN (s : List UInt8) : List It × Nat × Int := go [] 0 0 s
theorem go_nil (f : List It) (n p : Nat) : go f n p [] = (f, 0, 0) := rfl
theorem go_cons (f : List It) (n p : Nat) (s : List UInt8) (hs : s ≠ []) : go f n p s = match rdE s with
      | none => ([], p, 2)
      | some (x, k) => if x.k ≠ 1 ∧ errAt f x ≠ 0 then ([], p, errAt f x) else if 512 < (normS f x).length ∨ 1024 < n + 1 then ([], p, 3) else go (normS f x) (n + 1) (p + k) (s.drop k) := by
  unfold go
  cases s with
  | nil => exact absurd rfl hs
  | cons c r =>
    show goP (r.length + 1) f n p (c :: r) = _
    rw [goP, if_neg hs]
    cases hr : rdE (c :: r) with
    | none => rfl
    | some y =>
      obtain ⟨x, k⟩ := y
      have hk := rd_pos hr
      simp only [List.length_cons] at hk
      simp only []
      split
      · rfl
      · split
        · rfl
        · exact goP_fuel _ _ _ _ _ _ (by rw [List.length_drop, List.length_cons]; omega) (Nat.le_refl _)
theorem go_none (f : List It) (n p : Nat) (s : List UInt8) (hs : s ≠ []) (h : rdE s = none) : go f n p s = ([], p, 2) := by rw [go_cons f n p s hs, h]
theorem go_bad (f : List It) (n p : Nat) (s : List UInt8) (hs : s ≠ []) {x : It} {k : Nat} (h : rdE s = some (x, k)) (hk : x.k ≠ 1) (he : errAt f x ≠ 0) : go f n p s = ([], p, errAt f x) := by rw [go_cons f n p s hs, h]; exact if_pos ⟨hk, he⟩
theorem go_full (f : List It) (n p : Nat) (s : List UInt8) (hs : s ≠ []) {x : It} {k : Nat} (h : rdE s = some (x, k)) (he : x.k = 1 ∨ errAt f x = 0) (hl : 512 < (normS f x).length ∨ 1024 < n + 1) : go f n p s = ([], p, 3) := by
  rw [go_cons f n p s hs, h]; simp only []; rw [if_neg (by rintro ⟨a, b⟩; rcases he with e | e; exact a e; exact b e), if_pos hl]
theorem go_more (f : List It) (n p : Nat) (s : List UInt8) (hs : s ≠ []) {x : It} {k : Nat} (h : rdE s = some (x, k)) (he : x.k = 1 ∨ errAt f x = 0) (h1 : (normS f x).length ≤ 512) (h2 : n + 1 ≤ 1024) : go f n p s = go (normS f x) (n + 1) (p + k) (s.drop k) := by
  rw [go_cons f n p s hs, h]; simp only []; rw [if_neg (by rintro ⟨a, b⟩; rcases he with e | e; exact a e; exact b e), if_neg (by omega)]

/-! ### what is written is read -/
theorem flush_len' (res : List It) (bs : List UInt8) : (flush res bs).length ≤ res.length + 1 := by unfold flush; split <;> simp
theorem wrU_ne (c : UInt8) : wrU c ≠ [] := fun e => by have := (wrU_len c).1; rw [e] at this; simp at this
theorem go_text (P : List It) (hP : lastText P = false) (hl : P.length + 1 ≤ 512) (rest : List UInt8) : ∀ (bs done : List UInt8) (n p : Nat), n + bs.length ≤ 1024 →
    go (flush P done) n p (wrL bs ++ rest) = go (flush P (done ++ bs)) (n + bs.length) (p + (wrL bs).length) rest := by
  intro bs
  induction bs with
  | nil => intro done n p _; simp [wrL]
  | cons c t ih =>
    intro done n p hn
    simp only [List.length_cons] at hn
    have e : wrL (c :: t) = wrU c ++ wrL t := rfl
    have hs : wrU c ++ (wrL t ++ rest) ≠ [] := fun h => wrU_ne c (List.append_eq_nil_iff.1 h).1
    have hnt : normS (flush P done) (bT c) = flush P (done ++ [c]) := norm_text P done (bT c) hP rfl
    have h5 := flush_len' P (done ++ [c])
    rw [e, List.append_assoc, go_more _ n p _ hs (rd_byte c _) (.inl rfl) (by rw [hnt]; omega) (by omega), hnt, List.drop_left, ih _ _ _ (by omega)]
    simp only [List.length_append, List.length_cons, List.append_assoc, List.singleton_append]
    rw [show n + 1 + t.length = n + (t.length + 1) by omega, show p + (wrU c).length + (wrL t).length = p + ((wrU c).length + (wrL t).length) by omega]
theorem el_ne (x : It) (hp : properB x = true) (hk : x.k ≠ 1) : elL x ≠ [] := by
  rcases proper_kinds hp with h | h | h
  · exact absurd h hk
  · rw [el_tag x h]; simp
  · rw [el_slot h]; simp
theorem go_other (P : List It) (x : It) (n p : Nat) (rest : List UInt8) (hp : properB x = true) (hk : x.k ≠ 1) (he : errAt P x = 0) (hl : P.length + 1 ≤ 512) (hn : n + 1 ≤ 1024) :
    go P n p (elL x ++ rest) = go (P ++ [x]) (n + 1) (p + (elL x).length) rest := by
  have hs : elL x ++ rest ≠ [] := fun h => el_ne x hp hk (List.append_eq_nil_iff.1 h).1
  have e := norm_other P x hk
  rw [go_more P n p _ hs (rd_el x hp hk rest) (.inr he) (by rw [e]; simp; omega) hn, e, List.drop_left]
theorem valE_zero {l : List It} (h : valE l = 0) : l.length ≤ 512 ∧ lenI l ≤ 1024 ∧ errL [] l = 0 := by
  unfold valE at h
  by_cases hh : 512 < l.length ∨ 1024 < lenI l
  · rw [if_pos hh] at h; cases h
  · rw [if_neg hh] at h; exact ⟨by omega, by omega, h⟩
theorem valE_of {l : List It} (h1 : l.length ≤ 512) (h2 : lenI l ≤ 1024) (h3 : errL [] l = 0) : valE l = 0 := by
  unfold valE; rw [if_neg (by omega), h3]
theorem errL_at (l : List It) (h : errL [] l = 0) (k : Nat) (hk : k < l.length) : errL [] (l.take k) = 0 ∧ errAt (l.take k) (l[k]'hk) = 0 := by
  have e : l.take (k + 1) ++ l.drop (k + 1) = l := List.take_append_drop _ _
  rw [← e] at h
  have h1 := errL_left _ _ h
  rw [List.take_succ_eq_append_getElem hk] at h1
  have h2 := errL_left _ _ h1
  rw [errL_snoc _ _ h2] at h1
  exact ⟨h2, h1⟩
theorem go_fmt (f : List It) (h : valE f = 0) : ∀ k, k ≤ f.length → go [] 0 0 (fmtN f) = go (f.take k) (lenI (f.take k)) (fmtN (f.take k)).length (fmtN (f.drop k)) := by
  obtain ⟨h1, h2, h3⟩ := valE_zero h
  intro k
  induction k with
  | zero => intro _; simp [lenI, fmtN]
  | succ k ih =>
    intro hk
    obtain ⟨e1, e2⟩ := errL_at f h3 k (by omega)
    have e3 := lenI_next f k (by omega)
    have e4 := lenI_take f (k + 1)
    have e5 := fmtN_next f k (by omega)
    have e6 : fmtN (f.drop k) = elL f[k] ++ fmtN (f.drop (k + 1)) := by rw [List.drop_eq_getElem_cons (by omega)]; rfl
    have e7 := List.take_succ_eq_append_getElem (show k < f.length by omega)
    have e8 : (f.take k).length = k := by simp; omega
    have hw : wid f[k] = if f[k].k = 1 then f[k].t.size else 1 := rfl
    rw [ih (by omega), e6, e3, e5]
    generalize hx : f[k] = x at *
    have hz := (errAt_zero _ _).1 e2
    by_cases hk1 : x.k = 1
    · have hlt := hz.2.1 hk1
      obtain ⟨ht, hi⟩ := (proper_text hk1).1 hz.1
      have hel : elL x = wrL x.t.data.toList := if_pos hk1
      have hsz : x.t.data.toList.length = x.t.size := by simp
      rw [hw, if_pos hk1] at e3
      have := go_text (f.take k) hlt (by omega) (fmtN (f.drop (k + 1))) x.t.data.toList [] (lenI (f.take k)) (fmtN (f.take k)).length (by omega)
      rw [flush_nil, List.nil_append, flush_some _ _ (fun e => ht ((bytes_nil x.t).1 e)), bytes_of, ← text_eta hk1 hi, ← e7] at this
      rw [hel, this, hw, if_pos hk1, List.length_append, hsz]
    · rw [hw, if_neg hk1] at e3
      rw [hw, if_neg hk1]
      rw [go_other _ x _ _ _ hz.1 hk1 e2 (by omega) (by omega), ← e7, List.length_append]
/-- What Format writes is read again. -/
theorem parse_fmt (f : List It) (h : valE f = 0) : parseN (fmtN f) = (f, 0, 0) := by
  have := go_fmt f h f.length (Nat.le_refl _)
  rw [List.take_length, List.drop_length] at this
  exact this
theorem fmt_inj (f g : List It) (hf : valE f = 0) (hg : valE g = 0) (h : fmtN f = fmtN g) : f = g := by
  have a := parse_fmt f hf
  have b := parse_fmt g hg
  rw [h, b] at a
  exact (congrArg Prod.fst a).symm

/-! ### what is read was written -/
theorem fmt_step (f : List It) (x : It) : fmtN (normS f x) = fmtN f ++ elL x := by
  by_cases hk : x.k = 1
  · have hel : elL x = wrL x.t.data.toList := if_pos hk
    rw [hel]
    by_cases h : x.t.size = 0
    · rw [norm_skip f x hk h, (bytes_nil x.t).2 h]; simp [wrL]
    · rcases Nat.lt_or_ge 0 f.length with hlo | hlo
      · obtain ⟨L, z, ho, hl⟩ := out_last f hlo
        by_cases hz : z.k = 1
        · rw [norm_last f x hk h L z ho hz, ho, fmtN_snoc, fmtN_snoc]
          have e1 : elL z = wrL z.t.data.toList := if_pos hz
          have e2 : elL ⟨1, z.t ++ x.t, 0⟩ = wrL (z.t ++ x.t).data.toList := if_pos rfl
          rw [e1, e2, ByteArray.data_append]
          simp [wrL_append]
        · rw [norm_fresh f x hk h (by rw [hl]; simpa using hz), fmtN_snoc]; rfl
      · have ho : f = [] := List.length_eq_zero_iff.1 (by omega)
        subst ho
        rw [norm_fresh [] x hk h rfl, fmtN_snoc]; rfl
  · rw [norm_other f x hk, fmtN_snoc]
theorem el_byte (c : UInt8) : elL (bT c) = wrU c := by
  have : elL (bT c) = wrL [c] := if_pos rfl
  rw [this]; simp [wrL]
theorem rd_take {l : List UInt8} {x : It} {n : Nat} (h : rdE l = some (x, n)) : l.take n = elL x ∧ wid x = 1 ∧ (x.k ≠ 1 → properB x = true) ∧ (x.k = 1 → x = ⟨1, x.t, 0⟩ ∧ x.t.size = 1) := by
  by_cases hk : x.k = 1
  · obtain ⟨c, h1, h2, _⟩ := rd_text h hk
    refine ⟨by rw [h2, h1, el_byte], by rw [h1]; rfl, fun h => absurd hk h, fun _ => ?_⟩
    rw [h1]; exact ⟨rfl, rfl⟩
  · obtain ⟨h1, h2, _⟩ := rd_other h hk
    exact ⟨h2, if_neg hk, fun _ => h1, fun h => absurd h hk⟩
theorem err_step (f : List It) (x : It) (h : errL [] f = 0) (ht : x.k = 1 → x = ⟨1, x.t, 0⟩) (hp : x.k ≠ 1 → properB x = true ∧ errAt f x = 0) : errL [] (normS f x) = 0 := by
  have e : normS f x = norm (f ++ [x]) := by rw [norm_snoc, norm_valid f h]
  rw [e]
  by_cases hk : x.k = 1
  · rw [ht hk]; exact err_text f x.t h
  · obtain ⟨a, b⟩ := hp hk
    exact err_other f x h hk a ((errAt_zero f x).1 b).2.2
structure Good (S : List UInt8) (r : List It × Nat × Int) : Prop where
  ok : r.2.2 = 0 → fmtN r.1 = S ∧ valE r.1 = 0 ∧ r.2.1 = 0
  no : r.2.2 ≠ 0 → r.1 = [] ∧ r.2.1 < S.length ∧ ∃ g, S.take r.2.1 = fmtN g ∧ valE g = 0
theorem go_good (S : List UInt8) : ∀ (m : Nat) (f : List It) (n p : Nat) (s : List UInt8), s.length ≤ m → S = fmtN f ++ s → p = (fmtN f).length → errL [] f = 0 → f.length ≤ 512 → n = lenI f → n ≤ 1024 → Good S (go f n p s) := by
  intro m
  induction m with
  | zero =>
    intro f n p s h0 hS hp he hl hn h1
    obtain rfl : s = [] := List.length_eq_zero_iff.1 (by omega)
    rw [go_nil]
    exact ⟨fun _ => ⟨by rw [hS]; simp, valE_of (l := f) hl (by omega) he, rfl⟩, fun h => absurd rfl h⟩
  | succ m ih =>
    intro f n p s h0 hS hp he hl hn h1
    by_cases hs : s = []
    · subst hs
      rw [go_nil]
      exact ⟨fun _ => ⟨by rw [hS]; simp, valE_of (l := f) hl (by omega) he, rfl⟩, fun h => absurd rfl h⟩
    · have hpos : 0 < s.length := List.length_pos_iff.2 hs
      have hno : ∀ e : Int, e ≠ 0 → Good S ([], p, e) := fun e h => ⟨fun h' => absurd h' h, fun _ => ⟨rfl, by show p < S.length; rw [hS, List.length_append]; omega, f, by show S.take p = _; rw [hS, hp, List.take_left], valE_of (l := f) hl (by omega) he⟩⟩
      cases hr : rdE s with
      | none => rw [go_none f n p s hs hr]; exact hno 2 (by decide)
      | some y =>
        obtain ⟨x, k⟩ := y
        obtain ⟨t1, t2, t3, t4⟩ := rd_take hr
        have hk := rd_pos hr
        by_cases hb : x.k ≠ 1 ∧ errAt f x ≠ 0
        · rw [go_bad f n p s hs hr hb.1 hb.2]; exact hno _ hb.2
        · have hb' : x.k = 1 ∨ errAt f x = 0 := by
            by_cases h : x.k = 1
            · exact .inl h
            · by_cases h2 : errAt f x = 0
              · exact .inr h2
              · exact absurd ⟨h, h2⟩ hb
          by_cases hf : 512 < (normS f x).length ∨ 1024 < n + 1
          · rw [go_full f n p s hs hr hb' hf]; exact hno 3 (by decide)
          · rw [go_more f n p s hs hr hb' (by omega) (by omega)]
            refine ih _ _ _ _ (by rw [List.length_drop]; omega) ?_ ?_ ?_ (by omega) ?_ (by omega)
            · rw [fmt_step, List.append_assoc, ← t1, List.take_append_drop]; exact hS
            · rw [fmt_step, List.length_append, ← t1, List.length_take, Nat.min_eq_left hk.2, hp]
            · exact err_step f x he (fun h => (t4 h).1) (fun h => ⟨t3 h, hb'.resolve_left h⟩)
            · rw [len_step, t2, hn]
theorem parse_good (S : List UInt8) : Good S (parseN S) := go_good S S.length [] 0 0 S (Nat.le_refl _) rfl rfl rfl (by simp) rfl (by omega)
theorem parse_prefix (S : List UInt8) (h : (parseN S).2.2 ≠ 0) : (parseN S).2.1 < S.length ∧ (parseN (S.take (parseN S).2.1)).2.2 = 0 := by
  obtain ⟨_, h2, g, h3, h4⟩ := (parse_good S).no h
  exact ⟨h2, by rw [h3, parse_fmt g h4]⟩

/-! ### one line -/
theorem wrU_line : ∀ c : UInt8, ∀ b ∈ wrU c, b ≠ 10 := fun c b hb => by
  have : (wrU c).all (fun b => b != 10) = true := all_u8 (P := fun c => (wrU c).all (fun b => b != 10) = true) (by decide +kernel) c
  have := List.all_eq_true.1 this b hb
  simpa using this
theorem el_line (x : It) (hp : properB x = true) : ∀ b ∈ elL x, b ≠ 10 := by
  intro b hb
  rcases proper_kinds hp with h | h | h
  · have e : elL x = wrL x.t.data.toList := if_pos h
    rw [e] at hb
    unfold wrL at hb
    obtain ⟨c, _, hc⟩ := List.mem_flatMap.1 hb
    exact wrU_line c b hc
  · rw [el_tag x h] at hb
    simp only [List.mem_cons, List.mem_append, List.mem_nil_iff, or_false] at hb
    rcases hb with rfl | hb | rfl
    · decide
    · exact (ins_ne x h hp b hb).2
    · decide
  · rw [el_slot h] at hb
    rw [slot_proper h] at hp
    simp at hp
    simp only [List.mem_cons, List.mem_append, List.mem_nil_iff, or_false] at hb
    rcases hb with rfl | hb | rfl
    · decide
    · exact (nm_ne hp.1 hb).2.2.1
    · decide
theorem errL_proper (l : List It) (h : errL [] l = 0) : ∀ x ∈ l, properB x = true := fun x hx => by
  obtain ⟨k, hk, e⟩ := List.mem_iff_getElem.1 hx
  have := (errL_at l h k hk).2
  rw [e] at this
  exact ((errAt_zero _ _).1 this).1
theorem fmt_line (f : List It) (h : valE f = 0) : ∀ b ∈ fmtN f, b ≠ 10 := fun b hb => by
  unfold fmtN at hb
  obtain ⟨x, hx, hc⟩ := List.mem_flatMap.1 hb
  exact el_line x (errL_proper f (valE_zero h).2.2 x hx) b hc
end Go.Proofs.YtaogjccmeajpoaaGreatDoor
namespace Go.Proofs.YtaogjccmeajpoaaGreatDoor
set_option linter.unusedVariables false

def grpL (l : List It) (a : Int) : List It := l.filter fun y => isT y.k && decide (y.id = a)
theorem grp_snoc (l : List It) (x : It) (a : Int) : grpL (l ++ [x]) a = grpL l a ++ (if isT x.k = true ∧ x.id = a then [x] else []) := by
  unfold grpL
  rw [List.filter_append, List.filter_cons]
  by_cases h : isT x.k = true ∧ x.id = a
  · rw [if_pos h, if_pos (by simp [h.1, h.2])]; rfl
  · rw [if_neg h, if_neg (by simpa using h)]; rfl
theorem grp_mem {l : List It} {a : Int} {y : It} : y ∈ grpL l a ↔ y ∈ l ∧ isT y.k = true ∧ y.id = a := by unfold grpL; rw [List.mem_filter]; simp
theorem grp_text (l : List It) (x : It) (a : Int) (h : x.k = 1) : grpL (normS l x) a = grpL l a := by
  unfold grpL
  have := filter_norm (fun y => isT y.k && decide (y.id = a)) (fun y hy => by rw [hy]; rfl)
  by_cases hz : x.t.size = 0
  · rw [norm_skip l x h hz]
  · rcases Nat.lt_or_ge 0 l.length with hlo | hlo
    · obtain ⟨L, z, ho, hl⟩ := out_last l hlo
      by_cases hzk : z.k = 1
      · rw [norm_last l x h hz L z ho hzk, ho, List.filter_append, List.filter_append]
        congr 1
        rw [List.filter_cons, List.filter_cons, if_neg (by simp [isT]), if_neg (by rw [hzk]; simp [isT])]
      · rw [norm_fresh l x h hz (by rw [hl]; simpa using hzk), List.filter_append, List.filter_cons, if_neg (by simp [isT])]; simp
    · have ho : l = [] := List.length_eq_zero_iff.1 (by omega)
      subst ho
      rw [norm_fresh [] x h hz rfl, List.nil_append, List.filter_cons, if_neg (by simp [isT])]
theorem grp_step (l : List It) (x : It) (a : Int) : grpL (normS l x) a = grpL l a ++ (if isT x.k = true ∧ x.id = a then [x] else []) := by
  by_cases h : x.k = 1
  · rw [grp_text l x a h, if_neg (by rw [h]; simp [isT]), List.append_nil]
  · rw [norm_other l x h, grp_snoc]
theorem isT_ne {x : It} (h : isT x.k = true) : x.k ≠ 1 := fun e => by rw [e] at h; cases h
theorem bad_sub {l m : List It} {x : It} (hs : ∀ y ∈ m, y ∈ l) (h : tagBad l x = false) : tagBad m x = false := by
  rw [tagBad_iff] at h ⊢
  exact fun y hy => h y (hs y hy)
theorem grp_valid (f : List It) (a : Int) : errL [] f = 0 → errL [] (grpL f a) = 0 := by
  refine list_rev (P := fun f => errL [] f = 0 → errL [] (grpL f a) = 0) (fun _ => rfl) (fun l x ih h => ?_) f
  have h0 := errL_left _ _ h
  rw [errL_snoc _ _ h0, errAt_zero] at h
  rw [grp_snoc]
  by_cases hc : isT x.k = true ∧ x.id = a
  · rw [if_pos hc, errL_snoc _ _ (ih h0), errAt_zero]
    exact ⟨h.1, fun e => absurd e (isT_ne hc.1), fun ht => bad_sub (fun y hy => (grp_mem.1 hy).1) (h.2.2 ht)⟩
  · rw [if_neg hc, List.append_nil]; exact ih h0
theorem grp_len (f : List It) (a : Int) (h : errL [] f = 0) : (grpL f a).length ≤ 2 := by
  rcases Nat.lt_or_ge 2 (grpL f a).length with hlt | hge
  · have hv := grp_valid f a h
    have hm : ∀ y ∈ grpL f a, isT y.k = true ∧ y.id = a := fun y hy => (grp_mem.1 hy).2
    generalize grpL f a = g at *
    have h1 := (errL_at g hv 1 (by omega)).2
    have h2 := (errL_at g hv 2 (by omega)).2
    have m0 := hm g[0] (List.getElem_mem _)
    have m1 := hm g[1] (List.getElem_mem _)
    have m2 := hm g[2] (List.getElem_mem _)
    have t1 := (tagBad_iff _ _).1 (((errAt_zero _ _).1 h1).2.2 m1.1) g[0] (List.mem_take_iff_getElem.2 ⟨0, by omega, rfl⟩) m0.1 (by rw [m0.2, m1.2])
    have t2 := (tagBad_iff _ _).1 (((errAt_zero _ _).1 h2).2.2 m2.1) g[1] (List.mem_take_iff_getElem.2 ⟨1, by omega, rfl⟩) m1.1 (by rw [m1.2, m2.2])
    have := t1.1
    have := t2.2.1
    omega
  · exact hge
theorem lenI_tags (l : List It) (h : ∀ y ∈ l, y.k ≠ 1) : lenI l = l.length := by
  induction l with
  | nil => rfl
  | cons x t ih =>
    have e : lenI (x :: t) = wid x + lenI t := by unfold lenI; simp
    have hw : wid x = 1 := if_neg (h x (.head _))
    rw [e, hw, ih (fun y hy => h y (.tail _ hy)), List.length_cons]; omega
theorem grp_bad (f : List It) (x : It) : tagBad (grpL f x.id) x = tagBad f x := by
  cases hb : tagBad f x
  · exact bad_sub (fun y hy => (grp_mem.1 hy).1) hb
  · cases hg : tagBad (grpL f x.id) x
    · rw [tagBad_iff] at hg
      have : tagBad f x = false := (tagBad_iff f x).2 fun y hy h1 h2 => hg y (grp_mem.2 ⟨hy, h1, h2⟩) h1 h2
      rw [this] at hb; cases hb
    · rfl
/-- Among the tags of its number alone a tag fits just as among all. -/
theorem grp_fits (f : List It) (x : It) (h : errL [] f = 0) (hp : properB x = true) (ht : isT x.k = true) : valE (grpL f x.id ++ [x]) = if tagBad f x = true then 7 else 0 := by
  have hl := grp_len f x.id h
  have hv := grp_valid f x.id h
  have hn : lenI (grpL f x.id ++ [x]) = (grpL f x.id ++ [x]).length := lenI_tags _ fun y hy => by
    rcases List.mem_append.1 hy with h1 | h1
    · exact isT_ne (grp_mem.1 h1).2.1
    · rw [List.mem_singleton] at h1; rw [h1]; exact isT_ne ht
  have hsl : (grpL f x.id ++ [x]).length ≤ 3 := by simp; omega
  unfold valE
  rw [if_neg (by rw [hn]; omega), errL_snoc _ _ hv]
  unfold errAt
  rw [grp_bad, if_neg (by rintro (h1 | h1); rw [hp] at h1; cases h1; exact isT_ne ht h1.1)]
  simp [ht]
theorem err_tag (f : List It) (x : It) (hp : properB x = true) (ht : isT x.k = true) : errAt f x = if tagBad f x = true then 7 else 0 := by
  unfold errAt
  rw [if_neg (by rintro (h1 | h1); rw [hp] at h1; cases h1; exact isT_ne ht h1.1)]
  simp [ht]
theorem err_slot (f : List It) (x : It) (hp : properB x = true) (hk : x.k ≠ 1) (ht : isT x.k = false) : errAt f x = 0 := by
  unfold errAt
  rw [if_neg (by rintro (h1 | h1); rw [hp] at h1; cases h1; exact hk h1.1), if_neg (by rw [ht]; simp)]
/-- What adding an element says. -/
def addE (f : List It) (n : Nat) (x : It) : Int := if x.k ≠ 1 ∧ errAt f x ≠ 0 then errAt f x else if 512 < (normS f x).length ∨ 1024 < n + 1 then 3 else 0
end Go.Proofs.YtaogjccmeajpoaaGreatDoor
