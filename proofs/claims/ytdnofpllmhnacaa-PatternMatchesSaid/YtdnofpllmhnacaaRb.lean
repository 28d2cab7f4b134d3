/- readByte. -/
import Derived.Test.YtdnofpllmhnacaaSv
import Derived.Lib.Bytealg
import Derived.Deep.Draws
namespace Go.Proofs.Ytdnofpllmhnacaa
open Go.ChangeShapes Go.WideShapes Go.ChangeAt Go.RowKit Go.Sort
set_option linter.unusedVariables false
set_option linter.unusedSimpArgs false
set_option maxRecDepth 100000

set_option maxHeartbeats 1000000 in
theorem index_any (s : ByteArray) (c : Int) (w : World) :
    Calls Try.prog 63 #[.string s, .int .u8 c] w fun e w' => e = .returned (.int .i64 (Lib.indexByte s.data.toList c.toNat.toUInt8)) ∧ w = w' := by
  have h71 : ∀ W : World, Calls Try.prog 71 #[.string s, .int .u8 c] W fun e w' => e = .returned (.int .i64 (Lib.indexByte s.data.toList c.toNat.toUInt8)) ∧ W = w' := fun W => by
    go_enter Try.func71, Try.ntmps71
    go_wp2
    rw [run_callFunc_extern Try.func72 (by kernel_rfl) (by kernel_rfl) (by kernel_rfl) (e := Extern.BytealgIndexByte.indexByte) (by kernel_rfl), Lib.run_indexByteString]
    simp only [Result.andThen]
    rw [Oper.upon_value]
    go_wp2
    go_ret
    exact ⟨rfl, rfl⟩
  have H := Lib.hid h71; clear h71
  go_enter Try.func63, Try.ntmps63
  go_wp2_with fail
  refine (H.out _).mono ?_; rintro e w' ⟨rfl, rfl⟩
  go_wp2_with fail
  go_ret
  exact ⟨rfl, rfl⟩

def isIn (σ : ByteArray) (sg : List Nat) : Prop := ∀ c : Nat, c < 256 → decide (Lib.indexByte σ.data.toList (c : Int).toNat.toUInt8 < 0) = !(sg.contains c)
theorem in_out : isIn ⟨#[42, 43, 63, 40, 41, 124, 93, 123, 125]⟩ sgO := by
  have h : ∀ c : Fin 256, decide (Lib.indexByte [42, 43, 63, 40, 41, 124, 93, 123, 125] c.val.toUInt8 < 0) = !(sgO.contains c.val) := by decide +kernel
  intro c hc; exact h ⟨c, hc⟩
theorem in_in : isIn ⟨#[93, 91, 94, 45]⟩ sgI := by
  have h : ∀ c : Fin 256, decide (Lib.indexByte [93, 91, 94, 45] c.val.toUInt8 < 0) = !(sgI.contains c.val) := by decide +kernel
  intro c hc; exact h ⟨c, hc⟩
theorem skN_rb (s : ByteArray) (n : Nat) : skN s n 92 = rbA s n := rfl

set_option maxHeartbeats 1600000 in
theorem rb_A (R : Nat) (s σ : ByteArray) (sg : List Nat) (hσ : isIn σ sg) (n : Nat) (w : World) (h : RD R s n w)
    (he : decide (pk s n = 92) = true)
    (h5 : (cls (pk s (rbA s n)) == 5) = true)
    : Calls Try.prog 49 #[.pointer (some ⟨R, 0, none⟩), .string σ] w fun e w' => e = .returned (.tuple #[.int .u8 (pk s (rbA s n) : Int), .bool true]) ∧ w.grownBy w' (some R) ∧ RD R s (rbA s n + 1) w' := by
  have hsk := fun W h => rskip_any R s n 92 W h (by decide) (by decide)
  have hpk := fun W h => peek_any R s (rbA s n) 0 W h (by omega)
  have hb := pk_le s (rbA s n)
  have hcl := fun W => of_any (pk s (rbA s n) : Int) W (by omega) (by omega)
  rw [skN_rb] at hsk
  rw [Nat.add_zero] at hpk
  rw [he] at hsk
  have hlt2 : rbA s n < s.size := pk_in (by
    intro h0; rw [h0] at h5 ; cases h5)
  have hle := h.sm
  clear he 
  generalize rbA s n = m at *
  generalize pk s m = b at *
  generalize cls (b : Int) = cc at *
  have HSK := Lib.hid hsk; have HPK := Lib.hid hpk; have HCL := Lib.hid hcl; clear hsk hpk hcl
  go_enter Try.func49, Try.ntmps49
  go_wp2_with fail
  refine (HSK.out _ h).mono ?_; rintro e w1 ⟨rfl, g1, r1⟩
  go_wp2_with fail
  refine (HPK.out _ r1).mono ?_; rintro e w2 ⟨rfl, b2⟩
  have g2 := grow_then g1 (grow_below b2 (some R)); have r2 := r1.call b2
  have c1 := r2.c1
  have fr := Lib.frozen_of_heap r2.var 1
  have hz := setCell_at _ R 1 _ 54 (.int .i64 ((m : Int) + 1)) r2.var
  have g3 := grow_then g2 (grow_cell w2 R 1 (.int .i64 ((m : Int) + 1)))
  have HZ := Lib.hid (And.intro hz g3); clear hz g3
  have hw : IntKind.i64.wrap ((m : Int) + 1) = (m : Int) + 1 := IntWalk.i64_in _ ⟨by omega, by omega⟩
  go_wp2_with fail
  refine (HCL.out _).mono ?_; rintro e w' ⟨rfl, rfl⟩
  go_wp2_with fail
  go_ret2
  exact ⟨rfl, HZ.out.2, ⟨HZ.out.1, by omega, hle⟩⟩
set_option maxHeartbeats 1600000 in
theorem rb_B (R : Nat) (s σ : ByteArray) (sg : List Nat) (hσ : isIn σ sg) (n : Nat) (w : World) (h : RD R s n w)
    (he : decide (pk s n = 92) = false)
    (h5 : (cls (pk s (rbA s n)) == 5) = true)
    (hi : sg.contains (pk s (rbA s n)) = false)
    : Calls Try.prog 49 #[.pointer (some ⟨R, 0, none⟩), .string σ] w fun e w' => e = .returned (.tuple #[.int .u8 (pk s (rbA s n) : Int), .bool true]) ∧ w.grownBy w' (some R) ∧ RD R s (rbA s n + 1) w' := by
  have hsk := fun W h => rskip_any R s n 92 W h (by decide) (by decide)
  have hpk := fun W h => peek_any R s (rbA s n) 0 W h (by omega)
  have hb := pk_le s (rbA s n)
  have hcl := fun W => of_any (pk s (rbA s n) : Int) W (by omega) (by omega)
  rw [skN_rb] at hsk
  rw [Nat.add_zero] at hpk
  rw [he] at hsk
  have hix := fun W => index_any σ (pk s (rbA s n) : Int) W
  have hlt := hσ _ hb
  rw [hi] at hlt
  generalize Lib.indexByte σ.data.toList (pk s (rbA s n) : Int).toNat.toUInt8 = ix at hix hlt
  have HIX := Lib.hid hix; clear hix
  rw [show (!false) = true from rfl] at hlt
  have hlt2 : rbA s n < s.size := pk_in (by
    intro h0; rw [h0] at h5 ; cases h5)
  have hle := h.sm
  clear he hi 
  generalize rbA s n = m at *
  generalize pk s m = b at *
  generalize cls (b : Int) = cc at *
  have HSK := Lib.hid hsk; have HPK := Lib.hid hpk; have HCL := Lib.hid hcl; clear hsk hpk hcl
  go_enter Try.func49, Try.ntmps49
  go_wp2_with fail
  refine (HSK.out _ h).mono ?_; rintro e w1 ⟨rfl, g1, r1⟩
  go_wp2_with fail
  refine (HPK.out _ r1).mono ?_; rintro e w2 ⟨rfl, b2⟩
  have g2 := grow_then g1 (grow_below b2 (some R)); have r2 := r1.call b2
  have c1 := r2.c1
  have fr := Lib.frozen_of_heap r2.var 1
  have hz := setCell_at _ R 1 _ 54 (.int .i64 ((m : Int) + 1)) r2.var
  have g3 := grow_then g2 (grow_cell w2 R 1 (.int .i64 ((m : Int) + 1)))
  have HZ := Lib.hid (And.intro hz g3); clear hz g3
  have hw : IntKind.i64.wrap ((m : Int) + 1) = (m : Int) + 1 := IntWalk.i64_in _ ⟨by omega, by omega⟩
  go_wp2_with fail
  refine (HCL.out _).mono ?_; rintro e w' ⟨rfl, rfl⟩
  go_wp2_with fail
  refine (HIX.out _).mono ?_; rintro e w' ⟨rfl, rfl⟩
  go_wp2_with fail
  go_ret2
  exact ⟨rfl, HZ.out.2, ⟨HZ.out.1, by omega, hle⟩⟩
set_option maxHeartbeats 1600000 in
theorem rb_C (R : Nat) (s σ : ByteArray) (sg : List Nat) (hσ : isIn σ sg) (n : Nat) (w : World) (h : RD R s n w)
    (he : decide (pk s n = 92) = false)
    (h5 : (cls (pk s (rbA s n)) == 5) = true)
    (hi : sg.contains (pk s (rbA s n)) = true)
    : Calls Try.prog 49 #[.pointer (some ⟨R, 0, none⟩), .string σ] w fun e w' => e = .returned (.tuple #[.int .u8 0, .bool false]) ∧ w.grownBy w' (some R) ∧ RD R s (rbA s n) w' := by
  have hsk := fun W h => rskip_any R s n 92 W h (by decide) (by decide)
  have hpk := fun W h => peek_any R s (rbA s n) 0 W h (by omega)
  have hb := pk_le s (rbA s n)
  have hcl := fun W => of_any (pk s (rbA s n) : Int) W (by omega) (by omega)
  rw [skN_rb] at hsk
  rw [Nat.add_zero] at hpk
  rw [he] at hsk
  have hix := fun W => index_any σ (pk s (rbA s n) : Int) W
  have hlt := hσ _ hb
  rw [hi] at hlt
  generalize Lib.indexByte σ.data.toList (pk s (rbA s n) : Int).toNat.toUInt8 = ix at hix hlt
  have HIX := Lib.hid hix; clear hix
  rw [show (!true) = false from rfl] at hlt
  have hle := h.sm
  clear he hi 
  generalize rbA s n = m at *
  generalize pk s m = b at *
  generalize cls (b : Int) = cc at *
  have HSK := Lib.hid hsk; have HPK := Lib.hid hpk; have HCL := Lib.hid hcl; clear hsk hpk hcl
  go_enter Try.func49, Try.ntmps49
  go_wp2_with fail
  refine (HSK.out _ h).mono ?_; rintro e w1 ⟨rfl, g1, r1⟩
  go_wp2_with fail
  refine (HPK.out _ r1).mono ?_; rintro e w2 ⟨rfl, b2⟩
  have g2 := grow_then g1 (grow_below b2 (some R)); have r2 := r1.call b2
  go_wp2_with fail
  refine (HCL.out _).mono ?_; rintro e w' ⟨rfl, rfl⟩
  go_wp2_with fail
  refine (HIX.out _).mono ?_; rintro e w' ⟨rfl, rfl⟩
  go_wp2_with fail
  go_ret2
  exact ⟨rfl, g2, r2⟩
set_option maxHeartbeats 1600000 in
theorem rb_D (R : Nat) (s σ : ByteArray) (sg : List Nat) (hσ : isIn σ sg) (n : Nat) (w : World) (h : RD R s n w)
    (he : decide (pk s n = 92) = false)
    (h5 : (cls (pk s (rbA s n)) == 5) = false)
    (h4 : (cls (pk s (rbA s n)) == 4) = true)
    : Calls Try.prog 49 #[.pointer (some ⟨R, 0, none⟩), .string σ] w fun e w' => e = .returned (.tuple #[.int .u8 (pk s (rbA s n) : Int), .bool true]) ∧ w.grownBy w' (some R) ∧ RD R s (rbA s n + 1) w' := by
  have hsk := fun W h => rskip_any R s n 92 W h (by decide) (by decide)
  have hpk := fun W h => peek_any R s (rbA s n) 0 W h (by omega)
  have hb := pk_le s (rbA s n)
  have hcl := fun W => of_any (pk s (rbA s n) : Int) W (by omega) (by omega)
  rw [skN_rb] at hsk
  rw [Nat.add_zero] at hpk
  rw [he] at hsk
  have hlt2 : rbA s n < s.size := pk_in (by
    intro h0; rw [h0] at h5 h4; cases h4)
  have hle := h.sm
  clear he 
  generalize rbA s n = m at *
  generalize pk s m = b at *
  generalize cls (b : Int) = cc at *
  have HSK := Lib.hid hsk; have HPK := Lib.hid hpk; have HCL := Lib.hid hcl; clear hsk hpk hcl
  go_enter Try.func49, Try.ntmps49
  go_wp2_with fail
  refine (HSK.out _ h).mono ?_; rintro e w1 ⟨rfl, g1, r1⟩
  go_wp2_with fail
  refine (HPK.out _ r1).mono ?_; rintro e w2 ⟨rfl, b2⟩
  have g2 := grow_then g1 (grow_below b2 (some R)); have r2 := r1.call b2
  have c1 := r2.c1
  have fr := Lib.frozen_of_heap r2.var 1
  have hz := setCell_at _ R 1 _ 54 (.int .i64 ((m : Int) + 1)) r2.var
  have g3 := grow_then g2 (grow_cell w2 R 1 (.int .i64 ((m : Int) + 1)))
  have HZ := Lib.hid (And.intro hz g3); clear hz g3
  have hw : IntKind.i64.wrap ((m : Int) + 1) = (m : Int) + 1 := IntWalk.i64_in _ ⟨by omega, by omega⟩
  go_wp2_with fail
  refine (HCL.out _).mono ?_; rintro e w' ⟨rfl, rfl⟩
  go_wp2_with fail
  go_ret2
  exact ⟨rfl, HZ.out.2, ⟨HZ.out.1, by omega, hle⟩⟩
set_option maxHeartbeats 1600000 in
theorem rb_E (R : Nat) (s σ : ByteArray) (sg : List Nat) (hσ : isIn σ sg) (n : Nat) (w : World) (h : RD R s n w)
    (he : decide (pk s n = 92) = false)
    (h5 : (cls (pk s (rbA s n)) == 5) = false)
    (h4 : (cls (pk s (rbA s n)) == 4) = false)
    (h3 : (cls (pk s (rbA s n)) == 3) = true)
    : Calls Try.prog 49 #[.pointer (some ⟨R, 0, none⟩), .string σ] w fun e w' => e = .returned (.tuple #[.int .u8 (pk s (rbA s n) : Int), .bool true]) ∧ w.grownBy w' (some R) ∧ RD R s (rbA s n + 1) w' := by
  have hsk := fun W h => rskip_any R s n 92 W h (by decide) (by decide)
  have hpk := fun W h => peek_any R s (rbA s n) 0 W h (by omega)
  have hb := pk_le s (rbA s n)
  have hcl := fun W => of_any (pk s (rbA s n) : Int) W (by omega) (by omega)
  rw [skN_rb] at hsk
  rw [Nat.add_zero] at hpk
  rw [he] at hsk
  have hlt2 : rbA s n < s.size := pk_in (by
    intro h0; rw [h0] at h5 h4 h3; cases h3)
  have hle := h.sm
  clear he 
  generalize rbA s n = m at *
  generalize pk s m = b at *
  generalize cls (b : Int) = cc at *
  have HSK := Lib.hid hsk; have HPK := Lib.hid hpk; have HCL := Lib.hid hcl; clear hsk hpk hcl
  go_enter Try.func49, Try.ntmps49
  go_wp2_with fail
  refine (HSK.out _ h).mono ?_; rintro e w1 ⟨rfl, g1, r1⟩
  go_wp2_with fail
  refine (HPK.out _ r1).mono ?_; rintro e w2 ⟨rfl, b2⟩
  have g2 := grow_then g1 (grow_below b2 (some R)); have r2 := r1.call b2
  have c1 := r2.c1
  have fr := Lib.frozen_of_heap r2.var 1
  have hz := setCell_at _ R 1 _ 54 (.int .i64 ((m : Int) + 1)) r2.var
  have g3 := grow_then g2 (grow_cell w2 R 1 (.int .i64 ((m : Int) + 1)))
  have HZ := Lib.hid (And.intro hz g3); clear hz g3
  have hw : IntKind.i64.wrap ((m : Int) + 1) = (m : Int) + 1 := IntWalk.i64_in _ ⟨by omega, by omega⟩
  go_wp2_with fail
  refine (HCL.out _).mono ?_; rintro e w' ⟨rfl, rfl⟩
  go_wp2_with fail
  go_ret2
  exact ⟨rfl, HZ.out.2, ⟨HZ.out.1, by omega, hle⟩⟩
set_option maxHeartbeats 1600000 in
theorem rb_F (R : Nat) (s σ : ByteArray) (sg : List Nat) (hσ : isIn σ sg) (n : Nat) (w : World) (h : RD R s n w)
    (he : decide (pk s n = 92) = true)
    (h5 : (cls (pk s (rbA s n)) == 5) = false)
    (h4 : (cls (pk s (rbA s n)) == 4) = true)
    : Calls Try.prog 49 #[.pointer (some ⟨R, 0, none⟩), .string σ] w fun e w' => e = .returned (.tuple #[.int .u8 0, .bool false]) ∧ w.grownBy w' (some R) ∧ RD R s (rbA s n) w' := by
  have hsk := fun W h => rskip_any R s n 92 W h (by decide) (by decide)
  have hpk := fun W h => peek_any R s (rbA s n) 0 W h (by omega)
  have hb := pk_le s (rbA s n)
  have hcl := fun W => of_any (pk s (rbA s n) : Int) W (by omega) (by omega)
  rw [skN_rb] at hsk
  rw [Nat.add_zero] at hpk
  rw [he] at hsk
  have hle := h.sm
  clear he 
  generalize rbA s n = m at *
  generalize pk s m = b at *
  generalize cls (b : Int) = cc at *
  have HSK := Lib.hid hsk; have HPK := Lib.hid hpk; have HCL := Lib.hid hcl; clear hsk hpk hcl
  go_enter Try.func49, Try.ntmps49
  go_wp2_with fail
  refine (HSK.out _ h).mono ?_; rintro e w1 ⟨rfl, g1, r1⟩
  go_wp2_with fail
  refine (HPK.out _ r1).mono ?_; rintro e w2 ⟨rfl, b2⟩
  have g2 := grow_then g1 (grow_below b2 (some R)); have r2 := r1.call b2
  go_wp2_with fail
  refine (HCL.out _).mono ?_; rintro e w' ⟨rfl, rfl⟩
  go_wp2_with fail
  go_ret2
  exact ⟨rfl, g2, r2⟩
set_option maxHeartbeats 1600000 in
theorem rb_G (R : Nat) (s σ : ByteArray) (sg : List Nat) (hσ : isIn σ sg) (n : Nat) (w : World) (h : RD R s n w)
    (he : decide (pk s n = 92) = true)
    (h5 : (cls (pk s (rbA s n)) == 5) = false)
    (h4 : (cls (pk s (rbA s n)) == 4) = false)
    (h3 : (cls (pk s (rbA s n)) == 3) = true)
    : Calls Try.prog 49 #[.pointer (some ⟨R, 0, none⟩), .string σ] w fun e w' => e = .returned (.tuple #[.int .u8 0, .bool false]) ∧ w.grownBy w' (some R) ∧ RD R s (rbA s n) w' := by
  have hsk := fun W h => rskip_any R s n 92 W h (by decide) (by decide)
  have hpk := fun W h => peek_any R s (rbA s n) 0 W h (by omega)
  have hb := pk_le s (rbA s n)
  have hcl := fun W => of_any (pk s (rbA s n) : Int) W (by omega) (by omega)
  rw [skN_rb] at hsk
  rw [Nat.add_zero] at hpk
  rw [he] at hsk
  have hle := h.sm
  clear he 
  generalize rbA s n = m at *
  generalize pk s m = b at *
  generalize cls (b : Int) = cc at *
  have HSK := Lib.hid hsk; have HPK := Lib.hid hpk; have HCL := Lib.hid hcl; clear hsk hpk hcl
  go_enter Try.func49, Try.ntmps49
  go_wp2_with fail
  refine (HSK.out _ h).mono ?_; rintro e w1 ⟨rfl, g1, r1⟩
  go_wp2_with fail
  refine (HPK.out _ r1).mono ?_; rintro e w2 ⟨rfl, b2⟩
  have g2 := grow_then g1 (grow_below b2 (some R)); have r2 := r1.call b2
  go_wp2_with fail
  refine (HCL.out _).mono ?_; rintro e w' ⟨rfl, rfl⟩
  go_wp2_with fail
  go_ret2
  exact ⟨rfl, g2, r2⟩
set_option maxHeartbeats 1600000 in
theorem rb_H (R : Nat) (s σ : ByteArray) (sg : List Nat) (hσ : isIn σ sg) (n : Nat) (w : World) (h : RD R s n w)
    (h5 : (cls (pk s (rbA s n)) == 5) = false)
    (h4 : (cls (pk s (rbA s n)) == 4) = false)
    (h3 : (cls (pk s (rbA s n)) == 3) = false)
    : Calls Try.prog 49 #[.pointer (some ⟨R, 0, none⟩), .string σ] w fun e w' => e = .returned (.tuple #[.int .u8 0, .bool false]) ∧ w.grownBy w' (some R) ∧ RD R s (rbA s n) w' := by
  have hsk := fun W h => rskip_any R s n 92 W h (by decide) (by decide)
  have hpk := fun W h => peek_any R s (rbA s n) 0 W h (by omega)
  have hb := pk_le s (rbA s n)
  have hcl := fun W => of_any (pk s (rbA s n) : Int) W (by omega) (by omega)
  rw [skN_rb] at hsk
  rw [Nat.add_zero] at hpk
  generalize decide (pk s n = 92) = E at hsk
  have hle := h.sm
  skip
  generalize rbA s n = m at *
  generalize pk s m = b at *
  generalize cls (b : Int) = cc at *
  have HSK := Lib.hid hsk; have HPK := Lib.hid hpk; have HCL := Lib.hid hcl; clear hsk hpk hcl
  go_enter Try.func49, Try.ntmps49
  go_wp2_with fail
  refine (HSK.out _ h).mono ?_; rintro e w1 ⟨rfl, g1, r1⟩
  go_wp2_with fail
  refine (HPK.out _ r1).mono ?_; rintro e w2 ⟨rfl, b2⟩
  have g2 := grow_then g1 (grow_below b2 (some R)); have r2 := r1.call b2
  go_wp2_with fail
  refine (HCL.out _).mono ?_; rintro e w' ⟨rfl, rfl⟩
  go_wp2_with fail
  go_ret2
  exact ⟨rfl, g2, r2⟩

/-- What readByte answers. -/
def RbEnd (R : Nat) (s : ByteArray) (w : World) (r : Option Nat × Nat) (e : Ending) (w' : World) : Prop :=
  e = .returned (.tuple #[.int .u8 ((r.1.getD 0 : Nat) : Int), .bool r.1.isSome]) ∧ w.grownBy w' (some R) ∧ RD R s r.2 w'
theorem rdbyte_any (R : Nat) (s σ : ByteArray) (sg : List Nat) (hσ : isIn σ sg) (n : Nat) (w : World) (h : RD R s n w) :
    Calls Try.prog 49 #[.pointer (some ⟨R, 0, none⟩), .string σ] w (RbEnd R s w (rbF sg s n)) := by
  have yes : okB sg (decide (pk s n = 92)) (pk s (rbA s n)) = true → rbF sg s n = (some (pk s (rbA s n)), rbA s n + 1) := fun h => by unfold rbF; rw [if_pos h]
  have no : okB sg (decide (pk s n = 92)) (pk s (rbA s n)) = false → rbF sg s n = (none, rbA s n) := fun h => by unfold rbF; rw [if_neg (by rw [h]; decide)]
  unfold okB at yes no
  by_cases h5 : cls (pk s (rbA s n)) = 5
  · have h5' : (cls (pk s (rbA s n)) == 5) = true := by rw [h5]; rfl
    rw [if_pos h5] at yes no
    by_cases he : pk s n = 92
    · have he' := decide_eq_true he
      rw [yes (by rw [he']; rfl)]
      exact rb_A R s σ sg hσ n w h he' h5'
    · have he' := decide_eq_false he
      cases hi : sg.contains (pk s (rbA s n)) with
      | false => rw [yes (by rw [he', hi]; rfl)]; exact rb_B R s σ sg hσ n w h he' h5' hi
      | true => rw [no (by rw [he', hi]; rfl)]; exact rb_C R s σ sg hσ n w h he' h5' hi
  · have h5' : (cls (pk s (rbA s n)) == 5) = false := by simpa using h5
    rw [if_neg h5] at yes no
    by_cases h4 : cls (pk s (rbA s n)) = 4
    · have h4' : (cls (pk s (rbA s n)) == 4) = true := by rw [h4]; rfl
      rw [if_pos (Or.inl h4)] at yes no
      by_cases he : pk s n = 92
      · have he' := decide_eq_true he
        rw [no (by rw [he']; rfl)]; exact rb_F R s σ sg hσ n w h he' h5' h4'
      · have he' := decide_eq_false he
        rw [yes (by rw [he']; rfl)]; exact rb_D R s σ sg hσ n w h he' h5' h4'
    · have h4' : (cls (pk s (rbA s n)) == 4) = false := by simpa using h4
      by_cases h3 : cls (pk s (rbA s n)) = 3
      · have h3' : (cls (pk s (rbA s n)) == 3) = true := by rw [h3]; rfl
        rw [if_pos (Or.inr h3)] at yes no
        by_cases he : pk s n = 92
        · have he' := decide_eq_true he
          rw [no (by rw [he']; rfl)]; exact rb_G R s σ sg hσ n w h he' h5' h4' h3'
        · have he' := decide_eq_false he
          rw [yes (by rw [he']; rfl)]; exact rb_E R s σ sg hσ n w h he' h5' h4' h3'
      · have h3' : (cls (pk s (rbA s n)) == 3) = false := by simpa using h3
        rw [if_neg (by simp [h4, h3])] at yes no
        rw [no rfl]; exact rb_H R s σ sg hσ n w h h5' h4' h3'
end Go.Proofs.Ytdnofpllmhnacaa
