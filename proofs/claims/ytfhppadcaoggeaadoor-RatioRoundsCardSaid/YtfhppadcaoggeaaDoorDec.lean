/- Contracts of decimal and of the reference's decimal. -/
import Derived.Test.YtfhppadcaoggeaaDoorKit
import Derived.Test.YtfhppadcaoggeaaDoorDig
import Derived.Test.YtfhppadcaoggeaaDoorShelf
import Derived.Lib.AppendIntMem
import Derived.Lib.ItoaMem
import Derived.Lib.ItoaLen
import Derived.Lib.SlBytesRow
import Derived.ShutString
import Derived.Laws.IdiomStrings
namespace Go.Proofs.YtfhppadcaoggeaaDoor
open Go.ChangeShapes Go.WideShapes Go.ChangeAt Go.RowKit Go.Lib
set_option linter.unusedVariables false

/-- The table of powers that the library's Itoa reads, as its text lays it. -/
def Tab (w : World) : Prop := Lib.TabIs Tryd.prog w "internal/strconv.uint64pow10" .u64 Lib.pow10Tab
theorem Tab.call {w w1 : World} (h : Tab w) (hb : Below w.heap.size w w1) : Tab w1 := tabBelow_of_tabIs h w1 hb
theorem below_grow (w : World) (k : Nat) (os : Array Obj) : Below w.heap.size w (Go.Sort.grow (w.drewN k) os) :=
  ⟨rfl, rfl, rfl, by simp [Go.Sort.grow], fun i hi => by simp [Go.Sort.grow, Array.getElem?_append, hi]⟩
theorem itoa_any (u : Nat) (hu : u ≤ 9223372036854775807) (w : World) (ht : Tab w) :
    Calls Tryd.prog 20 #[.int .i64 (u : Int)] w fun e w' => e = .returned (.string (bs (decDigits u))) ∧ Below w.heap.size w w' := by
  refine (Tryd.strconv_Itoa (u : Int) (by omega) (by omega) w ht).mono fun e w' ⟨he, k, os, hw⟩ => ⟨?_, by rw [hw]; exact below_grow w k os⟩
  rw [he, Lib.itoa_nonneg]; rfl
theorem repeat_zeros (m : Nat) : Lib.repeatL [48] m = zeros m := by
  induction m with
  | zero => rfl
  | succ m ih => show [48] ++ Lib.repeatL [48] m = _; rw [ih]; rfl
theorem repeat_any (m : Int) (c : Nat) (h : m = (c : Int)) (hc : c ≤ 100) (w : World) :
    Calls Tryd.prog 21 #[.string ⟨#[48]⟩, .int .i64 m] w fun e w' => e = .returned (.string (bs (zeros c))) ∧ Below w.heap.size w w' := by
  subst h
  refine (Tryd.strings_Repeat ⟨#[48]⟩ c w (by omega) (by show 1 * c ≤ _; omega)).mono fun e w' ⟨he, hw⟩ => ⟨?_, hw⟩
  rw [he]; show Ending.returned (.string ⟨(Lib.repeatL [48] c).toArray⟩) = _; rw [repeat_zeros]; rfl

theorem decimal_any (q k : Nat) (hq : q ≤ 9223372036854775807) (hk : k ≤ 6) (w : World) (ht : Tab w) :
    Calls Tryd.prog 12 #[.int .i64 (q : Int), .int .i64 (k : Int)] w fun e w' => e = .returned (.string (bs (outS q k))) ∧ Below w.heap.size w w' := by
  have hi := itoa_any q hq w ht
  have hl : (decDigits q).length ≤ 21 := by
    have := Lib.itoa_length_le (q : Int) (by omega) (by omega)
    rw [Lib.itoa_nonneg] at this; exact this
  have hp := dec_pos q
  have hpad := pad_cut k q
  have hs : (bs (decDigits q)).size = (decDigits q).length := bs_size _
  by_cases hm : (decDigits q).length < k + 1
  · have hk0 : ((k : Int) == 0) = false := by simp; omega
    have hr := fun w => repeat_any ((k : Int) + 1 - ((bs (decDigits q)).size : Int)) (k + 1 - (decDigits q).length) (by rw [hs]; omega) (by omega) w
    have hc := cut_out q k (by omega) _ hpad
    have z1 : (bs (zeros (k + 1 - (decDigits q).length)) ++ bs (decDigits q)).size = k + 1 := by rw [bs_append, bs_size, List.length_append]; unfold zeros; simp; omega
    have z2 : (bs (zeros (k + 1 - (decDigits q).length))).size ≤ 10 := by rw [bs_size]; unfold zeros; simp; omega
    have hcat : (bs (zeros (k + 1 - (decDigits q).length)) ++ bs (decDigits q)) = bs (zeros (k + 1 - (decDigits q).length) ++ decDigits q) := bs_append _ _
    rw [hcat] at z1
    obtain ⟨Z, hZ⟩ : ∃ Z, Z = bs (zeros (k + 1 - (decDigits q).length)) := ⟨_, rfl⟩
    obtain ⟨T, hT⟩ : ∃ T, T = bs (decDigits q) := ⟨_, rfl⟩
    rw [← hZ, ← hT] at hcat
    rw [← hZ] at z2 hr
    rw [← hT] at hi hr hs
    have hsz : T.size < k + 1 := by omega
    have hsz1 : 1 ≤ T.size := by omega
    rw [← hcat] at z1
    have hE : ∀ i j, (Z ++ T).extract i j = bs (((zeros (k + 1 - (decDigits q).length) ++ decDigits q).take j).drop i) := fun i j => by rw [hcat, bs_extract]
    have hn1 : ¬ (9223372036854775807 < Z.size + T.size) := by omega
    have hzt : Z.size + T.size = k + 1 := by rw [← ByteArray.size_append]; exact z1
    have hL : (zeros (k + 1 - (decDigits q).length) ++ decDigits q).length = k + 1 := by rw [List.length_append]; unfold zeros; simp; omega
    have HL := Lib.hid hL; clear hL
    have HCUT := Lib.hid hc; clear hc
    have HI := Lib.hid hi; have HR := Lib.hid hr; have HE := Lib.hid hE; have HZ1 := Lib.hid z1; have HZT := Lib.hid hzt
    clear hi hr hE hcat hZ hT hs hpad z1 hzt hl hp hm
    go_enter Tryd.func12, Tryd.ntmps12
    go_wp2_with fail
    refine (HI.out).mono ?_; rintro e w1 ⟨rfl, hb⟩
    go_wp2_with fail
    refine (HR.out _).mono ?_; rintro e w2 ⟨rfl, hb2⟩
    go_wp2_with fail
    have hP : (Z.size : Int) + (T.size : Int) - (k : Int) = 1 := by have := HZT.out; omega
    have hlen : (1 : Int) ≤ (Z.size : Int) + (T.size : Int) := by omega
    have hlen2 : (Z ++ T).size ≤ 10 := by have := HZ1.out; omega
    have hlen3 : 1 ≤ (Z ++ T).size := by have := HZ1.out; omega
    have x1 : ((Z ++ T).extract 0 1).size ≤ 10 := by rw [ByteArray.size_extract]; omega
    have x2 : ((Z ++ T).extract 1 (Z ++ T).size).size ≤ 10 := by rw [ByteArray.size_extract]; omega
    go_quiet (fail)
    go_wp2_with fail
    go_ret
    refine ⟨?_, below_drewN (BelowOn hb hb2) _⟩
    show Ending.returned (.string ((Z ++ T).extract 0 1 ++ bs [46] ++ (Z ++ T).extract 1 (Z.size + T.size))) = _
    have hcut := HCUT.out
    rw [HL.out, show k + 1 - k = 1 by omega] at hcut
    rw [HE.out, HE.out, HZT.out, bs_append, bs_append, hcut]
  · by_cases h0 : k = 0
    · subst h0
      have e : outS q 0 = decDigits q := by unfold outS; simp
      rw [e]
      generalize bs (decDigits q) = T at *
      have HI := Lib.hid hi
      have hsz : 1 ≤ T.size := by omega
      have hsz2 : T.size ≤ 21 := by omega
      clear hi hs hpad hm hl hp
      go_enter Tryd.func12, Tryd.ntmps12
      go_wp2_with fail
      refine (HI.out).mono ?_; rintro e w1 ⟨rfl, hb⟩
      go_wp2_with fail
      go_ret
      exact ⟨rfl, hb⟩
    · have hk0 : ((k : Int) == 0) = false := by simp; omega
      have hz0 : zeros (k + 1 - (decDigits q).length) ++ decDigits q = decDigits q := by rw [show k + 1 - (decDigits q).length = 0 by omega]; rfl
      rw [hz0] at hpad
      have hc := cut_out q k h0 _ hpad
      obtain ⟨T, hT⟩ : ∃ T, T = bs (decDigits q) := ⟨_, rfl⟩
      rw [← hT] at hi hs
      have hE : ∀ i j, T.extract i j = bs (((decDigits q).take j).drop i) := fun i j => by rw [hT, bs_extract]
      have hsz1 : k + 1 ≤ T.size := by omega
      have hsz2 : T.size ≤ 21 := by omega
      have HI := Lib.hid hi; have HE := Lib.hid hE; have HS := Lib.hid hs; have HCUT := Lib.hid hc
      obtain ⟨P, hPk⟩ : ∃ P : Nat, T.size = P + k := ⟨T.size - k, by omega⟩
      have hP : (T.size : Int) - (k : Int) = (P : Int) := by omega
      have hP0 : (0 : Int) ≤ (P : Int) := by omega
      have hP1 : (P : Int) ≤ (T.size : Int) := by omega
      have hP2 : P ≤ T.size := by omega
      have HPK := Lib.hid hPk
      have x1 : (T.extract 0 P).size ≤ 30 := by rw [ByteArray.size_extract]; omega
      have x2 : (T.extract P T.size).size ≤ 30 := by rw [ByteArray.size_extract]; omega
      clear hi hE hT hs hpad hz0 hc hl hp hPk h0 hm
      go_enter Tryd.func12, Tryd.ntmps12
      go_wp2_with fail
      refine (HI.out).mono ?_; rintro e w1 ⟨rfl, hb⟩
      go_wp2_with fail
      go_quiet (fail)
      go_wp2_with fail
      go_ret
      refine ⟨?_, below_drewN hb _⟩
      show Ending.returned (.string (T.extract 0 P ++ bs [46] ++ T.extract P T.size)) = _
      have hcut := HCUT.out
      rw [← HS.out, show T.size - k = P by have := HPK.out; omega] at hcut
      rw [HE.out, HE.out, bs_append, bs_append, hcut]

/-- The string of one byte, out of a slice literal. -/
theorem conv_dig (w : World) (n : Int) (h0 : 0 ≤ n) (h1 : n ≤ 255) :
    (convert 40 9 (.slice (some ⟨w.heap.size, 0, none⟩) 1 1)).run Tryd.prog (w.alloc (.cells #[.int .u8 n] 5)) = .ok (.string (bs [UInt8.ofNat n.toNat])) (w.alloc (.cells #[.int .u8 n] 5)) := by
  have h := Lib.run_convert_whole (P := Tryd.prog) (w.alloc (.cells #[.int .u8 n] 5)) 40 5 9 Tryd.underlying40 Tryd.underlying5 Tryd.underlying9 w.heap.size 0 (bs [UInt8.ofNat n.toNat]) (fun i hi => by
    obtain rfl : i = 0 := by rw [bs_size] at hi; simp at hi; exact hi
    rw [Nat.add_zero, World.cell?_alloc_mark]
    show some (Value.int .u8 n) = some (Value.int .u8 ((UInt8.ofNat n.toNat).toNat : Int))
    rw [UInt8.toNat_ofNat']
    congr 2; omega) 1
  rwa [bs_size] at h
theorem rdecimal_any (N : Nat) (hN : N ≤ 9223372036854775807) (w : World) :
    Calls Tryd.prog 14 #[.int .i64 (N : Int)] w fun e w' => e = .returned (.string (bs (decDigits N))) ∧ Below w.heap.size w w' := by
  have hl : (decDigits N).length ≤ 21 := by
    have := Lib.itoa_length_le (N : Int) (by omega) (by omega)
    rw [Lib.itoa_nonneg] at this; exact this
  go_enter Tryd.func14, Tryd.ntmps14
  go_wp2_with fail
  go_loopw [0, 3] (fun n s wr => ∃ (m : Nat) (t : List UInt8), m ≤ 9223372036854775807 ∧ n = .int .i64 (m : Int) ∧ s = .string (bs t) ∧ decDigits N = decDigits m ++ t ∧ Below w.heap.size w wr) (fun n _ _ => (RowKit.intOf n).toNat)
  case atStart => exact ⟨N, [], hN, rfl, rfl, by simp, Below.refl _ _⟩
  case round =>
    obtain ⟨m, t, hm, rfl, rfl, hd, hB⟩ := hrel
    have ht : (bs t).size ≤ 21 := by rw [bs_size]; have := congrArg List.length hd; simp at this; omega
    have HD := Lib.hid hd; clear hd
    have hcv := fun w => conv_dig w (48 + (m : Int) % 10) (by omega) (by omega)
    rw [show (48 + (m : Int) % 10).toNat = 48 + m % 10 from by omega] at hcv
    obtain ⟨S, hS⟩ : ∃ S, S = bs [UInt8.ofNat (48 + m % 10)] := ⟨_, rfl⟩
    obtain ⟨T, hT⟩ : ∃ T, T = bs t := ⟨_, rfl⟩
    have hcat : S ++ T = bs (UInt8.ofNat (48 + m % 10) :: t) := by rw [hS, hT, bs_append]; rfl
    rw [← hS] at hcv
    rw [← hT] at ht ⊢
    have hs1 : S.size ≤ 1 := by rw [hS, bs_size]; exact Nat.le_refl _
    have hno : ¬ (9223372036854775807 < S.size + T.size) := by omega
    have HCAT := Lib.hid hcat
    clear hS hT hcat
    have l0 : 0 ≤ (m : Int) % 10 := by omega
    have l1 : (m : Int) % 10 ≤ 9 := by omega
    by_cases h : m < 10
    · have e2 : (m : Int) / 10 = 0 := by omega
      go_wp2_with fail
      go_ret
      refine ⟨?_, blw hB _⟩
      show Ending.returned (.string (S ++ T)) = _
      rw [HCAT.out, HD.out, dec_one h, Nat.mod_eq_of_lt h]; rfl
    · have e2 : ((m : Int) / 10 == 0) = false := by simp; omega
      go_wp2_with fail
      go_roundw
      case rel =>
        refine ⟨m / 10, UInt8.ofNat (48 + m % 10) :: t, by omega, by go_num, by rw [← HCAT.out], ?_, blw hB _⟩
        rw [HD.out, dec_big h, List.append_assoc]; rfl
      case measure => simp [RowKit.intOf]; omega
end Go.Proofs.YtfhppadcaoggeaaDoor
