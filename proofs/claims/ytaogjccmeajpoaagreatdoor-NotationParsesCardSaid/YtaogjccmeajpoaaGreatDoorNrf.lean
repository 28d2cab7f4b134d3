/- Contracts of the reference's class, decimal digits and written byte. -/
import Derived.Test.YtaogjccmeajpoaaGreatDoorNtC
namespace Go.Proofs.YtaogjccmeajpoaaGreatDoor
open Go.ChangeShapes Go.WideShapes Go.ChangeAt Go.RowKit
open Go.Lib (decDigits)
set_option linter.unusedVariables false
set_option linter.unusedSimpArgs false
set_option maxRecDepth 100000

theorem rcls_any (n : Int) (w : World) (h0 : 0 ≤ n) (h1 : n ≤ 255) :
    Calls Tryz.prog 58 #[.int .u8 n] w fun e w' => e = .returned (.int .i64 (cls n)) ∧ w = w' := by
  go_enter Tryz.func58, Tryz.ntmps58
  go_wp2
  all_goals go_ret
  all_goals refine ⟨ret_int ?_, rfl⟩
  all_goals (unfold cls; simp_all; try omega)
/-- The string of one byte, out of a slice literal. -/
theorem conv_dig (w : World) (n : Int) (h0 : 0 ≤ n) (h1 : n ≤ 255) :
    (convert 31 9 (.slice (some ⟨w.heap.size, 0, none⟩) 1 1)).run Tryz.prog (w.alloc (.cells #[.int .u8 n] 5)) = .ok (.string (bsL [UInt8.ofNat n.toNat])) (w.alloc (.cells #[.int .u8 n] 5)) := by
  have h := Lib.run_convert_whole (P := Tryz.prog) (w.alloc (.cells #[.int .u8 n] 5)) 31 5 9 Tryz.underlying31 Tryz.underlying5 Tryz.underlying9 w.heap.size 0 (bsL [UInt8.ofNat n.toNat]) (fun i hi => by
    obtain rfl : i = 0 := by rw [bsL_size] at hi; simp at hi; exact hi
    rw [Nat.add_zero, World.cell?_alloc_mark]
    show some (Value.int .u8 n) = some (Value.int .u8 ((UInt8.ofNat n.toNat).toNat : Int))
    rw [UInt8.toNat_ofNat']
    congr 2; omega) 1
  rwa [bsL_size] at h
theorem dec_len (N : Nat) (hN : N ≤ 9223372036854775807) : (decDigits N).length ≤ 21 := by
  have := Lib.itoa_length_le (N : Int) (by omega) (by omega)
  rw [Lib.itoa_nonneg] at this; exact this
theorem rdecimal_any (N : Nat) (hN : N ≤ 9223372036854775807) (w : World) :
    Calls Tryz.prog 59 #[.int .i64 (N : Int)] w fun e w' => e = .returned (.string (bsL (decDigits N))) ∧ Below w.heap.size w w' := by
  have hl := dec_len N hN
  go_enter Tryz.func59, Tryz.ntmps59
  go_wp2_with fail
  go_loopw [0, 3] (fun n s wr => ∃ (m : Nat) (t : List UInt8), m ≤ 9223372036854775807 ∧ n = .int .i64 (m : Int) ∧ s = .string (bsL t) ∧ decDigits N = decDigits m ++ t ∧ Below w.heap.size w wr) (fun n _ _ => (RowKit.intOf n).toNat)
  case atStart => exact ⟨N, [], hN, rfl, rfl, by simp, Below.refl _ _⟩
  case round =>
    obtain ⟨m, t, hm, rfl, rfl, hd, hB⟩ := hrel
    have ht : (bsL t).size ≤ 21 := by rw [bsL_size]; have := congrArg List.length hd; simp at this; omega
    have HD := Lib.hid hd; clear hd
    have hcv := fun w => conv_dig w (48 + (m : Int) % 10) (by omega) (by omega)
    rw [show (48 + (m : Int) % 10).toNat = 48 + m % 10 from by omega] at hcv
    obtain ⟨S, hS⟩ : ∃ S, S = bsL [UInt8.ofNat (48 + m % 10)] := ⟨_, rfl⟩
    obtain ⟨T, hT⟩ : ∃ T, T = bsL t := ⟨_, rfl⟩
    have hcat : S ++ T = bsL (UInt8.ofNat (48 + m % 10) :: t) := by rw [hS, hT, bsL_append]; rfl
    rw [← hS] at hcv
    rw [← hT] at ht ⊢
    have hs1 : S.size ≤ 1 := by rw [hS, bsL_size]; exact Nat.le_refl _
    have hno : ¬ (9223372036854775807 < S.size + T.size) := by omega
    have HCAT := Lib.hid hcat
    clear hS hT hcat
    have l0 : 0 ≤ (m : Int) % 10 := by omega
    have l1 : (m : Int) % 10 ≤ 9 := by omega
    by_cases h : m < 10
    · have e2 : (m : Int) / 10 = 0 := by omega
      go_wp2_with fail
      go_ret
      refine ⟨?_, blw hB _⟩
      show Ending.returned (.string (S ++ T)) = _
      rw [HCAT.out, HD.out, Lib.decDigits_one h, Nat.mod_eq_of_lt h]; rfl
    · have e2 : ((m : Int) / 10 == 0) = false := by simp; omega
      go_wp2_with fail
      go_roundw
      case rel =>
        refine ⟨m / 10, UInt8.ofNat (48 + m % 10) :: t, by omega, by go_num, by rw [← HCAT.out], ?_, blw hB _⟩
        rw [HD.out, dec_big h, List.append_assoc]; rfl
      case measure => simp [RowKit.intOf]; omega
theorem rDecimal_any (N : Nat) (hN : N ≤ 9223372036854775807) (w : World) :
    Calls Tryz.prog 35 #[.int .i64 (N : Int)] w fun e w' => e = .returned (.string (bsL (decDigits N))) ∧ Below w.heap.size w w' := by
  have h := fun w => rdecimal_any N hN w
  have H := Lib.hid h; clear h
  have q : decide ((N : Int) < 0) = false := decide_eq_false (by omega)
  have e : max (N : Int) 0 = (N : Int) := by omega
  go_enter Tryz.func35, Tryz.ntmps35
  go_wp2_with (go_at_call 59; (try rw [e]); refine (H.out _).mono ?_; rintro e w' ⟨rfl, hb⟩)
  all_goals first | omega | skip
  all_goals go_ret
  all_goals exact ⟨rfl, hb⟩
theorem wr_spec (c : UInt8) : wrU c = if c.toNat = 92 ∨ c.toNat = 60 ∨ c.toNat = 123 then [92, c] else if c.toNat = 10 then [92, 110] else if c.toNat = 9 then [92, 116] else if c.toNat = 13 ∨ cls (c.toNat : Int) = 1 then [92, 120, hxU (c.toNat / 16), hxU (c.toNat % 16)] else [c] := by
  have : ∀ m : Fin 256, wrU (UInt8.ofNat m.val) = if (UInt8.ofNat m.val).toNat = 92 ∨ (UInt8.ofNat m.val).toNat = 60 ∨ (UInt8.ofNat m.val).toNat = 123 then [92, UInt8.ofNat m.val] else if (UInt8.ofNat m.val).toNat = 10 then [92, 110] else if (UInt8.ofNat m.val).toNat = 9 then [92, 116] else if (UInt8.ofNat m.val).toNat = 13 ∨ cls ((UInt8.ofNat m.val).toNat : Int) = 1 then [92, 120, hxU ((UInt8.ofNat m.val).toNat / 16), hxU ((UInt8.ofNat m.val).toNat % 16)] else [UInt8.ofNat m.val] := by decide +kernel
  have e : UInt8.ofNat c.toNat = c := by simp
  have := this ⟨c.toNat, c.toNat_lt⟩
  simp only [e] at this
  exact this
theorem conv_two {w : World} (a b : UInt8) (B : Nat) (hB : w.heap[B]? = some (.cells #[.int .u8 (a.toNat : Int), .int .u8 (b.toNat : Int)] 5 (0, 0))) :
    (convert 31 9 (.slice (some ⟨B, 0, none⟩) 2 2)).run Tryz.prog w = .ok (.string ⟨#[a, b]⟩) w :=
  Lib.run_convert_whole (P := Tryz.prog) w 31 5 9 Tryz.underlying31 Tryz.underlying5 Tryz.underlying9 B 0 ⟨#[a, b]⟩ (fun i hi => by
    have hi' : i < 2 := hi
    rw [Nat.zero_add, Lib.cell_of_heap hB]
    match i, hi' with
    | 0, _ => rfl
    | 1, _ => rfl) 2
theorem bs_cat1 (a : UInt8) (l : List UInt8) : (⟨#[a]⟩ : ByteArray) ++ bsL l = bsL (a :: l) := by
  apply ByteArray.ext; unfold bsL; rw [ByteArray.data_append]; simp
theorem bsL_lit (l : List UInt8) : (⟨l.toArray⟩ : ByteArray) = bsL l := rfl
theorem wr_a {c : UInt8} (h : c.toNat = 92 ∨ c.toNat = 60 ∨ c.toNat = 123) : (⟨#[92]⟩ : ByteArray) ++ ⟨#[c]⟩ = bsL (wrU c) := by rw [wr_spec, if_pos h]; exact bs_cat1 92 [c]
theorem wr_n {c : UInt8} (h : c.toNat = 10) : (⟨#[92, 110]⟩ : ByteArray) = bsL (wrU c) := by rw [wr_spec, if_neg (by omega), if_pos h]; rfl
theorem wr_t {c : UInt8} (h : c.toNat = 9) : (⟨#[92, 116]⟩ : ByteArray) = bsL (wrU c) := by rw [wr_spec, if_neg (by omega), if_neg (by omega), if_pos h]; rfl
theorem wr_x {c : UInt8} (h0 : ¬ (c.toNat = 92 ∨ c.toNat = 60 ∨ c.toNat = 123)) (h1 : c.toNat ≠ 10) (h2 : c.toNat ≠ 9) (h : c.toNat = 13 ∨ cls (c.toNat : Int) = 1) : (⟨#[92, 120]⟩ : ByteArray) ++ ⟨#[hxU (c.toNat / 16), hxU (c.toNat % 16)]⟩ = bsL (wrU c) := by
  rw [wr_spec, if_neg h0, if_neg h1, if_neg h2, if_pos h]
  apply ByteArray.ext; unfold bsL; rw [ByteArray.data_append]; simp
theorem wr_c {c : UInt8} (h0 : ¬ (c.toNat = 92 ∨ c.toNat = 60 ∨ c.toNat = 123)) (h1 : c.toNat ≠ 10) (h2 : c.toNat ≠ 9) (h : ¬ (c.toNat = 13 ∨ cls (c.toNat : Int) = 1)) : (⟨#[c]⟩ : ByteArray) = bsL (wrU c) := by
  rw [wr_spec, if_neg h0, if_neg h1, if_neg h2, if_neg h]; rfl
theorem rwritten_any (c : UInt8) (w : World) : Calls Tryz.prog 34 #[.int .u8 (c.toNat : Int)] w fun e w' => e = .returned (.string (bsL (wrU c))) ∧ Below w.heap.size w w' := by
  have hlt := c.toNat_lt
  have b0 : (0 : Int) ≤ (c.toNat : Int) := by omega
  have b1 : (c.toNat : Int) ≤ 255 := by omega
  have hc := fun W => rcls_any (c.toNat : Int) W b0 b1
  by_cases h92 : c = 92
  · subst h92
    have hz : (⟨#[92]⟩ ++ ⟨#[92]⟩ : ByteArray) = bsL (wrU 92) := by decide +kernel
    rw [← hz]
    have hcv : (convert 31 9 (.slice (some ⟨w.heap.size, 0, none⟩) 1 1)).run Tryz.prog (w.alloc (.cells #[.int .u8 92] 5)) = .ok (.string ⟨#[92]⟩) (w.alloc (.cells #[.int .u8 92] 5)) := conv_one 92 _ (heap_alloc_new _ _)
    clear hz hc hlt b0 b1
    change Calls Tryz.prog 34 #[.int .u8 92] w _
    go_enter Tryz.func34, Tryz.ntmps34
    go_wp2_with fail
    go_ret
    exact ⟨rfl, blw (Below.refl _ _) _⟩
  by_cases h60 : c = 60
  · subst h60
    have hz : (⟨#[92]⟩ ++ ⟨#[60]⟩ : ByteArray) = bsL (wrU 60) := by decide +kernel
    rw [← hz]
    have hcv : (convert 31 9 (.slice (some ⟨w.heap.size, 0, none⟩) 1 1)).run Tryz.prog (w.alloc (.cells #[.int .u8 60] 5)) = .ok (.string ⟨#[60]⟩) (w.alloc (.cells #[.int .u8 60] 5)) := conv_one 60 _ (heap_alloc_new _ _)
    clear hz hc hlt b0 b1
    change Calls Tryz.prog 34 #[.int .u8 60] w _
    go_enter Tryz.func34, Tryz.ntmps34
    go_wp2_with fail
    go_ret
    exact ⟨rfl, blw (Below.refl _ _) _⟩
  by_cases h123 : c = 123
  · subst h123
    have hz : (⟨#[92]⟩ ++ ⟨#[123]⟩ : ByteArray) = bsL (wrU 123) := by decide +kernel
    rw [← hz]
    have hcv : (convert 31 9 (.slice (some ⟨w.heap.size, 0, none⟩) 1 1)).run Tryz.prog (w.alloc (.cells #[.int .u8 123] 5)) = .ok (.string ⟨#[123]⟩) (w.alloc (.cells #[.int .u8 123] 5)) := conv_one 123 _ (heap_alloc_new _ _)
    clear hz hc hlt b0 b1
    change Calls Tryz.prog 34 #[.int .u8 123] w _
    go_enter Tryz.func34, Tryz.ntmps34
    go_wp2_with fail
    go_ret
    exact ⟨rfl, blw (Below.refl _ _) _⟩
  by_cases h10 : c = 10
  · subst h10
    have hz : (⟨#[92, 110]⟩ : ByteArray) = bsL (wrU 10) := by decide +kernel
    rw [← hz]
    clear hz hc hlt b0 b1
    change Calls Tryz.prog 34 #[.int .u8 10] w _
    go_enter Tryz.func34, Tryz.ntmps34
    go_wp2_with fail
    go_ret
    exact ⟨rfl, Below.refl _ _⟩
  by_cases h9 : c = 9
  · subst h9
    have hz : (⟨#[92, 116]⟩ : ByteArray) = bsL (wrU 9) := by decide +kernel
    rw [← hz]
    clear hz hc hlt b0 b1
    change Calls Tryz.prog 34 #[.int .u8 9] w _
    go_enter Tryz.func34, Tryz.ntmps34
    go_wp2_with fail
    go_ret
    exact ⟨rfl, Below.refl _ _⟩
  by_cases h13 : c = 13
  · subst h13
    have hz : (⟨#[92, 120]⟩ ++ ⟨#[48, 100]⟩ : ByteArray) = bsL (wrU 13) := by decide +kernel
    rw [← hz]
    have hcv := fun W (h : W.heap[w.heap.size]? = some (.cells #[.int .u8 48, .int .u8 100] 5 (0, 0))) => conv_two (w := W) 48 100 w.heap.size h
    have hcv1 := hcv (w.drew.alloc (.cells #[.int .u8 48, .int .u8 100] 5)) (heap_alloc_new _ _)
    have hcv2 := hcv (w.alloc (.cells #[.int .u8 48, .int .u8 100] 5)) (heap_alloc_new _ _)
    have hcv3 := hcv (w.alloc (.cells #[.int .u8 48, .int .u8 100] 5)).drew (heap_alloc_new _ _)
    have e0 : IntKind.u8.wrap 0 = 0 := by decide
    have x1 : ((⟨#[48, 49, 50, 51, 52, 53, 54, 55, 56, 57, 97, 98, 99, 100, 101, 102]⟩ : ByteArray)[0]'(by decide)) = 48 := by decide
    have x2 : ((⟨#[48, 49, 50, 51, 52, 53, 54, 55, 56, 57, 97, 98, 99, 100, 101, 102]⟩ : ByteArray)[13]'(by decide)) = 100 := by decide
    clear hz hc hlt b0 b1 hcv
    change Calls Tryz.prog 34 #[.int .u8 13] w _
    go_enter Tryz.func34, Tryz.ntmps34
    go_wp2_with fail
    go_region_law (fail)
    all_goals go_wp2_with fail
    all_goals go_ret
    all_goals exact ⟨rfl, blw (Below.refl _ _).drew _⟩
  have n0 : ¬ c.toNat = 92 := fun h => h92 (UInt8.toNat_inj.1 h)
  have n1 : ¬ c.toNat = 60 := fun h => h60 (UInt8.toNat_inj.1 h)
  have n2 : ¬ c.toNat = 123 := fun h => h123 (UInt8.toNat_inj.1 h)
  have h1 : ¬ c.toNat = 10 := fun h => h10 (UInt8.toNat_inj.1 h)
  have h2 : ¬ c.toNat = 9 := fun h => h9 (UInt8.toNat_inj.1 h)
  have h0 : ¬ (c.toNat = 92 ∨ c.toNat = 60 ∨ c.toNat = 123) := by omega
  have n13 : ¬ c.toNat = 13 := fun h => h13 (UInt8.toNat_inj.1 h)
  clear h92 h60 h123 h10 h9 h13
  have q92 : ((c.toNat : Int) == 92) = false := by rw [beq_eq_false_iff_ne]; omega
  have q60 : ((c.toNat : Int) == 60) = false := by rw [beq_eq_false_iff_ne]; omega
  have q123 : ((c.toNat : Int) == 123) = false := by rw [beq_eq_false_iff_ne]; omega
  have q10 : ((c.toNat : Int) == 10) = false := by rw [beq_eq_false_iff_ne]; omega
  have q9 : ((c.toNat : Int) == 9) = false := by rw [beq_eq_false_iff_ne]; omega
  have h13 : ¬ c.toNat = 13 := n13
  have q13 : ((c.toNat : Int) == 13) = false := by rw [beq_eq_false_iff_ne]; omega
  by_cases h3 : c.toNat = 13 ∨ cls (c.toNat : Int) = 1
  · have hz := wr_x h0 h1 h2 h3
    have hz1 : cls (c.toNat : Int) = 1 := h3.elim (fun h => absurd h n13) id
    obtain ⟨d1, hd1⟩ : ∃ d : Nat, c.toNat / 16 = d := ⟨_, rfl⟩
    obtain ⟨d2, hd2⟩ : ∃ d : Nat, c.toNat % 16 = d := ⟨_, rfl⟩
    rw [hd1, hd2] at hz
    have l1 : d1 < 16 := by omega
    have l2 : d2 < 16 := by omega
    have l1' : (d1 : Int) < 16 := by omega
    have l2' : (d2 : Int) < 16 := by omega
    have e3 : (c.toNat : Int).tdiv 16 = (d1 : Int) := by rw [Int.tdiv_eq_ediv_of_nonneg (by omega)]; omega
    have e1 : IntKind.u8.wrap ((c.toNat : Int).tdiv 16) = (d1 : Int) := by
      rw [e3]; simp [IntKind.wrap, IntKind.signed, IntKind.bits]; omega
    have e4 : IntKind.u8.wrap ((c.toNat : Int) / 16) = (d1 : Int) := by
      have : ((c.toNat : Int) / 16) = (d1 : Int) := by omega
      rw [this]; simp [IntKind.wrap, IntKind.signed, IntKind.bits]; omega
    have e5 : IntKind.u8.wrap (d1 : Int) = (d1 : Int) := by simp [IntKind.wrap, IntKind.signed, IntKind.bits]; omega
    have e2 : (c.toNat : Int).tmod 16 = (d2 : Int) := by rw [Int.tmod_eq_emod_of_nonneg (by omega)]; omega
    have x1 := hexS d1 l1
    have x2 := hexS d2 l2
    have hcv := fun W (h : W.heap[w.heap.size]? = some (.cells #[.int .u8 ((hxU d1).toNat : Int), .int .u8 ((hxU d2).toNat : Int)] 5 (0, 0))) => conv_two (w := W) (hxU d1) (hxU d2) w.heap.size h
    have hcv1 := hcv (w.drew.alloc (.cells #[.int .u8 ((hxU d1).toNat : Int), .int .u8 ((hxU d2).toNat : Int)] 5)) (heap_alloc_new _ _)
    have hcv2 := hcv (w.alloc (.cells #[.int .u8 ((hxU d1).toNat : Int), .int .u8 ((hxU d2).toNat : Int)] 5)) (heap_alloc_new _ _)
    have hcv3 := hcv (w.alloc (.cells #[.int .u8 ((hxU d1).toNat : Int), .int .u8 ((hxU d2).toNat : Int)] 5)).drew (heap_alloc_new _ _)
    rw [hz1] at hc
    have HC := Lib.hid hc; have HZ := Lib.hid hz; clear hc hz hz1 h3 hcv hd1 hd2
    go_enter Tryz.func34, Tryz.ntmps34
    go_wp2_with (go_at_call 58; refine (HC.out _).mono ?_; rintro e w' ⟨rfl, rfl⟩)
    go_region_law (fail)
    all_goals go_wp2_with fail
    all_goals go_ret
    all_goals exact ⟨by rw [← HZ.out]; rfl, blw (Below.refl _ _).drew _⟩
  · have hz := wr_c h0 h1 h2 h3
    have hcv := conv_one (w := w.alloc (.cells #[.int .u8 (c.toNat : Int)] 5)) c w.heap.size (heap_alloc_new _ _)
    have n3 : ¬ c.toNat = 13 := fun h => h3 (.inl h)
    have n4 : ¬ cls (c.toNat : Int) = 1 := fun h => h3 (.inr h)
    obtain ⟨z, hz'⟩ : ∃ z, cls (c.toNat : Int) = z := ⟨_, rfl⟩
    rw [hz'] at hc n4
    have qz : (z == 1) = false := by simpa using n4
    have HC := Lib.hid hc; have HZ := Lib.hid hz; clear hc hz hz' h3
    go_enter Tryz.func34, Tryz.ntmps34
    go_wp2_with (go_at_call 58; refine (HC.out _).mono ?_; rintro e w' ⟨rfl, rfl⟩)
    all_goals first | omega | skip
    all_goals go_ret
    all_goals exact ⟨by rw [← HZ.out]; rfl, blw (Below.refl _ _) _⟩
end Go.Proofs.YtaogjccmeajpoaaGreatDoor
