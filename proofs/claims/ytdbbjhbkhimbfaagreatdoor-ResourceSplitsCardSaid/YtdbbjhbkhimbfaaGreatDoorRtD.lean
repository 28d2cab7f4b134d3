/- Contracts of the scanner of resource files: keys, blank lines and comments, raw values. The contract of readRaw. Parts in memory; the contract of Split. The contract of known, the fixed example of the laws. -/
import Derived.Test.YtdbbjhbkhimbfaaGreatDoorRtB
import Derived.Test.YtdbbjhbkhimbfaaGreatDoorRtC
import Derived.Test.YtdbbjhbkhimbfaaGreatDoorVal
import Derived.Test.YtdbbjhbkhimbfaaGreatDoorFst
import Derived.StringKeys
import Derived.Test.YtdbbjhbkhimbfaaGreatDoorPrt
namespace Go.Proofs.YtdbbjhbkhimbfaaGreatDoor
open Go.ChangeShapes Go.WideShapes Go.ChangeAt Go.RowKit
open Go.Sort (grow)
set_option linter.unusedVariables false
set_option linter.unusedSimpArgs false
set_option maxRecDepth 100000

theorem keybyte_any (c : UInt8) (w : World) : Calls Tryz.prog 70 #[.int .u8 (c.toNat : Int)] w fun e w' => e = .returned (.bool (keyB c)) ∧ w = w' := by
  have hlt := c.toNat_lt
  have h0 : (0 : Int) ≤ (c.toNat : Int) := by omega
  have h1 : (c.toNat : Int) ≤ 255 := by omega
  have hk : keyB c = decide ((97 ≤ (c.toNat : Int) ∧ (c.toNat : Int) ≤ 122) ∨ (48 ≤ (c.toNat : Int) ∧ (c.toNat : Int) ≤ 57) ∨ (c.toNat : Int) = 46 ∨ (c.toNat : Int) = 95 ∨ (c.toNat : Int) = 45) := by
    unfold keyB
    rw [Bool.eq_iff_iff]
    simp only [Bool.or_eq_true, decide_eq_true_eq]
    omega
  rw [hk]
  generalize (c.toNat : Int) = n at *
  clear hk hlt
  go_enter Tryz.func70, Tryz.ntmps70
  go_wp2
  all_goals go_ret
  all_goals refine ⟨ret_bool ?_, rfl⟩
  all_goals first | (rw [Bool.eq_iff_iff]; simp <;> omega) | (symm; simp <;> omega) | (simp <;> omega)
def keyL (l : List UInt8) : Bool := l.all keyB && decide (1 ≤ l.length) && decide (l.length ≤ 64)
set_option maxHeartbeats 800000 in
theorem iskey_any (s : ByteArray) (w : World) (hs : s.size ≤ 1000000000000) : Calls Tryz.prog 39 #[.string s] w fun e w' => e = .returned (.bool (keyL s.data.toList)) ∧ w = w' := by
  have hl : s.data.toList.length = s.size := by simp
  have hg : ∀ k (h : k < s.size), s.data.toList[k]'(by omega) = s[k] := fun k h => by simp; rfl
  have hyes : (∀ k (h : k < s.size), keyB s[k] = true) → keyL s.data.toList = (decide (1 ≤ s.size) && decide (s.size ≤ 64)) := fun h => by
    unfold keyL
    rw [show s.data.toList.all keyB = true from List.all_eq_true.2 (fun c hc => by
      obtain ⟨k, hk, rfl⟩ := List.mem_iff_getElem.1 hc
      rw [hg k (by omega)]; exact h k (by omega)), hl, Bool.true_and]
  have hno : ∀ k (h : k < s.size), keyB s[k] = false → keyL s.data.toList = false := fun k h hk => by
    unfold keyL
    rw [show s.data.toList.all keyB = false from by
      rw [Bool.eq_false_iff]; intro ha
      have := List.all_eq_true.1 ha (s[k]) (by rw [← hg k h]; exact List.getElem_mem _)
      rw [hk] at this; cases this]
    rfl
  generalize keyL s.data.toList = R at *
  have HY := Lib.hid hyes; have HN := Lib.hid hno
  have hs1 : (s.size : Int) ≤ 1000000000000 := by omega
  clear hyes hno hg hl
  go_enter Tryz.func39, Tryz.ntmps39
  go_wp2_with fail
  go_loop [6] (fun i => ∃ k : Nat, k ≤ s.size ∧ i = .int .i64 k ∧ Hid (∀ j (h : j < s.size), j < k → keyB s[j] = true)) (fun i => s.size - (intOf i).toNat)
  case atStart => exact ⟨0, Nat.zero_le _, rfl, Lib.hid (fun j h hj => absurd hj (by omega))⟩
  case round =>
    obtain ⟨k, hk, rfl, HK⟩ := hrel
    by_cases hlt : k < s.size
    · cases hb : keyB s[k]
      · have hR := HN.out k hlt hb
        subst hR
        have hc := fun W => keybyte_any s[k] W
        rw [hb] at hc
        have HC := Lib.hid hc
        clear hb hc
        go_wp2_with fail
        refine (HC.out _).mono ?_; rintro e w1 ⟨rfl, rfl⟩
        go_wp2_with fail
        go_ret
        exact ⟨rfl, rfl⟩
      · have hc := fun W => keybyte_any s[k] W
        have HK2 : Hid (∀ j (h : j < s.size), j < k + 1 → keyB s[j] = true) := Lib.hid (fun j h hj => by
          by_cases e : j = k
          · subst e; exact hb
          · exact HK.out j h (by omega))
        rw [hb] at hc
        have HC := Lib.hid hc
        clear hb hc
        go_wp2_with fail
        refine (HC.out _).mono ?_; rintro e w1 ⟨rfl, rfl⟩
        go_wp2_with fail
        go_round
        case rel => exact ⟨k + 1, hlt, by go_num, HK2⟩
        case measure => simp [intOf]; omega
    · obtain rfl : k = s.size := by omega
      have hR := HY.out (fun j h => HK.out j h h)
      subst hR
      go_wp2
      all_goals go_ret
      all_goals refine ⟨ret_bool ?_, rfl⟩
      all_goals first | (rw [Bool.eq_iff_iff]; simp <;> omega) | (symm; simp <;> omega) | (simp <;> omega)
theorem aft_none (c : UInt8) (l : List UInt8) (h : hasU c l = false) : upto c l = l := (upto_none c l h).1
/-- What readKey answers: the key, whether there is one; where the scanner then stands. -/
def EndK (b p : Nat) (s : ByteArray) (w : World) (e : Ending) (w' : World) : Prop :=
  e = .returned (.tuple #[.string (if keyK (restD s p) = true then keyAt s p else .empty), .bool (keyK (restD s p))]) ∧ Scn w' b s (if keyK (restD s p) = true then rawAt s p else p) ∧ Only (fun i => i = b) w w'
theorem keyK_eq (l : List UInt8) : keyK l = (hasU 61 l && keyL (upto 61 l)) := by
  unfold keyK keyL
  cases hasU 61 l <;> simp [Bool.and_assoc]
set_option maxHeartbeats 1600000 in
theorem readkey_any (b p : Nat) (s : ByteArray) (w : World) (h : Scn w b s p) (hs : s.size ≤ 1000000000000) (hp : p ≤ s.size) :
    Calls Tryz.prog 20 #[.pointer (some ⟨b, 0, none⟩)] w (EndK b p s w) := by
  have hR := fun W (hS : Scn W b s p) => rest_any b p s W hS hs hp
  have hcc := fun W => cutc_any (s.extract p s.size) 61 W (by unfold maxLen; simp; omega)
  rw [ext_dropL] at hcc
  have hll : s.data.toList.length = s.size := by simp
  have hul := upto_le 61 (restD s p)
  rw [restD_len] at hul
  have c1 : (p : Int) ≤ 1000000000000 := by omega
  have hik := fun W => iskey_any (keyAt s p) W (by unfold keyAt; rw [bsL_size]; omega)
  have hkz : (keyAt s p).size = (upto 61 (restD s p)).length := by unfold keyAt; exact bsL_size _
  have hraw : rawAt s p = p + ((keyAt s p).size + 1) := by unfold rawAt; omega
  have hkk := keyK_eq (restD s p)
  have hkd : (keyAt s p).data.toList = upto 61 (restD s p) := by unfold keyAt; exact bsL_list _
  rw [hkd] at hik
  change ∀ W, Calls Tryz.prog 36 #[.string (s.extract p s.size), .string ⟨#[61]⟩] W fun e w' => e = .returned (.tuple #[.string (keyAt s p), .string (bsL (aft 61 (restD s p))), .bool (hasU 61 (restD s p))]) ∧ Below W.heap.size W w' at hcc
  unfold EndK
  rw [hkk]
  have hks : (keyAt s p).size ≤ 1000000000000 := by omega
  generalize hasU 61 (restD s p) = F at *
  generalize keyL (upto 61 (restD s p)) = G at *
  generalize bsL (aft 61 (restD s p)) = rest at *
  obtain ⟨R, hRR⟩ : ∃ R, R = s.extract p s.size := ⟨_, rfl⟩
  rw [← hRR] at hcc hR
  rw [hraw]
  generalize keyAt s p = K at *
  have HR := Lib.hid hR; have HC := Lib.hid hcc; have HI := Lib.hid hik
  clear hR hcc hik hRR hkz hraw hkk hkd hul hll
  cases F
  · go_enter Tryz.func20, Tryz.ntmps20
    go_wp2_with fail
    refine (HR.out _ h).mono ?_; rintro e w1 ⟨rfl, hb⟩
    go_wp2_with fail
    refine (HC.out _).mono ?_; rintro e w2 ⟨rfl, hb2⟩
    have hS1 := (h.call hb).call hb2
    have hO1 : Only (fun i => i = b) w w2 := Only.of_below (BelowOn hb hb2)
    go_wp2_with fail
    go_ret2
    exact ⟨rfl, hS1, hO1⟩
  · cases G
    · go_enter Tryz.func20, Tryz.ntmps20
      go_wp2_with fail
      refine (HR.out _ h).mono ?_; rintro e w1 ⟨rfl, hb⟩
      go_wp2_with fail
      refine (HC.out _).mono ?_; rintro e w2 ⟨rfl, hb2⟩
      go_wp2_with fail
      refine (HI.out _).mono ?_; rintro e w3 ⟨rfl, rfl⟩
      have hS1 := (h.call hb).call hb2
      have hO1 := Only.of_below (S := fun i => i = b) (BelowOn hb hb2)
      go_wp2_with fail
      go_ret2
      exact ⟨rfl, hS1, hO1⟩
    · have hk0 : (K.size : Int) ≤ 1000000000000 := by omega
      have hq2 : (p : Int) + ((K.size : Int) + 1) = ((p + (K.size + 1) : Nat) : Int) := by omega
      have HQ := Lib.hid hq2
      clear hq2
      go_enter Tryz.func20, Tryz.ntmps20
      go_wp2_with fail
      refine (HR.out _ h).mono ?_; rintro e w1 ⟨rfl, hb⟩
      go_wp2_with fail
      refine (HC.out _).mono ?_; rintro e w2 ⟨rfl, hb2⟩
      go_wp2_with fail
      refine (HI.out _).mono ?_; rintro e w3 ⟨rfl, rfl⟩
      have hS1 := (h.call hb).call hb2
      have hO1 := Only.of_below (S := fun i => i = b) (BelowOn hb hb2)
      obtain ⟨x0, x1, x2⟩ := hS1.cells
      go_wp2_with fail
      rw [HQ.out]
      go_ret2
      exact ⟨rfl, hS1.set (p + (K.size + 1)), hO1.setCell _ _ rfl⟩
set_option maxHeartbeats 1600000 in
theorem skipun_any (b p : Nat) (s : ByteArray) (w : World) (h : Scn w b s p) (hs : s.size ≤ 1000000000000) (hp : p ≤ s.size) :
    Calls Tryz.prog 19 #[.pointer (some ⟨b, 0, none⟩)] w fun e w' => e = .returned (.bool (skipL (upto 10 (restD s p)))) ∧ Scn w' b s (if skipL (upto 10 (restD s p)) = true then min (p + (upto 10 (restD s p)).length + 1) s.size else p) ∧ Only (fun i => i = b) w w' := by
  have hR := fun W (hS : Scn W b s p) => rest_any b p s W hS hs hp
  have hcc := fun W => cutc_any (s.extract p s.size) 10 W (by unfold maxLen; simp; omega)
  rw [ext_dropL] at hcc
  have hul := upto_le 10 (restD s p)
  rw [restD_len] at hul
  have c1 : (p : Int) ≤ 1000000000000 := by omega
  have htr := fun W => trimbl_any (bsL (upto 10 (restD s p))) W
  rw [bsL_list] at htr
  have hse := fun q W (hS : Scn W b s q) (hq : q ≤ s.size) => skipend_any b q s W hS hs hq
  have hkz : (bsL (upto 10 (restD s p))).size = (upto 10 (restD s p)).length := bsL_size _
  have hsk : skipL (upto 10 (restD s p)) = (match ((upto 10 (restD s p)).drop (blanks (upto 10 (restD s p))).length).head? with | none => true | some c => c == 10 || c == 35) := rfl
  have hno : ∀ c ∈ (upto 10 (restD s p)).drop (blanks (upto 10 (restD s p))).length, c ≠ 10 := fun c hc => upto_mem 10 _ c (List.mem_of_mem_drop hc)
  change ∀ W, Calls Tryz.prog 36 #[.string (s.extract p s.size), .string ⟨#[10]⟩] W fun e w' => e = .returned (.tuple #[.string (bsL (upto 10 (restD s p))), .string (bsL (aft 10 (restD s p))), .bool (hasU 10 (restD s p))]) ∧ Below W.heap.size W w' at hcc
  generalize skipL (upto 10 (restD s p)) = Q at *
  generalize (upto 10 (restD s p)).drop (blanks (upto 10 (restD s p))).length = T at *
  generalize hasU 10 (restD s p) = F at *
  generalize bsL (aft 10 (restD s p)) = rest at *
  generalize (upto 10 (restD s p)).length = n at *
  generalize bsL (upto 10 (restD s p)) = L at *
  obtain ⟨R, hRR⟩ : ∃ R, R = s.extract p s.size := ⟨_, rfl⟩
  rw [← hRR] at hcc hR
  have hn0 : (L.size : Int) ≤ 1000000000000 := by omega
  have hpn : p + n ≤ s.size := by omega
  have hq2 : (p : Int) + (L.size : Int) = ((p + n : Nat) : Int) := by omega
  have HR := Lib.hid hR; have HC := Lib.hid hcc; have HT := Lib.hid htr; have HE := Lib.hid hse; have HQ := Lib.hid hq2
  clear hR hcc htr hse hq2 hRR hkz hul
  have go : ∀ (t : Bool), Q = t → t = Q := fun t h => h.symm
  cases T with
  | nil =>
    have hQ : Q = true := hsk
    subst hQ
    clear hsk hno
    have hT0 : bsL ([] : List UInt8) = ⟨#[]⟩ := rfl
    rw [hT0] at HT
    go_enter Tryz.func19, Tryz.ntmps19
    go_wp2_with fail
    refine (HR.out _ h).mono ?_; rintro e w1 ⟨rfl, hb⟩
    go_wp2_with fail
    refine (HC.out _).mono ?_; rintro e w2 ⟨rfl, hb2⟩
    go_wp2_with fail
    refine (HT.out _).mono ?_; rintro e w3 ⟨rfl, hb3⟩
    have hS1 := ((h.call hb).call hb2).call hb3
    have hO1 := Only.of_below (S := fun i => i = b) (BelowOn (BelowOn hb hb2) hb3)
    obtain ⟨x0, x1, x2⟩ := hS1.cells
    go_wp2_with fail
    rw [HQ.out]
    refine (HE.out (p + n) _ (hS1.set (p + n)) hpn).mono ?_
    rintro e w4 ⟨rfl, hS4, hO4⟩
    go_wp2_with fail
    go_ret
    exact ⟨rfl, hS4, (hO1.setCell _ _ rfl).trans hO4⟩
  | cons c t =>
    have hc10 := hno c (by simp)
    obtain ⟨X, hX⟩ : ∃ X, X = bsL (c :: t) := ⟨_, rfl⟩
    have hXs : 0 < X.size := by rw [hX, bsL_size]; simp
    have hX0 : ∀ (Y : ByteArray) (e : Y = bsL (c :: t)) (h : 0 < Y.size), Y[0] = c := fun Y e h => by subst e; rfl
    have hXc := hX0 X hX hXs
    have hne : X.toList.isEmpty = false := by
      rw [Lib.toList_data, hX, bsL_list]; rfl
    rw [← hX] at HT
    by_cases hc35 : c = 35
    · have hQ : Q = true := by rw [hsk, hc35]; rfl
      subst hQ
      have q35 : ((X[0].toNat : Int) != 35) = false := by rw [hXc, hc35]; rfl
      clear hsk hno hX hX0 hXc hc35 hc10
      go_enter Tryz.func19, Tryz.ntmps19
      go_wp2_with fail
      refine (HR.out _ h).mono ?_; rintro e w1 ⟨rfl, hb⟩
      go_wp2_with fail
      refine (HC.out _).mono ?_; rintro e w2 ⟨rfl, hb2⟩
      go_wp2_with fail
      refine (HT.out _).mono ?_; rintro e w3 ⟨rfl, hb3⟩
      have hS1 := ((h.call hb).call hb2).call hb3
      have hO1 := Only.of_below (S := fun i => i = b) (BelowOn (BelowOn hb hb2) hb3)
      obtain ⟨x0, x1, x2⟩ := hS1.cells
      go_wp2_with fail
      rw [HQ.out]
      refine (HE.out (p + n) _ (hS1.set (p + n)) hpn).mono ?_
      rintro e w4 ⟨rfl, hS4, hO4⟩
      go_wp2_with fail
      go_ret
      exact ⟨rfl, hS4, (hO1.setCell _ _ rfl).trans hO4⟩
    · have hQ : Q = false := by
        rw [hsk]
        show (c == 10 || c == 35) = false
        rw [beq_eq_false_iff_ne.2 hc10, beq_eq_false_iff_ne.2 hc35]; rfl
      subst hQ
      have q35 : ((X[0].toNat : Int) != 35) = true := by
        rw [hXc, bne_iff_ne]
        intro e
        exact hc35 (UInt8.toNat_inj.1 (by show _ = 35; omega))
      clear hsk hno hX hX0 hXc hc35 hc10
      go_enter Tryz.func19, Tryz.ntmps19
      go_wp2_with fail
      refine (HR.out _ h).mono ?_; rintro e w1 ⟨rfl, hb⟩
      go_wp2_with fail
      refine (HC.out _).mono ?_; rintro e w2 ⟨rfl, hb2⟩
      go_wp2_with fail
      refine (HT.out _).mono ?_; rintro e w3 ⟨rfl, hb3⟩
      have hS1 := ((h.call hb).call hb2).call hb3
      have hO1 := Only.of_below (S := fun i => i = b) (BelowOn (BelowOn hb hb2) hb3)
      go_wp2_with fail
      go_ret
      exact ⟨rfl, hS1, hO1⟩
/-- A line's kind is that of its bytes up to the line feed. -/
theorem skip_line (l : List UInt8) : skipL (upto 10 l) = skipL l := by
  unfold skipL blanks upto
  induction l with
  | nil => rfl
  | cons a t ih =>
    by_cases h10 : a = 10
    · subst h10
      simp [blB]
    · have e1 : (a != 10) = true := by simpa using h10
      rw [List.takeWhile_cons, e1, if_pos rfl]
      cases hb : blB a with
      | false => rw [List.takeWhile_cons, List.takeWhile_cons, hb]; simp
      | true =>
        rw [List.takeWhile_cons, List.takeWhile_cons, hb, if_pos rfl, if_pos rfl]
        simpa using ih
end Go.Proofs.YtdbbjhbkhimbfaaGreatDoor
namespace Go.Proofs.YtdbbjhbkhimbfaaGreatDoor
open Go.ChangeShapes Go.WideShapes Go.ChangeAt Go.RowKit
open Go.Sort (grow)
set_option linter.unusedVariables false
set_option linter.unusedSimpArgs false
set_option maxRecDepth 100000

theorem Scn.set2 {W : World} {b p : Nat} {s : ByteArray} (h : Scn W b s p) (q r : Nat) : Scn (W.setCell ⟨b, 1, none⟩ (.int .i64 r)) b s r := h.set r
set_option maxHeartbeats 1600000 in
theorem readraw_any (b p : Nat) (s : ByteArray) (w : World) (h : Scn w b s p) (hs : s.size ≤ 999999999999) (hp : p ≤ s.size) :
    Calls Tryz.prog 21 #[.pointer (some ⟨b, 0, none⟩)] w fun e w' => e = .returned (.string (s.extract p (p + rawL (restD s p)))) ∧ Scn w' b s (p + rawL (restD s p)) ∧ Only (fun i => i = b) w w' := by
  have hmo := fun q W (h : Scn W b s q) (hq : q ≤ s.size + 1) => more_any b q s W h (by omega) (by omega)
  have hn : p + rawL (restD s p) = min (p + rawL (restD s p)) s.size := by
    have := rawL_le _ (restD s p) (Nat.le_refl _); rw [restD_len] at this; omega
  obtain ⟨E, hE⟩ : ∃ E, p + rawL (restD s p) = E := ⟨_, rfl⟩
  have hpe : p ≤ E := by omega
  have h0 : Hid (E = min (p + rawL (restD s p)) s.size) := Lib.hid (by rw [← hE]; exact hn)
  rw [hE]
  have hEs : E ≤ s.size := by omega
  have HM := Lib.hid hmo
  clear hmo hn hE
  obtain ⟨x0, x1, x2⟩ := h.cells
  have mixed : Tryz.prog.follows .mixedOrders = true := by kernel_rfl
  go_enter Tryz.func21, Tryz.ntmps21
  go_wp2_with fail
  clear x0 x1 x2
  go_loopw [] (fun wr => ∃ q : Nat, p ≤ q ∧ q ≤ s.size + 1 ∧ Scn wr b s q ∧ Hid (E = min (q + rawL (restD s q)) s.size) ∧ Only (fun i => i = b) w wr) (fun wr => s.size + 2 - (intOf ((wr.cell? ⟨b, 1, none⟩).getD (.int .i64 0))).toNat)
  case atStart => exact ⟨p, Nat.le_refl _, by omega, h, h0, Only.refl _ _⟩
  case round =>
    obtain ⟨q, hpq, hq, hS, HE, hO⟩ := hrel
    have hm0 := hS.cells.2.1
    have hcell : ∀ (W : World) (r : Nat), Scn W b s r → W.cell? ⟨b, 1, none⟩ = some (.int .i64 (r : Int)) := fun W r h => h.cells.2.1
    have hbl := hS.lt
    obtain ⟨x0, x1, x2⟩ := hS.cells
    have k0 := cell_regrown x0
    have k1 := cell_regrown x1
    have cQ : ∀ d os, Calls Tryz.prog 18 #[.pointer (some ⟨b, 0, none⟩)] (grow (redrawn wr d) os) fun e w'' => e = .returned (.bool (decide (q < s.size))) ∧ ∃ p : Regrown, w'' = grow (redrawn wr p.d) p.os := fun d os => Calls.regrown_of (HM.out q _ (hS.call (below_regrown wr d os)) hq)
    by_cases hlt : q < s.size
    case neg =>
      have qq : decide (q < s.size) = false := decide_eq_false hlt
      rw [qq] at cQ
      have hd : restD s q = [] := by unfold restD; exact List.drop_of_length_le (by simp; omega)
      have he := HE.out
      rw [hd, rawL_nil] at he
      have hE2 : E = s.size := by omega
      clear hd he
      go_wp2_with fail
      refine wp_region_quiet_below (by assumption) (by kernel_rfl) ?_
      repeat (go_big_quiet_step (exact cQ _ _))
      refine wpQuiet_nil ?_
      intro _ hw'
      obtain ⟨⟨dq, osq⟩, hw''⟩ := hw'
      subst hw''
      have hb2 := below_regrown wr dq osq
      generalize grow (redrawn wr dq) osq = W2 at *
      have hS2 := hS.call hb2
      have hO2 := hO.trans (Only.of_below hb2)
      clear x0 x1 x2 k0 k1 cQ
      obtain ⟨x0, x1, x2⟩ := hS2.cells
      have hse : (s.size : Int) ≤ (q : Int) := by omega
      have hmin : min (q : Int) (s.size : Int) = (s.size : Int) := by omega
      have hqs : ¬ (q : Int) < (s.size : Int) := by omega
      subst hE2
      go_wp2_with fail
      go_region_o
      have hS3 := (hS2.set s.size).drew
      have hO3 := (hO2.setCell ⟨b, 1, none⟩ (.int .i64 ((s.size : Nat) : Int)) rfl).drew
      change Exit.then _ _ _ _ ((W2.setCell ⟨b, 1, none⟩ (.int .i64 ((s.size : Nat) : Int))).drew)
      generalize (W2.setCell ⟨b, 1, none⟩ (.int .i64 ((s.size : Nat) : Int))).drew = W3 at *
      clear x0 x1 x2
      obtain ⟨x0, x1, x2⟩ := hS3.cells
      have g0 : (p : Int) ≤ ((s.size : Nat) : Int) := by omega
      have g1 : ((s.size : Nat) : Int) ≤ (s.size : Int) := by omega
      have g2 : (0 : Int) ≤ (p : Int) := by omega
      go_wp2_with fail
      go_quiet (fail)
      go_wp2_with fail
      go_ret
      exact ⟨rfl, hS3.call (below_qN _ _), hO3.trans (Only.of_below (below_qN _ _))⟩
    have qq : decide (q < s.size) = true := decide_eq_true hlt
    rw [qq] at cQ
    have hd : restD s q = s[q] :: restD s (q + 1) := drop_get s q hlt
    have i0 : (0 : Int) ≤ (q : Int) := by omega
    have i1 : (q : Int) < (s.size : Int) := by omega
    have he := HE.out
    rw [hd] at he
    by_cases h10 : s[q] = 10
    · rw [h10, rawL_10] at he
      have hE2 : E = q := by omega
      have ha : ((s[q].toNat : Int) != 10) = false := by rw [h10]; rfl
      have hmin : min (q : Int) (s.size : Int) = (q : Int) := by omega
      clear hd he h10
      subst hE2
      go_wp2_with fail
      refine wp_region_quiet_below (by assumption) (by kernel_rfl) ?_
      repeat (go_big_quiet_step (exact cQ _ _))
      refine wpQuiet_nil ?_
      intro _ hw'
      obtain ⟨⟨dq, osq⟩, hw''⟩ := hw'
      subst hw''
      have hb2 := below_regrown wr dq osq
      generalize grow (redrawn wr dq) osq = W2 at *
      have hS2 := hS.call hb2
      have hO2 := hO.trans (Only.of_below hb2)
      clear x0 x1 x2 k0 k1 cQ
      obtain ⟨x0, x1, x2⟩ := hS2.cells
      go_wp2_with fail
      go_region_o
      have hS3 := (hS2.set E).drew
      have hO3 := (hO2.setCell ⟨b, 1, none⟩ (.int .i64 ((E : Nat) : Int)) rfl).drew
      change Exit.then _ _ _ _ ((W2.setCell ⟨b, 1, none⟩ (.int .i64 ((E : Nat) : Int))).drew)
      generalize (W2.setCell ⟨b, 1, none⟩ (.int .i64 ((E : Nat) : Int))).drew = W3 at *
      clear x0 x1 x2
      obtain ⟨x0, x1, x2⟩ := hS3.cells
      have g0 : (p : Int) ≤ ((E : Nat) : Int) := by omega
      have g1 : ((E : Nat) : Int) ≤ (s.size : Int) := by omega
      have g2 : (0 : Int) ≤ (p : Int) := by omega
      go_wp2_with fail
      go_quiet (fail)
      go_wp2_with fail
      go_ret
      exact ⟨rfl, hS3.call (below_qN _ _), hO3.trans (Only.of_below (below_qN _ _))⟩
    have ha : ((s[q].toNat : Int) != 10) = true := by rw [bne_iff_ne]; intro e; exact h10 (UInt8.toNat_inj.1 (by show _ = 10; omega))
    by_cases h92 : s[q] = 92
    · have hb : ((s[q].toNat : Int) == 92) = true := by rw [h92]; rfl
      have HE2 : Hid (E = min (q + 2 + rawL (restD s (q + 2))) s.size) := Lib.hid (by
        rw [h92] at he
        by_cases h2 : q + 1 < s.size
        · have hd2 : restD s (q + 1) = s[q + 1] :: restD s (q + 2) := drop_get s (q + 1) h2
          rw [hd2, rawL_92] at he; omega
        · have e1 : restD s (q + 1) = [] := by unfold restD; exact List.drop_of_length_le (by simp; omega)
          have e2 : restD s (q + 2) = [] := by unfold restD; exact List.drop_of_length_le (by simp; omega)
          rw [e1, rawL_92e] at he; rw [e2, rawL_nil]; omega)
      clear hd he h10 h92
      go_wp2_with fail
      refine wp_region_quiet_below (by assumption) (by kernel_rfl) ?_
      repeat (go_big_quiet_step (exact cQ _ _))
      refine wpQuiet_nil ?_
      intro _ hw'
      obtain ⟨⟨dq, osq⟩, hw''⟩ := hw'
      subst hw''
      have hb2 := below_regrown wr dq osq
      generalize grow (redrawn wr dq) osq = W2 at *
      have hS2 := hS.call hb2
      have hO2 := hO.trans (Only.of_below hb2)
      clear x0 x1 x2 k0 k1 cQ
      obtain ⟨x0, x1, x2⟩ := hS2.cells
      go_wp2_with fail
      go_quiet (fail)
      go_wp2_with fail
      go_roundw
      case rel => exact ⟨q + 2, by omega, by omega, ((hS2.call (below_qN _ nq)).set (q + 1)).set (q + 2), HE2, ((hO2.trans (Only.of_below (below_qN _ nq))).setCell _ _ rfl).setCell _ _ rfl⟩
      case measure =>
        rw [hm0, hcell _ (q + 2)]
        · simp [intOf]; omega
        · exact ((hS2.call (below_qN _ nq)).set (q + 1)).set (q + 2)
    · have hb : ((s[q].toNat : Int) == 92) = false := u8_int_ne (b := 92) h92
      have HE2 : Hid (E = min (q + 1 + rawL (restD s (q + 1))) s.size) := Lib.hid (by
        rw [rawL_c _ _ h10 h92] at he; omega)
      clear hd he h10 h92
      go_wp2_with fail
      refine wp_region_quiet_below (by assumption) (by kernel_rfl) ?_
      repeat (go_big_quiet_step (exact cQ _ _))
      refine wpQuiet_nil ?_
      intro _ hw'
      obtain ⟨⟨dq, osq⟩, hw''⟩ := hw'
      subst hw''
      have hb2 := below_regrown wr dq osq
      generalize grow (redrawn wr dq) osq = W2 at *
      have hS2 := hS.call hb2
      have hO2 := hO.trans (Only.of_below hb2)
      clear x0 x1 x2 k0 k1 cQ
      obtain ⟨x0, x1, x2⟩ := hS2.cells
      go_wp2_with fail
      go_quiet (fail)
      go_wp2_with fail
      go_roundw
      case rel => exact ⟨q + 1, by omega, by omega, (hS2.call (below_qN _ _)).set (q + 1), HE2, (hO2.trans (Only.of_below (below_qN _ nq))).setCell _ _ rfl⟩
      case measure =>
        rw [hm0, hcell _ (q + 1)]
        · simp [intOf]; omega
        · exact (hS2.call (below_qN _ nq)).set (q + 1)
end Go.Proofs.YtdbbjhbkhimbfaaGreatDoor
namespace Go.Proofs.YtdbbjhbkhimbfaaGreatDoor
open Go.ChangeShapes Go.WideShapes Go.ChangeAt Go.RowKit Go.Maps
set_option linter.unusedVariables false
set_option linter.unusedSimpArgs false
set_option maxRecDepth 100000

def penc (x : Pt) : List Value := [.bool x.u, .string x.key, .string x.raw]
theorem infoP : (Tryz.prog.info? 59).map (fun i => (i.zero, i.size, i.bytes)) = some (some (.agg #[.bool false, .string .empty, .string .empty]), 3, 40) := by kernel_rfl
theorem eP : El 30 59 3 40 (.agg #[.bool false, .string .empty, .string .empty]) penc :=
  ⟨Tryz.underlying30, info_parts infoP, rfl, by omega, fun _ => rfl, fun x u hu => by simp [penc] at hu; rcases hu with rfl | rfl | rfl <;> rfl⟩
def Pts (W : World) (p : Option Addr) (l : List Pt) : Prop :=
  0 < l.length → ∃ a, p = some a ∧ a.block < W.heap.size ∧ ∀ i (h : i < l.length), W.cell? (a.add (i * 3)) = some (.bool (l[i]'h).u) ∧ W.cell? (a.add (i * 3 + 1)) = some (.string (l[i]'h).key) ∧ W.cell? (a.add (i * 3 + 2)) = some (.string (l[i]'h).raw)
theorem Pts.call {W w1 : World} {p : Option Addr} {l : List Pt} (h : Pts W p l) (hb : Below W.heap.size W w1) : Pts w1 p l := fun h0 => by
  obtain ⟨a, hp, hlt, hc⟩ := h h0
  refine ⟨a, hp, Nat.lt_of_lt_of_le hlt hb.size, fun i hi => ?_⟩
  obtain ⟨c0, c1, c2⟩ := hc i hi
  exact ⟨by rw [hb.cell (p := a.add (i * 3)) (by rw [add_block]; exact hlt)]; exact c0, by rw [hb.cell (p := a.add (i * 3 + 1)) (by rw [add_block]; exact hlt)]; exact c1, by rw [hb.cell (p := a.add (i * 3 + 2)) (by rw [add_block]; exact hlt)]; exact c2⟩
theorem Pts.nil (W : World) (p : Option Addr) : Pts W p [] := fun h => by cases h
theorem Pts.row {W : World} {p : Option Addr} {l : List Pt} (h : Pts W p l) (i : Nat) (hi : i < l.length) : ∃ a, p = some a ∧ a.block < W.heap.size ∧
    W.cell? (a.add (i * 3)) = some (.bool (l[i]'hi).u) ∧ W.cell? ⟨(a.add (i * 3)).block, (a.add (i * 3)).off + 1, none⟩ = some (.string (l[i]'hi).key) ∧ W.cell? ⟨(a.add (i * 3)).block, (a.add (i * 3)).off + 2, none⟩ = some (.string (l[i]'hi).raw) := by
  obtain ⟨a, hp, hlt, hc⟩ := h (by omega)
  obtain ⟨c0, c1, c2⟩ := hc i hi
  exact ⟨a, hp, hlt, c0, by rw [add_next _ _ _ (by omega)]; exact c1, by rw [add_next _ _ _ (by omega)]; exact c2⟩
theorem pcells_at (l : List Pt) : ∀ i (h : i < l.length), (cellsOf penc l)[i * 3]? = some (.bool (l[i]'h).u) ∧ (cellsOf penc l)[i * 3 + 1]? = some (.string (l[i]'h).key) ∧ (cellsOf penc l)[i * 3 + 2]? = some (.string (l[i]'h).raw) := by
  induction l with
  | nil => intro i h; cases h
  | cons x t ih =>
    intro i h
    have e : cellsOf penc (x :: t) = .bool x.u :: .string x.key :: .string x.raw :: cellsOf penc t := rfl
    rw [e]
    cases i with
    | zero => exact ⟨rfl, rfl, rfl⟩
    | succ j =>
      have := ih j (by simp at h; omega)
      rw [show (j + 1) * 3 = j * 3 + 1 + 1 + 1 from by omega]
      exact this
theorem OwnL.pts {base : Nat} {L : List Pt} {v : Value} {wr : World} (h : OwnL 59 3 penc base L v wr) : ∃ p cap, v = .slice p L.length cap ∧ L.length ≤ cap ∧ cap ≤ maxLen ∧ Pts wr p L := by
  rcases h.2 with ⟨hv, h0⟩ | ⟨g, cap, cur, hv, hg, hh, hn, hm, hs, ht⟩
  · have : L = [] := List.length_eq_zero_iff.1 h0
    subst this
    exact ⟨none, 0, hv, Nat.le_refl _, Nat.zero_le _, Pts.nil _ _⟩
  · refine ⟨some ⟨g, 0, none⟩, cap, hv, hn, hm, fun _ => ⟨_, rfl, ?_, fun i hi => ?_⟩⟩
    · rcases Nat.lt_or_ge g wr.heap.size with hlt | hge
      · exact hlt
      · rw [Array.getElem?_eq_none hge] at hh; cases hh
    · have hc := World.ownsRow.cells h (g := g) (by rw [hv]; rfl)
      obtain ⟨c0, c1, c2⟩ := pcells_at L i hi
      exact ⟨hc _ _ c0, hc _ _ c1, hc _ _ c2⟩
/-- append of elements that lie in a block of their own. -/
theorem wpl_appm {α : Type} {t e size bytes : Nat} {z : Value} {enc : α → List Value} (E : El t e size bytes z enc) (w : World) {ops : Array Oper} {rest : List Oper} {o : Oper} {a : Act} {Q : Exit → Act → World → Prop} (hg : o.guard = none) (s x : Operand)
    (ho : o.op = .call { callee := .builtin .append, args := #[s, x], argTypes := #[t, t] }) (base : Nat) (L : List α) (v : Value) (hs : a.eval s = v) (h : OwnL e size enc base L v w) (hbase : base ≤ w.heap.size) (ys : List α) (m B : Nat) (cs : Array Value) (hm : ys.length = m) (hm0 : 0 < m)
    (hx : a.eval x = .slice (some ⟨B, 0, none⟩) m m) (hB : w.heap[B]? = some (.cells cs e (0, 0))) (hcs : cs.toList = cellsOf enc ys) (hlen : (L.length + m) * bytes ≤ 140737488355328) (hlen' : L.length + m ≤ maxLen)
    (hK : ∀ g cap w', OwnL e size enc base (L ++ ys) (.slice (some ⟨g, 0, none⟩) (L.length + m) cap) w' → w.grownBy w' v.ownBlock → wpList Tryz.prog ops Q rest (a.put o.dst (.slice (some ⟨g, 0, none⟩) (L.length + m) cap)) w') : wpList Tryz.prog ops Q (o :: rest) a w := by
  obtain ⟨i, hi, hz0, hz1, hz2⟩ := E.hi
  refine wpList_append_lies w hg s x t ho base e i z size bytes E.ht hi hz0 hz1 hz2 E.hzs E.hsz v L.length (cellsOf enc L) hs h ⟨B, 0, none⟩ m m (cellsOf enc ys) hx (by rw [cellsOf_len E, hm]) ?_ (fun u hu => ?_) hm0 hlen' hlen hbase _ rfl ?_
  · rw [← hcs]; exact World.news_of_block hB
  · unfold cellsOf at hu; rw [List.mem_flatMap] at hu; obtain ⟨y, _, hy⟩ := hu; exact E.one y u hy
  · intro g cap w' h2 h3 h4 h5
    refine hK _ _ _ ?_ h3
    unfold OwnL; rw [List.length_append, hm, show cellsOf enc (L ++ ys) = cellsOf enc L ++ cellsOf enc ys from by unfold cellsOf; rw [List.flatMap_append]]; exact h2
/-- What Split answers. -/
def EndS (R : List Pt × Nat × Int) (w : World) (e : Ending) (w' : World) : Prop := ∃ p c, e = .returned (.tuple #[.slice p R.1.length c, .int .i64 (R.2.1 : Nat), .int .i64 R.2.2]) ∧ R.1.length ≤ c ∧ c ≤ maxLen ∧ Pts w' p R.1 ∧ Below w.heap.size w w'
theorem k9 : Keyed Tryz.prog 9 := string_keyed Tryz.underlying9
theorem vS_inj (a b : ByteArray) (h : Value.string a = Value.string b) : a = b := by injection h
theorem spl_min (D : ByteArray) (ps : List Pt) (a p : Nat) : spl D ps a (min p D.size) = spl D ps a p := by
  rcases Nat.le_total p D.size with h | h
  · rw [Nat.min_eq_left h]
  · rw [Nat.min_eq_right h, spl_end D ps a _ (Nat.le_refl _), spl_end D ps a _ h]
theorem mk_map (W : World) : Sem.run Tryz.prog (Instr.makeMap 54 none) W = .ok (.map (some W.heap.size)) (W.alloc (.map #[] 0)) := by kernel_rfl
/-- What holds at each round's head. -/
structure SpR (s : ByteArray) (R : List Pt × Nat × Int) (w : World) (p a k : Nat) (ps : List Pt) (φ : ByteArray → Option Bool) (vp : Value) (wr : World) : Prop where
  own : OwnL 59 3 penc (w.heap.size + 2) ps vp wr
  scn : Scn wr w.heap.size s p
  map : MapAt 9 Value.string Value.bool wr (w.heap.size + 1) k φ
  spl : spl s ps a p = R
  has : ∀ key, φ key = if hasK ps key = true then some true else none
  cnt : k ≤ ps.length
  few : ps.length ≤ 2 * p
  le : p ≤ s.size
  from_ : a ≤ s.size
  fa : a ≤ p
  bel : Below w.heap.size w wr
/-- What the call holds, wherever it is. -/
structure SpW (s : ByteArray) (w : World) (q k : Nat) (ps : List Pt) (φ : ByteArray → Option Bool) (vp : Value) (W : World) : Prop where
  own : OwnL 59 3 penc (w.heap.size + 2) ps vp W
  scn : Scn W w.heap.size s q
  map : MapAt 9 Value.string Value.bool W (w.heap.size + 1) k φ
  bel : Below w.heap.size w W
section
variable {s : ByteArray} {w W W' : World} {q k : Nat} {ps : List Pt} {φ : ByteArray → Option Bool} {vp : Value}
theorem SpW.call (h : SpW s w q k ps φ vp W) (hb : Below W.heap.size W W') : SpW s w q k ps φ vp W' := ⟨h.own.call hb, h.scn.call hb, h.map.call hb, BelowOn h.bel hb⟩
theorem SpW.sc (h : SpW s w q k ps φ vp W) {q' : Nat} (ho : Only (fun i => i = w.heap.size) W W') (hs : Scn W' w.heap.size s q') : SpW s w q' k ps φ vp W' :=
  ⟨h.own.keep ho.size (fun j hj hjl => ho.block j hjl (fun e => by have e : j = w.heap.size := e; omega)), hs, h.map.block (ho.block _ h.map.lt (fun e => by have e : w.heap.size + 1 = w.heap.size := e; omega)), only_sc ho h.bel (Nat.le_refl _)⟩
theorem SpW.put (h : SpW s w q k ps φ vp W) {k' : Nat} {φ' : ByteArray → Option Bool} (hg : W.grownBy W' (some (w.heap.size + 1))) (hm : MapAt 9 Value.string Value.bool W' (w.heap.size + 1) k' φ') : SpW s w q k' ps φ' vp W' :=
  ⟨h.own.other hg (by omega), h.scn.same (hg.block _ h.scn.lt (fun e => by injection e with e; omega)), hm, h.bel.grown hg h.bel.size (fun j hj => by injection hj with hj; omega)⟩
theorem SpW.app (h : SpW s w q k ps φ vp W) {ps' : List Pt} {vp' : Value} (hg : W.grownBy W' vp.ownBlock) (ho : OwnL 59 3 penc (w.heap.size + 2) ps' vp' W') : SpW s w q k ps' φ vp' W' :=
  ⟨ho, h.scn.same (hg.block _ h.scn.lt (fun e => by have := (h.own.lt _ e.symm).1; omega)), h.map.block (hg.block _ h.map.lt (fun e => by have := (h.own.lt _ e.symm).1; omega)), h.bel.grown hg h.bel.size (fun j hj => by have := (h.own.lt _ hj).1; omega)⟩
end
theorem decP_at {el : ElF} (h : ElOk el) : ∀ m f cs p d s, (decP el m f cs p d s).2.2.1 ≤ p + s.length := by
  intro m
  induction m with
  | zero => intro f cs p d s; exact Nat.zero_le _
  | succ m ih =>
    intro f cs p d s
    unfold decP
    by_cases hs : s = []
    · rw [if_pos hs]; exact Nat.zero_le _
    · rw [if_neg hs]
      cases he : el s with
      | none => show p ≤ _; omega
      | some y =>
        obtain ⟨o, k⟩ := y
        have hk := h.take s o k he
        cases o with
        | none =>
          have := ih f cs (p + k) d (s.drop k)
          rw [List.length_drop] at this
          exact Nat.le_trans this (by omega)
        | some x =>
          dsimp only
          split
          · show p ≤ _; omega
          · have := ih (normS f x) (cs ++ [d]) (p + k) (p + k) (s.drop k)
            rw [List.length_drop] at this
            exact Nat.le_trans this (by omega)
theorem dec_at {el : ElF} (h : ElOk el) (s : List UInt8) : (dec el s).2.2.1 ≤ s.length := by
  have := decP_at h s.length [] [] 0 0 s
  rw [Nat.zero_add] at this; exact this
theorem hasK_app (ps : List Pt) (a b : Pt) (key : ByteArray) (ha : a.u = false) (hb : b.u = true) : hasK (ps ++ [a, b]) key = (hasK ps key || decide (b.key = key)) := by
  unfold hasK; rw [List.any_append]; simp [ha, hb]
set_option maxHeartbeats 3200000 in
theorem split_any (s : ByteArray) (w : World) (hs : s.size ≤ 999999999999) : Calls Tryz.prog 7 #[.string s] w (EndS (splR s) w) := by
  by_cases hbig : 65536 < s.size
  case pos =>
    have hR : splR s = ([], 0, 3) := by unfold splR; rw [if_pos hbig]
    rw [hR]
    have q : (65536 : Int) < (s.size : Int) := by omega
    go_enter Tryz.func7, Tryz.ntmps7
    go_wp2_with fail
    go_ret3
    exact ⟨none, 0, rfl, Nat.le_refl _, Nat.zero_le _, Pts.nil _ _, Below.refl _ _⟩
  obtain ⟨R, hR⟩ : ∃ R, splR s = R := ⟨_, rfl⟩
  have hR0 : spl s [] 0 0 = R := by rw [← hR]; unfold splR; rw [if_neg hbig]
  rw [hR]
  have hmo := fun p W (h : Scn W w.heap.size s p) (hp : p ≤ s.size) => more_any w.heap.size p s W h (by omega) (by omega)
  have hsk := fun p W (h : Scn W w.heap.size s p) (hp : p ≤ s.size) => skipun_any w.heap.size p s W h (by omega) hp
  simp only [skip_line] at hsk
  have hrk := fun p W (h : Scn W w.heap.size s p) (hp : p ≤ s.size) => readkey_any w.heap.size p s W h (by omega) hp
  have hrr := fun p W (h : Scn W w.heap.size s p) (hp : p ≤ s.size) => readraw_any w.heap.size p s W h hs hp
  have hse := fun p W (h : Scn W w.heap.size s p) (hp : p ≤ s.size) => skipend_any w.heap.size p s W h (by omega) hp
  have hde := fun (u : ByteArray) W (h : u.size ≤ s.size) => decode_any u W (by omega)
  have HMO := Lib.hid hmo; have HSK := Lib.hid hsk; have HRK := Lib.hid hrk; have HRR := Lib.hid hrr; have HSE := Lib.hid hse; have HDE := Lib.hid hde
  have q0 : (s.size : Int) ≤ 65536 := by omega
  have hrel : SpR s R w 0 0 0 [] (fun _ => none) (.slice none 0 0) ((w.alloc (.cells #[.string s, .int .i64 0] 53)).alloc (.map #[] 0)) :=
    ⟨OwnL.nil _ _, (Scn.new w s 0).call (blw (Below.refl _ _) _), (by have := MapAt.made (kt := 9) (kv := Value.string) (enc := Value.bool) (w.alloc (.cells #[.string s, .int .i64 0] 53)); simpa using this), hR0, fun key => rfl, Nat.le_refl _, Nat.le_refl _, Nat.zero_le _, Nat.zero_le _, Nat.zero_le _, blw (blw (Below.refl _ _) _) _⟩
  have HREL := Lib.hid hrel
  clear hmo hsk hrk hrr hse hde hR hR0 hrel
  go_enter Tryz.func7, Tryz.ntmps7
  have hmk := fun W => mk_map W
  go_wp2_with fail
  clear hmk
  go_loopw [2, 7] (fun vp va wr => ∃ p a k ps φ, va = .int .i64 (a : Nat) ∧ SpR s R w p a k ps φ vp wr) (fun vp va wr => s.size - (intOf ((wr.cell? ⟨w.heap.size, 1, none⟩).getD (.int .i64 0))).toNat)
  case atStart => exact ⟨0, 0, 0, [], _, rfl, HREL.out⟩
  case round =>
    obtain ⟨p, a, k, ps, φ, rfl, hr⟩ := hrel
    have hm0 := hr.scn.cells.2.1
    have hle := hr.le
    have hcell : ∀ (W : World) (r : Nat), Scn W w.heap.size s r → W.cell? ⟨w.heap.size, 1, none⟩ = some (.int .i64 (r : Int)) := fun W r h => h.cells.2.1
    obtain ⟨pv, cv, rfl, hv1, hv2, _⟩ := hr.own.pts
    have HR := Lib.hid hr
    clear hr HREL
    by_cases hlt : p < s.size
    case neg =>
      obtain rfl : p = s.size := by omega
      have hd := HR.out.spl
      rw [spl_end s ps a _ (Nat.le_refl _)] at hd
      have HD := Lib.hid hd
      have HM := Lib.hid (HMO.out s.size wr HR.out.scn (Nat.le_refl _))
      have q : decide (s.size < s.size) = false := decide_eq_false (by omega)
      rw [q] at HM
      have ha := HR.out.from_
      have hfew := HR.out.few
      clear hd q hm0
      have a0 : (0 : Int) ≤ (a : Int) := by omega
      have a1 : (a : Int) ≤ (s.size : Int) := by omega
      go_wp2_with fail
      refine HM.out.mono ?_; rintro e w2 ⟨rfl, hb⟩
      have hB2 := BelowOn HR.out.bel hb
      have hown := (HR.out.own.call hb).call (blw (Below.refl _ w2) (.cells #[.bool false, .string ByteArray.empty, .string (s.extract a s.size)] 59))
      have hB3 := blw hB2 (.cells #[.bool false, .string ByteArray.empty, .string (s.extract a s.size)] 59)
      have hsz : w.heap.size + 2 ≤ (w2.alloc (.cells #[.bool false, .string ByteArray.empty, .string (s.extract a s.size)] 59)).heap.size := by have := HR.out.map.lt; have := hb.size; simp; omega
      have HOW := Lib.hid hown
      clear hown
      go_wp2_with (at_builtin; refine wpl_appm eP _ rfl _ _ rfl (w.heap.size + 2) ps _ rfl HOW.out hsz [skel s a s.size] 1 w2.heap.size _ rfl (by omega) rfl (heap_alloc_new w2 _) rfl (by omega) (by unfold maxLen; omega) ?_; intro g cap w4 hown4 hgr4)
      (try simp only [Exit.inBlock, Exit.then])
      go_ret3
      obtain ⟨p4, c4, hv4, j1, j2, hP4⟩ := hown4.pts
      injection hv4 with e1 e2 e3
      refine ⟨some ⟨g, 0, none⟩, cap, by rw [← HD.out]; simp, by rw [← HD.out]; simpa [e3] using j1, by rw [e3]; exact j2, by rw [← HD.out, e1]; exact hP4, hB3.grown hgr4 hB3.size (fun k hk => by have := (HOW.out.lt k hk).1; omega)⟩
    have HM := Lib.hid (HMO.out p wr HR.out.scn hle)
    have q : decide (p < s.size) = true := decide_eq_true hlt
    rw [q] at HM
    clear q
    cases hskp : skipL (restD s p) with
    | true =>
      have hd := HR.out.spl
      rw [spl_skip s ps a p hlt hskp, ← spl_min] at hd
      have HD := Lib.hid hd
      have HSP := HSK.out p
      rw [hskp] at HSP
      have HSP2 := Lib.hid HSP
      clear hd HSP hskp
      go_wp2_with fail
      refine HM.out.mono ?_; rintro e w2 ⟨rfl, hb⟩
      go_wp2_with fail
      refine (HSP2.out w2 (HR.out.scn.call hb) hle).mono ?_; rintro e w3 ⟨rfl, hS3, hO3⟩
      have hn : ∀ i, (fun i => i = w.heap.size) i → i < w.heap.size + 2 := fun i hi => by have hi : i = w.heap.size := hi; omega
      have hB3 := only_sc hO3 (BelowOn HR.out.bel hb) (Nat.le_refl _)
      have hrel : SpR s R w _ a k ps φ _ w3 :=
        ⟨(HR.out.own.call hb).keep hO3.size (fun j hj hjl => hO3.block j hjl (fun e => by have e : j = w.heap.size := e; omega)), hS3, (HR.out.map.call hb).block (hO3.block _ (HR.out.map.call hb).lt (fun e => by have e : w.heap.size + 1 = w.heap.size := e; omega)), HD.out, HR.out.has, HR.out.cnt, (by have := HR.out.few; have := HR.out.le; split <;> omega), (by split <;> omega), HR.out.from_, (by have := HR.out.fa; split <;> omega), hB3⟩
      have HREL := Lib.hid hrel
      clear hrel hB3 hS3 hO3 hn
      go_wp2_with fail
      go_roundw
      case rel => exact ⟨_, a, k, ps, φ, rfl, HREL.out⟩
      case measure =>
        rw [hm0, hcell _ _ HREL.out.scn]
        simp [intOf]; omega
    | false =>
      have HSP := HSK.out p
      rw [hskp] at HSP
      have HSP2 := Lib.hid HSP
      have HSF := Lib.hid hskp
      clear HSP hskp
      go_wp2_with fail
      refine HM.out.mono ?_; rintro e w2 ⟨rfl, hb⟩
      go_wp2_with fail
      refine (HSP2.out w2 (HR.out.scn.call hb) hle).mono ?_; rintro e w3 ⟨rfl, hS3, hO3⟩
      have hw3 : SpW s w p k ps φ (.slice pv ps.length cv) w3 := (SpW.call ⟨HR.out.own, HR.out.scn, HR.out.map, HR.out.bel⟩ hb).sc hO3 hS3
      have HW3 := Lib.hid hw3
      have x1 := hw3.scn.cells.2.1
      clear hS3 hO3 hw3
      cases hkk : keyK (restD s p) with
      | false =>
        have hd := HR.out.spl
        rw [spl_nokey s ps a p hlt HSF.out hkk] at hd
        have HD := Lib.hid hd
        have HRP := HRK.out p
        unfold EndK at HRP
        rw [hkk] at HRP
        have HRP2 := Lib.hid HRP
        clear hd HRP hkk
        go_wp2_with fail
        refine (HRP2.out w3 HW3.out.scn hle).mono ?_; rintro e w4 ⟨rfl, hS4, hO4⟩
        have hw4 := HW3.out.sc hO4 hS4
        clear hS4 hO4
        go_wp2_with fail
        (try simp only [Exit.inBlock, Exit.then])
        go_ret3
        exact ⟨none, 0, by rw [← HD.out]; rfl, by rw [← HD.out]; exact Nat.le_refl _, Nat.zero_le _, by rw [← HD.out]; exact Pts.nil _ _, hw4.bel⟩
      | true =>
        have HRP := HRK.out p
        unfold EndK at HRP
        rw [hkk] at HRP
        simp only [if_true] at HRP
        have HRP2 := Lib.hid HRP
        have HKK := Lib.hid hkk
        have hin := key_in s p hkk
        have hgt := rawAt_gt s p
        have hks : (keyAt s p).size ≤ maxLen := by
          have := upto_le 61 (restD s p); rw [restD_len] at this
          unfold keyAt maxLen; rw [bsL_size]; omega
        have hkey := Go.WideMaps.keyOf_string_mk (P := Tryz.prog) Tryz.underlying9 hks
        have hφ := HR.out.has (keyAt s p)
        have hsu := fun h1 => spl_twice s ps a p hlt HSF.out hkk h1
        have hsb := fun h1 h2 => spl_bad s ps a p hlt HSF.out hkk h1 h2
        have hsn := fun h1 h2 => spl_unit s ps a p hlt HSF.out hkk h1 h2
        have hhas := fun key => hasK_app ps (skel s a (rawAt s p)) ⟨true, keyAt s p, s.extract (rawAt s p) (rawAt s p + rawN s p)⟩ key rfl rfl
        have hrr := HRR.out (rawAt s p)
        have hrn := rawN_le s p
        have hdat : (dec elR (rawD s p)).2.2.1 ≤ rawN s p := Nat.le_trans (dec_at elR_ok _) (by unfold rawD; rw [List.length_take]; exact Nat.min_le_left _ _)
        have hrawd : (s.extract (rawAt s p) (rawAt s p + rawN s p)).data.toList = rawD s p := by
          unfold rawD restD
          rw [show (s.extract (rawAt s p) (rawAt s p + rawN s p)).data.toList = (s.data.toList.drop (rawAt s p)).take (rawAt s p + rawN s p - rawAt s p) from by simp [ByteArray.extract, ByteArray.copySlice]]
          congr 1; omega
        have hdec := HDE.out (s.extract (rawAt s p) (rawAt s p + rawN s p))
        rw [hrawd] at hdec
        change ∀ W, _ → _ → Calls Tryz.prog 21 #[.pointer (some ⟨w.heap.size, 0, none⟩)] W fun e w' => e = .returned (.string (s.extract (rawAt s p) (rawAt s p + rawN s p))) ∧ Scn w' w.heap.size s (rawAt s p + rawN s p) ∧ Only (fun i => i = w.heap.size) W w' at hrr
        clear HRP hkk hrawd
        generalize keyAt s p = K at *
        generalize rawAt s p = A at *
        generalize rawN s p = N at *
        generalize dec elR (rawD s p) = D at *
        have HRRw := Lib.hid hrr; have HDC := Lib.hid hdec; have HHS := Lib.hid hhas; have HKY := Lib.hid hkey
        clear hrr hdec hhas
        have hAN : A + N ≤ s.size := by omega
        cases hh : hasK ps K with
        | true =>
          have hd := HR.out.spl
          rw [hsu hh] at hd
          have HD := Lib.hid hd
          rw [hh, if_pos rfl] at hφ
          have hpk : pickE Value.bool (.bool false) (φ K) = .bool true := by rw [hφ]; rfl
          have HPK := Lib.hid hpk
          clear hd hsu hsb hsn hh hφ hpk hrn hkey
          go_wp2_with fail
          refine (HRP2.out w3 HW3.out.scn hle).mono ?_; rintro e w4 ⟨rfl, hS4, hO4⟩
          have hw4 := HW3.out.sc hO4 hS4
          have HW4 := Lib.hid hw4
          clear hS4 hO4 hw4
          go_wp2_with (at_lookup; refine wpl_look rfl _ _ 54 rfl k9 Tryz.underlying54 _ (zeroB _) (w.heap.size + 1) rfl HW4.out.map K rfl HKY.out ?_; rw [HPK.out])
          (try simp only [Exit.inBlock, Exit.then])
          go_ret3
          exact ⟨none, 0, by rw [← HD.out]; rfl, by rw [← HD.out]; exact Nat.le_refl _, Nat.zero_le _, by rw [← HD.out]; exact Pts.nil _ _, HW4.out.bel⟩
        | false =>
          rw [hh, if_neg (by simp)] at hφ
          have hpk : pickE Value.bool (.bool false) (φ K) = .bool false := by rw [hφ]; rfl
          have HPK := Lib.hid hpk; have HHH := Lib.hid hh
          clear hsu hh hpk hφ hkey
          have hcn := HR.out.cnt
          have hfw := HR.out.few
          have ha := HR.out.from_
          go_wp2_with fail
          refine (HRP2.out w3 HW3.out.scn hle).mono ?_; rintro e w4 ⟨rfl, hS4, hO4⟩
          have hw4 := HW3.out.sc hO4 hS4
          have HW4 := Lib.hid hw4
          clear hS4 hO4 hw4 x1
          go_upto_region 14 with (at_lookup; refine wpl_look rfl _ _ 54 rfl k9 Tryz.underlying54 _ (zeroB _) (w.heap.size + 1) rfl HW4.out.map K rfl HKY.out ?_; rw [HPK.out])
          go_upto_region 15 with (at_mapUpdate; refine wpl_put rfl _ _ _ 54 rfl k9 vS_inj Tryz.underlying54 (w.heap.size + 1) rfl HW4.out.map (by unfold maxLen; omega) K true rfl rfl HKY.out ?_; intro w5 MT5 hg5)
          have hw5 := HW4.out.put hg5 MT5
          have HW5 := Lib.hid hw5
          have x1 := hw5.scn.cells.2.1
          clear hw5 hg5 MT5
          go_wp2_with fail
          refine (HRRw.out w5 HW5.out.scn hin).mono ?_; rintro e w6 ⟨rfl, hS6, hO6⟩
          have hw6 := HW5.out.sc hO6 hS6
          have HW6 := Lib.hid hw6
          clear hS6 hO6 hw6 x1
          go_wp2_with fail
          refine (HDC.out w6 (by simp; omega)).mono ?_
          rintro e w7 ⟨p7, c7, rfl, _, _, _, hb7⟩
          have hw7 := HW6.out.call hb7
          have HW7 := Lib.hid hw7
          clear hb7 hw7
          by_cases hz : D.2.2.2 = 0
          case neg =>
            have hd := HR.out.spl
            rw [hsb HHH.out hz] at hd
            have HD := Lib.hid hd
            have qz : (D.2.2.2 != 0) = true := by simpa using hz
            have d0 : (D.2.2.1 : Int) ≤ 65536 := by omega
            have d1 : (A : Int) ≤ 65536 := by omega
            clear hd hsb hsn hz
            go_wp2_with fail
            (try simp only [Exit.inBlock, Exit.then])
            go_ret3
            exact ⟨none, 0, by rw [← HD.out]; rfl, by rw [← HD.out]; exact Nat.le_refl _, Nat.zero_le _, by rw [← HD.out]; exact Pts.nil _ _, HW7.out.bel⟩
          have hd := HR.out.spl
          rw [hsn HHH.out hz, ← spl_min] at hd
          have HD := Lib.hid hd
          have qz : (D.2.2.2 != 0) = false := by simpa using hz
          have x1 := HW7.out.scn.cells.2.1
          have hown := HW7.out.call (blw (Below.refl _ w7) (.cells #[.bool false, .string ByteArray.empty, .string (s.extract a A), .bool true, .string K, .string (s.extract A (A + N))] 59))
          have HOW := Lib.hid hown
          have hsz : w.heap.size + 2 ≤ (w7.alloc (.cells #[.bool false, .string ByteArray.empty, .string (s.extract a A), .bool true, .string K, .string (s.extract A (A + N))] 59)).heap.size := by have := HW7.out.map.lt; simp; omega
          have a0 : (0 : Int) ≤ (a : Int) := by omega
          have a1 : (a : Int) ≤ (A : Int) := by have := HR.out.fa; omega
          have a2 : (A : Int) ≤ (s.size : Int) := by omega
          clear hd hsb hsn hz hown
          go_upto_region 21 with (at_builtin; refine wpl_appm eP _ rfl _ _ rfl (w.heap.size + 2) ps _ rfl HOW.out.own hsz [skel s a A, ⟨true, K, s.extract A (A + N)⟩] 2 w7.heap.size _ rfl (by omega) rfl (heap_alloc_new w7 _) rfl (by omega) (by unfold maxLen; omega) ?_; intro g cap w8 hown8 hgr8)
          have hw8 := HOW.out.app hgr8 hown8
          have HW8 := Lib.hid hw8
          clear hown8 hgr8 hw8 x1 hsz
          have x1 := HW8.out.scn.cells.2.1
          go_wp2_with fail
          refine (HSE.out (A + N) w8 HW8.out.scn hAN).mono ?_
          rintro e w9 ⟨rfl, hS9, hO9⟩
          have hw9 := HW8.out.sc hO9 hS9
          have hrel : SpR s R w (min (A + N + 1) s.size) (A + N) (k + 1) (ps ++ [skel s a A, ⟨true, K, s.extract A (A + N)⟩]) _ _ w9 :=
            ⟨hw9.own, hw9.scn, hw9.map, HD.out, (fun key => by
              rw [HHS.out key]
              by_cases e : key = K
              · rw [if_pos e, e, decide_eq_true rfl, Bool.or_true]; rfl
              · rw [if_neg e, HR.out.has key, decide_eq_false (fun h => e h.symm), Bool.or_false]), (by rw [List.length_append]; simp; omega), (by rw [List.length_append]; simp; omega), Nat.min_le_right _ _, hAN, (by omega), hw9.bel⟩
          have HREL := Lib.hid hrel
          clear hrel hw9 hS9 hO9 x1
          go_wp2_with fail
          go_roundw
          case rel => exact ⟨_, A + N, _, _, _, by go_num, HREL.out⟩
          case measure =>
            rw [hm0, hcell _ _ HREL.out.scn]
            simp [intOf]; omega
end Go.Proofs.YtdbbjhbkhimbfaaGreatDoor
namespace Go.Proofs.YtdbbjhbkhimbfaaGreatDoor
open Go.ChangeShapes Go.WideShapes Go.ChangeAt Go.RowKit
set_option linter.unusedVariables false
set_option linter.unusedSimpArgs false
set_option maxRecDepth 100000

def xA : ByteArray := ⟨#[120, 92, 110, 121, 123, 110, 125]⟩
def xB : ByteArray := ⟨#[97, 92, 10, 32, 32, 98]⟩
def xC : ByteArray := ⟨#[97, 61, 10, 97, 61]⟩
theorem decA : dec elR xA.data.toList = ([⟨1, ⟨#[120, 10, 121]⟩, 0⟩, ⟨5, ⟨#[110]⟩, 0⟩], [0, 1, 3, 4, 7], 0, 0) := by kernel_rfl
theorem decB : dec elR xB.data.toList = ([⟨1, ⟨#[97, 98]⟩, 0⟩], [0, 1, 6], 0, 0) := by kernel_rfl
theorem splC : splR xC = ([], 3, 5) := by kernel_rfl
theorem nums3 (w : World) : Ones (w.alloc (.cells #[.int .i64 0, .int .i64 1, .int .i64 6] 3)) (Value.int .i64) (some ⟨w.heap.size, 0, none⟩) [0, 1, 6] := fun _ => ⟨_, rfl, by simp, fun i hi => by
  have hi : i < 3 := hi
  have h := heap_alloc_new w (.cells #[.int .i64 0, .int .i64 1, .int .i64 6] 3)
  have h3 : i = 0 ∨ i = 1 ∨ i = 2 := by omega
  rcases h3 with rfl | rfl | rfl
  · exact (Lib.cell_of_heap h 0).trans rfl
  · exact (Lib.cell_of_heap h 1).trans rfl
  · exact (Lib.cell_of_heap h 2).trans rfl⟩
set_option maxHeartbeats 1600000 in
theorem known_any (w : World) : Calls Tryz.prog 4 #[] w fun e w' => e = .returned (.bool true) ∧ Below w.heap.size w w' := by
  have hA := fun W => decode_any xA W (by decide)
  have hB := fun W => cuts_any xB W (by decide)
  have hC := fun W => split_any xC W (by decide)
  rw [decA] at hA
  rw [decB] at hB
  rw [splC] at hC
  unfold EndD at hA
  unfold EndC at hB
  unfold EndS at hC
  dsimp only at hA hB hC
  have hI := fun p c W (i : Ones W (Value.int .i64) p (nI [0, 1, 6])) (a : (nI [0, 1, 6]).length ≤ c) (b : c ≤ maxLen) q (j : Ones W (Value.int .i64) q [0, 1, 6]) => sameints_any p q c 3 (nI [0, 1, 6]) [0, 1, 6] W i j a (by decide) b (by decide)
  rw [show decide (nI [0, 1, 6] = [0, 1, 6]) = true from by decide] at hI
  have HA := Lib.hid hA; have HB := Lib.hid hB; have HC := Lib.hid hC; have HI := Lib.hid hI
  clear hA hB hC hI
  go_enter Tryz.func4, Tryz.ntmps4
  go_wp2_with fail
  refine (HA.out _).mono ?_; rintro e w1 ⟨pA, cA, rfl, a1, a2, iA, hb1⟩
  go_wp2_with fail
  refine (HB.out _).mono ?_; rintro e w2 ⟨pB, cB, rfl, b1, b2, iB, hb2⟩
  go_wp2_with fail
  refine (HC.out _).mono ?_; rintro e w3 ⟨pC, cC, rfl, c1, c2, iC, hb3⟩
  have iA3 := (iA.call hb2).call hb3
  have iB3 := (iB.call hb3).call (blw (Below.refl _ w3) (.cells #[.int .i64 0, .int .i64 1, .int .i64 6] 3))
  obtain ⟨a, rfl, hlt, k0, k1, k2⟩ := iA3.row 0 (by decide)
  have k1' : w3.cell? ⟨a.block, a.off + 1, none⟩ = some (.string ⟨#[120, 10, 121]⟩) := by
    have := k1
    rw [add_next _ _ _ (by omega)] at this
    unfold Addr.add at this; simpa using this
  clear k0 k1 k2
  have hbl := BelowOn (BelowOn hb1 hb2) hb3
  have hn3 := nums3 w3
  go_wp2_with fail
  refine (HI.out pB cB _ iB3 b1 b2 _ hn3).mono ?_; rintro e w4 ⟨rfl, hb4⟩
  have hb5 := BelowOn (blw hbl (.cells #[.int .i64 0, .int .i64 1, .int .i64 6] 3)) hb4
  go_wp2_with fail
  go_ret
  exact ⟨rfl, hb5⟩
end Go.Proofs.YtdbbjhbkhimbfaaGreatDoor
