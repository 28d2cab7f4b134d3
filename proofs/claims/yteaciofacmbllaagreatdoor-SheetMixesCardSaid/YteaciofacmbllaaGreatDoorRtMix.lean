/- Plain mathematics of mixtures of raw pieces and encoded slices. The walk of SheetMixes. The law SheetMixes holds for every input. -/
import Derived.Test.YteaciofacmbllaaGreatDoorRtU
import Derived.Test.YteaciofacmbllaaGreatDoorRtA
import Derived.Test.YteaciofacmbllaaGreatDoorSam
import Derived.Test.YteaciofacmbllaaGreatDoorPrt
import Derived.Deep.Cut
import Derived.Deep.DeepCutAuto
import Derived.Test.YteaciofacmbllaaGreatDoorRows
import Derived.WalkKit
import Derived.ProofKit
import Derived.OpenShut
import Derived.ChangeOld
import Derived.Below
import Derived.Carry
import Derived.SizedLaws
import Derived.Test.YteaciofacmbllaaGreatDoorCards
import Derived.Test.YteaciofacmbllaaGreatDoorTie
import Derived.Stop.Joined
import Derived.SevenTiedAt
import Derived.Lay
import Derived.MakeChecks
import Derived.Test.YteaciofacmbllaaGreatDoorArf
namespace Go.Proofs.YteaciofacmbllaaGreatDoor
set_option linter.unusedVariables false
open Go.Lib

/-- Where a position begins. -/
def offW (ws : Ws) (k : Nat) : Nat := (flatW (ws.take k)).length
theorem offW_zero (ws : Ws) : offW ws 0 = 0 := rfl
theorem offW_all (ws : Ws) : offW ws ws.length = (flatW ws).length := by unfold offW; rw [List.take_length]
theorem take_split {α : Type} (l : List α) (a b : Nat) (h : a ≤ b) : l.take b = l.take a ++ (l.take b).drop a := by
  have h1 := List.take_append_drop a (l.take b)
  rw [List.take_take, Nat.min_eq_left h] at h1
  exact h1.symm
theorem offW_step (ws : Ws) (a b : Nat) (h : a ≤ b) : offW ws b = offW ws a + (flatW ((ws.take b).drop a)).length := by
  unfold offW
  conv => lhs; rw [take_split ws a b h]
  rw [flatW_append, List.length_append]
theorem offW_le (ws : Ws) (a b : Nat) (h : a ≤ b) : offW ws a ≤ offW ws b := by rw [offW_step ws a b h]; omega
theorem offW_end (ws : Ws) (b : Nat) : offW ws b ≤ (flatW ws).length := by
  rcases Nat.le_total b ws.length with h | h
  · rw [← offW_all]; exact offW_le ws b _ h
  · unfold offW; rw [List.take_of_length_le h]; exact Nat.le_refl _
theorem flat_cut (ws : Ws) (a b : Nat) (h : a ≤ b) : ((flatW ws).drop (offW ws a)).take (offW ws b - offW ws a) = flatW ((ws.take b).drop a) := by
  have h1 : flatW ws = flatW (ws.take a) ++ (flatW ((ws.take b).drop a) ++ flatW (ws.drop b)) := by
    rw [← flatW_append, ← flatW_append, ← List.append_assoc, ← take_split ws a b h, List.take_append_drop]
  have h2 := offW_step ws a b h
  rw [h1]
  show ((flatW (ws.take a) ++ _).drop (flatW (ws.take a)).length).take _ = _
  rw [List.drop_left, show offW ws b - offW ws a = (flatW ((ws.take b).drop a)).length by omega, List.take_left]
theorem offs_int (ws : Ws) (i : Nat) (h : i ≤ ws.length) : ∃ h' : i < (nI (offs 0 ws)).length, (nI (offs 0 ws))[i]'h' = (offW ws i : Int) := by
  have hl : i < (nI (offs 0 ws)).length := by rw [nI_len, offs_len]; omega
  refine ⟨hl, ?_⟩
  have := offs_get ws 0 i h
  rw [Nat.zero_add] at this
  obtain ⟨h1, h2⟩ := List.getElem?_eq_some_iff.1 this
  have h3 : (nI (offs 0 ws))[i]? = some ((offW ws i : Nat) : Int) := by
    show ((offs 0 ws).map _)[i]? = _
    rw [List.getElem?_map, this]; rfl
  rw [List.getElem?_eq_getElem hl] at h3
  exact Option.some.inj h3
/-- What has been put together so far: words with the first positions' items. -/
def MixR (F : List It) (ws : Ws) (a : Nat) (v : List UInt8) : Prop := ∃ vs : Ws, v = flatW vs ∧ itW vs = (expI F).take a ∧ AllW elS vs ∧ v.length ≤ offW ws a + 3000 * a
theorem MixR.zero (F : List It) (ws : Ws) : MixR F ws 0 [] := ⟨[], rfl, rfl, AllW.nil _, Nat.zero_le _⟩
theorem AllW.append {el : ElF} {a b : Ws} (ha : AllW el a) (hb : AllW el b) : AllW el (a ++ b) := fun w hw => by
  rcases List.mem_append.1 hw with h | h
  · exact ha w h
  · exact hb w h
theorem itW_append (a b : Ws) : itW (a ++ b) = itW a ++ itW b := by unfold itW; rw [List.map_append]
theorem e1_len {xs : List It} (h : ∀ x ∈ xs, x.t.size ≤ 1024) : (xs.flatMap e1S).length ≤ 3000 * xs.length := by
  induction xs with
  | nil => exact Nat.zero_le _
  | cons x t ih =>
    rw [List.flatMap_cons, List.length_append, List.length_cons]
    have := e1S_len (h x (List.mem_cons_self ..))
    have := ih (fun y hy => h y (List.mem_cons_of_mem _ hy))
    omega
section
variable {F : List It} {ws : Ws} {a b : Nat} {v : List UInt8}
theorem cut_items (h1 : a ≤ b) : (expI F).take a ++ ((expI F).drop a).take (b - a) = (expI F).take b := by
  rw [take_split (expI F) a b h1, List.drop_take]
theorem MixR.enc (h : MixR F ws a v) (hv : valE F = 0) (ht : NoT F) (h1 : a ≤ b) (h2 : b ≤ lenI F) : MixR F ws b (v ++ encS (slI F 0 a b)) := by
  obtain ⟨vs, e1, e2, e3, e4⟩ := h
  have hx := exp_cut F a b h1 h2
  have hfl := exp_flat (valE_zero hv).2.2 ht
  have hmem : ∀ x ∈ ((expI F).drop a).take (b - a), One x ∧ Flat x := fun x hx => hfl x (List.mem_of_mem_drop (List.mem_of_mem_take hx))
  have he : encS (slI F 0 a b) = flatW (wsG e1S (((expI F).drop a).take (b - a))) := by
    rw [wsG_flat, ← encS_exp]; unfold encG; rw [hx]
  refine ⟨vs ++ wsG e1S (((expI F).drop a).take (b - a)), ?_, ?_, e3.append (ws_e1 _ hmem), ?_⟩
  · rw [flatW_append, ← e1, he]
  · rw [itW_append, e2, wsG_it, cut_items h1]
  · have h3 := e1_len (xs := ((expI F).drop a).take (b - a)) (fun x hx => (one_small (hmem x hx).1).1)
    have h4 : (((expI F).drop a).take (b - a)).length ≤ b - a := by rw [List.length_take]; omega
    have h5 := offW_le ws a b h1
    rw [List.length_append, he, wsG_flat]
    have h6 : 3000 * (((expI F).drop a).take (b - a)).length ≤ 3000 * (b - a) := Nat.mul_le_mul_left _ h4
    omega
theorem MixR.raw (h : MixR F ws a v) (hi : itW ws = expI F) (hw : AllW elS ws) (h1 : a ≤ b) : MixR F ws b (v ++ ((flatW ws).drop (offW ws a)).take (offW ws b - offW ws a)) := by
  obtain ⟨vs, e1, e2, e3, e4⟩ := h
  rw [flat_cut ws a b h1]
  have h2 := offW_step ws a b h1
  refine ⟨vs ++ (ws.take b).drop a, ?_, ?_, e3.append (fun w hw' => hw w (List.mem_of_mem_take (List.mem_of_mem_drop hw'))), ?_⟩
  · rw [flatW_append, ← e1]
  · rw [itW_append, e2, ← cut_items h1, ← hi]
    unfold itW
    rw [List.map_drop, List.map_take, List.drop_take]
  · rw [List.length_append]; omega
theorem MixR.all (h : MixR F ws (lenI F) v) (hv : valE F = 0) : ∃ cs, dec elS v = (F, cs, 0, 0) := by
  obtain ⟨vs, e1, e2, e3, e4⟩ := h
  obtain ⟨h1, h2, h3⟩ := valE_zero hv
  have hl : itW vs = expI F := by rw [e2, List.take_of_length_le (by rw [expI_len]; exact Nat.le_refl _)]
  have hlen : vs.length = lenI F := by rw [← expI_len, ← hl]; unfold itW; rw [List.length_map]
  have := mixed elS_ok e3 (Tail.nil elS) (f := F) (by rw [hl, norm_exp]; exact norm_valid F h3) h1 (by rw [hlen]; exact h2)
  rw [List.append_nil] at this
  exact ⟨_, by rw [e1]; exact this⟩
end
end Go.Proofs.YteaciofacmbllaaGreatDoor
namespace Go.Proofs.YteaciofacmbllaaGreatDoor
open Go.ChangeShapes Go.WideShapes Go.ChangeAt Go.RowKit
set_option linter.unusedVariables false
set_option linter.unusedSimpArgs false
set_option maxRecDepth 100000

theorem ext_of (raw : List UInt8) (a b : Nat) (h : a ≤ b) : (bsL raw).extract a b = bsL ((raw.drop a).take (b - a)) := by
  rw [← bsL_of ((bsL raw).extract a b)]
  congr 1
  rw [show ((bsL raw).extract a b).data.toList = ((bsL raw).data.toList.drop a).take (b - a) from by simp [ByteArray.extract, ByteArray.copySlice], bsL_list]
set_option maxHeartbeats 12800000 in
theorem mixes_any (p0 : Option Addr) (c0 : Nat) (a0 : List Int) (p1 : Option Addr) (c1 : Nat) (a1 : List Int) (p2 : Option Addr) (c2 : Nat) (a2 : List Int) (a3 : Int) (w : World) (r0 : Ones w (Value.int .i64) p0 a0) (o0 : ∀ i (h : i < a0.length), (Lit.int .i64 (a0[i]'h)).wf = true) (n0 : a0.length ≤ c0) (m0 : c0 ≤ maxLen)
    (r1 : Ones w (Value.int .i64) p1 a1) (o1 : ∀ i (h : i < a1.length), (Lit.int .i64 (a1[i]'h)).wf = true) (n1 : a1.length ≤ c1) (m1 : c1 ≤ maxLen) (r2 : Ones w (Value.int .i64) p2 a2) (o2 : ∀ i (h : i < a2.length), (Lit.int .i64 (a2[i]'h)).wf = true) (n2 : a2.length ≤ c2) (m2 : c2 ≤ maxLen) (w3 : (Lit.int .i64 a3).wf = true) :
    Calls Tryz.prog 3 #[.slice p0 a0.length c0, .slice p1 a1.length c1, .slice p2 a2.length c2, .int .i64 a3] w fun e w' => e = .returned (.bool true) ∧ Below w.heap.size w w' := by
  have HK := Lib.hid known_any
  by_cases l0 : a0.length ≤ 100
  case neg =>
    have z0 : 100 < a0.length := by omega
    clear r0 o0 r1 o1 r2 o2 w3 l0
    go_enter Tryz.func3, Tryz.ntmps3
    go_wp2_with fail
    refine (HK.out _).mono ?_; rintro e w1 ⟨rfl, hb⟩
    go_wp2_with fail
    go_ret
    exact ⟨rfl, hb⟩
  by_cases l1 : a1.length ≤ 200
  case neg =>
    have z1 : 200 < a1.length := by omega
    have q0 : decide (100 < a0.length) = false := decide_eq_false (by omega)
    clear r0 o0 r1 o1 r2 o2 w3 l1
    go_enter Tryz.func3, Tryz.ntmps3
    go_wp2_with fail
    refine (HK.out _).mono ?_; rintro e w1 ⟨rfl, hb⟩
    go_wp2_with fail
    go_ret
    exact ⟨rfl, hb⟩
  by_cases l2 : a2.length ≤ 12
  case neg =>
    have z2 : 12 < a2.length := by omega
    have q0 : decide (100 < a0.length) = false := decide_eq_false (by omega)
    have q1 : decide (200 < a1.length) = false := decide_eq_false (by omega)
    clear r0 o0 r1 o1 r2 o2 w3 l2
    go_enter Tryz.func3, Tryz.ntmps3
    go_wp2_with fail
    refine (HK.out _).mono ?_; rintro e w1 ⟨rfl, hb⟩
    go_wp2_with fail
    go_ret
    exact ⟨rfl, hb⟩
  have q0 : decide (100 < a0.length) = false := decide_eq_false (by omega)
  have q1 : decide (200 < a1.length) = false := decide_eq_false (by omega)
  have q2 : decide (12 < a2.length) = false := decide_eq_false (by omega)
  have RW := Lib.hid (raws_any p0 c0 a0 p1 c1 a1 w r0 o0 n0 m0 r1 o1 n1 m1)
  have hok := mk_ok a0 false true
  have hv := hok.valid (by decide)
  have ht := mk_flat a0
  have gl := hok.len; have gt := hok.txt
  obtain ⟨hv1, hv2, hv3⟩ := valE_zero hv
  unfold EndRaw at RW
  generalize mk a0 false true = F at *
  have xF := oks_valid hv3 (by omega)
  have HV := Lib.hid hv; have HT := Lib.hid ht
  have hln := fun p c W (i : Its W p F) (a : F.length ≤ c) (b : c ≤ maxLen) => rlength_any p c F W i a b (by omega)
  have hsl := fun x y (h1 : x ≤ y) (h2 : y ≤ lenI F) p c W (i : Its W p F) (a : F.length ≤ c) (b : c ≤ maxLen) => rslice_yes p c F x y W i xF a b (by omega) (by omega) h1 h2
  have hpl := fun i (hi : i < a2.length) (n : Nat) (h : n ≤ 100000) W => place_any (a2[i]'hi) ((n : Int) + 1) W (by omega) (by omega) (o2 i hi)
  have ls := fun p q c d W (i : Its W p F) (j : Its W q F) (hc : F.length ≤ c) (hd : F.length ≤ d) (hcm : c ≤ maxLen) (hdm : d ≤ maxLen) => rsame_any p q c d F F W i j hc hd hcm hdm
  rw [decide_eq_true (rfl : F = F)] at ls
  have henc : ∀ x y p c W, Its W p (slI F 0 x y) → (slI F 0 x y).length ≤ c → c ≤ maxLen → Calls Tryz.prog 11 #[.slice p (slI F 0 x y).length c] W fun e w' => e = .returned (.tuple #[.string (bsL (encS (slI F 0 x y))), .int .i64 0]) ∧ Below W.heap.size W w' := fun x y p c W i a b => by
    have hve := sl_valid hv x y
    have htx := txt_sl F 0 x y
    have htg : tagsL (slI F 0 x y) = [] := by
      rw [List.eq_nil_iff_forall_not_mem]
      intro z hz
      obtain ⟨h1, h2⟩ := mem_tags.1 hz
      have : z ∈ tagsL F := mem_tags.2 ⟨sl_tags F 0 x y z h1 h2, h2⟩
      rw [show tagsL F = [] from ht] at this; cases this
    have := rencode_any p c (slI F 0 x y) W i (oks_valid (valE_zero hve).2.2 (by omega)) a b
    rw [encE_ok hve (by rw [htg]; rfl)] at this
    exact this
  have hcuts : ∀ raw : List UInt8, RawsR (expI F) raw → raw.length ≤ 3010 * lenI F → ∃ ws : Ws, raw = flatW ws ∧ itW ws = expI F ∧ AllW elS ws ∧ ws.length = lenI F ∧ ∀ W, Calls Tryz.prog 7 #[.string (bsL raw)] W fun e w' => ∃ p c, e = .returned (.tuple #[.slice p (nI (offs 0 ws)).length c, .int .i64 0]) ∧ (nI (offs 0 ws)).length ≤ c ∧ c ≤ maxLen ∧ Ones w' (Value.int .i64) p (nI (offs 0 ws)) ∧ Below W.heap.size W w' := fun raw hr hl => by
    obtain ⟨ws, e1, e2, e3, hd⟩ := raws_words hv ht hr
    refine ⟨ws, e1, e2, e3, ?_, fun W => ?_⟩
    · rw [← expI_len, ← e2]; unfold itW; rw [List.length_map]
    · have := cuts_any (bsL raw) W (by rw [bsL_size]; omega)
      rw [bsL_list, hd] at this
      exact this
  have hdec : ∀ v ws, MixR F ws (lenI F) v → v.length ≤ 10000000 → ∀ W, Calls Tryz.prog 12 #[.string (bsL v)] W fun e w' => ∃ p c, e = .returned (.tuple #[.slice p F.length c, .int .i64 0, .int .i64 0]) ∧ F.length ≤ c ∧ c ≤ maxLen ∧ Its w' p F ∧ Below W.heap.size W w' := fun v ws hm hl W => by
    obtain ⟨cs, hd⟩ := hm.all hv
    have := decode_any (bsL v) W (by rw [bsL_size]; omega)
    rw [bsL_list, hd] at this
    exact this
  have HLN := Lib.hid hln; have HSL := Lib.hid hsl; have HPL := Lib.hid hpl; have LS := Lib.hid ls; have HEN := Lib.hid henc; have HCU := Lib.hid hcuts; have HDE := Lib.hid hdec
  clear hln hsl hpl ls henc hcuts hdec hv ht hv3 xF r0 o0 r1 o1 o2 w3 gl gt hok
  obtain ⟨N, hN⟩ : ∃ N, lenI F = N := ⟨_, rfl⟩
  rw [hN] at HLN HSL HCU HDE hv2
  go_enter Tryz.func3, Tryz.ntmps3
  go_wp2_with fail
  refine RW.out.mono ?_; rintro e w5 ⟨raw, pF, cF, rfl, hraw, hrl, fa, fc, hi, hb⟩
  have r2 := r2.call hb
  have bl := hb; clear hb
  obtain ⟨ws, e1, e2, e3, e4, hcu⟩ := HCU.out raw hraw (by omega)
  have CU := Lib.hid hcu
  have hoi := fun i (h : i ≤ N) => offs_int ws i (by omega)
  have hol : (nI (offs 0 ws)).length = N + 1 := by rw [nI_len, offs_len, e4]
  have hmono := fun a b h => offW_le ws a b h
  have hend : offW ws N = raw.length := by rw [e1, ← e4]; exact offW_all ws
  have htop : ∀ b, offW ws b ≤ raw.length := fun b => by rw [e1]; exact offW_end ws b
  have hz0 := offW_zero ws
  have hsz : (bsL raw).size = raw.length := bsL_size raw
  have hext := fun a b h => ext_of raw a b h
  have hstr := fun a b v (h : MixR F ws a v) (h1 : a ≤ b) => h.raw e2 e3 h1
  rw [← e1] at hstr
  have hste := fun a b v (h : MixR F ws a v) (h1 : a ≤ b) (h2 : b ≤ N) => h.enc HV.out HT.out h1 (by omega)
  have hmz : MixR F ws 0 [] := MixR.zero F ws
  have hml : ∀ a v, MixR F ws a v → v.length ≤ offW ws a + 3000 * a := fun a v ⟨_, _, _, _, h⟩ => h
  have hde := fun v h1 h2 => HDE.out v ws h1 h2
  have hrl2 : raw.length ≤ 4000000 := by omega
  generalize hO : offW ws = O at *
  generalize hMX : MixR F ws = MX at *
  generalize hM : nI (offs 0 ws) = M at *
  clear hO hMX hM e1 e2 e3 e4 hcu hraw HCU hrl
  have HOI := Lib.hid hoi; have HMO := Lib.hid hmono; have HTP := Lib.hid htop; have HEX := Lib.hid hext; have HSR := Lib.hid hstr; have HSE := Lib.hid hste; have HMZ := Lib.hid hmz; have HML := Lib.hid hml; have DE := Lib.hid hde; have HEND := Lib.hid hend
  clear hoi hmono htop hext hstr hste hmz hml hde hend HDE
  generalize bsL raw = T at *
  rw [← hsz] at HTP HEND hrl2
  clear hsz
  go_wp2_with fail
  refine (CU.out _).mono ?_; rintro e w6 ⟨pc, cc, rfl, ca, cb, ci, hb⟩
  have hi := hi.call hb; have r2 := r2.call hb
  have bl := BelowOn bl hb; clear hb
  go_wp2_with fail
  refine (HLN.out _ _ _ hi fa fc).mono ?_; rintro e w7 ⟨rfl, rfl⟩
  obtain ⟨ad, rfl, had, hcells⟩ := ci (by rw [hol]; omega)
  rw [hol] at ca
  have hcx : ∀ W, Below w6.heap.size w6 W → ∀ i, i ≤ N → W.cell? (ad.add i) = some (.int .i64 ((O i : Nat) : Int)) := fun W hb i h => by
    obtain ⟨h1, h2⟩ := HOI.out i h
    have := hcells i h1
    rw [h2] at this
    rw [hb.cell (p := ad.add i) (by rw [add_block]; exact had)]
    exact this
  have HCX := Lib.hid hcx
  clear hcells hcx ci
  have c0 := HCX.out w6 (Below.refl _ _) 0 (by omega)
  have cN := HCX.out w6 (Below.refl _ _) N (by omega)
  rw [hz0] at c0
  have c00 : w6.cell? ad = some (.int .i64 0) := by simpa [Addr.add] using c0
  have j0 : (0 : Int) ≤ (N : Int) := by omega
  have j1 : (N : Int) < (N : Int) + 1 := by omega
  have j2 : ¬ ((T.size : Int) < ((O N : Nat) : Int)) := by have := HTP.out N; omega
  have j3 : ¬ (T.size < O N) := by omega
  have hs0 : T.extract 0 0 = bsL [] := HEX.out 0 0 (Nat.le_refl _)
  have i00 : (0 : Int) ≤ (T.size : Int) := by omega
  have HS0 := Lib.hid hs0
  clear hs0
  go_wp2_with fail
  go_loopw [14, 15, 16] (fun vs vf vi wr => ∃ (i a : Nat) (v : List UInt8), i ≤ a2.length + 1 ∧ a ≤ N ∧ vi = .int .i64 i ∧ vf = .int .i64 a ∧ vs = .string (bsL v) ∧ Hid (MX a v) ∧ (i ≤ a2.length ∨ a = N) ∧ Below w6.heap.size w6 wr) (fun _ _ i _ => a2.length + 1 - (intOf i).toNat)
  case atStart => exact ⟨0, 0, [], by omega, by omega, rfl, rfl, by first | rw [HS0.out] | rfl, HMZ, .inl (by omega), Below.refl _ _⟩
  case round =>
    obtain ⟨i, a, v, hi1, ha, rfl, rfl, rfl, HMX, hor, hB⟩ := hrel
    have hiF := hi.call hB
    have hr2 := r2.call hB
    have cA := HCX.out wr hB a ha
    have vl := HML.out a v HMX.out
    have hOa := HTP.out a
    clear c0 cN c00
    by_cases hlt : i ≤ a2.length
    · have q : decide ((i : Int) ≤ (a2.length : Int)) = true := decide_eq_true (by omega)
      go_upto_if 91 with (fail)
      go_cut [17] (fun vt w' => ∃ b : Nat, vt = .int .i64 b ∧ a ≤ b ∧ b ≤ N ∧ (i < a2.length ∨ b = N) ∧ w' = wr)
      case first =>
        by_cases hl2 : i < a2.length
        · have hpl := fun W => HPL.out i hl2 (N - a) (by omega) W
          rw [show ((N - a : Nat) : Int) + 1 = (N : Int) - (a : Int) + 1 by omega] at hpl
          obtain ⟨K, hK, hK2⟩ : ∃ K : Nat, a2[i] % ((N : Int) - (a : Int) + 1) = K ∧ K ≤ N - a := by
            have e0 := Int.emod_nonneg a2[i] (show (N : Int) - (a : Int) + 1 ≠ 0 by omega)
            have e1 := Int.emod_lt_of_pos a2[i] (show (0 : Int) < (N : Int) - (a : Int) + 1 by omega)
            exact ⟨(a2[i] % ((N : Int) - (a : Int) + 1)).toNat, by omega, by omega⟩
          rw [hK] at hpl
          have P2 := Lib.hid hpl
          obtain ⟨ad2, rfl, had2, d0⟩ := hr2.row i hl2
          have i1 : (i : Int) < (a2.length : Int) := by omega
          have hK3 : (K : Int) ≤ (N : Int) - (a : Int) := by omega
          clear hpl hK
          generalize a2[i] = z at *
          go_wp2_with fail
          refine (P2.out _).mono ?_; rintro e w8 ⟨rfl, rfl⟩
          go_wp2_with fail
          go_meet
          exact ⟨a + K, by first | rfl | go_num | (congr 1; omega), by omega, by omega, .inl hl2, rfl⟩
        · have i1 : ¬ (i : Int) < (a2.length : Int) := by omega
          go_wp2_with fail
          go_meet
          exact ⟨N, rfl, ha, Nat.le_refl _, .inr rfl, rfl⟩
      case rest =>
        obtain ⟨b, rfl, hab, hbN, hor2, rfl⟩ := hcut
        have cB := HCX.out _ hB b hbN
        have hOab := HMO.out a b hab
        have hOb := HTP.out b
        have k1 : ¬ ((O b : Int) < (O a : Int)) := by omega
        have k2 : ¬ ((T.size : Int) < (O b : Int)) := by omega
        have k3 : (a : Int) < (N : Int) + 1 := by omega
        have k4 : (b : Int) < (N : Int) + 1 := by omega
        have k5 : (0 : Int) ≤ (O a : Int) := by omega
        have k6 : (O a : Int) ≤ (O b : Int) := by omega
        have k7 : (O b : Int) ≤ (T.size : Int) := by omega
        clear hOab hr2 hor hi1
        go_upto_region 15 with fail
        go_quiet (fail)
        have hBq := BelowOn hB (below_qN wc nq)
        clear cA cB hiF
        go_wp2_with fail
        refine (HSL.out a b hab hbN pF cF _ (hi.call hBq) fa fc).mono ?_; rintro e w9 ⟨vx, rfl, hAx⟩
        have hB9 := BelowOn hBq hAx.below
        obtain ⟨px, cx, rfl, xa, xb, xi⟩ := hAx.own.its
        have cA := HCX.out w9 hB9 a ha
        have cB := HCX.out w9 hB9 b hbN
        have HE2 := Lib.hid (HEN.out a b px cx w9 xi xa xb)
        have HXL := Lib.hid (HSE.out a b v HMX.out hab hbN)
        have HXR := Lib.hid (HSR.out a b v HMX.out hab)
        clear hAx hBq hB xi xa xb
        have le1 := HML.out b _ HXL.out
        rw [List.length_append] at le1
        have le2 := HML.out b _ HXR.out
        have hN9 : b ≤ 1024 := by omega
        have z1 : ¬ (9223372036854775807 < (bsL v).size + (bsL (encS (slI F 0 a b))).size) := by rw [bsL_size, bsL_size]; omega
        have hcat : bsL v ++ bsL (encS (slI F 0 a b)) = bsL (v ++ encS (slI F 0 a b)) := by rw [bsL_append]
        have hcat2 : bsL v ++ T.extract (O a) (O b) = bsL (v ++ (raw.drop (O a)).take (O b - O a)) := by rw [HEX.out (O a) (O b) (by omega), bsL_append]
        have hex : (T.extract (O a) (O b)).size ≤ 4000000 := by simp; omega
        have z2 : ¬ (9223372036854775807 < (bsL v).size + (T.extract (O a) (O b)).size) := by rw [bsL_size]; omega
        have z3 : ¬ (9223372036854775807 < (bsL v).size + ((O b) - (O a))) := by rw [bsL_size]; omega
        have hre : ∀ (u : List UInt8) (W : World), MX b u → Below w6.heap.size w6 W → ∃ (i' a' : Nat) (v' : List UInt8), i' ≤ a2.length + 1 ∧ a' ≤ N ∧ Value.int .i64 ((i : Int) + 1) = .int .i64 i' ∧ Value.int .i64 (b : Int) = .int .i64 a' ∧ Value.string (bsL u) = .string (bsL v') ∧ Hid (MX a' v') ∧ (i' ≤ a2.length ∨ a' = N) ∧ Below w6.heap.size w6 W := fun u W hu hb =>
          ⟨i + 1, b, u, by omega, hbN, by go_num, rfl, rfl, Lib.hid hu, by omega, hb⟩
        have HRE := Lib.hid hre; have HC1 := Lib.hid hcat; have HC2 := Lib.hid hcat2
        clear hre hcat hcat2 le1 le2
        generalize bsL (encS (slI F 0 a b)) = EB at *
        go_upto_if 134 with (fail)
        generalize (bits BinOp.and IntKind.i64 (a3 / 2 ^ (i % 60)) 1 == 1) = bt at *
        cases bt
        · go_upto_region 23 with fail
          go_quiet (fail)
          have hB10 := BelowOn hB9 (below_qN w9 nq)
          go_wp2_with fail
          go_roundw
          case rel => rw [HC2.out]; exact HRE.out _ _ HXR.out hB10
          case measure => simp [intOf]; omega
        · go_wp2_with fail
          refine HE2.out.mono ?_; rintro e w10 ⟨rfl, hb10⟩
          have hB10 := BelowOn hB9 hb10
          clear hb10
          go_wp2_with fail
          go_roundw
          case rel => rw [HC1.out]; exact HRE.out _ _ HXL.out hB10
          case measure => simp [intOf]; omega
    · have hi2 : i = a2.length + 1 := by omega
      have haN : a = N := by omega
      subst haN
      have q : decide ((i : Int) ≤ (a2.length : Int)) = false := decide_eq_false (by omega)
      have hON := HEND.out
      rw [hON] at cA
      have hx : T.extract T.size T.size = ⟨#[]⟩ := by rw [HEX.out _ _ (Nat.le_refl _), Nat.sub_self, List.take_zero]; rfl
      have hcat : bsL v ++ T.extract T.size T.size = bsL v := by rw [hx]; show bsL v ++ bsL [] = _; rw [bsL_append, List.append_nil]
      have HCT := Lib.hid hcat
      have D1 := Lib.hid (DE.out v HMX.out (by omega))
      have z1 : ¬ (9223372036854775807 < (bsL v).size) := by rw [bsL_size]; omega
      have z2 : ¬ (9223372036854775807 < (bsL v).size + (T.extract T.size T.size).size) := by rw [bsL_size, hx]; show ¬ (_ < v.length + 0); omega
      have k1 : (0 : Int) ≤ (T.size : Int) := by omega
      have j4 : (a : Int) < (a : Int) + 1 := by omega
      clear hx hcat
      go_upto_region 26 with fail
      (try rw [HCT.out])
      generalize bsL v = S at *
      have bl2 := BelowOn bl hB
      go_wp2_with fail
      refine (D1.out _).mono ?_; rintro e w10 ⟨p9, c9, rfl, a9, b9, i9, hb⟩
      have hiF := hiF.call hb; have bl2 := BelowOn bl2 hb; clear hb
      go_wp2_with fail
      refine (LS.out _ _ _ _ _ i9 hiF a9 fa b9 fc).mono ?_; rintro e w11 ⟨rfl, hb⟩
      have bl2 := BelowOn bl2 hb; clear hb i9 hiF
      go_wp2_with fail
      refine (HK.out _).mono ?_; rintro e w12 ⟨rfl, hb⟩
      have bl2 := BelowOn bl2 hb; clear hb
      go_wp2_with fail
      go_ret
      exact ⟨rfl, bl2⟩
end Go.Proofs.YteaciofacmbllaaGreatDoor
namespace Go.Proofs.YteaciofacmbllaaGreatDoor.sheetMixes
open Go.ChangeShapes Go.WideShapes Go.ChangeAt Go.RowKit
open Go.ChangeMaps (open_string shut_string)
set_option linter.unusedVariables false
set_option maxRecDepth 100000

theorem own : ownKnob Tryz.prog.godebug = none := by kernel_rfl
theorem laidOut : laidOutB Tryz.prog = true := by kernel_rfl


set_option maxHeartbeats 1600000 in
theorem walk (p0 : Option Addr) (c0 : Nat) (a0 : List Int) (p1 : Option Addr) (c1 : Nat) (a1 : List Int) (p2 : Option Addr) (c2 : Nat) (a2 : List Int) (a3 : Int) (w : World) (r0 : Ones w (Value.int .i64) p0 a0) (o0 : ∀ i (h : i < a0.length), (Lit.int .i64 (a0[i]'h)).wf = true) (n0 : a0.length ≤ c0) (m0 : c0 ≤ maxLen) (r1 : Ones w (Value.int .i64) p1 a1) (o1 : ∀ i (h : i < a1.length), (Lit.int .i64 (a1[i]'h)).wf = true) (n1 : a1.length ≤ c1) (m1 : c1 ≤ maxLen) (r2 : Ones w (Value.int .i64) p2 a2) (o2 : ∀ i (h : i < a2.length), (Lit.int .i64 (a2[i]'h)).wf = true) (n2 : a2.length ≤ c2) (m2 : c2 ≤ maxLen) (w3 : (Lit.int .i64 a3).wf = true) :
    Calls Tryz.prog 3 #[.slice p0 a0.length c0, .slice p1 a1.length c1, .slice p2 a2.length c2, .int .i64 a3] w fun e w' => e = .returned (.bool true) ∧ Below w.heap.size w w' := by
  exact mixes_any p0 c0 a0 p1 c1 a1 p2 c2 a2 a3 w r0 o0 n0 m0 r1 o1 n1 m1 r2 o2 n2 m2 w3

theorem lifted (os : Os) (started : os.Started) (H : Type) (enc : TypeId × Value → H) :
    ReturnsInHanded {} Tryz.checked os 3 .any (fun w args => (Rows.sheetMixesSpec.pre enc Tryz.prog Tryz.f3 Rows.sheetMixesRow.domain false w args ∧ laidMetH Tryz.prog Rows.sheetMixesRow.laid w) ∧ sizedMet enc Tryz.prog Tryz.f3 (OpenSpec.ofChange Rows.sheetMixesSpec) false w args)
      (Rows.sheetMixesSpec.post enc Tryz.prog Tryz.f3 false true false false) := by
  refine returnsInHanded_of_change_and (C := Tryz.checked) (X := fun w _ => laidMetH Tryz.prog Rows.sheetMixesRow.laid w) (fun _ _ _ hh h => h.of_heap hh) own started (by kernel_rfl) Tryz.func3
    (ChangeSpec.witness_shaped (enc := enc) (C := Tryz.checked) (os := os) (X := fun w _ => laidMetH Tryz.prog Rows.sheetMixesRow.laid w) false (World.laidAll Tryz.prog os Rows.sheetMixesRow.laid) #[.slice none 0 0, .slice none 0 0, .slice none 0 0, .int .i64 0] 8 (World.laidAll_os _ _ _) (World.shaped_of_ZipB (by kernel_rfl) (by kernel_rfl)) (by kernel_rfl) (by kernel_rfl) (by kernel_rfl) (by rw [MakeChecks.laidMetH_plain _ _ _ (by kernel_rfl)]; exact laidMet_laidAll _ (by kernel_rfl) (by kernel_rfl))) ?_
  intro W base args ds gs before hval0 hW hcnd hsz0 hL _
  have hval : ∀ (j : Nat) t v, Tryz.f3.params[j]? = some t → args[j]? = some v → Value.okWide Tryz.prog W .any base t v := hval0
  have hW' := hW
  have hlt : ∀ x ∈ before, x.block < W.heap.size := fun x hx => hW'.lt x hx
  obtain ⟨p, q, hA0, hV, rfl, hfz, hnd⟩ := hW
  have hA : DataW.TrodAll enc Tryz.prog W 0 (fun _ => true) true Tryz.f3.params.toList args.toList ds p := hA0
  rw [Tryz.params3] at hA hval hsz0
  obtain ⟨v0, vs0, d0, ds0, p0, q0, hargs, rfl, rfl, h0, r0⟩ := trodAll_cons hA
  obtain ⟨v1, vs1, d1, ds1, p1, q1, rfl, rfl, rfl, h1, r1⟩ := trodAll_cons r0
  obtain ⟨v2, vs2, d2, ds2, p2, q2, rfl, rfl, rfl, h2, r2⟩ := trodAll_cons r1
  obtain ⟨v3, vs3, d3, ds3, p3, q3, rfl, rfl, rfl, h3, r3⟩ := trodAll_cons r2
  obtain ⟨rfl, rfl, rfl⟩ := trodAll_nil r3
  obtain rfl : args = #[v0, v1, v2, v3] := by cases args; simp_all
  obtain ⟨rfl, rfl⟩ := trodVars_none hV
  have hsz := hsz0; clear hsz0
  obtain ⟨pp0, c0, a0, rfl, n0, m0, y0, o0⟩ := opened_ints (okBase (hval 0 22 v0 rfl rfl)) h0
  obtain ⟨pp1, c1, a1, rfl, n1, m1, y1, o1⟩ := opened_ints (okBase (hval 1 22 v1 rfl rfl)) h1
  obtain ⟨pp2, c2, a2, rfl, n2, m2, y2, o2⟩ := opened_ints (okBase (hval 2 22 v2 rfl rfl)) h2
  obtain ⟨a3, rfl, -, -, w3⟩ := open_int Tryz.underlying3 (hval 3 3 v3 rfl rfl) h3
  clear hA0 hval0
  refine (walk pp0 c0 a0 pp1 c1 a1 pp2 c2 a2 a3 W y0 o0 n0 m0 y1 o1 n1 m1 y2 o2 n2 m2 w3).mono fun e W' ⟨he, bel⟩ => ?_
  subst he
  exact ⟨_, rfl, _, _, _, [], _, [], hW', trodAll_mk1 (shut_bool Tryz.underlying4 _), (trodAll_cons_mk (Below.trod laidOut (by kernel_rfl) (of_decide_eq_true (by kernel_rfl)) h0 bel (fun x hx => hlt x (by simp [hx]))) (trodAll_cons_mk (Below.trod laidOut (by kernel_rfl) (of_decide_eq_true (by kernel_rfl)) h1 bel (fun x hx => hlt x (by simp [hx]))) (trodAll_cons_mk (Below.trod laidOut (by kernel_rfl) (of_decide_eq_true (by kernel_rfl)) h2 bel (fun x hx => hlt x (by simp [hx]))) (trodAll_cons_mk (Below.trod laidOut (by kernel_rfl) (of_decide_eq_true (by kernel_rfl)) h3 bel (fun x hx => hlt x (by simp [hx]))) trodAll_mk0)))), rfl, bel.frame _, fun h => by cases h⟩

theorem over : Rows.SheetMixesSaid :=
  OpenClaim.holds_of_wide 3 Tryz.f3 rfl rfl rfl rfl rfl rfl rfl ⟨rfl, rfl, rfl, rfl, rfl⟩ rfl rfl rfl rfl rfl (by kernel_rfl) Tryz.func3 (by kernel_rfl)
    (of_decide_eq_true (by kernel_rfl)) (by unfold Func.isWrapper; first | (rw [if_pos (by decide +kernel)]; kernel_rfl) | (rw [if_neg (by decide +kernel)]; exact ⟨rfl, rfl⟩))
    (fun os started H enc _ => lifted os started H enc)

theorem proved : Rows.SheetMixesCardSaid :=
  Claim7.holds_tied_plain_at .later [] [.data, .data, .data] true (true, "e702a37e1591415e881bd782b3c88272fc09c26025a858ac7a18725cf7c0a078") false
    over (fun _ h => by cases h) (by kernel_rfl) (fun _ h => by cases h) sheetMixes_row_tie rfl ⟨rfl, rfl⟩ (by kernel_rfl) rfl
    (fun f fn hf hfn => by
      obtain rfl : f = 3 := Option.some.inj ((show Tryz.prog.funcNamed "bitext/bitextlaw9.SheetMixes" = some 3 by kernel_rfl).symm.trans hf) |>.symm
      obtain rfl : fn = Tryz.f3 := (Option.some.inj (Tryz.func3.symm.trans hfn)).symm
      exact ⟨by kernel_rfl, fun j t ht => by
        rw [Tryz.params3] at ht
        have hm : t ∈ [22, 22, 22, 3] := by simpa using Array.mem_of_getElem? ht
        have hall : ([22, 22, 22, 3].all fun u => !Tryz.prog.wantsStandIn u) = true := by kernel_rfl
        exact (show Tryz.prog.wantsStandIn t = false by simpa using List.all_eq_true.1 hall t hm)⟩)
    (by kernel_rfl)
#print axioms proved
end Go.Proofs.YteaciofacmbllaaGreatDoor.sheetMixes
