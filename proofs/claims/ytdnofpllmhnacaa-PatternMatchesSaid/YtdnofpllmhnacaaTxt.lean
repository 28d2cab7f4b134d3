/- made and text. -/
import Derived.Test.YtdnofpllmhnacaaAtm
import Derived.Lib.SlBytesRow
namespace Go.Proofs.Ytdnofpllmhnacaa
open Go.ChangeShapes Go.WideShapes Go.ChangeAt Go.RowKit Go.Sort
set_option linter.unusedVariables false
set_option linter.unusedSimpArgs false
set_option maxRecDepth 100000

/-- What holds of a pattern that a call answers. -/
def MkEnd (P : List At) (w : World) (e : Ending) (w' : World) : Prop := ∃ v, e = .returned v ∧ OwA w.heap.size P v w' ∧ Below w.heap.size w w'
set_option maxHeartbeats 1600000 in
theorem made_any (p : Option Addr) (c : Nat) (L : List Int) (w : World) (h : Ones w (Value.int .i64) p L) (hw : wfs L) (hc : L.length ≤ c) (hm : c ≤ maxLen) :
    Calls Try.prog 20 #[.slice p L.length c] w (MkEnd (mkF L) w) := by
  have hh := heap_alloc_new w (.cells #[.slice p L.length c, .int .i64 0] 70)
  have hb := blw (Below.refl w.heap.size w) (.cells #[.slice p L.length c, .int .i64 0] 70)
  have hn : NumsAt (w.alloc (.cells #[.slice p L.length c, .int .i64 0] 70)) w.heap.size p c L 0 :=
    ⟨hh, h.call hb, fun h0 a ha => by
      obtain ⟨a', ha', hlt, _⟩ := h h0
      rw [ha] at ha'; injection ha' with ha'; subst ha'; omega, hw, hc, hm⟩
  have HH := Lib.hid (And.intro hn hb); clear hn hb hh
  go_enter Try.func20, Try.ntmps20
  go_wp2_with fail
  refine (atoms_any w.heap.size p c L _ HH.out.1).mono ?_; rintro e w1 ⟨v, rfl, o1, g1⟩
  have b1 := below_gr HH.out.2 (Nat.le_refl _) g1 HH.out.2.size
  have o2 : OwA w.heap.size (mkF L) v w1 := o1.mono (by simp)
  have H1 := Lib.hid (And.intro o2 b1); clear o1 g1 b1 o2
  go_wp2_with fail
  go_ret
  exact ⟨_, rfl, H1.out.1, H1.out.2⟩

/-- A string of bytes. -/
def mkB (l : List Nat) : ByteArray := ⟨(l.map Nat.toUInt8).toArray⟩
theorem mkB_size (l : List Nat) : (mkB l).size = l.length := by simp [mkB, ByteArray.size]
theorem byt_mkB (l : List Nat) (h : ∀ c ∈ l, c < 256) : byt (mkB l) = l := by
  unfold byt mkB
  simp only [List.map_map]
  have : ∀ c ∈ l, (UInt8.toNat ∘ Nat.toUInt8) c = c := fun c hc => by
    have := h c hc
    simp; omega
  rw [List.map_congr_left this]; simp
theorem byt_inj {s t : ByteArray} (h : byt s = byt t) : s = t := by
  unfold byt at h
  have : s.data.toList = t.data.toList := (List.map_inj_right (fun a b hab => UInt8.toNat_inj.1 hab)).1 h
  cases s; cases t; congr 1; exact Array.toList_inj.1 this
theorem byt_lt (s : ByteArray) : ∀ c ∈ byt s, c < 256 := fun c hc => by
  obtain ⟨a, _, rfl⟩ := List.mem_map.1 hc; exact a.toNat_lt
theorem mkB_byt (s : ByteArray) : mkB (byt s) = s := byt_inj (byt_mkB _ (byt_lt s))

theorem mkB_append (l m : List Nat) : mkB l ++ mkB m = mkB (l ++ m) := by
  unfold mkB
  apply ByteArray.ext
  simp [ByteArray.data_append]
theorem conv_one (w : World) (c : Nat) (hc : c < 256) :
    (convert 39 9 (.slice (some ⟨w.heap.size, 0, none⟩) 1 1)).run Try.prog (w.alloc (.cells #[.int .u8 (c : Int)] 5)) = .ok (.string (mkB [c])) (w.alloc (.cells #[.int .u8 (c : Int)] 5)) := by
  have h := Lib.run_convert_whole (P := Try.prog) (w.alloc (.cells #[.int .u8 (c : Int)] 5)) 39 5 9 Try.underlying39 Try.underlying5 Try.underlying9 w.heap.size 0 (mkB [c]) (fun i hi => by
    obtain rfl : i = 0 := by rw [mkB_size] at hi; simp at hi; exact hi
    rw [Nat.add_zero, World.cell?_alloc_mark]
    show some (Value.int .u8 (c : Int)) = some (Value.int .u8 ((Nat.toUInt8 c).toNat : Int))
    congr 2
    simp; omega) 1
  rwa [mkB_size] at h
set_option maxHeartbeats 1600000 in
theorem text_any (p : Option Addr) (c : Nat) (L : List Int) (w : World) (h : Ones w (Value.int .i64) p L) (hw : wfs L) (hc : L.length ≤ c) (hm : c ≤ maxLen) :
    Calls Try.prog 21 #[.slice p L.length c] w fun e w' => e = .returned (.string (mkB (tx L))) ∧ Below w.heap.size w w' := by
  unfold maxLen at hm
  generalize hres : tx L = res
  have hN : txN L ≤ L.length ∧ txN L ≤ 24 := by unfold txN; omega
  have hN2 : ∀ k, k < L.length → k < 24 → k < txN L := fun k h1 h2 => by unfold txN; omega
  have hN3 : ∀ k, k ≤ txN L → ¬ k < L.length → k = txN L := fun k h1 h2 => by unfold txN at *; omega
  have hN4 : ∀ k, k ≤ txN L → ¬ k < 24 → k = txN L := fun k h1 h2 => by unfold txN at *; omega
  unfold tx at hres
  generalize txN L = n at *
  have HR := Lib.hid hres; have HN2 := Lib.hid hN2; have HN3 := Lib.hid hN3; have HN4 := Lib.hid hN4; clear hres hN2 hN3 hN4
  have HO := Lib.hid h; have HW := Lib.hid hw; clear h hw
  go_enter Try.func21, Try.ntmps21
  go_wp2_with fail
  go_loopw [3, 4] (fun s i wr => ∃ k : Nat, k ≤ n ∧ i = .int .i64 k ∧ s = .string (mkB (txF L k)) ∧ Below w.heap.size w wr) (fun _ i _ => n - (intOf i).toNat)
  case atStart => exact ⟨0, Nat.zero_le _, rfl, rfl, Below.refl _ _⟩
  case round =>
    obtain ⟨k, hk, rfl, rfl, hB⟩ := hrel
    by_cases hl : k < L.length
    · have q0 : decide (k < L.length) = true := decide_eq_true hl
      by_cases h24 : k < 24
      · have q1 : decide ((k : Int) < 24) = true := by simp; omega
        have hkn := HN2.out k hl h24
        obtain ⟨a, rfl, ha, d0⟩ := (HO.out.call hB).row k hl
        have hwf := HW.out k hl
        have hx := nx_eq L k 8 (by omega)
        rw [List.getD_eq_getElem?_getD, List.getElem?_eq_getElem hl, Option.getD_some] at hx
        have hx4 := nx_lt L k 8 (by omega)
        have hnx : txF L (k + 1) = txF L k ++ [tb (nx L k 8)] := rfl
        have ht := tbl_eq ⟨nx L k 8, hx4⟩
        have hc8 := tb_lt' hx4
        dsimp only at ht
        generalize L[k] = x at *
        have hp := fun W => place_any x 8 W (by omega) (by omega) hwf
        rw [show ((8 : Nat) : Int) = 8 from rfl] at hx
        rw [← hx] at hp
        have HP := Lib.hid hp; clear hp hx
        generalize nx L k 8 = x4 at *
        generalize tb x4 = c at *
        have HNX := Lib.hid hnx; clear hnx
        have htl := tx_len L k
        generalize txF L k = t at *
        have hsz : (mkB t).size ≤ 24 := by rw [mkB_size]; omega
        have hsz1 : (mkB [c]).size ≤ 1 := by rw [mkB_size]; simp
        have hcv := conv_one wr c hc8
        clear htl
        have y0 : (0 : Int) ≤ (x4 : Int) := by omega
        have y1 : (x4 : Int) < 8 := by omega
        go_wp2_with fail
        refine (HP.out _).mono ?_; rintro e w1 ⟨rfl, rfl⟩
        go_wp2_with fail
        go_roundw
        case rel => exact ⟨k + 1, hkn, by go_num, by rw [HNX.out, ← mkB_append], blw hB _⟩
        case measure => simp [intOf]; omega
      · have q1 : decide ((k : Int) < 24) = false := by simp; omega
        obtain rfl := HN4.out k hk h24
        rw [HR.out]
        go_wp2_with fail
        go_ret
        exact ⟨rfl, hB⟩
    · have q0 : decide (k < L.length) = false := decide_eq_false hl
      obtain rfl := HN3.out k hk hl
      rw [HR.out]
      go_wp2_with fail
      go_ret
      exact ⟨rfl, hB⟩
end Go.Proofs.Ytdnofpllmhnacaa
