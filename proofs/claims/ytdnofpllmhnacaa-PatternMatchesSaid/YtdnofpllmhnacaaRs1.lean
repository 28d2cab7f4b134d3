/- The reference's put, in, plain, single. -/
import Derived.Test.YtdnofpllmhnacaaTxt
namespace Go.Proofs.Ytdnofpllmhnacaa
open Go.ChangeShapes Go.WideShapes Go.ChangeAt Go.RowKit Go.Sort
set_option linter.unusedVariables false
set_option linter.unusedSimpArgs false
set_option maxRecDepth 100000

set_option maxHeartbeats 1600000 in
theorem put_any (B : Nat) (S : BSet) (b : Nat) (hb : b < 256) (w : World) (h : SAtT 35 B S w) :
    Calls Try.prog 54 #[.pointer (some ⟨B, 0, none⟩), .int .u8 b] w fun e w' => e = .returned (.tuple #[]) ∧ w.grownBy w' (some B) ∧ SAtT 35 B (addS S b) w' := by
  have mixed : Try.prog.follows .mixedOrders = true := by kernel_rfl
  have hc : w.cell? ⟨B, b / 8, none⟩ = some (.int .u8 (byteOf S (b / 8) : Int)) := by
    have := h.range (b / 8) _ (setC_at S (b / 8) (by omega)); simpa using this
  have fr := Lib.frozen_of_heap h (b / 8)
  have h1 : (0 : Int) ≤ (b : Int) / 8 := by omega
  have h2 : (b : Int) / 8 < 32 := by omega
  have h3 : ((b : Int) / 8).toNat = b / 8 := by omega
  have HA := Lib.hid (add_byte S b hb)
  have HS := Lib.hid (setC_set S (addS S b) (b / 8) (by omega) (fun j _ hj => add_other S b j hj))
  have hset := setCell_at w B (b / 8) _ 35 (bits BinOp.or IntKind.u8 (byteOf S (b / 8) : Int) (2 ^ (b % 8) % 256) |> Value.int .u8) h
  have hg := grow_cell w B (b / 8) (bits BinOp.or IntKind.u8 (byteOf S (b / 8) : Int) (2 ^ (b % 8) % 256) |> Value.int .u8)
  rw [HA.out] at hset hg
  rw [HS.out] at hset
  have HX := Lib.hid (And.intro hset hg)
  clear hset hg
  go_enter Try.func54, Try.ntmps54
  go_region_o
  go_returns
  obtain ⟨hset, hg⟩ := HX.out
  rw [HA.out]
  exact ⟨rfl, ⟨hg.os, hg.tape, hg.output, hg.size, hg.block⟩, hset⟩

theorem byt_get (s : ByteArray) (k : Nat) (h : k < s.size) : (byt s)[k]? = some (s[k]'h).toNat := by
  unfold byt
  rw [List.getElem?_map, List.getElem?_eq_getElem (by simpa using h)]; rfl
set_option maxHeartbeats 1600000 in
theorem rin_any (s : ByteArray) (b : Nat) (hs : s.size ≤ 4000000000) (w : World) :
    Calls Try.prog 65 #[.string s, .int .u8 b] w fun e w' => e = .returned (.bool ((byt s).contains b)) ∧ w = w' := by
  have hyes : ∀ k (h : k < s.size), (s[k]'h).toNat = b → (byt s).contains b = true := fun k h e => by
    rw [List.contains_iff_mem]; exact List.mem_of_getElem? (by rw [byt_get s k h, e])
  have hno : (∀ k (h : k < s.size), (s[k]'h).toNat ≠ b) → (byt s).contains b = false := fun h => by
    rw [Bool.eq_false_iff]
    intro hc
    rw [List.contains_iff_mem] at hc
    obtain ⟨k, hk, e⟩ := List.getElem_of_mem hc
    have hk' : k < s.size := by rw [byt_len] at hk; exact hk
    have := byt_get s k hk'
    rw [List.getElem?_eq_getElem hk, e] at this
    exact h k hk' (Option.some.inj this).symm
  generalize (byt s).contains b = r at *
  have HY := Lib.hid hyes; have HN := Lib.hid hno; clear hyes hno
  go_enter Try.func65, Try.ntmps65
  go_wp2_with fail
  go_loopw [5] (fun i wr => ∃ k : Nat, k ≤ s.size ∧ i = .int .i64 k ∧ (∀ j (h : j < s.size), j < k → (s[j]'h).toNat ≠ b) ∧ w = wr) (fun i _ => s.size - (intOf i).toNat)
  case atStart => exact ⟨0, Nat.zero_le _, rfl, fun j _ h => absurd h (Nat.not_lt_zero _), by first | rfl | trivial⟩
  case round =>
    obtain ⟨k, hk, rfl, hall, rfl⟩ := hrel
    by_cases hlt : k < s.size
    · have q0 : decide (k < s.size) = true := decide_eq_true hlt
      have hy := HY.out k hlt
      have hnx : (s[k]'hlt).toNat ≠ b → ∀ j (h : j < s.size), j < k + 1 → (s[j]'h).toNat ≠ b := fun hn j h hj => by
        by_cases e : j = k
        · subst e; exact hn
        · exact hall j h (by omega)
      generalize hx : (s[k]'hlt).toNat = x at *
      have q9 : ((s[k]'hlt).toNat : Int) = (x : Int) := by rw [hx]
      clear hx
      by_cases he : x = b
      · have HZ := Lib.hid (hy he); clear hy hnx hall
        have q1 : ((x : Int) == (b : Int)) = true := by rw [he]; simp
        clear he
        go_wp2_with fail
        go_ret
        exact ⟨ret_bool HZ.out.symm, rfl⟩
      · have HZ := Lib.hid (hnx he); clear hy hnx hall
        have q1 : ((x : Int) == (b : Int)) = false := by simp; omega
        clear he
        go_wp2_with fail
        go_roundw
        case rel => exact ⟨k + 1, hlt, by go_num, HZ.out, by first | rfl | trivial⟩
        case measure => simp [intOf]; omega
    · obtain rfl : k = s.size := by omega
      have q0 : decide (s.size < s.size) = false := by simp
      have HZ := Lib.hid (HN.out (fun j h => hall j h h)); clear hall
      go_wp2_with fail
      go_ret
      exact ⟨ret_bool HZ.out.symm, rfl⟩

def plainF (sp : List Nat) (b : Nat) : Bool := (decide (cls b = 4) || decide (cls b = 3) || decide (cls b = 5)) && !(sp.contains b)
set_option maxHeartbeats 1600000 in
theorem plain_any (s : ByteArray) (b : Nat) (hb : b < 256) (hs : s.size ≤ 4000000000) (w : World) :
    Calls Try.prog 55 #[.int .u8 b, .string s] w fun e w' => e = .returned (.bool (plainF (byt s) b)) ∧ w = w' := by
  have h1 := fun W => rof_any (b : Int) W (by omega) (by omega)
  have h2 := fun W => rin_any s b hs W
  unfold plainF
  generalize (byt s).contains b = x at *
  generalize cls (b : Int) = c at *
  have H1 := Lib.hid h1; have H2 := Lib.hid h2; clear h1 h2
  by_cases h4 : c = 4
  · subst h4
    go_enter Try.func55, Try.ntmps55
    go_wp2_with fail
    refine (H1.out _).mono ?_; rintro e w' ⟨rfl, rfl⟩
    go_wp2_with fail
    refine (H2.out _).mono ?_; rintro e w' ⟨rfl, rfl⟩
    go_wp2_with fail
    go_ret
    exact ⟨ret_bool (by simp), rfl⟩
  · have q4 : (c == 4) = false := by simpa using h4
    by_cases h3 : c = 3
    · subst h3
      clear h4
      go_enter Try.func55, Try.ntmps55
      go_wp2_with fail
      refine (H1.out _).mono ?_; rintro e w' ⟨rfl, rfl⟩
      go_wp2_with fail
      refine (H2.out _).mono ?_; rintro e w' ⟨rfl, rfl⟩
      go_wp2_with fail
      go_ret
      exact ⟨ret_bool (by simp), rfl⟩
    · have q3 : (c == 3) = false := by simpa using h3
      by_cases h5 : c = 5
      · subst h5
        clear h4 h3
        go_enter Try.func55, Try.ntmps55
        go_wp2_with fail
        refine (H1.out _).mono ?_; rintro e w' ⟨rfl, rfl⟩
        go_wp2_with fail
        refine (H2.out _).mono ?_; rintro e w' ⟨rfl, rfl⟩
        go_wp2_with fail
        go_ret
        exact ⟨ret_bool (by simp), rfl⟩
      · have q5 : (c == 5) = false := by simpa using h5
        rw [decide_eq_false h4, decide_eq_false h3, decide_eq_false h5]
        clear h4 h3 h5
        go_enter Try.func55, Try.ntmps55
        go_wp2_with fail
        refine (H1.out _).mono ?_; rintro e w' ⟨rfl, rfl⟩
        go_wp2_with fail
        go_ret
        exact ⟨ret_bool (by simp), rfl⟩
theorem plain_in : ∀ b : Fin 256, b.val ≠ 92 → plainF [92, 93, 91, 94, 45] b.val = okB sgI false b.val := by decide +kernel
theorem plain_out : ∀ b : Fin 256, plainF sgO b.val = okB sgO false b.val := by decide +kernel
end Go.Proofs.Ytdnofpllmhnacaa
