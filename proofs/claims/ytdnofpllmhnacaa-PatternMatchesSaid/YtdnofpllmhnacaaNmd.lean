/- named: the set of a letter. -/
import Derived.Test.YtdnofpllmhnacaaSv
namespace Go.Proofs.Ytdnofpllmhnacaa
open Go.ChangeShapes Go.WideShapes Go.ChangeAt Go.RowKit Go.Sort
set_option linter.unusedVariables false
set_option linter.unusedSimpArgs false
set_option maxRecDepth 100000

set_option maxHeartbeats 1600000 in
theorem nm_115 (w : World) :
    Calls Try.prog 61 #[.int .u8 115] w fun e w' => e = .returned (.tuple #[.agg (setC ((clsS 2 256))).toArray, .bool true]) ∧ Below w.heap.size w w' := by
  have hc := fun W => ofclass_any 2 W
  generalize clsS 2 256 = S at *
  have HC := Lib.hid hc; clear hc
  have h0 := SAtT.new 55 w
  have b0 := blw (Below.refl w.heap.size w) (.cells (List.replicate 32 (Value.int .u8 0)).toArray 55)
  have H0 := Lib.hid (And.intro h0 b0); clear h0 b0
  go_enter Try.func61, Try.ntmps61
  go_upto_region 5 with fail
  go_wp2_with fail
  refine (HC.out _).mono ?_; rintro e w1 ⟨rfl, hb1⟩
  have h1 := H0.out.1.call hb1
  have b1 := BelowOn H0.out.2 hb1
  have HS := Lib.hid (And.intro h1 b1); clear h1 b1
  go_upto_region 21 with (refine wpl_storeSet (by rfl) 55 (Or.inl rfl) _ _ (by rfl) w.heap.size emptyS S (by rfl) (by rfl) HS.out.1 ?_; intro w2 h2 g2)
  have HT := Lib.hid (And.intro h2 (HS.out.2.grown g2 HS.out.2.size (fun j hj => by cases hj; omega)))
  clear h2 g2
  go_upto_region 23 with fail
  go_wp2_with (first | (refine wpl_loadSet (by rfl) 55 (Or.inl rfl) _ (by rfl) w.heap.size S (by rfl) HT.out.1 ?_) | (refine wpl_storeSet (by rfl) 55 (Or.inl rfl) _ _ (by rfl) w.heap.size S S (by rfl) (by rfl) HT.out.1 ?_; intro w5 h5 g5))
  have hld := SAtT.read (Or.inl rfl) h5
  have hB := HT.out.2.grown g5 HT.out.2.size (fun j hj => by cases hj; omega)
  (try simp only [Exit.inBlock, Exit.then])
  refine bodyPost_ret (v := .tuple #[.agg (setC S).toArray, .bool true]) (by simp [results, Try.results61, asAddr, Result.andThen, hld, Act.put]) rfl ⟨rfl, hB⟩
set_option maxHeartbeats 1600000 in
theorem nm_83 (w : World) :
    Calls Try.prog 61 #[.int .u8 83] w fun e w' => e = .returned (.tuple #[.agg (setC (notS (clsS 2 256))).toArray, .bool true]) ∧ Below w.heap.size w w' := by
  have hc := fun W => ofclass_any 2 W
  generalize clsS 2 256 = S at *
  have HC := Lib.hid hc; clear hc
  have h0 := SAtT.new 55 w
  have b0 := blw (Below.refl w.heap.size w) (.cells (List.replicate 32 (Value.int .u8 0)).toArray 55)
  have H0 := Lib.hid (And.intro h0 b0); clear h0 b0
  go_enter Try.func61, Try.ntmps61
  go_upto_region 5 with fail
  go_wp2_with fail
  refine (HC.out _).mono ?_; rintro e w1 ⟨rfl, hb1⟩
  have h1 := H0.out.1.call hb1
  have b1 := BelowOn H0.out.2 hb1
  have HS := Lib.hid (And.intro h1 b1); clear h1 b1
  go_upto_region 21 with (refine wpl_storeSet (by rfl) 55 (Or.inl rfl) _ _ (by rfl) w.heap.size emptyS S (by rfl) (by rfl) HS.out.1 ?_; intro w2 h2 g2)
  have HT := Lib.hid (And.intro h2 (HS.out.2.grown g2 HS.out.2.size (fun j hj => by cases hj; omega)))
  clear h2 g2
  go_upto_region 22 with fail
  have HI := Lib.hid (fun W => inverse_any S W)
  go_wp2_with (refine wpl_loadSet (by rfl) 55 (Or.inl rfl) _ (by rfl) w.heap.size S (by rfl) HT.out.1 ?_)
  refine (HI.out _).mono ?_; rintro e w3 ⟨rfl, hb3⟩
  have h3 := HT.out.1.call hb3
  have b3 := BelowOn HT.out.2 hb3
  have HU := Lib.hid (And.intro h3 b3); clear h3 b3
  go_upto_region 23 with (refine wpl_storeSet (by rfl) 55 (Or.inl rfl) _ _ (by rfl) w.heap.size S (notS S) (by rfl) (by rfl) HU.out.1 ?_; intro w4 h4 g4)
  have HV := Lib.hid (And.intro h4 (HU.out.2.grown g4 HU.out.2.size (fun j hj => by cases hj; omega)))
  clear h4 g4
  go_wp2_with (first | (refine wpl_loadSet (by rfl) 55 (Or.inl rfl) _ (by rfl) w.heap.size (notS S) (by rfl) HV.out.1 ?_) | (refine wpl_storeSet (by rfl) 55 (Or.inl rfl) _ _ (by rfl) w.heap.size (notS S) (notS S) (by rfl) (by rfl) HV.out.1 ?_; intro w5 h5 g5))
  have hld := SAtT.read (Or.inl rfl) h5
  have hB := HV.out.2.grown g5 HV.out.2.size (fun j hj => by cases hj; omega)
  (try simp only [Exit.inBlock, Exit.then])
  refine bodyPost_ret (v := .tuple #[.agg (setC (notS S)).toArray, .bool true]) (by simp [results, Try.results61, asAddr, Result.andThen, hld, Act.put]) rfl ⟨rfl, hB⟩
set_option maxHeartbeats 1600000 in
theorem nm_100 (w : World) :
    Calls Try.prog 61 #[.int .u8 100] w fun e w' => e = .returned (.tuple #[.agg (setC ((clsS 3 256))).toArray, .bool true]) ∧ Below w.heap.size w w' := by
  have hc := fun W => ofclass_any 3 W
  generalize clsS 3 256 = S at *
  have HC := Lib.hid hc; clear hc
  have h0 := SAtT.new 55 w
  have b0 := blw (Below.refl w.heap.size w) (.cells (List.replicate 32 (Value.int .u8 0)).toArray 55)
  have H0 := Lib.hid (And.intro h0 b0); clear h0 b0
  go_enter Try.func61, Try.ntmps61
  go_upto_region 8 with fail
  go_wp2_with fail
  refine (HC.out _).mono ?_; rintro e w1 ⟨rfl, hb1⟩
  have h1 := H0.out.1.call hb1
  have b1 := BelowOn H0.out.2 hb1
  have HS := Lib.hid (And.intro h1 b1); clear h1 b1
  go_upto_region 21 with (refine wpl_storeSet (by rfl) 55 (Or.inl rfl) _ _ (by rfl) w.heap.size emptyS S (by rfl) (by rfl) HS.out.1 ?_; intro w2 h2 g2)
  have HT := Lib.hid (And.intro h2 (HS.out.2.grown g2 HS.out.2.size (fun j hj => by cases hj; omega)))
  clear h2 g2
  go_upto_region 23 with fail
  go_wp2_with (first | (refine wpl_loadSet (by rfl) 55 (Or.inl rfl) _ (by rfl) w.heap.size S (by rfl) HT.out.1 ?_) | (refine wpl_storeSet (by rfl) 55 (Or.inl rfl) _ _ (by rfl) w.heap.size S S (by rfl) (by rfl) HT.out.1 ?_; intro w5 h5 g5))
  have hld := SAtT.read (Or.inl rfl) h5
  have hB := HT.out.2.grown g5 HT.out.2.size (fun j hj => by cases hj; omega)
  (try simp only [Exit.inBlock, Exit.then])
  refine bodyPost_ret (v := .tuple #[.agg (setC S).toArray, .bool true]) (by simp [results, Try.results61, asAddr, Result.andThen, hld, Act.put]) rfl ⟨rfl, hB⟩
set_option maxHeartbeats 1600000 in
theorem nm_68 (w : World) :
    Calls Try.prog 61 #[.int .u8 68] w fun e w' => e = .returned (.tuple #[.agg (setC (notS (clsS 3 256))).toArray, .bool true]) ∧ Below w.heap.size w w' := by
  have hc := fun W => ofclass_any 3 W
  generalize clsS 3 256 = S at *
  have HC := Lib.hid hc; clear hc
  have h0 := SAtT.new 55 w
  have b0 := blw (Below.refl w.heap.size w) (.cells (List.replicate 32 (Value.int .u8 0)).toArray 55)
  have H0 := Lib.hid (And.intro h0 b0); clear h0 b0
  go_enter Try.func61, Try.ntmps61
  go_upto_region 8 with fail
  go_wp2_with fail
  refine (HC.out _).mono ?_; rintro e w1 ⟨rfl, hb1⟩
  have h1 := H0.out.1.call hb1
  have b1 := BelowOn H0.out.2 hb1
  have HS := Lib.hid (And.intro h1 b1); clear h1 b1
  go_upto_region 21 with (refine wpl_storeSet (by rfl) 55 (Or.inl rfl) _ _ (by rfl) w.heap.size emptyS S (by rfl) (by rfl) HS.out.1 ?_; intro w2 h2 g2)
  have HT := Lib.hid (And.intro h2 (HS.out.2.grown g2 HS.out.2.size (fun j hj => by cases hj; omega)))
  clear h2 g2
  go_upto_region 22 with fail
  have HI := Lib.hid (fun W => inverse_any S W)
  go_wp2_with (refine wpl_loadSet (by rfl) 55 (Or.inl rfl) _ (by rfl) w.heap.size S (by rfl) HT.out.1 ?_)
  refine (HI.out _).mono ?_; rintro e w3 ⟨rfl, hb3⟩
  have h3 := HT.out.1.call hb3
  have b3 := BelowOn HT.out.2 hb3
  have HU := Lib.hid (And.intro h3 b3); clear h3 b3
  go_upto_region 23 with (refine wpl_storeSet (by rfl) 55 (Or.inl rfl) _ _ (by rfl) w.heap.size S (notS S) (by rfl) (by rfl) HU.out.1 ?_; intro w4 h4 g4)
  have HV := Lib.hid (And.intro h4 (HU.out.2.grown g4 HU.out.2.size (fun j hj => by cases hj; omega)))
  clear h4 g4
  go_wp2_with (first | (refine wpl_loadSet (by rfl) 55 (Or.inl rfl) _ (by rfl) w.heap.size (notS S) (by rfl) HV.out.1 ?_) | (refine wpl_storeSet (by rfl) 55 (Or.inl rfl) _ _ (by rfl) w.heap.size (notS S) (notS S) (by rfl) (by rfl) HV.out.1 ?_; intro w5 h5 g5))
  have hld := SAtT.read (Or.inl rfl) h5
  have hB := HV.out.2.grown g5 HV.out.2.size (fun j hj => by cases hj; omega)
  (try simp only [Exit.inBlock, Exit.then])
  refine bodyPost_ret (v := .tuple #[.agg (setC (notS S)).toArray, .bool true]) (by simp [results, Try.results61, asAddr, Result.andThen, hld, Act.put]) rfl ⟨rfl, hB⟩
set_option maxHeartbeats 1600000 in
theorem nm_108 (w : World) :
    Calls Try.prog 61 #[.int .u8 108] w fun e w' => e = .returned (.tuple #[.agg (setC ((clsS 4 256))).toArray, .bool true]) ∧ Below w.heap.size w w' := by
  have hc := fun W => ofclass_any 4 W
  generalize clsS 4 256 = S at *
  have HC := Lib.hid hc; clear hc
  have h0 := SAtT.new 55 w
  have b0 := blw (Below.refl w.heap.size w) (.cells (List.replicate 32 (Value.int .u8 0)).toArray 55)
  have H0 := Lib.hid (And.intro h0 b0); clear h0 b0
  go_enter Try.func61, Try.ntmps61
  go_upto_region 11 with fail
  go_wp2_with fail
  refine (HC.out _).mono ?_; rintro e w1 ⟨rfl, hb1⟩
  have h1 := H0.out.1.call hb1
  have b1 := BelowOn H0.out.2 hb1
  have HS := Lib.hid (And.intro h1 b1); clear h1 b1
  go_upto_region 21 with (refine wpl_storeSet (by rfl) 55 (Or.inl rfl) _ _ (by rfl) w.heap.size emptyS S (by rfl) (by rfl) HS.out.1 ?_; intro w2 h2 g2)
  have HT := Lib.hid (And.intro h2 (HS.out.2.grown g2 HS.out.2.size (fun j hj => by cases hj; omega)))
  clear h2 g2
  go_upto_region 23 with fail
  go_wp2_with (first | (refine wpl_loadSet (by rfl) 55 (Or.inl rfl) _ (by rfl) w.heap.size S (by rfl) HT.out.1 ?_) | (refine wpl_storeSet (by rfl) 55 (Or.inl rfl) _ _ (by rfl) w.heap.size S S (by rfl) (by rfl) HT.out.1 ?_; intro w5 h5 g5))
  have hld := SAtT.read (Or.inl rfl) h5
  have hB := HT.out.2.grown g5 HT.out.2.size (fun j hj => by cases hj; omega)
  (try simp only [Exit.inBlock, Exit.then])
  refine bodyPost_ret (v := .tuple #[.agg (setC S).toArray, .bool true]) (by simp [results, Try.results61, asAddr, Result.andThen, hld, Act.put]) rfl ⟨rfl, hB⟩
set_option maxHeartbeats 1600000 in
theorem nm_76 (w : World) :
    Calls Try.prog 61 #[.int .u8 76] w fun e w' => e = .returned (.tuple #[.agg (setC (notS (clsS 4 256))).toArray, .bool true]) ∧ Below w.heap.size w w' := by
  have hc := fun W => ofclass_any 4 W
  generalize clsS 4 256 = S at *
  have HC := Lib.hid hc; clear hc
  have h0 := SAtT.new 55 w
  have b0 := blw (Below.refl w.heap.size w) (.cells (List.replicate 32 (Value.int .u8 0)).toArray 55)
  have H0 := Lib.hid (And.intro h0 b0); clear h0 b0
  go_enter Try.func61, Try.ntmps61
  go_upto_region 11 with fail
  go_wp2_with fail
  refine (HC.out _).mono ?_; rintro e w1 ⟨rfl, hb1⟩
  have h1 := H0.out.1.call hb1
  have b1 := BelowOn H0.out.2 hb1
  have HS := Lib.hid (And.intro h1 b1); clear h1 b1
  go_upto_region 21 with (refine wpl_storeSet (by rfl) 55 (Or.inl rfl) _ _ (by rfl) w.heap.size emptyS S (by rfl) (by rfl) HS.out.1 ?_; intro w2 h2 g2)
  have HT := Lib.hid (And.intro h2 (HS.out.2.grown g2 HS.out.2.size (fun j hj => by cases hj; omega)))
  clear h2 g2
  go_upto_region 22 with fail
  have HI := Lib.hid (fun W => inverse_any S W)
  go_wp2_with (refine wpl_loadSet (by rfl) 55 (Or.inl rfl) _ (by rfl) w.heap.size S (by rfl) HT.out.1 ?_)
  refine (HI.out _).mono ?_; rintro e w3 ⟨rfl, hb3⟩
  have h3 := HT.out.1.call hb3
  have b3 := BelowOn HT.out.2 hb3
  have HU := Lib.hid (And.intro h3 b3); clear h3 b3
  go_upto_region 23 with (refine wpl_storeSet (by rfl) 55 (Or.inl rfl) _ _ (by rfl) w.heap.size S (notS S) (by rfl) (by rfl) HU.out.1 ?_; intro w4 h4 g4)
  have HV := Lib.hid (And.intro h4 (HU.out.2.grown g4 HU.out.2.size (fun j hj => by cases hj; omega)))
  clear h4 g4
  go_wp2_with (first | (refine wpl_loadSet (by rfl) 55 (Or.inl rfl) _ (by rfl) w.heap.size (notS S) (by rfl) HV.out.1 ?_) | (refine wpl_storeSet (by rfl) 55 (Or.inl rfl) _ _ (by rfl) w.heap.size (notS S) (notS S) (by rfl) (by rfl) HV.out.1 ?_; intro w5 h5 g5))
  have hld := SAtT.read (Or.inl rfl) h5
  have hB := HV.out.2.grown g5 HV.out.2.size (fun j hj => by cases hj; omega)
  (try simp only [Exit.inBlock, Exit.then])
  refine bodyPost_ret (v := .tuple #[.agg (setC (notS S)).toArray, .bool true]) (by simp [results, Try.results61, asAddr, Result.andThen, hld, Act.put]) rfl ⟨rfl, hB⟩
set_option maxHeartbeats 1600000 in
theorem nm_99 (w : World) :
    Calls Try.prog 61 #[.int .u8 99] w fun e w' => e = .returned (.tuple #[.agg (setC ((clsS 1 256))).toArray, .bool true]) ∧ Below w.heap.size w w' := by
  have hc := fun W => ofclass_any 1 W
  generalize clsS 1 256 = S at *
  have HC := Lib.hid hc; clear hc
  have h0 := SAtT.new 55 w
  have b0 := blw (Below.refl w.heap.size w) (.cells (List.replicate 32 (Value.int .u8 0)).toArray 55)
  have H0 := Lib.hid (And.intro h0 b0); clear h0 b0
  go_enter Try.func61, Try.ntmps61
  go_upto_region 14 with fail
  go_wp2_with fail
  refine (HC.out _).mono ?_; rintro e w1 ⟨rfl, hb1⟩
  have h1 := H0.out.1.call hb1
  have b1 := BelowOn H0.out.2 hb1
  have HS := Lib.hid (And.intro h1 b1); clear h1 b1
  go_upto_region 21 with (refine wpl_storeSet (by rfl) 55 (Or.inl rfl) _ _ (by rfl) w.heap.size emptyS S (by rfl) (by rfl) HS.out.1 ?_; intro w2 h2 g2)
  have HT := Lib.hid (And.intro h2 (HS.out.2.grown g2 HS.out.2.size (fun j hj => by cases hj; omega)))
  clear h2 g2
  go_upto_region 23 with fail
  go_wp2_with (first | (refine wpl_loadSet (by rfl) 55 (Or.inl rfl) _ (by rfl) w.heap.size S (by rfl) HT.out.1 ?_) | (refine wpl_storeSet (by rfl) 55 (Or.inl rfl) _ _ (by rfl) w.heap.size S S (by rfl) (by rfl) HT.out.1 ?_; intro w5 h5 g5))
  have hld := SAtT.read (Or.inl rfl) h5
  have hB := HT.out.2.grown g5 HT.out.2.size (fun j hj => by cases hj; omega)
  (try simp only [Exit.inBlock, Exit.then])
  refine bodyPost_ret (v := .tuple #[.agg (setC S).toArray, .bool true]) (by simp [results, Try.results61, asAddr, Result.andThen, hld, Act.put]) rfl ⟨rfl, hB⟩
set_option maxHeartbeats 1600000 in
theorem nm_67 (w : World) :
    Calls Try.prog 61 #[.int .u8 67] w fun e w' => e = .returned (.tuple #[.agg (setC (notS (clsS 1 256))).toArray, .bool true]) ∧ Below w.heap.size w w' := by
  have hc := fun W => ofclass_any 1 W
  generalize clsS 1 256 = S at *
  have HC := Lib.hid hc; clear hc
  have h0 := SAtT.new 55 w
  have b0 := blw (Below.refl w.heap.size w) (.cells (List.replicate 32 (Value.int .u8 0)).toArray 55)
  have H0 := Lib.hid (And.intro h0 b0); clear h0 b0
  go_enter Try.func61, Try.ntmps61
  go_upto_region 14 with fail
  go_wp2_with fail
  refine (HC.out _).mono ?_; rintro e w1 ⟨rfl, hb1⟩
  have h1 := H0.out.1.call hb1
  have b1 := BelowOn H0.out.2 hb1
  have HS := Lib.hid (And.intro h1 b1); clear h1 b1
  go_upto_region 21 with (refine wpl_storeSet (by rfl) 55 (Or.inl rfl) _ _ (by rfl) w.heap.size emptyS S (by rfl) (by rfl) HS.out.1 ?_; intro w2 h2 g2)
  have HT := Lib.hid (And.intro h2 (HS.out.2.grown g2 HS.out.2.size (fun j hj => by cases hj; omega)))
  clear h2 g2
  go_upto_region 22 with fail
  have HI := Lib.hid (fun W => inverse_any S W)
  go_wp2_with (refine wpl_loadSet (by rfl) 55 (Or.inl rfl) _ (by rfl) w.heap.size S (by rfl) HT.out.1 ?_)
  refine (HI.out _).mono ?_; rintro e w3 ⟨rfl, hb3⟩
  have h3 := HT.out.1.call hb3
  have b3 := BelowOn HT.out.2 hb3
  have HU := Lib.hid (And.intro h3 b3); clear h3 b3
  go_upto_region 23 with (refine wpl_storeSet (by rfl) 55 (Or.inl rfl) _ _ (by rfl) w.heap.size S (notS S) (by rfl) (by rfl) HU.out.1 ?_; intro w4 h4 g4)
  have HV := Lib.hid (And.intro h4 (HU.out.2.grown g4 HU.out.2.size (fun j hj => by cases hj; omega)))
  clear h4 g4
  go_wp2_with (first | (refine wpl_loadSet (by rfl) 55 (Or.inl rfl) _ (by rfl) w.heap.size (notS S) (by rfl) HV.out.1 ?_) | (refine wpl_storeSet (by rfl) 55 (Or.inl rfl) _ _ (by rfl) w.heap.size (notS S) (notS S) (by rfl) (by rfl) HV.out.1 ?_; intro w5 h5 g5))
  have hld := SAtT.read (Or.inl rfl) h5
  have hB := HV.out.2.grown g5 HV.out.2.size (fun j hj => by cases hj; omega)
  (try simp only [Exit.inBlock, Exit.then])
  refine bodyPost_ret (v := .tuple #[.agg (setC (notS S)).toArray, .bool true]) (by simp [results, Try.results61, asAddr, Result.andThen, hld, Act.put]) rfl ⟨rfl, hB⟩
set_option maxHeartbeats 1600000 in
theorem nm_109 (w : World) :
    Calls Try.prog 61 #[.int .u8 109] w fun e w' => e = .returned (.tuple #[.agg (setC ((clsS 5 256))).toArray, .bool true]) ∧ Below w.heap.size w w' := by
  have hc := fun W => ofclass_any 5 W
  generalize clsS 5 256 = S at *
  have HC := Lib.hid hc; clear hc
  have h0 := SAtT.new 55 w
  have b0 := blw (Below.refl w.heap.size w) (.cells (List.replicate 32 (Value.int .u8 0)).toArray 55)
  have H0 := Lib.hid (And.intro h0 b0); clear h0 b0
  go_enter Try.func61, Try.ntmps61
  go_upto_region 17 with fail
  go_wp2_with fail
  refine (HC.out _).mono ?_; rintro e w1 ⟨rfl, hb1⟩
  have h1 := H0.out.1.call hb1
  have b1 := BelowOn H0.out.2 hb1
  have HS := Lib.hid (And.intro h1 b1); clear h1 b1
  go_upto_region 21 with (refine wpl_storeSet (by rfl) 55 (Or.inl rfl) _ _ (by rfl) w.heap.size emptyS S (by rfl) (by rfl) HS.out.1 ?_; intro w2 h2 g2)
  have HT := Lib.hid (And.intro h2 (HS.out.2.grown g2 HS.out.2.size (fun j hj => by cases hj; omega)))
  clear h2 g2
  go_upto_region 23 with fail
  go_wp2_with (first | (refine wpl_loadSet (by rfl) 55 (Or.inl rfl) _ (by rfl) w.heap.size S (by rfl) HT.out.1 ?_) | (refine wpl_storeSet (by rfl) 55 (Or.inl rfl) _ _ (by rfl) w.heap.size S S (by rfl) (by rfl) HT.out.1 ?_; intro w5 h5 g5))
  have hld := SAtT.read (Or.inl rfl) h5
  have hB := HT.out.2.grown g5 HT.out.2.size (fun j hj => by cases hj; omega)
  (try simp only [Exit.inBlock, Exit.then])
  refine bodyPost_ret (v := .tuple #[.agg (setC S).toArray, .bool true]) (by simp [results, Try.results61, asAddr, Result.andThen, hld, Act.put]) rfl ⟨rfl, hB⟩
set_option maxHeartbeats 1600000 in
theorem nm_77 (w : World) :
    Calls Try.prog 61 #[.int .u8 77] w fun e w' => e = .returned (.tuple #[.agg (setC (notS (clsS 5 256))).toArray, .bool true]) ∧ Below w.heap.size w w' := by
  have hc := fun W => ofclass_any 5 W
  generalize clsS 5 256 = S at *
  have HC := Lib.hid hc; clear hc
  have h0 := SAtT.new 55 w
  have b0 := blw (Below.refl w.heap.size w) (.cells (List.replicate 32 (Value.int .u8 0)).toArray 55)
  have H0 := Lib.hid (And.intro h0 b0); clear h0 b0
  go_enter Try.func61, Try.ntmps61
  go_upto_region 17 with fail
  go_wp2_with fail
  refine (HC.out _).mono ?_; rintro e w1 ⟨rfl, hb1⟩
  have h1 := H0.out.1.call hb1
  have b1 := BelowOn H0.out.2 hb1
  have HS := Lib.hid (And.intro h1 b1); clear h1 b1
  go_upto_region 21 with (refine wpl_storeSet (by rfl) 55 (Or.inl rfl) _ _ (by rfl) w.heap.size emptyS S (by rfl) (by rfl) HS.out.1 ?_; intro w2 h2 g2)
  have HT := Lib.hid (And.intro h2 (HS.out.2.grown g2 HS.out.2.size (fun j hj => by cases hj; omega)))
  clear h2 g2
  go_upto_region 22 with fail
  have HI := Lib.hid (fun W => inverse_any S W)
  go_wp2_with (refine wpl_loadSet (by rfl) 55 (Or.inl rfl) _ (by rfl) w.heap.size S (by rfl) HT.out.1 ?_)
  refine (HI.out _).mono ?_; rintro e w3 ⟨rfl, hb3⟩
  have h3 := HT.out.1.call hb3
  have b3 := BelowOn HT.out.2 hb3
  have HU := Lib.hid (And.intro h3 b3); clear h3 b3
  go_upto_region 23 with (refine wpl_storeSet (by rfl) 55 (Or.inl rfl) _ _ (by rfl) w.heap.size S (notS S) (by rfl) (by rfl) HU.out.1 ?_; intro w4 h4 g4)
  have HV := Lib.hid (And.intro h4 (HU.out.2.grown g4 HU.out.2.size (fun j hj => by cases hj; omega)))
  clear h4 g4
  go_wp2_with (first | (refine wpl_loadSet (by rfl) 55 (Or.inl rfl) _ (by rfl) w.heap.size (notS S) (by rfl) HV.out.1 ?_) | (refine wpl_storeSet (by rfl) 55 (Or.inl rfl) _ _ (by rfl) w.heap.size (notS S) (notS S) (by rfl) (by rfl) HV.out.1 ?_; intro w5 h5 g5))
  have hld := SAtT.read (Or.inl rfl) h5
  have hB := HV.out.2.grown g5 HV.out.2.size (fun j hj => by cases hj; omega)
  (try simp only [Exit.inBlock, Exit.then])
  refine bodyPost_ret (v := .tuple #[.agg (setC (notS S)).toArray, .bool true]) (by simp [results, Try.results61, asAddr, Result.andThen, hld, Act.put]) rfl ⟨rfl, hB⟩
set_option maxHeartbeats 1600000 in
theorem nm_117 (w : World) :
    Calls Try.prog 61 #[.int .u8 117] w fun e w' => e = .returned (.tuple #[.agg (setC ((rangeS emptyS 65 90))).toArray, .bool true]) ∧ Below w.heap.size w w' := by
  have hc := fun W h => addrange_any w.heap.size emptyS 65 90 (by decide) (by decide) (by decide) W h
  generalize rangeS emptyS 65 90 = S at *
  have HC := Lib.hid hc; clear hc
  have h0 := SAtT.new 55 w
  have b0 := blw (Below.refl w.heap.size w) (.cells (List.replicate 32 (Value.int .u8 0)).toArray 55)
  have H0 := Lib.hid (And.intro h0 b0); clear h0 b0
  go_enter Try.func61, Try.ntmps61
  go_upto_region 20 with fail
  go_wp2_with fail
  refine (HC.out _ H0.out.1).mono ?_; rintro e w2 ⟨rfl, g2, h2⟩
  have HT := Lib.hid (And.intro (show SAtT 55 w.heap.size S w2 from h2) (H0.out.2.grown g2 H0.out.2.size (fun j hj => by cases hj; omega)))
  clear h2 g2
  go_upto_region 21 with fail
  go_upto_region 23 with fail
  go_wp2_with (first | (refine wpl_loadSet (by rfl) 55 (Or.inl rfl) _ (by rfl) w.heap.size S (by rfl) HT.out.1 ?_) | (refine wpl_storeSet (by rfl) 55 (Or.inl rfl) _ _ (by rfl) w.heap.size S S (by rfl) (by rfl) HT.out.1 ?_; intro w5 h5 g5))
  have hld := SAtT.read (Or.inl rfl) h5
  have hB := HT.out.2.grown g5 HT.out.2.size (fun j hj => by cases hj; omega)
  (try simp only [Exit.inBlock, Exit.then])
  refine bodyPost_ret (v := .tuple #[.agg (setC S).toArray, .bool true]) (by simp [results, Try.results61, asAddr, Result.andThen, hld, Act.put]) rfl ⟨rfl, hB⟩
set_option maxHeartbeats 1600000 in
theorem nm_85 (w : World) :
    Calls Try.prog 61 #[.int .u8 85] w fun e w' => e = .returned (.tuple #[.agg (setC (notS (rangeS emptyS 65 90))).toArray, .bool true]) ∧ Below w.heap.size w w' := by
  have hc := fun W h => addrange_any w.heap.size emptyS 65 90 (by decide) (by decide) (by decide) W h
  generalize rangeS emptyS 65 90 = S at *
  have HC := Lib.hid hc; clear hc
  have h0 := SAtT.new 55 w
  have b0 := blw (Below.refl w.heap.size w) (.cells (List.replicate 32 (Value.int .u8 0)).toArray 55)
  have H0 := Lib.hid (And.intro h0 b0); clear h0 b0
  go_enter Try.func61, Try.ntmps61
  go_upto_region 20 with fail
  go_wp2_with fail
  refine (HC.out _ H0.out.1).mono ?_; rintro e w2 ⟨rfl, g2, h2⟩
  have HT := Lib.hid (And.intro (show SAtT 55 w.heap.size S w2 from h2) (H0.out.2.grown g2 H0.out.2.size (fun j hj => by cases hj; omega)))
  clear h2 g2
  go_upto_region 21 with fail
  go_upto_region 22 with fail
  have HI := Lib.hid (fun W => inverse_any S W)
  go_wp2_with (refine wpl_loadSet (by rfl) 55 (Or.inl rfl) _ (by rfl) w.heap.size S (by rfl) HT.out.1 ?_)
  refine (HI.out _).mono ?_; rintro e w3 ⟨rfl, hb3⟩
  have h3 := HT.out.1.call hb3
  have b3 := BelowOn HT.out.2 hb3
  have HU := Lib.hid (And.intro h3 b3); clear h3 b3
  go_upto_region 23 with (refine wpl_storeSet (by rfl) 55 (Or.inl rfl) _ _ (by rfl) w.heap.size S (notS S) (by rfl) (by rfl) HU.out.1 ?_; intro w4 h4 g4)
  have HV := Lib.hid (And.intro h4 (HU.out.2.grown g4 HU.out.2.size (fun j hj => by cases hj; omega)))
  clear h4 g4
  go_wp2_with (first | (refine wpl_loadSet (by rfl) 55 (Or.inl rfl) _ (by rfl) w.heap.size (notS S) (by rfl) HV.out.1 ?_) | (refine wpl_storeSet (by rfl) 55 (Or.inl rfl) _ _ (by rfl) w.heap.size (notS S) (notS S) (by rfl) (by rfl) HV.out.1 ?_; intro w5 h5 g5))
  have hld := SAtT.read (Or.inl rfl) h5
  have hB := HV.out.2.grown g5 HV.out.2.size (fun j hj => by cases hj; omega)
  (try simp only [Exit.inBlock, Exit.then])
  refine bodyPost_ret (v := .tuple #[.agg (setC (notS S)).toArray, .bool true]) (by simp [results, Try.results61, asAddr, Result.andThen, hld, Act.put]) rfl ⟨rfl, hB⟩
set_option maxHeartbeats 1600000 in
theorem nm_other (c : Nat) (hc : c < 256) (hs : ∀ x ∈ [115, 83, 100, 68, 108, 76, 99, 67, 109, 77, 117, 85], c ≠ x) (w : World) :
    Calls Try.prog 61 #[.int .u8 c] w fun e w' => e = .returned (.tuple #[.agg (setC emptyS).toArray, .bool false]) ∧ Below w.heap.size w w' := by
  have h0 := SAtT.new 55 w
  have b0 := blw (Below.refl w.heap.size w) (.cells (List.replicate 32 (Value.int .u8 0)).toArray 55)
  have H0 := Lib.hid (And.intro h0 b0); clear h0 b0
  have q : ∀ x : Nat, x ∈ [115, 83, 100, 68, 108, 76, 99, 67, 109, 77, 117, 85] → ((c : Int) == (x : Int)) = false := fun x hx => by have := hs x hx; simp; omega
  have q1 := q 115 (by simp); have q2 := q 83 (by simp); have q3 := q 100 (by simp); have q4 := q 68 (by simp); have q5 := q 108 (by simp); have q6 := q 76 (by simp)
  have q7 := q 99 (by simp); have q8 := q 67 (by simp); have q9 := q 109 (by simp); have q10 := q 77 (by simp); have q11 := q 117 (by simp); have q12 := q 85 (by simp)
  clear q hs
  go_enter Try.func61, Try.ntmps61
  go_upto_region 2 with fail
  go_wp2_with (refine wpl_storeSet (by rfl) 55 (Or.inl rfl) _ _ (by rfl) w.heap.size emptyS emptyS (by rfl) (by rfl) H0.out.1 ?_; intro w5 h5 g5)
  have hld := SAtT.read (Or.inl rfl) h5
  have hB := H0.out.2.grown g5 H0.out.2.size (fun j hj => by cases hj; omega)
  (try simp only [Exit.inBlock, Exit.then])
  refine bodyPost_ret (v := .tuple #[.agg (setC emptyS).toArray, .bool false]) (by simp [results, Try.results61, asAddr, Result.andThen, hld, Act.put]) rfl ⟨rfl, hB⟩
theorem named_any (c : Nat) (hc : c < 256) (w : World) :
    Calls Try.prog 61 #[.int .u8 c] w fun e w' => e = .returned (.tuple #[.agg (setC ((nmS c).getD emptyS)).toArray, .bool (nmS c).isSome]) ∧ Below w.heap.size w w' := by
  by_cases hs : ∀ x ∈ [115, 83, 100, 68, 108, 76, 99, 67, 109, 77, 117, 85], c ≠ x
  · have : nmS c = none := by unfold nmS; simp at hs; simp [hs]
    rw [this]; exact nm_other c hc hs w
  · have hs : c ∈ [115, 83, 100, 68, 108, 76, 99, 67, 109, 77, 117, 85] := by
      refine Classical.byContradiction fun hn => hs fun x hx e => hn (e ▸ hx)
    simp only [List.mem_cons, List.not_mem_nil, or_false] at hs
    rcases hs with rfl | rfl | rfl | rfl | rfl | rfl | rfl | rfl | rfl | rfl | rfl | rfl
    · exact nm_115 w
    · exact nm_83 w
    · exact nm_100 w
    · exact nm_68 w
    · exact nm_108 w
    · exact nm_76 w
    · exact nm_99 w
    · exact nm_67 w
    · exact nm_109 w
    · exact nm_77 w
    · exact nm_117 w
    · exact nm_85 w
end Go.Proofs.Ytdnofpllmhnacaa
