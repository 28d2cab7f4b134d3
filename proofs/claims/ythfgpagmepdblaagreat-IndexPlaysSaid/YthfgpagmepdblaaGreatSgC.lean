/- The sorts, the comparison of strings and the small functions of the library, laid at this program. Shingle: contracts of cmp.Or and of compare. Shingle: sorted rows of grams; what the map of the pairs says. Shingle: contract of Grams. Shingle: contract of Missing. -/
import Derived.Shelf.Small.Bits
import Derived.Shelf.Small.Strs
import Derived.Shelf.Small.Wraps
import Derived.Shelf.Strconv.Itoa0
import Derived.Shelf.Sort.Plain
import Derived.Shelf.Slices.SearchI
import Derived.Shelf.Slices.In.SortNone
import Derived.Shelf.SlGeneric
import Derived.Shelf.SlSortCmp.WholeK
import Derived.Test.YthfgpagmepdblaaGreatProg
import Derived.Test.YthfgpagmepdblaaGreatSgA
import Derived.StillTailTactics
import Derived.Sort.LotA
import Derived.Test.YthfgpagmepdblaaGreatSgR
import Derived.Sort.OwnSorted
import Derived.WalkKit
import Derived.Maps.RangeWalk
import Derived.Laws.IdiomRangeMap
import Derived.Deep.LoopGhost
import Derived.Deep.RegionHeld3
namespace Go.Proofs
open Go.Shelf
def Tryz.lays128_ren : Go.Shelf.Ren := ⟨fun | 128 => 66 | n => n, fun | 51 => 110 | 3 => 3 | 4 => 4 | 46 => 85 | 5 => 5 | 9 => 9 | n => n, fun | n => n⟩
theorem Tryz.lays128 : Go.Proofs.Lays.n128 Tryz.prog Tryz.lays128_ren := {
  mixed := by kernel_rfl
  f128 := Tryz.func66.trans (congrArg some (by kernel_rfl))
  t3 := Tryz.underlying3
  a3 := Tryz.isAgg3
  z3 := Tryz.sizeOf3
  v3 := Tryz.zeroValue3
  t4 := Tryz.underlying4
  a4 := Tryz.isAgg4
  z4 := Tryz.sizeOf4
  v4 := Tryz.zeroValue4
  t5 := Tryz.underlying5
  a5 := Tryz.isAgg5
  z5 := Tryz.sizeOf5
  v5 := Tryz.zeroValue5
  t9 := Tryz.underlying9
  a9 := Tryz.isAgg9
  z9 := Tryz.sizeOf9
  v9 := Tryz.zeroValue9
  t46 := Tryz.underlying85
  a46 := Tryz.isAgg85
  z46 := Tryz.sizeOf85
  v46 := Tryz.zeroValue85
  t51 := Tryz.underlying110
  a51 := Tryz.isAgg110
  z51 := Tryz.sizeOf110
  v51 := Tryz.zeroValue110 }
/-- bits.Len32: "Len32 returns the minimum number of bits required to represent x; the result is 0 for x == 0.": IT RETURNS 'Lib.bitLen x'; the world is as it was. ('h0', 'h1': x is a uint32.) (LAID: no walk: one application.) -/
theorem Tryz.bits_Len32 (x : Int) (w : World) (h0 : 0 ≤ x) (h1 : x ≤ 4294967295) :
    Calls Tryz.prog 66 #[.int .u32 x] w fun e w' => e = .returned (.int .i64 (Lib.bitLen x.toNat)) ∧ w' = w := Any.bits_Len32 Tryz.lays128 x w h0 h1
def Tryz.lays125_ren : Go.Shelf.Ren := ⟨fun | 125 => 40 | 128 => 66 | 129 => 67 | n => n, fun | 46 => 85 | 3 => 3 | 51 => 110 | 53 => 112 | 4 => 4 | 5 => 5 | 9 => 9 | n => n, fun | n => n⟩
theorem Tryz.lays125 : Go.Proofs.Lays.n125 Tryz.prog Tryz.lays125_ren := {
  mixed := by kernel_rfl
  f125 := Tryz.func40.trans (congrArg some (by kernel_rfl))
  f128 := Tryz.func66.trans (congrArg some (by kernel_rfl))
  f129 := Tryz.func67.trans (congrArg some (by kernel_rfl))
  t3 := Tryz.underlying3
  a3 := Tryz.isAgg3
  z3 := Tryz.sizeOf3
  v3 := Tryz.zeroValue3
  t4 := Tryz.underlying4
  a4 := Tryz.isAgg4
  z4 := Tryz.sizeOf4
  v4 := Tryz.zeroValue4
  t5 := Tryz.underlying5
  a5 := Tryz.isAgg5
  z5 := Tryz.sizeOf5
  v5 := Tryz.zeroValue5
  t9 := Tryz.underlying9
  a9 := Tryz.isAgg9
  z9 := Tryz.sizeOf9
  v9 := Tryz.zeroValue9
  t46 := Tryz.underlying85
  a46 := Tryz.isAgg85
  z46 := Tryz.sizeOf85
  v46 := Tryz.zeroValue85
  t51 := Tryz.underlying110
  a51 := Tryz.isAgg110
  z51 := Tryz.sizeOf110
  v51 := Tryz.zeroValue110
  t53 := Tryz.underlying112
  a53 := Tryz.isAgg112
  z53 := Tryz.sizeOf112
  v53 := Tryz.zeroValue112 }
/-- bits.Len: "Len returns the minimum number of bits required to represent x; the result is 0 for x == 0.": IT RETURNS 'Lib.bitLen x'; the world is as it was. (A uint has 64 bits in the model.) ITS CALLEE bits.Len64 IS MET BY ITS OWN CONTRACT OFF THE SHELF (lay that first). (LAID: no walk: one application.) -/
theorem Tryz.bits_Len (x : Int) (w : World) (h0 : 0 ≤ x) (h1 : x ≤ 18446744073709551615) :
    Calls Tryz.prog 40 #[.int .u64 x] w fun e w' => e = .returned (.int .i64 (Lib.bitLen x.toNat)) ∧ w' = w := Any.bits_Len Tryz.lays125 x w h0 h1
def Tryz.lays213_ren : Go.Shelf.Ren := ⟨fun | 213 => 98 | 265 => 105 | n => n, fun | 9 => 9 | 3 => 3 | n => n, fun | n => n⟩
theorem Tryz.lays213 : Go.Proofs.Lays.n213 Tryz.prog Tryz.lays213_ren := {
  mixed := by kernel_rfl
  f213 := Tryz.func98.trans (congrArg some (by kernel_rfl))
  f265 := Tryz.func105.trans (congrArg some (by kernel_rfl))
  t3 := Tryz.underlying3
  a3 := Tryz.isAgg3
  z3 := Tryz.sizeOf3
  v3 := Tryz.zeroValue3
  t9 := Tryz.underlying9
  a9 := Tryz.isAgg9
  z9 := Tryz.sizeOf9
  v9 := Tryz.zeroValue9 }
open Go.RowKit in
/-- internal/bytealg.CompareString (what strings.Compare calls): IT RETURNS 'Lib.compareBytes a b'; the world is as it was. (LAID: no walk: one application.) -/
theorem Tryz.bytealg_CompareString (a b : ByteArray) (w : World) :
    Calls Tryz.prog 98 #[.string a, .string b] w fun e w' => e = .returned (.int .i64 (Lib.compareBytes a.data.toList b.data.toList)) ∧ w' = w := Any.bytealg_CompareString Tryz.lays213 a b w
def Tryz.lays106_ren : Go.Shelf.Ren := ⟨fun | 106 => 77 | 213 => 98 | 265 => 105 | n => n, fun | 9 => 9 | 3 => 3 | n => n, fun | n => n⟩
theorem Tryz.lays106 : Go.Proofs.Lays.n106 Tryz.prog Tryz.lays106_ren := {
  mixed := by kernel_rfl
  f106 := Tryz.func77.trans (congrArg some (by kernel_rfl))
  f213 := Tryz.func98.trans (congrArg some (by kernel_rfl))
  f265 := Tryz.func105.trans (congrArg some (by kernel_rfl))
  t3 := Tryz.underlying3
  a3 := Tryz.isAgg3
  z3 := Tryz.sizeOf3
  v3 := Tryz.zeroValue3
  t9 := Tryz.underlying9
  a9 := Tryz.isAgg9
  z9 := Tryz.sizeOf9
  v9 := Tryz.zeroValue9 }
open Go.RowKit in
/-- strings.Compare: "Compare returns an integer comparing two strings lexicographically. The result will be 0 if a == b, -1 if a < b, and +1 if a > b.": IT RETURNS 'Lib.compareBytes a b'; the world is as it was. (LAID: no walk: one application.) -/
theorem Tryz.strings_Compare (a b : ByteArray) (w : World) :
    Calls Tryz.prog 77 #[.string a, .string b] w fun e w' => e = .returned (.int .i64 (Lib.compareBytes a.data.toList b.data.toList)) ∧ w' = w := Any.strings_Compare Tryz.lays106 a b w
def Tryz.lays215_ren : Go.Shelf.Ren := ⟨fun | 215 => 85 | n => n, fun | 3 => 3 | 4 => 4 | n => n, fun | n => n⟩
theorem Tryz.lays215 : Go.Proofs.Lays.n215 Tryz.prog Tryz.lays215_ren := {
  mixed := by kernel_rfl
  f215 := Tryz.func85.trans (congrArg some (by kernel_rfl))
  t3 := Tryz.underlying3
  a3 := Tryz.isAgg3
  z3 := Tryz.sizeOf3
  v3 := Tryz.zeroValue3
  t4 := Tryz.underlying4
  a4 := Tryz.isAgg4
  z4 := Tryz.sizeOf4
  v4 := Tryz.zeroValue4 }
open Go.RowKit in
/-- cmp.isNaN at int: 'x != x': false. (LAID: no walk: one application.) -/
theorem Tryz.cmp_isNaN_int (x : Int) (w : World) :
    Calls Tryz.prog 85 #[.int .i64 x] w fun e w' => e = .returned (.bool false) ∧ w' = w := Any.cmp_isNaN_int Tryz.lays215 x w
def Tryz.lays129_ren : Go.Shelf.Ren := ⟨fun | 129 => 67 | n => n, fun | 53 => 112 | 3 => 3 | 4 => 4 | 46 => 85 | 5 => 5 | 9 => 9 | n => n, fun | n => n⟩
theorem Tryz.lays129 : Go.Proofs.Lays.n129 Tryz.prog Tryz.lays129_ren := {
  mixed := by kernel_rfl
  f129 := Tryz.func67.trans (congrArg some (by kernel_rfl))
  t3 := Tryz.underlying3
  a3 := Tryz.isAgg3
  z3 := Tryz.sizeOf3
  v3 := Tryz.zeroValue3
  t4 := Tryz.underlying4
  a4 := Tryz.isAgg4
  z4 := Tryz.sizeOf4
  v4 := Tryz.zeroValue4
  t5 := Tryz.underlying5
  a5 := Tryz.isAgg5
  z5 := Tryz.sizeOf5
  v5 := Tryz.zeroValue5
  t9 := Tryz.underlying9
  a9 := Tryz.isAgg9
  z9 := Tryz.sizeOf9
  v9 := Tryz.zeroValue9
  t46 := Tryz.underlying85
  a46 := Tryz.isAgg85
  z46 := Tryz.sizeOf85
  v46 := Tryz.zeroValue85
  t53 := Tryz.underlying112
  a53 := Tryz.isAgg112
  z53 := Tryz.sizeOf112
  v53 := Tryz.zeroValue112 }
/-- bits.Len64: "Len64 returns the minimum number of bits required to represent x; the result is 0 for x == 0.": IT RETURNS 'Lib.bitLen x'; the world is as it was. ('h0', 'h1': x is a uint64.) (LAID: no walk: one application.) -/
theorem Tryz.bits_Len64 (x : Int) (w : World) (h0 : 0 ≤ x) (h1 : x ≤ 18446744073709551615) :
    Calls Tryz.prog 67 #[.int .u64 x] w fun e w' => e = .returned (.int .i64 (Lib.bitLen x.toNat)) ∧ w' = w := Any.bits_Len64 Tryz.lays129 x w h0 h1
def Tryz.lays189_ren : Go.Shelf.Ren := ⟨fun | 189 => 25 | 125 => 40 | 257 => 39 | 128 => 66 | 129 => 67 | 294 => 57 | 295 => 58 | 296 => 59 | 297 => 60 | 298 => 61 | 299 => 62 | 216 => 63 | 300 => 64 | 301 => 65 | 328 => 80 | 329 => 81 | 330 => 82 | 331 => 83 | 332 => 84 | 215 => 85 | 343 => 100 | n => n, fun | 28 => 22 | 3 => 3 | 46 => 85 | 0 => 0 | 51 => 110 | 53 => 112 | 4 => 4 | 183 => 102 | 182 => 101 | 131 => 107 | 5 => 5 | 9 => 9 | 218 => 120 | 222 => 124 | 228 => 135 | 229 => 136 | n => n, fun | n => n⟩
theorem Tryz.lays189 : Go.Proofs.Lays.n189 Tryz.prog Tryz.lays189_ren := {
  mixed := by kernel_rfl
  f125 := Tryz.func40.trans (congrArg some (by kernel_rfl))
  f128 := Tryz.func66.trans (congrArg some (by kernel_rfl))
  f129 := Tryz.func67.trans (congrArg some (by kernel_rfl))
  f189 := Tryz.func25.trans (congrArg some (by kernel_rfl))
  f215 := Tryz.func85.trans (congrArg some (by kernel_rfl))
  f216 := Tryz.func63.trans (congrArg some (by kernel_rfl))
  f257 := Tryz.func39.trans (congrArg some (by kernel_rfl))
  f294 := Tryz.func57.trans (congrArg some (by kernel_rfl))
  f295 := Tryz.func58.trans (congrArg some (by kernel_rfl))
  f296 := Tryz.func59.trans (congrArg some (by kernel_rfl))
  f297 := Tryz.func60.trans (congrArg some (by kernel_rfl))
  f298 := Tryz.func61.trans (congrArg some (by kernel_rfl))
  f299 := Tryz.func62.trans (congrArg some (by kernel_rfl))
  f300 := Tryz.func64.trans (congrArg some (by kernel_rfl))
  f301 := Tryz.func65.trans (congrArg some (by kernel_rfl))
  f328 := Tryz.func80.trans (congrArg some (by kernel_rfl))
  f329 := Tryz.func81.trans (congrArg some (by kernel_rfl))
  f330 := Tryz.func82.trans (congrArg some (by kernel_rfl))
  f331 := Tryz.func83.trans (congrArg some (by kernel_rfl))
  f332 := Tryz.func84.trans (congrArg some (by kernel_rfl))
  f343 := Tryz.func100.trans (congrArg some (by kernel_rfl))
  t0 := Tryz.underlying0
  a0 := Tryz.isAgg0
  z0 := Tryz.sizeOf0
  v0 := Tryz.zeroValue0
  t3 := Tryz.underlying3
  a3 := Tryz.isAgg3
  z3 := Tryz.sizeOf3
  v3 := Tryz.zeroValue3
  t4 := Tryz.underlying4
  a4 := Tryz.isAgg4
  z4 := Tryz.sizeOf4
  v4 := Tryz.zeroValue4
  t5 := Tryz.underlying5
  a5 := Tryz.isAgg5
  z5 := Tryz.sizeOf5
  v5 := Tryz.zeroValue5
  t9 := Tryz.underlying9
  a9 := Tryz.isAgg9
  z9 := Tryz.sizeOf9
  v9 := Tryz.zeroValue9
  t28 := Tryz.underlying22
  a28 := Tryz.isAgg22
  z28 := Tryz.sizeOf22
  v28 := Tryz.zeroValue22
  t46 := Tryz.underlying85
  a46 := Tryz.isAgg85
  z46 := Tryz.sizeOf85
  v46 := Tryz.zeroValue85
  t51 := Tryz.underlying110
  a51 := Tryz.isAgg110
  z51 := Tryz.sizeOf110
  v51 := Tryz.zeroValue110
  t53 := Tryz.underlying112
  a53 := Tryz.isAgg112
  z53 := Tryz.sizeOf112
  v53 := Tryz.zeroValue112
  t131 := Tryz.underlying107
  a131 := Tryz.isAgg107
  z131 := Tryz.sizeOf107
  v131 := Tryz.zeroValue107
  t182 := Tryz.underlying101
  a182 := Tryz.isAgg101
  z182 := Tryz.sizeOf101
  v182 := Tryz.zeroValue101
  t183 := Tryz.underlying102
  a183 := Tryz.isAgg102
  z183 := Tryz.sizeOf102
  v183 := Tryz.zeroValue102
  t218 := Tryz.underlying120
  a218 := Tryz.isAgg120
  z218 := Tryz.sizeOf120
  v218 := Tryz.zeroValue120
  t222 := Tryz.underlying124
  a222 := Tryz.isAgg124
  z222 := Tryz.sizeOf124
  v222 := Tryz.zeroValue124
  t228 := Tryz.underlying135
  a228 := Tryz.isAgg135
  z228 := Tryz.sizeOf135
  v228 := Tryz.zeroValue135
  t229 := Tryz.underlying136
  a229 := Tryz.isAgg136
  z229 := Tryz.sizeOf136
  v229 := Tryz.zeroValue136 }
open Go.Sort Go.RowKit in
theorem Tryz.slices_Sort_int (blk off cap : Nat) (zs : List Int) (w : World) (hH : Holds (Value.int .i64) w blk off zs.toArray) (hblk : blk < w.heap.size) (hsz : zs.length < 4611686018427387904) :
    Calls Tryz.prog 25 #[.slice (some ⟨blk, off, none⟩) zs.length cap] w fun e w' =>
      e = .returned (.tuple #[]) ∧ ∃ n os, w' = grow (putRow (Value.int .i64) (Sort.ahead w n) blk off (zs.mergeSort fun x y => decide (x ≤ y)).toArray) os := Any.slices_Sort_int Tryz.lays189 blk off cap zs w hH hblk hsz
def Tryz.laysNm237_ren : Go.Shelf.Ren := ⟨fun | 37 => 85 | n => n, fun | 3 => 3 | 4 => 4 | n => n, fun | n => n⟩
theorem Tryz.laysNm237 : Go.Proofs.Lays2.n37 Tryz.prog Tryz.laysNm237_ren := {
  mixed := by kernel_rfl
  f37 := Tryz.func85.trans (congrArg some (by kernel_rfl))
  t3 := Tryz.underlying3
  a3 := Tryz.isAgg3
  z3 := Tryz.sizeOf3
  v3 := Tryz.zeroValue3
  t4 := Tryz.underlying4
  a4 := Tryz.isAgg4
  z4 := Tryz.sizeOf4
  v4 := Tryz.zeroValue4 }
open Go.RowKit Go.Lib in
/-- cmp.isNaN[int]: 'x != x': false. (LAID: no walk: one application.) -/
theorem Tryz.cmp_isNaN_int2 (x : Int) (w : World) :
    Calls Tryz.prog 85 #[.int .i64 x] w fun e w' => e = .returned (.bool false) ∧ w' = w := Any.cmp_isNaN_int2 Tryz.laysNm237 x w
def Tryz.laysNm231_ren : Go.Shelf.Ren := ⟨fun | 31 => 63 | 37 => 85 | n => n, fun | 3 => 3 | 4 => 4 | n => n, fun | n => n⟩
theorem Tryz.laysNm231 : Go.Proofs.Lays2.n31 Tryz.prog Tryz.laysNm231_ren := {
  mixed := by kernel_rfl
  f31 := Tryz.func63.trans (congrArg some (by kernel_rfl))
  f37 := Tryz.func85.trans (congrArg some (by kernel_rfl))
  t3 := Tryz.underlying3
  a3 := Tryz.isAgg3
  z3 := Tryz.sizeOf3
  v3 := Tryz.zeroValue3
  t4 := Tryz.underlying4
  a4 := Tryz.isAgg4
  z4 := Tryz.sizeOf4
  v4 := Tryz.zeroValue4 }
open Go.RowKit Go.Lib in
/-- cmp.Less[int]: "Less reports whether x is less than y.": 'x < y'; the world is as it was. (LAID: no walk: one application.) -/
theorem Tryz.cmp_Less_int2 (x y : Int) (w : World) :
    Calls Tryz.prog 63 #[.int .i64 x, .int .i64 y] w fun e w' => e = .returned (.bool (decide (x < y))) ∧ w' = w := Any.cmp_Less_int2 Tryz.laysNm231 x y w
open Go.RowKit Go.Sort in
/-- .. and plain. (LAID: no walk: one application.) -/
theorem Tryz.slices_Sort_int_none (p : Option Addr) (cap : Nat) (w : World) :
    Calls Tryz.prog 25 #[.slice p 0 cap] w fun e w' => e = .returned (.tuple #[]) ∧ w' = w := Any.slices_Sort_int_none Tryz.lays189 p cap w
def Tryz.sortG_ren : Go.Shelf.Ren := ⟨fun | 6 => 51 | 15 => 40 | 14 => 75 | 28 => 66 | 29 => 67 | 20 => 90 | 21 => 91 | 22 => 92 | 23 => 93 | 24 => 94 | 25 => 95 | 26 => 96 | 27 => 97 | 46 => 102 | 47 => 81 | 48 => 82 | 49 => 103 | 50 => 104 | 57 => 106 | n => n, fun | 22 => 58 | 24 => 72 | 25 => 94 | 3 => 3 | 39 => 85 | 0 => 0 | 53 => 110 | 55 => 112 | 4 => 4 | 46 => 102 | 45 => 101 | 50 => 107 | 5 => 5 | 9 => 9 | 66 => 120 | 70 => 124 | 76 => 135 | 77 => 136 | n => n, fun | n => n⟩
theorem Tryz.sortG : Go.Proofs.SlLaysF0.n6 Tryz.prog Tryz.sortG_ren := {
  mixed := by kernel_rfl
  f6 := ⟨Tryz.f51.name, by decide, Tryz.func51.trans (congrArg some (by kernel_rfl))⟩
  f14 := ⟨Tryz.f75.name, by decide, Tryz.func75.trans (congrArg some (by kernel_rfl))⟩
  f15 := Tryz.func40.trans (congrArg some (by kernel_rfl))
  f20 := ⟨Tryz.f90.name, by decide, Tryz.func90.trans (congrArg some (by kernel_rfl))⟩
  f21 := ⟨Tryz.f91.name, by decide, Tryz.func91.trans (congrArg some (by kernel_rfl))⟩
  f22 := ⟨Tryz.f92.name, by decide, Tryz.func92.trans (congrArg some (by kernel_rfl))⟩
  f23 := ⟨Tryz.f93.name, by decide, Tryz.func93.trans (congrArg some (by kernel_rfl))⟩
  f24 := ⟨Tryz.f94.name, by decide, Tryz.func94.trans (congrArg some (by kernel_rfl))⟩
  f25 := ⟨Tryz.f95.name, by decide, Tryz.func95.trans (congrArg some (by kernel_rfl))⟩
  f26 := ⟨Tryz.f96.name, by decide, Tryz.func96.trans (congrArg some (by kernel_rfl))⟩
  f27 := ⟨Tryz.f97.name, by decide, Tryz.func97.trans (congrArg some (by kernel_rfl))⟩
  f28 := Tryz.func66.trans (congrArg some (by kernel_rfl))
  f29 := Tryz.func67.trans (congrArg some (by kernel_rfl))
  f46 := ⟨Tryz.f102.name, by decide, Tryz.func102.trans (congrArg some (by kernel_rfl))⟩
  f47 := Tryz.func81.trans (congrArg some (by kernel_rfl))
  f48 := Tryz.func82.trans (congrArg some (by kernel_rfl))
  f49 := ⟨Tryz.f103.name, by decide, Tryz.func103.trans (congrArg some (by kernel_rfl))⟩
  f50 := ⟨Tryz.f104.name, by decide, Tryz.func104.trans (congrArg some (by kernel_rfl))⟩
  f57 := ⟨Tryz.f106.name, by decide, Tryz.func106.trans (congrArg some (by kernel_rfl))⟩
  t0 := Tryz.underlying0
  a0 := Tryz.isAgg0
  z0 := Tryz.sizeOf0
  v0 := Tryz.zeroValue0
  t3 := Tryz.underlying3
  a3 := Tryz.isAgg3
  z3 := Tryz.sizeOf3
  v3 := Tryz.zeroValue3
  t4 := Tryz.underlying4
  a4 := Tryz.isAgg4
  z4 := Tryz.sizeOf4
  v4 := Tryz.zeroValue4
  t5 := Tryz.underlying5
  a5 := Tryz.isAgg5
  z5 := Tryz.sizeOf5
  v5 := Tryz.zeroValue5
  t9 := Tryz.underlying9
  a9 := Tryz.isAgg9
  z9 := Tryz.sizeOf9
  v9 := Tryz.zeroValue9
  t22 := Tryz.underlying58
  a22 := Tryz.isAgg58
  z22 := Tryz.sizeOf58
  v22 := Tryz.zeroValue58
  t25 := Tryz.underlying94
  a25 := Tryz.isAgg94
  z25 := Tryz.sizeOf94
  v25 := Tryz.zeroValue94
  t39 := Tryz.underlying85
  a39 := Tryz.isAgg85
  z39 := Tryz.sizeOf85
  v39 := Tryz.zeroValue85
  t45 := Tryz.underlying101
  a45 := Tryz.isAgg101
  z45 := Tryz.sizeOf101
  v45 := Tryz.zeroValue101
  t46 := Tryz.underlying102
  a46 := Tryz.isAgg102
  z46 := Tryz.sizeOf102
  v46 := Tryz.zeroValue102
  t50 := Tryz.underlying107
  a50 := Tryz.isAgg107
  z50 := Tryz.sizeOf107
  v50 := Tryz.zeroValue107
  t53 := Tryz.underlying110
  a53 := Tryz.isAgg110
  z53 := Tryz.sizeOf110
  v53 := Tryz.zeroValue110
  t55 := Tryz.underlying112
  a55 := Tryz.isAgg112
  z55 := Tryz.sizeOf112
  v55 := Tryz.zeroValue112
  t66 := Tryz.underlying120
  a66 := Tryz.isAgg120
  z66 := Tryz.sizeOf120
  v66 := Tryz.zeroValue120
  t70 := Tryz.underlying124
  a70 := Tryz.isAgg124
  z70 := Tryz.sizeOf124
  v70 := Tryz.zeroValue124
  t76 := Tryz.underlying135
  a76 := Tryz.isAgg135
  z76 := Tryz.sizeOf135
  v76 := Tryz.zeroValue135
  t77 := Tryz.underlying136
  a77 := Tryz.isAgg136
  z77 := Tryz.sizeOf136
  v77 := Tryz.zeroValue136 }
end Go.Proofs
namespace Go.Proofs.YthfgpagmepdblaaGreat
open Go.ChangeShapes Go.WideShapes Go.ChangeAt Go.RowKit Go.Maps Go.Sort
set_option linter.unusedVariables false
set_option linter.unusedSimpArgs false
set_option maxRecDepth 100000

set_option maxHeartbeats 1600000 in
theorem or_any (B : Nat) (c1 c2 : Int) (W : World) (h0 : W.cell? ⟨B, 0, none⟩ = some (.int .i64 c1)) (h1 : W.cell? ⟨B, 1, none⟩ = some (.int .i64 c2)) :
    Calls Tryz.prog 76 #[.slice (some ⟨B, 0, none⟩) 2 2] W fun e w' => e = .returned (.int .i64 (if c1 ≠ 0 then c1 else c2)) ∧ w' = W := by
  by_cases hc : c1 = 0
  · have q1 : (c1 != 0) = false := by simp [hc]
    have HR := Lib.hid (show (if c1 ≠ 0 then c1 else c2) = c2 by rw [if_neg (by simpa using hc)])
    rw [HR.out]
    clear hc
    by_cases hd : c2 = 0
    · have q2 : (c2 != 0) = false := by simp [hd]
      have HD := Lib.hid hd; clear hd
      go_enter Tryz.func76, Tryz.ntmps76
      go_wp2_with fail
      refine wp_loop_rounds 3 ?_
      rw [rounds_succ]
      go_wp2_with fail
      rw [rounds_succ]
      go_wp2_with fail
      rw [rounds_succ]
      go_wp2_with fail
      go_ret
      exact ⟨by rw [HD.out]; rfl, rfl⟩
    · have q2 : (c2 != 0) = true := by simp [hd]
      clear hd
      go_enter Tryz.func76, Tryz.ntmps76
      go_wp2_with fail
      refine wp_loop_rounds 3 ?_
      rw [rounds_succ]
      go_wp2_with fail
      rw [rounds_succ]
      go_wp2_with fail
      go_ret
      exact ⟨rfl, rfl⟩
  · have q1 : (c1 != 0) = true := by simp [hc]
    have HR := Lib.hid (show (if c1 ≠ 0 then c1 else c2) = c1 by rw [if_pos hc])
    rw [HR.out]
    clear hc
    go_enter Tryz.func76, Tryz.ntmps76
    go_wp2_with fail
    refine wp_loop_rounds 3 ?_
    rw [rounds_succ]
    go_wp2_with fail
    go_ret
    exact ⟨rfl, rfl⟩
def cmpG (a b : Gm) : Int := cmpP a.key b.key
set_option maxHeartbeats 3200000 in
theorem compare_any (a b : Gm) (W : World) : Calls Tryz.prog 52 #[.agg #[.string a.f, .string a.s, .int .i64 a.n], .agg #[.string b.f, .string b.s, .int .i64 b.n]] W fun e w' => e = .returned (.int .i64 (cmpG a b)) ∧ ∃ q os', w' = grow (W.drewN q) os' := by
  have h1 := fun W => Tryz.strings_Compare a.f b.f W
  have h2 := fun W => Tryz.strings_Compare a.s b.s W
  have hr : cmpG a b = if Lib.compareBytes a.f.data.toList b.f.data.toList ≠ 0 then Lib.compareBytes a.f.data.toList b.f.data.toList else Lib.compareBytes a.s.data.toList b.s.data.toList := rfl
  have HR := Lib.hid hr
  clear hr
  generalize Lib.compareBytes a.f.data.toList b.f.data.toList = c1 at *
  generalize Lib.compareBytes a.s.data.toList b.s.data.toList = c2 at *
  have ho := (fun B W h0 h1 => or_any B c1 c2 W h0 h1)
  generalize (if c1 ≠ 0 then c1 else c2) = r at *
  have HO := Lib.hid ho
  clear ho
  have H1 := Lib.hid h1; have H2 := Lib.hid h2
  clear h1 h2
  have mixed : Tryz.prog.follows .mixedOrders = true := by kernel_rfl
  go_enter Tryz.func52, Tryz.ntmps52
  have hA := heap_alloc_new W (.cells #[.string a.f, .string a.s, .int .i64 a.n] 72)
  have hA2 := keep_heap hA (blw (Below.refl _ _) (.cells #[.string b.f, .string b.s, .int .i64 b.n] 72))
  have hB2 := heap_alloc_new (W.alloc (.cells #[.string a.f, .string a.s, .int .i64 a.n] 72)) (.cells #[.string b.f, .string b.s, .int .i64 b.n] 72)
  have hG : ((W.alloc (.cells #[.string a.f, .string a.s, .int .i64 a.n] 72)).alloc (.cells #[.string b.f, .string b.s, .int .i64 b.n] 72)) = grow W #[.cells #[.string a.f, .string a.s, .int .i64 a.n] 72, .cells #[.string b.f, .string b.s, .int .i64 b.n] 72] := by
    rw [alloc_eq_grow, alloc_eq_grow, grow_grow]; rfl
  have hs : (W.alloc (.cells #[.string a.f, .string a.s, .int .i64 a.n] 72)).heap.size = W.heap.size + 1 := by simp
  rw [hs] at hB2
  have HG := Lib.hid hG
  clear hA hs hG
  go_upto_region 1 with (fail)
  generalize ((W.alloc (.cells #[.string a.f, .string a.s, .int .i64 a.n] 72)).alloc (.cells #[.string b.f, .string b.s, .int .i64 b.n] 72)) = W1 at *
  have a0 : W1.drew.cell? ⟨W.heap.size, 0, none⟩ = some (.string a.f) := by rw [Lib.cell_of_heap (w := W1.drew) hA2]; rfl
  have a1 : W1.drew.cell? ⟨W.heap.size, 1, none⟩ = some (.string a.s) := by rw [Lib.cell_of_heap (w := W1.drew) hA2]; rfl
  have b0 : W1.drew.cell? ⟨W.heap.size + 1, 0, none⟩ = some (.string b.f) := by rw [Lib.cell_of_heap (w := W1.drew) hB2]; rfl
  have b1 : W1.drew.cell? ⟨W.heap.size + 1, 1, none⟩ = some (.string b.s) := by rw [Lib.cell_of_heap (w := W1.drew) hB2]; rfl
  clear hA2 hB2
  generalize W.heap.size = g at *
  go_still_tail 10, (by kernel_rfl)
  repeat still_step
  still_call ((H1.out _).mono (fun e w' h => ⟨h.1, h.2⟩))
  repeat still_step
  still_call ((H2.out _).mono (fun e w' h => ⟨h.1, h.2⟩))
  repeat still_step
  refine wpStill_nil ?_
  change wpList _ _ _ _ _ W1.drew
  clear a0 a1 b0 b1
  have hn := heap_alloc_new W1.drew (.cells #[.int .i64 c1, .int .i64 c2] 3)
  have d0 : (W1.drew.alloc (.cells #[.int .i64 c1, .int .i64 c2] 3)).cell? ⟨W1.drew.heap.size, 0, none⟩ = some (.int .i64 c1) := by rw [Lib.cell_of_heap hn]; rfl
  have d1 : (W1.drew.alloc (.cells #[.int .i64 c1, .int .i64 c2] 3)).cell? ⟨W1.drew.heap.size, 1, none⟩ = some (.int .i64 c2) := by rw [Lib.cell_of_heap hn]; rfl
  have hc := HO.out _ _ d0 d1
  have HC := Lib.hid hc
  clear hn d0 d1 hc
  have hF : ∃ q os', W1.drew.alloc (.cells #[.int .i64 c1, .int .i64 c2] 3) = grow (W.drewN q) os' := by
    refine ⟨1, #[.cells #[.string a.f, .string a.s, .int .i64 a.n] 72, .cells #[.string b.f, .string b.s, .int .i64 b.n] 72] ++ #[.cells #[.int .i64 c1, .int .i64 c2] 3], ?_⟩
    rw [HG.out, alloc_eq_grow]
    show grow (grow W.drew _) _ = _
    rw [grow_grow]; rfl
  have HF := Lib.hid hF
  clear hF
  go_wp2_with fail
  refine HC.out.mono ?_; rintro e w' ⟨rfl, rfl⟩
  go_wp2_with fail
  go_ret
  exact ⟨by rw [HR.out]; rfl, HF.out⟩
theorem cmpG_lt (a b : Gm) : ltOf cmpG a b = bfP a.key b.key := by
  unfold ltOf cmpG
  rw [Bool.eq_iff_iff, decide_eq_true_eq, cmpP_lt]
theorem swoG : SWO (ltOf cmpG) where
  irrefl x := by rw [cmpG_lt]; exact bfP_irr _
  trans x y z h1 h2 := by rw [cmpG_lt] at *; exact bfP_trans h1 h2
  ntrans x y z h1 h2 := by
    rw [cmpG_lt] at *
    cases h : bfP x.key z.key with
    | false => rfl
    | true =>
      cases g : bfP y.key x.key with
      | true => rw [bfP_trans g h] at h2; exact h2
      | false => rw [bfP_tri h1 g] at h; rw [h] at h2; exact h2
instance : Inhabited Gm := ⟨⟨.empty, .empty, 0⟩⟩
theorem aggG : ∀ w, (isAgg 72).run Tryz.prog w = .ok true w := Tryz.isAgg72
theorem sizeG : ∀ w, (Go.sizeOf 72).run Tryz.prog w = .ok 3 w := Tryz.sizeOf72
/-- The sort: a permutation of what the row held, ascending. -/
theorem sortg_any (B cap : Nat) (L : List Gm) (w : World) (hH : HoldsK genc 3 w B 0 L.toArray) (hB : B < w.heap.size) (hl : L.length ≤ 1000000) :
    Calls Tryz.prog 51 #[.slice (some ⟨B, 0, none⟩) L.length cap, .func (.func 52) #[] #[]] w fun e w' => e = .returned (.tuple #[]) ∧ ∃ d' : List Gm, d'.Perm L ∧ d'.Pairwise (fun a b => bfP b.key a.key = false) ∧ ∃ n os, w' = sortWorldK genc 3 w B 0 n d'.toArray os := by
  have eg : ∀ args w, (callFunc 52 args).run Tryz.prog w = .ok (.enter 52 args) w := enters_of Tryz.func52 (by kernel_rfl) rfl
  have hcmp : CmpLays Tryz.prog 52 #[] genc 3 cmpG B 0 L.toArray.size w := fun m os dk _ x y => compare_any x y _
  have h := AnyQ.slices_SortFunc Tryz.sortG 3 aggG sizeG genc (fun _ => rfl) (fun x v hv => eG.one x v hv) cmpG swoG 52 #[] B 0 cap L.toArray w eg hcmp hH hB (by simp; omega)
  refine Calls.mono h ?_
  rintro e w' ⟨he, d', n, os, hp, hs, hw⟩
  obtain ⟨hsz, _, hperm⟩ := hp
  have e1 : d'.extract 0 L.toArray.size = d' := by rw [← hsz]; exact Array.extract_size
  rw [e1, Array.extract_size] at hperm
  refine ⟨he, d'.toList, hperm, ?_, n, os, hw⟩
  rw [List.pairwise_iff_getElem]
  intro i j hi hj hij
  have := hs i j (Nat.zero_le _) hij (by rw [← hsz]; simpa using hj)
  rw [cmpG_lt] at this
  have e2 : d'[j]! = d'.toList[j] := by rw [getElem!_pos d' j (by simpa using hj)]; simp
  have e3 : d'[i]! = d'.toList[i] := by rw [getElem!_pos d' i (by simpa using hi)]; simp
  rw [e2, e3] at this
  exact this
end Go.Proofs.YthfgpagmepdblaaGreat
namespace Go.Proofs.YthfgpagmepdblaaGreat
open Go.ChangeShapes Go.WideShapes Go.ChangeAt Go.RowKit Go.Maps Go.Sort
set_option linter.unusedVariables false
set_option linter.unusedSimpArgs false
set_option maxRecDepth 100000

theorem flatG (L : List Gm) : flatK genc 3 L.toArray = (gcells L).toArray := by
  refine ext_get! (by simp [gcells_length]) fun t ht => ?_
  have ht' : t < L.length * 3 := by simpa using ht
  rw [get_flatK _ _ _ t (by simpa using ht')]
  obtain ⟨i, r, hi, hr, rfl⟩ : ∃ i r, i < L.length ∧ r < 3 ∧ t = i * 3 + r := ⟨t / 3, t % 3, by omega, by omega, by omega⟩
  rw [show (i * 3 + r) / 3 = i by omega, show (i * 3 + r) % 3 = r by omega]
  have e : L.toArray[i]! = L[i] := by rw [getElem!_pos L.toArray i (by simpa using hi)]; simp
  rw [e]
  obtain ⟨g0, g1, g2⟩ := gcells_at L i hi
  have hl : i * 3 + r < (gcells L).toArray.size := by simp [gcells_length]; omega
  rw [getElem!_pos (gcells L).toArray (i * 3 + r) hl]
  have : r = 0 ∨ r = 1 ∨ r = 2 := by omega
  rcases this with rfl | rfl | rfl
  · have := (List.getElem?_eq_some_iff.1 g0).2; simp only [Nat.add_zero] at *; simpa [genc] using this.symm
  · have := (List.getElem?_eq_some_iff.1 g1).2; simpa [genc] using this.symm
  · have := (List.getElem?_eq_some_iff.1 g2).2; simpa [genc] using this.symm
theorem holds_blockG {w : World} {g : Nat} {cur : Array Value} {e : TypeId} {L : List Gm} (hb : w.heap[g]? = some (.cells cur e (0, 0))) (ht : cur.toList.take (L.length * 3) = gcells L) : HoldsK genc 3 w g 0 L.toArray := by
  unfold HoldsK
  rw [flatG]
  intro j hj
  have hj' : j < L.length * 3 := by simpa [gcells_length] using hj
  refine ⟨?_, by simp [World.frozen?, hb]⟩
  have h1 : (cur.toList.take (L.length * 3))[j]? = (gcells L)[j]? := by rw [ht]
  rw [List.getElem?_take_of_lt hj'] at h1
  simp only [World.cell?, hb, Nat.zero_add]
  simp only [Option.isSome_none, Bool.false_eq_true, if_false]
  rw [← Array.getElem?_toList, h1]
  have hj2 : j < (gcells L).length := by rw [gcells_length]; exact hj'
  rw [List.getElem?_eq_getElem hj2, getElem!_pos _ _ (by simpa using hj2)]
  simp
theorem heap_sortedG {w : World} {g n : Nat} {os : Array Obj} {cur : Array Value} {e : TypeId} {fr : Nat × Nat} (F : Array Value) (hb : w.heap[g]? = some (.cells cur e fr)) :
    (grow (putRow id (Sort.ahead w n) g 0 F) os).heap[g]? = some (.cells (putCells id 0 F cur) e fr) := by
  have hg : g < w.heap.size := (Array.getElem?_eq_some_iff.1 hb).1
  rw [heap_grow_old _ _ (by simpa using hg)]
  simp [putRow, mapBlock, Sort.ahead, Array.getElem?_modify, hb, onCells]
theorem grownBy_sortedG {w : World} {g n : Nat} {os : Array Obj} (F : Array Value) : w.grownBy (grow (putRow id (Sort.ahead w n) g 0 F) os) (some g) := by
  refine ⟨rfl, rfl, rfl, by simp, fun k hk hne => ?_⟩
  rw [heap_grow_old _ _ (by simpa using hk)]
  have : g ≠ k := fun e => hne (by rw [e])
  simp [putRow, mapBlock, Sort.ahead, Array.getElem?_modify, this]
theorem take_putCellsG (cur F : Array Value) (h : F.size ≤ cur.size) : (putCells id 0 F cur).toList.take F.size = F.toList := by
  apply List.ext_getElem?
  intro j
  by_cases hj : j < F.size
  · rw [List.getElem?_take_of_lt hj, Array.getElem?_toList]
    simp [putCells, hj, show j < cur.size by omega]
  · rw [List.getElem?_take_eq_none (by omega), List.getElem?_eq_none (by simp; omega)]
/-- Behind the sort the same slice owns the sorted list. -/
theorem own_sortedG {base g cap n : Nat} {L d : List Gm} {w : World} {os : Array Obj} (h : OwnG base L (.slice (some ⟨g, 0, none⟩) L.length cap) w) (h0 : 0 < L.length) (hl : d.length = L.length) :
    OwnG base d (.slice (some ⟨g, 0, none⟩) L.length cap) (sortWorldK genc 3 w g 0 n d.toArray os) ∧ w.grownBy (sortWorldK genc 3 w g 0 n d.toArray os) (some g) ∧ base ≤ g := by
  obtain ⟨g', cap', cur, e, hb, hh, hc, hm, hs, ht⟩ := OwnG.row h h0
  simp only [Value.slice.injEq, Option.some.injEq, Addr.mk.injEq, true_and, and_true] at e
  obtain ⟨rfl, rfl⟩ := e
  unfold sortWorldK putRowK
  rw [flatG]
  refine ⟨⟨by rw [gcellsE, gcells_length], .inr ⟨g, cap, _, by rw [hl], hb, heap_sortedG _ hh, by omega, hm, by simp [putCells, hs], ?_⟩⟩, grownBy_sortedG _, hb⟩
  have hz : (gcells d).toArray.size ≤ cur.size := by simp [gcells_length, hs]; have := Nat.mul_le_mul_right 3 hc; omega
  have := take_putCellsG cur (gcells d).toArray hz
  rw [show d.length * 3 = (gcells d).toArray.size by simp [gcells_length], this]; rfl
theorem make_gs (base : Nat) (w : World) (n : Nat) (hn : n ≤ 1000000) (hb : base ≤ w.heap.size) : ∃ w', (Instr.makeSlice 58 (.int .i64 0) (.int .i64 (n : Int))).run Tryz.prog w = .ok (.slice (some ⟨w.heap.size, 0, none⟩) 0 n) w' ∧ OwnG base [] (.slice (some ⟨w.heap.size, 0, none⟩) 0 n) w' ∧ w.grownBy w' none := by
  cases hi : Tryz.prog.info? 72 with
  | none => have := infoG; rw [hi] at this; cases this
  | some i =>
    have h4 := infoG
    rw [hi] at h4
    simp only [Option.map_some, Option.some.injEq, Prod.mk.injEq] at h4
    obtain ⟨hz, hs, hbt⟩ := h4
    exact run_make_own (P := Tryz.prog) (w := w) base 58 72 i _ 3 Tryz.underlying58 hi hz hs .i64 .i64 n (by rw [hbt]; omega) (by unfold maxLen; omega) hb

/-! ### the map of the pairs -/
def cM (P : List Pr) (y : Pr) : Option Int := if y ∈ P then some (P.count y : Nat) else none
theorem cM_num (P : List Pr) (y : Pr) : numT (cM P y) = (P.count y : Nat) := by
  unfold cM; split
  · rfl
  · rename_i h; rw [List.count_eq_zero_of_not_mem h]; rfl
theorem cM_next (P : List Pr) (p : Pr) : ∀ y, (if y = p then some (numT (cM P p) + 1) else cM P y) = cM (P ++ [p]) y := fun y => by
  by_cases e : y = p
  · subst e
    rw [if_pos rfl, cM_num]
    unfold cM; rw [if_pos (by simp), List.count_append, List.count_singleton_self]; rfl
  · rw [if_neg e]
    unfold cM; rw [List.count_append, List.count_eq_zero_of_not_mem (show y ∉ [p] by simp [e]), Nat.add_zero]
    have : (y ∈ P ++ [p]) ↔ (y ∈ P) := by simp [e]
    simp only [this]
/-- Keys still to come, and the grams that were made of the others. -/
structure GRem (P : List Pr) (left : Lit → Bool) (L : List Gm) (rem : List Pr) : Prop where
  nodup : rem.Nodup
  left : ∀ y kl, keyOf Tryz.prog 92 (Pr.v y) = some kl → (left kl = true ↔ y ∈ rem)
  made : ∀ g ∈ L, g.n = (P.count g.key : Nat) ∧ g.key ∈ P ∧ g.key ∉ rem
  dist : (L.map Gm.key).Nodup
  all : ∀ p ∈ P, p ∈ rem ∨ ∃ g ∈ L, g.key = p
theorem GRem.next {P : List Pr} {left : Lit → Bool} {L : List Gm} {rem : List Pr} (h : GRem P left L rem) {y : Pr} {kl : Lit} (hk : keyOf Tryz.prog 92 (Pr.v y) = some kl) (hl : left kl = true) (hy : y ∈ P) :
    GRem P (fun z => left z && !z.sameKey kl) (L ++ [⟨y.f, y.s, (P.count y : Nat)⟩]) (rem.erase y) := by
  have hy' : y ∈ rem := (h.left y kl hk).1 hl
  refine ⟨h.nodup.erase y, fun y' kl' hk' => ?_, fun g hg => ?_, ?_, fun p hp => ?_⟩
  · rw [Bool.and_eq_true, h.left y' kl' hk', h.nodup.mem_erase_iff]
    constructor
    · rintro ⟨h1, h2⟩
      refine ⟨fun e => ?_, h1⟩
      subst e
      rw [hk] at hk'; injection hk' with hk'; subst hk'
      rw [WideAt.sameKey_self (kPr.key hk)] at h2; cases h2
    · rintro ⟨h1, h2⟩
      refine ⟨h2, ?_⟩
      cases hs : kl'.sameKey kl with
      | false => rfl
      | true =>
        have e := WideAt.sameKey_eq hs
        subst e
        exact absurd (prv_inj _ _ (kPr.inj hk' hk)) h1
  · rw [List.mem_append] at hg
    rcases hg with hg | hg
    · have := h.made g hg
      exact ⟨this.1, this.2.1, fun c => this.2.2 (List.mem_of_mem_erase c)⟩
    · simp at hg; subst hg
      exact ⟨rfl, hy, fun c => ((h.nodup.mem_erase_iff).1 c).1 rfl⟩
  · rw [List.map_append, List.nodup_append]
    refine ⟨h.dist, by simp, fun a ha b hb e => ?_⟩
    simp at hb; subst hb; subst e
    rw [List.mem_map] at ha
    obtain ⟨g, hg, e⟩ := ha
    exact (h.made g hg).2.2 (by rw [e]; exact hy')
  · rcases h.all p hp with c | ⟨g, hg, e⟩
    · by_cases e : p = y
      · exact .inr ⟨_, List.mem_append_right _ (List.mem_singleton.2 rfl), e.symm⟩
      · exact .inl ((h.nodup.mem_erase_iff).2 ⟨e, c⟩)
    · exact .inr ⟨g, List.mem_append_left _ hg, e⟩
theorem GRem.done {P : List Pr} {left : Lit → Bool} {L d : List Gm} (h : GRem P left L []) (hp : d.Perm L) (hs : d.Pairwise fun a b => bfP b.key a.key = false) : d = gramsP P := by
  refine grams_only hs ?_ (fun g hg => ?_) (fun p hpp => ?_)
  · have : L.Nodup := (List.pairwise_map.1 h.dist).imp fun {a b} hab e => hab (by rw [e])
    exact hp.symm.nodup this
  · have := h.made g (hp.mem_iff.1 hg); exact ⟨this.1, this.2.1⟩
  · rcases h.all p hpp with c | ⟨g, hg, e⟩
    · cases c
    · exact ⟨g, hp.mem_iff.2 hg, e⟩
end Go.Proofs.YthfgpagmepdblaaGreat
namespace Go.Proofs.YthfgpagmepdblaaGreat
open Go.ChangeShapes Go.WideShapes Go.ChangeAt Go.RowKit Go.Maps
open Go.Sort (HoldsK)
set_option linter.unusedVariables false
set_option linter.unusedSimpArgs false
set_option maxRecDepth 100000

theorem row_hereL {W : World} {p : Option Addr} {l : List ByteArray} (h : Ones W Value.string p l) (i : Nat) (hi : i < l.length) : ∃ a, p = some a ∧ (a.add i).block < W.heap.size ∧ W.cell? (a.add i) = some (.string (l[i]'hi)) := by
  obtain ⟨a, e, hl, hc⟩ := one_row h i hi
  exact ⟨a, e, by rw [add_block]; exact hl, hc⟩
theorem befW_size (l : List ByteArray) (h : ∀ x ∈ l, x.size ≤ maxLen) (k : Nat) : (befW l k).size ≤ maxLen := by
  unfold befW; split
  · exact h _ (List.getElem_mem _)
  · exact Nat.zero_le _
theorem prsF_mem (l : List ByteArray) (h : ∀ x ∈ l, x.size ≤ maxLen) : ∀ b : ByteArray, b.size ≤ maxLen → ∀ y ∈ prsF b l, y.f.size ≤ maxLen ∧ y.s.size ≤ maxLen := by
  induction l with
  | nil => intro b hb y hy; simp [prsF] at hy; subst hy; exact ⟨hb, Nat.zero_le _⟩
  | cons x r ih =>
    intro b hb y hy
    rw [prsF, List.mem_cons] at hy
    rcases hy with rfl | hy
    · exact ⟨hb, h x (List.mem_cons_self ..)⟩
    · exact ih (fun z hz => h z (List.mem_cons_of_mem _ hz)) x (h x (List.mem_cons_self ..)) y hy
theorem uk_lenG {κ : Type} [DecidableEq κ] (l : List κ) : ∀ K : List κ, (l.foldl ukK K).length ≤ K.length + l.length := by
  induction l with
  | nil => intro K; exact Nat.le_refl _
  | cons x l ih =>
    intro K
    rw [List.foldl_cons, List.length_cons]
    have := ih (ukK K x)
    have h : (ukK K x).length ≤ K.length + 1 := by unfold ukK; split <;> simp
    omega
theorem uk_len {κ : Type} [DecidableEq κ] (l : List κ) : (ukL l).length ≤ l.length := by have := uk_lenG l []; simpa [ukL] using this
set_option maxHeartbeats 12800000 in
theorem grams_any (p : Option Addr) (c : Nat) (l : List ByteArray) (w : World) (hW : Ones w Value.string p l) (hc : l.length ≤ c) (hcm : c ≤ maxLen) (hl : l.length ≤ 1000) (ht : ∀ x ∈ l, x.size ≤ maxLen) :
    Calls Tryz.prog 35 #[.slice p l.length c] w (EndG (gramsL l) w) := by
  have mixed : Tryz.prog.follows .mixedOrders = true := by kernel_rfl
  have hmm := @run_makeMap Tryz.prog
  have hM0 : MapAt 92 Pr.v vInt (w.alloc (.map #[] 0)) w.heap.size 0 (cM (prsK l 0)) := (MapAt.made w).ext fun y => by unfold cM; rw [if_neg (by simp [prsK])]
  have HB0 : Below w.heap.size w (w.alloc (.map #[] 0)) := blw (Below.refl _ _) _
  have HEND := Lib.hid (prsK_all l)
  have HPN := Lib.hid (fun k h => prsK_next l k h); have HPL := Lib.hid (prsK_last l)
  have HBS := Lib.hid (befW_size l ht); have HBF := Lib.hid (fun k h => befW_succ l k h)
  have HT := Lib.hid ht
  have HPM := Lib.hid (prsF_mem l ht ⟨#[]⟩ (Nat.zero_le _))
  have hB00 := Lib.hid (befW_zero l)
  have hcm' := hcm
  clear ht hcm
  unfold maxLen at hcm'
  go_enter Tryz.func35, Tryz.ntmps35
  go_wp2_with fail
  go_loopw [4, 13] (fun b i wr => ∃ k : Nat, k ≤ l.length ∧ i = .int .i64 k ∧ b = .string (befW l k) ∧ MapAt 92 Pr.v vInt wr w.heap.size k (cM (prsK l k)) ∧ Below w.heap.size w wr) (fun _ i _ => l.length - (intOf i).toNat)
  case atStart => exact ⟨0, Nat.zero_le _, rfl, by rw [hB00.out], hM0, HB0⟩
  case round =>
    clear hM0 HB0
    obtain ⟨k, hk, rfl, rfl, hM, hB⟩ := hrel
    by_cases hlt : k < l.length
    · obtain ⟨a, rfl, ha, c0⟩ := row_hereL (hW.call hB) k hlt
      have hps := HPN.out k hlt
      have hbs := HBS.out k
      have hbf := HBF.out k hlt
      have hxs := HT.out _ (List.getElem_mem hlt)
      have ik : (k : Int) < (l.length : Int) := by omega
      have hct : (cM (prsK l k) ⟨befW l k, l[k]⟩) = (cM (prsK l k) ⟨befW l k, l[k]⟩) := rfl
      have hcn := cM_num (prsK l k) ⟨befW l k, l[k]⟩
      have hcl := List.count_le_length (a := (⟨befW l k, l[k]⟩ : Pr)) (l := prsK l k)
      have hpl : (prsK l k).length ≤ k := by unfold prsK; simp; omega
      have hnx := cM_next (prsK l k) ⟨befW l k, l[k]⟩
      rw [← hps] at hnx
      have hbd : 0 ≤ numT (cM (prsK l k) ⟨befW l k, l[k]⟩) ∧ numT (cM (prsK l k) ⟨befW l k, l[k]⟩) ≤ 1000 := by omega
      clear hct hcn hcl hpl hps
      have HBF2 := Lib.hid hbf
      clear hbf
      generalize befW l k = f at *
      generalize l[k] = x at *
      obtain ⟨kl, hkey⟩ := key_pr ⟨f, x⟩ hbs hxs
      have hlook := (hM.drew).look (T := 90) kPr Tryz.underlying90 (z := vInt 0) (zeroT _) hkey
      obtain ⟨st, w4, f1, hE, hg4, hsz4, hM4, hf1, hSt⟩ := (hM.drew).entryG lawPr prv_inj (T := 90) Tryz.underlying90 (by unfold maxLen; omega) 0 zeroT hkey
      have hlook1 := hM4.look (T := 90) kPr Tryz.underlying90 (z := vInt 0) (zeroT _) hkey
      rw [hf1] at hlook1
      obtain ⟨w5, hS, hM5, hg5, hsz5⟩ := hSt w4 (numT (cM (prsK l k) ⟨f, x⟩) + 1) rfl
      rw [pick_num] at hlook hlook1 hE
      replace hM5 := hM5.ext hnx
      have hS' : (Instr.entryStore 90 (.map (some w.heap.size)) (.int .i64 st) (.int .i64 (numT (cM (prsK l k) ⟨f, x⟩) + 1))).run Tryz.prog w4 = .ok () w5 := hS
      have hE' : (Instr.mapEntry 90 (.map (some w.heap.size)) (.agg #[.string f, .string x])).run Tryz.prog wr.drew = .ok (.tuple #[.int .i64 (numT (cM (prsK l k) ⟨f, x⟩)), .int .i64 st]) w4 := hE
      have hl' : (Instr.lookup 90 (.map (some w.heap.size)) (.agg #[.string f, .string x]) false).run Tryz.prog wr.drew = .ok (.int .i64 (numT (cM (prsK l k) ⟨f, x⟩))) wr.drew := hlook
      have hl1 : (Instr.lookup 90 (.map (some w.heap.size)) (.agg #[.string f, .string x]) false).run Tryz.prog w4 = .ok (.int .i64 (numT (cM (prsK l k) ⟨f, x⟩))) w4 := hlook1
      generalize numT (cM (prsK l k) ⟨f, x⟩) = v at *
      have wr1 : IntKind.i64.wrap (v + 1) = v + 1 := IntWalk.i64_in _ ⟨by omega, by omega⟩
      have hB5 := below_of_grow (below_of_grow hB.drew hg4 hB.size (Nat.le_refl _)) hg5 (by have := hB.size; rw [hsz4]; exact this) (Nat.le_refl _)
      have HX := Lib.hid (And.intro hM5 hB5)
      clear hS hE hlook hlook1 hSt hM4 hf1 hM5 hg4 hg5 hsz4 hsz5 hkey hM hB hB5 hnx hbd hbs hxs
      go_wp2_with fail
      go_region_o
      all_goals go_wp2_with fail
      all_goals go_roundw
      case rel =>
        obtain ⟨hM5, hB5⟩ := HX.out
        exact ⟨k + 1, hlt, by go_num, by rw [HBF2.out], hM5, hB5⟩
      case measure => simp [intOf] <;> omega
    · obtain rfl : k = l.length := by omega
      have hps := HPL.out
      have hbs := HBS.out l.length
      have hcn := cM_num (prsK l l.length) ⟨befW l l.length, ⟨#[]⟩⟩
      have hcl := List.count_le_length (a := (⟨befW l l.length, ⟨#[]⟩⟩ : Pr)) (l := prsK l l.length)
      have hpl : (prsK l l.length).length ≤ l.length := by unfold prsK; simp; omega
      have hnx := cM_next (prsK l l.length) ⟨befW l l.length, ⟨#[]⟩⟩
      rw [← hps, HEND.out] at hnx
      have hbd : 0 ≤ numT (cM (prsK l l.length) ⟨befW l l.length, ⟨#[]⟩⟩) ∧ numT (cM (prsK l l.length) ⟨befW l l.length, ⟨#[]⟩⟩) ≤ 1000 := by omega
      clear hcn hcl hpl hps
      generalize befW l l.length = f at *
      obtain ⟨kl, hkey⟩ := key_pr ⟨f, ⟨#[]⟩⟩ hbs (Nat.zero_le _)
      have hlook := (hM.drew).look (T := 90) kPr Tryz.underlying90 (z := vInt 0) (zeroT _) hkey
      obtain ⟨st, w4, f1, hE, hg4, hsz4, hM4, hf1, hSt⟩ := (hM.drew).entryG lawPr prv_inj (T := 90) Tryz.underlying90 (by unfold maxLen; omega) 0 zeroT hkey
      have hlook1 := hM4.look (T := 90) kPr Tryz.underlying90 (z := vInt 0) (zeroT _) hkey
      rw [hf1] at hlook1
      obtain ⟨w5, hS, hM5, hg5, hsz5⟩ := hSt w4 (numT (cM (prsK l l.length) ⟨f, ⟨#[]⟩⟩) + 1) rfl
      rw [pick_num] at hlook hlook1 hE
      replace hM5 := hM5.ext hnx
      have hS' : (Instr.entryStore 90 (.map (some w.heap.size)) (.int .i64 st) (.int .i64 (numT (cM (prsK l l.length) ⟨f, ⟨#[]⟩⟩) + 1))).run Tryz.prog w4 = .ok () w5 := hS
      have hE' : (Instr.mapEntry 90 (.map (some w.heap.size)) (.agg #[.string f, .string ⟨#[]⟩])).run Tryz.prog wr.drew = .ok (.tuple #[.int .i64 (numT (cM (prsK l l.length) ⟨f, ⟨#[]⟩⟩)), .int .i64 st]) w4 := hE
      have hl' : (Instr.lookup 90 (.map (some w.heap.size)) (.agg #[.string f, .string ⟨#[]⟩]) false).run Tryz.prog wr.drew = .ok (.int .i64 (numT (cM (prsK l l.length) ⟨f, ⟨#[]⟩⟩))) wr.drew := hlook
      have hl1 : (Instr.lookup 90 (.map (some w.heap.size)) (.agg #[.string f, .string ⟨#[]⟩]) false).run Tryz.prog w4 = .ok (.int .i64 (numT (cM (prsK l l.length) ⟨f, ⟨#[]⟩⟩))) w4 := hlook1
      generalize numT (cM (prsK l l.length) ⟨f, ⟨#[]⟩⟩) = v at *
      have wr1 : IntKind.i64.wrap (v + 1) = v + 1 := IntWalk.i64_in _ ⟨by omega, by omega⟩
      have hB5 := below_of_grow (below_of_grow hB.drew hg4 hB.size (Nat.le_refl _)) hg5 (by have := hB.size; rw [hsz4]; exact this) (Nat.le_refl _)
      have HX := Lib.hid (And.intro hM5 hB5)
      clear hS hE hlook hlook1 hSt hM4 hf1 hM5 hg4 hg5 hsz4 hsz5 hkey hM hB hB5 hnx hbd hbs
      go_wp2_with fail
      go_region_o
      all_goals (clear hS' hE' hl' hl1 wr1)
      all_goals obtain ⟨hM5, hB5⟩ := HX.out
      all_goals
        have hlt5 := hM5.lt
        obtain ⟨D0, o0, _, _⟩ := id hM5
        have hlen := o0.len Tryz.underlying90 3
        have hsz := o0.size_le
        clear o0
        generalize Maps.size D0 = z at *
        obtain ⟨w6, hmk, hown6, hg6⟩ := make_gs (w.heap.size + 1) w5 z (by omega) (by omega)
        have hM6 := hM5.block (hg6.block _ hlt5 (by simp))
        have hB6 := hB5.grown hg6 hB5.size (fun j hj => by cases hj)
        have h65 : w5.heap.size ≤ w6.heap.size := hg6.size
        obtain ⟨D, o1, s1, t1⟩ := hM6
        have hPM := HPM.out
        have hkeys : ∀ y ∈ prs l, ∃ kl, keyOf Tryz.prog 92 (Pr.v y) = some kl := fun y hy => key_pr y (hPM y hy).1 (hPM y hy).2
        have hR0 : GRem (prs l) (Maps.has D) [] (ukL (prs l)) := by
          refine ⟨ukL_nodup _, fun y kl hk => ?_, fun g hg => (by cases hg), List.nodup_nil, fun q hq => .inl ((ukL_mem _ _).2 hq)⟩
          rw [ukL_mem]
          have := s1 y kl hk
          unfold cM at this
          by_cases hy : y ∈ prs l
          · rw [if_pos hy] at this; rw [show Maps.has D kl = true from this.1]; simp [hy]
          · rw [if_neg hy] at this; rw [show Maps.has D kl = false from this.1]; simp [hy]
        have hlb := prs_len l
        generalize hPP : prs l = P at *
        have HGL := Lib.hid (show gramsL l = gramsP P by rw [← hPP]; rfl)
        clear hPP
        have HK := Lib.hid (And.intro hkeys (And.intro s1 t1))
        have HL := Lib.hid hlb
        clear hkeys s1 t1 hM5 hB5 hg6 HX hPM hlb hmm
        go_wp2_with (first
          | (at_range; refine wpList_range_own _ rfl _ 90 rfl 92 3 kPr Tryz.underlying90 rawE w.heap.size (l.length + 1) _ rfl o1 ?_; intro w0 hrg0 hg0 hs0)
          | go_in)
        go_frame
        have hB0 : Below w.heap.size w w0 := hB6.grown hg0 hB6.size (fun j hj => by cases hj)
        have hown0 : OwnG (w.heap.size + 1) [] (.slice (some ⟨w5.heap.size, 0, none⟩) 0 z) w0 := OwnG.same hown6 (fun k hk => hg0.block k (World.ownsRow.lt hown6 k hk).2 (by simp))
        have hr0 : w.heap.size < w6.heap.size := by omega
        clear hg0 hs0 hB6 o1 hown6 hmk hlen
        go_loopw [7] (fun v wr => ∃ (left : Lit → Bool) (cnt : Nat) (L : List Gm) (rem : List Pr), wr.ranges Tryz.prog 92 rawE w.heap.size w6.heap.size (l.length + 1) D left cnt ∧ Below w.heap.size w wr ∧ OwnG (w.heap.size + 1) L v wr ∧ Aside (GRem P left L rem ∧ L.length + rem.length ≤ P.length ∧ ∀ y ∈ rem, y ∈ P))
          (fun _ wr => wr.rangeLeft w.heap.size w6.heap.size)
        case atStart => exact ⟨_, _, [], ukL P, hrg0, hB0, hown0, hR0, by
          have := uk_len P; simp; exact this, fun y hy => (ukL_mem _ _).1 hy⟩
        case round =>
          clear hrg0 hB0 hown0 hR0
          obtain ⟨left, cnt, L, rem, hrg, hB, hO, G⟩ := hrel
          have hleft := hrg.left_eq
          have hll := G.out.2.1
          have hpl := HL.out
          go_wp2_with (first
            | (at_next; refine wpList_next_ranges _ rfl _ rfl 92 kPr rawE id id (fun key _ _ => ⟨key, rfl⟩) (fun v _ _ => ⟨v, rfl⟩) w.heap.size w6.heap.size (l.length + 1) _ _ _ rfl hrg ?_ ?_)
            | go_in)
          · intro _ hl0
            have e0 : rem = [] := by
              cases rem with
              | nil => rfl
              | cons y r =>
                obtain ⟨kl, hkl⟩ := HK.out.1 y (G.out.2.2 y (List.mem_cons_self ..))
                have := (G.out.1.left y kl hkl).2 (List.mem_cons_self ..)
                rw [hl0] at this; cases this
            have hR := G.out.1
            rw [e0] at hR
            have hL0 : 0 < L.length := by
              have hP0 : 0 < P.length := by omega
              rcases hR.all _ (List.getElem_mem hP0) with c | ⟨g, hg, _⟩
              · cases c
              · exact List.length_pos_of_mem hg
            obtain ⟨g, cap, cur, rfl, hgb, hh, hcc, hcm3, hs3, ht3⟩ := OwnG.row hO hL0
            have hH := holds_blockG hh ht3
            have hsrt := sortg_any g cap L _ hH (heap_lt hh) (by omega)
            have HS := Lib.hid hsrt; have HR := Lib.hid hR; have HO := Lib.hid hO; have HB := Lib.hid hB
            clear hsrt hR hO hB hH hh hcc hcm3 hs3 ht3 G e0 hrg hleft
            go_wp2_with fail
            refine HS.out.mono ?_
            rintro e wz ⟨rfl, d', hp, hs, n, os, rfl⟩
            obtain ⟨hown, hgr, hbg⟩ := own_sortedG (n := n) (os := os) HO.out hL0 hp.length_eq
            have hBz := below_of_grow HB.out hgr HB.out.size (by omega)
            have hd := HR.out.done hp hs
            have HF := Lib.hid (And.intro hown (And.intro hBz hd))
            clear hown hgr hBz hd
            generalize sortWorldK genc 3 wr g 0 n d'.toArray os = wz at *
            go_wp2_with fail
            go_ret
            obtain ⟨hown, hBz, hd⟩ := HF.out
            rw [HGL.out, ← hd]
            exact ⟨_, rfl, hBz, ownsRow_base hown (by omega)⟩
          · intro x cc kl yd yp w1 cnt1 hkey hlx hv hat hrg1 hlt1 hg1 hs1 hen
            obtain ⟨hkeys, s1, t1⟩ := HK.out
            have hh := has_true_of_atKey hat
            obtain ⟨y, hy⟩ := t1 kl hh
            have hxy : x = y.v := kPr.inj hkey hy
            have hsy := s1 y kl hy
            have hB1 : Below w.heap.size w w1 := hB.grown hg1 hB.size (fun j hj => by cases hj; exact Nat.le_of_lt hr0)
            have hO1 : OwnG (w.heap.size + 1) L u7 w1 := OwnG.same hO (fun k hk => hg1.block k (World.ownsRow.lt hO k hk).2 (fun e => row_ne_iter hO hrg (by rw [hk]; exact e.symm)))
            have hne1 := row_ne_iter hO hrg
            have hyP : y ∈ P := by
              rcases Decidable.em (y ∈ P) with c | c
              · exact c
              · unfold cM at hsy; rw [if_neg c] at hsy; rw [show Maps.has _ _ = false from hsy.1] at hh; cases hh
            unfold cM at hsy
            rw [if_pos hyP] at hsy
            have hc : cc = vInt ((P.count y : Nat) : Int) := by
              have h1 := hat .nil
              rw [hsy.2 .nil] at h1
              have h2 : some (DataW.held cc, ([] : List MemPlace)) = some (yd, yp) := hv
              injection h2 with h2
              injection h2 with h2 _
              rw [← h2] at h1
              injection h1 with h1
              exact h1.symm
            subst hc; subst hxy
            have hnx := G.out.1.next hy hlx hyP
            have hy' := (G.out.1.left y kl hy).1 hlx
            have hmem : ∀ z ∈ rem.erase y, z ∈ P := fun z hz => G.out.2.2 z (List.mem_of_mem_erase hz)
            have hlen2 : (L ++ [(⟨y.f, y.s, ((P.count y : Nat) : Int)⟩ : Gm)]).length + (rem.erase y).length ≤ P.length := by
              rw [List.length_append, List.length_erase_of_mem hy']
              have := List.length_pos_of_mem hy'
              simp; omega
            have hcl := List.count_le_length (a := y) (l := P)
            generalize P.count y = N at *
            have hen' : (Instr.entry (.pointer (some ⟨w6.heap.size, 0, none⟩))).run Tryz.prog w1 = .ok (.tuple #[.agg #[.string y.f, .string y.s], .int .i64 N]) w1 := hen
            have HX := Lib.hid (And.intro hnx (And.intro hmem hlen2))
            have hlo := World.ownsRow.lt hO1
            have hr1 := hrg1.lt
            have HLL := Lib.hid (show L.length ≤ 1001 by omega)
            clear hv hen hat hsy hg1 hrg hs1 hkeys s1 t1 hnx hmem hlen2 G hh hkey hlx hO hB hyP hy'
            go_wp2_with (at_builtin; refine wpl_app eG _ rfl _ _ rfl (w.heap.size + 1) L _ rfl (World.ownsRow.alloc (World.ownsRow.alloc hO1 _) _) (by simp; omega) (⟨y.f, y.s, N⟩ : Gm) _ _ rfl (heap_new2 _ _ _) rfl (by have := HLL.out; omega) (by have := HLL.out; unfold maxLen; omega) ?_; intro g9 cap9 w9 hown9 hg9 hloc9)
            have hrg9 := ((hrg1.alloc _).alloc _).kept hg9 (row_ne_low hO1 (by omega)) (fun e => row_ne_iter hO1 hrg1 e)
            have hB9 := (blw (blw hB1 _) _).grown hg9 (blw (blw hB1 _) _).size (fun j hj => by have := (hlo j hj).1; omega)
            have HY := Lib.hid (And.intro hrg9 (And.intro hB9 hown9))
            clear hrg9 hB9 hown9 hg9 hloc9 hrg1 hB1 hO1 hlo
            go_wp2_with fail
            obtain ⟨hrg9, hB9, hown9⟩ := HY.out
            obtain ⟨hnx, hmem, hlen2⟩ := HX.out
            refine ⟨⟨_, cnt1, L ++ [⟨y.f, y.s, N⟩], rem.erase y, hrg9, hB9, ?_, hnx, hlen2, hmem⟩, ?_⟩
            · rw [List.length_append] at *; exact hown9
            · rw [hrg9.left_eq, hleft]; exact hlt1
end Go.Proofs.YthfgpagmepdblaaGreat
namespace Go.Proofs.YthfgpagmepdblaaGreat
open Go.ChangeShapes Go.WideShapes Go.ChangeAt Go.RowKit Go.Maps
set_option linter.unusedVariables false
set_option linter.unusedSimpArgs false
set_option maxRecDepth 100000

def oM (A B : List Gm) (y : Pr) : Option Int := if y ∈ gkeys A ∨ y ∈ gkeys B then some ((occ A y : Int) - (occ B y : Int)) else none
theorem oM_num (A B : List Gm) (y : Pr) : numT (oM A B y) = (occ A y : Int) - (occ B y : Int) := by
  unfold oM
  split
  · rfl
  · rename_i h
    rw [occ_out A y (fun c => h (.inl c)), occ_out B y (fun c => h (.inr c))]; rfl
theorem oM_A (A B : List Gm) (x : Gm) : ∀ y, (if y = x.key then some (numT (oM A B x.key) + (clN x.n : Nat)) else oM A B y) = oM (A ++ [x]) B y := fun y => by
  have ht : gkeys (A ++ [x]) = gkeys A ++ [x.key] := by unfold gkeys; simp
  by_cases e : y = x.key
  · subst e
    rw [if_pos rfl, oM_num]
    unfold oM; rw [ht, if_pos (.inl (by simp)), occ_snoc, if_pos rfl]
    congr 1; push_cast; omega
  · rw [if_neg e]
    unfold oM; rw [ht, occ_snoc, show (if x.key = y then clN x.n else 0) = 0 from if_neg (fun c => e c.symm), Nat.add_zero]
    have : (y ∈ gkeys A ++ [x.key] ∨ y ∈ gkeys B) ↔ (y ∈ gkeys A ∨ y ∈ gkeys B) := by simp [e]
    simp only [this]
theorem oM_B (A B : List Gm) (x : Gm) : ∀ y, (if y = x.key then some (numT (oM A B x.key) - (clN x.n : Nat)) else oM A B y) = oM A (B ++ [x]) y := fun y => by
  have ht : gkeys (B ++ [x]) = gkeys B ++ [x.key] := by unfold gkeys; simp
  by_cases e : y = x.key
  · subst e
    rw [if_pos rfl, oM_num]
    unfold oM; rw [ht, if_pos (.inr (by simp)), occ_snoc, if_pos rfl]
    congr 1; push_cast; omega
  · rw [if_neg e]
    unfold oM; rw [ht, occ_snoc, show (if x.key = y then clN x.n else 0) = 0 from if_neg (fun c => e c.symm), Nat.add_zero]
    have : (y ∈ gkeys A ∨ y ∈ gkeys B ++ [x.key]) ↔ (y ∈ gkeys A ∨ y ∈ gkeys B) := by simp [e]
    simp only [this]
structure MRem (left : Lit → Bool) (S tot : Nat) (f : Pr → Option Int) (rem : List Pr) : Prop where
  nodup : rem.Nodup
  left : ∀ y kl, keyOf Tryz.prog 92 (Pr.v y) = some kl → (left kl = true ↔ y ∈ rem)
  sum : tot + gsum rem (fun y => (numT (f y)).toNat) = S
theorem MRem.next {left : Lit → Bool} {S tot : Nat} {f : Pr → Option Int} {rem : List Pr} (h : MRem left S tot f rem) {y : Pr} {kl : Lit} (hk : keyOf Tryz.prog 92 (Pr.v y) = some kl) (hl : left kl = true) :
    MRem (fun z => left z && !z.sameKey kl) S (tot + (numT (f y)).toNat) f (rem.erase y) := by
  have hy : y ∈ rem := (h.left y kl hk).1 hl
  refine ⟨h.nodup.erase y, fun y' kl' hk' => ?_, ?_⟩
  · rw [Bool.and_eq_true, h.left y' kl' hk', h.nodup.mem_erase_iff]
    constructor
    · rintro ⟨h1, h2⟩
      refine ⟨fun e => ?_, h1⟩
      subst e
      rw [hk] at hk'; injection hk' with hk'; subst hk'
      rw [WideAt.sameKey_self (kPr.key hk)] at h2; cases h2
    · rintro ⟨h1, h2⟩
      refine ⟨h2, ?_⟩
      cases hs : kl'.sameKey kl with
      | false => rfl
      | true =>
        have e := WideAt.sameKey_eq hs
        subst e
        exact absurd (prv_inj _ _ (kPr.inj hk' hk)) h1
  · have := gsum_erase rem y hy (fun y => (numT (f y)).toNat)
    have hs := h.sum
    omega
end Go.Proofs.YthfgpagmepdblaaGreat
