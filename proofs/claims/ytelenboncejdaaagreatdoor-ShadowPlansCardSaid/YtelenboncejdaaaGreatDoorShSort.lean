/-
  The contracts of slices.Sort and slices.Compact at []int, by the library's contracts; conditions stand at each.
-/
import Derived.Test.YtelenboncejdaaaGreatDoorRows
import Derived.WalkKit
import Derived.Shelf.Sort.Plain
import Derived.Shelf.Slices.In.CompactI
import Derived.Sort.EveryDepth
namespace Go.Proofs.YtelenboncejdaaaGreatDoor
open Go.RowKit Go.Shelf Go.Sort
set_option linter.unusedVariables false

/-- The numbers of the library's contracts, in this program. -/
def sortRen : Ren where
  f := fun | 125 => 76 | 128 => 109 | 129 => 110 | 189 => 47 | 215 => 141 | 216 => 106 | 257 => 75 | 294 => 100 | 295 => 101 | 296 => 102 | 297 => 103 | 298 => 104 | 299 => 105 | 300 => 107 | 301 => 108 | 328 => 136 | 329 => 137 | 330 => 138 | 331 => 139 | 332 => 140 | 343 => 168 | n => n
  t := fun | 0 => 0 | 3 => 3 | 4 => 4 | 5 => 5 | 9 => 9 | 28 => 38 | 46 => 44 | 51 => 45 | 53 => 203 | 131 => 183 | 182 => 194 | 183 => 195 | 218 => 234 | 222 => 238 | 228 => 267 | 229 => 52 | n => n
  g := fun n => n

set_option maxRecDepth 1000000 in
set_option maxHeartbeats 4000000 in
theorem sortLays : Lays.n189 Tryz.prog sortRen where
  mixed := by kernel_rfl
  f125 := Tryz.func76.trans (by kernel_rfl)
  f128 := Tryz.func109.trans (by kernel_rfl)
  f129 := Tryz.func110.trans (by kernel_rfl)
  f189 := Tryz.func47.trans (by kernel_rfl)
  f215 := Tryz.func141.trans (by kernel_rfl)
  f216 := Tryz.func106.trans (by kernel_rfl)
  f257 := Tryz.func75.trans (by kernel_rfl)
  f294 := Tryz.func100.trans (by kernel_rfl)
  f295 := Tryz.func101.trans (by kernel_rfl)
  f296 := Tryz.func102.trans (by kernel_rfl)
  f297 := Tryz.func103.trans (by kernel_rfl)
  f298 := Tryz.func104.trans (by kernel_rfl)
  f299 := Tryz.func105.trans (by kernel_rfl)
  f300 := Tryz.func107.trans (by kernel_rfl)
  f301 := Tryz.func108.trans (by kernel_rfl)
  f328 := Tryz.func136.trans (by kernel_rfl)
  f329 := Tryz.func137.trans (by kernel_rfl)
  f330 := Tryz.func138.trans (by kernel_rfl)
  f331 := Tryz.func139.trans (by kernel_rfl)
  f332 := Tryz.func140.trans (by kernel_rfl)
  f343 := Tryz.func168.trans (by kernel_rfl)
  t0 := Tryz.underlying0
  a0 := Tryz.isAgg0
  z0 := Tryz.sizeOf0
  v0 := Tryz.zeroValue0
  t3 := Tryz.underlying3
  a3 := Tryz.isAgg3
  z3 := Tryz.sizeOf3
  v3 := Tryz.zeroValue3
  t4 := Tryz.underlying4
  a4 := Tryz.isAgg4
  z4 := Tryz.sizeOf4
  v4 := Tryz.zeroValue4
  t5 := Tryz.underlying5
  a5 := Tryz.isAgg5
  z5 := Tryz.sizeOf5
  v5 := Tryz.zeroValue5
  t9 := Tryz.underlying9
  a9 := Tryz.isAgg9
  z9 := Tryz.sizeOf9
  v9 := Tryz.zeroValue9
  t28 := Tryz.underlying38
  a28 := Tryz.isAgg38
  z28 := Tryz.sizeOf38
  v28 := Tryz.zeroValue38
  t46 := Tryz.underlying44
  a46 := Tryz.isAgg44
  z46 := Tryz.sizeOf44
  v46 := Tryz.zeroValue44
  t51 := Tryz.underlying45
  a51 := Tryz.isAgg45
  z51 := Tryz.sizeOf45
  v51 := Tryz.zeroValue45
  t53 := Tryz.underlying203
  a53 := Tryz.isAgg203
  z53 := Tryz.sizeOf203
  v53 := Tryz.zeroValue203
  t131 := Tryz.underlying183
  a131 := Tryz.isAgg183
  z131 := Tryz.sizeOf183
  v131 := Tryz.zeroValue183
  t182 := Tryz.underlying194
  a182 := Tryz.isAgg194
  z182 := Tryz.sizeOf194
  v182 := Tryz.zeroValue194
  t183 := Tryz.underlying195
  a183 := Tryz.isAgg195
  z183 := Tryz.sizeOf195
  v183 := Tryz.zeroValue195
  t218 := Tryz.underlying234
  a218 := Tryz.isAgg234
  z218 := Tryz.sizeOf234
  v218 := Tryz.zeroValue234
  t222 := Tryz.underlying238
  a222 := Tryz.isAgg238
  z222 := Tryz.sizeOf238
  v222 := Tryz.zeroValue238
  t228 := Tryz.underlying267
  a228 := Tryz.isAgg267
  z228 := Tryz.sizeOf267
  v228 := Tryz.zeroValue267
  t229 := Tryz.underlying52
  a229 := Tryz.isAgg52
  z229 := Tryz.sizeOf52
  v229 := Tryz.zeroValue52

def compRen : Ren where
  f := fun | 20 => 48 | n => n
  t := fun | 0 => 0 | 3 => 3 | 4 => 4 | 22 => 38 | n => n
  g := fun n => n

set_option maxRecDepth 1000000 in
set_option maxHeartbeats 4000000 in
theorem compLays : Lays2.n20 Tryz.prog compRen where
  mixed := by kernel_rfl
  f20 := Tryz.func48.trans (by kernel_rfl)
  t0 := Tryz.underlying0
  a0 := Tryz.isAgg0
  z0 := Tryz.sizeOf0
  v0 := Tryz.zeroValue0
  t3 := Tryz.underlying3
  a3 := Tryz.isAgg3
  z3 := Tryz.sizeOf3
  v3 := Tryz.zeroValue3
  t4 := Tryz.underlying4
  a4 := Tryz.isAgg4
  z4 := Tryz.sizeOf4
  v4 := Tryz.zeroValue4
  t22 := Tryz.underlying38
  a22 := Tryz.isAgg38
  z22 := Tryz.sizeOf38
  v22 := Tryz.zeroValue38
  i3 := by kernel_rfl

theorem sort_any (blk off cap : Nat) (zs : List Int) (w : World) (hH : Holds (Value.int .i64) w blk off zs.toArray) (hblk : blk < w.heap.size) (hsz : zs.length < 4611686018427387904) :
    Calls Tryz.prog 47 #[.slice (some ⟨blk, off, none⟩) zs.length cap] w fun e w' =>
      e = .returned (.tuple #[]) ∧ ∃ n os, w' = grow (putRow (Value.int .i64) (Sort.ahead w n) blk off (zs.mergeSort fun x y => decide (x ≤ y)).toArray) os :=
  Any.slices_Sort_int sortLays blk off cap zs w hH hblk hsz
theorem compact_any (blk off cap : Nat) (zs : List Int) (w : World) (hH : Holds (Value.int .i64) w blk off zs.toArray) (hsz : zs.length ≤ 9223372036854775807) (hcap : zs.length ≤ cap) :
    Calls Tryz.prog 48 #[.slice (some ⟨blk, off, none⟩) zs.length cap] w fun e w' => e = .returned (.slice (some ⟨blk, off, none⟩) (Lib.compact zs).length cap) ∧ ∃ q, w' = putRow (Value.int .i64) (Sort.ahead w q) blk off (Lib.compact zs ++ List.replicate (zs.length - (Lib.compact zs).length) 0).toArray :=
  calls_of_every_depth fun D => AnyS.slices_Compact_int_in compLays D blk off cap zs w hH hsz hcap
theorem compact_none (a : Option Addr) (cap : Nat) (w : World) :
    Calls Tryz.prog 48 #[.slice a 0 cap] w fun e w' => e = .returned (.slice a 0 cap) ∧ w' = w :=
  calls_of_every_depth fun D => AnyS.slices_Compact_int_empty_in compLays D a cap w

end Go.Proofs.YtelenboncejdaaaGreatDoor
