/-
  The contracts of slices.Sort and slices.Compact at []int, by the library's contracts; conditions stand at each.
-/
import Derived.Test.YtmpmeifpfmobfaaGreatDoorRows
import Derived.WalkKit
import Derived.Shelf.Sort.Plain
import Derived.Shelf.Slices.In.CompactI
import Derived.Sort.EveryDepth
namespace Go.Proofs.YtmpmeifpfmobfaaGreatDoor
open Go.RowKit Go.Shelf Go.Sort
set_option linter.unusedVariables false

/-- The numbers of the library's contracts, in this program. -/
def sortRen : Ren where
  f := fun | 125 => 59 | 128 => 94 | 129 => 95 | 189 => 40 | 215 => 125 | 216 => 91 | 257 => 58 | 294 => 85 | 295 => 86 | 296 => 87 | 297 => 88 | 298 => 89 | 299 => 90 | 300 => 92 | 301 => 93 | 328 => 120 | 329 => 121 | 330 => 122 | 331 => 123 | 332 => 124 | 343 => 140 | n => n
  t := fun | 0 => 0 | 3 => 3 | 4 => 4 | 5 => 5 | 9 => 9 | 28 => 40 | 46 => 146 | 51 => 178 | 53 => 180 | 131 => 149 | 182 => 170 | 183 => 171 | 218 => 204 | 222 => 79 | 228 => 224 | 229 => 225 | n => n
  g := fun n => n

set_option maxRecDepth 1000000 in
set_option maxHeartbeats 4000000 in
theorem sortLays : Lays.n189 Tryz.prog sortRen where
  mixed := by kernel_rfl
  f125 := Tryz.func59.trans (by kernel_rfl)
  f128 := Tryz.func94.trans (by kernel_rfl)
  f129 := Tryz.func95.trans (by kernel_rfl)
  f189 := Tryz.func40.trans (by kernel_rfl)
  f215 := Tryz.func125.trans (by kernel_rfl)
  f216 := Tryz.func91.trans (by kernel_rfl)
  f257 := Tryz.func58.trans (by kernel_rfl)
  f294 := Tryz.func85.trans (by kernel_rfl)
  f295 := Tryz.func86.trans (by kernel_rfl)
  f296 := Tryz.func87.trans (by kernel_rfl)
  f297 := Tryz.func88.trans (by kernel_rfl)
  f298 := Tryz.func89.trans (by kernel_rfl)
  f299 := Tryz.func90.trans (by kernel_rfl)
  f300 := Tryz.func92.trans (by kernel_rfl)
  f301 := Tryz.func93.trans (by kernel_rfl)
  f328 := Tryz.func120.trans (by kernel_rfl)
  f329 := Tryz.func121.trans (by kernel_rfl)
  f330 := Tryz.func122.trans (by kernel_rfl)
  f331 := Tryz.func123.trans (by kernel_rfl)
  f332 := Tryz.func124.trans (by kernel_rfl)
  f343 := Tryz.func140.trans (by kernel_rfl)
  t0 := Tryz.underlying0
  a0 := Tryz.isAgg0
  z0 := Tryz.sizeOf0
  v0 := Tryz.zeroValue0
  t3 := Tryz.underlying3
  a3 := Tryz.isAgg3
  z3 := Tryz.sizeOf3
  v3 := Tryz.zeroValue3
  t4 := Tryz.underlying4
  a4 := Tryz.isAgg4
  z4 := Tryz.sizeOf4
  v4 := Tryz.zeroValue4
  t5 := Tryz.underlying5
  a5 := Tryz.isAgg5
  z5 := Tryz.sizeOf5
  v5 := Tryz.zeroValue5
  t9 := Tryz.underlying9
  a9 := Tryz.isAgg9
  z9 := Tryz.sizeOf9
  v9 := Tryz.zeroValue9
  t28 := Tryz.underlying40
  a28 := Tryz.isAgg40
  z28 := Tryz.sizeOf40
  v28 := Tryz.zeroValue40
  t46 := Tryz.underlying146
  a46 := Tryz.isAgg146
  z46 := Tryz.sizeOf146
  v46 := Tryz.zeroValue146
  t51 := Tryz.underlying178
  a51 := Tryz.isAgg178
  z51 := Tryz.sizeOf178
  v51 := Tryz.zeroValue178
  t53 := Tryz.underlying180
  a53 := Tryz.isAgg180
  z53 := Tryz.sizeOf180
  v53 := Tryz.zeroValue180
  t131 := Tryz.underlying149
  a131 := Tryz.isAgg149
  z131 := Tryz.sizeOf149
  v131 := Tryz.zeroValue149
  t182 := Tryz.underlying170
  a182 := Tryz.isAgg170
  z182 := Tryz.sizeOf170
  v182 := Tryz.zeroValue170
  t183 := Tryz.underlying171
  a183 := Tryz.isAgg171
  z183 := Tryz.sizeOf171
  v183 := Tryz.zeroValue171
  t218 := Tryz.underlying204
  a218 := Tryz.isAgg204
  z218 := Tryz.sizeOf204
  v218 := Tryz.zeroValue204
  t222 := Tryz.underlying79
  a222 := Tryz.isAgg79
  z222 := Tryz.sizeOf79
  v222 := Tryz.zeroValue79
  t228 := Tryz.underlying224
  a228 := Tryz.isAgg224
  z228 := Tryz.sizeOf224
  v228 := Tryz.zeroValue224
  t229 := Tryz.underlying225
  a229 := Tryz.isAgg225
  z229 := Tryz.sizeOf225
  v229 := Tryz.zeroValue225

def compRen : Ren where
  f := fun | 20 => 41 | n => n
  t := fun | 0 => 0 | 3 => 3 | 4 => 4 | 22 => 40 | n => n
  g := fun n => n

set_option maxRecDepth 1000000 in
set_option maxHeartbeats 4000000 in
theorem compLays : Lays2.n20 Tryz.prog compRen where
  mixed := by kernel_rfl
  f20 := Tryz.func41.trans (by kernel_rfl)
  t0 := Tryz.underlying0
  a0 := Tryz.isAgg0
  z0 := Tryz.sizeOf0
  v0 := Tryz.zeroValue0
  t3 := Tryz.underlying3
  a3 := Tryz.isAgg3
  z3 := Tryz.sizeOf3
  v3 := Tryz.zeroValue3
  t4 := Tryz.underlying4
  a4 := Tryz.isAgg4
  z4 := Tryz.sizeOf4
  v4 := Tryz.zeroValue4
  t22 := Tryz.underlying40
  a22 := Tryz.isAgg40
  z22 := Tryz.sizeOf40
  v22 := Tryz.zeroValue40
  i3 := by kernel_rfl

theorem sort_any (blk off cap : Nat) (zs : List Int) (w : World) (hH : Holds (Value.int .i64) w blk off zs.toArray) (hblk : blk < w.heap.size) (hsz : zs.length < 4611686018427387904) :
    Calls Tryz.prog 40 #[.slice (some ⟨blk, off, none⟩) zs.length cap] w fun e w' =>
      e = .returned (.tuple #[]) ∧ ∃ n os, w' = grow (putRow (Value.int .i64) (Sort.ahead w n) blk off (zs.mergeSort fun x y => decide (x ≤ y)).toArray) os :=
  Any.slices_Sort_int sortLays blk off cap zs w hH hblk hsz
theorem compact_any (blk off cap : Nat) (zs : List Int) (w : World) (hH : Holds (Value.int .i64) w blk off zs.toArray) (hsz : zs.length ≤ 9223372036854775807) (hcap : zs.length ≤ cap) :
    Calls Tryz.prog 41 #[.slice (some ⟨blk, off, none⟩) zs.length cap] w fun e w' => e = .returned (.slice (some ⟨blk, off, none⟩) (Lib.compact zs).length cap) ∧ ∃ q, w' = putRow (Value.int .i64) (Sort.ahead w q) blk off (Lib.compact zs ++ List.replicate (zs.length - (Lib.compact zs).length) 0).toArray :=
  calls_of_every_depth fun D => AnyS.slices_Compact_int_in compLays D blk off cap zs w hH hsz hcap
theorem compact_none (a : Option Addr) (cap : Nat) (w : World) :
    Calls Tryz.prog 41 #[.slice a 0 cap] w fun e w' => e = .returned (.slice a 0 cap) ∧ w' = w :=
  calls_of_every_depth fun D => AnyS.slices_Compact_int_empty_in compLays D a cap w

end Go.Proofs.YtmpmeifpfmobfaaGreatDoor
