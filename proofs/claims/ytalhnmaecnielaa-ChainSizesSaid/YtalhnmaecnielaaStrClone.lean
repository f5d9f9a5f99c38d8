/-
  The contract of strings.Clone, by the library's contract of internal/stringslite.Clone: the same bytes; conditions stand at it.
-/
import Derived.Test.YtalhnmaecnielaaRows
import Derived.WalkKit
import Derived.Shelf.Pu.Clone
namespace Go.Proofs.Ytalhnmaecnielaa
open Go.RowKit Go.Shelf
set_option linter.unusedVariables false

/-- The numbers of the library's contract, in this program. -/
def cloneRen : Ren where
  f := fun | 25 => 19 | n => n
  t := fun | 0 => 0 | 3 => 3 | 4 => 4 | 5 => 5 | 9 => 9 | 37 => 36 | 47 => 41 | n => n
  g := fun n => n

theorem cloneLays : LaysPu.n25 Try.prog cloneRen where
  mixed := by kernel_rfl
  f25 := Try.func19.trans (by kernel_rfl)
  t0 := Try.underlying0
  a0 := Try.isAgg0
  z0 := Try.sizeOf0
  v0 := Try.zeroValue0
  i0 := by kernel_rfl
  t3 := Try.underlying3
  a3 := Try.isAgg3
  z3 := Try.sizeOf3
  v3 := Try.zeroValue3
  i3 := by kernel_rfl
  t4 := Try.underlying4
  a4 := Try.isAgg4
  z4 := Try.sizeOf4
  v4 := Try.zeroValue4
  i4 := by kernel_rfl
  t5 := Try.underlying5
  a5 := Try.isAgg5
  z5 := Try.sizeOf5
  v5 := Try.zeroValue5
  i5 := by kernel_rfl
  t9 := Try.underlying9
  a9 := Try.isAgg9
  z9 := Try.sizeOf9
  v9 := Try.zeroValue9
  i9 := by kernel_rfl
  t37 := Try.underlying36
  a37 := Try.isAgg36
  z37 := Try.sizeOf36
  v37 := Try.zeroValue36
  i37 := by kernel_rfl
  t47 := Try.underlying41
  a47 := Try.isAgg41
  z47 := Try.sizeOf41
  v47 := Try.zeroValue41
  i47 := by kernel_rfl

theorem liteClone_any (s : ByteArray) (w : World) (hlim : s.size ≤ 140737488351232) : Calls Try.prog 19 #[.string s] w fun e w' => e = .returned (.string s) ∧ Below w.heap.size w w' :=
  AnyPu.stringslite_Clone cloneLays s w (by omega)

set_option maxHeartbeats 400000 in
theorem strClone_any (s : ByteArray) (w : World) (hlim : s.size ≤ 140737488351232) : Calls Try.prog 18 #[.string s] w fun e w' => e = .returned (.string s) ∧ Below w.heap.size w w' := by
  go_enter Try.func18, Try.ntmps18
  go_wp2_with fail
  refine (liteClone_any s w hlim).mono ?_
  rintro e w1 ⟨rfl, hb⟩
  go_wp2
  go_ret
  exact ⟨rfl, hb⟩

end Go.Proofs.Ytalhnmaecnielaa
