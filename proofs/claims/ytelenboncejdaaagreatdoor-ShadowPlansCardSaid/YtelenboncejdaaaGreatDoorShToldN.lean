/-
  The contract of told for a leaf that was not told; conditions stand at each.
-/
import Derived.Test.YtelenboncejdaaaGreatDoorShTold
namespace Go.Proofs.YtelenboncejdaaaGreatDoor
open Go.RowKit Go.Sort
open Rt (Fx Stp)
set_option linter.unusedVariables false
set_option linter.unusedSimpArgs false

theorem pgInfo : (Tryz.prog.info? 74).map (fun i => (i.zero, i.size, i.bytes)) = some (some (.agg #[.pointer none, .pointer none]), 2, 16) := by kernel_rfl
/-- What told turns. -/
def XM (sb : Nat) (v : Value) : Nat → Prop := fun k => k = sb ∨ v.ownBlock = some k

end Go.Proofs.YtelenboncejdaaaGreatDoor
