/-
  The law's helper awake answers true, and writes nothing that was there; no conditions.
-/
import Derived.Test.YtcgmaiadipiegaaDoorFixTake
namespace Go.Proofs.YtcgmaiadipiegaaDoor
open Go.RowKit
set_option linter.unusedVariables false

theorem below_only {B : Nat} {a w w' : World} {g : Nat} (h : Below B a w) (hg : w.grownBy w' (some g)) (hB : B ≤ w.heap.size) (hr : B ≤ g) : Below B a w' :=
  h.grown hg hB (fun k hk => by cases hk; exact hr)

end Go.Proofs.YtcgmaiadipiegaaDoor
