/-
  What the rows' list says of memory: the table of sixteen numbers lies in block 0; and the heap that start-up leaves meets it.
-/
import Derived.Test.YtcgmaiadipiegaaDoorSumOf
import Derived.ProofKit
import Derived.LaidMore
import Derived.OpenShut
import Derived.ChangeSame
import Derived.ChangeVars
import Derived.JoinedOf
import Derived.LaidLaws
import Derived.LaidHandle
import Derived.Stop.Joined
namespace Go.Proofs.YtcgmaiadipiegaaDoor
open Go.ChangeShapes Go.WideShapes Go.ChangeAt Go.RowKit
set_option linter.unusedVariables false

def laidL : List (String × DataW Unit) := [("sapwood/sum.half", Rows.laid_sapwood_sum_half)]
theorem gHalf : Tryd.prog.globalNamed "sapwood/sum.half" = some 0 := by kernel_rfl
theorem tHalf : (Tryd.prog.globals[0]?).map (·.type) = some 78 := by kernel_rfl

theorem half_of_laid {W : World} (h : laidMetH Tryd.prog laidL W) : Half W := by
  rw [MakeChecks.laidMetH_plain _ _ _ (by kernel_rfl)] at h
  obtain ⟨ps, ⟨g0, t0, cs0, f0, p0, q0, hg0, ht0, hv0, hd0, _, _⟩, _, _⟩ := h
  obtain rfl := Option.some.inj (gHalf.symm.trans hg0)
  obtain rfl := Option.some.inj (tHalf.symm.trans ht0)
  have hc : ∀ i, W.cell? ⟨0, i, none⟩ = cs0[i]? := fun i => World.var?_cell hg0 hv0 i
  obtain ⟨xs, m1, rfl, hx1, hlen, hn, hel⟩ := DataW.trod_array Tryd.underlying78 hd0
  have c1 : Tryd.prog.cellsOf 51 = 1 := by kernel_rfl
  rw [c1] at hel
  simp only [Prod.mk.injEq] at hx1
  have hx := hx1.1
  have key : ∀ i, i < 16 → W.cell? ⟨0, i, none⟩ = some (.int .u32 (Crc.tabL.getD i 0 : Nat)) := by
    intro i hi
    have h0 := hel i hi
    have hxi : xs[i]? = some xs[i] := List.getElem?_eq_getElem (by omega)
    rw [hxi] at h0
    obtain ⟨k, e1, e2, _⟩ := DataW.trod_int Tryd.underlying51 h0
    have e3 : (xs.map (·.1))[i]? = some (.lit (.int .u32 k)) := by
      rw [List.getElem?_map, hxi]
      simp [e2]
    have e4 : (xs.map (·.1)) = [.lit (.int .u32 0), .lit (.int .u32 79764919), .lit (.int .u32 159529838), .lit (.int .u32 222504665), .lit (.int .u32 319059676), .lit (.int .u32 398814059), .lit (.int .u32 445009330), .lit (.int .u32 507990021), .lit (.int .u32 638119352), .lit (.int .u32 583659535), .lit (.int .u32 797628118), .lit (.int .u32 726387553), .lit (.int .u32 890018660), .lit (.int .u32 835552979), .lit (.int .u32 1015980042), .lit (.int .u32 944750013)] := by
      have := hx.symm
      unfold Rows.laid_sapwood_sum_half at this
      injection this
    have e5 : k = (Crc.tabL.getD i 0 : Nat) := by
      rw [e4] at e3
      clear e4 hx hx1 h0 hel e1 e2 hc hxi
      match i, hi, e3 with
      | 0, _, e3 | 1, _, e3 | 2, _, e3 | 3, _, e3 | 4, _, e3 | 5, _, e3 | 6, _, e3 | 7, _, e3 | 8, _, e3 | 9, _, e3 | 10, _, e3 | 11, _, e3 | 12, _, e3 | 13, _, e3 | 14, _, e3 | 15, _, e3 =>
        simp at e3
        simp [Crc.tabL, ← e3]
    have e6 : cs0[i]? = some (.int .u32 k) := by
      have : (cs0.toList.drop (i * 1)).take 1 = [.int .u32 k] := e1
      rw [Nat.mul_one] at this
      have h2 : ((cs0.toList.drop i).take 1)[0]? = some (.int .u32 k) := by rw [this]; rfl
      rw [List.getElem?_take_of_lt (by omega), List.getElem?_drop] at h2
      simpa using h2
    rw [hc, e6, e5]
  refine ⟨?_, key⟩
  have h0 := key 0 (by omega)
  rcases Nat.eq_zero_or_pos W.heap.size with hz | hz
  · simp [World.cell?, hz] at h0
  · exact hz

/-- The heap that start-up leaves meets the list. -/
theorem door_met (os : Os) (args : Array Value) : laidMetH Tryd.prog laidL ((World.doorLaid Tryd.prog 14 os).forCall (fun _ _ => 0) ⟨#[], args, []⟩).memory :=
  laidMetH_of_parts3 (fuel := 8) (laidMet_of_run' 8 (by kernel_rfl) (by kernel_rfl)) (by kernel_rfl) (by kernel_rfl)

end Go.Proofs.YtcgmaiadipiegaaDoor
