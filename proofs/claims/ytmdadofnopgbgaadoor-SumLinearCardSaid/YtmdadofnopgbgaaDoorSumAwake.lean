/-
  The contract of the statements' awake: true; condition: the table of sixteen numbers lies in memory.
-/
import Derived.Test.YtmdadofnopgbgaaDoorSumSeal
import Derived.Lib.SmallJoins
namespace Go.Proofs.YtmdadofnopgbgaaDoor
open Go.RowKit
set_option linter.unusedVariables false

theorem crc_digits : Crc.crc [49, 50, 51, 52, 53, 54, 55, 56, 57] = 4236843288#32 := by decide +kernel

set_option maxHeartbeats 400000 in
theorem awake_any (w : World) (hh : Half w) :
    Calls Tryd.prog 9 #[] w fun e w' => e = .returned (.bool true) ∧ Below w.heap.size w w' := by
  have kc := Lib.run_convert_bytes_const (P := Tryd.prog) w 23 5 #[.int .u8 49, .int .u8 50, .int .u8 51, .int .u8 52, .int .u8 53, .int .u8 54, .int .u8 55, .int .u8 56, .int .u8 57] 9 9 Tryd.underlying23 Tryd.underlying5
  obtain ⟨w1, hw⟩ : ∃ w1, w1 = w.alloc (.cells #[.int .u8 49, .int .u8 50, .int .u8 51, .int .u8 52, .int .u8 53, .int .u8 54, .int .u8 55, .int .u8 56, .int .u8 57] 5 (#[Value.int .u8 49, .int .u8 50, .int .u8 51, .int .u8 52, .int .u8 53, .int .u8 54, .int .u8 55, .int .u8 56, .int .u8 57].size, #[Value.int .u8 49, .int .u8 50, .int .u8 51, .int .u8 52, .int .u8 53, .int .u8 54, .int .u8 55, .int .u8 56, .int .u8 57].size + 1)) := ⟨_, rfl⟩
  rw [← hw] at kc
  have hb : Below w.heap.size w w1 := by rw [hw]; exact (Below.refl _ _).alloc (Nat.le_refl _) _
  have hr : Rd w1 (some ⟨w.heap.size, 0, none⟩) [49, 50, 51, 52, 53, 54, 55, 56, 57] := by
    intro _
    refine ⟨_, rfl, by rw [hw]; simp, fun j u hu => ?_⟩
    have e : ((⟨w.heap.size, 0, none⟩ : Addr).add j) = ⟨w.heap.size, j, none⟩ := by unfold Addr.add; split <;> simp_all
    rw [e, hw, World.cell?_alloc_mark]
    exact Eq.trans (List.getElem?_toArray ..) hu
  clear hw
  go_enter Tryd.func9, Tryd.ntmps9
  go_wp2_with fail
  refine (of_any _ 9 9 [49, 50, 51, 52, 53, 54, 55, 56, 57] w1 (hh.below hb) hr rfl (by omega)).mono ?_
  rintro e w2 ⟨rfl, rfl⟩
  rw [crc_digits]
  go_wp2
  go_ret
  exact ⟨rfl, hb⟩

end Go.Proofs.YtmdadofnopgbgaaDoor
