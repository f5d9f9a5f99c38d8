/-
  The law's helper awake answers true, and writes nothing that was there; no conditions.
-/
import Derived.Test.YtpobnifjgajgkaaFixTake
namespace Go.Proofs.Ytpobnifjgajgkaa
open Go.RowKit
set_option linter.unusedVariables false

theorem below_only {B : Nat} {a w w' : World} {g : Nat} (h : Below B a w) (hg : w.grownBy w' (some g)) (hB : B ≤ w.heap.size) (hr : B ≤ g) : Below B a w' :=
  h.grown hg hB (fun k hk => by cases hk; exact hr)

set_option maxHeartbeats 400000 in
theorem awake_any (w : World) :
    Calls Try.prog 10 #[] w fun e w' => e = .returned (.bool true) ∧ Below w.heap.size w w' := by
  go_enter Try.func10, Try.ntmps10
  go_wp2_with fail
  refine (put16_any none 0 0 [] 258 w (Rd.nil _ _) rfl (by omega) (by omega) (by omega)).mono ?_
  rintro e w1 ⟨rfl, hown, hb1⟩
  have hh := own_whole hown
  have hlt := lt_of_block hh
  have Hh := Lib.hid hh
  clear hown hh
  go_wp2_with fail
  refine (read_any _ 2 _ [1, 2] _ (fun _ => ⟨_, rfl, by simp, new_row w1 _ _⟩) rfl (by omega)).mono ?_
  rintro e w2 ⟨g, rfl, r2, hg2, hb2⟩
  have hsz := hb1.size
  have h2 : w2.heap[w.heap.size]? = some (.cells #[.int .u8 1, .int .u8 2] 5 (0, 0)) := by
    rw [hb2.block _ (by simp; omega), Below.heap_alloc _ _ _ hlt, Hh.out]
    rfl
  have hc0 : w2.cell? ⟨w.heap.size, 0, none⟩ = some (.int .u8 1) := (cell_of_block h2 0).trans rfl
  have hc1 : w2.cell? ⟨w.heap.size, 1, none⟩ = some (.int .u8 2) := (cell_of_block h2 1).trans rfl
  have R2 := Lib.hid r2
  clear r2 h2
  have hb02 : Below w.heap.size w w2 := (hb1.alloc hsz _).trans (hb2.mono (by simp; omega))
  have hb2s := hb2.size
  clear hb2
  simp at hg2 hb2s
  go_wp2_with fail
  refine (take16_any w2 g _ [1, 2] 0 0 R2.out (by simp)).mono ?_
  rintro e w3 ⟨rfl, r3, hg3⟩
  rw [show num (nextB [1, 2] 0 0 2) = 258 from by decide]
  have r4 : Rdr w3 g (w1.heap.size + 1) [1, 2] 2 0 := by
    have e1 : nextP [1, 2] 0 0 2 = 2 := by decide
    have e2 : nextE [1, 2] 0 0 2 = 0 := by decide
    rw [e1, e2] at r3
    simpa using r3
  have R4 := Lib.hid r4
  clear r3 r4
  go_wp2_with fail
  refine (err_some w3 g _ [1, 2] 2 0 R4.out).mono ?_
  rintro e w4 ⟨rfl, rfl⟩
  go_wp2
  go_ret
  exact ⟨rfl, below_only hb02 hg3 (by omega) (by omega)⟩

end Go.Proofs.Ytpobnifjgajgkaa
