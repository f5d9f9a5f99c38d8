/-
  The contracts of cell.equal, of numbers and of texts: it answers whether they are equal, and turns nothing; its deferred recover finds no panic. No conditions.
-/
import Derived.Test.YthalghjnnfohaaaCellMem
import Derived.Defers
import Derived.Recover
import Derived.Lib.Strings
namespace Go.Proofs.Ythalghjnnfohaaa
open Go.RowKit Go.Sort
set_option linter.unusedVariables false
set_option linter.unusedSimpArgs false

theorem idleI (w : World) : CallsD Try.prog 30 #[] .returning w fun e u' w' => e = .returned (.tuple #[]) ∧ u' = .returning ∧ w' = w := by
  refine callsD_of_wpS Try.func30 rfl fun c₀ cs hu => ?_
  apply wpS_region
  simp [wpOpsS, go_sem, recoverD, hu, Try.ntmps30, Exit.thenS, bodyPostS, results, Try.results30]
  cases c₀
  simp_all
theorem idleS (w : World) : CallsD Try.prog 31 #[] .returning w fun e u' w' => e = .returned (.tuple #[]) ∧ u' = .returning ∧ w' = w := by
  refine callsD_of_wpS Try.func31 rfl fun c₀ cs hu => ?_
  apply wpS_region
  simp [wpOpsS, go_sem, recoverD, hu, Try.ntmps31, Exit.thenS, bodyPostS, results, Try.results31]
  cases c₀
  simp_all

theorem text_eq (a b : ByteArray) : (a.toList == b.toList) = decide (a = b) := by
  rw [Bool.beq_eq_decide_eq]
  refine decide_eq_decide.2 ⟨fun h => ?_, fun h => by rw [h]⟩
  rw [Lib.toList_data, Lib.toList_data] at h
  exact ByteArray.ext (Array.toList_inj.1 h)
theorem equalI (x y : Int) (w : World) : Calls Try.prog 27 #[.int .i64 x, .int .i64 y] w fun e w' => e = .returned (.bool (decide (x = y))) ∧ w' = w := by
  go_enter_defers Try.func27, Try.ntmps27
  go_wp2
  refine leaves_cons (f := 30) (args := #[]) (by simp) (by simp [go_sem]) ?_
  refine (idleI _).mono ?_
  rintro e u' w'' ⟨rfl, rfl, rfl⟩
  simp [Leaves, settle, results, Try.results27, go_sem]
  exact Bool.beq_eq_decide_eq x y
theorem equalS (x y : ByteArray) (w : World) : Calls Try.prog 29 #[.string x, .string y] w fun e w' => e = .returned (.bool (decide (x = y))) ∧ w' = w := by
  go_enter_defers Try.func29, Try.ntmps29
  go_wp2
  refine leaves_cons (f := 31) (args := #[]) (by simp) (by simp [go_sem]) ?_
  refine (idleS _).mono ?_
  rintro e u' w'' ⟨rfl, rfl, rfl⟩
  simp [Leaves, settle, results, Try.results29, go_sem]
  exact text_eq x y

end Go.Proofs.Ythalghjnnfohaaa
