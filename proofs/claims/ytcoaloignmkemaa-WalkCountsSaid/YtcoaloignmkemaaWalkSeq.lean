/-
  The makers of iterators: walk.From, All, BackFrom, Back, leaves, leavesBack, slices.Backward: which function value each hands back, what it lays; conditions stand at each.
-/
import Derived.Test.YtcoaloignmkemaaTreePut
import Derived.Test.YtcoaloignmkemaaRangeT
namespace Go.Proofs.Ytcoaloignmkemaa
open Go.RowKit Go.Sort
set_option linter.unusedVariables false

abbrev pb (b : Nat) : Value := .pointer (some ⟨b, 0, none⟩)
/-- Two boxes: a node and a key. -/
def boxed2 (w : World) (n : Value) (key : ByteArray) : World := (w.alloc (.cells #[n] 24)).alloc (.cells #[.string key] 9)
theorem boxed2_size (w : World) (n : Value) (key : ByteArray) : (boxed2 w n key).heap.size = w.heap.size + 2 := by simp [boxed2]
theorem boxed2_below (w : World) (n : Value) (key : ByteArray) : Below w.heap.size w (boxed2 w n key) := ((Below.refl _ w).alloc (Nat.le_refl _) _).alloc (by simp) _
theorem boxed2_n (w : World) (n : Value) (key : ByteArray) : (boxed2 w n key).heap[w.heap.size]? = some (.cells #[n] 24 (0, 0)) :=
  (Below.heap_alloc _ _ _ (by simp)).trans (heap_alloc_new w _)
theorem boxed2_k (w : World) (n : Value) (key : ByteArray) : (boxed2 w n key).heap[w.heap.size + 1]? = some (.cells #[.string key] 9 (0, 0)) := by
  have := heap_alloc_new (w.alloc (.cells #[n] 24)) (.cells #[.string key] 9)
  rwa [World.size_alloc] at this
/-- What such a maker answers. -/
def Mk2 (f : Nat) (n : Value) (key : ByteArray) (w : World) (e : Ending) (w' : World) : Prop := e = .returned (.func (.func f) #[] #[pb w.heap.size, pb (w.heap.size + 1)]) ∧ w' = boxed2 w n key

theorem leaves_made (w : World) (p : Option Addr) (key : ByteArray) : Calls Try.prog 28 #[.pointer p, .string key] w (Mk2 39 (.pointer p) key w) := by
  go_enter Try.func28, Try.ntmps28
  go_wp2
  go_ret
  exact ⟨rfl, rfl⟩
theorem leavesBack_made (w : World) (p : Option Addr) (key : ByteArray) : Calls Try.prog 31 #[.pointer p, .string key] w (Mk2 42 (.pointer p) key w) := by
  go_enter Try.func31, Try.ntmps31
  go_wp2
  go_ret
  exact ⟨rfl, rfl⟩
theorem from_made (w : World) (p : Option Addr) (key : ByteArray) : Calls Try.prog 16 #[.pointer p, .string key] w (Mk2 27 (.pointer p) key w) := by
  go_enter Try.func16, Try.ntmps16
  go_wp2
  go_ret
  exact ⟨rfl, rfl⟩
theorem backFrom_made (w : World) (p : Option Addr) (key : ByteArray) : Calls Try.prog 17 #[.pointer p, .string key] w (Mk2 30 (.pointer p) key w) := by
  go_enter Try.func17, Try.ntmps17
  go_wp2
  go_ret
  exact ⟨rfl, rfl⟩
theorem all_made (w : World) (p : Option Addr) : Calls Try.prog 11 #[.pointer p] w (Mk2 27 (.pointer p) ByteArray.empty w) := by
  go_enter Try.func11, Try.ntmps11
  go_wp2_with fail
  refine (from_made w p _).mono ?_
  rintro e w1 ⟨rfl, rfl⟩
  go_wp2
  go_ret
  exact ⟨rfl, rfl⟩
/-- The greatest key, or the empty one. -/
def hiOf : TO → ByteArray
  | none => ByteArray.empty
  | some x => x.2.N.hi
theorem mk2_drewn {f : Nat} {n : Value} {key : ByteArray} {w w' : World} {e : Ending} {q : Nat} (h : Mk2 f n key (w.drewN q) e w') : e = .returned (.func (.func f) #[] #[pb w.heap.size, pb (w.heap.size + 1)]) ∧ w' = boxed2 (w.drewN q) n key := h
theorem back_made {w : World} {T : TO} (ht : TreeIs w T) : Calls Try.prog 12 #[tb T] w fun e w' => ∃ q, e = .returned (.func (.func 30) #[] #[pb w.heap.size, pb (w.heap.size + 1)]) ∧ w' = boxed2 (w.drewN q) (tb T) (hiOf T) := by
  cases T with
  | none =>
    go_enter Try.func12, Try.ntmps12
    go_wp2_with fail
    refine (ends_nil w).mono ?_
    rintro e w1 ⟨rfl, rfl⟩
    go_wp2_with fail
    refine (backFrom_made w none _).mono ?_
    rintro e w1 ⟨rfl, rfl⟩
    go_wp2
    go_ret
    exact ⟨0, rfl, rfl⟩
  | some x =>
    have HT := Lib.hid (ht x rfl)
    clear ht
    go_enter Try.func12, Try.ntmps12
    go_wp2_with fail
    refine (ends_any HT.out.at_).mono ?_
    rintro e w1 ⟨rfl, q, rfl⟩
    go_wp2_with fail
    refine (backFrom_made _ _ _).mono ?_
    rintro e w1 h
    obtain ⟨rfl, rfl⟩ := mk2_drewn h
    go_wp2
    go_ret
    exact ⟨q, rfl, rfl⟩

end Go.Proofs.Ytcoaloignmkemaa
