/-
  The contract of the law's helper does: one call of a Reader's method; after an error it answers nothing and leaves the Reader as it was; conditions: the Reader lies in memory as Rdr says.
-/
import Derived.Test.YtpobnifjgajgkaaFixText
import Derived.Test.YtpobnifjgajgkaaFixAwake
namespace Go.Proofs.Ytpobnifjgajgkaa
open Go.RowKit
set_option linter.unusedVariables false

theorem Rdr.alloc {w : World} {g d : Nat} {l : List UInt8} {p e : Int} (r : Rdr w g d l p e) (o : Obj) : Rdr (w.alloc o) g d l p e :=
  ⟨(Below.heap_alloc w o g r.lt.1).trans r.1, (Below.heap_alloc w o d r.lt.2).trans r.2.1, r.2.2.1, r.2.2.2⟩
theorem grown_alloc (w : World) (o : Obj) (row : Option Nat) : w.grownBy (w.alloc o) row :=
  ⟨rfl, rfl, rfl, by simp, fun i hi _ => Below.heap_alloc w o i hi⟩

def DoesPost (w : World) (g d : Nat) (l : List UInt8) (p e : Int) (x : Ending) (w' : World) : Prop :=
  ∃ b p' e', x = .returned (.bool b) ∧ Rdr w' g d l p' e' ∧ w.grownBy w' (some g) ∧ (e ≠ 0 → b = false ∧ p' = p ∧ e' = e)

theorem num_nil : num [] = 0 := rfl
theorem stop_next (l : List UInt8) (p e s : Int) (h : e ≠ 0) : nextB l p e s = [] ∧ nextP l p e s = p ∧ nextE l p e s = e := by
  simp [nextB, nextP, nextE, h]
theorem stop_txt (l : List UInt8) (p e m : Int) (h : e ≠ 0) : txtS l p e m = [] ∧ txtP l p e m = p ∧ txtE l p e m = e := by
  obtain ⟨_, h2, h3⟩ := stop_next l p e 2 h
  simp [txtS, txtP, txtE, h2, h3, h]
theorem stop_zero (l : List UInt8) (p e : Int) (h : e ≠ 0) : zeroP l p e = p ∧ zeroE l p e = e := by
  simp [zeroP, zeroE, h]

theorem does_take (w w' : World) (g d : Nat) (l : List UInt8) (p e s : Int) (o : Obj) (r : Rdr w' g d l (nextP l p e s) (nextE l p e s)) (hg : (w.alloc o).grownBy w' (some g)) :
    DoesPost w g d l p e (.returned (.bool ((num (nextB l p e s) : Int) != 0))) w' := by
  refine ⟨_, _, _, rfl, r, (grown_alloc w o _).trans hg, fun he => ?_⟩
  obtain ⟨h1, h2, h3⟩ := stop_next l p e s he
  rw [h1, h2, h3]
  exact ⟨rfl, rfl, rfl⟩

set_option maxHeartbeats 1000000 in
theorem does_any (w : World) (g d : Nat) (l : List UInt8) (p e : Int) (k n : Int) (r : Rdr w g d l p e) (hb : l.length ≤ 281474976710656) :
    Calls Try.prog 27 #[.pointer (some ⟨g, 0, none⟩), .agg #[.int .i64 k, .int .i64 n]] w (DoesPost w g d l p e) := by
  have R := Lib.hid r
  clear r
  by_cases h1 : k = 1
  · subst h1
    go_enter Try.func27, Try.ntmps27
    go_wp2_with fail
    refine (take8_any _ g d l p e (R.out.alloc _) hb).mono ?_
    rintro x w1 ⟨rfl, r1, hg1⟩
    go_wp2
    go_ret
    exact does_take w w1 g d l p e 1 _ r1 hg1
  by_cases h2 : k = 2
  · subst h2
    go_enter Try.func27, Try.ntmps27
    go_wp2_with fail
    refine (take16_any _ g d l p e (R.out.alloc _) hb).mono ?_
    rintro x w1 ⟨rfl, r1, hg1⟩
    go_wp2
    go_ret
    exact does_take w w1 g d l p e 2 _ r1 hg1
  by_cases h3 : k = 3
  · subst h3
    go_enter Try.func27, Try.ntmps27
    go_wp2_with fail
    refine (take32_any _ g d l p e (R.out.alloc _) hb).mono ?_
    rintro x w1 ⟨rfl, r1, hg1⟩
    go_wp2
    go_ret
    exact does_take w w1 g d l p e 4 _ r1 hg1
  by_cases h4 : k = 4
  · subst h4
    go_enter Try.func27, Try.ntmps27
    go_wp2_with fail
    refine (text_any _ g d l p e n (R.out.alloc _) hb).mono ?_
    rintro x w1 ⟨rfl, r1, hg1⟩
    go_wp2
    go_ret
    refine ⟨_, _, _, rfl, r1, (grown_alloc w _ _).trans hg1, fun he => ?_⟩
    obtain ⟨t1, t2, t3⟩ := stop_txt l p e n he
    rw [t1, t2, t3]
    exact ⟨rfl, rfl, rfl⟩
  by_cases h5 : k = 5
  · subst h5
    go_enter Try.func27, Try.ntmps27
    go_wp2_with fail
    refine (zero_any _ g d l p e (R.out.alloc _) hb).mono ?_
    rintro x w1 ⟨rfl, r1, hg1⟩
    go_wp2
    go_ret
    refine ⟨_, _, _, rfl, r1, (grown_alloc w _ _).trans hg1, fun he => ?_⟩
    obtain ⟨t2, t3⟩ := stop_zero l p e he
    rw [t2, t3]
    exact ⟨rfl, rfl, rfl⟩
  have b1 : (k == 1) = false := by simpa using h1
  have b2 : (k == 2) = false := by simpa using h2
  have b3 : (k == 3) = false := by simpa using h3
  have b4 : (k == 4) = false := by simpa using h4
  have b5 : (k == 5) = false := by simpa using h5
  clear h1 h2 h3 h4 h5
  go_enter Try.func27, Try.ntmps27
  go_wp2
  go_ret
  exact ⟨_, _, _, rfl, R.out.alloc _, grown_alloc w _ _, fun _ => ⟨rfl, rfl, rfl⟩⟩

/-- A slice of calls that came in. -/
def OpsAt (w : World) (A : Option Addr) (n : Nat) : Prop :=
  0 < n → ∃ b off, A = some ⟨b, off, none⟩ ∧ b < w.heap.size ∧ ∀ i, i < n → ∃ k m : Int, w.cell? ⟨b, off + i * 2, none⟩ = some (.int .i64 k) ∧ w.cell? ⟨b, off + i * 2 + 1, none⟩ = some (.int .i64 m)
theorem OpsAt.below {w w' : World} {A : Option Addr} {n : Nat} (h : OpsAt w A n) (hb : Below w.heap.size w w') : OpsAt w' A n := fun h0 => by
  obtain ⟨b, off, e, hlt, hc⟩ := h h0
  refine ⟨b, off, e, Nat.lt_of_lt_of_le hlt hb.size, fun i hi => ?_⟩
  obtain ⟨k, m, h1, h2⟩ := hc i hi
  exact ⟨k, m, (hb.cell (p := ⟨b, off + i * 2, none⟩) hlt).trans h1, (hb.cell (p := ⟨b, off + i * 2 + 1, none⟩) hlt).trans h2⟩

end Go.Proofs.Ytpobnifjgajgkaa
