/-
  The contracts of the Reader's methods Text and Zero; conditions: the Reader lies in memory as Rdr says.
-/
import Derived.Test.YtcgmaiadipiegaaDoorBytes
import Derived.Test.YtcgmaiadipiegaaDoorFixTake
namespace Go.Proofs.YtcgmaiadipiegaaDoor
open Go.RowKit
set_option linter.unusedVariables false

def txtP (l : List UInt8) (p e most : Int) : Int :=
  if nextE l p e 2 ≠ 0 then nextP l p e 2 else if most < num (nextB l p e 2) then nextP l p e 2 else nextP l (nextP l p e 2) 0 (num (nextB l p e 2))
def txtE (l : List UInt8) (p e most : Int) : Int :=
  if nextE l p e 2 ≠ 0 then nextE l p e 2 else if most < num (nextB l p e 2) then 4 else nextE l (nextP l p e 2) 0 (num (nextB l p e 2))
def txtS (l : List UInt8) (p e most : Int) : List UInt8 :=
  if nextE l p e 2 ≠ 0 then [] else if most < num (nextB l p e 2) then [] else nextB l (nextP l p e 2) 0 (num (nextB l p e 2))

def TextPost (w : World) (g d : Nat) (l : List UInt8) (p e most : Int) (x : Ending) (w' : World) : Prop :=
  x = .returned (.string ⟨(txtS l p e most).toArray⟩) ∧ Rdr w' g d l (txtP l p e most) (txtE l p e most) ∧ w.grownBy w' (some g)

theorem nextB_len2 (l : List UInt8) (p e : Int) : (nextB l p e 2).length ≤ 2 := by
  unfold nextB
  split
  · simp only [List.length_take]; omega
  · simp
theorem num_lt2 (l : List UInt8) (h : l.length ≤ 2) : num l ≤ 65535 := by
  have h1 := num_lt l
  have h2 := Nat.pow_le_pow_right (n := 256) (by omega) h
  omega

/-- Are all bytes from p on 0? -/
def zeros (l : List UInt8) (p : Int) : Bool := (l.drop p.toNat).all (· == 0)
def zeroP (l : List UInt8) (p e : Int) : Int := if e = 0 ∧ zeros l p = true then l.length else p
def zeroE (l : List UInt8) (p e : Int) : Int := if e = 0 then (if zeros l p = true then 0 else 3) else e

def ZeroPost (w : World) (g d : Nat) (l : List UInt8) (p e : Int) (x : Ending) (w' : World) : Prop :=
  x = .returned (.tuple #[]) ∧ Rdr w' g d l (zeroP l p e) (zeroE l p e) ∧ w.grownBy w' (some g)

theorem zeros_step (l : List UInt8) (q k : Nat) (h : q + k < l.length) : (l.drop (q + k)).all (· == 0) = (l[q + k] == 0 && (l.drop (q + (k + 1))).all (· == 0)) := by
  rw [List.drop_eq_getElem_cons h, List.all_cons]; rfl

end Go.Proofs.YtcgmaiadipiegaaDoor
