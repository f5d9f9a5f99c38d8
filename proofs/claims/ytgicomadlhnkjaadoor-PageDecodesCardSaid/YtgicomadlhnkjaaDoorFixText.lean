/-
  The contracts of the Reader's methods Text and Zero; conditions: the Reader lies in memory as Rdr says.
-/
import Derived.Test.YtgicomadlhnkjaaDoorBytes
import Derived.Test.YtgicomadlhnkjaaDoorFixTake
namespace Go.Proofs.YtgicomadlhnkjaaDoor
open Go.RowKit
set_option linter.unusedVariables false

def txtP (l : List UInt8) (p e most : Int) : Int :=
  if nextE l p e 2 ≠ 0 then nextP l p e 2 else if most < num (nextB l p e 2) then nextP l p e 2 else nextP l (nextP l p e 2) 0 (num (nextB l p e 2))
def txtE (l : List UInt8) (p e most : Int) : Int :=
  if nextE l p e 2 ≠ 0 then nextE l p e 2 else if most < num (nextB l p e 2) then 4 else nextE l (nextP l p e 2) 0 (num (nextB l p e 2))
def txtS (l : List UInt8) (p e most : Int) : List UInt8 :=
  if nextE l p e 2 ≠ 0 then [] else if most < num (nextB l p e 2) then [] else nextB l (nextP l p e 2) 0 (num (nextB l p e 2))

def TextPost (w : World) (g d : Nat) (l : List UInt8) (p e most : Int) (x : Ending) (w' : World) : Prop :=
  x = .returned (.string ⟨(txtS l p e most).toArray⟩) ∧ Rdr w' g d l (txtP l p e most) (txtE l p e most) ∧ w.grownBy w' (some g)

theorem nextB_len2 (l : List UInt8) (p e : Int) : (nextB l p e 2).length ≤ 2 := by
  unfold nextB
  split
  · simp only [List.length_take]; omega
  · simp
theorem num_lt2 (l : List UInt8) (h : l.length ≤ 2) : num l ≤ 65535 := by
  have h1 := num_lt l
  have h2 := Nat.pow_le_pow_right (n := 256) (by omega) h
  omega

set_option maxHeartbeats 400000 in
theorem text_any (w : World) (g d : Nat) (l : List UInt8) (p e most : Int) (r : Rdr w g d l p e) (hb : l.length ≤ 281474976710656) :
    Calls Tryd.prog 50 #[.pointer (some ⟨g, 0, none⟩), .int .i64 most] w (TextPost w g d l p e most) := by
  have R := Lib.hid r
  clear r
  have hN := num_lt2 _ (nextB_len2 l p e)
  obtain ⟨N, hNe⟩ : ∃ N, N = num (nextB l p e 2) := ⟨_, rfl⟩
  obtain ⟨p1, hp1⟩ : ∃ q, q = nextP l p e 2 := ⟨_, rfl⟩
  obtain ⟨e1, he1⟩ : ∃ q, q = nextE l p e 2 := ⟨_, rfl⟩
  rw [← hNe] at hN
  have HN := Lib.hid hNe
  have HP := Lib.hid hp1
  have HE := Lib.hid he1
  clear hNe hp1 he1
  by_cases hz : e1 = 0
  · subst hz
    by_cases hm : most < N
    · go_enter Tryd.func50, Tryd.ntmps50
      go_wp2_with fail
      refine (take16_any w g d l p e R.out hb).mono ?_
      rintro x w1 ⟨rfl, r1, hg1⟩
      rw [← HP.out, ← HE.out] at r1
      rw [← HN.out]
      have hf := r1.free 2
      have hc := r1.cells.2.2
      have R1 := Lib.hid r1
      clear r1
      go_wp2_with fail
      refine (err_some w1 g d l p1 0 R1.out).mono ?_
      rintro x w2 ⟨rfl, rfl⟩
      go_wp2
      go_ret
      refine ⟨?_, ?_, ?_⟩
      · simp [txtS, ← HE.out, ← HN.out, hm]
      · have := R1.out.setE 4
        simpa [txtP, txtE, ← HE.out, ← HN.out, ← HP.out, hm] using this
      · exact only_setCell hg1 rfl _
    · go_enter Tryd.func50, Tryd.ntmps50
      go_wp2_with fail
      refine (take16_any w g d l p e R.out hb).mono ?_
      rintro x w1 ⟨rfl, r1, hg1⟩
      rw [← HP.out, ← HE.out] at r1
      rw [← HN.out]
      have R1 := Lib.hid r1
      clear r1
      go_wp2_with fail
      refine (err_some w1 g d l p1 0 R1.out).mono ?_
      rintro x w2 ⟨rfl, rfl⟩
      go_wp2_with fail
      refine (next_any w1 g d l p1 0 N R1.out (by omega) hb).mono ?_
      rintro x w2 ⟨A, n, c, rfl, hlen, hrd, r2, hg2⟩
      have hcv := conv_rd (c := c) hrd hlen
      have Hlen := Lib.hid hlen
      clear hlen
      go_wp2
      go_ret
      have hm' : ¬ (most < (N : Int)) := by omega
      refine ⟨?_, ?_, ?_⟩
      · simp [txtS, ← HE.out, ← HN.out, ← HP.out, hm']
      · simpa [txtP, txtE, ← HE.out, ← HN.out, ← HP.out, hm'] using r2
      · exact hg1.trans hg2
  · have hne : (e1 != 0) = true := by simpa using hz
    have HZ := Lib.hid hz
    clear hz
    go_enter Tryd.func50, Tryd.ntmps50
    go_wp2_with fail
    refine (take16_any w g d l p e R.out hb).mono ?_
    rintro x w1 ⟨rfl, r1, hg1⟩
    rw [← HP.out, ← HE.out] at r1
    rw [← HN.out]
    have R1 := Lib.hid r1
    clear r1
    go_wp2_with fail
    refine (err_some w1 g d l p1 e1 R1.out).mono ?_
    rintro x w2 ⟨rfl, rfl⟩
    go_wp2
    go_ret
    refine ⟨?_, ?_, hg1⟩
    · simp [txtS, ← HE.out, HZ.out]
    · simpa [txtP, txtE, ← HE.out, ← HP.out, HZ.out] using R1.out

/-- Are all bytes from p on 0? -/
def zeros (l : List UInt8) (p : Int) : Bool := (l.drop p.toNat).all (· == 0)
def zeroP (l : List UInt8) (p e : Int) : Int := if e = 0 ∧ zeros l p = true then l.length else p
def zeroE (l : List UInt8) (p e : Int) : Int := if e = 0 then (if zeros l p = true then 0 else 3) else e

def ZeroPost (w : World) (g d : Nat) (l : List UInt8) (p e : Int) (x : Ending) (w' : World) : Prop :=
  x = .returned (.tuple #[]) ∧ Rdr w' g d l (zeroP l p e) (zeroE l p e) ∧ w.grownBy w' (some g)

theorem zeros_step (l : List UInt8) (q k : Nat) (h : q + k < l.length) : (l.drop (q + k)).all (· == 0) = (l[q + k] == 0 && (l.drop (q + (k + 1))).all (· == 0)) := by
  rw [List.drop_eq_getElem_cons h, List.all_cons]; rfl

end Go.Proofs.YtgicomadlhnkjaaDoor
