/-
  The contracts of the Reader's methods Text and Zero; conditions: the Reader lies in memory as Rdr says.
-/
import Derived.Test.YtpobnifjgajgkaaFixTake
namespace Go.Proofs.Ytpobnifjgajgkaa
open Go.RowKit
set_option linter.unusedVariables false

def txtP (l : List UInt8) (p e most : Int) : Int :=
  if nextE l p e 2 ≠ 0 then nextP l p e 2 else if most < num (nextB l p e 2) then nextP l p e 2 else nextP l (nextP l p e 2) 0 (num (nextB l p e 2))
def txtE (l : List UInt8) (p e most : Int) : Int :=
  if nextE l p e 2 ≠ 0 then nextE l p e 2 else if most < num (nextB l p e 2) then 4 else nextE l (nextP l p e 2) 0 (num (nextB l p e 2))
def txtS (l : List UInt8) (p e most : Int) : List UInt8 :=
  if nextE l p e 2 ≠ 0 then [] else if most < num (nextB l p e 2) then [] else nextB l (nextP l p e 2) 0 (num (nextB l p e 2))

def TextPost (w : World) (g d : Nat) (l : List UInt8) (p e most : Int) (x : Ending) (w' : World) : Prop :=
  x = .returned (.string ⟨(txtS l p e most).toArray⟩) ∧ Rdr w' g d l (txtP l p e most) (txtE l p e most) ∧ w.grownBy w' (some g)

theorem nextB_len2 (l : List UInt8) (p e : Int) : (nextB l p e 2).length ≤ 2 := by
  unfold nextB
  split
  · simp only [List.length_take]; omega
  · simp
theorem num_lt2 (l : List UInt8) (h : l.length ≤ 2) : num l ≤ 65535 := by
  have h1 := num_lt l
  have h2 := Nat.pow_le_pow_right (n := 256) (by omega) h
  omega

/-- string(b) of what can be read. -/
theorem conv_rd {w : World} {A : Option Addr} {n c : Nat} {l : List UInt8} (h : Rd w A l) (hn : l.length = n) :
    (convert 23 9 (.slice A n c)).run Try.prog w = .ok (.string ⟨l.toArray⟩) w := by
  subst hn
  cases A with
  | none =>
    have : l = [] := by
      rcases Nat.eq_zero_or_pos l.length with h0 | h0
      · exact List.eq_nil_of_length_eq_zero h0
      · obtain ⟨ad, e, _⟩ := h h0
        cases e
    subst this
    exact run_convert_bytes_nil w 23 5 Try.underlying23 Try.underlying5 _ c 9 Try.underlying9
  | some ad =>
    refine run_convert_bytes_back (P := Try.prog) w 23 9 5 ad c l Try.underlying23 Try.underlying5 Try.underlying9 (fun j hj => ?_)
    obtain ⟨ad', e, _, hc⟩ := h (by omega)
    cases e
    exact hc j (u8 l[j]) (by simp [bcells, hj])

set_option maxHeartbeats 400000 in
theorem text_any (w : World) (g d : Nat) (l : List UInt8) (p e most : Int) (r : Rdr w g d l p e) (hb : l.length ≤ 281474976710656) :
    Calls Try.prog 21 #[.pointer (some ⟨g, 0, none⟩), .int .i64 most] w (TextPost w g d l p e most) := by
  have R := Lib.hid r
  clear r
  have hN := num_lt2 _ (nextB_len2 l p e)
  obtain ⟨N, hNe⟩ : ∃ N, N = num (nextB l p e 2) := ⟨_, rfl⟩
  obtain ⟨p1, hp1⟩ : ∃ q, q = nextP l p e 2 := ⟨_, rfl⟩
  obtain ⟨e1, he1⟩ : ∃ q, q = nextE l p e 2 := ⟨_, rfl⟩
  rw [← hNe] at hN
  have HN := Lib.hid hNe
  have HP := Lib.hid hp1
  have HE := Lib.hid he1
  clear hNe hp1 he1
  by_cases hz : e1 = 0
  · subst hz
    by_cases hm : most < N
    · go_enter Try.func21, Try.ntmps21
      go_wp2_with fail
      refine (take16_any w g d l p e R.out hb).mono ?_
      rintro x w1 ⟨rfl, r1, hg1⟩
      rw [← HP.out, ← HE.out] at r1
      rw [← HN.out]
      have hf := r1.free 2
      have hc := r1.cells.2.2
      have R1 := Lib.hid r1
      clear r1
      go_wp2_with fail
      refine (err_some w1 g d l p1 0 R1.out).mono ?_
      rintro x w2 ⟨rfl, rfl⟩
      go_wp2
      go_ret
      refine ⟨?_, ?_, ?_⟩
      · simp [txtS, ← HE.out, ← HN.out, hm]
      · have := R1.out.setE 4
        simpa [txtP, txtE, ← HE.out, ← HN.out, ← HP.out, hm] using this
      · exact only_setCell hg1 rfl _
    · go_enter Try.func21, Try.ntmps21
      go_wp2_with fail
      refine (take16_any w g d l p e R.out hb).mono ?_
      rintro x w1 ⟨rfl, r1, hg1⟩
      rw [← HP.out, ← HE.out] at r1
      rw [← HN.out]
      have R1 := Lib.hid r1
      clear r1
      go_wp2_with fail
      refine (err_some w1 g d l p1 0 R1.out).mono ?_
      rintro x w2 ⟨rfl, rfl⟩
      go_wp2_with fail
      refine (next_any w1 g d l p1 0 N R1.out (by omega) hb).mono ?_
      rintro x w2 ⟨A, n, c, rfl, hlen, hrd, r2, hg2⟩
      have hcv := conv_rd (c := c) hrd hlen
      have Hlen := Lib.hid hlen
      clear hlen
      go_wp2
      go_ret
      have hm' : ¬ (most < (N : Int)) := by omega
      refine ⟨?_, ?_, ?_⟩
      · simp [txtS, ← HE.out, ← HN.out, ← HP.out, hm']
      · simpa [txtP, txtE, ← HE.out, ← HN.out, ← HP.out, hm'] using r2
      · exact hg1.trans hg2
  · have hne : (e1 != 0) = true := by simpa using hz
    have HZ := Lib.hid hz
    clear hz
    go_enter Try.func21, Try.ntmps21
    go_wp2_with fail
    refine (take16_any w g d l p e R.out hb).mono ?_
    rintro x w1 ⟨rfl, r1, hg1⟩
    rw [← HP.out, ← HE.out] at r1
    rw [← HN.out]
    have R1 := Lib.hid r1
    clear r1
    go_wp2_with fail
    refine (err_some w1 g d l p1 e1 R1.out).mono ?_
    rintro x w2 ⟨rfl, rfl⟩
    go_wp2
    go_ret
    refine ⟨?_, ?_, hg1⟩
    · simp [txtS, ← HE.out, HZ.out]
    · simpa [txtP, txtE, ← HE.out, ← HP.out, HZ.out] using R1.out

/-- Are all bytes from p on 0? -/
def zeros (l : List UInt8) (p : Int) : Bool := (l.drop p.toNat).all (· == 0)
def zeroP (l : List UInt8) (p e : Int) : Int := if e = 0 ∧ zeros l p = true then l.length else p
def zeroE (l : List UInt8) (p e : Int) : Int := if e = 0 then (if zeros l p = true then 0 else 3) else e

def ZeroPost (w : World) (g d : Nat) (l : List UInt8) (p e : Int) (x : Ending) (w' : World) : Prop :=
  x = .returned (.tuple #[]) ∧ Rdr w' g d l (zeroP l p e) (zeroE l p e) ∧ w.grownBy w' (some g)

theorem zero_err (w : World) (g d : Nat) (l : List UInt8) (p e : Int) (r : Rdr w g d l p e) (he : e ≠ 0) :
    Calls Try.prog 23 #[.pointer (some ⟨g, 0, none⟩)] w (ZeroPost w g d l p e) := by
  have hne : (e != 0) = true := by simpa using he
  have R := Lib.hid r
  have HE := Lib.hid he
  clear he r
  go_enter Try.func23, Try.ntmps23
  go_wp2_with (go_at_call 25; ((with_reducible refine (err_some w g d l p e R.out).mono ?_); rintro x w1 ⟨rfl, rfl⟩))
  refine bodyPost_ret (results_none rfl _ _ _) rfl ?_
  refine ⟨rfl, ?_, World.grownBy.refl _ _⟩
  simpa [zeroP, zeroE, HE.out] using R.out

theorem zeros_step (l : List UInt8) (q k : Nat) (h : q + k < l.length) : (l.drop (q + k)).all (· == 0) = (l[q + k] == 0 && (l.drop (q + (k + 1))).all (· == 0)) := by
  rw [List.drop_eq_getElem_cons h, List.all_cons]; rfl

set_option maxHeartbeats 1000000 in
theorem zero_ok (w : World) (g d : Nat) (l : List UInt8) (q : Nat) (r : Rdr w g d l q 0) (hb : l.length ≤ 281474976710656) :
    Calls Try.prog 23 #[.pointer (some ⟨g, 0, none⟩)] w (ZeroPost w g d l q 0) := by
  have R := Lib.hid r
  obtain ⟨hc0, hc1, hc2⟩ := r.cells
  have hf1 := r.free 1
  have hf2 := r.free 2
  have hql : q ≤ l.length := by have := r.2.2.2; omega
  have hblk := Lib.hid r.2.1
  clear r
  go_enter Try.func23, Try.ntmps23
  go_wp2_with (go_at_call 25; ((with_reducible refine (err_some w g d l q 0 R.out).mono ?_); rintro x w1 ⟨rfl, rfl⟩))
  go_quiet (fail)
  go_wp2
  · have hlq : l.length = q := by assumption
    refine wp_loop_rounds 1 ?_
    rw [rounds_succ]
    go_wp2
    go_end0
    have hz : zeros l q = true := by simp [zeros, ← hlq]
    refine ⟨rfl, ?_, only_setCell (only_drewN (World.grownBy.refl _ _) _) rfl _⟩
    have := (R.out.drewN nq).setP (q := (l.length : Int)) (by omega) (by omega)
    simpa [zeroP, zeroE, hz, hlq] using this
  · have hlt0 : q < l.length := by omega
    obtain ⟨L, hL⟩ : ∃ L, L = l.length - q := ⟨_, rfl⟩
    rw [← hL]
    have HL := Lib.hid hL
    have hLl : q + L ≤ l.length := by omega
    have hLl' : l.length ≤ q + L := by omega
    clear hL
    go_loop [17] (fun i => ∃ k : Nat, k ≤ L ∧ i = .int .i64 k ∧ zeros l q = (l.drop (q + k)).all (· == 0)) (fun i => L - (intOf i).toNat)
    case atStart => exact ⟨0, Nat.zero_le _, rfl, rfl⟩
    case round =>
      obtain ⟨k, hk, rfl, hz⟩ := hrel
      have HZ := Lib.hid hz
      clear hz
      by_cases hlt : k < L
      · have hin : q + k < l.length := by omega
        have hst := Lib.hid (zeros_step l q k hin)
        have hcell : w.cell? ⟨d, q + k, none⟩ = some (.int .u8 (l[q + k].toNat : Int)) := by
          rw [cell_of_block hblk.out]
          simp [bcells, u8, hin]
        obtain ⟨y, hy⟩ : ∃ y, y = l[q + k] := ⟨_, rfl⟩
        rw [← hy] at hcell hst
        have HY := Lib.hid hy
        clear hy
        by_cases h0 : y = 0
        · subst h0
          have e0 : ((0 : UInt8).toNat : Int) = 0 := rfl
          rw [e0] at hcell
          go_wp2
          refine ⟨⟨k + 1, by omega, by go_num, ?_⟩, by simp [intOf]; omega⟩
          rw [HZ.out, hst.out]
          simp
        · have hne : ((y.toNat : Int) != 0) = true := by
            rw [bne_iff_ne]
            intro h
            exact h0 (UInt8.toNat_inj.1 (by simp; omega))
          have hyf : (y == 0) = false := by simpa using h0
          have HYF := Lib.hid hyf
          clear h0 hyf
          go_wp2
          refine bodyPost_ret (results_none rfl _ _ _) rfl ?_
          have hzf : zeros l q = false := by rw [HZ.out, hst.out, HYF.out]; simp
          refine ⟨rfl, ?_, only_setCell (only_drewN (World.grownBy.refl _ _) _) rfl _⟩
          have := (R.out.drewN nq).setE 3
          simpa [zeroP, zeroE, hzf] using this
      · have hkL : k = L := by omega
        have hzt : zeros l q = true := by
          rw [HZ.out, List.drop_eq_nil_of_le (by omega)]
          rfl
        have HZT := Lib.hid hzt
        clear hzt
        go_wp2
        go_end0
        refine ⟨rfl, ?_, only_setCell (only_drewN (World.grownBy.refl _ _) _) rfl _⟩
        have := (R.out.drewN nq).setP (q := (l.length : Int)) (by omega) (by omega)
        simpa [zeroP, zeroE, HZT.out] using this

theorem zero_any (w : World) (g d : Nat) (l : List UInt8) (p e : Int) (r : Rdr w g d l p e) (hb : l.length ≤ 281474976710656) :
    Calls Try.prog 23 #[.pointer (some ⟨g, 0, none⟩)] w (ZeroPost w g d l p e) := by
  by_cases he : e = 0
  · subst he
    obtain ⟨q, rfl⟩ := Int.eq_ofNat_of_zero_le r.2.2.1
    exact zero_ok w g d l q r hb
  · exact zero_err w g d l p e r he

end Go.Proofs.Ytpobnifjgajgkaa
