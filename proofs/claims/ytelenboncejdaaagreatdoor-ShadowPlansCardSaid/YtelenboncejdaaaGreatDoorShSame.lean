/-
  The contract of the reference's Same: are lists of numbers alike; conditions: they can be read.
-/
import Derived.Test.YtelenboncejdaaaGreatDoorShCount
namespace Go.Proofs.YtelenboncejdaaaGreatDoor
open Go.RowKit Go.Sort
set_option linter.unusedVariables false
set_option linter.unusedSimpArgs false

set_option maxRecDepth 100000 in
set_option maxHeartbeats 2000000 in
theorem shSame_any {w : World} {A B : Option Addr} {n m ca cb : Nat} {l r : List Int} (hA : Ls icell w A l) (hl : l.length = n) (hB : Ls icell w B r) (hr : r.length = m) (hn : n ≤ 1000000) (hm : m ≤ 1000000) :
    Calls Tryz.prog 34 #[.slice A n ca, .slice B m cb] w fun e w' => e = .returned (.bool (decide (l = r))) ∧ Below w.heap.size w w' := by
  have HA := Lib.hid hA
  have HL := Lib.hid hl
  have HB := Lib.hid hB
  have HR := Lib.hid hr
  clear hA hl hB hr
  by_cases hnm : n = m
  · subst hnm
    go_enter Tryz.func34, Tryz.ntmps34
    go_wp2
    go_loopw [13] (fun s10 wr => ∃ k : Nat, k ≤ n ∧ s10 = .int .i64 k ∧ Hid (l.take k = r.take k) ∧ Below w.heap.size w wr) (fun s10 _ => n - (intOf s10).toNat)
    case atStart => exact ⟨0, Nat.zero_le _, rfl, Lib.hid rfl, Below.refl _ _⟩
    case round =>
      obtain ⟨k, hk, rfl, HE, hbw⟩ := hrel
      by_cases hlt : k < n
      · obtain ⟨ad, x, rfl, hx, hl1, q0⟩ := (HA.out.below hbw).atI (i := k) (by rw [HL.out]; exact hlt)
        obtain ⟨ad', y, rfl, hy, hl2, q1⟩ := (HB.out.below hbw).atI (i := k) (by rw [HR.out]; exact hlt)
        by_cases hxy : x = y
        · subst hxy
          have HE2 : Hid (l.take (k + 1) = r.take (k + 1)) := Lib.hid (by rw [List.take_add_one, List.take_add_one, hx, hy, HE.out])
          clear hx hy
          go_wp2
          go_quiet (fail)
          go_wp2
          exact ⟨⟨k + 1, by omega, by go_num, HE2, below_drewN hbw _⟩, by simp [intOf]; omega⟩
        · have HNE : Hid (decide (l = r) = false) := Lib.hid (decide_eq_false fun e => by
            subst e
            rw [hx] at hy
            cases hy
            exact hxy rfl)
          have hb : (x != y) = true := by simpa using hxy
          clear hx hy
          go_wp2
          go_quiet (fail)
          go_wp2
          go_ret
          exact ⟨by rw [HNE.out]; rfl, below_drewN hbw _⟩
      · have he : k = n := by omega
        subst he
        have HT : Hid (decide (l = r) = true) := Lib.hid (decide_eq_true (by
          have := HE.out
          rwa [List.take_of_length_le (by rw [HL.out]; exact Nat.le_refl _), List.take_of_length_le (by rw [HR.out]; exact Nat.le_refl _)] at this))
        go_wp2
        go_ret
        exact ⟨by rw [HT.out]; rfl, hbw⟩
  · have HNE : Hid (decide (l = r) = false) := Lib.hid (decide_eq_false fun e => by
      subst e
      exact hnm (HL.out.symm.trans HR.out))
    have hnb : ((n : Int) != (m : Int)) = true := by
      simp
      omega
    go_enter Tryz.func34, Tryz.ntmps34
    go_wp2
    go_ret
    exact ⟨by rw [HNE.out]; rfl, Below.refl _ _⟩

end Go.Proofs.YtelenboncejdaaaGreatDoor
