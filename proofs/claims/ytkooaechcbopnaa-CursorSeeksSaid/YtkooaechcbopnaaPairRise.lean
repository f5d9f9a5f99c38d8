/-
  The contract of pair.Rise and of the reference's: whether keys rise; conditions: the slice can be read.
-/
import Derived.Test.YtkooaechcbopnaaPairPure
namespace Go.Proofs.Ytkooaechcbopnaa
open Go.RowKit Go.Sort
set_option linter.unusedVariables false

set_option maxHeartbeats 400000 in
theorem rise_any (A : Option Addr) (n c : Nat) (l : List Ent) (w : World) (hr : Es w A l) (hn : l.length = n) (hb : n ≤ 100000000000) :
    Calls Try.prog 85 #[.slice A n c] w fun e w' => e = .returned (.bool (decide (Sorted l))) ∧ Below w.heap.size w w' := by
  have Hn := Lib.hid hn
  clear hn
  go_enter Try.func85, Try.ntmps85
  go_wp2
  go_loopw [3] (fun i wr => ∃ k : Nat, i = .int .i64 (k + 1 : Nat) ∧ Below w.heap.size w wr ∧ ∀ (j : Nat) (a b : Ent), j < k → l[j]? = some a → l[j + 1]? = some b → kl a.k b.k) (fun i _ => n - (intOf i).toNat)
  case atStart => exact ⟨0, rfl, Below.refl _ _, fun j _ _ hj => absurd hj (by omega)⟩
  case round =>
    obtain ⟨k, rfl, hb, hadj⟩ := hrel
    by_cases hlt : k + 1 < n
    · obtain ⟨ad, x, rfl, hx, hl, h1, h2⟩ := (hr.below hb).at_ (i := k + 1) (by rw [Hn.out]; exact hlt)
      obtain ⟨ad', y, e', hy, _, h3, h4⟩ := (hr.below hb).at_ (i := k) (by rw [Hn.out]; omega)
      cases e'
      have Hx := Lib.hid hx
      have Hy := Lib.hid hy
      have Hadj := Lib.hid hadj
      clear hx hy hadj
      have hle := less_eq y.k x.k
      by_cases hd : kl y.k x.k
      · rw [decide_eq_true hd] at hle
        go_wp2
        go_quiet (fail)
        go_wp2
        refine ⟨⟨k + 1, by go_num, below_drewN hb _, fun j a b hj ha hbb => ?_⟩, by simp [intOf]; omega⟩
        rcases Nat.lt_or_ge j k with hjk | hjk
        · exact Hadj.out j a b hjk ha hbb
        · have : j = k := by omega
          subst this
          rw [Hy.out] at ha
          rw [Hx.out] at hbb
          cases ha; cases hbb
          exact hd
      · rw [decide_eq_false hd] at hle
        go_wp2
        go_quiet (fail)
        go_wp2
        go_ret
        refine ⟨?_, below_drewN hb _⟩
        rw [show decide (Sorted l) = false from decide_eq_false fun hs => hd (sorted_lt hs (Nat.lt_succ_self k) Hy.out Hx.out)]
        rfl
    have Hadj := Lib.hid hadj
    clear hadj
    go_wp2
    go_ret
    refine ⟨?_, hb⟩
    rw [show decide (Sorted l) = true from decide_eq_true (sorted_of_adj fun j a b ha hb => Hadj.out j a b (by have := (List.getElem?_eq_some_iff.1 hb).1; rw [Hn.out] at this; omega) ha hb)]
    rfl

end Go.Proofs.Ytkooaechcbopnaa
