/-
  The contracts of tree.kidFor; conditions: the pointers can be read, the nodes lie in memory.
-/
import Derived.Test.YtkooaechcbopnaaTreeJoin
namespace Go.Proofs.Ytkooaechcbopnaa
open Go.RowKit Go.Sort
set_option linter.unusedVariables false

/-- Half-way: the last one, so far, whose least key isn't above. -/
structure KidTo (L : List (Nat × NR)) (key : ByteArray) (k a : Nat) : Prop where
  lt : a < k ∨ a = 0
  le : a = 0 ∨ ∀ x, L[a]? = some x → ¬ kl key x.2.lo
  gt : ∀ j x, a < j → j < k → L[j]? = some x → kl key x.2.lo
theorem KidTo.done {L : List (Nat × NR)} {ks : List ST} {key : ByteArray} {a : Nat} (hL : L = nbs ks) (h1 : 1 ≤ ks.length) (h : KidTo L key ks.length a) : Kid ks key a := by
  subst hL
  refine ⟨?_, ?_, fun j k hj hk => ?_⟩
  · rcases h.lt with h | h <;> omega
  · rcases h.le with h | h
    · exact .inl h
    · exact .inr fun k hk => h _ (nbs_at hk)
  · exact h.gt j _ hj (List.getElem?_eq_some_iff.1 hk).1 (nbs_at hk)

set_option maxHeartbeats 1000000 in
set_option maxRecDepth 100000 in
theorem kidTo_any (A : Option Addr) (n c : Nat) (L : List (Nat × NR)) (key : ByteArray) (w : World) (hr : Ls pcP w A (ptrs L)) (hn : L.length = n) (hb : n ≤ 100000) (ha : All w L) :
    Calls Try.prog 51 #[.slice A n c, .string key] w fun e w' => ∃ a : Nat, e = .returned (.int .i64 (a : Int)) ∧ KidTo L key n a ∧ Below w.heap.size w w' := by
  have Hn := Lib.hid hn
  have HA := Lib.hid ha
  clear hn ha
  go_enter Try.func51, Try.ntmps51
  go_wp2
  go_loopw [5, 12] (fun s5 s12 wr => ∃ k a : Nat, k ≤ n ∧ s12 = .int .i64 k ∧ s5 = .int .i64 a ∧ Hid (KidTo L key k a) ∧ Below w.heap.size w wr) (fun _ s12 _ => n - (intOf s12).toNat)
  case atStart => exact ⟨0, 0, Nat.zero_le _, rfl, rfl, Lib.hid ⟨.inr rfl, .inl rfl, fun j x h1 h2 => absurd h2 (by omega)⟩, Below.refl _ _⟩
  case round =>
    obtain ⟨k, a, hk, rfl, rfl, HK, hbw⟩ := hrel
    by_cases hlt : k < n
    · obtain ⟨ad, x, rfl, hx, hl, q1⟩ := (hr.below hbw).node_at (i := k) (by rw [Hn.out]; exact hlt)
      have hN := (HA.out.at_ hx).below hbw
      have Hx := Lib.hid hx
      clear hx
      go_wp2_with fail
      refine (ends_any hN).mono ?_
      rintro e w1 ⟨rfl, nq, rfl⟩
      have HB := Lib.hid (below_drewN hbw nq)
      clear hbw hN q1
      have hlo := less_eq x.2.lo key
      have hsm := same_eq x.2.lo key
      by_cases hd : kl key x.2.lo
      · rw [decide_eq_false (kl_asymm hd)] at hlo
        rw [decide_eq_false (fun e : x.2.lo = key => kl_irrefl key (by rw [e] at hd; exact hd))] at hsm
        go_wp2
        refine ⟨⟨k + 1, a, by omega, by go_num, rfl, Lib.hid ⟨by have := HK.out.lt; omega, HK.out.le, fun j y h1 h2 hy => ?_⟩, HB.out⟩, by simp [intOf]; omega⟩
        rcases Nat.lt_or_ge j k with h3 | h3
        · exact HK.out.gt j y h1 h3 hy
        · obtain rfl : j = k := by omega
          rw [Hx.out] at hy
          cases hy
          exact hd
      · have fin : Hid (KidTo L key (k + 1) k) := Lib.hid ⟨.inl (Nat.lt_succ_self _), .inr fun y hy => by rw [Hx.out] at hy; cases hy; exact hd, fun j y h1 h2 _ => absurd h2 (by omega)⟩
        by_cases hk2 : kl x.2.lo key
        · rw [decide_eq_true hk2] at hlo
          go_wp2
          exact ⟨⟨k + 1, k, by omega, by go_num, rfl, fin, HB.out⟩, by simp [intOf]; omega⟩
        · rw [decide_eq_false hk2] at hlo
          rw [decide_eq_true (kl_tri hk2 hd)] at hsm
          go_wp2
          exact ⟨⟨k + 1, k, by omega, by go_num, rfl, fin, HB.out⟩, by simp [intOf]; omega⟩
    · have he : k = n := by omega
      subst he
      go_wp2
      go_ret
      exact ⟨a, rfl, HK.out, hbw⟩

theorem kidFor_any {w : World} {A : Option Addr} {n c : Nat} {ks : List ST} {key : ByteArray} (hr : Ls pcP w A (ptrS ks)) (hn : ks.length = n) (h1 : 1 ≤ n) (hb : n ≤ 100000) (ha : All w (nbs ks)) :
    Calls Try.prog 51 #[.slice A n c, .string key] w fun e w' => ∃ a : Nat, e = .returned (.int .i64 (a : Int)) ∧ Kid ks key a ∧ Below w.heap.size w w' := by
  refine (kidTo_any A n c (nbs ks) key w hr (by rw [nbs_len]; exact hn) hb ha).mono ?_
  rintro e w1 ⟨a, rfl, hk, hb1⟩
  rw [← hn] at hk h1
  exact ⟨a, rfl, hk.done rfl h1, hb1⟩

end Go.Proofs.Ytkooaechcbopnaa
