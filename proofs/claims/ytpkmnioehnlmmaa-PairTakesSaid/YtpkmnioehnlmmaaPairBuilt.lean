/-
  The contract of built: a sorted list of any entries, in a row of its own; conditions: the slice can be read, it is small.
-/
import Derived.Test.YtpkmnioehnlmmaaPairSmall
namespace Go.Proofs.Ytpkmnioehnlmmaa
open Go.RowKit Go.Sort
set_option linter.unusedVariables false

set_option maxHeartbeats 800000 in
theorem built_any (A : Option Addr) (n c : Nat) (l : List Ent) (w : World) (hr : Es w A l) (hn : l.length = n) (hb : n ≤ 300) :
    Calls Try.prog 24 #[.slice A n c] w fun e w' => ∃ v, e = .returned v ∧ Own w' w.heap.size v (builtOf l) ∧ Below w.heap.size w w' := by
  have Hn := Lib.hid hn
  clear hn
  go_enter Try.func24, Try.ntmps24
  go_wp2
  go_loopw [3, 7] (fun s3 s7 wr => ∃ k : Nat, k ≤ n ∧ s7 = .int .i64 k ∧ Own wr w.heap.size s3 (builtOf (l.take k)) ∧ Below w.heap.size w wr) (fun _ s7 _ => n - (intOf s7).toNat)
  case atStart => exact ⟨0, Nat.zero_le _, rfl, Own.nil_ _ _, Below.refl _ _⟩
  case round =>
    obtain ⟨k, hk, rfl, hown, hbw⟩ := hrel
    by_cases hlt : k < n
    · obtain ⟨ad, x, rfl, hx, hl, h1, h2⟩ := (hr.below hbw).at_ (i := k) (by rw [Hn.out]; exact hlt)
      have Hx := Lib.hid hx
      clear hx
      obtain ⟨B, d, rfl, hd, hes⟩ := hown.form
      have hlen := builtOf_len_take l k
      obtain ⟨m, hm⟩ : ∃ m, (builtOf (l.take k)).length = m := ⟨_, rfl⟩
      have Hm := Lib.hid hm
      rw [hm] at hd hlen ⊢
      clear hm hown
      go_wp2_with fail
      refine (with_any B m d _ x wr hes Hm.out hd (by omega)).mono ?_
      rintro e w1 ⟨i, f, v, rfl, hp, hown1, hb1⟩
      rw [hp.wth (sorted_builtOf_take l k), ← builtOf_snoc, ← take_snoc Hx.out] at hown1
      have HO := Lib.hid (hown1.mono hbw.size)
      have hb2 := bthen hbw hb1
      clear hp hown1 hb1 hbw
      go_wp2
      exact ⟨⟨k + 1, by omega, by go_num, HO.out, hb2⟩, by simp [intOf]; omega⟩
    · have he : k = n := by omega
      subst he
      rw [List.take_of_length_le (by rw [Hn.out]; exact Nat.le_refl _)] at hown
      have HO := Lib.hid hown
      clear hown
      go_wp2
      go_ret
      exact ⟨_, rfl, HO.out, hbw⟩

end Go.Proofs.Ytpkmnioehnlmmaa
