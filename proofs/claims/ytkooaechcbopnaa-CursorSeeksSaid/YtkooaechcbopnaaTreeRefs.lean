/-
  The contracts of the document's answers for layer 10 (Put, Del, Height) and of layer 3's Get; how high a tree of some entries is; conditions stand at each.
-/
import Derived.Test.YtkooaechcbopnaaTreeTools
namespace Go.Proofs.Ytkooaechcbopnaa
open Go.RowKit Go.Sort
set_option linter.unusedVariables false
set_option linter.unusedSimpArgs false

theorem good_len {w : World} : ∀ {h : Nat} {s : ST}, Tr w h s → s.good = true → 2 * 3 ^ h ≤ s.l.length
  | 0, s, t, hg => by
    rw [t.good_iff] at hg
    have := of_decide_eq_true hg
    have h2 := t.2.1.en
    have h3 := t.2.1.kn
    unfold ST.size at this
    simp at this
    omega
  | h + 1, s, t, hg => by
    rw [t.good_iff] at hg
    have h1 := of_decide_eq_true hg
    obtain ⟨ks, hk⟩ := t.kids
    have h2 : s.size = ks.length := by unfold ST.size; rw [hk.br.en, hk.br.kn, nbs_len, Nat.zero_add]
    rw [if_neg (by omega), h2] at h1
    have h3 := flat_len_ge (ks := ks) (m := 2 * 3 ^ h) fun k hm => good_len (hk.all k hm).1 (hk.all k hm).2
    rw [hk.l, Nat.pow_succ]
    have h4 : 3 * (2 * 3 ^ h) ≤ ks.length * (2 * 3 ^ h) := Nat.mul_le_mul_right _ h1
    omega
theorem high_len {w : World} {h : Nat} {s : ST} (t : Tr w (h + 1) s) : 4 * 3 ^ h ≤ s.l.length := by
  obtain ⟨ks, hk⟩ := t.kids
  have h3 := flat_len_ge (ks := ks) (m := 2 * 3 ^ h) fun k hm => good_len (hk.all k hm).1 (hk.all k hm).2
  have h4 : 2 * (2 * 3 ^ h) ≤ ks.length * (2 * 3 ^ h) := Nat.mul_le_mul_right _ hk.two
  rw [hk.l]
  omega
/-- What the reference's Height answers. -/
def HiPost (n : Nat) (h : Nat) : Prop := (n = 0 ∧ h = 0) ∨ (1 ≤ h ∧ n < 4 * 3 ^ (h - 1))
theorem HiPost.le {w : World} {T : TO} (ht : TreeIs w T) {h : Nat} (hp : HiPost (tl T).length h) : th T ≤ h := by
  cases T with
  | none => exact Nat.zero_le _
  | some x =>
    obtain ⟨k, s⟩ := x
    have t : Tr w k s := ht (k, s) rfl
    have hl : (tl (some (k, s))).length = s.l.length := rfl
    rw [hl] at hp
    show k + 1 ≤ h
    rcases hp with ⟨h0, _⟩ | ⟨h1, h2⟩
    · have := t.len
      omega
    · cases k with
      | zero => exact h1
      | succ k =>
        have h3 := high_len t
        by_cases h4 : h ≤ k + 1
        · have h5 : 3 ^ (h - 1) ≤ 3 ^ k := Nat.pow_le_pow_right (by omega) (by omega)
          omega
        · omega

set_option maxHeartbeats 1000000 in
set_option maxRecDepth 100000 in
theorem refGet_any (A : Option Addr) (n c : Nat) (l : List Ent) (key : ByteArray) (w : World) (hs : Sorted l) (hr : Es w A l) (hn : l.length = n) (hb : n ≤ 100000) :
    Calls Try.prog 24 #[.slice A n c, .string key] w fun r w' => r = .returned (lookV (look l key)) ∧ Below w.heap.size w w' := by
  have HS := Lib.hid hs
  have HR := Lib.hid hr
  have Hn := Lib.hid hn
  obtain ⟨o, ho⟩ : ∃ o, o = look l key := ⟨_, rfl⟩
  rw [← ho]
  have HO := Lib.hid ho
  clear hs hr hn ho
  go_enter Try.func24, Try.ntmps24
  go_wp2_with fail
  refine (refFind_any A n c l key w HS.out HR.out Hn.out (by omega)).mono ?_
  rintro r w3 ⟨i, f, rfl, hpl, hb3⟩
  rcases hpl.look HS.out with ⟨rfl, e, he, hek, hle⟩ | ⟨rfl, hle⟩
  · have hil : i < n := by rw [← Hn.out]; exact (List.getElem?_eq_some_iff.1 he).1
    obtain ⟨ad2, y, rfl, hy, hadl2, hy0, hy1⟩ := (HR.out.below hb3).at_ (i := i) (by rw [Hn.out]; exact hil)
    rw [he] at hy
    cases hy
    have HF := Lib.hid (show o = some e.v by rw [HO.out, hle])
    clear hpl he hek hle
    go_wp2
    go_ret2
    rw [HF.out]
    exact ⟨rfl, hb3⟩
  · have HF := Lib.hid (show o = none by rw [HO.out, hle])
    clear hpl hle
    go_wp2
    go_ret2
    rw [HF.out]
    exact ⟨rfl, hb3⟩

end Go.Proofs.Ytkooaechcbopnaa
