/-
  The contracts of built and awake of the rows of layer 14; conditions stand at each.
-/
import Derived.Test.YtelenboncejdaaaGreatDoorShLay
namespace Go.Proofs.YtelenboncejdaaaGreatDoor
open Go.RowKit Go.Sort
open Rt (Fx Stp)
set_option linter.unusedVariables false
set_option linter.unusedSimpArgs false

theorem FewNew.mono {old ids : List Nat} {m n : Nat} (h : FewNew old m ids) (hm : m ≤ n) : FewNew old n ids := by
  obtain ⟨new, h1, h2⟩ := h
  exact ⟨new, Nat.le_trans h1 hm, h2⟩
/-- What built answers. -/
def ShBuiltPost (w : World) (T0 : TO) (n : Nat) (r : Ending) (w' : World) : Prop :=
  ∃ T, r = .returned (tb T) ∧ TreeIs w' T ∧ (tl T).length ≤ (tl T0).length + n ∧ Below w.heap.size w w' ∧ (n = 1 → FewNew (tids T0) (3 * th T0 + 3) (tids T))

set_option maxRecDepth 100000 in
set_option maxHeartbeats 2000000 in
theorem shBuilt_any (T0 : TO) (A : Option Addr) (n c : Nat) (l : List TOp) (w : World) (ha : ArgT w A n c l) (hn : n ≤ 1000) (h0 : TreeIs w T0) (hl0 : (tl T0).length ≤ 1000) :
    Calls Tryz.prog 27 #[tb T0, .slice A n c] w (ShBuiltPost w T0 n) := by
  obtain ⟨hlen, hcap, hsm, hls, hok⟩ := ha
  have HL := Lib.hid hlen
  have HOK := Lib.hid hok
  have HT0 := Lib.hid h0
  have HL0 := Lib.hid hl0
  obtain ⟨tv0, htv0⟩ : ∃ tv, tv = tb T0 := ⟨_, rfl⟩
  rw [← htv0]
  have HTV0 := Lib.hid htv0
  clear hlen hok h0 hl0 htv0
  go_enter Tryz.func27, Tryz.ntmps27
  go_wp2
  go_loopw [0, 10] (fun s0 s10 wr => ∃ k T, k ≤ n ∧ s10 = .int .i64 (k : Nat) ∧ s0 = tb T ∧ TreeIs wr T ∧ (tl T).length ≤ (tl T0).length + k ∧ (k = 0 → T = T0) ∧ (k = 1 → FewNew (tids T0) (3 * th T0 + 3) (tids T)) ∧ Below w.heap.size w wr) (fun _ s10 _ => n - (intOf s10).toNat)
  case atStart => exact ⟨0, T0, Nat.zero_le _, rfl, HTV0.out, HT0.out, Nat.le_refl _, fun _ => rfl, fun h => by omega, Below.refl _ _⟩
  case round =>
    obtain ⟨k, T, hk, rfl, rfl, ht, htl, hz0, hz1, hbw⟩ := hrel
    by_cases hlt : k < n
    · obtain ⟨ad, o, rfl, ho, hl, q0, q1, q2⟩ := (hls.below hbw).top_at (i := k) (by rw [HL.out]; exact hlt)
      have hok := HOK.out o (List.mem_of_getElem? ho)
      have HT := Lib.hid ht
      have HBW := Lib.hid hbw
      have HZ := Lib.hid hz0
      have HTL := Lib.hid htl
      have hso := ht.sorted
      obtain ⟨od, oe⟩ := o
      simp only at q0 q1 q2 hok
      have hkey := hok.key
      have hval := hok.val
      simp only at hkey hval
      obtain ⟨tv, htv⟩ : ∃ tv, tv = tb T := ⟨_, rfl⟩
      rw [← htv]
      have HTV := Lib.hid htv
      have hlow : Low T := ht.low (by have := HL0.out; omega)
      clear ho ht hbw htv hok hz0 hz1 htl
      cases od with
      | true =>
        go_wp2_with fail
        rw [HTV.out]
        refine (del_any HT.out hlow).mono ?_
        rintro r w1 ⟨T', rfl, ht', hb1, hl', hfn, _⟩
        have hb := bthen HBW.out hb1
        have hle : (tl T').length ≤ (tl T0).length + (k + 1) := by
          rw [hl']
          have h1 := del_length oe.k hso
          have h2 := HTL.out
          omega
        have HF : Hid (k + 1 = 1 → FewNew (tids T0) (3 * th T0 + 3) (tids T')) := Lib.hid (fun h => by
          have := HZ.out (by omega)
          rw [this] at hfn
          exact hfn)
        clear hl' hb1 hfn hso
        go_wp2
        exact ⟨⟨k + 1, T', by omega, by go_num, rfl, ht', hle, fun h => by omega, HF.out, hb⟩, by simp [intOf]; omega⟩
      | false =>
        go_wp2_with fail
        rw [HTV.out]
        refine (put_any HT.out hlow hkey hval).mono ?_
        rintro r w1 ⟨T', rfl, ht', hb1, hno, hyes⟩
        have hb := bthen HBW.out hb1
        by_cases he : okE oe = true
        · obtain ⟨hl', hfn, _⟩ := hyes he
          have hz : errOf oe = 0 := by rw [errOf_ok] at he; exact of_decide_eq_true he
          have hle : (tl T').length ≤ (tl T0).length + (k + 1) := by
            rw [hl']
            have h2 := HTL.out
            rcases put_length hso oe with h | h <;> omega
          have HF : Hid (k + 1 = 1 → FewNew (tids T0) (3 * th T0 + 3) (tids T')) := Lib.hid (fun h => by
            have := HZ.out (by omega)
            rw [this] at hfn
            exact hfn)
          rw [hz]
          clear hl' hb1 hno hyes hz he hfn hso
          go_wp2
          exact ⟨⟨k + 1, T', by omega, by go_num, rfl, ht', hle, fun h => by omega, HF.out, hb⟩, by simp [intOf]; omega⟩
        · have hz : errOf oe ≠ 0 := by rw [errOf_ok] at he; simpa using he
          have ht2 := HT.out.below hb1
          have HF : Hid (k + 1 = 1 → FewNew (tids T0) (3 * th T0 + 3) (tids T)) := Lib.hid (fun h => by
            have := HZ.out (by omega)
            rw [this]
            exact FewNew.of (fun x hx => hx) _)
          clear hb1 hno hyes he ht' hso
          go_wp2
          have hle := HTL.out
          exact ⟨⟨k + 1, T, by omega, by go_num, rfl, ht2, by omega, fun h => by omega, HF.out, hb⟩, by simp [intOf]; omega⟩
    · have he : k = n := by omega
      subst he
      go_wp2
      go_ret
      exact ⟨T, rfl, ht, htl, hbw, hz1⟩

end Go.Proofs.YtelenboncejdaaaGreatDoor
