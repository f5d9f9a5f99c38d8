/-
  The contract of walk.Take; conditions: the tree is valid and lies in memory, or is nil; few entries.
-/
import Derived.Test.YtcoaloignmkemaaWalkBox
namespace Go.Proofs.Ytcoaloignmkemaa
open Go.RowKit Go.Sort Go.Shelf Rt
set_option linter.unusedVariables false
attribute [local go_sem] Oper.semAt_some wide_fn wide_depth

theorem shut_below {Ds : List Nat} {A B : World} {n : Nat} (h : Shut Ds A B) (hd : ∀ D ∈ Ds, n ≤ D) : Below n A B :=
  ⟨h.1.os, h.1.tape, h.1.output, h.1.size, fun k hk => h.2 k fun hm => by have := hd k hm; omega⟩
def ks (l : List Ent) : List ByteArray := l.map (·.k)
/-- The keys that have come stand in the box. -/
def KeysIn (base B : Nat) (T : BS) (W : World) (l : List Ent) : Prop := ∃ v, BoxRow strC 9 39 1 base B T W (ks l) v
theorem KeysIn.abd {base B n : Nat} {T : BS} {A A' : World} {l : List Ent} (h : KeysIn base B T A l) (q : Qt n T A A') : KeysIn base B T A' l := by
  obtain ⟨v, h⟩ := h
  exact ⟨v, BoxRow.abd n (ks l, v) _ _ _ h q⟩

set_option maxHeartbeats 4000000 in
set_option maxRecDepth 100000 in
theorem take_any {w : World} {T0 : TO} (ht : TreeIs w T0) (key : ByteArray) (most : Int) (hl : (tl T0).length ≤ 80000) :
    Calls Try.prog 20 #[tb T0, .string key, .int .i64 most] w fun e w' => ∃ v, e = .returned v ∧ OwnS w' w.heap.size v (ks (((tl T0).filter (ge key)).take most.toNat)) ∧ Below w.heap.size w w' := by
  obtain ⟨xs, hxs⟩ : ∃ xs, (tl T0).filter (ge key) = xs := ⟨_, rfl⟩
  have hxl : xs.length ≤ 80000 := by
    rw [← hxs]
    exact Nat.le_trans (List.length_filter_le _ _) hl
  obtain ⟨pt, hpt⟩ : ∃ pt, tb T0 = .pointer pt := ⟨_, rfl⟩
  have HG : Hid (∀ W bn bk, Below w.heap.size w W → W.cell? ⟨bn, 0, none⟩ = some (.pointer pt) → W.cell? ⟨bk, 0, none⟩ = some (.string key) → Gives Try.prog 27 #[pb bn, pb bk] encE xs (Kf w.heap.size bn bk) W) := Lib.hid fun W bn bk h1 h2 h3 => by
    rw [← hxs]
    exact from_gives ht key h1 (by rw [hpt]; exact h2) h3
  rw [hxs, hpt]
  have HXL := Lib.hid hxl
  clear hxs hpt ht hl hxl
  refine callsIn_wide (n := 0).1 (callsIn_of_wp_marks Try.func20 rfl trivial ?_ rfl)
  simp only [Try.ntmps20, List.size_toArray, List.length_cons, List.length_nil, Nat.reduceAdd, Nat.reduceSub, Array.replicate_succ, Array.replicate_zero, List.push_toArray, List.append_toArray, List.nil_append, List.cons_append]
  gi_wp2_with fail
  obtain ⟨w1, hw1⟩ : ∃ w1, (w.alloc (.cells #[.int .i64 most] 3)).alloc (.cells #[.slice none 0 0] 39) = w1 := ⟨_, rfl⟩
  have hb1 : Below w.heap.size w w1 := by rw [← hw1]; exact ((Below.refl _ _).alloc (Nat.le_refl _) _).alloc (by simp) _
  have hm1 : w1.heap[w.heap.size]? = some (.cells #[.int .i64 most] 3 (0, 0)) := by rw [← hw1]; exact (Below.heap_alloc _ _ _ (by simp)).trans (heap_alloc_new w _)
  have hk1 : w1.heap[w.heap.size + 1]? = some (.cells #[.slice none 0 0] 39 (0, 0)) := by
    rw [← hw1]
    have := heap_alloc_new (w.alloc (.cells #[.int .i64 most] 3)) (.cells #[.slice none 0 0] 39)
    rwa [World.size_alloc] at this
  have hs1 : w1.heap.size = w.heap.size + 2 := by rw [← hw1]; simp
  rw [hw1]
  refine CallsIn.mono (callsIn_wide.2 (from_made w1 _ key)) ?_
  rintro r w2 ⟨rfl, rfl⟩
  have hb2 := boxed2_below w1 (.pointer pt) key
  have hs2 := boxed2_size w1 (.pointer pt) key
  have hBn := boxed2_n w1 (.pointer pt) key
  have hBk := boxed2_k w1 (.pointer pt) key
  obtain ⟨w2, hw2⟩ : ∃ w2, boxed2 w1 (.pointer pt) key = w2 := ⟨_, rfl⟩
  rw [hw2] at hb2 hs2 hBn hBk ⊢
  have HB2 := Lib.hid (hb1.trans (hb2.mono hb1.size))
  have HM2 := Lib.hid ((hb2.block _ (by omega)).trans hm1)
  have HK2 : Hid (Boxed w2 (w.heap.size + 1) 39 (.slice none 0 0)) := Lib.hid ((hb2.block _ (by omega)).trans hk1)
  have HBn := Lib.hid hBn
  have HBk := Lib.hid hBk
  have HS1 := Lib.hid hs1
  have HS2 := Lib.hid hs2
  clear hw1 hw2 hb1 hb2 hm1 hk1 hBn hBk hs1 hs2
  gi_wp2_with fail
  have hs1 := HS1.out
  have hs2 := HS2.out
  refine wpIn_range (gf := 27) (lb := #[pb w1.heap.size, pb (w1.heap.size + 1)]) rfl (enters_of Try.func27 (by kernel_rfl) rfl) (encs := encE) (fun _ => rfl)
    (fun W' hb' => HG.out W' _ _ (HB2.out.trans (hb'.mono (by omega))) (cell_row ((hb'.block _ (by omega)).trans HBn.out) 0 _ rfl) (cell_row ((hb'.block _ (by omega)).trans HBk.out) 0 _ rfl))
    (T := fun i => i = w.heap.size + 1) (fun i hi => ⟨by omega, fun hK => ?hK1⟩) (fun i hi => ?hK2)
    (fun pre T' W' => KeysIn w.heap.size (w.heap.size + 1) T' W' pre ∧ pre.length ≤ most.toNat) (fun c pre T' W' => c = .exit 0 ∧ ∃ q, q <+: xs ∧ q.length = most.toNat ∧ KeysIn w.heap.size (w.heap.size + 1) T' W' q)
    ?hI (fun c => ?hIx) ?h0 ?round ?done ?stop
  case hK1 => rcases hK with hK | hK | hK <;> omega
  case hK2 => rcases hi with h1 | rfl | rfl <;> omega
  case hI => exact fun s T A B j q => ⟨j.1.abd q, j.2⟩
  case hIx => exact fun s T A B ⟨j1, q1, j2, j3, j4⟩ q => ⟨j1, q1, j2, j3, j4.abd q⟩
  case h0 => exact ⟨⟨_, .start HK2.out⟩, Nat.zero_le _⟩
  case round =>
    rintro lo pre e T' W' hpre ⟨⟨v, hbr⟩, hlen⟩ hst hnl hl hrl C hC
    have HC := Lib.hid hC
    have HSr := Lib.hid hst
    have HNl := Lib.hid hnl
    have HLi := Lib.hid hl
    have HPr := Lib.hid hpre
    have HBR := Lib.hid hbr
    have HLen := Lib.hid hlen
    rw [show encE e = #[.string e.k, .string e.v] from rfl]
    clear hpre hbr hlen hst hnl hl hrl hC hs1 hs2
    gi_wp2_with fail
    refine HC.out _ _ (Below.refl _ _) fun W'' hB => ?_
    have HB3 := Lib.hid (BoxRow.abd w.heap.size (ks pre, v) _ _ _ HBR.out (hB.qt (by have := HLi.out; have := HS2.out; have := HS1.out; omega) HNl.out))
    have hmo := hB.cell (HSr.out.cell (cell_row HM2.out 0 _ rfl) (by simp)) (by have := HLi.out; have := HS2.out; have := HS1.out; show w.heap.size ≠ lo; omega)
    obtain ⟨A, c, hv, hc, hss⟩ := HB3.out.row.form
    rw [show (ks pre).length = pre.length by simp [ks]] at hv hc
    have hbx := HB3.out.box.cell
    have hfx := HB3.out.box.frozen
    have hpl : pre.length ≤ 80000 := by
      have h1 := HPr.out.length_le
      have := HXL.out
      simp at h1
      omega
    subst hv
    have HBm := Lib.hid hB.fx
    have HS3 : Hid (w2.heap.size ≤ W''.heap.size) := Lib.hid (by rw [hB.size]; exact HSr.out.fx.size)
    clear hB hc hss
    by_cases hge : most ≤ (pre.length : Int)
    · have HF : Hid (pre <+: xs ∧ pre.length = most.toNat) := Lib.hid ⟨(List.prefix_append pre [e]).trans HPr.out, by have := HLen.out; omega⟩
      gi_wp2_with fail
      exact ⟨T', .refl HB3.out.lt, rfl, pre, HF.out.1, HF.out.2, _, HB3.out⟩
    · have hba : Below W''.heap.size W'' (W''.alloc (.cells #[.string e.k] 9)) := (Below.refl _ _).alloc (Nat.le_refl _) _
      obtain ⟨A', c', w4, T4, hrun, hb4, hs4, hr4⟩ := HB3.out.append strC_enc (.string ByteArray.empty) 16 ⟨_, Try.underlying39, rfl⟩ strinfo rfl (by omega) (by omega) (by decide) e.k (by simp [ks]; omega) (by have := HS2.out; have := HS1.out; have := HS3.out; omega)
      rw [show (ks pre).length + 1 = pre.length + 1 by simp [ks]] at hrun hs4 hr4
      have q1 : (W''.alloc (.cells #[.string e.k] 9)).cell? ⟨w.heap.size + 1, 0, none⟩ = some (.slice A pre.length c) := (hba.cell (p := ⟨w.heap.size + 1, 0, none⟩) (cell_lt hbx)).trans hbx
      have c4 := hb4.cell
      have f4 := hb4.frozen
      have HR := Lib.hid hrun
      have HS4 := Lib.hid hs4
      have HR4 : Hid (KeysIn w.heap.size (w.heap.size + 1) T4 (w4.setCell ⟨w.heap.size + 1, 0, none⟩ (.slice A' (pre.length + 1) c')) (pre ++ [e])) := Lib.hid ⟨_, by
        have : ks (pre ++ [e]) = ks pre ++ [e.k] := by simp [ks]
        rw [this]
        exact hr4⟩
      have HL4 : Hid ((pre ++ [e]).length ≤ most.toNat) := Lib.hid (by simp; omega)
      clear hba hrun hb4 hs4 hr4 hfx
      gi_wp2_with (gi_at_builtin; refine wpListIn_append_ran rfl (.tmp 18) (.tmp 20) 39 rfl _ _ _ _ rfl rfl HR.out ?_)
      exact ⟨T4, HS4.out, HR4.out, HL4.out⟩
  case done =>
    rintro D T' W' ⟨⟨v, hbr⟩, hlen⟩ hst hD hTD hh
    have HBR := Lib.hid hbr
    have HE : Hid (xs.take most.toNat = xs) := Lib.hid (List.take_of_length_le hlen)
    have HBW := Lib.hid (HB2.out.trans (hst.below (by omega) fun k hk => by omega))
    have HD : Hid (∀ E ∈ [D], w.heap.size ≤ E ∧ ¬ T' E) := Lib.hid fun E hE => by rw [List.mem_singleton] at hE; subst hE; exact ⟨by omega, hTD⟩
    have HH : Hid (∀ E ∈ [D], W'.heap[E]? = some (.deferred (some []))) := Lib.hid fun E hE => by rw [List.mem_singleton] at hE; subst hE; exact hh
    have hbx := hbr.box.cell
    clear hbr hlen hst hD hTD hh hs1 hs2
    gi_wp2_with fail
    refine leaves_marks [D] W' (by simp) HH.out fun w' hs => ?_
    exact ⟨_, results_tmp rfl _ _ _, _, rfl, by rw [HE.out]; exact (BoxRow.abd w.heap.size (ks xs, v) _ _ _ HBR.out (shut_qt hs HD.out)).row, HBW.out.trans ((shut_below hs fun E hE => (HD.out E hE).1))⟩
  case stop =>
    rintro D c pre T' W' hne hpre ⟨rfl, q, hq1, hq2, v, hbr⟩ hst hD hTD hh
    have HBR := Lib.hid hbr
    have HE : Hid (xs.take most.toNat = q) := Lib.hid (by rw [← hq2]; exact (List.prefix_iff_eq_take.1 hq1).symm)
    have HBW := Lib.hid (HB2.out.trans (hst.below (by omega) fun k hk => by omega))
    have HD : Hid (∀ E ∈ [D], w.heap.size ≤ E ∧ ¬ T' E) := Lib.hid fun E hE => by rw [List.mem_singleton] at hE; subst hE; exact ⟨by omega, hTD⟩
    have HH : Hid (∀ E ∈ [D], W'.heap[E]? = some (.deferred (some []))) := Lib.hid fun E hE => by rw [List.mem_singleton] at hE; subst hE; exact hh
    have hbx := hbr.box.cell
    clear hbr hne hpre hst hD hTD hh hs1 hs2 hq1 hq2
    gi_wp2_with fail
    refine leaves_marks [D] W' (by simp) HH.out fun w' hs => ?_
    exact ⟨_, results_tmp rfl _ _ _, _, rfl, by rw [HE.out]; exact (BoxRow.abd w.heap.size (ks q, v) _ _ _ HBR.out (shut_qt hs HD.out)).row, HBW.out.trans ((shut_below hs fun E hE => (HD.out E hE).1))⟩

end Go.Proofs.Ytcoaloignmkemaa
