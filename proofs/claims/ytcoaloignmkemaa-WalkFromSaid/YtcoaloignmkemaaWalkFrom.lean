/-
  WalkFrom: of any tree, from any key on, up and down, just those entries are yielded that the document says; for every list, key and number; no condition beyond the row's.
-/
import Derived.Test.YtcoaloignmkemaaWalkOut
import Derived.BigQuiet
namespace Go.Proofs.Ytcoaloignmkemaa
open Go.RowKit Go.Sort Go.Shelf Go.ChangeShapes Go.WideShapes Rt
set_option linter.unusedVariables false
set_option linter.unusedSimpArgs false
attribute [local go_sem] Oper.semAt_some wide_fn wide_depth

set_option maxRecDepth 100000 in
set_option maxHeartbeats 16000000 in
theorem walkFrom_walk (A : Option Addr) (n c : Nat) (l : List Ent) (key : ByteArray) (most : Int) (w : World) (ha : Arg w A n c l) (hkk : key.size ≤ 140737488351232) (hm : (Lit.int .i64 most).wf = true) :
    Calls Try.prog 4 #[.slice A n c, .string key, .int .i64 most] w fun r w' => r = .returned (.bool true) ∧ Below w.heap.size w w' := by
  have HA := Lib.hid ha
  clear ha hm
  refine callsIn_wide (n := 0).1 (callsIn_of_wp_marks Try.func4 rfl trivial ?_ rfl)
  simp only [Try.ntmps4, List.size_toArray, List.length_cons, List.length_nil, Nat.reduceAdd, Nat.reduceSub, Array.replicate_succ, Array.replicate_zero, List.push_toArray, List.append_toArray, List.nil_append, List.cons_append]
  obtain ⟨w0, hw0⟩ : ∃ w0, w.alloc (.cells #[.int .i64 most] 3) = w0 := ⟨_, rfl⟩
  have hb0 : Below w.heap.size w w0 := by rw [← hw0]; exact (Below.refl _ _).alloc (Nat.le_refl _) _
  have hx0 : Boxed w0 w.heap.size 3 (.int .i64 most) := by rw [← hw0]; exact Boxed.new w _ _
  have HW0 := Lib.hid hw0
  have HX0 := Lib.hid hx0
  have HB0 := Lib.hid hb0
  clear hw0 hb0 hx0
  gi_wp2_with fail
  rw [HW0.out]
  refine CallsIn.mono (callsIn_wide.2 (wkAwake_any w0)) ?_
  rintro r w1 ⟨rfl, hb1⟩
  have HA1 := Lib.hid (show Arg w1 A n c l from ⟨HA.out.len, HA.out.cap, HA.out.small, HA.out.es.below (bthen HB0.out hb1), HA.out.strs⟩)
  have HB1 := Lib.hid (bthen HB0.out hb1)
  have HX1 : Hid (Boxed w1 w.heap.size 3 (.int .i64 most)) := Lib.hid ((hb1.block _ HX0.out.lt).trans HX0.out)
  clear hb1
  gi_wp2_with fail
  refine CallsIn.mono (callsIn_wide.2 (wkBuilt_any A n c l w1 HA1.out)) ?_
  rintro r w2 ⟨T, v, ⟨q, rfl⟩, ht, ho, hl, hb2⟩
  obtain ⟨A2, c2, rfl, hc2, hes⟩ := ho.form
  have HB2 := Lib.hid (bthen HB1.out hb2)
  have HX2 : Hid (Boxed w2 w.heap.size 3 (.int .i64 most)) := Lib.hid ((hb2.block _ HX1.out.lt).trans HX1.out)
  have HT := Lib.hid ht
  have HES := Lib.hid hes
  obtain ⟨m, hmm⟩ : ∃ m, (tl T).length = m := ⟨_, rfl⟩
  rw [hmm] at hl hc2 ⊢
  have HM := Lib.hid hmm
  have HLm : Hid (m ≤ 150) := Lib.hid hl
  obtain ⟨pt, hpt⟩ : ∃ pt, tb T = .pointer pt := ⟨_, rfl⟩
  rw [hpt]
  have HP := Lib.hid hpt
  have hmc := HX2.out.cell
  clear ht ho hes hb2 hmm hpt
  cases q with
  | false =>
    gi_wp2_with fail
    exact ⟨_, results_tmp rfl _ _ _, rfl, HB2.out⟩
  | true =>
    by_cases hmo : most < 1
    · have hd : decide (most < 1) = true := decide_eq_true hmo
      gi_wp2_with fail
      exact ⟨_, results_tmp rfl _ _ _, rfl, HB2.out⟩
    have hd : decide (most < 1) = false := decide_eq_false hmo
    by_cases hbig : 2000 < key.size
    · gi_wp2_with fail
      exact ⟨_, results_tmp rfl _ _ _, rfl, HB2.out⟩
    obtain ⟨M, hM⟩ : ∃ M : Nat, most = (M : Int) ∧ 1 ≤ M := ⟨most.toNat, by omega, by omega⟩
    obtain ⟨rfl, hM1⟩ := hM
    have HM1 := Lib.hid hM1
    gi_wp2_with fail
    obtain ⟨w3, hw3⟩ : ∃ w3, (w2.alloc (.cells #[.slice none 0 0] 22)).alloc (.cells #[.slice none 0 0] 22) = w3 := ⟨_, rfl⟩
    have hb3 : Below w2.heap.size w2 w3 := by rw [← hw3]; exact ((Below.refl _ _).alloc (Nat.le_refl _) _).alloc (by simp) _
    have hu3 : Boxed w3 w2.heap.size 22 (.slice none 0 0) := by rw [← hw3]; exact (Boxed.new w2 _ _).alloc _
    have hd3 : Boxed w3 (w2.heap.size + 1) 22 (.slice none 0 0) := by
      rw [← hw3]
      have := Boxed.new (w2.alloc (.cells #[.slice none 0 0] 22)) 22 (.slice none 0 0)
      rwa [World.size_alloc] at this
    have hs3 : w3.heap.size = w2.heap.size + 2 := by rw [← hw3]; simp
    rw [hw3]
    have HBL3 := Lib.hid hb3
    have HU3 := Lib.hid hu3
    have HD3 := Lib.hid hd3
    have HS3 := Lib.hid hs3
    clear hw3 hb3 hu3 hd3 hs3 hmo hd hmc hM1
    refine CallsIn.mono (callsIn_wide.2 (from_made w3 _ key)) ?_
    rintro r w4 ⟨rfl, rfl⟩
    have hb4 := boxed2_below w3 (.pointer pt) key
    have hs4 := boxed2_size w3 (.pointer pt) key
    have hBn := boxed2_n w3 (.pointer pt) key
    have hBk := boxed2_k w3 (.pointer pt) key
    obtain ⟨w4, hw4⟩ : ∃ w4, boxed2 w3 (.pointer pt) key = w4 := ⟨_, rfl⟩
    rw [hw4] at hb4 hs4 hBn hBk ⊢
    have HB4 := Lib.hid hb4
    have HS4 := Lib.hid hs4
    have HBn := Lib.hid hBn
    have HBk := Lib.hid hBk
    clear hw4 hb4 hs4 hBn hBk
    gi_wp2_with fail
    have HBW1 := Lib.hid (HBL3.out.trans (HB4.out.mono (by have := HS3.out; omega)))
    have HX4 := Lib.hid ((HB4.out.block _ (by have := HX2.out.lt; have := HS3.out; omega)).trans ((HBL3.out.block _ HX2.out.lt).trans HX2.out))
    have HU4 : Hid (Boxed w4 w2.heap.size 22 (.slice none 0 0)) := Lib.hid ((HB4.out.block _ HU3.out.lt).trans HU3.out)
    have HD4 : Hid (Boxed w4 (w2.heap.size + 1) 22 (.slice none 0 0)) := Lib.hid ((HB4.out.block _ HD3.out.lt).trans HD3.out)
    have hs3 := HS3.out
    have hs4 := HS4.out
    have hbw2 := HB2.out.size
    refine wpIn_range_out (gf := 27) (lb := #[pb w3.heap.size, pb (w3.heap.size + 1)]) rfl (enters_of Try.func27 (by kernel_rfl) rfl) (encs := encE) (fun _ => rfl) (xs := (tl T).filter (ge key))
      (fun W hb => from_gives HT.out _ (HBW1.out.trans (hb.mono (by omega))) (by rw [HP.out]; exact cell_row ((hb.block _ (by omega)).trans HBn.out) 0 _ rfl) (cell_row ((hb.block _ (by omega)).trans HBk.out) 0 _ rfl))
      (T := fun i => i = w2.heap.size) (fun i hi => ⟨by omega, fun hK => by rcases hK with hK | hK | hK <;> omega⟩) (fun i hi => by rcases hi with h1 | rfl | rfl <;> omega)
      (fun pre T' W' => EntsIn w2.heap.size (w2.heap.size) T' W' pre ∧ pre.length < M) (fun T' W' => EntsIn w2.heap.size (w2.heap.size) T' W' (((tl T).filter (ge key)).take M))
      (fun s T A B j q => ⟨j.1.abd q, j.2⟩) (fun s T A B j q => j.abd q) ⟨⟨_, .start HU4.out⟩, HM1.out⟩ ?round1 (fun T' W' h => by
        have := h.1
        rwa [← List.take_of_length_le (Nat.le_of_lt h.2)] at this) ?done1
    case round1 =>
      rintro lo pre e T' W' hpre ⟨⟨v, hbr⟩, hlen⟩ hst hnl hl hrl C hC
      have HC := Lib.hid hC
      have HSr := Lib.hid hst
      have HNl := Lib.hid hnl
      have HLi := Lib.hid (show w2.heap.size + 4 ≤ lo by omega)
      have HBR := Lib.hid hbr
      have HLen := Lib.hid hlen
      have HMo := Lib.hid (hst.block HX4.out (by show ¬ _ = _; have := HX2.out.lt; omega))
      have HTk : Hid ((pre ++ [e]).length = M → ((tl T).filter (ge key)).take M = pre ++ [e]) := Lib.hid fun h => by rw [← h]; exact (List.prefix_iff_eq_take.1 hpre).symm
      have hpl : pre.length ≤ 150 := by
        have h1 := hpre.length_le
        have h2 : ((tl T).filter (ge key)).length ≤ 150 := Nat.le_trans (List.length_filter_le _ _) (by rw [HM.out]; exact HLm.out)
        simp only [List.length_append, List.length_singleton] at h1
        omega
      rw [show encE e = #[.string e.k, .string e.v] from rfl]
      have HWs : Hid (w2.heap.size ≤ W'.heap.size) := Lib.hid (by have := hst.fx.size; omega)
      clear hpre hbr hlen hst hnl hl hrl hC hs3 hs4 hbw2
      gi_wp2_with fail
      refine HC.out _ _ (Below.refl _ _) fun W'' hB => ?_
      have HB3 : Hid (BoxRow pcE 31 22 2 w2.heap.size (w2.heap.size) T' W'' pre v) := Lib.hid (BoxRow.abd w2.heap.size (pre, v) _ _ _ HBR.out (hB.qt (by have := HLi.out; omega) HNl.out))
      have hmo := cell_row ((hB.same _ (by have := HLi.out; have := HX2.out.lt; omega)).trans HMo.out) 0 _ rfl
      obtain ⟨Au, cu, hv, hcu, hss⟩ := HB3.out.row.form
      have hbx := HB3.out.box.cell
      have hfx := HB3.out.box.frozen
      subst hv
      have HW3 : Hid (w2.heap.size ≤ W''.heap.size) := Lib.hid (by rw [hB.size]; exact HWs.out)
      clear hB hcu hss
      have hba : Below W''.heap.size W'' (W''.alloc (.cells #[.string e.k, .string e.v] 31)) := (Below.refl _ _).alloc (Nat.le_refl _) _
      obtain ⟨A', c', u4, T4, hrun, hb4, hs4, hr4⟩ := HB3.out.append pcE_enc (.agg #[.string ByteArray.empty, .string ByteArray.empty]) 32 ⟨_, Try.underlying22, rfl⟩ (by kernel_rfl) rfl (by omega) (by omega) (by decide) e (by omega) HW3.out
      have q1 : (W''.alloc (.cells #[.string e.k, .string e.v] 31)).cell? ⟨w2.heap.size, 0, none⟩ = some (.slice Au pre.length cu) := (hba.cell (p := ⟨w2.heap.size, 0, none⟩) (cell_lt hbx)).trans hbx
      have c4 := hb4.cell
      have f4 := hb4.frozen
      have q5 := hr4.box.cell
      have q6 : (u4.setCell ⟨w2.heap.size, 0, none⟩ (.slice A' (pre.length + 1) c')).cell? ⟨w.heap.size, 0, none⟩ = some (.int .i64 (M : Int)) := hs4.cell hmo fun h => by
        have h1 := HX2.out.lt
        have h2 := HSr.out.own w.heap.size (Array.getElem?_eq_some_iff.1 HX4.out).1 h
        omega
      have HR := Lib.hid hrun
      have HS4' := Lib.hid hs4
      have HR4 : Hid (EntsIn w2.heap.size (w2.heap.size) T4 (u4.setCell ⟨w2.heap.size, 0, none⟩ (.slice A' (pre.length + 1) c')) (pre ++ [e])) := Lib.hid ⟨_, hr4⟩
      clear hba hrun hb4 hs4 hr4 hfx hmo
      by_cases heq : pre.length + 1 = M
      · have hEq : ((pre.length : Int) + 1 == (M : Int)) = true := beq_iff_eq.2 (by omega)
        have HT4 : Hid (((tl T).filter (ge key)).take M = pre ++ [e]) := Lib.hid (HTk.out (by simp [heq]))
        clear heq
        gi_wp2_with (gi_at_builtin; refine wpListIn_append_ran rfl (.tmp 40) (.tmp 44) 22 rfl _ _ _ _ rfl rfl HR.out ?_)
        exact ⟨T4, HS4'.out, rfl, by
          show EntsIn _ _ T4 _ _
          rw [HT4.out]
          exact HR4.out⟩
      · have hEq : ((pre.length : Int) + 1 == (M : Int)) = false := beq_eq_false_iff_ne.2 (by omega)
        have HL4 : Hid ((pre ++ [e]).length < M) := Lib.hid (by have := HLen.out; simp; omega)
        clear heq
        gi_wp2_with (gi_at_builtin; refine wpListIn_append_ran rfl (.tmp 40) (.tmp 44) 22 rfl _ _ _ _ rfl rfl HR.out ?_)
        exact ⟨T4, HS4'.out, HR4.out, HL4.out⟩
    intro D1 T1 W1 hj hst hD hTD hh
    obtain ⟨vu, hbu⟩ := hj
    have HUP := Lib.hid (own_of_l hbu.row)
    have HUB := Lib.hid hbu.box
    have HUO := Lib.hid hbu.own
    have HT1W := Lib.hid hst
    have HX5 := Lib.hid (hst.block HX4.out (by show ¬ _ = _; have := HX2.out.lt; omega))
    have HD5 : Hid (Boxed W1 (w2.heap.size + 1) 22 (.slice none 0 0)) := Lib.hid (hst.block HD4.out (by show ¬ _ = _; omega))
    have HDD1 := Lib.hid (And.intro hD (And.intro hTD hh))
    have HBW5 := Lib.hid (HBW1.out.trans (hst.below (by omega) fun k hk => by omega))
    have HT5 := Lib.hid (HT.out.below HBW5.out)
    have HS5 : Hid (w4.heap.size ≤ W1.heap.size) := Lib.hid hst.fx.size
    clear hbu hst hD hTD hh hs3 hs4 hbw2
    gi_wp2_with fail
    refine CallsIn.mono (callsIn_wide.2 (backFrom_made W1 _ key)) ?_
    rintro r w6 ⟨rfl, rfl⟩
    have hb6 := boxed2_below W1 (.pointer pt) key
    have hs6 := boxed2_size W1 (.pointer pt) key
    have hBn := boxed2_n W1 (.pointer pt) key
    have hBk := boxed2_k W1 (.pointer pt) key
    obtain ⟨w6, hw6⟩ : ∃ w6, boxed2 W1 (.pointer pt) key = w6 := ⟨_, rfl⟩
    rw [hw6] at hb6 hs6 hBn hBk ⊢
    have HB6 := Lib.hid hb6
    have HS6 := Lib.hid hs6
    have HBn := Lib.hid hBn
    have HBk := Lib.hid hBk
    have HBW2 := Lib.hid (HBW5.out.trans (hb6.mono HBW5.out.size))
    have HX6 := Lib.hid ((hb6.block _ (Array.getElem?_eq_some_iff.1 HX5.out).1).trans HX5.out)
    have HD6 : Hid (Boxed w6 (w2.heap.size + 1) 22 (.slice none 0 0)) := Lib.hid ((hb6.block _ HD5.out.lt).trans HD5.out)
    have HSW : Hid (W1.heap.size ≥ w2.heap.size + 4 ∧ w6.heap.size = W1.heap.size + 2) := Lib.hid ⟨by have := HS5.out; have := HS4.out; have := HS3.out; omega, hs6⟩
    clear hw6 hb6 hs6 hBn hBk
    gi_wp2_with fail
    have hs3 := HS3.out
    have hs4 := HSW.out
    have hbw2 := HB2.out.size
    refine wpIn_range_out (gf := 30) (lb := #[pb W1.heap.size, pb (W1.heap.size + 1)]) rfl (enters_of Try.func30 (by kernel_rfl) rfl) (encs := encE) (fun _ => rfl) (xs := ((tl T).filter (le key)).reverse)
      (fun W hb => backFrom_gives HT.out _ (HBW2.out.trans (hb.mono (by omega))) (by rw [HP.out]; exact cell_row ((hb.block _ (by omega)).trans HBn.out) 0 _ rfl) (cell_row ((hb.block _ (by omega)).trans HBk.out) 0 _ rfl))
      (T := fun i => i = w2.heap.size + 1) (fun i hi => ⟨by omega, fun hK => by rcases hK with hK | hK | hK <;> omega⟩) (fun i hi => by rcases hi with h1 | rfl | rfl <;> omega)
      (fun pre T' W' => EntsIn w2.heap.size (w2.heap.size + 1) T' W' pre ∧ pre.length < M) (fun T' W' => EntsIn w2.heap.size (w2.heap.size + 1) T' W' ((((tl T).filter (le key)).reverse).take M))
      (fun s T A B j q => ⟨j.1.abd q, j.2⟩) (fun s T A B j q => j.abd q) ⟨⟨_, .start HD6.out⟩, HM1.out⟩ ?round2 (fun T' W' h => by
        have := h.1
        rwa [← List.take_of_length_le (Nat.le_of_lt h.2)] at this) ?done2
    case round2 =>
      rintro lo pre e T' W' hpre ⟨⟨v, hbr⟩, hlen⟩ hst hnl hl hrl C hC
      have HC := Lib.hid hC
      have HSr := Lib.hid hst
      have HNl := Lib.hid hnl
      have HLi := Lib.hid (show w2.heap.size + 4 ≤ lo by omega)
      have HBR := Lib.hid hbr
      have HLen := Lib.hid hlen
      have HMo := Lib.hid (hst.block HX6.out (by show ¬ _ = _; have := HX2.out.lt; omega))
      have HTk : Hid ((pre ++ [e]).length = M → (((tl T).filter (le key)).reverse).take M = pre ++ [e]) := Lib.hid fun h => by rw [← h]; exact (List.prefix_iff_eq_take.1 hpre).symm
      have hpl : pre.length ≤ 150 := by
        have h1 := hpre.length_le
        have h2 : (((tl T).filter (le key)).reverse).length ≤ 150 := by rw [List.length_reverse]; exact Nat.le_trans (List.length_filter_le _ _) (by rw [HM.out]; exact HLm.out)
        simp only [List.length_append, List.length_singleton] at h1
        omega
      rw [show encE e = #[.string e.k, .string e.v] from rfl]
      have HWs : Hid (w2.heap.size ≤ W'.heap.size) := Lib.hid (by have := hst.fx.size; omega)
      clear hpre hbr hlen hst hnl hl hrl hC hs3 hs4 hbw2
      gi_wp2_with fail
      refine HC.out _ _ (Below.refl _ _) fun W'' hB => ?_
      have HB3 : Hid (BoxRow pcE 31 22 2 w2.heap.size (w2.heap.size + 1) T' W'' pre v) := Lib.hid (BoxRow.abd w2.heap.size (pre, v) _ _ _ HBR.out (hB.qt (by have := HLi.out; omega) HNl.out))
      have hmo := cell_row ((hB.same _ (by have := HLi.out; have := HX2.out.lt; omega)).trans HMo.out) 0 _ rfl
      obtain ⟨Au, cu, hv, hcu, hss⟩ := HB3.out.row.form
      have hbx := HB3.out.box.cell
      have hfx := HB3.out.box.frozen
      subst hv
      have HW3 : Hid (w2.heap.size ≤ W''.heap.size) := Lib.hid (by rw [hB.size]; exact HWs.out)
      clear hB hcu hss
      have hba : Below W''.heap.size W'' (W''.alloc (.cells #[.string e.k, .string e.v] 31)) := (Below.refl _ _).alloc (Nat.le_refl _) _
      obtain ⟨A', c', u4, T4, hrun, hb4, hs4, hr4⟩ := HB3.out.append pcE_enc (.agg #[.string ByteArray.empty, .string ByteArray.empty]) 32 ⟨_, Try.underlying22, rfl⟩ (by kernel_rfl) rfl (by omega) (by omega) (by decide) e (by omega) HW3.out
      have q1 : (W''.alloc (.cells #[.string e.k, .string e.v] 31)).cell? ⟨w2.heap.size + 1, 0, none⟩ = some (.slice Au pre.length cu) := (hba.cell (p := ⟨w2.heap.size + 1, 0, none⟩) (cell_lt hbx)).trans hbx
      have c4 := hb4.cell
      have f4 := hb4.frozen
      have q5 := hr4.box.cell
      have q6 : (u4.setCell ⟨w2.heap.size + 1, 0, none⟩ (.slice A' (pre.length + 1) c')).cell? ⟨w.heap.size, 0, none⟩ = some (.int .i64 (M : Int)) := hs4.cell hmo fun h => by
        have h1 := HX2.out.lt
        have h2 := HSr.out.own w.heap.size (Array.getElem?_eq_some_iff.1 HX6.out).1 h
        omega
      have HR := Lib.hid hrun
      have HS4' := Lib.hid hs4
      have HR4 : Hid (EntsIn w2.heap.size (w2.heap.size + 1) T4 (u4.setCell ⟨w2.heap.size + 1, 0, none⟩ (.slice A' (pre.length + 1) c')) (pre ++ [e])) := Lib.hid ⟨_, hr4⟩
      clear hba hrun hb4 hs4 hr4 hfx hmo
      by_cases heq : pre.length + 1 = M
      · have hEq : ((pre.length : Int) + 1 == (M : Int)) = true := beq_iff_eq.2 (by omega)
        have HT4 : Hid ((((tl T).filter (le key)).reverse).take M = pre ++ [e]) := Lib.hid (HTk.out (by simp [heq]))
        clear heq
        gi_wp2_with (gi_at_builtin; refine wpListIn_append_ran rfl (.tmp 55) (.tmp 59) 22 rfl _ _ _ _ rfl rfl HR.out ?_)
        exact ⟨T4, HS4'.out, rfl, by
          show EntsIn _ _ T4 _ _
          rw [HT4.out]
          exact HR4.out⟩
      · have hEq : ((pre.length : Int) + 1 == (M : Int)) = false := beq_eq_false_iff_ne.2 (by omega)
        have HL4 : Hid ((pre ++ [e]).length < M) := Lib.hid (by have := HLen.out; simp; omega)
        clear heq
        gi_wp2_with (gi_at_builtin; refine wpListIn_append_ran rfl (.tmp 55) (.tmp 59) 22 rfl _ _ _ _ rfl rfl HR.out ?_)
        exact ⟨T4, HS4'.out, HR4.out, HL4.out⟩
    intro D2 T2 W2 hj hst hD hTD hh
    obtain ⟨vd, hbd⟩ := hj
    obtain ⟨Au, cu, hvu, hcu, _⟩ := HUP.out.form
    obtain ⟨Ad, cd, hvd, hcd, _⟩ := hbd.row.form
    obtain ⟨xu, hxu⟩ : ∃ xu, (tl T).filter (ge key) = xu := ⟨_, rfl⟩
    obtain ⟨yd, hyd⟩ : ∃ yd, ((tl T).filter (le key)).reverse = yd := ⟨_, rfl⟩
    obtain ⟨mu, hmu⟩ : ∃ mu, xu.length = mu := ⟨_, rfl⟩
    obtain ⟨md, hmd⟩ : ∃ md, yd.length = md := ⟨_, rfl⟩
    have hmu1 : mu ≤ 150 := by rw [← hmu, ← hxu]; exact Nat.le_trans (List.length_filter_le _ _) (by rw [HM.out]; exact HLm.out)
    have hmd1 : md ≤ 150 := by rw [← hmd, ← hyd, List.length_reverse]; exact Nat.le_trans (List.length_filter_le _ _) (by rw [HM.out]; exact HLm.out)
    have hn1 : (xu.take M).length = min M mu := by rw [List.length_take, hmu]
    have hn2 : (yd.take M).length = min M md := by rw [List.length_take, hmd]
    have hup2 : Own W2 w2.heap.size vu (xu.take M) := by
      rw [← hxu]
      exact (HUP.out.below HB6.out).keep fun g hg hlt => hst.same g hlt fun ht => by
        have h1 := HT1W.out.own (w2.heap.size + 1) HD4.out.lt ((HUO.out _).2 (.inr (by rw [hg, ht])))
        omega
    have hdn2 : Own W2 w2.heap.size vd (yd.take M) := by rw [← hyd]; exact own_of_l hbd.row
    rw [hxu, hn1] at hvu hcu
    rw [hyd, hn2] at hvd hcd
    subst hvu hvd
    have HUES := Lib.hid (own_es hup2)
    have HDES := Lib.hid (own_es hdn2)
    have hub : Boxed W2 w2.heap.size 22 (.slice Au (min M mu) cu) := hst.block ((HB6.out.block _ HUB.out.lt).trans HUB.out) (by show ¬ _ = _; omega)
    have hmb := hst.block HX6.out (by show ¬ _ = _; have := HX2.out.lt; omega)
    have HCU := Lib.hid hub.cell
    have HCD := Lib.hid hbd.box.cell
    have HCM : Hid (W2.cell? ⟨w.heap.size, 0, none⟩ = some (.int .i64 (M : Int))) := Lib.hid (cell_row hmb 0 _ rfl)
    have HBWf := Lib.hid (HBW2.out.trans (hst.below (by omega) fun k hk => by omega))
    have HESf := Lib.hid (HES.out.below HBWf.out)
    have HDS : Hid ([D2, D1].Nodup ∧ ∀ E ∈ [D2, D1], w2.heap.size ≤ E ∧ W2.heap[E]? = some (.deferred (some []))) := Lib.hid (by
      obtain ⟨d1, d2, d3⟩ := HDD1.out
      have h1 := (Array.getElem?_eq_some_iff.1 d3).1
      have h2 := HSW.out
      have h3 := HS4.out
      have h4 := HS3.out
      have d4 : W2.heap[D1]? = some (.deferred (some [])) := hst.block ((HB6.out.block _ h1).trans d3) (by show ¬ _ = _; omega)
      refine ⟨by simp; omega, fun E hE => ?_⟩
      rcases List.mem_cons.1 hE with rfl | hE
      · exact ⟨by omega, hh⟩
      · rw [List.mem_singleton] at hE
        subst hE
        exact ⟨by omega, d4⟩)
    have HMIN : Hid (xu.take (min M mu) = xu.take M) := Lib.hid (by rw [← hmu, List.take_eq_take_iff]; omega)
    have HMINr : Hid (yd.take (min M md) = yd.take M) := Lib.hid (by rw [← hmd, List.take_eq_take_iff]; omega)
    have HN1 := Lib.hid hn1
    have HN2 := Lib.hid hn2
    have HXU := Lib.hid hxu
    have HYD := Lib.hid hyd
    have HMU := Lib.hid hmu
    have HMD := Lib.hid hmd
    have HMm : Hid (((M : Int)).toNat = M) := Lib.hid (Int.toNat_natCast M)
    clear hbd hcu hcd hup2 hdn2 hub hmb hst hD hTD hh hs3 hs4 hbw2 hn1 hn2 hxu hyd hmu hmd
    gi_wp2_with fail
    refine wp_noPanic ?_
    have hbdr : Below W2.heap.size W2 W2.drew := (Below.refl _ _).drew
    have hcu := cell_lat (show W2.drew.cell? ⟨w2.heap.size, 0, none⟩ = _ from HCU.out)
    have hcm := cell_lat (show W2.drew.cell? ⟨w.heap.size, 0, none⟩ = _ from HCM.out)
    refine wp_region_segs [([0, 1, 2, 4], 3), ([], 5), ([], 6), ([7, 8, 9, 10, 12], 11), ([], 13), ([], 14)] [15, 16] (by kernel_rfl) (by kernel_rfl) (by kernel_rfl) (by kernel_rfl) noPanic_put ?_
    refine wpSegs_more ?_
    simp only [pick, List.getElem?_cons_zero, List.getElem?_cons_succ]
    repeat (first | go_big_quiet_step (fail) | quiet_step (fail))
    refine wpQuiet_nil ?_
    refine wpOp_heavy rfl (by rfl) (fun K hK => ?_)
    clear hcu hcm
    go_simp
    refine (refFrom_any A2 m c2 (tl T) key W2.drew (HESf.out.below hbdr) HM.out (by have := HLm.out; omega)).mono ?_
    rintro r x0 ⟨v0, rfl, ho0, hb0⟩
    obtain ⟨A0, c0, rfl, hc0, _⟩ := ho0.form
    rw [HXU.out] at ho0
    rw [HXU.out, HMU.out] at hc0 ⊢
    have HES0 := Lib.hid (own_es ho0)
    have hbx0 := bthen hbdr hb0
    have HBX0 := Lib.hid hbx0
    refine hK _ _ hb0 ?_
    clear hK K hb0 ho0 hbdr hbx0
    refine wpSegs_more ?_
    simp only [pick]
    refine wpQuiet_nil ?_
    refine wpOp_heavy rfl (by rfl) (fun K hK => ?_)
    go_simp
    refine (first_any A0 mu c0 (M : Int) x0 hc0 (by omega)).mono ?_
    rintro r x1 ⟨rfl, rfl⟩
    rw [HMm.out]
    refine hK _ _ (Below.refl _ _) ?_
    clear hK K
    refine wpSegs_more ?_
    simp only [pick]
    refine wpQuiet_nil ?_
    refine wpOp_heavy rfl (by rfl) (fun K hK => ?_)
    go_simp
    refine (same_any Au A0 (min M mu) cu c0 (xu.take M) x0 (HUES.out.below HBX0.out) (by rw [← HMIN.out]; exact HES0.out.take _) HN1.out (by omega)).mono ?_
    rintro r x2 ⟨rfl, hbx2⟩
    refine hK _ _ hbx2 ?_
    have hbx := bthen HBX0.out hbx2
    have HBX2 := Lib.hid hbx
    have hcd := cell_lat ((hbx.cell (p := ⟨w2.heap.size + 1, 0, none⟩) (cell_lt HCD.out)).trans HCD.out)
    have hcm := cell_lat ((hbx.cell (p := ⟨w.heap.size, 0, none⟩) (cell_lt HCM.out)).trans HCM.out)
    clear hK K hbx2 hbx
    refine wpSegs_more ?_
    simp only [pick, List.getElem?_cons_zero, List.getElem?_cons_succ]
    repeat (first | go_big_quiet_step (fail) | quiet_step (fail))
    refine wpQuiet_nil ?_
    refine wpOp_heavy rfl (by rfl) (fun K hK => ?_)
    clear hcd hcm
    go_simp
    refine (refBackFrom_any A2 m c2 (tl T) key x2 (HESf.out.below HBX2.out) HM.out (by have := HLm.out; omega)).mono ?_
    rintro r x3 ⟨v3, rfl, ho3, hb3⟩
    obtain ⟨A3, c3, rfl, hc3, _⟩ := ho3.form
    rw [HYD.out] at ho3
    rw [HYD.out, HMD.out] at hc3 ⊢
    have HES3 := Lib.hid (own_es ho3)
    have HBX3 := Lib.hid (bthen HBX2.out hb3)
    refine hK _ _ hb3 ?_
    clear hK K hb3 ho3
    refine wpSegs_more ?_
    simp only [pick]
    refine wpQuiet_nil ?_
    refine wpOp_heavy rfl (by rfl) (fun K hK => ?_)
    go_simp
    refine (first_any A3 md c3 (M : Int) x3 hc3 (by omega)).mono ?_
    rintro r x4 ⟨rfl, rfl⟩
    rw [HMm.out]
    refine hK _ _ (Below.refl _ _) ?_
    clear hK K
    refine wpSegs_more ?_
    simp only [pick]
    refine wpQuiet_nil ?_
    refine wpOp_heavy rfl (by rfl) (fun K hK => ?_)
    go_simp
    refine (same_any Ad A3 (min M md) cd c3 (yd.take M) x3 (HDES.out.below HBX3.out) (by rw [← HMINr.out]; exact HES3.out.take _) HN2.out (by omega)).mono ?_
    rintro r x5 ⟨rfl, hbx5⟩
    have HBX5 := Lib.hid (bthen HBX3.out hbx5)
    refine hK _ _ hbx5 ?_
    clear hK K hbx5
    refine wpSegs_last ?_
    simp only [pick, List.getElem?_cons_zero, List.getElem?_cons_succ]
    repeat (first | go_big_quiet_step (fail) | quiet_step (fail))
    refine wpQuiet_nil ?_
    simp only [noPanic]
    gi_wp2_with fail
    refine leaves_marks [D2, D1] x5 HDS.out.1 (fun E hE => (HBX5.out.block _ (Array.getElem?_eq_some_iff.1 (HDS.out.2 E hE).2).1).trans (HDS.out.2 E hE).2) fun w' hs => ?_
    exact ⟨_, results_tmp rfl _ _ _, rfl, (HB2.out.trans ((HBWf.out.trans (HBX5.out.mono HBWf.out.size)).mono HB2.out.size)).trans (shut_below hs fun E hE => Nat.le_trans HB2.out.size (HDS.out.2 E hE).1)⟩

end Go.Proofs.Ytcoaloignmkemaa

namespace Go.Proofs.Ytcoaloignmkemaa.walkFrom
open Go.ChangeShapes Go.WideShapes Go.ChangeAt Go.RowKit
open Go.ChangeMaps (open_string shut_string)
set_option linter.unusedVariables false

theorem own : ownKnob Try.prog.godebug = none := by kernel_rfl
theorem laidOut : laidOutB Try.prog = true := by kernel_rfl

set_option maxRecDepth 100000 in
theorem lifted (os : Os) (started : os.Started) (H : Type) (enc : TypeId × Value → H) :
    ReturnsInHanded {} Try.checked os 4 .any (Rows.walkFromSpec.pre6 enc Try.prog Try.f4 Rows.walkFromRow.domain false) (Rows.walkFromSpec.post enc Try.prog Try.f4 false true false false) := by
  refine returnsInHanded_of_change_sized (C := Try.checked) own started (by kernel_rfl) Try.func4
    (ChangeSpec.witness6 (enc := enc) (C := Try.checked) false ⟨#[], #[.slice none 0 0, .string ByteArray.empty, .int .i64 0], []⟩ 8 (by kernel_rfl) (by kernel_rfl) (by kernel_rfl) (by kernel_rfl)) ?_
  intro W base args ds gs before hval0 hW hcnd hsz0 _
  have hval : ∀ (j : Nat) t v, Try.f4.params[j]? = some t → args[j]? = some v → Value.okWide Try.prog W .any base t v := hval0
  have hsz : (DataW.weightsEach Try.prog (Try.f4.params.toList ++ Rows.walkFromSpec.plain.varTypes Try.prog) (ds ++ gs)).all (· ≤ reachBytes) = true := hsz0
  have hW' := hW
  obtain ⟨p, q, hA0, hV, rfl, hfz, hnd⟩ := hW
  have hA : DataW.TrodAll enc Try.prog W 0 (fun _ => true) true Try.f4.params.toList args.toList ds p := hA0
  rw [Try.params4] at hA hval hsz
  obtain ⟨v0, vs0, d0, ds0, p0, q0, hargs, rfl, rfl, h0, r0⟩ := trodAll_cons hA
  obtain ⟨v1, vs1, d1, ds1, p1, q1, rfl, rfl, rfl, h1, r1⟩ := trodAll_cons r0
  obtain ⟨v2, vs2, d2, ds2, p2, q2, rfl, rfl, rfl, h2, r2⟩ := trodAll_cons r1
  obtain ⟨rfl, rfl, rfl⟩ := trodAll_nil r2
  obtain rfl : args = #[v0, v1, v2] := by cases args; simp_all
  obtain ⟨rfl, rfl⟩ := trodVars_none hV
  obtain ⟨A0, n0, c0, rfl⟩ := okWide_slice Try.underlying22 (hval 0 22 v0 rfl rfl)
  have k0 := h0
  have lt0 : ∀ x ∈ p0, x.block < W.heap.size := by obtain ⟨m, hm⟩ := k0; exact DataW.trod_lt m _ _ _ hm
  obtain ⟨l0, w0⟩ := open_ents h0 (fun m hm => of_decide_eq_true (List.all_eq_true.1 hsz _ (DataW.weights_mem_each (j := 0) (t := 22) rfl rfl m hm)))
  obtain ⟨a1, rfl, rfl, rfl, w1⟩ := open_string Try.underlying9 (hval 1 9 v1 rfl rfl) h1
  obtain ⟨a2, rfl, rfl, rfl, w2⟩ := open_int Try.underlying3 (hval 2 3 v2 rfl rfl) h2
  have z1 : a1.data.toList.length ≤ reachBytes := sized_string hsz (j := 1) (t := 9) rfl rfl
  have y1 : a1.size ≤ 140737488351232 := z1
  clear hA0 hval0 hsz hsz0
  refine (walkFrom_walk A0 n0 c0 l0 a1 a2 W w0 y1 w2).mono fun e W' ⟨he, bel⟩ => ?_
  subst he
  exact ⟨_, rfl, _, _, _, [], _, [], hW', trodAll_mk1 (shut_bool Try.underlying4 _), (trodAll_cons_mk (Below.trod laidOut (by kernel_rfl) (of_decide_eq_true (by kernel_rfl)) k0 bel lt0) (trodAll_cons_mk (shut_string Try.underlying9 w1) (trodAll_cons_mk (shut_int Try.underlying3 w2) trodAll_mk0))), rfl, bel.frame _, fun h => by cases h⟩

theorem over : Rows.walkFromRow.holds Try.pinned (OpenSpec.ofChange Rows.walkFromSpec) :=
  OpenClaim.holds_of_wide 4 Try.f4 rfl rfl rfl rfl rfl rfl rfl ⟨rfl, rfl, rfl, rfl, rfl⟩ rfl rfl rfl rfl rfl (by kernel_rfl) Try.func4 (by kernel_rfl)
    (of_decide_eq_true (by kernel_rfl)) (by unfold Func.isWrapper; first | (rw [if_pos (by decide +kernel)]; kernel_rfl) | (rw [if_neg (by decide +kernel)]; exact ⟨rfl, rfl⟩))
    (fun os started H enc _ => lifted os started H enc)

theorem proved : Rows.WalkFromSaid := over
#print axioms proved

end Go.Proofs.Ytcoaloignmkemaa.walkFrom
