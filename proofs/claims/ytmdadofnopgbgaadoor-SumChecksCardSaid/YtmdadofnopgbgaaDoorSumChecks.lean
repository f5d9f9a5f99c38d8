/-
  SumChecks: any bytes have the check that the document says, and are sealed and opened, or not, as it says, for every string; no condition beyond the row's.
-/
import Derived.Test.YtmdadofnopgbgaaDoorSumAwake
import Derived.Test.YtmdadofnopgbgaaDoorSumLaid
import Derived.Test.YtmdadofnopgbgaaDoorSumRef
import Derived.Test.YtmdadofnopgbgaaDoorTie
import Derived.Test.YtmdadofnopgbgaaDoorCards
import Derived.SevenTiedAt
namespace Go.Proofs.YtmdadofnopgbgaaDoor
open Go.RowKit
set_option linter.unusedVariables false
set_option linter.unusedSimpArgs false

set_option maxHeartbeats 4000000 in
theorem sumChecks_walk (b : ByteArray) (w : World) (hh : Half w) (hs : b.size ≤ 140737488351232) :
    Calls Tryd.prog 3 #[.string b] w fun e w' => e = .returned (.bool true) ∧ Below w.heap.size w w' := by
  obtain ⟨C, F, hcv, hF⟩ := bytes_of b
  by_cases hl : 5000 < b.size
  · go_enter Tryd.func3, Tryd.ntmps3
    go_wp2_with fail
    refine (awake_any w hh).mono ?_
    rintro e w1 ⟨rfl, hb1⟩
    go_wp2_with fail
    refine (awake_any w1 (hh.below hb1)).mono ?_
    rintro e w2 ⟨rfl, hb2⟩
    go_wp2
    go_ret
    exact ⟨rfl, bthen hb1 hb2⟩
  · go_enter Tryd.func3, Tryd.ntmps3
    go_wp2_with fail
    refine (awake_any w hh).mono ?_
    rintro e w1 ⟨rfl, hb1⟩
    obtain ⟨hr1, hc1, hb1'⟩ := hF w1
    have hb2 := bthen hb1 hb1'
    go_wp2_with fail
    refine (open_str _ (C w1) b (F w1) (hh.below hb2) hr1 hc1 (by omega)).mono ?_
    rintro e w3 ⟨A3, c3, rfl, hr3, hb3⟩
    have hb3' := bthen hb2 hb3
    go_wp2_with fail
    refine (refOpen_any b w3 (by omega)).mono ?_
    rintro e w4 ⟨rfl, hb4⟩
    have hb4' := bthen hb3' hb4
    have hr4 := hr3.below hb4
    generalize openS b = S at *
    generalize openF b = f at *
    have HF := Lib.hid hF
    clear hF hb1 hb1' hb2 hb3 hb3' hb4 hr1 hr3
    go_wp2_with fail
    refine wp_region_segs [([0, 4], 1), ([], 2), ([3], 5), ([6, 7, 8, 12], 9), ([], 10), ([11], 13)] [14, 15, 16, 17, 18, 19, 20, 21, 22, 23, 24, 25, 26, 27] (by kernel_rfl) (by kernel_rfl) (by kernel_rfl) (by kernel_rfl) (by intro c a d v w h; cases d <;> exact h) ?_
    have b4d : Below w4.heap.size w4 w4.drew := (Below.refl _ _).drew
    have hb4d := bthen hb4' b4d
    have hr4d := hr4.below b4d
    clear b4d hr4 hb4'
    generalize w4.drew = w5 at *
    refine wpSegs_more ?_
    simp only [pick, List.getElem?_cons_zero, List.getElem?_cons_succ]
    repeat (first | go_big_quiet_step (fail) | quiet_step (fail))
    refine wpQuiet_nil ?_
    refine wpOp_heavy rfl (by rfl) (fun K hK => ?_)
    go_simp
    obtain ⟨hr6, _, hb6⟩ := HF.out w5
    have hb6' := bthen hb4d hb6
    have hr46 := hr4d.below hb6
    refine hK _ _ hb6 ?_
    clear hK K
    generalize hg6 : w5.heap.size = g6 at *
    generalize C w5 = c6 at *
    generalize F w5 = w6 at *
    refine wpSegs_more ?_
    simp only [pick, List.getElem?_cons_zero, List.getElem?_cons_succ]
    repeat (first | go_big_quiet_step (fail) | quiet_step (fail))
    refine wpQuiet_nil ?_
    refine wpOp_heavy rfl (by rfl) (fun K hK => ?_)
    go_simp
    refine (of_any _ b.size c6 b.data.toList w6 (hh.below hb6') hr6 rfl (by omega)).mono ?_
    rintro e w7 ⟨rfl, rfl⟩
    obtain ⟨v, hv⟩ : ∃ v, v = Crc.crc b.data.toList := ⟨_, rfl⟩
    rw [← hv]
    have HV := Lib.hid hv
    have hvl := v.isLt
    clear hv
    refine hK _ _ (Below.refl _ _) ?_
    clear hK K
    refine wpSegs_more ?_
    simp only [pick, List.getElem?_cons_zero, List.getElem?_cons_succ]
    repeat (first | go_big_quiet_step (fail) | quiet_step (fail))
    refine wpQuiet_nil ?_
    refine wpOp_heavy rfl (by rfl) (fun K hK => ?_)
    go_simp
    refine (refOf_any b w6 (by omega)).mono ?_
    rintro e w7 ⟨rfl, rfl⟩
    rw [← HV.out]
    refine hK _ _ (Below.refl _ _) ?_
    clear hK K
    refine wpSegs_more ?_
    simp only [pick, List.getElem?_cons_zero, List.getElem?_cons_succ]
    repeat (first | go_big_quiet_step (fail) | quiet_step (fail))
    refine wpQuiet_nil ?_
    refine wpOp_heavy rfl (by rfl) (fun K hK => ?_)
    go_simp
    obtain ⟨hr8, _, hb8⟩ := HF.out w6
    have hb8' := bthen hb6' hb8
    have hr48 := hr46.below hb8
    refine hK _ _ hb8 ?_
    clear hK K
    generalize hg8 : w6.heap.size = g8 at *
    generalize C w6 = c8 at *
    generalize F w6 = w8 at *
    refine wpSegs_more ?_
    simp only [pick, List.getElem?_cons_zero, List.getElem?_cons_succ]
    repeat (first | go_big_quiet_step (fail) | quiet_step (fail))
    refine wpQuiet_nil ?_
    refine wpOp_heavy rfl (by rfl) (fun K hK => ?_)
    go_simp
    refine (seal_any _ b.size c8 b.data.toList w8 (hh.below hb8') hr8 rfl (by omega)).mono ?_
    rintro e w9 ⟨rfl, hown9, hb9⟩
    have hb9' := bthen hb8' hb9
    have hr49 := hr48.below hb9
    have H9 := Lib.hid (own_len hown9)
    have cv9 := conv_rd_later (c := b.size + 4) (Rd.of_own hown9) H9.out
    refine hK _ _ hb9 ?_
    clear hK K
    generalize hg9 : w8.heap.size = g9 at *
    refine wpSegs_more ?_
    simp only [pick, List.getElem?_cons_zero, List.getElem?_cons_succ]
    repeat (first | go_big_quiet_step (fail) | quiet_step (fail))
    refine wpQuiet_nil ?_
    refine wpOp_heavy rfl (by rfl) (fun K hK => ?_)
    go_simp
    clear cv9
    refine (refSeal_any b w9 (by omega)).mono ?_
    rintro e w10 ⟨rfl, hb10⟩
    have hb10' := bthen hb9' hb10
    have cv10 := conv_str_later (c := c3) (hr49.below hb10)
    refine hK _ _ hb10 ?_
    clear hK K
    refine wpSegs_last ?_
    simp only [pick, List.getElem?_cons_zero, List.getElem?_cons_succ]
    repeat (first | go_big_quiet_step (fail) | quiet_step (fail))
    refine wpQuiet_nil ?_
    clear cv10
    go_wp2
    go_ret
    exact ⟨rfl, hb10'⟩

end Go.Proofs.YtmdadofnopgbgaaDoor

namespace Go.Proofs.YtmdadofnopgbgaaDoor.sumChecks
open Go Go.ChangeShapes Go.WideShapes Go.ChangeAt Go.RowKit
open Go.ChangeMaps (open_string shut_string)
set_option linter.unusedVariables false

theorem own : ownKnob Tryd.prog.godebug = none := by kernel_rfl

set_option maxRecDepth 100000 in
theorem lifted (os : Os) (started : os.Started) (H : Type) (enc : TypeId × Value → H) :
    ReturnsInHanded {} Tryd.checked os 3 .any (fun w args => (Rows.sumChecksSpec.pre enc Tryd.prog Tryd.f3 [] false w args ∧ laidMetH Tryd.prog laidL w) ∧ sizedMet enc Tryd.prog Tryd.f3 (OpenSpec.ofChange Rows.sumChecksSpec) false w args)
      (Rows.sumChecksSpec.post enc Tryd.prog Tryd.f3 false true false false) := by
  refine returnsInHanded_of_change_and (C := Tryd.checked) (X := fun w _ => laidMetH Tryd.prog laidL w) (fun _ _ _ hh h => h.of_heap hh) own started (by kernel_rfl) Tryd.func3
    (ChangeSpec.witness_shaped (enc := enc) (C := Tryd.checked) (os := os) (X := fun w _ => laidMetH Tryd.prog laidL w) false (World.doorLaid Tryd.prog 14 os) #[.string ByteArray.empty] 8 rfl (World.shaped_of_RefB (by kernel_rfl) (by kernel_rfl)) (by kernel_rfl) (by kernel_rfl) (by kernel_rfl) (door_met os _)) ?_
  intro W base args ds gs before hval0 hW hcnd hsz0 hL _
  have hval : ∀ (j : Nat) t v, Tryd.f3.params[j]? = some t → args[j]? = some v → Value.okWide Tryd.prog W .any base t v := hval0
  have hsz : (DataW.weightsEach Tryd.prog (Tryd.f3.params.toList ++ Rows.sumChecksSpec.plain.varTypes Tryd.prog) (ds ++ gs)).all (· ≤ reachBytes) = true := hsz0
  have hW' := hW
  obtain ⟨p, q, hA0, hV, rfl, hfz, hnd⟩ := hW
  have hA : DataW.TrodAll enc Tryd.prog W 0 (fun _ => true) true Tryd.f3.params.toList args.toList ds p := hA0
  rw [Tryd.params3] at hA hval hsz
  obtain ⟨v0, vs0, d0, ds0, p0, q0, hargs, rfl, rfl, h0, r0⟩ := trodAll_cons hA
  obtain ⟨rfl, rfl, rfl⟩ := trodAll_nil r0
  obtain rfl : args = #[v0] := by cases args; simp_all
  obtain ⟨rfl, rfl⟩ := trodVars_none hV
  obtain ⟨a0, rfl, rfl, rfl, w0⟩ := open_string Tryd.underlying9 (hval 0 9 v0 rfl rfl) h0
  have z0 : a0.data.toList.length ≤ reachBytes := sized_string hsz (j := 0) (t := 9) rfl rfl
  have y0 : a0.size ≤ 140737488351232 := z0
  clear hA0 hval0 hsz hsz0
  simp only [List.append_nil] at hW'
  refine (sumChecks_walk a0 W (half_of_laid hL) y0).mono fun e W' ⟨he, bel⟩ => ?_
  subst he
  exact ⟨_, rfl, _, _, _, [], [], [], hW', trodAll_mk1 (shut_bool Tryd.underlying4 _), (trodAll_cons_mk (shut_string Tryd.underlying9 w0) trodAll_mk0), rfl, bel.frame _, fun h => by cases h⟩

theorem over : Rows.SumChecksSaid :=
  OpenClaim.holds_of_wide 3 Tryd.f3 rfl rfl rfl rfl rfl rfl rfl ⟨rfl, rfl, rfl, rfl, rfl⟩ rfl rfl rfl rfl rfl (by kernel_rfl) Tryd.func3 (by kernel_rfl)
    (of_decide_eq_true (by kernel_rfl)) (by unfold Func.isWrapper; first | (rw [if_pos (by decide +kernel)]; kernel_rfl) | (rw [if_neg (by decide +kernel)]; exact ⟨rfl, rfl⟩))
    (fun os started H enc _ => lifted os started H enc)

theorem proved : Rows.SumChecksCardSaid :=
  Claim7.holds_tied_plain_at .later [] [.data] true (true, "d16a18b312e7b072c3f036a8e61b2d0280fd23f419d00274463700ddae1bba83") false
    over (fun _ h => by cases h) (by kernel_rfl) (fun _ h => by cases h) sumChecks_row_tie rfl ⟨rfl, rfl⟩ (by kernel_rfl) rfl
    (fun f fn hf hfn => by
      obtain rfl : f = 3 := Option.some.inj ((show Tryd.prog.funcNamed "sapwood/sapwoodlaw02.SumChecks" = some 3 by kernel_rfl).symm.trans hf) |>.symm
      obtain rfl : fn = Tryd.f3 := (Option.some.inj (Tryd.func3.symm.trans hfn)).symm
      exact ⟨by kernel_rfl, fun j t ht => by
        rw [Tryd.params3] at ht
        have hm : t ∈ [9] := by simpa using Array.mem_of_getElem? ht
        have hall : ([9].all fun u => !Tryd.prog.wantsStandIn u) = true := by kernel_rfl
        exact (show Tryd.prog.wantsStandIn t = false by simpa using List.all_eq_true.1 hall t hm)⟩)
    (by kernel_rfl)
#print axioms proved

end Go.Proofs.YtmdadofnopgbgaaDoor.sumChecks
