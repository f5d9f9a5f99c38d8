/-
  SumLonger: what was sealed twice is opened twice, and what is opened is sealed as it was, for every string; no condition beyond the row's.
-/
import Derived.Test.YtmdadofnopgbgaaDoorSumAwake
import Derived.Test.YtmdadofnopgbgaaDoorSumLaid
import Derived.Test.YtmdadofnopgbgaaDoorTie
import Derived.Test.YtmdadofnopgbgaaDoorCards
import Derived.SevenTiedAt
namespace Go.Proofs.YtmdadofnopgbgaaDoor
open Go.RowKit
set_option linter.unusedVariables false

set_option maxHeartbeats 2000000 in
theorem sumLonger_walk (b : ByteArray) (w : World) (hh : Half w) (hs : b.size ≤ 140737488351232) :
    Calls Tryd.prog 8 #[.string b] w fun e w' => e = .returned (.bool true) ∧ Below w.heap.size w w' := by
  obtain ⟨C, F, hcv, hF⟩ := bytes_of b
  by_cases hl : 5000 < b.size
  · go_enter Tryd.func8, Tryd.ntmps8
    go_wp2_with fail
    refine (awake_any w hh).mono ?_
    rintro e w1 ⟨rfl, hb1⟩
    go_wp2_with fail
    refine (awake_any w1 (hh.below hb1)).mono ?_
    rintro e w2 ⟨rfl, hb2⟩
    go_wp2
    go_ret
    exact ⟨rfl, bthen hb1 hb2⟩
  · go_enter Tryd.func8, Tryd.ntmps8
    go_wp2_with fail
    refine (awake_any w hh).mono ?_
    rintro e w1 ⟨rfl, hb1⟩
    obtain ⟨hr1, hc1, hb1'⟩ := hF w1
    have hb2 := bthen hb1 hb1'
    go_wp2_with fail
    refine (seal_any _ b.size (C w1) b.data.toList (F w1) (hh.below hb2) hr1 rfl (by omega)).mono ?_
    rintro e w3 ⟨rfl, hown3, hb3⟩
    have hb3' := bthen hb2 hb3
    have H3 := Lib.hid (own_len hown3)
    generalize (F w1).heap.size = g3 at *
    go_wp2_with fail
    refine (seal_any _ (b.size + 4) (b.size + 4) (Crc.sealed b.data.toList) w3 (hh.below hb3') (Rd.of_own hown3) H3.out (by omega)).mono ?_
    rintro e w4 ⟨rfl, hown4, hb4⟩
    have hb4' := bthen hb3' hb4
    have H4 := Lib.hid (own_len hown4)
    go_wp2_with fail
    refine (open_any _ (b.size + 4 + 4) (b.size + 4 + 4) (Crc.sealed (Crc.sealed b.data.toList)) w4 (hh.below hb4') (Rd.of_own hown4) H4.out (Nat.le_refl _) (by omega)).mono ?_
    rintro e w5 (⟨A5, c5, rfl, _, hown5, hb5⟩ | ⟨rfl, hno, hb5⟩)
    · have tk5 : (Crc.sealed (Crc.sealed b.data.toList)).take (b.size + 4) = Crc.sealed b.data.toList := by
        have := Crc.sealed_take (Crc.sealed b.data.toList)
        rwa [H3.out] at this
      rw [Nat.add_sub_cancel, tk5] at hown5
      clear tk5
      have hb5' := bthen hb4' hb5
      have hr35 : Rd w5 _ _ := (Rd.of_own hown3).below (bthen hb4 hb5)
      have cv5 := conv_rd (c := c5) (Rd.of_own hown5) H3.out
      have cv3 := conv_rd (c := b.size + 4) hr35 H3.out
      go_wp2_with fail
      refine (open_any _ (b.size + 4) c5 (Crc.sealed b.data.toList) w5 (hh.below hb5') (Rd.of_own hown5) H3.out (own_cap hown5) (by omega)).mono ?_
      rintro e w6 (⟨A6, c6, rfl, _, hown6, hb6⟩ | ⟨rfl, hno, hb6⟩)
      · rw [Nat.add_sub_cancel, show (Crc.sealed b.data.toList).take b.size = b.data.toList from Crc.sealed_take _] at hown6
        have hb6' := bthen hb5' hb6
        have b6d : Below w6.heap.size w6 w6.drew := (Below.refl _ _).drew
        have hb6d := bthen hb6' b6d
        have hr6d := (Rd.of_own hown6).below b6d
        have hr36d := (hr35.below hb6).below b6d
        have cv6 := conv_str_later (c := c6) hr6d
        have cv37 := conv_rd_later (c := b.size + 4) hr36d H3.out
        go_wp2_with fail
        refine wp_region_segs [([0, 1, 2, 3, 4, 5, 6, 7, 8, 11, 12], 9)] [10, 13, 14, 15] (by kernel_rfl) (by kernel_rfl) (by kernel_rfl) (by kernel_rfl) (by intro c a d v w h; cases d <;> exact h) ?_
        refine wpSegs_more ?_
        simp only [pick, List.getElem?_cons_zero, List.getElem?_cons_succ]
        repeat (first | go_big_quiet_step (fail) | quiet_step (fail))
        refine wpQuiet_nil ?_
        refine wpOp_heavy rfl (by rfl) (fun K hK => ?_)
        go_simp
        clear cv6 cv37
        refine (seal_any _ b.size c6 b.data.toList w6.drew (hh.below hb6d) hr6d rfl (by omega)).mono ?_
        rintro e w7 ⟨rfl, hown7, hb7⟩
        have cv7 : ∀ d os, (convert 23 9 (.slice (some ⟨w6.heap.size, 0, none⟩) (b.size + 4) (b.size + 4))).run Tryd.prog (Go.Sort.grow (redrawn w7 d) os) = .ok (.string ⟨(Crc.sealed b.data.toList).toArray⟩) (Go.Sort.grow (redrawn w7 d) os) := conv_rd_later (c := b.size + 4) (Rd.of_own hown7) H3.out
        refine hK _ _ hb7 ?_
        clear hK K
        refine wpSegs_last ?_
        simp only [pick, List.getElem?_cons_zero, List.getElem?_cons_succ]
        repeat (first | go_big_quiet_step (fail) | quiet_step (fail))
        refine wpQuiet_nil ?_
        clear cv7
        go_wp2
        go_ret
        exact ⟨rfl, bthen hb6d hb7⟩
      · exact absurd ⟨by omega, Crc.sealed_isSealed _⟩ hno
    · exact absurd ⟨by omega, Crc.sealed_isSealed _⟩ hno

end Go.Proofs.YtmdadofnopgbgaaDoor

namespace Go.Proofs.YtmdadofnopgbgaaDoor.sumLonger
open Go Go.ChangeShapes Go.WideShapes Go.ChangeAt Go.RowKit
open Go.ChangeMaps (open_string shut_string)
set_option linter.unusedVariables false

theorem own : ownKnob Tryd.prog.godebug = none := by kernel_rfl

set_option maxRecDepth 100000 in
theorem lifted (os : Os) (started : os.Started) (H : Type) (enc : TypeId × Value → H) :
    ReturnsInHanded {} Tryd.checked os 8 .any (fun w args => (Rows.sumLongerSpec.pre enc Tryd.prog Tryd.f8 [] false w args ∧ laidMetH Tryd.prog laidL w) ∧ sizedMet enc Tryd.prog Tryd.f8 (OpenSpec.ofChange Rows.sumLongerSpec) false w args)
      (Rows.sumLongerSpec.post enc Tryd.prog Tryd.f8 false true false false) := by
  refine returnsInHanded_of_change_and (C := Tryd.checked) (X := fun w _ => laidMetH Tryd.prog laidL w) (fun _ _ _ hh h => h.of_heap hh) own started (by kernel_rfl) Tryd.func8
    (ChangeSpec.witness_shaped (enc := enc) (C := Tryd.checked) (os := os) (X := fun w _ => laidMetH Tryd.prog laidL w) false (World.doorLaid Tryd.prog 14 os) #[.string ByteArray.empty] 8 rfl (World.shaped_of_RefB (by kernel_rfl) (by kernel_rfl)) (by kernel_rfl) (by kernel_rfl) (by kernel_rfl) (door_met os _)) ?_
  intro W base args ds gs before hval0 hW hcnd hsz0 hL _
  have hval : ∀ (j : Nat) t v, Tryd.f8.params[j]? = some t → args[j]? = some v → Value.okWide Tryd.prog W .any base t v := hval0
  have hsz : (DataW.weightsEach Tryd.prog (Tryd.f8.params.toList ++ Rows.sumLongerSpec.plain.varTypes Tryd.prog) (ds ++ gs)).all (· ≤ reachBytes) = true := hsz0
  have hW' := hW
  obtain ⟨p, q, hA0, hV, rfl, hfz, hnd⟩ := hW
  have hA : DataW.TrodAll enc Tryd.prog W 0 (fun _ => true) true Tryd.f8.params.toList args.toList ds p := hA0
  rw [Tryd.params8] at hA hval hsz
  obtain ⟨v0, vs0, d0, ds0, p0, q0, hargs, rfl, rfl, h0, r0⟩ := trodAll_cons hA
  obtain ⟨rfl, rfl, rfl⟩ := trodAll_nil r0
  obtain rfl : args = #[v0] := by cases args; simp_all
  obtain ⟨rfl, rfl⟩ := trodVars_none hV
  obtain ⟨a0, rfl, rfl, rfl, w0⟩ := open_string Tryd.underlying9 (hval 0 9 v0 rfl rfl) h0
  have z0 : a0.data.toList.length ≤ reachBytes := sized_string hsz (j := 0) (t := 9) rfl rfl
  have y0 : a0.size ≤ 140737488351232 := z0
  clear hA0 hval0 hsz hsz0
  simp only [List.append_nil] at hW'
  refine (sumLonger_walk a0 W (half_of_laid hL) y0).mono fun e W' ⟨he, bel⟩ => ?_
  subst he
  exact ⟨_, rfl, _, _, _, [], [], [], hW', trodAll_mk1 (shut_bool Tryd.underlying4 _), (trodAll_cons_mk (shut_string Tryd.underlying9 w0) trodAll_mk0), rfl, bel.frame _, fun h => by cases h⟩

theorem over : Rows.SumLongerSaid :=
  OpenClaim.holds_of_wide 8 Tryd.f8 rfl rfl rfl rfl rfl rfl rfl ⟨rfl, rfl, rfl, rfl, rfl⟩ rfl rfl rfl rfl rfl (by kernel_rfl) Tryd.func8 (by kernel_rfl)
    (of_decide_eq_true (by kernel_rfl)) (by unfold Func.isWrapper; first | (rw [if_pos (by decide +kernel)]; kernel_rfl) | (rw [if_neg (by decide +kernel)]; exact ⟨rfl, rfl⟩))
    (fun os started H enc _ => lifted os started H enc)

theorem proved : Rows.SumLongerCardSaid :=
  Claim7.holds_tied_plain_at .later [] [.data] true (true, "d16a18b312e7b072c3f036a8e61b2d0280fd23f419d00274463700ddae1bba83") false
    over (fun _ h => by cases h) (by kernel_rfl) (fun _ h => by cases h) sumLonger_row_tie rfl ⟨rfl, rfl⟩ (by kernel_rfl) rfl
    (fun f fn hf hfn => by
      obtain rfl : f = 8 := Option.some.inj ((show Tryd.prog.funcNamed "sapwood/sapwoodlaw02.SumLonger" = some 8 by kernel_rfl).symm.trans hf) |>.symm
      obtain rfl : fn = Tryd.f8 := (Option.some.inj (Tryd.func8.symm.trans hfn)).symm
      exact ⟨by kernel_rfl, fun j t ht => by
        rw [Tryd.params8] at ht
        have hm : t ∈ [9] := by simpa using Array.mem_of_getElem? ht
        have hall : ([9].all fun u => !Tryd.prog.wantsStandIn u) = true := by kernel_rfl
        exact (show Tryd.prog.wantsStandIn t = false by simpa using List.all_eq_true.1 hall t hm)⟩)
    (by kernel_rfl)
#print axioms proved

end Go.Proofs.YtmdadofnopgbgaaDoor.sumLonger
