/-
  MetaRights: any meta page can be, or not, has its bytes, or none, and its slot, as the document says; no condition beyond the row's.
-/
import Derived.Test.YtcgmaiadipiegaaDoorMetaTools
import Derived.Test.YtcgmaiadipiegaaDoorMetaRefD
import Derived.Test.YtcgmaiadipiegaaDoorMetaOpen
import Derived.Test.YtcgmaiadipiegaaDoorSumLaid
import Derived.Test.YtcgmaiadipiegaaDoorTie
import Derived.Test.YtcgmaiadipiegaaDoorCards
import Derived.SevenTiedAt
namespace Go.Proofs.YtcgmaiadipiegaaDoor
open Go.RowKit Go.Sort
set_option linter.unusedVariables false
set_option linter.unusedSimpArgs false

/-- What Encode answers, both ways at once. -/
theorem menc_both {w : World} {m : MT} {e : Ending} {w' : World} (h : MEncPost w m e w') : ∃ A n c r L, e = .returned (.tuple #[.slice A n c, .int .i64 r]) ∧ Rd w' A L ∧ L.length = n ∧ L = (if okM m then encM m else []) ∧ r = (if okM m then 0 else 1) ∧ Below w.heap.size w w' := by
  obtain ⟨⟨hok, v, rfl, ho⟩ | ⟨hno, rfl⟩, hb⟩ := h
  · obtain ⟨A, n, c, rfl, hn, _, hr⟩ := ho.named
    exact ⟨A, n, c, 0, encM m, rfl, hr, hn, (if_pos hok).symm, (if_pos hok).symm, hb⟩
  · exact ⟨none, 0, 0, 1, [], rfl, Rd.nil _ _, rfl, (if_neg hno).symm, (if_neg hno).symm, hb⟩
theorem mrenc_both {w : World} {m : MT} {e : Ending} {w' : World} (h : MREncPost w m e w') : ∃ (s : ByteArray) (r : Int), e = .returned (.tuple #[.string s, .int .i64 r]) ∧ s.data.toList = (if okM m then encM m else []) ∧ r = (if okM m then 0 else 1) ∧ Below w.heap.size w w' := by
  obtain ⟨⟨hok, s, rfl, _, hl⟩ | ⟨hno, rfl⟩, hb⟩ := h
  · exact ⟨s, 0, rfl, by rw [if_pos hok, hl], (if_pos hok).symm, hb⟩
  · exact ⟨_, 1, rfl, by rw [if_neg hno], (if_neg hno).symm, hb⟩

set_option maxRecDepth 100000 in
set_option maxHeartbeats 2000000 in
theorem metaRights_walk (m : MT) (w : World) (hh : Half w) (hm : MI m) :
    Calls Tryd.prog 3 #[metaV m] w fun e w' => e = .returned (.bool true) ∧ Below w.heap.size w w' := by
  obtain ⟨x, y⟩ := m
  have henc := mtEncode_any ⟨x, y⟩
  have hrenc := mtRefEncode_any ⟨x, y⟩
  have hri := mtRight_any ⟨x, y⟩
  have hrr := mtRefRight_any ⟨x, y⟩
  have HM := Lib.hid hm
  have HI : Hid (I64 x) := Lib.hid hm.1
  clear hm
  unfold metaV at *
  simp only at *
  obtain ⟨W, hW⟩ : ∃ W, W = w.alloc (.cells #[.int .i64 x, .int .i64 y] 23) := ⟨_, rfl⟩
  have hbW : Below w.heap.size w W := by rw [hW]; exact (Below.refl _ _).alloc (Nat.le_refl _) _
  have hzW : W.heap[w.heap.size]? = some (.cells #[.int .i64 x, .int .i64 y] 23 (0, 0)) := by rw [hW]; exact heap_alloc_new w _
  have hsW : w.heap.size < W.heap.size := lt_of_block hzW
  have HZ : Hid (∀ w', Below W.heap.size W w' → w'.cell? ⟨w.heap.size, 0, none⟩ = some (.int .i64 x) ∧ w'.cell? ⟨w.heap.size, 1, none⟩ = some (.int .i64 y)) := fun w' h => by
    have hz := (h.block _ hsW).trans hzW
    exact ⟨cell_at hz 0 _ rfl, cell_at hz 1 _ rfl⟩
  have HW := Lib.hid hW
  clear hW hzW
  go_enter Tryd.func3, Tryd.ntmps3
  go_wp2_with fail
  rw [← HW.out]
  refine (mtAwake_any W (hh.below hbW)).mono ?_
  rintro e w1 ⟨rfl, hb1⟩
  obtain ⟨c0, c1⟩ := HZ.out w1 hb1
  go_wp2_with fail
  refine (henc w1 HM.out (hh.below (bthen hbW hb1))).mono ?_
  intro e w2 hpost
  obtain ⟨A, n, c, r, L, rfl, hr2, hn2, hL, hrr2, hb2⟩ := menc_both hpost
  have hb02 := bthen hb1 hb2
  clear c0 c1 hpost henc hb1 hb2
  obtain ⟨c0, c1⟩ := HZ.out w2 hb02
  have HL := Lib.hid hL
  have HR := Lib.hid hrr2
  have Hn := Lib.hid hn2
  clear hL hrr2 hn2
  go_wp2_with fail
  refine (hrenc w2 HM.out).mono ?_
  intro e w3 hpost
  obtain ⟨s, r', rfl, hs, hrs, hb3⟩ := mrenc_both hpost
  rw [← HR.out] at hrs
  rw [← HL.out] at hs
  subst hrs
  have hb03 := bthen hb02 hb3
  have hr3 : Rd w3 A s.data.toList := by rw [hs]; exact hr2.below hb3
  have hsn : s.size = n := by
    have : s.data.toList.length = n := by rw [hs, Hn.out]
    exact this
  subst hsn
  clear c0 c1 hpost hrenc hb3 hr2 hs HL HR Hn
  obtain ⟨U, hU⟩ : ∃ U, U = w3.drew := ⟨_, rfl⟩
  have hbU : Below W.heap.size W U := by rw [hU]; exact hb03.drew
  have hrU : Rd U A s.data.toList := by rw [hU]; exact hr3
  have hsU : w.heap.size < U.heap.size := Nat.lt_of_lt_of_le hsW hbU.size
  have q0 := cell_later (HZ.out U hbU).1 hsU
  have q1 := cell_later (HZ.out U hbU).2 hsU
  have hse : (s.toList == s.toList) = true := by simp
  have HU := Lib.hid hU
  clear hU hr3 hb03
  obtain ⟨bb, hbb⟩ : ∃ bb, bb = decide (okM ⟨x, y⟩) := ⟨_, rfl⟩
  rw [← hbb] at hri hrr
  clear hbb
  go_wp2
  refine wp_region_segs [([0, 2], 1), ([], 3), ([4, 5, 6, 7, 8, 9, 10, 11, 12, 13, 14, 15, 16, 17, 18, 20, 21], 19), ([], 22)] [23, 24, 25] (by kernel_rfl) (by kernel_rfl) (by kernel_rfl) (by kernel_rfl) (by intro c a d v w h; cases d <;> exact h) ?_
  rw [← HU.out]
  refine wpSegs_more ?_
  simp only [pick, List.getElem?_cons_zero, List.getElem?_cons_succ]
  repeat (first | go_big_quiet_step (fail) | quiet_step (fail))
  refine wpQuiet_nil ?_
  refine wpOp_heavy rfl (by rfl) (fun K hK => ?_)
  go_simp
  refine (hri U HM.out).mono ?_
  rintro e w4 ⟨rfl, hb4⟩
  refine hK _ _ hb4 ?_
  clear hK K q0 q1
  refine wpSegs_more ?_
  simp only [pick]
  refine wpQuiet_nil ?_
  refine wpOp_heavy rfl (by rfl) (fun K hK => ?_)
  go_simp
  refine (hrr w4 HM.out).mono ?_
  rintro e w5 ⟨rfl, hb5⟩
  have hb45 := bthen hb4 hb5
  have hbU5 := bthen hbU hb45
  have hs5 : w.heap.size < w5.heap.size := Nat.lt_of_lt_of_le hsW hbU5.size
  have q0 := cell_later (HZ.out w5 hbU5).1 hs5
  have cv := conv_str_later (c := c) (hrU.below hb45)
  refine hK _ _ hb5 ?_
  clear hK K hb4 hb5
  refine wpSegs_more ?_
  simp only [pick, List.getElem?_cons_zero, List.getElem?_cons_succ]
  repeat (first | go_big_quiet_step (fail) | quiet_step (fail))
  refine wpQuiet_nil ?_
  refine wpOp_heavy rfl (by rfl) (fun K hK => ?_)
  go_simp
  refine (mtSlot_any x w5 HI.out).mono ?_
  rintro e w6 ⟨rfl, rfl⟩
  refine hK _ _ (Below.refl _ _) ?_
  clear hK K
  refine wpSegs_more ?_
  simp only [pick]
  refine wpQuiet_nil ?_
  refine wpOp_heavy rfl (by rfl) (fun K hK => ?_)
  go_simp
  refine (mtRefSlot_any x w5 HI.out).mono ?_
  rintro e w6 ⟨rfl, rfl⟩
  refine hK _ _ (Below.refl _ _) ?_
  clear hK K
  refine wpSegs_last ?_
  simp only [pick, List.getElem?_cons_zero, List.getElem?_cons_succ]
  repeat (first | go_big_quiet_step (fail) | quiet_step (fail))
  refine wpQuiet_nil ?_
  go_wp2
  go_ret
  exact ⟨rfl, bthen hbW hbU5⟩

end Go.Proofs.YtcgmaiadipiegaaDoor

namespace Go.Proofs.YtcgmaiadipiegaaDoor.metaRights
open Go Go.ChangeShapes Go.WideShapes Go.ChangeAt Go.RowKit
open Go.ChangeMaps (open_string shut_string)
set_option linter.unusedVariables false

theorem own : ownKnob Tryd.prog.godebug = none := by kernel_rfl

theorem laidOut : laidOutB Tryd.prog = true := by kernel_rfl

set_option maxRecDepth 100000 in
theorem lifted (os : Os) (started : os.Started) (H : Type) (enc : TypeId × Value → H) :
    ReturnsInHanded {} Tryd.checked os 3 .any (fun w args => (Rows.metaRightsSpec.pre enc Tryd.prog Tryd.f3 [] false w args ∧ laidMetH Tryd.prog laidL w) ∧ sizedMet enc Tryd.prog Tryd.f3 (OpenSpec.ofChange Rows.metaRightsSpec) false w args)
      (Rows.metaRightsSpec.post enc Tryd.prog Tryd.f3 false true false false) := by
  refine returnsInHanded_of_change_and (C := Tryd.checked) (X := fun w _ => laidMetH Tryd.prog laidL w) (fun _ _ _ hh h => h.of_heap hh) own started (by kernel_rfl) Tryd.func3
    (ChangeSpec.witness_shaped (enc := enc) (C := Tryd.checked) (os := os) (X := fun w _ => laidMetH Tryd.prog laidL w) false (World.doorLaid Tryd.prog 14 os) #[.agg #[.int .i64 0, .int .i64 0]] 8 rfl (World.shaped_of_RefB (by kernel_rfl) (by kernel_rfl)) (by kernel_rfl) (by kernel_rfl) (by kernel_rfl) (door_met os _)) ?_
  intro W base args ds gs before hval0 hW hcnd hsz0 hL _
  have hval : ∀ (j : Nat) t v, Tryd.f3.params[j]? = some t → args[j]? = some v → Value.okWide Tryd.prog W .any base t v := hval0
  have hsz : (DataW.weightsEach Tryd.prog (Tryd.f3.params.toList ++ Rows.metaRightsSpec.plain.varTypes Tryd.prog) (ds ++ gs)).all (· ≤ reachBytes) = true := hsz0
  have hW' := hW
  obtain ⟨p, q, hA0, hV, rfl, hfz, hnd⟩ := hW
  have hA : DataW.TrodAll enc Tryd.prog W 0 (fun _ => true) true Tryd.f3.params.toList args.toList ds p := hA0
  rw [Tryd.params3] at hA hval hsz
  obtain ⟨v0, vs0, d0, ds0, p0, q0, hargs, rfl, rfl, h0, r0⟩ := trodAll_cons hA
  obtain ⟨rfl, rfl, rfl⟩ := trodAll_nil r0
  obtain rfl : args = #[v0] := by cases args; simp_all
  obtain ⟨rfl, rfl⟩ := trodVars_none hV
  have k0 := h0
  have lt0 : ∀ x ∈ p0, x.block < W.heap.size := by obtain ⟨m, hm⟩ := k0; exact DataW.trod_lt m _ _ _ hm
  obtain ⟨a0, rfl, w0⟩ := open_meta (hval 0 23 v0 rfl rfl) h0
  clear hA0 hval0 hsz hsz0
  refine (metaRights_walk a0 W (half_of_laid hL) w0).mono fun e W' ⟨he, bel⟩ => ?_
  subst he
  exact ⟨_, rfl, _, _, _, [], _, [], hW', trodAll_mk1 (shut_bool Tryd.underlying4 _), (trodAll_cons_mk (Below.trod laidOut (by kernel_rfl) (of_decide_eq_true (by kernel_rfl)) k0 bel lt0) trodAll_mk0), rfl, bel.frame _, fun h => by cases h⟩

theorem over : Rows.MetaRightsSaid :=
  OpenClaim.holds_of_wide 3 Tryd.f3 rfl rfl rfl rfl rfl rfl rfl ⟨rfl, rfl, rfl, rfl, rfl⟩ rfl rfl rfl rfl rfl (by kernel_rfl) Tryd.func3 (by kernel_rfl)
    (of_decide_eq_true (by kernel_rfl)) (by unfold Func.isWrapper; first | (rw [if_pos (by decide +kernel)]; kernel_rfl) | (rw [if_neg (by decide +kernel)]; exact ⟨rfl, rfl⟩))
    (fun os started H enc _ => lifted os started H enc)

theorem proved : Rows.MetaRightsCardSaid :=
  Claim7.holds_tied_plain_at .later [] [.data] true (true, "ff6571c9258cc5ae1a33e9450d62fd3a3d2abbbe87473920b80c14b5ab16f570") false
    over (fun _ h => by cases h) (by kernel_rfl) (fun _ h => by cases h) metaRights_row_tie rfl ⟨rfl, rfl⟩ (by kernel_rfl) rfl
    (fun f fn hf hfn => by
      obtain rfl : f = 3 := Option.some.inj ((show Tryd.prog.funcNamed "sapwood/sapwoodlaw06.MetaRights" = some 3 by kernel_rfl).symm.trans hf) |>.symm
      obtain rfl : fn = Tryd.f3 := (Option.some.inj (Tryd.func3.symm.trans hfn)).symm
      exact ⟨by kernel_rfl, fun j t ht => by
        rw [Tryd.params3] at ht
        have hm : t ∈ [23] := by simpa using Array.mem_of_getElem? ht
        have hall : ([23].all fun u => !Tryd.prog.wantsStandIn u) = true := by kernel_rfl
        exact (show Tryd.prog.wantsStandIn t = false by simpa using List.all_eq_true.1 hall t hm)⟩)
    (by kernel_rfl)
#print axioms proved

end Go.Proofs.YtcgmaiadipiegaaDoor.metaRights
