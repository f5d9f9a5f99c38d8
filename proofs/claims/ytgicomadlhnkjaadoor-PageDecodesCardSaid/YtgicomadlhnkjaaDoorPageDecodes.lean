/-
  PageDecodes: any bytes are the page that the document says, or have its error; for every string; no condition beyond the row's.
-/
import Derived.Test.YtgicomadlhnkjaaDoorPageRefD
import Derived.Test.YtgicomadlhnkjaaDoorPageSame
import Derived.Test.YtgicomadlhnkjaaDoorPageOpen
import Derived.Test.YtgicomadlhnkjaaDoorPageTools
import Derived.Test.YtgicomadlhnkjaaDoorSumLaid
import Derived.Test.YtgicomadlhnkjaaDoorTie
import Derived.Test.YtgicomadlhnkjaaDoorCards
import Derived.SevenTiedAt
namespace Go.Proofs.YtgicomadlhnkjaaDoor
open Go.RowKit Go.Sort
set_option linter.unusedVariables false

set_option maxHeartbeats 4000000 in
set_option maxRecDepth 100000 in
theorem pageDecodes_walk (b : ByteArray) (w : World) (hh : Half w) (hs : b.size ≤ 140737488351232) :
    Calls Tryd.prog 4 #[.string b] w fun e w' => e = .returned (.bool true) ∧ Below w.heap.size w w' := by
  obtain ⟨C, F, hcv, hF⟩ := bytes_of b
  by_cases hl : 5000 < b.size
  · go_enter Tryd.func4, Tryd.ntmps4
    go_wp2_with fail
    refine (awake_any w hh).mono ?_
    rintro e w1 ⟨rfl, hb1⟩
    go_wp2_with fail
    refine (awake_any w1 (hh.below hb1)).mono ?_
    rintro e w2 ⟨rfl, hb2⟩
    go_wp2
    go_ret
    exact ⟨rfl, bthen hb1 hb2⟩
  · go_enter Tryd.func4, Tryd.ntmps4
    go_wp2_with fail
    refine (awake_any w hh).mono ?_
    rintro e w1 ⟨rfl, hb1⟩
    obtain ⟨hr1, hc1, hb1'⟩ := hF w1
    have hb2 := bthen hb1 hb1'
    go_wp2_with fail
    refine (decode_any _ b.size (C w1) b.data.toList (F w1) (hh.below hb2) hr1 rfl hc1 (by omega)).mono ?_
    rintro e w3 ⟨q, A3, B3, a3, b3, r, rfl, hA3, hB3, hb3, hbd, h255, h255', hdec⟩
    have hb03 := bthen hb2 hb3
    have htold := told_any q
    have hsame := same_pg q q
    rw [decide_eq_true rfl] at hsame
    unfold PgPost at htold
    clear hF hb1 hb1' hb2 hb3 hr1 hc1
    unfold pageV at *
    obtain ⟨W4, hW4⟩ : ∃ W5, W5 = w3.alloc (.cells #[.int .i64 q.kind, .slice A3 q.cells.length a3, .slice B3 q.kids.length b3, .string q.piece, .int .i64 q.next] 35) := ⟨_, rfl⟩
    have hb34 : Below w3.heap.size w3 W4 := by rw [hW4]; exact (Below.refl _ _).alloc (Nat.le_refl _) _
    have hpb : ∀ w', Below W4.heap.size W4 w' → w'.cell? ⟨w3.heap.size, 0, none⟩ = some (.int .i64 q.kind) ∧ w'.cell? ⟨w3.heap.size, 1, none⟩ = some (.slice A3 q.cells.length a3) ∧ w'.cell? ⟨w3.heap.size, 2, none⟩ = some (.slice B3 q.kids.length b3) ∧ w'.cell? ⟨w3.heap.size, 3, none⟩ = some (.string q.piece) ∧ w'.cell? ⟨w3.heap.size, 4, none⟩ = some (.int .i64 q.next) := fun w' h => by
      rw [hW4] at h
      exact ⟨box_at h 0 _ rfl, box_at h 1 _ rfl, box_at h 2 _ rfl, box_at h 3 _ rfl, box_at h 4 _ rfl⟩
    have hsW4 : w3.heap.size < W4.heap.size := by rw [hW4]; simp
    have HP4 := Lib.hid hpb
    have HW4 := Lib.hid hW4
    clear hW4 hpb
    have hb04 := bthen hb03 hb34
    go_wp2_with fail
    rw [← HW4.out]
    refine (refDecode_any b W4 (by omega)).mono ?_
    rintro e w5 ⟨q', A5, B5, a5, b5, r', rfl, hA5, hB5, hb5, _, _, _, hdec'⟩
    obtain ⟨hqq, hrr⟩ := dec_unique hdec hdec'
    subst hqq
    subst hrr
    have hb05 := bthen hb04 hb5
    clear hdec hdec'
    unfold pageV
    obtain ⟨W6, hW6⟩ : ∃ W5, W5 = w5.alloc (.cells #[.int .i64 q.kind, .slice A5 q.cells.length a5, .slice B5 q.kids.length b5, .string q.piece, .int .i64 q.next] 25) := ⟨_, rfl⟩
    have hb56 : Below w5.heap.size w5 W6 := by rw [hW6]; exact (Below.refl _ _).alloc (Nat.le_refl _) _
    have hpb : ∀ w', Below W6.heap.size W6 w' → w'.cell? ⟨w5.heap.size, 0, none⟩ = some (.int .i64 q.kind) ∧ w'.cell? ⟨w5.heap.size, 1, none⟩ = some (.slice A5 q.cells.length a5) ∧ w'.cell? ⟨w5.heap.size, 2, none⟩ = some (.slice B5 q.kids.length b5) ∧ w'.cell? ⟨w5.heap.size, 3, none⟩ = some (.string q.piece) ∧ w'.cell? ⟨w5.heap.size, 4, none⟩ = some (.int .i64 q.next) := fun w' h => by
      rw [hW6] at h
      exact ⟨box_at h 0 _ rfl, box_at h 1 _ rfl, box_at h 2 _ rfl, box_at h 3 _ rfl, box_at h 4 _ rfl⟩
    have hsW6 : w5.heap.size < W6.heap.size := by rw [hW6]; simp
    have HP6 := Lib.hid hpb
    have HW6 := Lib.hid hW6
    clear hW6 hpb
    have hb06 := bthen hb05 hb56
    obtain ⟨U, hU⟩ : ∃ U, U = (w5.alloc (.cells #[.int .i64 q.kind, .slice A5 q.cells.length a5, .slice B5 q.kids.length b5, .string q.piece, .int .i64 q.next] 25)).drew := ⟨_, rfl⟩
    have hbU : Below W6.heap.size W6 U := by rw [hU, ← HW6.out]; exact (Below.refl _ _).drew
    have hb4U := bthen hb5 (bthen hb56 hbU)
    have hb3U := bthen hb34 hb4U
    have hb5U := bthen hb56 hbU
    have hb0U := bthen hb06 hbU
    have hlU3 : w3.heap.size < U.heap.size := Nat.lt_of_lt_of_le hsW4 hb4U.size
    have hlU5 : w5.heap.size < U.heap.size := Nat.lt_of_lt_of_le hsW6 hbU.size
    have HU := Lib.hid hU
    clear hU
    have qp0 : ∀ z : Dc.Past [] U, z.val.cell? ⟨w3.heap.size, 0, none⟩ = some (.int .i64 q.kind) := fun z => (z.ok.cell (by exact hlU3) (by simp)).trans (HP4.out _ hb4U).1
    have qp1 : ∀ z : Dc.Past [] U, z.val.cell? ⟨w3.heap.size, 1, none⟩ = some (.slice A3 q.cells.length a3) := fun z => (z.ok.cell (by exact hlU3) (by simp)).trans (HP4.out _ hb4U).2.1
    have qp2 : ∀ z : Dc.Past [] U, z.val.cell? ⟨w3.heap.size, 2, none⟩ = some (.slice B3 q.kids.length b3) := fun z => (z.ok.cell (by exact hlU3) (by simp)).trans (HP4.out _ hb4U).2.2.1
    have qp3 : ∀ z : Dc.Past [] U, z.val.cell? ⟨w3.heap.size, 3, none⟩ = some (.string q.piece) := fun z => (z.ok.cell (by exact hlU3) (by simp)).trans (HP4.out _ hb4U).2.2.2.1
    have qp4 : ∀ z : Dc.Past [] U, z.val.cell? ⟨w3.heap.size, 4, none⟩ = some (.int .i64 q.next) := fun z => (z.ok.cell (by exact hlU3) (by simp)).trans (HP4.out _ hb4U).2.2.2.2
    have qe0 : ∀ z : Dc.Past [] U, z.val.cell? ⟨w5.heap.size, 0, none⟩ = some (.int .i64 q.kind) := fun z => (z.ok.cell (by exact hlU5) (by simp)).trans (HP6.out _ hbU).1
    have qe1 : ∀ z : Dc.Past [] U, z.val.cell? ⟨w5.heap.size, 1, none⟩ = some (.slice A5 q.cells.length a5) := fun z => (z.ok.cell (by exact hlU5) (by simp)).trans (HP6.out _ hbU).2.1
    have qe2 : ∀ z : Dc.Past [] U, z.val.cell? ⟨w5.heap.size, 2, none⟩ = some (.slice B5 q.kids.length b5) := fun z => (z.ok.cell (by exact hlU5) (by simp)).trans (HP6.out _ hbU).2.2.1
    have qe3 : ∀ z : Dc.Past [] U, z.val.cell? ⟨w5.heap.size, 3, none⟩ = some (.string q.piece) := fun z => (z.ok.cell (by exact hlU5) (by simp)).trans (HP6.out _ hbU).2.2.2.1
    have qe4 : ∀ z : Dc.Past [] U, z.val.cell? ⟨w5.heap.size, 4, none⟩ = some (.int .i64 q.next) := fun z => (z.ok.cell (by exact hlU5) (by simp)).trans (HP6.out _ hbU).2.2.2.2
    go_wp2
    refine Dc.wp_region_segs 9 [] [([0, 2], 1), ([], 3)] [4, 5, 6, 7, 8, 9] (by kernel_rfl) (by kernel_rfl) (by kernel_rfl) (by kernel_rfl) (by kernel_rfl) (by intro c a d v w h; cases d <;> exact h) ?_
    rw [← HU.out]
    refine Dc.wpSegs_more ?_
    simp only [Dc.pick, List.getElem?_cons_zero, List.getElem?_cons_succ]
    repeat (first | go_big_quiet_step (fail) | quiet_step (fail))
    refine wpQuiet_nil ?_
    refine Dc.wpOp_heavy rfl (by rfl) (fun K hK => ?_)
    go_simp
    refine (htold A3 B3 a3 b3 U (hA3.below hb3U) (hB3.below hb3U) (by omega) (by omega)).mono ?_
    rintro e w7 ⟨A7, a7, B7, b7, rfl, hA7, hB7, hb7⟩
    refine hK _ _ (fun _ => Dc.But.of_below hb7) ?_
    clear hK K qp0 qp1 qp2 qp3 qp4 qe0 qe1 qe2 qe3 qe4
    have hb57 := bthen hb5U hb7
    refine Dc.wpSegs_more ?_
    simp only [Dc.pick]
    refine wpQuiet_nil ?_
    refine Dc.wpOp_heavy rfl (by rfl) (fun K hK => ?_)
    go_simp
    refine (hsame A7 B7 A5 B5 a7 b7 a5 b5 w7 hA7 hB7 (hA5.below hb57) (hB5.below hb57) (by omega) (by omega) (by omega) (by omega)).mono ?_
    rintro e w8 ⟨rfl, hb8⟩
    refine hK _ _ (fun _ => Dc.But.of_below hb8) ?_
    clear hK K
    have hb08 := bthen hb0U (bthen hb7 hb8)
    refine Dc.wpSegs_last ?_
    simp only [Dc.pick, List.getElem?_cons_zero, List.getElem?_cons_succ]
    repeat (first | go_big_quiet_step (fail) | quiet_step (fail))
    refine wpQuiet_nil ?_
    go_wp2
    go_ret
    exact ⟨rfl, hb08⟩

end Go.Proofs.YtgicomadlhnkjaaDoor

namespace Go.Proofs.YtgicomadlhnkjaaDoor.pageDecodes
open Go Go.ChangeShapes Go.WideShapes Go.ChangeAt Go.RowKit
open Go.ChangeMaps (open_string shut_string)
set_option linter.unusedVariables false

theorem own : ownKnob Tryd.prog.godebug = none := by kernel_rfl

set_option maxRecDepth 100000 in
theorem lifted (os : Os) (started : os.Started) (H : Type) (enc : TypeId × Value → H) :
    ReturnsInHanded {} Tryd.checked os 4 .any (fun w args => (Rows.pageDecodesSpec.pre enc Tryd.prog Tryd.f4 [] false w args ∧ laidMetH Tryd.prog laidL w) ∧ sizedMet enc Tryd.prog Tryd.f4 (OpenSpec.ofChange Rows.pageDecodesSpec) false w args)
      (Rows.pageDecodesSpec.post enc Tryd.prog Tryd.f4 false true false false) := by
  refine returnsInHanded_of_change_and (C := Tryd.checked) (X := fun w _ => laidMetH Tryd.prog laidL w) (fun _ _ _ hh h => h.of_heap hh) own started (by kernel_rfl) Tryd.func4
    (ChangeSpec.witness_shaped (enc := enc) (C := Tryd.checked) (os := os) (X := fun w _ => laidMetH Tryd.prog laidL w) false (World.doorLaid Tryd.prog 14 os) #[.string ByteArray.empty] 8 rfl (World.shaped_of_RefB (by kernel_rfl) (by kernel_rfl)) (by kernel_rfl) (by kernel_rfl) (by kernel_rfl) (door_met os _)) ?_
  intro W base args ds gs before hval0 hW hcnd hsz0 hL _
  have hval : ∀ (j : Nat) t v, Tryd.f4.params[j]? = some t → args[j]? = some v → Value.okWide Tryd.prog W .any base t v := hval0
  have hsz : (DataW.weightsEach Tryd.prog (Tryd.f4.params.toList ++ Rows.pageDecodesSpec.plain.varTypes Tryd.prog) (ds ++ gs)).all (· ≤ reachBytes) = true := hsz0
  have hW' := hW
  obtain ⟨p, q, hA0, hV, rfl, hfz, hnd⟩ := hW
  have hA : DataW.TrodAll enc Tryd.prog W 0 (fun _ => true) true Tryd.f4.params.toList args.toList ds p := hA0
  rw [Tryd.params4] at hA hval hsz
  obtain ⟨v0, vs0, d0, ds0, p0, q0, hargs, rfl, rfl, h0, r0⟩ := trodAll_cons hA
  obtain ⟨rfl, rfl, rfl⟩ := trodAll_nil r0
  obtain rfl : args = #[v0] := by cases args; simp_all
  obtain ⟨rfl, rfl⟩ := trodVars_none hV
  obtain ⟨a0, rfl, rfl, rfl, w0⟩ := open_string Tryd.underlying9 (hval 0 9 v0 rfl rfl) h0
  have z0 : a0.data.toList.length ≤ reachBytes := sized_string hsz (j := 0) (t := 9) rfl rfl
  have y0 : a0.size ≤ 140737488351232 := z0
  clear hA0 hval0 hsz hsz0
  simp only [List.append_nil] at hW'
  refine (pageDecodes_walk a0 W (half_of_laid hL) y0).mono fun e W' ⟨he, bel⟩ => ?_
  subst he
  exact ⟨_, rfl, _, _, _, [], [], [], hW', trodAll_mk1 (shut_bool Tryd.underlying4 _), (trodAll_cons_mk (shut_string Tryd.underlying9 w0) trodAll_mk0), rfl, bel.frame _, fun h => by cases h⟩

theorem over : Rows.PageDecodesSaid :=
  OpenClaim.holds_of_wide 4 Tryd.f4 rfl rfl rfl rfl rfl rfl rfl ⟨rfl, rfl, rfl, rfl, rfl⟩ rfl rfl rfl rfl rfl (by kernel_rfl) Tryd.func4 (by kernel_rfl)
    (of_decide_eq_true (by kernel_rfl)) (by unfold Func.isWrapper; first | (rw [if_pos (by decide +kernel)]; kernel_rfl) | (rw [if_neg (by decide +kernel)]; exact ⟨rfl, rfl⟩))
    (fun os started H enc _ => lifted os started H enc)

theorem proved : Rows.PageDecodesCardSaid :=
  Claim7.holds_tied_plain_at .later [] [.data] true (true, "4e616fa6175ec80d00b51e5fb52bf1d6326841f81c3ae43d4e7153953247007d") false
    over (fun _ h => by cases h) (by kernel_rfl) (fun _ h => by cases h) pageDecodes_row_tie rfl ⟨rfl, rfl⟩ (by kernel_rfl) rfl
    (fun f fn hf hfn => by
      obtain rfl : f = 4 := Option.some.inj ((show Tryd.prog.funcNamed "sapwood/sapwoodlaw04.PageDecodes" = some 4 by kernel_rfl).symm.trans hf) |>.symm
      obtain rfl : fn = Tryd.f4 := (Option.some.inj (Tryd.func4.symm.trans hfn)).symm
      exact ⟨by kernel_rfl, fun j t ht => by
        rw [Tryd.params4] at ht
        have hm : t ∈ [9] := by simpa using Array.mem_of_getElem? ht
        have hall : ([9].all fun u => !Tryd.prog.wantsStandIn u) = true := by kernel_rfl
        exact (show Tryd.prog.wantsStandIn t = false by simpa using List.all_eq_true.1 hall t hm)⟩)
    (by kernel_rfl)
#print axioms proved

end Go.Proofs.YtgicomadlhnkjaaDoor.pageDecodes
