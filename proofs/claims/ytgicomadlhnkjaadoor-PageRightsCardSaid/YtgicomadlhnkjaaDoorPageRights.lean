/-
  PageRights: any page can be, or not, and has the bytes that the document says, or none; for every page; no condition beyond the row's.
-/
import Derived.Test.YtgicomadlhnkjaaDoorPageRefB
import Derived.Test.YtgicomadlhnkjaaDoorPageOpen
import Derived.Test.YtgicomadlhnkjaaDoorPageTools
import Derived.Test.YtgicomadlhnkjaaDoorSumLaid
import Derived.Test.YtgicomadlhnkjaaDoorTie
import Derived.Test.YtgicomadlhnkjaaDoorCards
import Derived.SevenTiedAt
namespace Go.Proofs.YtgicomadlhnkjaaDoor
open Go.RowKit Go.Sort
set_option linter.unusedVariables false

set_option maxHeartbeats 4000000 in
set_option maxRecDepth 100000 in
theorem pageRights_walk (p : PP) (A B : Option Addr) (a b : Nat) (w : World) (hh : Half w) (hA : Ls pcC w A p.cells) (hB : Ls pcK w B p.kids) (hp : ArgP p) :
    Calls Tryd.prog 3 #[pageV p A a B b] w fun e w' => e = .returned (.bool true) ∧ Below w.heap.size w w' := by
  have hfew := few_any p
  have hmade := made_any p
  have henc := encode_any p
  have hright := right_any p
  have hrefE := refEncode_any p
  have hrefR := refRight_any p
  have hf1' : FewP p → p.cells.length ≤ 1000 := fun h => by have := h.1; omega
  have hf2' : FewP p → p.kids.length ≤ 1000 := fun h => by have := h.2.1; omega
  have hbd' : FewP p → Bd p := fun h => hp.bd h
  unfold PgPost at hmade
  by_cases hok : okPage p
  · rw [show refEncS p = mk (encL p) from if_pos hok, show refEncN p = 0 from if_pos hok] at hrefE
    obtain ⟨M, hM⟩ : ∃ M, M = mk (encL p) := ⟨_, rfl⟩
    rw [← hM] at hrefE
    have HM : Hid (M = ⟨(encL p).toArray⟩) := hM
    clear hM
    unfold pageV at *
    generalize hgn : p.cells.length = n at *
    generalize hgm : p.kids.length = m at *
    generalize hpk : p.kind = pk at *
    generalize hpp : p.piece = pp at *
    generalize hpn : p.next = pn at *
    obtain ⟨W, hW⟩ : ∃ W, W = w.alloc (.cells #[.int .i64 pk, .slice A n a, .slice B m b, .string pp, .int .i64 pn] 25) := ⟨_, rfl⟩
    have hbW : Below w.heap.size w W := by rw [hW]; exact (Below.refl _ _).alloc (Nat.le_refl _) _
    have hsW : w.heap.size < W.heap.size := by rw [hW]; simp
    have hcc : ∀ w', Below W.heap.size W w' → w'.cell? ⟨w.heap.size, 0, none⟩ = some (.int .i64 pk) ∧ w'.cell? ⟨w.heap.size, 1, none⟩ = some (.slice A n a) ∧ w'.cell? ⟨w.heap.size, 2, none⟩ = some (.slice B m b) ∧ w'.cell? ⟨w.heap.size, 3, none⟩ = some (.string pp) ∧ w'.cell? ⟨w.heap.size, 4, none⟩ = some (.int .i64 pn) := fun w' h => by
      rw [hW] at h
      exact ⟨box_at h 0 _ rfl, box_at h 1 _ rfl, box_at h 2 _ rfl, box_at h 3 _ rfl, box_at h 4 _ rfl⟩
    have HCC := Lib.hid hcc
    have HW := Lib.hid hW
    clear hW hcc hgn hgm hpk hpp hpn
    go_enter Tryd.func3, Tryd.ntmps3
    go_wp2_with fail
    rw [← HW.out]
    refine (awake_any W (hh.below hbW)).mono ?_
    rintro e w1 ⟨rfl, hb1⟩
    obtain ⟨ca0, ca1, ca2, ca3, ca4⟩ := HCC.out _ hb1
    have hbw1 := bthen hbW hb1
    go_wp2_with fail
    refine (hfew A B a b w1 (hA.below hbw1) (hB.below hbw1) hp).mono ?_
    rintro e w2 ⟨rfl, hb2⟩
    have hb12 := bthen hb1 hb2
    have hbw2 := bthen hbW hb12
    clear ca0 ca1 ca2 ca3 ca4
    by_cases hf : FewP p
    · have hf1 := hf1' hf
      have hf2 := hf2' hf
      have hbd := hbd' hf
      clear hf1' hf2' hbd'
      rw [decide_eq_true hf]
      obtain ⟨cb0, cb1, cb2, cb3, cb4⟩ := HCC.out _ hb12
      go_wp2_with fail
      refine (hmade A B a b w2 (hA.below hbw2) (hB.below hbw2) hf1 hf2).mono ?_
      rintro e w3 ⟨A3, a3, B3, b3, rfl, hA3, hB3, hb3⟩
      have hb13 := bthen hb12 hb3
      have hbw3 := bthen hbW hb13
      clear cb0 cb1 cb2 cb3 cb4
      go_wp2_with fail
      refine (henc A3 B3 a3 b3 w3 hA3 hB3 hbd (hh.below hbw3)).mono ?_
      intro e w4 hpost
      obtain ⟨v4, rfl, ho4, hb4⟩ := enc_ok hpost hok
      obtain ⟨A4, n4, c4', rfl, hn4, hc4, hr4⟩ := ho4.named
      have Hn4 := Lib.hid hn4
      have HR4 := Lib.hid hr4
      clear hn4 ho4 hr4
      have hb14 := bthen hb13 hb4
      have hbw4 := bthen hbW hb14
      obtain ⟨cd0, cd1, cd2, cd3, cd4⟩ := HCC.out _ hb14
      go_wp2_with fail
      refine (hrefE A B a b w4 (hA.below hbw4) (hB.below hbw4) hbd).mono ?_
      rintro e w6 ⟨rfl, hb46⟩
      have hb60 := bthen hb14 hb46
      have hbw6 := bthen hbW hb60
      clear cd0 cd1 cd2 cd3 cd4
      obtain ⟨U, hU⟩ : ∃ U, U = w6.drew := ⟨_, rfl⟩
      have hbU : Below w6.heap.size w6 U := by rw [hU]; exact (Below.refl _ _).drew
      have hbU0 := bthen hb60 hbU
      have hbUw := bthen hbW hbU0
      have hlU : w.heap.size < U.heap.size := Nat.lt_of_lt_of_le hsW hbU0.size
      have HU := Lib.hid hU
      clear hU
      have qb0 : ∀ q : Dc.Past [] U, q.val.cell? ⟨w.heap.size, 0, none⟩ = some (.int .i64 pk) := fun q => (q.ok.cell (by exact hlU) (by simp)).trans (HCC.out _ hbU0).1
      have qb1 : ∀ q : Dc.Past [] U, q.val.cell? ⟨w.heap.size, 1, none⟩ = some (.slice A n a) := fun q => (q.ok.cell (by exact hlU) (by simp)).trans (HCC.out _ hbU0).2.1
      have qb2 : ∀ q : Dc.Past [] U, q.val.cell? ⟨w.heap.size, 2, none⟩ = some (.slice B m b) := fun q => (q.ok.cell (by exact hlU) (by simp)).trans (HCC.out _ hbU0).2.2.1
      have qb3 : ∀ q : Dc.Past [] U, q.val.cell? ⟨w.heap.size, 3, none⟩ = some (.string pp) := fun q => (q.ok.cell (by exact hlU) (by simp)).trans (HCC.out _ hbU0).2.2.2.1
      have qb4 : ∀ q : Dc.Past [] U, q.val.cell? ⟨w.heap.size, 4, none⟩ = some (.int .i64 pn) := fun q => (q.ok.cell (by exact hlU) (by simp)).trans (HCC.out _ hbU0).2.2.2.2
      have qcv : ∀ q : Dc.Past [] U, (convert 28 9 (.slice A4 n4 c4')).run Tryd.prog q.val = .ok (.string M) q.val := fun q => by
        have hr : Rd q.val A4 (encL p) := rd_past q (HR4.out.below (bthen hb46 hbU))
        rw [HM.out]
        exact conv_rd hr Hn4.out
      have hse := same_eq M M
      rw [decide_eq_true rfl] at hse
      go_wp2
      refine Dc.wp_region_segs 17 [] [([0, 3], 1), ([], 2), ([], 4)] [5, 6, 7, 8, 9, 10, 11, 12, 13, 14, 15, 16, 17] (by kernel_rfl) (by kernel_rfl) (by kernel_rfl) (by kernel_rfl) (by kernel_rfl) (by intro c a d v w h; cases d <;> exact h) ?_
      rw [← HU.out]
      refine Dc.wpSegs_more ?_
      simp only [Dc.pick, List.getElem?_cons_zero, List.getElem?_cons_succ]
      repeat (first | go_big_quiet_step (fail) | quiet_step (fail))
      refine wpQuiet_nil ?_
      refine Dc.wpOp_heavy rfl (by rfl) (fun K hK => ?_)
      go_simp
      refine (hmade A B a b U (hA.below hbUw) (hB.below hbUw) hf1 hf2).mono ?_
      rintro e w7 ⟨A7, a7, B7, b7, rfl, hA7, hB7, hb7⟩
      refine hK _ _ (fun _ => Dc.But.of_below hb7) ?_
      clear hK K qb0 qb1 qb2 qb3 qb4
      refine Dc.wpSegs_more ?_
      simp only [Dc.pick]
      refine wpQuiet_nil ?_
      refine Dc.wpOp_heavy rfl (by rfl) (fun K hK => ?_)
      go_simp
      refine (hright A7 B7 a7 b7 w7 hA7 hB7 hbd).mono ?_
      rintro e w8 ⟨rfl, hb8⟩
      rw [decide_eq_true hok]
      refine hK _ _ (fun _ => Dc.But.of_below hb8) ?_
      clear hK K
      have hbw8 := bthen hbUw (bthen hb7 hb8)
      refine Dc.wpSegs_more ?_
      simp only [Dc.pick]
      refine wpQuiet_nil ?_
      refine Dc.wpOp_heavy rfl (by rfl) (fun K hK => ?_)
      go_simp
      refine (hrefR A B a b w8 (hA.below hbw8) (hB.below hbw8) hbd).mono ?_
      rintro e w9 ⟨rfl, hb9⟩
      rw [decide_eq_true hok]
      refine hK _ _ (fun _ => Dc.But.of_below hb9) ?_
      clear hK K
      have hbw9 := bthen hbw8 hb9
      have qcv9 : ∀ q : Dc.Past [] w9, (convert 28 9 (.slice A4 n4 c4')).run Tryd.prog q.val = .ok (.string M) q.val := fun q => qcv ⟨q.val, (Dc.But.of_below (bthen hb7 (bthen hb8 hb9))).trans q.ok⟩
      clear qcv
      refine Dc.wpSegs_last ?_
      simp only [Dc.pick, List.getElem?_cons_zero, List.getElem?_cons_succ]
      repeat (first | go_big_quiet_step (fail) | quiet_step (fail))
      refine wpQuiet_nil ?_
      go_wp2
      go_ret
      exact ⟨rfl, hbw9⟩
    · rw [decide_eq_false hf]
      go_wp2_with fail
      refine (awake_any w2 (hh.below hbw2)).mono ?_
      rintro e w3 ⟨rfl, hb3⟩
      have hbw3 := bthen hbw2 hb3
      go_wp2
      go_ret
      exact ⟨rfl, hbw3⟩
  · rw [show refEncS p = ByteArray.empty from if_neg hok, show refEncN p = 1 from if_neg hok] at hrefE
    unfold pageV at *
    generalize hgn : p.cells.length = n at *
    generalize hgm : p.kids.length = m at *
    generalize hpk : p.kind = pk at *
    generalize hpp : p.piece = pp at *
    generalize hpn : p.next = pn at *
    obtain ⟨W, hW⟩ : ∃ W, W = w.alloc (.cells #[.int .i64 pk, .slice A n a, .slice B m b, .string pp, .int .i64 pn] 25) := ⟨_, rfl⟩
    have hbW : Below w.heap.size w W := by rw [hW]; exact (Below.refl _ _).alloc (Nat.le_refl _) _
    have hsW : w.heap.size < W.heap.size := by rw [hW]; simp
    have hcc : ∀ w', Below W.heap.size W w' → w'.cell? ⟨w.heap.size, 0, none⟩ = some (.int .i64 pk) ∧ w'.cell? ⟨w.heap.size, 1, none⟩ = some (.slice A n a) ∧ w'.cell? ⟨w.heap.size, 2, none⟩ = some (.slice B m b) ∧ w'.cell? ⟨w.heap.size, 3, none⟩ = some (.string pp) ∧ w'.cell? ⟨w.heap.size, 4, none⟩ = some (.int .i64 pn) := fun w' h => by
      rw [hW] at h
      exact ⟨box_at h 0 _ rfl, box_at h 1 _ rfl, box_at h 2 _ rfl, box_at h 3 _ rfl, box_at h 4 _ rfl⟩
    have HCC := Lib.hid hcc
    have HW := Lib.hid hW
    clear hW hcc hgn hgm hpk hpp hpn
    go_enter Tryd.func3, Tryd.ntmps3
    go_wp2_with fail
    rw [← HW.out]
    refine (awake_any W (hh.below hbW)).mono ?_
    rintro e w1 ⟨rfl, hb1⟩
    obtain ⟨ca0, ca1, ca2, ca3, ca4⟩ := HCC.out _ hb1
    have hbw1 := bthen hbW hb1
    go_wp2_with fail
    refine (hfew A B a b w1 (hA.below hbw1) (hB.below hbw1) hp).mono ?_
    rintro e w2 ⟨rfl, hb2⟩
    have hb12 := bthen hb1 hb2
    have hbw2 := bthen hbW hb12
    clear ca0 ca1 ca2 ca3 ca4
    by_cases hf : FewP p
    · have hf1 := hf1' hf
      have hf2 := hf2' hf
      have hbd := hbd' hf
      clear hf1' hf2' hbd'
      rw [decide_eq_true hf]
      obtain ⟨cb0, cb1, cb2, cb3, cb4⟩ := HCC.out _ hb12
      go_wp2_with fail
      refine (hmade A B a b w2 (hA.below hbw2) (hB.below hbw2) hf1 hf2).mono ?_
      rintro e w3 ⟨A3, a3, B3, b3, rfl, hA3, hB3, hb3⟩
      have hb13 := bthen hb12 hb3
      have hbw3 := bthen hbW hb13
      clear cb0 cb1 cb2 cb3 cb4
      go_wp2_with fail
      refine (henc A3 B3 a3 b3 w3 hA3 hB3 hbd (hh.below hbw3)).mono ?_
      intro e w4 hpost
      obtain ⟨rfl, hb4⟩ := enc_no hpost hok
      have hb14 := bthen hb13 hb4
      have hbw4 := bthen hbW hb14
      obtain ⟨cd0, cd1, cd2, cd3, cd4⟩ := HCC.out _ hb14
      go_wp2_with fail
      refine (hrefE A B a b w4 (hA.below hbw4) (hB.below hbw4) hbd).mono ?_
      rintro e w6 ⟨rfl, hb46⟩
      have hb60 := bthen hb14 hb46
      have hbw6 := bthen hbW hb60
      clear cd0 cd1 cd2 cd3 cd4
      obtain ⟨U, hU⟩ : ∃ U, U = w6.drew := ⟨_, rfl⟩
      have hbU : Below w6.heap.size w6 U := by rw [hU]; exact (Below.refl _ _).drew
      have hbU0 := bthen hb60 hbU
      have hbUw := bthen hbW hbU0
      have hlU : w.heap.size < U.heap.size := Nat.lt_of_lt_of_le hsW hbU0.size
      have HU := Lib.hid hU
      clear hU
      have qb0 : ∀ q : Dc.Past [] U, q.val.cell? ⟨w.heap.size, 0, none⟩ = some (.int .i64 pk) := fun q => (q.ok.cell (by exact hlU) (by simp)).trans (HCC.out _ hbU0).1
      have qb1 : ∀ q : Dc.Past [] U, q.val.cell? ⟨w.heap.size, 1, none⟩ = some (.slice A n a) := fun q => (q.ok.cell (by exact hlU) (by simp)).trans (HCC.out _ hbU0).2.1
      have qb2 : ∀ q : Dc.Past [] U, q.val.cell? ⟨w.heap.size, 2, none⟩ = some (.slice B m b) := fun q => (q.ok.cell (by exact hlU) (by simp)).trans (HCC.out _ hbU0).2.2.1
      have qb3 : ∀ q : Dc.Past [] U, q.val.cell? ⟨w.heap.size, 3, none⟩ = some (.string pp) := fun q => (q.ok.cell (by exact hlU) (by simp)).trans (HCC.out _ hbU0).2.2.2.1
      have qb4 : ∀ q : Dc.Past [] U, q.val.cell? ⟨w.heap.size, 4, none⟩ = some (.int .i64 pn) := fun q => (q.ok.cell (by exact hlU) (by simp)).trans (HCC.out _ hbU0).2.2.2.2
      have qcv : ∀ q : Dc.Past [] U, (convert 28 9 (.slice none 0 0)).run Tryd.prog q.val = .ok (.string ByteArray.empty) q.val := fun q => conv_rd (l := []) (Rd.nil _ _) rfl
      go_wp2
      refine Dc.wp_region_segs 17 [] [([0, 3], 1), ([], 2), ([], 4)] [5, 6, 7, 8, 9, 10, 11, 12, 13, 14, 15, 16, 17] (by kernel_rfl) (by kernel_rfl) (by kernel_rfl) (by kernel_rfl) (by kernel_rfl) (by intro c a d v w h; cases d <;> exact h) ?_
      rw [← HU.out]
      refine Dc.wpSegs_more ?_
      simp only [Dc.pick, List.getElem?_cons_zero, List.getElem?_cons_succ]
      repeat (first | go_big_quiet_step (fail) | quiet_step (fail))
      refine wpQuiet_nil ?_
      refine Dc.wpOp_heavy rfl (by rfl) (fun K hK => ?_)
      go_simp
      refine (hmade A B a b U (hA.below hbUw) (hB.below hbUw) hf1 hf2).mono ?_
      rintro e w7 ⟨A7, a7, B7, b7, rfl, hA7, hB7, hb7⟩
      refine hK _ _ (fun _ => Dc.But.of_below hb7) ?_
      clear hK K qb0 qb1 qb2 qb3 qb4
      refine Dc.wpSegs_more ?_
      simp only [Dc.pick]
      refine wpQuiet_nil ?_
      refine Dc.wpOp_heavy rfl (by rfl) (fun K hK => ?_)
      go_simp
      refine (hright A7 B7 a7 b7 w7 hA7 hB7 hbd).mono ?_
      rintro e w8 ⟨rfl, hb8⟩
      rw [decide_eq_false hok]
      refine hK _ _ (fun _ => Dc.But.of_below hb8) ?_
      clear hK K
      have hbw8 := bthen hbUw (bthen hb7 hb8)
      refine Dc.wpSegs_more ?_
      simp only [Dc.pick]
      refine wpQuiet_nil ?_
      refine Dc.wpOp_heavy rfl (by rfl) (fun K hK => ?_)
      go_simp
      refine (hrefR A B a b w8 (hA.below hbw8) (hB.below hbw8) hbd).mono ?_
      rintro e w9 ⟨rfl, hb9⟩
      rw [decide_eq_false hok]
      refine hK _ _ (fun _ => Dc.But.of_below hb9) ?_
      clear hK K
      have hbw9 := bthen hbw8 hb9
      have qcv9 : ∀ q : Dc.Past [] w9, (convert 28 9 (.slice none 0 0)).run Tryd.prog q.val = .ok (.string ByteArray.empty) q.val := fun q => qcv ⟨q.val, (Dc.But.of_below (bthen hb7 (bthen hb8 hb9))).trans q.ok⟩
      clear qcv
      refine Dc.wpSegs_last ?_
      simp only [Dc.pick, List.getElem?_cons_zero, List.getElem?_cons_succ]
      repeat (first | go_big_quiet_step (fail) | quiet_step (fail))
      refine wpQuiet_nil ?_
      go_wp2
      go_ret
      exact ⟨rfl, hbw9⟩
    · rw [decide_eq_false hf]
      go_wp2_with fail
      refine (awake_any w2 (hh.below hbw2)).mono ?_
      rintro e w3 ⟨rfl, hb3⟩
      have hbw3 := bthen hbw2 hb3
      go_wp2
      go_ret
      exact ⟨rfl, hbw3⟩

end Go.Proofs.YtgicomadlhnkjaaDoor

namespace Go.Proofs.YtgicomadlhnkjaaDoor.pageRights
open Go Go.ChangeShapes Go.WideShapes Go.ChangeAt Go.RowKit
open Go.ChangeMaps (open_string shut_string)
set_option linter.unusedVariables false

theorem own : ownKnob Tryd.prog.godebug = none := by kernel_rfl

theorem laidOut : laidOutB Tryd.prog = true := by kernel_rfl

set_option maxRecDepth 100000 in
theorem lifted (os : Os) (started : os.Started) (H : Type) (enc : TypeId × Value → H) :
    ReturnsInHanded {} Tryd.checked os 3 .any (fun w args => (Rows.pageRightsSpec.pre enc Tryd.prog Tryd.f3 [] false w args ∧ laidMetH Tryd.prog laidL w) ∧ sizedMet enc Tryd.prog Tryd.f3 (OpenSpec.ofChange Rows.pageRightsSpec) false w args)
      (Rows.pageRightsSpec.post enc Tryd.prog Tryd.f3 false true false false) := by
  refine returnsInHanded_of_change_and (C := Tryd.checked) (X := fun w _ => laidMetH Tryd.prog laidL w) (fun _ _ _ hh h => h.of_heap hh) own started (by kernel_rfl) Tryd.func3
    (ChangeSpec.witness_shaped (enc := enc) (C := Tryd.checked) (os := os) (X := fun w _ => laidMetH Tryd.prog laidL w) false (World.doorLaid Tryd.prog 14 os) #[.agg #[.int .i64 0, .slice none 0 0, .slice none 0 0, .string ByteArray.empty, .int .i64 0]] 8 rfl (World.shaped_of_RefB (by kernel_rfl) (by kernel_rfl)) (by kernel_rfl) (by kernel_rfl) (by kernel_rfl) (door_met os _)) ?_
  intro W base args ds gs before hval0 hW hcnd hsz0 hL _
  have hval : ∀ (j : Nat) t v, Tryd.f3.params[j]? = some t → args[j]? = some v → Value.okWide Tryd.prog W .any base t v := hval0
  have hsz : (DataW.weightsEach Tryd.prog (Tryd.f3.params.toList ++ Rows.pageRightsSpec.plain.varTypes Tryd.prog) (ds ++ gs)).all (· ≤ reachBytes) = true := hsz0
  have hW' := hW
  obtain ⟨p, q, hA0, hV, rfl, hfz, hnd⟩ := hW
  have hA : DataW.TrodAll enc Tryd.prog W 0 (fun _ => true) true Tryd.f3.params.toList args.toList ds p := hA0
  rw [Tryd.params3] at hA hval hsz
  obtain ⟨v0, vs0, d0, ds0, p0, q0, hargs, rfl, rfl, h0, r0⟩ := trodAll_cons hA
  obtain ⟨rfl, rfl, rfl⟩ := trodAll_nil r0
  obtain rfl : args = #[v0] := by cases args; simp_all
  obtain ⟨rfl, rfl⟩ := trodVars_none hV
  have k0 := h0
  have lt0 : ∀ x ∈ p0, x.block < W.heap.size := by obtain ⟨m, hm⟩ := k0; exact DataW.trod_lt m _ _ _ hm
  obtain ⟨a0, A0, B0, ca0, cb0, rfl, la0, lb0, w0⟩ := open_page (hval 0 25 v0 rfl rfl) h0 (fun m hm => of_decide_eq_true (List.all_eq_true.1 hsz _ (DataW.weights_mem_each (j := 0) (t := 25) rfl rfl m hm)))
  clear hA0 hval0 hsz hsz0
  refine (pageRights_walk a0 A0 B0 ca0 cb0 W (half_of_laid hL) la0 lb0 w0).mono fun e W' ⟨he, bel⟩ => ?_
  subst he
  exact ⟨_, rfl, _, _, _, [], _, [], hW', trodAll_mk1 (shut_bool Tryd.underlying4 _), (trodAll_cons_mk (Below.trod laidOut (by kernel_rfl) (of_decide_eq_true (by kernel_rfl)) k0 bel lt0) trodAll_mk0), rfl, bel.frame _, fun h => by cases h⟩

theorem over : Rows.PageRightsSaid :=
  OpenClaim.holds_of_wide 3 Tryd.f3 rfl rfl rfl rfl rfl rfl rfl ⟨rfl, rfl, rfl, rfl, rfl⟩ rfl rfl rfl rfl rfl (by kernel_rfl) Tryd.func3 (by kernel_rfl)
    (of_decide_eq_true (by kernel_rfl)) (by unfold Func.isWrapper; first | (rw [if_pos (by decide +kernel)]; kernel_rfl) | (rw [if_neg (by decide +kernel)]; exact ⟨rfl, rfl⟩))
    (fun os started H enc _ => lifted os started H enc)

theorem proved : Rows.PageRightsCardSaid :=
  Claim7.holds_tied_plain_at .later [] [.data] true (true, "4e616fa6175ec80d00b51e5fb52bf1d6326841f81c3ae43d4e7153953247007d") false
    over (fun _ h => by cases h) (by kernel_rfl) (fun _ h => by cases h) pageRights_row_tie rfl ⟨rfl, rfl⟩ (by kernel_rfl) rfl
    (fun f fn hf hfn => by
      obtain rfl : f = 3 := Option.some.inj ((show Tryd.prog.funcNamed "sapwood/sapwoodlaw04.PageRights" = some 3 by kernel_rfl).symm.trans hf) |>.symm
      obtain rfl : fn = Tryd.f3 := (Option.some.inj (Tryd.func3.symm.trans hfn)).symm
      exact ⟨by kernel_rfl, fun j t ht => by
        rw [Tryd.params3] at ht
        have hm : t ∈ [25] := by simpa using Array.mem_of_getElem? ht
        have hall : ([25].all fun u => !Tryd.prog.wantsStandIn u) = true := by kernel_rfl
        exact (show Tryd.prog.wantsStandIn t = false by simpa using List.all_eq_true.1 hall t hm)⟩)
    (by kernel_rfl)
#print axioms proved

end Go.Proofs.YtgicomadlhnkjaaDoor.pageRights
