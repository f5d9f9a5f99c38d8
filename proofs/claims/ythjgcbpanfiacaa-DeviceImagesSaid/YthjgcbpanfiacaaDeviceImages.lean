/-
  DeviceImages: any bytes are the image of a device as the reference says; a number of pages is held; for every string and number; no condition beyond the row's.
-/
import Derived.Test.YthjgcbpanfiacaaDevRefE
namespace Go.Proofs.Ythjgcbpanfiacaa
open Go.RowKit Go.Sort Go.ChangeShapes Go.WideShapes
set_option linter.unusedVariables false
set_option linter.unusedSimpArgs false

theorem pagesN_int (x : Int) : max 0 (min x 512) = (pagesN x : Int) := by unfold pagesN; omega

set_option maxRecDepth 100000 in
set_option maxHeartbeats 4000000 in
theorem deviceImages_walk (s : ByteArray) (pages : Int) (w : World) (hs : s.size ≤ 140737488351232) (hp : (Lit.int .i64 pages).wf = true) :
    Calls Try.prog 4 #[.string s, .int .i64 pages] w fun e w' => e = .returned (.bool true) ∧ Below w.heap.size w w' := by
  clear hp
  by_cases hbig : 20000 < s.size
  · go_enter Try.func4, Try.ntmps4
    go_wp2_with fail
    refine (devAwake_any w).mono ?_
    rintro e w1 ⟨rfl, hb1⟩
    go_wp2_with fail
    refine (devAwake_any w1).mono ?_
    rintro e w2 ⟨rfl, hb2⟩
    go_wp2
    go_ret
    exact ⟨rfl, bthen hb1 hb2⟩
  obtain ⟨C, F, hcv, hF⟩ := bytes_of s
  obtain ⟨l, hl, hll⟩ : ∃ l : List UInt8, s = str l ∧ l.length = s.size := ⟨s.data.toList, by simp [str], rfl⟩
  have HF := Lib.hid (show ∀ w, Rd (F w) (some ⟨w.heap.size, 0, none⟩) l ∧ Below w.heap.size w (F w) from fun w => ⟨by have := (hF w).1; rw [hl, str_toList] at this; exact this, (hF w).2.2⟩)
  have HLL := Lib.hid hll
  have HSL := Lib.hid hl
  have hmx := pagesN_int pages
  obtain ⟨np, hnp⟩ : ∃ np, np = pagesN pages := ⟨_, rfl⟩
  rw [← hnp] at hmx
  have HNP := Lib.hid hnp
  clear hF hl hll hnp
  go_enter Try.func4, Try.ntmps4
  go_wp2_with fail
  refine (devAwake_any w).mono ?_
  rintro e w1 ⟨rfl, hb1⟩
  have HB1 := Lib.hid hb1
  clear hb1
  go_wp2_with fail
  refine (image_any (some ⟨w1.heap.size, 0, none⟩) s.size (C w1) l (HF.out w1).1 HLL.out (by omega)).mono ?_
  rintro e w2 ⟨d, rfl, hd2, hb2⟩
  rw [← HLL.out] at hd2
  have HD2 := Lib.hid (show Dev w2 d (pagesOf l.length) (imgOf l) [] (fun i => (F w1).heap.size ≤ i) from hd2)
  have HB2 := Lib.hid (bthen (bthen HB1.out (HF.out w1).2) hb2)
  clear hd2 hb2 HB1 hcv
  go_wp2_with fail
  have href := refImage_any l w2 (by rw [HLL.out]; omega)
  rw [← HSL.out] at href
  refine href.mono ?_
  rintro e w3 ⟨r, rfl, hr3, hb3⟩
  clear href
  have HD3 := Lib.hid (HD2.out.below hb3)
  have HR3 := Lib.hid hr3
  have HB3 := Lib.hid (bthen HB2.out hb3)
  clear hr3 hb3 HD2 HB2
  go_wp2_with fail
  refine (new_any pages w3).mono ?_
  rintro e w4 ⟨b, rfl, hn4, hb4⟩
  rw [← HNP.out] at hn4
  have hb4d := bthen hb4 (Below.refl w4.heap.size w4).drew
  have HN4 := Lib.hid hn4.drew
  have HD4 := Lib.hid (HD3.out.below hb4d)
  have HR4 := Lib.hid (HR3.out.below hb4d)
  have HB4 := Lib.hid (bthen HB3.out hb4d)
  clear hn4 hb4 hb4d HD3 HR3 HB3
  obtain ⟨n, hn⟩ : ∃ n, n = pagesOf l.length := ⟨_, rfl⟩
  rw [← hn] at HD4 HR4
  clear hn
  obtain ⟨vP, vW, A7, B7, c7, d7, hvP, hvW, hat7, _⟩ := HR4.out.form
  subst hvP hvW
  have hw7 : ∀ e os, (Go.Sort.grow (redrawn w4.drew e) os).cell? ⟨r, 0, none⟩ = some (.slice A7 n c7) := fun e os => ((below_regrown w4.drew e os).cell (p := ⟨r, 0, none⟩) (lt_of_block hat7.box)).trans (cell_at hat7.box 0 _ rfl)
  clear hat7
  have hn5 := HD4.out.lens.2.1
  go_wp2_with fail
  refine wp_region_segs [([0, 1, 2, 3, 4, 6, 7, 8, 9, 10], 5), ([11, 12, 13, 14, 17], 15), ([16], 18), ([19, 20, 21, 22], 23), ([24, 25, 26, 27, 29, 30, 31], 28)] [32, 33, 34] (by kernel_rfl) (by kernel_rfl) (by kernel_rfl) (by kernel_rfl) (by intro c a d v w h; cases d <;> exact h) ?_
  refine wpSegs_more ?_
  simp only [pick, List.getElem?_cons_zero, List.getElem?_cons_succ]
  repeat (first | go_big_quiet_step (fail) | quiet_step (fail))
  refine wpQuiet_nil ?_
  refine wpOp_heavy rfl (by rfl) (fun K hK => ?_)
  go_simp
  clear hw7
  refine (pages_any HD4.out).mono ?_
  rintro e w5 ⟨rfl, rfl⟩
  refine hK _ _ (Below.refl _ _) ?_
  clear hK K
  refine wpSegs_more ?_
  simp only [pick, List.getElem?_cons_zero, List.getElem?_cons_succ]
  repeat (first | go_big_quiet_step (fail) | quiet_step (fail))
  refine wpQuiet_nil ?_
  refine wpOp_heavy rfl (by rfl) (fun K hK => ?_)
  go_simp
  refine (devBytes_any HD4.out (by simp)).mono ?_
  rintro e w6 ⟨g6, rfl, hg6, hrow6, hb6⟩
  have hln := allN_len HD4.out.lens.1 HD4.out.lens.2.2 ([] : List WR).length
  have cv := conv_rd_later (c := n * 256) (rd_whole hrow6) hln
  rw [show (⟨(allN (imgOf l) [] ([] : List WR).length).toArray⟩ : ByteArray) = str (imgOf l) from rfl] at cv
  have HD6 := Lib.hid (HD4.out.below hb6)
  have HR6 := Lib.hid (HR4.out.below hb6)
  have HN6 := Lib.hid (HN4.out.below hb6)
  have HB6 := Lib.hid (bthen HB4.out hb6)
  refine hK _ _ hb6 ?_
  clear hK K hrow6 hg6 hln hb6 HD4 HR4 HN4 HB4
  refine wpSegs_more ?_
  simp only [pick, List.getElem?_cons_zero, List.getElem?_cons_succ]
  repeat (first | go_big_quiet_step (fail) | quiet_step (fail))
  refine wpQuiet_nil ?_
  refine wpOp_heavy rfl (by rfl) (fun K hK => ?_)
  go_simp
  clear cv
  refine (refBytes_any HR6.out (by simp)).mono ?_
  rintro e w7 ⟨rfl, rfl⟩
  rw [show str (allN (imgOf l) [] ([] : List WR).length) = str (imgOf l) from rfl]
  refine hK _ _ (Below.refl _ _) ?_
  clear hK K
  generalize str (imgOf l) = sr
  refine wpSegs_more ?_
  simp only [pick, List.getElem?_cons_zero, List.getElem?_cons_succ]
  repeat (first | go_big_quiet_step (fail) | quiet_step (fail))
  refine wpQuiet_nil ?_
  refine wpOp_heavy rfl (by rfl) (fun K hK => ?_)
  go_simp
  refine (waiting_any HD6.out).mono ?_
  rintro e w8 ⟨rfl, rfl⟩
  refine hK _ _ (Below.refl _ _) ?_
  clear hK K
  refine wpSegs_more ?_
  simp only [pick, List.getElem?_cons_zero, List.getElem?_cons_succ]
  repeat (first | go_big_quiet_step (fail) | quiet_step (fail))
  refine wpQuiet_nil ?_
  refine wpOp_heavy rfl (by rfl) (fun K hK => ?_)
  go_simp
  refine (pages_any HN6.out).mono ?_
  rintro e w9 ⟨rfl, rfl⟩
  refine hK _ _ (Below.refl _ _) ?_
  clear hK K
  refine wpSegs_last ?_
  simp only [pick, List.getElem?_cons_zero, List.getElem?_cons_succ]
  repeat (first | go_big_quiet_step (fail) | quiet_step (fail))
  refine wpQuiet_nil ?_
  go_wp2
  go_ret
  exact ⟨rfl, HB6.out⟩

end Go.Proofs.Ythjgcbpanfiacaa

namespace Go.Proofs.Ythjgcbpanfiacaa.deviceImages
open Go.ChangeShapes Go.WideShapes Go.ChangeAt Go.RowKit
open Go.ChangeMaps (open_string shut_string)
set_option linter.unusedVariables false

theorem own : ownKnob Try.prog.godebug = none := by kernel_rfl
theorem laidOut : laidOutB Try.prog = true := by kernel_rfl

set_option maxRecDepth 100000 in
theorem lifted (os : Os) (started : os.Started) (H : Type) (enc : TypeId × Value → H) :
    ReturnsInHanded {} Try.checked os 4 .any (Rows.deviceImagesSpec.pre6 enc Try.prog Try.f4 Rows.deviceImagesRow.domain false) (Rows.deviceImagesSpec.post enc Try.prog Try.f4 false true false false) := by
  refine returnsInHanded_of_change_sized (C := Try.checked) own started (by kernel_rfl) Try.func4
    (ChangeSpec.witness6 (enc := enc) (C := Try.checked) false ⟨#[], #[.string ByteArray.empty, .int .i64 0], []⟩ 8 (by kernel_rfl) (by kernel_rfl) (by kernel_rfl) (by kernel_rfl)) ?_
  intro W base args ds gs before hval0 hW hcnd hsz0 _
  have hval : ∀ (j : Nat) t v, Try.f4.params[j]? = some t → args[j]? = some v → Value.okWide Try.prog W .any base t v := hval0
  have hsz : (DataW.weightsEach Try.prog (Try.f4.params.toList ++ Rows.deviceImagesSpec.plain.varTypes Try.prog) (ds ++ gs)).all (· ≤ reachBytes) = true := hsz0
  have hW' := hW
  obtain ⟨p, q, hA0, hV, rfl, hfz, hnd⟩ := hW
  have hA : DataW.TrodAll enc Try.prog W 0 (fun _ => true) true Try.f4.params.toList args.toList ds p := hA0
  rw [Try.params4] at hA hval hsz
  obtain ⟨v0, vs0, d0, ds0, p0, q0, hargs, rfl, rfl, h0, r0⟩ := trodAll_cons hA
  obtain ⟨v1, vs1, d1, ds1, p1, q1, rfl, rfl, rfl, h1, r1⟩ := trodAll_cons r0
  obtain ⟨rfl, rfl, rfl⟩ := trodAll_nil r1
  obtain rfl : args = #[v0, v1] := by cases args; simp_all
  obtain ⟨rfl, rfl⟩ := trodVars_none hV
  obtain ⟨a0, rfl, rfl, rfl, w0⟩ := open_string Try.underlying9 (hval 0 9 v0 rfl rfl) h0
  obtain ⟨a1, rfl, rfl, rfl, w1⟩ := open_int Try.underlying3 (hval 1 3 v1 rfl rfl) h1
  have z0 : a0.data.toList.length ≤ reachBytes := sized_string hsz (j := 0) (t := 9) rfl rfl
  have y0 : a0.size ≤ 140737488351232 := z0
  clear hA0 hval0 hsz hsz0
  simp only [List.append_nil] at hW'
  refine (deviceImages_walk a0 a1 W y0 w1).mono fun e W' ⟨he, bel⟩ => ?_
  subst he
  exact ⟨_, rfl, _, _, _, [], [], [], hW', trodAll_mk1 (shut_bool Try.underlying4 _), (trodAll_cons_mk (shut_string Try.underlying9 w0) (trodAll_cons_mk (shut_int Try.underlying3 w1) trodAll_mk0)), rfl, bel.frame _, fun h => by cases h⟩

theorem over : Rows.deviceImagesRow.holds Try.pinned (OpenSpec.ofChange Rows.deviceImagesSpec) :=
  OpenClaim.holds_of_wide 4 Try.f4 rfl rfl rfl rfl rfl rfl rfl ⟨rfl, rfl, rfl, rfl, rfl⟩ rfl rfl rfl rfl rfl (by kernel_rfl) Try.func4 (by kernel_rfl)
    (of_decide_eq_true (by kernel_rfl)) (by unfold Func.isWrapper; first | (rw [if_pos (by decide +kernel)]; kernel_rfl) | (rw [if_neg (by decide +kernel)]; exact ⟨rfl, rfl⟩))
    (fun os started H enc _ => lifted os started H enc)

theorem proved : Rows.DeviceImagesSaid := over
#print axioms proved

end Go.Proofs.Ythjgcbpanfiacaa.deviceImages
