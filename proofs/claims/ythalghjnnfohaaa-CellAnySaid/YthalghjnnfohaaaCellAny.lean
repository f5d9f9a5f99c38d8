/-
  CellAny: what the words are plays no part: a memory of texts goes as one of numbers; for every number of words and every script; no condition beyond the row's.
-/
import Derived.Test.YthalghjnnfohaaaCellText
namespace Go.Proofs.Ythalghjnnfohaaa
open Go.RowKit Go.Sort Go.ChangeShapes Go.WideShapes
set_option linter.unusedVariables false
set_option linter.unusedSimpArgs false

theorem cell_but {b g : Nat} {M : List Nat} {a w : World} (h : Keep (Of b g) a w) (h1 : b ∈ M) (h2 : g ∈ M) : Dc.But M a w := ⟨h.size, fun k hk hn => h.block k hk fun hf => by
  rcases hf with rfl | rfl
  · exact hn h1
  · exact hn h2⟩
theorem asI_zero (n : Nat) : List.replicate n (.int .i64 0 : Value) = asI (List.replicate n 0) := by simp [asI, upI]
theorem asS_zero (n : Nat) : List.replicate n (.string ByteArray.empty : Value) = asS (List.replicate n 0) := by
  simp only [asS, List.map_replicate]
  rfl

set_option maxRecDepth 100000 in
set_option maxHeartbeats 4000000 in
theorem cellAny_walk (y0 : Int) (A : Option Addr) (m c : Nat) (l : List COp) (w : World) (hy : (Lit.int .i64 y0).wf = true) (ha : ArgC w A m c l) :
    Calls Try.prog 5 #[.int .i64 y0, .slice A m c] w fun e w' => e = .returned (.bool true) ∧ Below w.heap.size w w' := by
  obtain ⟨hlen, hcap, hsm, hls, hok⟩ := ha
  have HL := Lib.hid hlen
  have HLS := Lib.hid hls
  clear hlen hls hok hy
  go_enter Try.func5, Try.ntmps5
  go_wp2_with fail
  refine (cellAwake_any w).mono ?_
  rintro e w1 ⟨rfl, hb1⟩
  by_cases hm : 300 < m
  · go_wp2_with fail
    refine (cellAwake_any _).mono ?_
    rintro e w3 ⟨rfl, hb3⟩
    go_wp2
    go_ret
    exact ⟨rfl, bthen hb1 hb3⟩
  have hw1 := hb1.size
  have HB1 := Lib.hid hb1
  clear hb1
  go_wp2_with fail
  refine (newI_any y0 w1).mono ?_
  rintro e w2 ⟨b, g, rfl, hm2, hof, hb2⟩
  have HM2 := Lib.hid hm2
  have HB2 := Lib.hid hb2
  have HO := Lib.hid hof
  clear hm2 hb2 hof
  go_wp2_with fail
  refine (newS_any y0 w2).mono ?_
  rintro e w3 ⟨b2, g2, rfl, hm3, hof3, hb3⟩
  have HT3 := Lib.hid (show ∃ N, BothN w.heap.size w3 b g b2 g2 N N 0 0 0 0 from ⟨List.replicate (wordsN y0) 0, by
    have := Two.make hw1 HM2.out HO.out HB2.out hm3 hof3 hb3
    rwa [asI_zero, asS_zero] at this⟩)
  have HB3 := Lib.hid (bthen (bthen HB1.out HB2.out) hb3)
  clear hm3 hof3 hb3 HM2 HB2 HO HB1
  go_wp2
  go_loopw [42] (fun i wr => ∃ k : Nat, k ≤ m ∧ i = .int .i64 k ∧ Hid (∃ N s ch, BothN w.heap.size wr b g b2 g2 N N s ch s ch ∧ s ≤ k ∧ ch ≤ k) ∧ Hid (Below w.heap.size w wr)) (fun i _ => m - (intOf i).toNat)
  case atStart =>
    obtain ⟨N, hN⟩ := HT3.out
    exact ⟨0, Nat.zero_le _, rfl, Lib.hid ⟨N, 0, 0, hN, Nat.le_refl _, Nat.le_refl _⟩, HB3⟩
  case round =>
    obtain ⟨k, hk, rfl, HT, HB⟩ := hrel
    clear HT3 HB3
    obtain ⟨N, s, ch, ht, hsk, hck⟩ := HT.out
    have HTT := Lib.hid ht
    clear ht HT
    by_cases hlt : k < m
    · obtain ⟨ad, x, rfl, hx, hl, g0, g1, g2', g3⟩ := (HLS.out.below HB.out).atC (i := k) (by rw [HL.out]; exact hlt)
      obtain ⟨xk, xi, xo, xx⟩ := x
      simp only at g0 g1 g2' g3
      clear hx
      obtain ⟨wa, hwa⟩ : ∃ wa, wa = wr.alloc (.cells #[.int .i64 xk, .int .i64 xi, .int .i64 xo, .int .i64 xx] 29) := ⟨_, rfl⟩
      have hba : Below wr.heap.size wr wa := by rw [hwa]; exact (Below.refl _ _).alloc (Nat.le_refl _) _
      have hal : wr.heap.size < wa.heap.size := by rw [hwa]; simp
      have c0 : wa.cell? ⟨wr.heap.size, 0, none⟩ = some (.int .i64 xk) := by rw [hwa, World.cell?_alloc_mark]; rfl
      have c1 : wa.cell? ⟨wr.heap.size, 1, none⟩ = some (.int .i64 xi) := by rw [hwa, World.cell?_alloc_mark]; rfl
      have c2 : wa.cell? ⟨wr.heap.size, 2, none⟩ = some (.int .i64 xo) := by rw [hwa, World.cell?_alloc_mark]; rfl
      have c3 : wa.cell? ⟨wr.heap.size, 3, none⟩ = some (.int .i64 xx) := by rw [hwa, World.cell?_alloc_mark]; rfl
      have HC0 := Lib.hid c0
      have HC1 := Lib.hid c1
      have HWA := Lib.hid hwa
      have HNO := Lib.hid (show (¬ Of b g wr.heap.size) ∧ ¬ Of b2 g2 wr.heap.size from ⟨fun h => by have := HTT.out.one.lt _ h; omega, fun h => by have := HTT.out.two.lt _ h; omega⟩)
      have HTA := Lib.hid (HTT.out.below hba)
      have HBA := Lib.hid (bthen HB.out hba)
      have ho63 := and63 xo
      have hx63 := and63 xx
      have hpo := p63_lt xo
      have hpx := p63_lt xx
      generalize p63 xo = po at ho63 hpo
      generalize p63 xx = px at hx63 hpx
      clear hwa hba c0 c1 HTT HB
      go_wp2
      rw [← HWA.out]
      go_quiet (fail)
      have HTN := Lib.hid (HTA.out.drewN nq)
      have HBN := Lib.hid (belowN HBA.out nq)
      have HN0 := Lib.hid (show (wa.drewN nq).cell? ⟨wr.heap.size, 0, none⟩ = some (.int .i64 xk) from HC0.out)
      have HN1 := Lib.hid (show (wa.drewN nq).cell? ⟨wr.heap.size, 1, none⟩ = some (.int .i64 xi) from HC1.out)
      have hal2 : wr.heap.size < (wa.drewN nq).heap.size := hal
      clear HTA HBA HC0 HC1 hal c2 c3 HWA ho63 hx63
      generalize wa.drewN nq = wn at *
      go_wp2_with fail
      refine Dv.wp_region_frame (textV po px) (by kernel_rfl) (by kernel_rfl) (by kernel_rfl) (textV_later po px) (by kernel_rfl) ?_ ?_
      · refine ⟨?_, ?_, ?_, ?_, ?_, ?_, ?_, ?_, trivial⟩
        · refine Dv.step_val rfl fun a' w' hb hs hd => ⟨_, w', rfl, Below.refl _ _, ?_⟩
          exact hs.2.2 9 (by kernel_rfl)
        · refine Dv.step_val rfl fun a' w' hb hs hd => ?_
          have h1 : a'.eval (.tmp 55) = .int .i64 (po : Int) := hd 0 (by decide)
          obtain ⟨w'', hr, hbb, hmd⟩ := made_bytes po (by omega) w'
          refine ⟨_, w'', ?_, hbb, hmd⟩
          clear hd hs
          simp only [execOp, h1, Sem.run_bind, Sem.run_pure, hr, Result.andThen_ok]
        · refine Dv.step_val rfl fun a' w' hb hs hd => ⟨_, w', ?_, Below.refl _ _, rfl⟩
          have h1 : MadeAt po (a'.eval (.tmp 56)) w' := hd 1 (by decide)
          have hr := made_text h1
          clear hd hs
          simp only [execOp, Sem.run_bind, Sem.run_pure, hr, Result.andThen_ok]
        · refine Dv.step_val rfl fun a' w' hb hs hd => ⟨_, w', rfl, Below.refl _ _, ?_⟩
          exact hs.2.2 10 (by kernel_rfl)
        · refine Dv.step_val rfl fun a' w' hb hs hd => ?_
          have h1 : a'.eval (.tmp 58) = .int .i64 (px : Int) := hd 3 (by decide)
          obtain ⟨w'', hr, hbb, hmd⟩ := made_bytes px (by omega) w'
          refine ⟨_, w'', ?_, hbb, hmd⟩
          clear hd hs
          simp only [execOp, h1, Sem.run_bind, Sem.run_pure, hr, Result.andThen_ok]
        · refine Dv.step_val rfl fun a' w' hb hs hd => ⟨_, w', ?_, Below.refl _ _, rfl⟩
          have h1 : MadeAt px (a'.eval (.tmp 59)) w' := hd 4 (by decide)
          have hr := made_text h1
          clear hd hs
          simp only [execOp, Sem.run_bind, Sem.run_pure, hr, Result.andThen_ok]
        · refine Dv.step_val rfl fun a' w' hb hs hd => ⟨_, w', rfl, Below.refl _ _, ?_⟩
          exact hd 2 (by decide)
        · refine Dv.step_val rfl fun a' w' hb hs hd => ⟨_, w', rfl, Below.refl _ _, ?_⟩
          exact hd 5 (by decide)
      intro f wf hbf hf
      have e0 : f 0 = .int .i64 (po : Int) := hf 0 (by decide)
      have e2 : f 2 = .string (zeros po) := hf 2 (by decide)
      have e3 : f 3 = .int .i64 (px : Int) := hf 3 (by decide)
      have e5 : f 5 = .string (zeros px) := hf 5 (by decide)
      have e6 : f 6 = .string (zeros po) := hf 6 (by decide)
      have e7 : f 7 = .string (zeros px) := hf 7 (by decide)
      simp only [Dv.putAll, Nat.zero_add, Nat.reduceAdd, e0, e2, e3, e5, e6, e7]
      generalize f 1 = v1
      generalize f 4 = v4
      have HTF := Lib.hid (HTN.out.below hbf)
      have HBF := Lib.hid (bthen HBN.out hbf)
      have c0 := (hbf.cell (p := ⟨wr.heap.size, 0, none⟩) hal2).trans HN0.out
      have c1 := (hbf.cell (p := ⟨wr.heap.size, 1, none⟩) hal2).trans HN1.out
      have hal3 : wr.heap.size < wf.heap.size := Nat.lt_of_lt_of_le hal2 hbf.size
      have HC1 := Lib.hid c1
      clear hf e0 e2 e3 e5 e6 e7 f hbf HTN HBN HN0 HN1 hal2
      by_cases h1 : xk = 1
      · subst h1
        go_wp2_with fail
        refine (loadNI HTF.out.one xi (by omega)).mono ?_
        rintro e w4 ⟨rfl, hm4, hk4⟩
        have HT4 := Lib.hid (HTF.out.first hm4 hk4)
        have HB4 := Lib.hid (HTF.out.kept HBF.out hk4 fun _ h => .inl h)
        have d1 := hk4.cell (p := ⟨wr.heap.size, 1, none⟩) hal3 HNO.out.1 HC1.out
        clear hm4 hk4 HTF HBF
        go_wp2_with fail
        refine (loadNS HT4.out.two xi (by omega)).mono ?_
        rintro e w5 ⟨rfl, hm5, hk5⟩
        have HT5 := Lib.hid (HT4.out.second hm5 hk5)
        have HB5 := Lib.hid (HT4.out.kept HB4.out hk5 fun _ h => .inr h)
        clear hm5 hk5 HT4 HB4 d1
        have hsb := stepW_le N.length xi s
        generalize stepW N.length xi s = s5 at HT5 hsb
        generalize errW N.length xi = ev
        have hzs := zeros_size (getW 0 N xi)
        generalize zeros (getW 0 N xi) = zt at hzs ⊢
        generalize getW 0 N xi = gv at hzs ⊢
        go_wp2_with fail
        refine (stepsI_any HT5.out.one.c1).mono ?_
        rintro e w6 ⟨rfl, rfl⟩
        go_wp2_with fail
        refine (stepsS_any HT5.out.two.c1).mono ?_
        rintro e w7 ⟨rfl, rfl⟩
        go_wp2_with fail
        refine (changesI_any HT5.out.one.c2).mono ?_
        rintro e w8 ⟨rfl, rfl⟩
        go_wp2_with fail
        refine (changesS_any HT5.out.two.c2).mono ?_
        rintro e w9 ⟨rfl, rfl⟩
        go_wp2
        exact ⟨⟨k + 1, by omega, by go_num, Lib.hid ⟨_, _, _, HT5.out, by omega, by omega⟩, HB5⟩, by simp [intOf]; omega⟩
      by_cases h2 : xk = 2
      · subst h2
        have hnot : wr.heap.size ∉ [b, g, b2, g2] := fun h => by
          have h1 := HNO.out.1
          have h2 := HNO.out.2
          unfold Of at h1 h2
          simp only [List.mem_cons, List.not_mem_nil, or_false] at h
          rcases h with h | h | h | h
          · exact h1 (.inl h)
          · exact h1 (.inr h)
          · exact h2 (.inl h)
          · exact h2 (.inr h)
        obtain ⟨W, hW⟩ : ∃ W, W = wf.drew := ⟨_, rfl⟩
        have hbW : Below wf.heap.size wf W := by rw [hW]; exact (Below.refl _ _).drew
        have hWz : wr.heap.size < W.heap.size := Nat.lt_of_lt_of_le hal3 hbW.size
        have cW1 : W.cell? ⟨wr.heap.size, 1, none⟩ = some (.int .i64 xi) := (hbW.cell hal3).trans HC1.out
        have q1 : ∀ q' : Dc.Past [b, g, b2, g2] W, q'.val.cell? ⟨wr.heap.size, 1, none⟩ = some (.int .i64 xi) := fun q' => (q'.ok.cell hWz hnot).trans cW1
        have HTW := Lib.hid (HTF.out.below hbW)
        have HBW := Lib.hid (bthen HBF.out hbW)
        have HW := Lib.hid hW
        have hsb := stepW_le N.length xi s
        clear hW hnot cW1 hbW HTF HBF
        go_wp2
        refine Dc.wp_region_segs 11 [b, g, b2, g2] [([0, 1, 2, 3, 5, 6, 7, 8], 4), ([], 9)] [10, 11] (by kernel_rfl) (by kernel_rfl) (by kernel_rfl) (by kernel_rfl) (by kernel_rfl) (by intro c a d v w h; cases d <;> exact h) ?_
        rw [← HW.out]
        refine Dc.wpSegs_more ?_
        simp only [Dc.pick, List.getElem?_cons_zero, List.getElem?_cons_succ]
        repeat (first | go_big_quiet_step (fail) | quiet_step (fail))
        refine wpQuiet_nil ?_
        refine Dc.wpOp_heavy rfl (by rfl) (fun K hK => ?_)
        go_simp
        refine (storeNI HTW.out.one xi px (by omega)).mono ?_
        rintro e w4 ⟨rfl, hm4, hk4⟩
        have HT4 := Lib.hid (HTW.out.first hm4 hk4)
        have HB4 := Lib.hid (HTW.out.kept HBW.out hk4 fun _ h => .inl h)
        refine hK _ _ (fun _ => cell_but hk4 (by simp) (by simp)) ?_
        clear hK K hm4 hk4 HTW HBW q1
        refine Dc.wpSegs_more ?_
        simp only [Dc.pick]
        refine wpQuiet_nil ?_
        refine Dc.wpOp_heavy rfl (by rfl) (fun K hK => ?_)
        go_simp
        refine (storeNS HT4.out.two xi px (by omega)).mono ?_
        rintro e w5 ⟨rfl, hm5, hk5⟩
        have HT5 := Lib.hid (HT4.out.second hm5 hk5)
        have HB5 := Lib.hid (HT4.out.kept HB4.out hk5 fun _ h => .inr h)
        refine hK _ _ (fun _ => cell_but hk5 (by simp) (by simp)) ?_
        clear hK K hm5 hk5 HT4 HB4
        generalize stepW N.length xi s = s5 at HT5 hsb
        generalize errW N.length xi = ev
        refine Dc.wpSegs_last ?_
        simp only [Dc.pick, List.getElem?_cons_zero, List.getElem?_cons_succ]
        repeat (first | go_big_quiet_step (fail) | quiet_step (fail))
        refine wpQuiet_nil ?_
        go_wp2_with fail
        refine (stepsI_any HT5.out.one.c1).mono ?_
        rintro e w6 ⟨rfl, rfl⟩
        go_wp2_with fail
        refine (stepsS_any HT5.out.two.c1).mono ?_
        rintro e w7 ⟨rfl, rfl⟩
        go_wp2_with fail
        refine (changesI_any HT5.out.one.c2).mono ?_
        rintro e w8 ⟨rfl, rfl⟩
        go_wp2_with fail
        refine (changesS_any HT5.out.two.c2).mono ?_
        rintro e w9 ⟨rfl, rfl⟩
        go_wp2
        exact ⟨⟨k + 1, by omega, by go_num, Lib.hid ⟨_, _, _, HT5.out, by omega, by omega⟩, HB5⟩, by simp [intOf]; omega⟩
      by_cases h3 : xk = 3
      · subst h3
        go_wp2_with fail
        refine (casNI HTF.out.one xi po px (by omega) (by omega)).mono ?_
        rintro e w4 ⟨rfl, hm4, hk4⟩
        have HT4 := Lib.hid (HTF.out.first hm4 hk4)
        have HB4 := Lib.hid (HTF.out.kept HBF.out hk4 fun _ h => .inl h)
        have d1 := hk4.cell (p := ⟨wr.heap.size, 1, none⟩) hal3 HNO.out.1 HC1.out
        clear hm4 hk4 HTF HBF
        go_wp2_with fail
        refine (casNS HT4.out.two xi po px (by omega) (by omega)).mono ?_
        rintro e w5 ⟨rfl, hm5, hk5⟩
        have HT5 := Lib.hid (HT4.out.second hm5 hk5)
        have HB5 := Lib.hid (HT4.out.kept HB4.out hk5 fun _ h => .inr h)
        clear hm5 hk5 HT4 HB4 d1
        have hsb := stepW_le N.length xi s
        have hcb := changeW_le N xi po ch
        generalize stepW N.length xi s = s5 at HT5 hsb
        generalize changeW N xi po ch = c5 at HT5 hcb
        generalize errW N.length xi = ev
        generalize swapW N xi po = gv
        go_wp2_with fail
        refine (stepsI_any HT5.out.one.c1).mono ?_
        rintro e w6 ⟨rfl, rfl⟩
        go_wp2_with fail
        refine (stepsS_any HT5.out.two.c1).mono ?_
        rintro e w7 ⟨rfl, rfl⟩
        go_wp2_with fail
        refine (changesI_any HT5.out.one.c2).mono ?_
        rintro e w8 ⟨rfl, rfl⟩
        go_wp2_with fail
        refine (changesS_any HT5.out.two.c2).mono ?_
        rintro e w9 ⟨rfl, rfl⟩
        go_wp2
        exact ⟨⟨k + 1, by omega, by go_num, Lib.hid ⟨_, _, _, HT5.out, by omega, by omega⟩, HB5⟩, by simp [intOf]; omega⟩
      go_wp2_with fail
      refine (stepsI_any HTF.out.one.c1).mono ?_
      rintro e w6 ⟨rfl, rfl⟩
      go_wp2_with fail
      refine (stepsS_any HTF.out.two.c1).mono ?_
      rintro e w7 ⟨rfl, rfl⟩
      go_wp2_with fail
      refine (changesI_any HTF.out.one.c2).mono ?_
      rintro e w8 ⟨rfl, rfl⟩
      go_wp2_with fail
      refine (changesS_any HTF.out.two.c2).mono ?_
      rintro e w9 ⟨rfl, rfl⟩
      go_wp2
      exact ⟨⟨k + 1, by omega, by go_num, Lib.hid ⟨_, _, _, HTF.out, by omega, by omega⟩, HBF⟩, by simp [intOf]; omega⟩
    · have he : k = m := by omega
      subst he
      go_wp2
      go_ret
      exact ⟨rfl, HB.out⟩

end Go.Proofs.Ythalghjnnfohaaa

namespace Go.Proofs.Ythalghjnnfohaaa.cellAny
open Go.ChangeShapes Go.WideShapes Go.ChangeAt Go.RowKit
open Go.ChangeMaps (open_string shut_string)
set_option linter.unusedVariables false

theorem own : ownKnob Try.prog.godebug = none := by kernel_rfl
theorem laidOut : laidOutB Try.prog = true := by kernel_rfl

set_option maxRecDepth 100000 in
theorem lifted (os : Os) (started : os.Started) (H : Type) (enc : TypeId × Value → H) :
    ReturnsInHanded {} Try.checked os 5 .any (Rows.cellAnySpec.pre6 enc Try.prog Try.f5 Rows.cellAnyRow.domain false) (Rows.cellAnySpec.post enc Try.prog Try.f5 false true false false) := by
  refine returnsInHanded_of_change_sized (C := Try.checked) own started (by kernel_rfl) Try.func5
    (ChangeSpec.witness6 (enc := enc) (C := Try.checked) false ⟨#[], #[.int .i64 0, .slice none 0 0], []⟩ 8 (by kernel_rfl) (by kernel_rfl) (by kernel_rfl) (by kernel_rfl)) ?_
  intro W base args ds gs before hval0 hW hcnd hsz0 _
  have hval : ∀ (j : Nat) t v, Try.f5.params[j]? = some t → args[j]? = some v → Value.okWide Try.prog W .any base t v := hval0
  have hsz : (DataW.weightsEach Try.prog (Try.f5.params.toList ++ Rows.cellAnySpec.plain.varTypes Try.prog) (ds ++ gs)).all (· ≤ reachBytes) = true := hsz0
  have hW' := hW
  obtain ⟨p, q, hA0, hV, rfl, hfz, hnd⟩ := hW
  have hA : DataW.TrodAll enc Try.prog W 0 (fun _ => true) true Try.f5.params.toList args.toList ds p := hA0
  rw [Try.params5] at hA hval hsz
  obtain ⟨v0, vs0, d0, ds0, p0, q0, hargs, rfl, rfl, h0, r0⟩ := trodAll_cons hA
  obtain ⟨v1, vs1, d1, ds1, p1, q1, rfl, rfl, rfl, h1, r1⟩ := trodAll_cons r0
  obtain ⟨rfl, rfl, rfl⟩ := trodAll_nil r1
  obtain rfl : args = #[v0, v1] := by cases args; simp_all
  obtain ⟨rfl, rfl⟩ := trodVars_none hV
  obtain ⟨a0, rfl, rfl, rfl, w0⟩ := open_int Try.underlying3 (hval 0 3 v0 rfl rfl) h0
  obtain ⟨A1, n1, c1, rfl⟩ := okWide_slice Try.underlying22 (hval 1 22 v1 rfl rfl)
  have k1 := h1
  have lt1 : ∀ x ∈ p1, x.block < W.heap.size := by obtain ⟨m, hm⟩ := k1; exact DataW.trod_lt m _ _ _ hm
  obtain ⟨l1, w1⟩ := open_cops h1 (fun m hm => of_decide_eq_true (List.all_eq_true.1 hsz _ (DataW.weights_mem_each (j := 1) (t := 22) rfl rfl m hm)))
  clear hA0 hval0 hsz hsz0
  refine (cellAny_walk a0 A1 n1 c1 l1 W w0 w1).mono fun e W' ⟨he, bel⟩ => ?_
  subst he
  exact ⟨_, rfl, _, _, _, [], _, [], hW', trodAll_mk1 (shut_bool Try.underlying4 _), (trodAll_cons_mk (shut_int Try.underlying3 w0) (trodAll_cons_mk (Below.trod laidOut (by kernel_rfl) (of_decide_eq_true (by kernel_rfl)) k1 bel lt1) trodAll_mk0)), rfl, bel.frame _, fun h => by cases h⟩

theorem over : Rows.cellAnyRow.holds Try.pinned (OpenSpec.ofChange Rows.cellAnySpec) :=
  OpenClaim.holds_of_wide 5 Try.f5 rfl rfl rfl rfl rfl rfl rfl ⟨rfl, rfl, rfl, rfl, rfl⟩ rfl rfl rfl rfl rfl (by kernel_rfl) Try.func5 (by kernel_rfl)
    (of_decide_eq_true (by kernel_rfl)) (by unfold Func.isWrapper; first | (rw [if_pos (by decide +kernel)]; kernel_rfl) | (rw [if_neg (by decide +kernel)]; exact ⟨rfl, rfl⟩))
    (fun os started H enc _ => lifted os started H enc)

theorem proved : Rows.CellAnySaid := over
#print axioms proved

end Go.Proofs.Ythalghjnnfohaaa.cellAny
