/-
  CellPlays: whatever is loaded, stored and swapped, each answer is the reference's, and so are the counts; for every number of words and every script; no condition beyond the row's.
-/
import Derived.Test.YthalghjnnfohaaaCellHelp
namespace Go.Proofs.Ythalghjnnfohaaa
open Go.RowKit Go.Sort Go.ChangeShapes Go.WideShapes
set_option linter.unusedVariables false
set_option linter.unusedSimpArgs false

theorem cell_but {b g : Nat} {M : List Nat} {a w : World} (h : Keep (Of b g) a w) (h1 : b ∈ M) (h2 : g ∈ M) : Dc.But M a w := ⟨h.size, fun k hk hn => h.block k hk fun hf => by
  rcases hf with rfl | rfl
  · exact hn h1
  · exact hn h2⟩
/-- The memory and the reference's, of the same words and counts. -/
abbrev Both (B : Nat) (w : World) (b g b2 g2 : Nat) (L : List Int) (s c s2 c2 : Nat) : Prop := Two 55 3 44 3 B w b g b2 g2 (L.map (.int .i64)) (L.map (.int .i64)) s c s2 c2

set_option maxRecDepth 100000 in
set_option maxHeartbeats 4000000 in
theorem cellPlays_walk (y0 : Int) (A : Option Addr) (m c : Nat) (l : List COp) (w : World) (hy : (Lit.int .i64 y0).wf = true) (ha : ArgC w A m c l) :
    Calls Try.prog 3 #[.int .i64 y0, .slice A m c] w fun e w' => e = .returned (.bool true) ∧ Below w.heap.size w w' := by
  obtain ⟨hlen, hcap, hsm, hls, hok⟩ := ha
  have HL := Lib.hid hlen
  have HLS := Lib.hid hls
  clear hlen hls hok hy
  go_enter Try.func3, Try.ntmps3
  go_wp2_with fail
  refine (cellAwake_any w).mono ?_
  rintro e w1 ⟨rfl, hb1⟩
  by_cases hm : 300 < m
  · go_wp2_with fail
    refine (cellAwake_any _).mono ?_
    rintro e w3 ⟨rfl, hb3⟩
    go_wp2
    go_ret
    exact ⟨rfl, bthen hb1 hb3⟩
  have hw1 := hb1.size
  have HB1 := Lib.hid hb1
  clear hb1
  go_wp2_with fail
  refine (newI_any y0 w1).mono ?_
  rintro e w2 ⟨b, g, rfl, hm2, hof, hb2⟩
  have HM2 := Lib.hid hm2
  have HB2 := Lib.hid hb2
  have HO := Lib.hid hof
  clear hm2 hb2 hof
  go_wp2_with fail
  refine (newR_any y0 w2).mono ?_
  rintro e w3 ⟨b2, g2, rfl, hm3, hof3, hb3⟩
  have HT3 := Lib.hid (show ∃ L, Both w.heap.size w3 b g b2 g2 L 0 0 0 0 from ⟨List.replicate (wordsN y0) 0, by
    have := Two.make hw1 HM2.out HO.out HB2.out hm3 hof3 hb3
    rwa [map_zero] at this⟩)
  have HB3 := Lib.hid (bthen (bthen HB1.out HB2.out) hb3)
  clear hm3 hof3 hb3 HM2 HB2 HO HB1
  go_wp2
  go_loopw [36] (fun i wr => ∃ k : Nat, k ≤ m ∧ i = .int .i64 k ∧ Hid (∃ L s ch, Both w.heap.size wr b g b2 g2 L s ch s ch ∧ s ≤ k ∧ ch ≤ k) ∧ Hid (Below w.heap.size w wr)) (fun i _ => m - (intOf i).toNat)
  case atStart =>
    obtain ⟨L, hL⟩ := HT3.out
    exact ⟨0, Nat.zero_le _, rfl, Lib.hid ⟨L, 0, 0, hL, Nat.le_refl _, Nat.le_refl _⟩, HB3⟩
  case round =>
    obtain ⟨k, hk, rfl, HT, HB⟩ := hrel
    clear HT3 HB3
    obtain ⟨L, s, ch, ht, hsk, hck⟩ := HT.out
    have HTT := Lib.hid ht
    clear ht HT
    by_cases hlt : k < m
    · obtain ⟨ad, x, rfl, hx, hl, g0, g1, g2', g3⟩ := (HLS.out.below HB.out).atC (i := k) (by rw [HL.out]; exact hlt)
      obtain ⟨xk, xi, xo, xx⟩ := x
      simp only at g0 g1 g2' g3
      clear hx
      obtain ⟨wa, hwa⟩ : ∃ wa, wa = wr.alloc (.cells #[.int .i64 xk, .int .i64 xi, .int .i64 xo, .int .i64 xx] 29) := ⟨_, rfl⟩
      have hba : Below wr.heap.size wr wa := by rw [hwa]; exact (Below.refl _ _).alloc (Nat.le_refl _) _
      have hal : wr.heap.size < wa.heap.size := by rw [hwa]; simp
      have c1 : wa.cell? ⟨wr.heap.size, 1, none⟩ = some (.int .i64 xi) := by rw [hwa, World.cell?_alloc_mark]; rfl
      have c2 : wa.cell? ⟨wr.heap.size, 2, none⟩ = some (.int .i64 xo) := by rw [hwa, World.cell?_alloc_mark]; rfl
      have c3 : wa.cell? ⟨wr.heap.size, 3, none⟩ = some (.int .i64 xx) := by rw [hwa, World.cell?_alloc_mark]; rfl
      have HC1 := Lib.hid c1
      have HC2 := Lib.hid c2
      have HC3 := Lib.hid c3
      have HWA := Lib.hid hwa
      have HNO := Lib.hid (show (¬ Of b g wr.heap.size) ∧ ¬ Of b2 g2 wr.heap.size from ⟨fun h => by have := HTT.out.one.lt _ h; omega, fun h => by have := HTT.out.two.lt _ h; omega⟩)
      have HTA := Lib.hid (HTT.out.below hba)
      have HBA := Lib.hid (bthen HB.out hba)
      clear hwa hba c1 c2 c3
      by_cases h1 : xk = 1
      · subst h1
        go_wp2_with fail
        rw [← HWA.out]
        refine (loadI HTA.out.one xi (by omega)).mono ?_
        rintro e w4 ⟨rfl, hm4, hk4⟩
        have HT4 := Lib.hid (HTA.out.first hm4 hk4)
        have HB4 := Lib.hid (HTA.out.kept HBA.out hk4 fun _ h => .inl h)
        have d1 := hk4.cell (p := ⟨wr.heap.size, 1, none⟩) hal HNO.out.1 HC1.out
        clear hm4 hk4 HTA HBA
        go_wp2_with fail
        refine (loadR HT4.out.two xi (by omega)).mono ?_
        rintro e w5 ⟨rfl, hm5, hk5⟩
        have HT5 := Lib.hid (HT4.out.second hm5 hk5)
        have HB5 := Lib.hid (HT4.out.kept HB4.out hk5 fun _ h => .inr h)
        clear hm5 hk5 HT4 HB4 d1
        have hsb := stepW_le L.length xi s
        generalize stepW L.length xi s = s5 at HT5 hsb
        generalize errW L.length xi = ev
        generalize getW 0 L xi = gv
        have r1 := HT5.out.two.c1
        have r2 := HT5.out.two.c2
        go_wp2
        go_quiet (first
          | (go_at_call 17; exact quiet_same (stepsI_any (HT5.out.drewN _).one.c1))
          | (go_at_call 18; exact quiet_same (changesI_any (HT5.out.drewN _).one.c2)))
        go_wp2
        exact ⟨⟨k + 1, by omega, by go_num, Lib.hid ⟨_, _, _, HT5.out.drewN _, by omega, by omega⟩, Lib.hid (belowN HB5.out _)⟩, by simp [intOf]; omega⟩
      by_cases h2 : xk = 2
      · subst h2
        have hnot : wr.heap.size ∉ [b, g, b2, g2] := fun h => by
          have h1 := HNO.out.1
          have h2 := HNO.out.2
          unfold Of at h1 h2
          simp only [List.mem_cons, List.not_mem_nil, or_false] at h
          rcases h with h | h | h | h
          · exact h1 (.inl h)
          · exact h1 (.inr h)
          · exact h2 (.inl h)
          · exact h2 (.inr h)
        obtain ⟨W, hW⟩ : ∃ W, W = wa.drew := ⟨_, rfl⟩
        have hbW : Below wa.heap.size wa W := by rw [hW]; exact (Below.refl _ _).drew
        have hWz : wr.heap.size < W.heap.size := Nat.lt_of_lt_of_le hal hbW.size
        have cW1 : W.cell? ⟨wr.heap.size, 1, none⟩ = some (.int .i64 xi) := (hbW.cell hal).trans HC1.out
        have cW3 : W.cell? ⟨wr.heap.size, 3, none⟩ = some (.int .i64 xx) := (hbW.cell hal).trans HC3.out
        have q1 : ∀ q' : Dc.Past [b, g, b2, g2] W, q'.val.cell? ⟨wr.heap.size, 1, none⟩ = some (.int .i64 xi) := fun q' => (q'.ok.cell hWz hnot).trans cW1
        have q3 : ∀ q' : Dc.Past [b, g, b2, g2] W, q'.val.cell? ⟨wr.heap.size, 3, none⟩ = some (.int .i64 xx) := fun q' => (q'.ok.cell hWz hnot).trans cW3
        have HTW := Lib.hid (HTA.out.below hbW)
        have HBW := Lib.hid (bthen HBA.out hbW)
        have HW := Lib.hid hW
        have hsb := stepW_le L.length xi s
        clear hW hnot cW1 cW3 hbW HTA HBA
        go_wp2
        rw [← HWA.out]
        refine Dc.wp_region_segs 12 [b, g, b2, g2] [([0, 1, 2, 3, 4, 6, 7, 8, 9, 10], 5), ([], 11)] [12] (by kernel_rfl) (by kernel_rfl) (by kernel_rfl) (by kernel_rfl) (by kernel_rfl) (by intro c a d v w h; cases d <;> exact h) ?_
        rw [← HW.out]
        refine Dc.wpSegs_more ?_
        simp only [Dc.pick, List.getElem?_cons_zero, List.getElem?_cons_succ]
        repeat (first | go_big_quiet_step (fail) | quiet_step (fail))
        refine wpQuiet_nil ?_
        refine Dc.wpOp_heavy rfl (by rfl) (fun K hK => ?_)
        go_simp
        refine (storeI HTW.out.one xi xx (by omega)).mono ?_
        rintro e w4 ⟨rfl, hm4, hk4⟩
        have HT4 := Lib.hid (HTW.out.first hm4 hk4)
        have HB4 := Lib.hid (HTW.out.kept HBW.out hk4 fun _ h => .inl h)
        refine hK _ _ (fun _ => cell_but hk4 (by simp) (by simp)) ?_
        clear hK K hm4 hk4 HTW HBW q1 q3
        refine Dc.wpSegs_more ?_
        simp only [Dc.pick]
        refine wpQuiet_nil ?_
        refine Dc.wpOp_heavy rfl (by rfl) (fun K hK => ?_)
        go_simp
        refine (storeR HT4.out.two xi xx (by omega)).mono ?_
        rintro e w5 ⟨rfl, hm5, hk5⟩
        have HT5 := Lib.hid (HT4.out.second hm5 hk5)
        have HB5 := Lib.hid (HT4.out.kept HB4.out hk5 fun _ h => .inr h)
        refine hK _ _ (fun _ => cell_but hk5 (by simp) (by simp)) ?_
        clear hK K hm5 hk5 HT4 HB4
        generalize stepW L.length xi s = s5 at HT5 hsb
        generalize errW L.length xi = ev
        refine Dc.wpSegs_last ?_
        simp only [Dc.pick, List.getElem?_cons_zero, List.getElem?_cons_succ]
        repeat (first | go_big_quiet_step (fail) | quiet_step (fail))
        refine wpQuiet_nil ?_
        have r1 := HT5.out.two.c1
        have r2 := HT5.out.two.c2
        go_wp2
        go_quiet (first
          | (go_at_call 17; exact quiet_same (stepsI_any (HT5.out.drewN _).one.c1))
          | (go_at_call 18; exact quiet_same (changesI_any (HT5.out.drewN _).one.c2)))
        go_wp2
        exact ⟨⟨k + 1, by omega, by go_num, Lib.hid ⟨_, _, _, HT5.out.drewN _, by omega, by omega⟩, Lib.hid (belowN HB5.out _)⟩, by simp [intOf]; omega⟩
      by_cases h3 : xk = 3
      · subst h3
        go_wp2_with fail
        rw [← HWA.out]
        refine (casI HTA.out.one xi xo xx (by omega) (by omega)).mono ?_
        rintro e w4 ⟨rfl, hm4, hk4⟩
        have HT4 := Lib.hid (HTA.out.first hm4 hk4)
        have HB4 := Lib.hid (HTA.out.kept HBA.out hk4 fun _ h => .inl h)
        have d1 := hk4.cell (p := ⟨wr.heap.size, 1, none⟩) hal HNO.out.1 HC1.out
        have d2 := hk4.cell (p := ⟨wr.heap.size, 2, none⟩) hal HNO.out.1 HC2.out
        have d3 := hk4.cell (p := ⟨wr.heap.size, 3, none⟩) hal HNO.out.1 HC3.out
        clear hm4 hk4 HTA HBA
        go_wp2_with fail
        refine (casR HT4.out.two xi xo xx (by omega) (by omega)).mono ?_
        rintro e w5 ⟨rfl, hm5, hk5⟩
        have HT5 := Lib.hid (HT4.out.second hm5 hk5)
        have HB5 := Lib.hid (HT4.out.kept HB4.out hk5 fun _ h => .inr h)
        clear hm5 hk5 HT4 HB4 d1 d2 d3
        have hsb := stepW_le L.length xi s
        have hcb := changeW_le L xi xo ch
        generalize stepW L.length xi s = s5 at HT5 hsb
        generalize changeW L xi xo ch = c5 at HT5 hcb
        generalize errW L.length xi = ev
        generalize swapW L xi xo = gv
        have r1 := HT5.out.two.c1
        have r2 := HT5.out.two.c2
        go_wp2
        go_quiet (first
          | (go_at_call 17; exact quiet_same (stepsI_any (HT5.out.drewN _).one.c1))
          | (go_at_call 18; exact quiet_same (changesI_any (HT5.out.drewN _).one.c2)))
        go_wp2
        exact ⟨⟨k + 1, by omega, by go_num, Lib.hid ⟨_, _, _, HT5.out.drewN _, by omega, by omega⟩, Lib.hid (belowN HB5.out _)⟩, by simp [intOf]; omega⟩
      have r1 := HTA.out.two.c1
      have r2 := HTA.out.two.c2
      rw [HWA.out] at r1 r2
      go_wp2
      rw [← HWA.out] at r1 r2 ⊢
      go_quiet (first
        | (go_at_call 17; exact quiet_same (stepsI_any (HTA.out.drewN _).one.c1))
        | (go_at_call 18; exact quiet_same (changesI_any (HTA.out.drewN _).one.c2)))
      go_wp2
      exact ⟨⟨k + 1, by omega, by go_num, Lib.hid ⟨_, _, _, HTA.out.drewN _, by omega, by omega⟩, Lib.hid (belowN HBA.out _)⟩, by simp [intOf]; omega⟩
    · have he : k = m := by omega
      subst he
      have r0 := HTT.out.two.c0
      rw [List.length_map] at r0
      have hLb : L.length ≤ 65536 := by have := HTT.out.two.len; rwa [List.length_map] at this
      obtain ⟨n, hn⟩ : ∃ n, n = L.length := ⟨_, rfl⟩
      rw [← hn] at r0 hLb
      have HN := Lib.hid hn
      clear hn
      go_wp2
      clear r0
      go_loopw [138] (fun i wz => ∃ j : Nat, j ≤ n ∧ i = .int .i64 j ∧ j ≤ 64 ∧ Hid (∃ s5, Both w.heap.size wz b g b2 g2 L s5 ch s ch ∧ s5 ≤ 300 + j) ∧ Hid (Below w.heap.size w wz)) (fun i _ => n - (intOf i).toNat)
      case atStart => exact ⟨0, Nat.zero_le _, rfl, by omega, Lib.hid ⟨s, HTT.out, by omega⟩, HB⟩
      case round =>
        obtain ⟨j, hj, rfl, hj64, HZ, HBZ⟩ := hrel
        clear HTT HB
        obtain ⟨s5, hz, hs5⟩ := HZ.out
        have HT := Lib.hid hz
        clear hz HZ
        by_cases hlt2 : j < n
        · by_cases h64 : j < 64
          · obtain ⟨u, hu⟩ : ∃ u, L[j]? = some u := ⟨_, List.getElem?_eq_getElem (by rw [← HN.out]; exact hlt2)⟩
            have HU := Lib.hid hu
            clear hu
            go_wp2_with fail
            refine (loadI HT.out.one (j : Int) (by omega)).mono ?_
            rw [show getW 0 L (j : Int) = u by unfold getW; rw [if_pos (in_of (by rw [← HN.out]; exact hlt2))]; simp [HU.out], show errW L.length (j : Int) = 0 from if_pos (in_of (by rw [← HN.out]; exact hlt2))]
            rintro e w4 ⟨rfl, hm4, hk4⟩
            have hsb := stepW_le L.length (j : Int) s5
            have HT4 := Lib.hid (HT.out.first hm4 hk4)
            have HB4 := Lib.hid (HT.out.kept HBZ.out hk4 fun _ h => .inl h)
            clear hm4 hk4 HT HBZ
            generalize stepW L.length (j : Int) s5 = s6 at HT4 hsb
            have r0 := HT4.out.two.c0
            rw [List.length_map, ← HN.out] at r0
            have r1 := HT4.out.two.cw (k := j) (u := .int .i64 u) (by rw [List.getElem?_map, HU.out]; rfl)
            go_wp2
            exact ⟨⟨j + 1, by omega, by go_num, by omega, Lib.hid ⟨s6, HT4.out, by omega⟩, HB4⟩, by simp [intOf]; omega⟩
          · have h64' : j = 64 := by omega
            subst h64'
            go_wp2
            go_ret
            exact ⟨rfl, HBZ.out⟩
        · have he : j = n := by omega
          subst he
          go_wp2
          go_ret
          exact ⟨rfl, HBZ.out⟩

end Go.Proofs.Ythalghjnnfohaaa

namespace Go.Proofs.Ythalghjnnfohaaa.cellPlays
open Go.ChangeShapes Go.WideShapes Go.ChangeAt Go.RowKit
open Go.ChangeMaps (open_string shut_string)
set_option linter.unusedVariables false

theorem own : ownKnob Try.prog.godebug = none := by kernel_rfl
theorem laidOut : laidOutB Try.prog = true := by kernel_rfl

set_option maxRecDepth 100000 in
theorem lifted (os : Os) (started : os.Started) (H : Type) (enc : TypeId × Value → H) :
    ReturnsInHanded {} Try.checked os 3 .any (Rows.cellPlaysSpec.pre6 enc Try.prog Try.f3 Rows.cellPlaysRow.domain false) (Rows.cellPlaysSpec.post enc Try.prog Try.f3 false true false false) := by
  refine returnsInHanded_of_change_sized (C := Try.checked) own started (by kernel_rfl) Try.func3
    (ChangeSpec.witness6 (enc := enc) (C := Try.checked) false ⟨#[], #[.int .i64 0, .slice none 0 0], []⟩ 8 (by kernel_rfl) (by kernel_rfl) (by kernel_rfl) (by kernel_rfl)) ?_
  intro W base args ds gs before hval0 hW hcnd hsz0 _
  have hval : ∀ (j : Nat) t v, Try.f3.params[j]? = some t → args[j]? = some v → Value.okWide Try.prog W .any base t v := hval0
  have hsz : (DataW.weightsEach Try.prog (Try.f3.params.toList ++ Rows.cellPlaysSpec.plain.varTypes Try.prog) (ds ++ gs)).all (· ≤ reachBytes) = true := hsz0
  have hW' := hW
  obtain ⟨p, q, hA0, hV, rfl, hfz, hnd⟩ := hW
  have hA : DataW.TrodAll enc Try.prog W 0 (fun _ => true) true Try.f3.params.toList args.toList ds p := hA0
  rw [Try.params3] at hA hval hsz
  obtain ⟨v0, vs0, d0, ds0, p0, q0, hargs, rfl, rfl, h0, r0⟩ := trodAll_cons hA
  obtain ⟨v1, vs1, d1, ds1, p1, q1, rfl, rfl, rfl, h1, r1⟩ := trodAll_cons r0
  obtain ⟨rfl, rfl, rfl⟩ := trodAll_nil r1
  obtain rfl : args = #[v0, v1] := by cases args; simp_all
  obtain ⟨rfl, rfl⟩ := trodVars_none hV
  obtain ⟨a0, rfl, rfl, rfl, w0⟩ := open_int Try.underlying3 (hval 0 3 v0 rfl rfl) h0
  obtain ⟨A1, n1, c1, rfl⟩ := okWide_slice Try.underlying22 (hval 1 22 v1 rfl rfl)
  have k1 := h1
  have lt1 : ∀ x ∈ p1, x.block < W.heap.size := by obtain ⟨m, hm⟩ := k1; exact DataW.trod_lt m _ _ _ hm
  obtain ⟨l1, w1⟩ := open_cops h1 (fun m hm => of_decide_eq_true (List.all_eq_true.1 hsz _ (DataW.weights_mem_each (j := 1) (t := 22) rfl rfl m hm)))
  clear hA0 hval0 hsz hsz0
  refine (cellPlays_walk a0 A1 n1 c1 l1 W w0 w1).mono fun e W' ⟨he, bel⟩ => ?_
  subst he
  exact ⟨_, rfl, _, _, _, [], _, [], hW', trodAll_mk1 (shut_bool Try.underlying4 _), (trodAll_cons_mk (shut_int Try.underlying3 w0) (trodAll_cons_mk (Below.trod laidOut (by kernel_rfl) (of_decide_eq_true (by kernel_rfl)) k1 bel lt1) trodAll_mk0)), rfl, bel.frame _, fun h => by cases h⟩

theorem over : Rows.cellPlaysRow.holds Try.pinned (OpenSpec.ofChange Rows.cellPlaysSpec) :=
  OpenClaim.holds_of_wide 3 Try.f3 rfl rfl rfl rfl rfl rfl rfl ⟨rfl, rfl, rfl, rfl, rfl⟩ rfl rfl rfl rfl rfl (by kernel_rfl) Try.func3 (by kernel_rfl)
    (of_decide_eq_true (by kernel_rfl)) (by unfold Func.isWrapper; first | (rw [if_pos (by decide +kernel)]; kernel_rfl) | (rw [if_neg (by decide +kernel)]; exact ⟨rfl, rfl⟩))
    (fun os started H enc _ => lifted os started H enc)

theorem proved : Rows.CellPlaysSaid := over
#print axioms proved

end Go.Proofs.Ythalghjnnfohaaa.cellPlays
