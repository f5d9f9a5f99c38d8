/-
  CellCounts: each call of a word that there is is a step, and no other one; and changes are no more than swaps; for every number of words (a byte) and every script; no condition beyond the row's.
-/
import Derived.Test.YthalghjnnfohaaaCellHelp
namespace Go.Proofs.Ythalghjnnfohaaa
open Go.RowKit Go.Sort Go.ChangeShapes Go.WideShapes
set_option linter.unusedVariables false
set_option linter.unusedSimpArgs false

set_option maxRecDepth 100000 in
set_option maxHeartbeats 3000000 in
theorem cellCounts_walk (y0 : Int) (A : Option Addr) (m c : Nat) (l : List COp) (w : World) (hy : (Lit.int .u8 y0).wf = true) (ha : ArgC w A m c l) :
    Calls Try.prog 7 #[.int .u8 y0, .slice A m c] w fun e w' => e = .returned (.bool true) ∧ Below w.heap.size w w' := by
  obtain ⟨n, hn, rfl⟩ := byte_of hy
  obtain ⟨hlen, hcap, hsm, hls, hok⟩ := ha
  have HL := Lib.hid hlen
  have HLS := Lib.hid hls
  have HOK := Lib.hid hok
  clear hlen hls hok hy
  go_enter Try.func7, Try.ntmps7
  go_wp2_with fail
  refine (cellAwake_any w).mono ?_
  rintro e w1 ⟨rfl, hb1⟩
  by_cases hm : 300 < m
  · go_wp2_with fail
    refine (cellAwake_any _).mono ?_
    rintro e w3 ⟨rfl, hb3⟩
    go_wp2
    go_ret
    exact ⟨rfl, bthen hb1 hb3⟩
  have hw1 := hb1.size
  have HB1 := Lib.hid hb1
  clear hb1
  go_wp2_with fail
  refine (newI_any (n : Int) w1).mono ?_
  rintro e w2 ⟨b, g, rfl, hm2, hof, hb2⟩
  rw [wordsN_of n (by omega), map_zero] at hm2
  have HM2 := Lib.hid (show ∃ L : List Int, L.length = n ∧ MemI w2 b g (L.map (.int .i64)) 0 0 from ⟨_, by simp, hm2⟩)
  have HB2 := Lib.hid (bthen HB1.out hb2)
  have HO := Lib.hid hof
  clear hm2 hb2 hof HB1
  go_wp2
  go_loopw [6, 7, 26] (fun st sw i wr => ∃ k s q : Nat, k ≤ m ∧ s ≤ k ∧ q ≤ k ∧ i = .int .i64 k ∧ st = .int .i64 s ∧ sw = .int .i64 q ∧ Hid (∃ (L : List Int) (ch : Nat), L.length = n ∧ ch ≤ q ∧ MemI wr b g (L.map (.int .i64)) s ch) ∧ Hid (Below w.heap.size w wr) ∧ w1.heap.size ≤ wr.heap.size) (fun _ _ i _ => m - (intOf i).toNat)
  case atStart =>
    obtain ⟨L, hL, hmem⟩ := HM2.out
    exact ⟨0, 0, 0, Nat.zero_le _, Nat.le_refl _, Nat.le_refl _, rfl, rfl, rfl, Lib.hid ⟨L, 0, hL, Nat.le_refl _, hmem⟩, HB2, by have := lt_of_block hmem.box; have := HO.out b (.inl rfl); omega⟩
  case round =>
    obtain ⟨k, s, q, hk, hsk, hqk, rfl, rfl, rfl, HT, HB, hwr⟩ := hrel
    clear HM2 HB2
    obtain ⟨L, ch, hL, hch, hmem⟩ := HT.out
    have HMM := Lib.hid hmem
    have HLL := Lib.hid hL
    have hblt := hmem.lt
    have HBL := Lib.hid hblt
    clear hmem HT hL hblt
    by_cases hlt : k < m
    · obtain ⟨ad, x, rfl, hx, hl, g0, g1, g2, g3⟩ := (HLS.out.below HB.out).atC (i := k) (by rw [HL.out]; exact hlt)
      obtain ⟨xk, xi, xo, xx⟩ := x
      simp only at g0 g1 g2 g3
      clear hx
      obtain ⟨wa, hwa⟩ : ∃ wa, wa = wr.alloc (.cells #[.int .i64 xk, .int .i64 xi, .int .i64 xo, .int .i64 xx] 29) := ⟨_, rfl⟩
      have hba : Below wr.heap.size wr wa := by rw [hwa]; exact (Below.refl _ _).alloc (Nat.le_refl _) _
      have hal : wr.heap.size < wa.heap.size := by rw [hwa]; simp
      have c0 : wa.cell? ⟨wr.heap.size, 0, none⟩ = some (.int .i64 xk) := by rw [hwa, World.cell?_alloc_mark]; rfl
      have HC0 := Lib.hid c0
      have HWA := Lib.hid hwa
      have HMA := Lib.hid (HMM.out.below hba)
      have HBA := Lib.hid (bthen HB.out hba)
      have HNO := Lib.hid (show ¬ Of b g wr.heap.size from fun h => by have := HBL.out _ h; omega)
      clear hwa hba c0
      by_cases h1 : xk = 1
      · subst h1
        by_cases hp : 0 ≤ xi
        · by_cases hq : xi < (n : Int)
          · go_wp2_with fail
            rw [← HWA.out]
            refine (loadI HMA.out xi (by omega)).mono ?_
            rintro e w3 ⟨rfl, hm3, hk3⟩
            rw [show stepW L.length xi s = s + 1 by unfold stepW inW; rw [HLL.out]; exact if_pos ⟨by omega, by omega⟩] at hm3
            have d0 := hk3.cell (p := ⟨wr.heap.size, 0, none⟩) hal HNO.out HC0.out
            have HM3 := Lib.hid hm3
            have HB3 := Lib.hid (Keep.base HBA.out HBA.out.size (hk3.mono fun i _ h => Nat.le_trans hw1 (HO.out i h)))
            have hs3 := hk3.size
            clear hm3 hk3
            go_wp2
            exact ⟨⟨k + 1, s + 1, q, by omega, by omega, by omega, by go_num, by go_num, by go_num, Lib.hid ⟨L, _, HLL.out, hch, HM3.out⟩, HB3, by omega⟩, by simp [intOf]; omega⟩
          · go_wp2_with fail
            rw [← HWA.out]
            refine (loadI HMA.out xi (by omega)).mono ?_
            rintro e w3 ⟨rfl, hm3, hk3⟩
            rw [show stepW L.length xi s = s by unfold stepW inW; rw [HLL.out]; exact if_neg (by omega)] at hm3
            have d0 := hk3.cell (p := ⟨wr.heap.size, 0, none⟩) hal HNO.out HC0.out
            have HM3 := Lib.hid hm3
            have HB3 := Lib.hid (Keep.base HBA.out HBA.out.size (hk3.mono fun i _ h => Nat.le_trans hw1 (HO.out i h)))
            have hs3 := hk3.size
            clear hm3 hk3
            go_wp2
            exact ⟨⟨k + 1, s, q, by omega, by omega, by omega, by go_num, by go_num, by go_num, Lib.hid ⟨L, _, HLL.out, hch, HM3.out⟩, HB3, by omega⟩, by simp [intOf]; omega⟩
        · go_wp2_with fail
          rw [← HWA.out]
          refine (loadI HMA.out xi (by omega)).mono ?_
          rintro e w3 ⟨rfl, hm3, hk3⟩
          rw [show stepW L.length xi s = s by unfold stepW inW; rw [HLL.out]; exact if_neg (by omega)] at hm3
          have d0 := hk3.cell (p := ⟨wr.heap.size, 0, none⟩) hal HNO.out HC0.out
          have HM3 := Lib.hid hm3
          have HB3 := Lib.hid (Keep.base HBA.out HBA.out.size (hk3.mono fun i _ h => Nat.le_trans hw1 (HO.out i h)))
          have hs3 := hk3.size
          clear hm3 hk3
          go_wp2
          exact ⟨⟨k + 1, s, q, by omega, by omega, by omega, by go_num, by go_num, by go_num, Lib.hid ⟨L, _, HLL.out, hch, HM3.out⟩, HB3, by omega⟩, by simp [intOf]; omega⟩
      by_cases h2 : xk = 2
      · subst h2
        by_cases hp : 0 ≤ xi
        · by_cases hq : xi < (n : Int)
          · go_wp2_with fail
            rw [← HWA.out]
            refine (storeI HMA.out xi xx (by omega)).mono ?_
            rintro e w3 ⟨rfl, hm3, hk3⟩
            rw [show stepW L.length xi s = s + 1 by unfold stepW inW; rw [HLL.out]; exact if_pos ⟨by omega, by omega⟩] at hm3
            have d0 := hk3.cell (p := ⟨wr.heap.size, 0, none⟩) hal HNO.out HC0.out
            have HM3 := Lib.hid hm3
            have HB3 := Lib.hid (Keep.base HBA.out HBA.out.size (hk3.mono fun i _ h => Nat.le_trans hw1 (HO.out i h)))
            have hs3 := hk3.size
            clear hm3 hk3
            go_wp2
            exact ⟨⟨k + 1, s + 1, q, by omega, by omega, by omega, by go_num, by go_num, by go_num, Lib.hid ⟨setW L xi xx, _, (setW_length L xi xx).trans HLL.out, hch, HM3.out⟩, HB3, by omega⟩, by simp [intOf]; omega⟩
          · go_wp2_with fail
            rw [← HWA.out]
            refine (storeI HMA.out xi xx (by omega)).mono ?_
            rintro e w3 ⟨rfl, hm3, hk3⟩
            rw [show stepW L.length xi s = s by unfold stepW inW; rw [HLL.out]; exact if_neg (by omega)] at hm3
            have d0 := hk3.cell (p := ⟨wr.heap.size, 0, none⟩) hal HNO.out HC0.out
            have HM3 := Lib.hid hm3
            have HB3 := Lib.hid (Keep.base HBA.out HBA.out.size (hk3.mono fun i _ h => Nat.le_trans hw1 (HO.out i h)))
            have hs3 := hk3.size
            clear hm3 hk3
            go_wp2
            exact ⟨⟨k + 1, s, q, by omega, by omega, by omega, by go_num, by go_num, by go_num, Lib.hid ⟨setW L xi xx, _, (setW_length L xi xx).trans HLL.out, hch, HM3.out⟩, HB3, by omega⟩, by simp [intOf]; omega⟩
        · go_wp2_with fail
          rw [← HWA.out]
          refine (storeI HMA.out xi xx (by omega)).mono ?_
          rintro e w3 ⟨rfl, hm3, hk3⟩
          rw [show stepW L.length xi s = s by unfold stepW inW; rw [HLL.out]; exact if_neg (by omega)] at hm3
          have d0 := hk3.cell (p := ⟨wr.heap.size, 0, none⟩) hal HNO.out HC0.out
          have HM3 := Lib.hid hm3
          have HB3 := Lib.hid (Keep.base HBA.out HBA.out.size (hk3.mono fun i _ h => Nat.le_trans hw1 (HO.out i h)))
          have hs3 := hk3.size
          clear hm3 hk3
          go_wp2
          exact ⟨⟨k + 1, s, q, by omega, by omega, by omega, by go_num, by go_num, by go_num, Lib.hid ⟨setW L xi xx, _, (setW_length L xi xx).trans HLL.out, hch, HM3.out⟩, HB3, by omega⟩, by simp [intOf]; omega⟩
      by_cases h3 : xk = 3
      · subst h3
        by_cases hp : 0 ≤ xi
        · by_cases hq : xi < (n : Int)
          · go_wp2_with fail
            rw [← HWA.out]
            refine (casI HMA.out xi xo xx (by omega) (by omega)).mono ?_
            rintro e w3 ⟨rfl, hm3, hk3⟩
            rw [show stepW L.length xi s = s + 1 by unfold stepW inW; rw [HLL.out]; exact if_pos ⟨by omega, by omega⟩] at hm3
            have d0 := hk3.cell (p := ⟨wr.heap.size, 0, none⟩) hal HNO.out HC0.out
            have HM3 := Lib.hid hm3
            have HB3 := Lib.hid (Keep.base HBA.out HBA.out.size (hk3.mono fun i _ h => Nat.le_trans hw1 (HO.out i h)))
            have hs3 := hk3.size
            clear hm3 hk3
            go_wp2
            exact ⟨⟨k + 1, s + 1, q + 1, by omega, by omega, by omega, by go_num, by go_num, by go_num, Lib.hid ⟨casW L xi xo xx, _, (casW_length L xi xo xx).trans HLL.out, Nat.le_trans (changeW_le L xi xo ch) (by omega), HM3.out⟩, HB3, by omega⟩, by simp [intOf]; omega⟩
          · go_wp2_with fail
            rw [← HWA.out]
            refine (casI HMA.out xi xo xx (by omega) (by omega)).mono ?_
            rintro e w3 ⟨rfl, hm3, hk3⟩
            rw [show stepW L.length xi s = s by unfold stepW inW; rw [HLL.out]; exact if_neg (by omega)] at hm3
            have d0 := hk3.cell (p := ⟨wr.heap.size, 0, none⟩) hal HNO.out HC0.out
            have HM3 := Lib.hid hm3
            have HB3 := Lib.hid (Keep.base HBA.out HBA.out.size (hk3.mono fun i _ h => Nat.le_trans hw1 (HO.out i h)))
            have hs3 := hk3.size
            clear hm3 hk3
            go_wp2
            exact ⟨⟨k + 1, s, q, by omega, by omega, by omega, by go_num, by go_num, by go_num, Lib.hid ⟨casW L xi xo xx, _, (casW_length L xi xo xx).trans HLL.out, by rw [show changeW L xi xo ch = ch from if_neg (by unfold swapW; rw [decide_eq_false (fun h => by have := h.1; unfold inW at this; rw [HLL.out] at this; omega)]; decide)]; exact hch, HM3.out⟩, HB3, by omega⟩, by simp [intOf]; omega⟩
        · go_wp2_with fail
          rw [← HWA.out]
          refine (casI HMA.out xi xo xx (by omega) (by omega)).mono ?_
          rintro e w3 ⟨rfl, hm3, hk3⟩
          rw [show stepW L.length xi s = s by unfold stepW inW; rw [HLL.out]; exact if_neg (by omega)] at hm3
          have d0 := hk3.cell (p := ⟨wr.heap.size, 0, none⟩) hal HNO.out HC0.out
          have HM3 := Lib.hid hm3
          have HB3 := Lib.hid (Keep.base HBA.out HBA.out.size (hk3.mono fun i _ h => Nat.le_trans hw1 (HO.out i h)))
          have hs3 := hk3.size
          clear hm3 hk3
          go_wp2
          exact ⟨⟨k + 1, s, q, by omega, by omega, by omega, by go_num, by go_num, by go_num, Lib.hid ⟨casW L xi xo xx, _, (casW_length L xi xo xx).trans HLL.out, by rw [show changeW L xi xo ch = ch from if_neg (by unfold swapW; rw [decide_eq_false (fun h => by have := h.1; unfold inW at this; rw [HLL.out] at this; omega)]; decide)]; exact hch, HM3.out⟩, HB3, by omega⟩, by simp [intOf]; omega⟩
      by_cases hp : 0 ≤ xi
      · by_cases hq : xi < (n : Int)
        · go_wp2_with fail
          rw [← HWA.out]
          exact ⟨⟨k + 1, s, q, by omega, by omega, by omega, by go_num, by go_num, by go_num, Lib.hid ⟨L, _, HLL.out, hch, HMA.out⟩, HBA, by omega⟩, by simp [intOf]; omega⟩
        · go_wp2_with fail
          rw [← HWA.out]
          exact ⟨⟨k + 1, s, q, by omega, by omega, by omega, by go_num, by go_num, by go_num, Lib.hid ⟨L, _, HLL.out, hch, HMA.out⟩, HBA, by omega⟩, by simp [intOf]; omega⟩
      · go_wp2_with fail
        rw [← HWA.out]
        exact ⟨⟨k + 1, s, q, by omega, by omega, by omega, by go_num, by go_num, by go_num, Lib.hid ⟨L, _, HLL.out, hch, HMA.out⟩, HBA, by omega⟩, by simp [intOf]; omega⟩
    · have he : k = m := by omega
      subst he
      have hcq : (ch : Int) ≤ (q : Int) := by omega
      go_wp2_with fail
      refine (stepsI_any HMM.out.c1).mono ?_
      rintro e w4 ⟨rfl, rfl⟩
      go_wp2_with fail
      refine (changesI_any HMM.out.c2).mono ?_
      rintro e w5 ⟨rfl, rfl⟩
      go_wp2
      go_ret
      exact ⟨rfl, HB.out⟩

end Go.Proofs.Ythalghjnnfohaaa

namespace Go.Proofs.Ythalghjnnfohaaa.cellCounts
open Go.ChangeShapes Go.WideShapes Go.ChangeAt Go.RowKit
open Go.ChangeMaps (open_string shut_string)
set_option linter.unusedVariables false

theorem own : ownKnob Try.prog.godebug = none := by kernel_rfl
theorem laidOut : laidOutB Try.prog = true := by kernel_rfl

set_option maxRecDepth 100000 in
theorem lifted (os : Os) (started : os.Started) (H : Type) (enc : TypeId × Value → H) :
    ReturnsInHanded {} Try.checked os 7 .any (Rows.cellCountsSpec.pre6 enc Try.prog Try.f7 Rows.cellCountsRow.domain false) (Rows.cellCountsSpec.post enc Try.prog Try.f7 false true false false) := by
  refine returnsInHanded_of_change_sized (C := Try.checked) own started (by kernel_rfl) Try.func7
    (ChangeSpec.witness6 (enc := enc) (C := Try.checked) false ⟨#[], #[.int .u8 0, .slice none 0 0], []⟩ 8 (by kernel_rfl) (by kernel_rfl) (by kernel_rfl) (by kernel_rfl)) ?_
  intro W base args ds gs before hval0 hW hcnd hsz0 _
  have hval : ∀ (j : Nat) t v, Try.f7.params[j]? = some t → args[j]? = some v → Value.okWide Try.prog W .any base t v := hval0
  have hsz : (DataW.weightsEach Try.prog (Try.f7.params.toList ++ Rows.cellCountsSpec.plain.varTypes Try.prog) (ds ++ gs)).all (· ≤ reachBytes) = true := hsz0
  have hW' := hW
  obtain ⟨p, q, hA0, hV, rfl, hfz, hnd⟩ := hW
  have hA : DataW.TrodAll enc Try.prog W 0 (fun _ => true) true Try.f7.params.toList args.toList ds p := hA0
  rw [Try.params7] at hA hval hsz
  obtain ⟨v0, vs0, d0, ds0, p0, q0, hargs, rfl, rfl, h0, r0⟩ := trodAll_cons hA
  obtain ⟨v1, vs1, d1, ds1, p1, q1, rfl, rfl, rfl, h1, r1⟩ := trodAll_cons r0
  obtain ⟨rfl, rfl, rfl⟩ := trodAll_nil r1
  obtain rfl : args = #[v0, v1] := by cases args; simp_all
  obtain ⟨rfl, rfl⟩ := trodVars_none hV
  obtain ⟨a0, rfl, rfl, rfl, w0⟩ := open_int Try.underlying5 (hval 0 5 v0 rfl rfl) h0
  obtain ⟨A1, n1, c1, rfl⟩ := okWide_slice Try.underlying22 (hval 1 22 v1 rfl rfl)
  have k1 := h1
  have lt1 : ∀ x ∈ p1, x.block < W.heap.size := by obtain ⟨m, hm⟩ := k1; exact DataW.trod_lt m _ _ _ hm
  obtain ⟨l1, w1⟩ := open_cops h1 (fun m hm => of_decide_eq_true (List.all_eq_true.1 hsz _ (DataW.weights_mem_each (j := 1) (t := 22) rfl rfl m hm)))
  clear hA0 hval0 hsz hsz0
  refine (cellCounts_walk a0 A1 n1 c1 l1 W w0 w1).mono fun e W' ⟨he, bel⟩ => ?_
  subst he
  exact ⟨_, rfl, _, _, _, [], _, [], hW', trodAll_mk1 (shut_bool Try.underlying4 _), (trodAll_cons_mk (shut_int Try.underlying5 w0) (trodAll_cons_mk (Below.trod laidOut (by kernel_rfl) (of_decide_eq_true (by kernel_rfl)) k1 bel lt1) trodAll_mk0)), rfl, bel.frame _, fun h => by cases h⟩

theorem over : Rows.cellCountsRow.holds Try.pinned (OpenSpec.ofChange Rows.cellCountsSpec) :=
  OpenClaim.holds_of_wide 7 Try.f7 rfl rfl rfl rfl rfl rfl rfl ⟨rfl, rfl, rfl, rfl, rfl⟩ rfl rfl rfl rfl rfl (by kernel_rfl) Try.func7 (by kernel_rfl)
    (of_decide_eq_true (by kernel_rfl)) (by unfold Func.isWrapper; first | (rw [if_pos (by decide +kernel)]; kernel_rfl) | (rw [if_neg (by decide +kernel)]; exact ⟨rfl, rfl⟩))
    (fun os started H enc _ => lifted os started H enc)

theorem proved : Rows.CellCountsSaid := over
#print axioms proved

end Go.Proofs.Ythalghjnnfohaaa.cellCounts
