/-
  DeviceStays: what is synced stays, whatever crashes come, if nothing is written on it; for every script and crash; no condition beyond the row's.
-/
import Derived.Test.YthjgcbpanfiacaaDevPages
namespace Go.Proofs.Ythjgcbpanfiacaa
open Go.RowKit Go.Sort Go.ChangeShapes Go.WideShapes
set_option linter.unusedVariables false

set_option maxRecDepth 100000 in
set_option maxHeartbeats 4000000 in
theorem deviceStays_walk (A : Option Addr) (n c : Nat) (l : List OP) (keep torn part : Int) (w : World) (ha : ArgO w A n c l) (hkp : (Lit.int .u64 keep).wf = true) (htn : (Lit.int .i64 torn).wf = true) (hpt : (Lit.int .i64 part).wf = true) :
    Calls Try.prog 5 #[.slice A n c, .int .u64 keep, .int .i64 torn, .int .i64 part] w fun e w' => e = .returned (.bool true) ∧ Below w.heap.size w w' := by
  have hk1 := wf_u64 hkp
  obtain ⟨kp, rfl⟩ : ∃ k : Nat, keep = (k : Int) := ⟨keep.toNat, by omega⟩
  have hkp2 : kp < 18446744073709551616 := by omega
  clear hkp htn hpt hk1
  obtain ⟨hlen, hcap, hsm, hls, hok⟩ := ha
  have HL := Lib.hid hlen
  have HLS := Lib.hid hls
  have HOK := Lib.hid hok
  clear hlen hls hok
  go_enter Try.func5, Try.ntmps5
  go_wp2_with fail
  refine (devAwake_any w).mono ?_
  rintro e w1 ⟨rfl, hb1⟩
  go_wp2_with fail
  refine (fewO_any A n c l w1 (HLS.out.below hb1) HL.out hsm (fun z hz => (HOK.out z hz).b)).mono ?_
  rintro e w2 ⟨rfl, rfl⟩
  by_cases hf : FewO l
  case neg =>
    rw [decide_eq_false hf]
    go_wp2_with fail
    refine (devAwake_any _).mono ?_
    rintro e w3 ⟨rfl, hb3⟩
    go_wp2
    go_ret
    exact ⟨rfl, bthen hb1 hb3⟩
  rw [decide_eq_true hf]
  have hn : n ≤ 150 := by rw [← HL.out]; exact hf.1
  clear hf
  go_wp2_with fail
  refine (newB_any 16 w2).mono ?_
  rintro e w3 ⟨b, rfl, hd3, hb3⟩
  rw [show pagesN 16 = 16 from rfl] at hd3
  have HD3 := Lib.hid hd3
  have HB3 := Lib.hid (bthen hb1 hb3)
  have hw1 := hb1.size
  clear hd3 hb1 hb3
  generalize List.replicate (16 * 256) (0 : UInt8) = st at HD3
  go_wp2
  go_loopw [27] (fun i wr => ∃ k : Nat, k ≤ n ∧ i = .int .i64 k ∧ Hid (∃ pd, DevB w2.heap.size wr b 16 st pd ∧ pd.length ≤ k) ∧ Hid (Below w.heap.size w wr)) (fun i _ => n - (intOf i).toNat)
  case atStart => exact ⟨0, Nat.zero_le _, rfl, Lib.hid ⟨_, HD3.out, by simp⟩, HB3⟩
  case round =>
    obtain ⟨k, hk, rfl, HD, HB⟩ := hrel
    clear HD3 HB3
    by_cases hlt : k < n
    · obtain ⟨ad, x, rfl, hx, hl, h0, h1, h2, _, _⟩ := (HLS.out.below HB.out).atO (i := k) (by rw [HL.out]; exact hlt)
      obtain ⟨pd, hd, hpl⟩ := HD.out
      have HDD := Lib.hid hd
      clear hd HD hx
      by_cases hkd : x.kind = 1
      · rw [hkd] at h0
        have hsz := hl
        have h1' : ∀ q' : Dc.Past [] wr.drew, q'.val.cell? ⟨(ad.add (k * 5)).block, (ad.add (k * 5)).off + 1, none⟩ = some (.int .i64 x.i) := fun q' => (q'.ok.cell (by rw [block_of_add]; exact hl) (by simp)).trans h1
        have h2' : ∀ q' : Dc.Past [] wr.drew, q'.val.cell? ⟨(ad.add (k * 5)).block, (ad.add (k * 5)).off + 2, none⟩ = some (.int .i64 x.n) := fun q' => (q'.ok.cell (by rw [block_of_add]; exact hl) (by simp)).trans h2
        have ha7 := and7 x.i
        clear h1 h2
        go_wp2
        refine Dc.wp_region_segs 14 [] [([0, 1, 2, 3, 4, 5, 6, 7, 8, 9, 10, 11, 12], 13), ([], 14)] [] (by kernel_rfl) (by kernel_rfl) (by kernel_rfl) (by kernel_rfl) (by kernel_rfl) (by intro c a d v w h; cases d <;> exact h) ?_
        refine Dc.wpSegs_more ?_
        simp only [Dc.pick, List.getElem?_cons_zero, List.getElem?_cons_succ]
        repeat (first | go_big_quiet_step (fail) | quiet_step (fail))
        refine wpQuiet_nil ?_
        refine Dc.wpOp_heavy rfl (by rfl) (fun K hK => ?_)
        go_simp
        refine (full8 x.n wr.drew).mono ?_
        rintro e w5 ⟨g5, rfl, hg5, hrow5, hb5⟩
        have HD5 := Lib.hid (HDD.out.drew.below hb5)
        have HB5 := Lib.hid (bthen (bthen HB.out (Below.refl _ _).drew) hb5)
        have HR5 := Lib.hid hrow5
        refine hK _ _ (fun _ => Dc.But.of_below hb5) ?_
        clear hK K hrow5 hb5 HDD HB hg5 h1' h2'
        refine Dc.wpSegs_more ?_
        simp only [Dc.pick]
        refine wpQuiet_nil ?_
        refine Dc.wpOp_heavy rfl (by rfl) (fun K hK => ?_)
        go_simp
        refine (writeFullB_any (p7 x.i) (b8 x.n) g5 256 HD5.out (by have := p7_lt x.i; omega) HR5.out (by omega)).mono ?_
        rintro e w6 ⟨rfl, hd6, hb6⟩
        have HD6 := Lib.hid hd6
        have HB6 := Lib.hid (HB5.out.trans (hb6.mono hw1))
        refine hK _ _ (fun h => absurd rfl h) ?_
        clear hK K hd6 hb6 HD5 HB5 HR5
        refine Dc.wpSegs_last ?_
        simp only [Dc.pick]
        refine wpQuiet_nil ?_
        go_wp2
        exact ⟨⟨k + 1, by omega, by go_num, Lib.hid ⟨_, HD6.out, by rw [List.length_append, List.length_singleton]; omega⟩, HB6⟩, by simp [intOf]; omega⟩
      · have hkb : (x.kind == 1) = false := by simp [hkd]
        clear hkd h1 h2
        go_wp2
        exact ⟨⟨k + 1, by omega, by go_num, Lib.hid ⟨_, HDD.out, by omega⟩, HB⟩, by simp [intOf]; omega⟩
    obtain rfl : k = n := by omega
    obtain ⟨pd, hd, hpl⟩ := HD.out
    have HDD := Lib.hid hd
    clear hd HD
    go_wp2_with fail
    refine (syncB_any HDD.out (by omega)).mono ?_
    rintro e w4 ⟨rfl, hd4, hb4⟩
    have HD4 := Lib.hid hd4
    have HB4 := Lib.hid (HB.out.trans (hb4.mono hw1))
    clear hd4 hb4 HDD HB
    generalize allN st pd pd.length = st1 at HD4
    go_wp2_with fail
    refine (devBytes_any HD4.out.2 (by simp)).mono ?_
    rintro e w5 ⟨g5, rfl, hg5, hrow5, hb5⟩
    rw [show allN st1 [] ([] : List WR).length = st1 from rfl] at hrow5
    have hln := HD4.out.lens.1
    have cv5 := conv_rd (c := 16 * 256) (rd_whole hrow5) hln
    obtain ⟨s1, hs1⟩ : ∃ s : ByteArray, s = ⟨st1.toArray⟩ := ⟨_, rfl⟩
    rw [← hs1] at cv5
    have hs1z : s1.size = 4096 := by rw [hs1]; show st1.toArray.size = _; rw [List.size_toArray, hln]
    have HS1 := Lib.hid hs1
    have HD5 := Lib.hid (HD4.out.below hb5)
    have HB5 := Lib.hid (bthen HB4.out hb5)
    have HLN := Lib.hid hln
    clear hrow5 hb5 HD4 HB4 hg5 hln hs1
    go_wp2
    go_loopw [59] (fun i wr => ∃ j : Nat, j ≤ k ∧ i = .int .i64 j ∧ Hid (∃ pd, DevB w2.heap.size wr b 16 st1 pd ∧ pd.length ≤ j ∧ ∀ x ∈ pd, 8 ≤ x.page) ∧ Hid (Below w.heap.size w wr)) (fun i _ => k - (intOf i).toNat)
    case atStart => exact ⟨0, Nat.zero_le _, rfl, Lib.hid ⟨_, HD5.out, by simp, by simp⟩, HB5⟩
    case round =>
      clear cv5
      obtain ⟨j, hj, rfl, HD, HB⟩ := hrel
      clear HD5 HB5
      by_cases hlt : j < k
      · obtain ⟨ad, x, rfl, hx, hl, h0, h1, h2, _, _⟩ := (HLS.out.below HB.out).atO (i := j) (by rw [HL.out]; exact hlt)
        obtain ⟨pd, hd, hpl, hpg⟩ := HD.out
        have HDD := Lib.hid hd
        have HPG := Lib.hid hpg
        clear hd HD hx hpg
        by_cases hkd : x.kind = 1
        · rw [hkd] at h0
          have h1' : ∀ q' : Dc.Past [] wr.drew, q'.val.cell? ⟨(ad.add (j * 5)).block, (ad.add (j * 5)).off + 1, none⟩ = some (.int .i64 x.i) := fun q' => (q'.ok.cell (by rw [block_of_add]; exact hl) (by simp)).trans h1
          have h2' : ∀ q' : Dc.Past [] wr.drew, q'.val.cell? ⟨(ad.add (j * 5)).block, (ad.add (j * 5)).off + 2, none⟩ = some (.int .i64 x.n) := fun q' => (q'.ok.cell (by rw [block_of_add]; exact hl) (by simp)).trans h2
          have ha7 := and7 x.i
          have hq7 := p7_lt x.i
          obtain ⟨q, hq⟩ : ∃ q : Nat, 8 + (p7 x.i : Int) = (q : Int) := ⟨8 + p7 x.i, by omega⟩
          have hq1 : q < 16 := by omega
          have hq2 : 8 ≤ q := by omega
          clear h1 h2
          go_wp2
          refine Dc.wp_region_segs 15 [] [([0, 1, 2, 3, 4, 5, 6, 7, 8, 9, 10, 11, 12, 13], 14), ([], 15)] [] (by kernel_rfl) (by kernel_rfl) (by kernel_rfl) (by kernel_rfl) (by kernel_rfl) (by intro c a d v w h; cases d <;> exact h) ?_
          refine Dc.wpSegs_more ?_
          simp only [Dc.pick, List.getElem?_cons_zero, List.getElem?_cons_succ]
          repeat (first | go_big_quiet_step (fail) | quiet_step (fail))
          refine wpQuiet_nil ?_
          refine Dc.wpOp_heavy rfl (by rfl) (fun K hK => ?_)
          go_simp
          refine (full8 x.n wr.drew).mono ?_
          rintro e w6 ⟨g6, rfl, hg6, hrow6, hb6⟩
          have HD6 := Lib.hid (HDD.out.drew.below hb6)
          have HB6 := Lib.hid (bthen (bthen HB.out (Below.refl _ _).drew) hb6)
          have HR6 := Lib.hid hrow6
          refine hK _ _ (fun _ => Dc.But.of_below hb6) ?_
          clear hK K hrow6 hb6 HDD HB hg6 h1' h2'
          refine Dc.wpSegs_more ?_
          simp only [Dc.pick]
          refine wpQuiet_nil ?_
          refine Dc.wpOp_heavy rfl (by rfl) (fun K hK => ?_)
          go_simp
          refine (writeFullB_any q (b8 x.n) g6 256 HD6.out hq1 HR6.out (by omega)).mono ?_
          rintro e w7 ⟨rfl, hd7, hb7⟩
          have HD7 := Lib.hid hd7
          have HB7 := Lib.hid (HB6.out.trans (hb7.mono hw1))
          refine hK _ _ (fun h => absurd rfl h) ?_
          clear hK K hd7 hb7 HD6 HB6 HR6
          refine Dc.wpSegs_last ?_
          simp only [Dc.pick]
          refine wpQuiet_nil ?_
          go_wp2
          refine ⟨⟨j + 1, by omega, by go_num, Lib.hid ⟨_, HD7.out, by rw [List.length_append, List.length_singleton]; omega, fun y hy => ?_⟩, HB7⟩, by simp [intOf]; omega⟩
          rcases List.mem_append.1 hy with h | h
          · exact HPG.out y h
          · rw [List.mem_singleton.1 h]
            exact hq2
        · have hkb : (x.kind == 1) = false := by simp [hkd]
          clear hkd h1 h2
          go_wp2
          exact ⟨⟨j + 1, by omega, by go_num, Lib.hid ⟨_, HDD.out, by omega, HPG.out⟩, HB⟩, by simp [intOf]; omega⟩
      obtain rfl : j = k := by omega
      obtain ⟨pd2, hd, hpl2, hpg⟩ := HD.out
      have HDD := Lib.hid hd
      have HPG := Lib.hid hpg
      clear hd HD hpg
      go_wp2_with fail
      refine (crashB_any kp torn part HDD.out (by omega) hkp2).mono ?_
      rintro e w6 ⟨rfl, hd6, hb6⟩
      have HT := Lib.hid (crash_take (keep := kp) (torn := torn) (part := part) (k := 8) HLN.out HDD.out.lens.2.2 HPG.out pd2.length)
      have HD6 := Lib.hid hd6
      have HB6 := Lib.hid (HB.out.trans (hb6.mono hw1))
      clear hd6 hb6 HDD HB HPG
      generalize crashN kp torn part st1 pd2 pd2.length = st2 at HD6 HT
      go_wp2_with fail
      refine (devBytes_any HD6.out.2 (by simp)).mono ?_
      rintro e w7 ⟨g7, rfl, hg7, hrow7, hb7⟩
      rw [show allN st2 [] ([] : List WR).length = st2 from rfl] at hrow7
      have hln := HD6.out.lens.1
      have cv7 := conv_rd (c := 16 * 256) (rd_whole hrow7) hln
      obtain ⟨s2, hs2⟩ : ∃ s : ByteArray, s = ⟨st2.toArray⟩ := ⟨_, rfl⟩
      rw [← hs2] at cv7
      have hs2z : s2.size = 4096 := by rw [hs2]; show st2.toArray.size = _; rw [List.size_toArray, hln]
      have hex : s2.extract 0 2048 = s1.extract 0 2048 := by
        rw [HS1.out, hs2]
        exact extract_of_take HT.out
      have HD7 := Lib.hid ((HD6.out.below hb7).drew)
      have HB7 := Lib.hid (bthen (bthen HB6.out hb7) (Below.refl _ _).drew)
      clear hrow7 hb7 HD6 HB6 hg7 hln hs2 HS1 HT
      go_wp2_with fail
      refine wp_region_segs [([0, 1, 2, 3, 4, 5, 6, 7, 8, 9, 10, 11, 12, 13], 14)] [15, 16, 17] (by kernel_rfl) (by kernel_rfl) (by kernel_rfl) (by kernel_rfl) (by intro c a d v w h; cases d <;> exact h) ?_
      refine wpSegs_more ?_
      simp only [pick, List.getElem?_cons_zero, List.getElem?_cons_succ]
      repeat (first | go_big_quiet_step (fail) | quiet_step (fail))
      refine wpQuiet_nil ?_
      refine wpOp_heavy rfl (by rfl) (fun K hK => ?_)
      go_simp
      refine (waiting_any HD7.out.2).mono ?_
      rintro e w8 ⟨rfl, rfl⟩
      refine hK _ _ (Below.refl _ _) ?_
      clear hK K
      refine wpSegs_last ?_
      simp only [pick, List.getElem?_cons_zero, List.getElem?_cons_succ]
      repeat (first | go_big_quiet_step (fail) | quiet_step (fail))
      refine wpQuiet_nil ?_
      go_wp2
      go_ret
      exact ⟨rfl, HB7.out⟩

end Go.Proofs.Ythjgcbpanfiacaa

namespace Go.Proofs.Ythjgcbpanfiacaa.deviceStays
open Go.ChangeShapes Go.WideShapes Go.ChangeAt Go.RowKit
open Go.ChangeMaps (open_string shut_string)
set_option linter.unusedVariables false

theorem own : ownKnob Try.prog.godebug = none := by kernel_rfl
theorem laidOut : laidOutB Try.prog = true := by kernel_rfl

set_option maxRecDepth 100000 in
theorem lifted (os : Os) (started : os.Started) (H : Type) (enc : TypeId × Value → H) :
    ReturnsInHanded {} Try.checked os 5 .any (Rows.deviceStaysSpec.pre6 enc Try.prog Try.f5 Rows.deviceStaysRow.domain false) (Rows.deviceStaysSpec.post enc Try.prog Try.f5 false true false false) := by
  refine returnsInHanded_of_change_sized (C := Try.checked) own started (by kernel_rfl) Try.func5
    (ChangeSpec.witness6 (enc := enc) (C := Try.checked) false ⟨#[], #[.slice none 0 0, .int .u64 0, .int .i64 0, .int .i64 0], []⟩ 8 (by kernel_rfl) (by kernel_rfl) (by kernel_rfl) (by kernel_rfl)) ?_
  intro W base args ds gs before hval0 hW hcnd hsz0 _
  have hval : ∀ (j : Nat) t v, Try.f5.params[j]? = some t → args[j]? = some v → Value.okWide Try.prog W .any base t v := hval0
  have hsz : (DataW.weightsEach Try.prog (Try.f5.params.toList ++ Rows.deviceStaysSpec.plain.varTypes Try.prog) (ds ++ gs)).all (· ≤ reachBytes) = true := hsz0
  have hW' := hW
  obtain ⟨p, q, hA0, hV, rfl, hfz, hnd⟩ := hW
  have hA : DataW.TrodAll enc Try.prog W 0 (fun _ => true) true Try.f5.params.toList args.toList ds p := hA0
  rw [Try.params5] at hA hval hsz
  obtain ⟨v0, vs0, d0, ds0, p0, q0, hargs, rfl, rfl, h0, r0⟩ := trodAll_cons hA
  obtain ⟨v1, vs1, d1, ds1, p1, q1, rfl, rfl, rfl, h1, r1⟩ := trodAll_cons r0
  obtain ⟨v2, vs2, d2, ds2, p2, q2, rfl, rfl, rfl, h2, r2⟩ := trodAll_cons r1
  obtain ⟨v3, vs3, d3, ds3, p3, q3, rfl, rfl, rfl, h3, r3⟩ := trodAll_cons r2
  obtain ⟨rfl, rfl, rfl⟩ := trodAll_nil r3
  obtain rfl : args = #[v0, v1, v2, v3] := by cases args; simp_all
  obtain ⟨rfl, rfl⟩ := trodVars_none hV
  obtain ⟨A0, n0, c0, rfl⟩ := okWide_slice Try.underlying22 (hval 0 22 v0 rfl rfl)
  have k0 := h0
  have lt0 : ∀ x ∈ p0, x.block < W.heap.size := by obtain ⟨m, hm⟩ := k0; exact DataW.trod_lt m _ _ _ hm
  obtain ⟨l0, w0⟩ := open_ops h0 (fun m hm => of_decide_eq_true (List.all_eq_true.1 hsz _ (DataW.weights_mem_each (j := 0) (t := 22) rfl rfl m hm)))
  obtain ⟨a1, rfl, rfl, rfl, w1⟩ := open_int Try.underlying30 (hval 1 30 v1 rfl rfl) h1
  obtain ⟨a2, rfl, rfl, rfl, w2⟩ := open_int Try.underlying3 (hval 2 3 v2 rfl rfl) h2
  obtain ⟨a3, rfl, rfl, rfl, w3⟩ := open_int Try.underlying3 (hval 3 3 v3 rfl rfl) h3
  clear hA0 hval0 hsz hsz0
  refine (deviceStays_walk A0 n0 c0 l0 a1 a2 a3 W w0 w1 w2 w3).mono fun e W' ⟨he, bel⟩ => ?_
  subst he
  exact ⟨_, rfl, _, _, _, [], _, [], hW', trodAll_mk1 (shut_bool Try.underlying4 _), (trodAll_cons_mk (Below.trod laidOut (by kernel_rfl) (of_decide_eq_true (by kernel_rfl)) k0 bel lt0) (trodAll_cons_mk (shut_int Try.underlying30 w1) (trodAll_cons_mk (shut_int Try.underlying3 w2) (trodAll_cons_mk (shut_int Try.underlying3 w3) trodAll_mk0)))), rfl, bel.frame _, fun h => by cases h⟩

theorem over : Rows.deviceStaysRow.holds Try.pinned (OpenSpec.ofChange Rows.deviceStaysSpec) :=
  OpenClaim.holds_of_wide 5 Try.f5 rfl rfl rfl rfl rfl rfl rfl ⟨rfl, rfl, rfl, rfl, rfl⟩ rfl rfl rfl rfl rfl (by kernel_rfl) Try.func5 (by kernel_rfl)
    (of_decide_eq_true (by kernel_rfl)) (by unfold Func.isWrapper; first | (rw [if_pos (by decide +kernel)]; kernel_rfl) | (rw [if_neg (by decide +kernel)]; exact ⟨rfl, rfl⟩))
    (fun os started H enc _ => lifted os started H enc)

theorem proved : Rows.DeviceStaysSaid := over
#print axioms proved

end Go.Proofs.Ythjgcbpanfiacaa.deviceStays
