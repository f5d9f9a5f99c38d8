/-
  ShadowLies: the pages of a planned tree are those of its nodes that were known, and those that were written, each one node's alone; for every two lists; no condition beyond the row's.
-/
import Derived.Test.YtmpmeifpfmobfaaGreatDoorShApart
import Derived.Test.YtmpmeifpfmobfaaGreatDoorTie
import Derived.Test.YtmpmeifpfmobfaaGreatDoorCards
import Derived.SevenTiedAt
namespace Go.Proofs.YtmpmeifpfmobfaaGreatDoor
open Go.RowKit Go.Sort
set_option linter.unusedVariables false
set_option linter.unusedSimpArgs false

theorem boolinfo : (Tryz.prog.info? 4).map (fun i => (i.zero, i.size, i.bytes)) = some (some (.bool false), 1, 1) := by kernel_rfl
theorem run_make_bools (n : Nat) (hb : n ≤ 1000000) (w : World) :
    (Instr.makeSlice 77 (.int .i64 (n : Int)) (.int .i64 (n : Int))).run Tryz.prog w = .ok (.slice (some ⟨w.heap.size, 0, none⟩) n n) (w.alloc (.cells (List.replicate n (.bool false)).toArray 4)) := by
  obtain ⟨i0, hi0, hz0, hz1, hz2⟩ := info_parts boolinfo
  have hr := run_make (P := Tryz.prog) w 77 4 i0 _ Tryz.underlying77 hi0 hz0 .i64 .i64 (n : Int) (n : Int) (by omega) (by omega) (by rw [hz2]; omega) (by omega)
  rw [hz1] at hr
  rw [← made_list]
  simpa [Value.cells] using hr
theorem ls_new {wq W : World} (h : Below wq.heap.size wq W) (x : Int) {mb : Nat} (hm : W.heap[mb]? = some (.cells #[.int .i64 x] 3 (0, 0))) (hmb : wq.heap.size ≤ mb) :
    LS wq mb W.heap.size x noMark (W.alloc (.cells (List.replicate 512 (.bool false)).toArray 4)) := by
  have hb : Below W.heap.size W (W.alloc (.cells (List.replicate 512 (.bool false)).toArray 4)) := (Below.refl _ _).alloc (Nat.le_refl _) _
  exact ⟨h.trans (hb.mono h.size), (hb.block _ (lt_of_block hm)).trans hm, ⟨_, heap_alloc_new _ _, by rw [List.size_toArray, List.length_replicate], fun i hi => by rw [List.getElem?_toArray, List.getElem?_replicate, if_pos hi]; rfl⟩, hmb, h.size⟩
set_option maxRecDepth 100000 in
set_option maxHeartbeats 8000000 in
theorem shadowLies_walk (A : Option Addr) (n c : Nat) (l : List TOp) (B : Option Addr) (m d : Nat) (l' : List TOp) (w : World) (hh : Half w) (ha : ArgT w A n c l) (ha' : ArgT w B m d l') :
    Calls Tryz.prog 7 #[.slice A n c, .slice B m d] w fun e w' => e = .returned (.bool true) ∧ Below w.heap.size w w' := by
  have HH := Lib.hid hh
  have HA := Lib.hid ha
  have HA' := Lib.hid ha'
  clear hh ha ha'
  go_enter Tryz.func7, Tryz.ntmps7
  go_wp2_with fail
  refine (shAwake_any w HH.out).mono ?_
  rintro e w1 ⟨rfl, hb1⟩
  have HB1 := Lib.hid hb1
  clear hb1
  go_wp2_with fail
  refine (fewT_any A n c l w1 (HA.out.below HB1.out)).mono ?_
  rintro e w2 ⟨hb2, r, rfl, hr⟩
  have HB2 := Lib.hid (bthen HB1.out hb2)
  clear hb2
  cases r with
  | false =>
    go_wp2_with fail
    refine (shAwake_any w2 (HH.out.below HB2.out)).mono ?_
    rintro e w3 ⟨rfl, hb3⟩
    have HB3 := Lib.hid (bthen HB2.out hb3)
    clear hb3 hr
    go_wp2
    go_ret
    exact ⟨rfl, HB3.out⟩
  | true =>
    have hn60 : n ≤ 60 := by rw [← HA.out.len]; exact hr rfl
    clear hr
    go_wp2_with fail
    refine (fewT_any B m d l' w2 (HA'.out.below HB2.out)).mono ?_
    rintro e w3 ⟨hb3, r, rfl, hr⟩
    have HB3 := Lib.hid (bthen HB2.out hb3)
    clear hb3
    cases r with
    | false =>
      go_wp2_with fail
      refine (shAwake_any w3 (HH.out.below HB3.out)).mono ?_
      rintro e w4 ⟨rfl, hb4⟩
      have HB4 := Lib.hid (bthen HB3.out hb4)
      clear hb4 hr
      go_wp2
      go_ret
      exact ⟨rfl, HB4.out⟩
    | true =>
      have hm60 : m ≤ 60 := by rw [← HA'.out.len]; exact hr rfl
      clear hr
      go_wp2_with fail
      refine (shBuilt_any none A n c l w3 (HA.out.below HB3.out) (by omega) (TreeIs.none _) (by simp [tl])).mono ?_
      rintro e w4 ⟨T, rfl, ht, hlen, hb4, _⟩
      have hlen : (tl T).length ≤ 0 + n := hlen
      have HT4 := Lib.hid ht
      have HB4 := Lib.hid (bthen HB3.out hb4)
      obtain ⟨tp, htv⟩ : ∃ tp, Value.pointer tp = tb T := ⟨_, rfl⟩
      rw [← htv]
      have HTV := Lib.hid htv
      clear ht hb4 htv
      go_wp2_with fail
      rw [HTV.out]
      refine (shBuilt_any T B m d l' w4 (HA'.out.below HB4.out) (by omega) HT4.out (by omega)).mono ?_
      rintro e w5 ⟨T', rfl, ht', hlen', hb5, _⟩
      rw [← HTV.out]
      have HT5 := Lib.hid (HT4.out.below hb5)
      obtain ⟨L, hL⟩ := HT5.out.pr
      obtain ⟨L', hL'⟩ := ht'.pr
      have hle := hL.le
      have hle' := hL'.le
      obtain ⟨k, hkk⟩ : ∃ k, k = costs L := ⟨_, rfl⟩
      have hk165 : k ≤ 165 := by omega
      have hc' : costs L' ≤ 330 := by omega
      have HK : Hid (newC [] L = k) := Lib.hid (by rw [newC_nil, hkk])
      have hkr : 0 + newC [] L ≤ 510 := by rw [HK.out]; omega
      obtain ⟨k', hkk'⟩ : ∃ k', k' = newC (layM [] L 0) L' := ⟨_, rfl⟩
      have hk' : k' ≤ 330 := by
        have := newC_le (layM [] L 0) L'
        omega
      have hkf := lay_few hL (fun k => Nat.zero_le _) (fun k => (few_nil k).2) hkr
      have HKF := Lib.hid hkf
      have hqf := lay_few (j := k) hL' (fun k => (hkf k).1) (fun k => (hkf k).2) (by rw [← hkk']; omega)
      have HQF := Lib.hid hqf
      have HOK := Lib.hid (fun P hP => ⟨(layM_ok (fun k => (hkf k).2) (by rw [← hkk']; omega) _ (layM_at (K := layM [] L 0) (j := k) hL'.nodup hP)).1, (hqf P.b).1, by
        rcases lay_cases (K := layM [] L 0) (j := k) hL' hP with ⟨h1, _⟩ | ⟨_, h2⟩
        · exact .inl (List.isEmpty_iff.1 h1)
        · exact .inr h2.symm⟩ : ∀ P ∈ L', pgs (layM (layM [] L 0) L' k) P.b ≠ [] ∧ (pgs (layM (layM [] L 0) L' k) P.b).length ≤ 13 ∧ (pgs (layM [] L 0) P.b = [] ∨ pgs (layM [] L 0) P.b = pgs (layM (layM [] L 0) L' k) P.b))
      have HAP : Hid (pl (layM (layM [] L 0) L' k) L').Nodup := Lib.hid (by rw [hkk]; exact lay2_apart hL')
      obtain ⟨q, hqe⟩ : ∃ q, q = cntP (layM [] L 0) L' := ⟨_, rfl⟩
      have hq : k' + q ≤ 10000 := by
        have h1 := pl_len (K := layM [] L 0) (j := k) hL' L' fun P hP => hP
        have h2 : ∀ F : List PN, cntP (layM [] L 0) F ≤ 13 * F.length := by
          intro F
          induction F with
          | nil => exact Nat.le_refl _
          | cons P F ih =>
            have := (hkf P.b).1
            rw [show cntP (layM [] L 0) (P :: F) = (pgs (layM [] L 0) P.b).length + cntP (layM [] L 0) F by simp [cntP], List.length_cons]
            omega
        have h3 := h2 L'
        omega
      have HQE := Lib.hid hqe.symm
      have HKC := Lib.hid hkk.symm
      have HKC' := Lib.hid hkk'.symm
      have HL := Lib.hid hL
      have HL' := Lib.hid hL'
      have HTL : Hid ((tl T).length ≤ 4000) := Lib.hid (by omega)
      have HTL' : Hid ((tl T').length ≤ 4000) := Lib.hid (by omega)
      have HLL' : Hid (L'.length ≤ 1000) := Lib.hid (by omega)
      have HB5 := Lib.hid (bthen HB4.out hb5)
      have HH5 := Lib.hid (HH.out.below HB5.out)
      obtain ⟨tp', htv'⟩ : ∃ tp, Value.pointer tp = tb T' := ⟨_, rfl⟩
      rw [← htv']
      have HTV' := Lib.hid htv'
      clear ht' hlen' hb5 hL hL' hle hle' hkk hkk' hkr hqe htv' hc' HT4 hlen hkf hqf
      go_wp2_with fail
      refine (ldNew_any 512 w5).mono ?_
      rintro e w6 ⟨b, rfl, hd6, hge, hb6⟩
      have HD6 := Lib.hid (show Led w6 b 512 noMark noMark noMark from hd6)
      have HB6 := Lib.hid hb6
      have HG := Lib.hid hge
      clear hd6 hb6 hge
      go_wp2_with fail
      rw [HTV.out]
      refine (planL_ok (j := 0) HL.out HB6.out HG.out (by rw [tkn_zero]; exact HD6.out) (pgIs_nil w6) few_nil HH5.out HTL.out (by rw [HK.out]; omega)).mono ?_
      intro r w7 hpo
      rw [← HTV.out]
      obtain ⟨v, g, m7, R, ws, rfl, hp1, hp2, _, _, hw1, hw2, _⟩ := hpo.out
      obtain ⟨A7, c7, rfl, _, _⟩ := hw1.form
      have HPG : Hid (PgIs w7 (.pointer (some ⟨g, 0, none⟩)) (layM [] L 0)) := Lib.hid (.inr ⟨g, some m7, R, rfl, hp1, hp2.symm⟩)
      have HB7 := Lib.hid hpo.bel
      have HD7 : Hid (Led w7 b 512 noMark noMark (tkn k)) := Lib.hid (by
        have := hpo.led
        rw [HK.out, Nat.zero_add] at this
        exact this)
      generalize rootP (layM [] L 0) (tn T) = rt
      generalize ws.length = n7
      clear hpo hp1 hp2 hw1 hw2
      go_wp2_with fail
      rw [HTV'.out]
      refine (planL_ok (j := k) HL'.out HB7.out HG.out HD7.out HPG.out (fun k => ⟨Nat.le_trans (HKF.out k).1 (by omega), (HKF.out k).2⟩) HH5.out HTL'.out (by rw [HKC'.out]; omega)).mono ?_
      intro r w8 hpo
      rw [← HTV'.out]
      obtain ⟨v, g8, m8, R8, ws8, rfl, hp1, hp2, _, _, hw1, hw2, _⟩ := hpo.out
      have hwl := wr_len HL'.out hw2
      rw [HKC'.out] at hwl
      obtain ⟨A8, c8, rfl, hc8, _⟩ := hw1.form
      rw [hwl] at hc8 ⊢
      have HQG : Hid (PgIs w8 (.pointer (some ⟨g8, 0, none⟩)) (layM (layM [] L 0) L' k)) := Lib.hid (.inr ⟨g8, some m8, R8, rfl, hp1, hp2.symm⟩)
      obtain ⟨cl, hcl⟩ := HD7.out.typed
      have HPG8 := Lib.hid (HPG.out.stay hcl hpo.stp.fx.size hpo.stp.same)
      have HB8 := Lib.hid hpo.bel
      generalize rootP (layM (layM [] L 0) L' k) (tn T') = rt8
      clear hpo hp1 hp2 hw1 hw2 hwl hcl
      have h9a : Below w8.heap.size w8 (w8.alloc (.cells #[.int .i64 (k' : Int)] 3)) := (Below.refl _ _).alloc (Nat.le_refl _) _
      have hmk : (Instr.makeSlice 77 (.int .i64 512) (.int .i64 512)).run Tryz.prog (w8.alloc (.cells #[.int .i64 (k' : Int)] 3)) = .ok (.slice (some ⟨(w8.alloc (.cells #[.int .i64 (k' : Int)] 3)).heap.size, 0, none⟩) 512 512) ((w8.alloc (.cells #[.int .i64 (k' : Int)] 3)).alloc (.cells (List.replicate 512 (.bool false)).toArray 4)) := run_make_bools 512 (by omega) _
      have HLS := Lib.hid (ls_new h9a (k' : Int) (heap_alloc_new w8 _) (Nat.le_refl _))
      generalize hrow : (Value.slice (some ⟨(w8.alloc (.cells #[.int .i64 (k' : Int)] 3)).heap.size, 0, none⟩) 512 512) = row at hmk
      generalize hw9 : ((w8.alloc (.cells #[.int .i64 (k' : Int)] 3)).alloc (.cells (List.replicate 512 (.bool false)).toArray 4)) = w9 at hmk HLS
      have HROW := Lib.hid hrow.symm
      clear h9a hrow hw9
      go_wp2_with fail
      rw [HTV'.out, HROW.out]
      refine (lies_any (HL'.out.below HB8.out) HPG8.out HQG.out (fun b => (HQF.out b).2) HOK.out HLS.out (by omega) (by rw [HQE.out]; omega) (fun y _ => rfl) HAP.out).mono ?_
      rintro e w10 ⟨rfl, gg, hls, _, hkp⟩
      rw [HQE.out] at hls
      have hc0 := cell_at hls.box 0 _ rfl
      have HLS10 := Lib.hid hls
      have HQ10 := Lib.hid (HQG.out.below hls.bel)
      have HB10 := Lib.hid (HB5.out.trans ((HB8.out.trans (hls.bel.mono HB8.out.size)).mono HB5.out.size))
      obtain ⟨W, hW⟩ : ∃ W, W = w10.drew := ⟨_, rfl⟩
      have hWb : Below w10.heap.size w10 W := by rw [hW]; exact ⟨rfl, rfl, rfl, Nat.le_refl _, fun k _ => rfl⟩
      have hall := all_any (HQ10.out.below hWb) (lay_sum HL'.out (fun k => Nat.le_trans (HKF.out k).1 (by omega)) HLL'.out)
      have hcW : ∀ p : Dc.Past [] W, p.val.cell? ⟨w8.heap.size, 0, none⟩ = some (.int .i64 (k' + q : Int)) := fun p => (p.ok.cell (Nat.lt_of_lt_of_le hls.mlt hWb.size) (by simp)).trans ((hWb.cell hls.mlt).trans hc0)
      have HBW := Lib.hid (bthen HB10.out hWb)
      have HW := Lib.hid hW
      obtain ⟨y, hy⟩ : ∃ y, y = (k' + q : Int) := ⟨_, rfl⟩
      rw [← hy] at hcW hc0
      have HY := Lib.hid hy
      clear hls hkp hmk hW hWb hc0 hy
      go_wp2_with fail
      refine Dc.wp_region_segs 8 [] [([0, 1, 2, 3], 4)] [5, 6, 7, 8] (by kernel_rfl) (by kernel_rfl) (by kernel_rfl) (by kernel_rfl) (by kernel_rfl) (by intro c a d v w h; cases d <;> exact h) ?_
      rw [← HW.out]
      refine Dc.wpSegs_more ?_
      simp only [Dc.pick, List.getElem?_cons_zero, List.getElem?_cons_succ]
      repeat (first | go_big_quiet_step (fail) | quiet_step (fail))
      refine wpQuiet_nil ?_
      refine Dc.wpOp_heavy rfl (by rfl) (fun K hK => ?_)
      go_simp
      refine hall.mono ?_
      intro e w11 hpost
      rw [← HKC.out] at hpost
      obtain ⟨A11, c11, l11, rfl, hls11, hb11⟩ := all2_len HL'.out hpost
      have hlen : ((newC (layM [] L 0) L' + cntP (layM [] L 0) L' : Nat) : Int) = y := by
        rw [HKC'.out, HQE.out, HY.out]
        rfl
      generalize newC (layM [] L 0) L' + cntP (layM [] L 0) L' = ln at hlen ⊢
      have HB11 := Lib.hid (bthen HBW.out hb11)
      refine hK _ _ (fun _ => Dc.But.of_below hb11) ?_
      clear hK K hcW hall hpost hls11 hb11
      refine Dc.wpSegs_last ?_
      simp only [Dc.pick, List.getElem?_cons_zero, List.getElem?_cons_succ]
      repeat (first | go_big_quiet_step (fail) | quiet_step (fail))
      refine wpQuiet_nil ?_
      go_wp2
      go_ret
      exact ⟨by simp [hlen], HB11.out⟩

end Go.Proofs.YtmpmeifpfmobfaaGreatDoor

namespace Go.Proofs.YtmpmeifpfmobfaaGreatDoor.shadowLies
open Go Go.ChangeShapes Go.WideShapes Go.ChangeAt Go.RowKit
open Go.ChangeMaps (open_string shut_string)
set_option linter.unusedVariables false

theorem own : ownKnob Tryz.prog.godebug = none := by kernel_rfl

theorem laidOut : laidOutB Tryz.prog = true := by kernel_rfl

set_option maxRecDepth 100000 in
theorem lifted (os : Os) (started : os.Started) (H : Type) (enc : TypeId × Value → H) :
    ReturnsInHanded {} Tryz.checked os 7 .any (fun w args => (Rows.shadowLiesSpec.pre enc Tryz.prog Tryz.f7 [] false w args ∧ laidMetH Tryz.prog laidL w) ∧ sizedMet enc Tryz.prog Tryz.f7 (OpenSpec.ofChange Rows.shadowLiesSpec) false w args)
      (Rows.shadowLiesSpec.post enc Tryz.prog Tryz.f7 false true false false) := by
  refine returnsInHanded_of_change_and (C := Tryz.checked) (X := fun w _ => laidMetH Tryz.prog laidL w) (fun _ _ _ hh h => h.of_heap hh) own started (by kernel_rfl) Tryz.func7
    (ChangeSpec.witness_shaped (enc := enc) (C := Tryz.checked) (os := os) (X := fun w _ => laidMetH Tryz.prog laidL w) false (World.doorLaid Tryz.prog 14 os) #[.slice none 0 0, .slice none 0 0] 8 rfl (World.shaped_of_RefB (by kernel_rfl) (by kernel_rfl)) (by kernel_rfl) (by kernel_rfl) (by kernel_rfl) (door_met os _)) ?_
  intro W base args ds gs before hval0 hW hcnd hsz0 hL _
  have hval : ∀ (j : Nat) t v, Tryz.f7.params[j]? = some t → args[j]? = some v → Value.okWide Tryz.prog W .any base t v := hval0
  have hsz : (DataW.weightsEach Tryz.prog (Tryz.f7.params.toList ++ Rows.shadowLiesSpec.plain.varTypes Tryz.prog) (ds ++ gs)).all (· ≤ reachBytes) = true := hsz0
  have hW' := hW
  obtain ⟨p, q, hA0, hV, rfl, hfz, hnd⟩ := hW
  have hA : DataW.TrodAll enc Tryz.prog W 0 (fun _ => true) true Tryz.f7.params.toList args.toList ds p := hA0
  rw [Tryz.params7] at hA hval hsz
  obtain ⟨v0, vs0, d0, ds0, p0, q0, hargs, rfl, rfl, h0, r0⟩ := trodAll_cons hA
  obtain ⟨v1, vs1, d1, ds1, p1, q1, rfl, rfl, rfl, h1, r1⟩ := trodAll_cons r0
  obtain ⟨rfl, rfl, rfl⟩ := trodAll_nil r1
  obtain rfl : args = #[v0, v1] := by cases args; simp_all
  obtain ⟨rfl, rfl⟩ := trodVars_none hV
  have k0 := h0
  have lt0 : ∀ x ∈ p0, x.block < W.heap.size := by obtain ⟨m, hm⟩ := k0; exact DataW.trod_lt m _ _ _ hm
  obtain ⟨A0, n0, c0, rfl⟩ := okWide_slice Tryz.underlying22 (hval 0 22 v0 rfl rfl)
  obtain ⟨l0, w0⟩ := open_tops h0 (fun m hm => of_decide_eq_true (List.all_eq_true.1 hsz _ (DataW.weights_mem_each (j := 0) (t := 22) rfl rfl m hm)))
  have k1 := h1
  have lt1 : ∀ x ∈ p1, x.block < W.heap.size := by obtain ⟨m, hm⟩ := k1; exact DataW.trod_lt m _ _ _ hm
  obtain ⟨A1, n1, c1, rfl⟩ := okWide_slice Tryz.underlying22 (hval 1 22 v1 rfl rfl)
  obtain ⟨l1, w1⟩ := open_tops h1 (fun m hm => of_decide_eq_true (List.all_eq_true.1 hsz _ (DataW.weights_mem_each (j := 1) (t := 22) rfl rfl m hm)))
  clear hA0 hval0 hsz hsz0
  refine (shadowLies_walk A0 n0 c0 l0 A1 n1 c1 l1 W (half_of_laid hL) w0 w1).mono fun e W' ⟨he, bel⟩ => ?_
  subst he
  exact ⟨_, rfl, _, _, _, [], _, [], hW', trodAll_mk1 (shut_bool Tryz.underlying4 _), (trodAll_cons_mk (Below.trod laidOut (by kernel_rfl) (of_decide_eq_true (by kernel_rfl)) k0 bel lt0) (trodAll_cons_mk (Below.trod laidOut (by kernel_rfl) (of_decide_eq_true (by kernel_rfl)) k1 bel lt1) trodAll_mk0)), rfl, bel.frame _, fun h => by cases h⟩

theorem over : Rows.ShadowLiesSaid :=
  OpenClaim.holds_of_wide 7 Tryz.f7 rfl rfl rfl rfl rfl rfl rfl ⟨rfl, rfl, rfl, rfl, rfl⟩ rfl rfl rfl rfl rfl (by kernel_rfl) Tryz.func7 (by kernel_rfl)
    (of_decide_eq_true (by kernel_rfl)) (by unfold Func.isWrapper; first | (rw [if_pos (by decide +kernel)]; kernel_rfl) | (rw [if_neg (by decide +kernel)]; exact ⟨rfl, rfl⟩))
    (fun os started H enc _ => lifted os started H enc)

theorem proved : Rows.ShadowLiesCardSaid :=
  Claim7.holds_tied_plain_at .later [] [.data] true (true, "1a050d4e79ea44ac8259af8edcd1acaf85ecd57fc3629b5714598d0c6a657e50") false
    over (fun _ h => by cases h) (by kernel_rfl) (fun _ h => by cases h) shadowLies_row_tie rfl ⟨rfl, rfl⟩ (by kernel_rfl) rfl
    (fun f fn hf hfn => by
      obtain rfl : f = 7 := Option.some.inj ((show Tryz.prog.funcNamed "sapwood/sapwoodlaw14.ShadowLies" = some 7 by kernel_rfl).symm.trans hf) |>.symm
      obtain rfl : fn = Tryz.f7 := (Option.some.inj (Tryz.func7.symm.trans hfn)).symm
      exact ⟨by kernel_rfl, fun j t ht => by
        rw [Tryz.params7] at ht
        have hm : t ∈ [22, 22] := by simpa using Array.mem_of_getElem? ht
        have hall : ([22, 22].all fun u => !Tryz.prog.wantsStandIn u) = true := by kernel_rfl
        exact (show Tryz.prog.wantsStandIn t = false by simpa using List.all_eq_true.1 hall t hm)⟩)
    (by kernel_rfl)
#print axioms proved

end Go.Proofs.YtmpmeifpfmobfaaGreatDoor.shadowLies
