/-
  MetaTorn: a meta page of which only a beginning was written over one of a lower epoch is that one, or the new one, or none, for every two meta pages and every beginning; no condition beyond the row's.
-/
import Derived.Test.YtcgmaiadipiegaaDoorMetaTools
import Derived.Test.YtcgmaiadipiegaaDoorMetaOpen
import Derived.Test.YtcgmaiadipiegaaDoorSumLaid
import Derived.Test.YtcgmaiadipiegaaDoorTie
import Derived.Test.YtcgmaiadipiegaaDoorCards
import Derived.SevenTiedAt
namespace Go.Proofs.YtcgmaiadipiegaaDoor
open Go.RowKit Go.Sort
set_option linter.unusedVariables false

set_option maxRecDepth 100000 in
set_option maxHeartbeats 2000000 in
theorem metaTorn_walk (o n : MT) (part : Int) (w : World) (hh : Half w) (ho : MI o) (hn : MI n) (hp : (Lit.int .u16 part).wf = true) :
    Calls Tryd.prog 6 #[metaV o, metaV n, .int .u16 part] w fun e w' => e = .returned (.bool true) ∧ Below w.heap.size w w' := by
  have hp0 : 0 ≤ part ∧ part ≤ 65535 := by simpa [Lit.wf, IntKind.min, IntKind.max, IntKind.signed, IntKind.bits] using hp
  clear hp
  obtain ⟨hp1, hp2⟩ := hp0
  obtain ⟨x, y⟩ := o
  obtain ⟨x', y'⟩ := n
  have henc := mtEncode_any ⟨x, y⟩
  have henc' := mtEncode_any ⟨x', y'⟩
  have hri := mtRefRight_any ⟨x, y⟩
  have hri' := mtRefRight_any ⟨x', y'⟩
  have HO := Lib.hid ho
  have HN := Lib.hid hn
  have hx1 := ho.1.1
  have hx2 := ho.1.2
  have hx1' := hn.1.1
  have hx2' := hn.1.2
  unfold metaV at *
  simp only at *
  obtain ⟨W, hW, hbW, hsW, hcW⟩ := two_boxes w x y x' y' 23
  have HW := Lib.hid hW
  have HS := Lib.hid hsW
  have HC := Lib.hid hcW
  clear hW hsW hcW ho hn
  go_enter Tryd.func6, Tryd.ntmps6
  go_wp2_with fail
  rw [← HW.out]
  refine (mtAwake_any W (hh.below hbW)).mono ?_
  rintro e w1 ⟨rfl, hb1⟩
  obtain ⟨c0, c1, c2, c3⟩ := HC.out w1 hb1
  go_wp2_with fail
  refine (hri w1 HO.out).mono ?_
  rintro e w2 ⟨rfl, hb2⟩
  have hb2 := bthen hb1 hb2
  clear c0 c1 c2 c3 hb1
  by_cases hok : okM ⟨x, y⟩
  · rw [decide_eq_true hok]
    obtain ⟨c0, c1, c2, c3⟩ := HC.out w2 hb2
    go_wp2_with fail
    refine (hri' w2 HN.out).mono ?_
    rintro e w3 ⟨rfl, hb3⟩
    have hb3 := bthen hb2 hb3
    clear c0 c1 c2 c3 hb2
    by_cases hok' : okM ⟨x', y'⟩
    · rw [decide_eq_true hok']
      obtain ⟨c0, c1, c2, c3⟩ := HC.out w3 hb3
      by_cases hlt : x < x'
      · go_wp2_with fail
        refine (henc w3 HO.out (hh.below (bthen hbW hb3))).mono ?_
        intro e w4 hpost
        obtain ⟨v4, rfl, ho4, hb4⟩ := menc_ok hpost hok
        obtain ⟨g, cp, Z, rfl, hg, hz4, hcp, hZ⟩ := ho4.block (by rw [encM_len]; omega)
        rw [encM_len] at hcp hZ ⊢
        have hb04 := bthen hb3 hb4
        clear c0 c1 c2 c3 hpost ho4 henc
        obtain ⟨c0, c1, c2, c3⟩ := HC.out w4 hb04
        go_wp2_with fail
        refine (henc' w4 HN.out (hh.below (bthen hbW hb04))).mono ?_
        intro e w5 hpost
        obtain ⟨v5, rfl, ho5, hb5⟩ := menc_ok hpost hok'
        obtain ⟨A5, n5, c5, rfl, hn5, hc5, hr5⟩ := ho5.named
        have hn5' : n5 = 256 := by rw [← hn5]; exact encM_len _
        subst hn5'
        have hb05 := bthen hb04 hb5
        have hz5 := (hb5.block g (lt_of_block hz4)).trans hz4
        have hb45 : Below w3.heap.size w3 w5 := bthen hb4 hb5
        clear c0 c1 c2 c3 hpost ho5 henc' hz4 hb4 hb5
        obtain ⟨k, hk⟩ : ∃ k : Nat, (k : Int) = part % 257 := ⟨(part % 257).toNat, by omega⟩
        have hk256 : k ≤ 256 := by omega
        have hkm : Int.tmod part 257 = (k : Int) := by rw [hk]; exact Int.tmod_eq_emod_of_nonneg hp1
        have HZ := Lib.hid hZ
        have H2 : Hid ((bcells ((encM ⟨x', y'⟩).take k)).length = Nat.min k 256) := by
          show (bcells ((encM ⟨x', y'⟩).take k)).length = Nat.min k 256
          rw [bcells_length, List.length_take, encM_len]
        have H3 : Hid (0 < (bcells ((encM ⟨x', y'⟩).take k)).length → ∃ ad, A5 = some ad ∧ ∀ j v, (bcells ((encM ⟨x', y'⟩).take k))[j]? = some v → w5.cell? (ad.add j) = some v) := by
          intro h0
          obtain ⟨ad, e, _⟩ := hr5 (by rw [encM_len]; omega)
          exact ⟨ad, e, fun j v hv => hr5.takeN k j v hv ad e⟩
        have H4 : Hid (0 + (bcells ((encM ⟨x', y'⟩).take k)).length ≤ Z.length) := by
          show 0 + (bcells ((encM ⟨x', y'⟩).take k)).length ≤ Z.length
          rw [bcells_length, List.length_take, encM_len]
          have := congrArg List.length HZ.out
          rw [List.length_take, bcells_length, encM_len] at this
          omega
        have HZ5 := Lib.hid hz5
        clear hk hZ hz5 hr5 hn5
        have hgW : W.heap.size ≤ g := Nat.le_trans hb3.size hg
        go_wp2_with ((with_reducible refine wpList_copy_splice rfl (.tmp 59) (.tmp 64) 25 25 rfl 5 Tryd.underlying25 (by kernel_rfl) _ _ _ _ _ _ rfl rfl g 0 Z 5 HZ5.out (bcells ((encM ⟨x', y'⟩).take k)) H2.out (fun h0 => ⟨rfl, H3.out h0⟩) H4.out (bcells_one _) W.heap.size W hb05 hgW ?_); intro w6 HG6 hb6)
        have hr6 := (rd_over (encM_len ⟨x', y'⟩) (encM_len ⟨x, y⟩) hk256 HZ.out HG6.out).1
        have hov : (ovr (encM ⟨x', y'⟩) (encM ⟨x, y⟩) k).length = 256 := ovr_len (encM_len _) (encM_len _) hk256
        have HOV := Lib.hid hov
        have hbw6 := bthen hbW hb6
        clear H2 H3 H4 HG6 HZ5 HZ hb05 hb45 hb04 hov hkm hri hri'
        go_wp2_with fail
        refine (mtDecode_any _ 256 cp _ w6 (hh.below hbw6) hr6 HOV.out (by omega)).mono ?_
        rintro e w7 ⟨rfl, hb7⟩
        have hb07 := bthen hb6 hb7
        have hbw7 := bthen hbw6 hb7
        obtain ⟨c0, c1, c2, c3⟩ := HC.out w7 hb07
        have hsz7 : w.heap.size < w7.heap.size := by have := hb07.size; rw [HS.out] at this; omega
        have hsz8 : w.heap.size + 1 < w7.heap.size := by have := hb07.size; rw [HS.out] at this; omega
        clear hr6 hb6 hb7 hbw6
        rcases dec_cases (ovr (encM ⟨x', y'⟩) (encM ⟨x, y⟩) k) with ⟨m, hokm, hencm, _, h1, h2⟩ | ⟨_, h1, h2⟩
        · rw [h1, h2]
          have htorn := torn hokm hok hok' hlt hk256 hencm
          clear h1 h2 hencm hokm
          unfold metaV
          rcases htorn with rfl | rfl
          · simp only
            obtain ⟨W8, hW8⟩ : ∃ W8, W8 = w7.alloc (.cells #[.int .i64 x, .int .i64 y] 29) := ⟨_, rfl⟩
            have HB8 : Hid (Below w.heap.size w W8) := by
              show Below _ _ _
              rw [hW8]
              exact bthen hbw7 ((Below.refl _ _).alloc (Nat.le_refl _) _)
            have HW8 := Lib.hid hW8
            clear hW8
            go_wp2
            go_ret
            exact ⟨rfl, HW8.out ▸ HB8.out⟩
          · simp only
            obtain ⟨W8, hW8⟩ : ∃ W8, W8 = w7.alloc (.cells #[.int .i64 x', .int .i64 y'] 29) := ⟨_, rfl⟩
            have HB8 : Hid (Below w.heap.size w W8) := by
              show Below _ _ _
              rw [hW8]
              exact bthen hbw7 ((Below.refl _ _).alloc (Nat.le_refl _) _)
            have HW8 := Lib.hid hW8
            clear hW8
            have hne : (x' == x) = false := by simp; omega
            go_wp2
            go_ret
            exact ⟨rfl, HW8.out ▸ HB8.out⟩
        · rw [h1, h2]
          unfold metaV
          simp only
          obtain ⟨W8, hW8⟩ : ∃ W8, W8 = w7.alloc (.cells #[.int .i64 0, .int .i64 0] 29) := ⟨_, rfl⟩
          have HB8 : Hid (Below w.heap.size w W8) := by
            show Below _ _ _
            rw [hW8]
            exact bthen hbw7 ((Below.refl _ _).alloc (Nat.le_refl _) _)
          have HW8 := Lib.hid hW8
          clear hW8 h1 h2
          go_wp2
          go_ret
          exact ⟨rfl, HW8.out ▸ HB8.out⟩
      · have hge : x' ≤ x := by omega
        go_wp2_with fail
        refine (mtAwake_any w3 (hh.below (bthen hbW hb3))).mono ?_
        rintro e w9 ⟨rfl, hb9⟩
        go_wp2
        go_ret
        exact ⟨rfl, bthen (bthen hbW hb3) hb9⟩
    · rw [decide_eq_false hok']
      go_wp2_with fail
      refine (mtAwake_any w3 (hh.below (bthen hbW hb3))).mono ?_
      rintro e w9 ⟨rfl, hb9⟩
      go_wp2
      go_ret
      exact ⟨rfl, bthen (bthen hbW hb3) hb9⟩
  · rw [decide_eq_false hok]
    go_wp2_with fail
    refine (mtAwake_any w2 (hh.below (bthen hbW hb2))).mono ?_
    rintro e w9 ⟨rfl, hb9⟩
    go_wp2
    go_ret
    exact ⟨rfl, bthen (bthen hbW hb2) hb9⟩

end Go.Proofs.YtcgmaiadipiegaaDoor

namespace Go.Proofs.YtcgmaiadipiegaaDoor.metaTorn
open Go Go.ChangeShapes Go.WideShapes Go.ChangeAt Go.RowKit
open Go.ChangeMaps (open_string shut_string)
set_option linter.unusedVariables false

theorem own : ownKnob Tryd.prog.godebug = none := by kernel_rfl

theorem laidOut : laidOutB Tryd.prog = true := by kernel_rfl

set_option maxRecDepth 100000 in
theorem lifted (os : Os) (started : os.Started) (H : Type) (enc : TypeId × Value → H) :
    ReturnsInHanded {} Tryd.checked os 6 .any (fun w args => (Rows.metaTornSpec.pre enc Tryd.prog Tryd.f6 [] false w args ∧ laidMetH Tryd.prog laidL w) ∧ sizedMet enc Tryd.prog Tryd.f6 (OpenSpec.ofChange Rows.metaTornSpec) false w args)
      (Rows.metaTornSpec.post enc Tryd.prog Tryd.f6 false true false false) := by
  refine returnsInHanded_of_change_and (C := Tryd.checked) (X := fun w _ => laidMetH Tryd.prog laidL w) (fun _ _ _ hh h => h.of_heap hh) own started (by kernel_rfl) Tryd.func6
    (ChangeSpec.witness_shaped (enc := enc) (C := Tryd.checked) (os := os) (X := fun w _ => laidMetH Tryd.prog laidL w) false (World.doorLaid Tryd.prog 14 os) #[.agg #[.int .i64 0, .int .i64 0], .agg #[.int .i64 0, .int .i64 0], .int .u16 0] 8 rfl (World.shaped_of_RefB (by kernel_rfl) (by kernel_rfl)) (by kernel_rfl) (by kernel_rfl) (by kernel_rfl) (door_met os _)) ?_
  intro W base args ds gs before hval0 hW hcnd hsz0 hL _
  have hval : ∀ (j : Nat) t v, Tryd.f6.params[j]? = some t → args[j]? = some v → Value.okWide Tryd.prog W .any base t v := hval0
  have hsz : (DataW.weightsEach Tryd.prog (Tryd.f6.params.toList ++ Rows.metaTornSpec.plain.varTypes Tryd.prog) (ds ++ gs)).all (· ≤ reachBytes) = true := hsz0
  have hW' := hW
  obtain ⟨p, q, hA0, hV, rfl, hfz, hnd⟩ := hW
  have hA : DataW.TrodAll enc Tryd.prog W 0 (fun _ => true) true Tryd.f6.params.toList args.toList ds p := hA0
  rw [Tryd.params6] at hA hval hsz
  obtain ⟨v0, vs0, d0, ds0, p0, q0, hargs, rfl, rfl, h0, r0⟩ := trodAll_cons hA
  obtain ⟨v1, vs1, d1, ds1, p1, q1, rfl, rfl, rfl, h1, r1⟩ := trodAll_cons r0
  obtain ⟨v2, vs2, d2, ds2, p2, q2, rfl, rfl, rfl, h2, r2⟩ := trodAll_cons r1
  obtain ⟨rfl, rfl, rfl⟩ := trodAll_nil r2
  obtain rfl : args = #[v0, v1, v2] := by cases args; simp_all
  obtain ⟨rfl, rfl⟩ := trodVars_none hV
  have k0 := h0
  have lt0 : ∀ x ∈ p0, x.block < W.heap.size := by obtain ⟨m, hm⟩ := k0; exact DataW.trod_lt m _ _ _ hm
  obtain ⟨a0, rfl, w0⟩ := open_meta (hval 0 23 v0 rfl rfl) h0
  have k1 := h1
  have lt1 : ∀ x ∈ p1, x.block < W.heap.size := by obtain ⟨m, hm⟩ := k1; exact DataW.trod_lt m _ _ _ hm
  obtain ⟨a1, rfl, w1⟩ := open_meta (hval 1 23 v1 rfl rfl) h1
  obtain ⟨a2, rfl, rfl, rfl, w2⟩ := open_int Tryd.underlying47 (hval 2 47 v2 rfl rfl) h2
  clear hA0 hval0 hsz hsz0
  refine (metaTorn_walk a0 a1 a2 W (half_of_laid hL) w0 w1 w2).mono fun e W' ⟨he, bel⟩ => ?_
  subst he
  exact ⟨_, rfl, _, _, _, [], _, [], hW', trodAll_mk1 (shut_bool Tryd.underlying4 _), (trodAll_cons_mk (Below.trod laidOut (by kernel_rfl) (of_decide_eq_true (by kernel_rfl)) k0 bel lt0) (trodAll_cons_mk (Below.trod laidOut (by kernel_rfl) (of_decide_eq_true (by kernel_rfl)) k1 bel lt1) (trodAll_cons_mk (shut_int Tryd.underlying47 w2) trodAll_mk0))), rfl, bel.frame _, fun h => by cases h⟩

theorem over : Rows.MetaTornSaid :=
  OpenClaim.holds_of_wide 6 Tryd.f6 rfl rfl rfl rfl rfl rfl rfl ⟨rfl, rfl, rfl, rfl, rfl⟩ rfl rfl rfl rfl rfl (by kernel_rfl) Tryd.func6 (by kernel_rfl)
    (of_decide_eq_true (by kernel_rfl)) (by unfold Func.isWrapper; first | (rw [if_pos (by decide +kernel)]; kernel_rfl) | (rw [if_neg (by decide +kernel)]; exact ⟨rfl, rfl⟩))
    (fun os started H enc _ => lifted os started H enc)

theorem proved : Rows.MetaTornCardSaid :=
  Claim7.holds_tied_plain_at .later [] [.data] true (true, "ff6571c9258cc5ae1a33e9450d62fd3a3d2abbbe87473920b80c14b5ab16f570") false
    over (fun _ h => by cases h) (by kernel_rfl) (fun _ h => by cases h) metaTorn_row_tie rfl ⟨rfl, rfl⟩ (by kernel_rfl) rfl
    (fun f fn hf hfn => by
      obtain rfl : f = 6 := Option.some.inj ((show Tryd.prog.funcNamed "sapwood/sapwoodlaw06.MetaTorn" = some 6 by kernel_rfl).symm.trans hf) |>.symm
      obtain rfl : fn = Tryd.f6 := (Option.some.inj (Tryd.func6.symm.trans hfn)).symm
      exact ⟨by kernel_rfl, fun j t ht => by
        rw [Tryd.params6] at ht
        have hm : t ∈ [23, 23, 47] := by simpa using Array.mem_of_getElem? ht
        have hall : ([23, 23, 47].all fun u => !Tryd.prog.wantsStandIn u) = true := by kernel_rfl
        exact (show Tryd.prog.wantsStandIn t = false by simpa using List.all_eq_true.1 hall t hm)⟩)
    (by kernel_rfl)
#print axioms proved

end Go.Proofs.YtcgmaiadipiegaaDoor.metaTorn
