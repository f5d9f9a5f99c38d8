/-
  MetaAgain: a beginning of one meta page written over another one of a lower epoch, and over that a beginning of one of the same epoch, is one of the three, or none, for all meta pages and beginnings; no condition beyond the row's.
-/
import Derived.Test.YtcgmaiadipiegaaDoorMetaTools
import Derived.Test.YtcgmaiadipiegaaDoorMetaOpen
import Derived.Test.YtcgmaiadipiegaaDoorSumLaid
import Derived.Test.YtcgmaiadipiegaaDoorTie
import Derived.Test.YtcgmaiadipiegaaDoorCards
import Derived.SevenTiedAt
namespace Go.Proofs.YtcgmaiadipiegaaDoor
open Go.RowKit Go.Sort
set_option linter.unusedVariables false

theorem u16_wf {p : Int} (hp : (Lit.int .u16 p).wf = true) : 0 ≤ p ∧ p ≤ 65535 := by simpa [Lit.wf, IntKind.min, IntKind.max, IntKind.signed, IntKind.bits] using hp
theorem three_boxes (w : World) (x y x' y' z : Int) (t : TypeId) : ∃ W, W = ((w.alloc (.cells #[.int .i64 x, .int .i64 y] t)).alloc (.cells #[.int .i64 x', .int .i64 y'] t)).alloc (.cells #[.int .i64 x', .int .i64 z] t) ∧ Below w.heap.size w W ∧ W.heap.size = w.heap.size + 3 ∧
    ∀ w', Below W.heap.size W w' → w'.cell? ⟨w.heap.size, 0, none⟩ = some (.int .i64 x) ∧ w'.cell? ⟨w.heap.size, 1, none⟩ = some (.int .i64 y) ∧ w'.cell? ⟨w.heap.size + 1, 0, none⟩ = some (.int .i64 x') ∧ w'.cell? ⟨w.heap.size + 1, 1, none⟩ = some (.int .i64 y') ∧
      w'.cell? ⟨w.heap.size + 2, 0, none⟩ = some (.int .i64 x') ∧ w'.cell? ⟨w.heap.size + 2, 1, none⟩ = some (.int .i64 z) := by
  obtain ⟨V, hV, hbV, hsV, hcV⟩ := two_boxes w x y x' y' t
  refine ⟨V.alloc (.cells #[.int .i64 x', .int .i64 z] t), by rw [hV], bthen hbV ((Below.refl _ _).alloc (Nat.le_refl _) _), by simp [hsV], fun w' hb => ?_⟩
  obtain ⟨c0, c1, c2, c3⟩ := hcV w' (bthen ((Below.refl _ _).alloc (Nat.le_refl _) _) hb)
  have c4 := box_at hb 0 (.int .i64 x') rfl
  have c5 := box_at hb 1 (.int .i64 z) rfl
  rw [hsV] at c4 c5
  exact ⟨c0, c1, c2, c3, c4, c5⟩

set_option maxRecDepth 100000 in
set_option maxHeartbeats 4000000 in
theorem metaAgain_walk (o n : MT) (root one two : Int) (w : World) (hh : Half w) (ho : MI o) (hn : MI n) (hr : (Lit.int .i64 root).wf = true) (hp : (Lit.int .u16 one).wf = true) (hq : (Lit.int .u16 two).wf = true) :
    Calls Tryd.prog 7 #[metaV o, metaV n, .int .i64 root, .int .u16 one, .int .u16 two] w fun e w' => e = .returned (.bool true) ∧ Below w.heap.size w w' := by
  obtain ⟨hp1, hp2⟩ := u16_wf hp
  obtain ⟨hq1, hq2⟩ := u16_wf hq
  have hroot := wf_i64 hr
  clear hp hq hr
  obtain ⟨x, y⟩ := o
  obtain ⟨x', y'⟩ := n
  have hg : MI ⟨x', root⟩ := ⟨hn.1, hroot⟩
  have henc := mtEncode_any ⟨x, y⟩
  have henc' := mtEncode_any ⟨x', y'⟩
  have henc2 := mtEncode_any ⟨x', root⟩
  have hri := mtRefRight_any ⟨x, y⟩
  have hri' := mtRefRight_any ⟨x', y'⟩
  have hri2 := mtRefRight_any ⟨x', root⟩
  have HO := Lib.hid ho
  have HN := Lib.hid hn
  have HGI := Lib.hid hg
  have hx1 := ho.1.1
  have hx2 := ho.1.2
  have hx1' := hn.1.1
  have hx2' := hn.1.2
  unfold metaV at *
  simp only at *
  obtain ⟨W, hW, hbW, hsW, hcW⟩ := three_boxes w x y x' y' root 23
  have HW := Lib.hid hW
  have HS := Lib.hid hsW
  have HC := Lib.hid hcW
  clear hW hsW hcW ho hn hg hroot
  go_enter Tryd.func7, Tryd.ntmps7
  go_wp2_with fail
  rw [← HW.out]
  refine (mtAwake_any W (hh.below hbW)).mono ?_
  rintro e w1 ⟨rfl, hb1⟩
  obtain ⟨c0, c1, c2, c3, c4, c5⟩ := HC.out w1 hb1
  go_wp2_with fail
  refine (hri w1 HO.out).mono ?_
  rintro e w2 ⟨rfl, hb2⟩
  have hb2 := bthen hb1 hb2
  clear c0 c1 c2 c3 c4 c5 hb1
  by_cases hok : okM ⟨x, y⟩
  · rw [decide_eq_true hok]
    obtain ⟨c0, c1, c2, c3, c4, c5⟩ := HC.out w2 hb2
    go_wp2_with fail
    refine (hri' w2 HN.out).mono ?_
    rintro e w3 ⟨rfl, hb3⟩
    have hb3 := bthen hb2 hb3
    clear c0 c1 c2 c3 c4 c5 hb2
    by_cases hok' : okM ⟨x', y'⟩
    · rw [decide_eq_true hok']
      obtain ⟨c0, c1, c2, c3, c4, c5⟩ := HC.out w3 hb3
      go_wp2_with fail
      refine (hri2 w3 HGI.out).mono ?_
      rintro e w4 ⟨rfl, hb4⟩
      have hb4 := bthen hb3 hb4
      clear c0 c1 c2 c3 c4 c5 hb3
      by_cases hok2 : okM ⟨x', root⟩
      · rw [decide_eq_true hok2]
        obtain ⟨c0, c1, c2, c3, c4, c5⟩ := HC.out w4 hb4
        by_cases hlt : x < x'
        · go_wp2_with fail
          refine (henc w4 HO.out (hh.below (bthen hbW hb4))).mono ?_
          intro e w5 hpost
          obtain ⟨v5, rfl, ho5, hb5⟩ := menc_ok hpost hok
          obtain ⟨g, cp, Z, rfl, hg, hz5, hcp, hZ⟩ := ho5.block (by rw [encM_len]; omega)
          rw [encM_len] at hcp hZ ⊢
          have hb05 := bthen hb4 hb5
          clear c0 c1 c2 c3 c4 c5 hpost ho5 henc
          obtain ⟨c0, c1, c2, c3, c4, c5⟩ := HC.out w5 hb05
          go_wp2_with fail
          refine (henc' w5 HN.out (hh.below (bthen hbW hb05))).mono ?_
          intro e w6 hpost
          obtain ⟨v6, rfl, ho6, hb6⟩ := menc_ok hpost hok'
          obtain ⟨ga, ca, Za, rfl, hga, hza, hca, hZa⟩ := ho6.block (by rw [encM_len]; omega)
          rw [encM_len] at hca hZa ⊢
          have hra := ho6.rd
          have hb06 := bthen hb05 hb6
          have hz6 := (hb6.block g (lt_of_block hz5)).trans hz5
          clear c0 c1 c2 c3 c4 c5 hpost ho6 henc' hz5 hb5 hb6 hza hZa
          obtain ⟨c0, c1, c2, c3, c4, c5⟩ := HC.out w6 hb06
          go_wp2_with fail
          refine (henc2 w6 HGI.out (hh.below (bthen hbW hb06))).mono ?_
          intro e w7 hpost
          obtain ⟨v7, rfl, ho7, hb7⟩ := menc_ok hpost hok2
          obtain ⟨gb, cb, Zb, rfl, hgb, hzb, hcb, hZb⟩ := ho7.block (by rw [encM_len]; omega)
          rw [encM_len] at hcb hZb ⊢
          have hrb := ho7.rd
          have hb07 := bthen hb06 hb7
          have hz7 := (hb7.block g (lt_of_block hz6)).trans hz6
          have hgne : gb ≠ g := by
            have := lt_of_block hz6
            omega
          have hra7 := hra.below hb7
          clear c0 c1 c2 c3 c4 c5 hpost ho7 henc2 hz6 hb7 hra hzb hZb
          obtain ⟨k, hk⟩ : ∃ k : Nat, (k : Int) = one % 257 := ⟨(one % 257).toNat, by omega⟩
          have hk256 : k ≤ 256 := by omega
          have hkm : Int.tmod one 257 = (k : Int) := by rw [hk]; exact Int.tmod_eq_emod_of_nonneg hp1
          obtain ⟨q, hq⟩ : ∃ q : Nat, (q : Int) = two % 257 := ⟨(two % 257).toNat, by omega⟩
          have hq256 : q ≤ 256 := by omega
          have hqm : Int.tmod two 257 = (q : Int) := by rw [hq]; exact Int.tmod_eq_emod_of_nonneg hq1
          have HZa : Hid (Z.take 256 = bcells (encM ⟨x, y⟩)) := hZ
          have HZ7 := Lib.hid hz7
          have hgW : W.heap.size ≤ g := Nat.le_trans hb4.size hg
          have hla := encM_len ⟨x, y⟩
          have H2a : Hid ((bcells ((encM ⟨x', y'⟩).take k)).length = Nat.min k 256) := by
            show (bcells ((encM ⟨x', y'⟩).take k)).length = Nat.min k 256
            rw [bcells_length, List.length_take, encM_len]
          have H3a : Hid (∀ j v, (bcells ((encM ⟨x', y'⟩).take k))[j]? = some v → w7.cell? ((⟨ga, 0, none⟩ : Addr).add j) = some v) := fun j v hv => (hra7).takeN k j v hv _ rfl
          have H4a : Hid ((bcells ((encM ⟨x', y'⟩).take k)).length ≤ Z.length) := by
            show (bcells ((encM ⟨x', y'⟩).take k)).length ≤ Z.length
            rw [bcells_length, List.length_take, encM_len]
            have := congrArg List.length HZa.out
            rw [List.length_take, bcells_length] at this
            omega
          have HRB := Lib.hid hrb
          obtain ⟨Y, hY⟩ : ∃ Y, Y = splice Z 0 (bcells ((encM ⟨x', y'⟩).take k)) := ⟨_, rfl⟩
          obtain ⟨R, hR⟩ : ∃ R, R = ovr (encM ⟨x', y'⟩) (encM ⟨x, y⟩) k := ⟨_, rfl⟩
          have HZb : Hid (Y.take 256 = bcells R) := by rw [hY, hR]; exact over_take (encM_len _) (encM_len _) hk256 HZa.out
          have hRl : R.length = 256 := by rw [hR]; exact ovr_len (encM_len _) (encM_len _) hk256
          have HR := Lib.hid hR
          have HRl := Lib.hid hRl
          have H2b : Hid ((bcells ((encM ⟨x', root⟩).take q)).length = Nat.min q 256) := by
            show (bcells ((encM ⟨x', root⟩).take q)).length = Nat.min q 256
            rw [bcells_length, List.length_take, encM_len]
          have H3b : Hid (∀ w8 : World, (∀ i, i ≠ g → w8.heap[i]? = w7.heap[i]?) → ∀ j v, (bcells ((encM ⟨x', root⟩).take q))[j]? = some v → w8.cell? ((⟨gb, 0, none⟩ : Addr).add j) = some v) := fun w8 h8 j v hv => (HRB.out.kept (h8 gb hgne)).takeN q j v hv _ rfl
          have H4b : Hid ((bcells ((encM ⟨x', root⟩).take q)).length ≤ Y.length) := by
            show (bcells ((encM ⟨x', root⟩).take q)).length ≤ Y.length
            rw [bcells_length, List.length_take, encM_len]
            have := congrArg List.length HZb.out
            rw [List.length_take, bcells_length] at this
            omega
          have HY := Lib.hid hY
          clear hk hZ hz7 hra7 hq hrb hb05 hb06 hla hri hri' hri2 hR hRl hY
          go_wp2_with (first
            | ((with_reducible refine wpList_copy_at rfl (.tmp 90) (.tmp 95) rfl g 256 cp ⟨ga, 0, none⟩ k ca rfl rfl Z HZ7.out (bcells ((encM ⟨x', y'⟩).take k)) H2a.out H3a.out H4a.out (bcells_one _) W.heap.size W hb07 hgW ?_); rw [← HY.out]; intro w8 HG8 HK8 hb8)
            | ((with_reducible refine wpList_copy_at rfl (.tmp 97) (.tmp 102) rfl g 256 cp ⟨gb, 0, none⟩ q cb rfl rfl Y HG8.out (bcells ((encM ⟨x', root⟩).take q)) H2b.out (H3b.out w8 HK8.out) H4b.out (bcells_one _) W.heap.size W hb8 hgW ?_); intro w10 HG10 HK10 hb10))
          have hr10 := (rd_over (encM_len ⟨x', root⟩) HRl.out hq256 HZb.out HG10.out).1
          have HOV : Hid ((ovr (encM ⟨x', root⟩) R q).length = 256) := ovr_len (encM_len _) HRl.out hq256
          have hbw10 := bthen hbW hb10
          clear H2b H3b H4b HG10 HZb HRl hqm HK10 hb8 H2a H3a H4a HG8 HZa HZ7 hkm HRB HK8 hb07
          go_wp2_with fail
          refine (mtDecode_any _ 256 cp _ w10 (hh.below hbw10) hr10 HOV.out (by omega)).mono ?_
          rintro e w11 ⟨rfl, hb11⟩
          have hb011 := bthen hb10 hb11
          have hbw11 := bthen hbw10 hb11
          obtain ⟨c0, c1, c2, c3, c4, c5⟩ := HC.out w11 hb011
          have hsz7 : w.heap.size < w11.heap.size := by have := hb011.size; rw [HS.out] at this; omega
          have hsz8 : w.heap.size + 1 < w11.heap.size := by have := hb011.size; rw [HS.out] at this; omega
          have hsz9 : w.heap.size + 2 < w11.heap.size := by have := hb011.size; rw [HS.out] at this; omega
          clear hr10 hb10 hb11 hbw10
          have hres : ∃ a b r, decV (ovr (encM ⟨x', root⟩) R q) = ⟨a, b⟩ ∧ decE (ovr (encM ⟨x', root⟩) R q) = r ∧ (r = 3 ∨ r = 0 ∧ ((a = x ∧ b = y) ∨ (a = x' ∧ b = y') ∨ (a = x' ∧ b = root))) := by
            rcases dec_cases (ovr (encM ⟨x', root⟩) R q) with ⟨m, hokm, hencm, _, h1, h2⟩ | ⟨_, h1, h2⟩
            · rw [HR.out] at hencm
              rw [h1, h2]
              refine ⟨m.e, m.r, 0, rfl, rfl, .inr ⟨rfl, ?_⟩⟩
              rcases again hokm hok hok' hok2 rfl hlt hk256 hq256 hencm with rfl | rfl | rfl
              · exact .inl ⟨rfl, rfl⟩
              · exact .inr (.inl ⟨rfl, rfl⟩)
              · exact .inr (.inr ⟨rfl, rfl⟩)
            · rw [h1, h2]
              exact ⟨0, 0, 3, rfl, rfl, .inl rfl⟩
          obtain ⟨a, b, r, h1, h2, h3⟩ := hres
          rw [h1, h2]
          unfold metaV
          simp only
          have HB12 : Hid (Below w.heap.size w ((w11.alloc (.cells #[.int .i64 a, .int .i64 b] 29)).alloc (.cells #[.int .i64 a, .int .i64 b] 23))) :=
            bthen hbw11 (((Below.refl _ _).alloc (Nat.le_refl _) _).alloc (by simp) _)
          clear h1 h2
          rcases h3 with rfl | ⟨rfl, ⟨rfl, rfl⟩ | ⟨rfl, rfl⟩ | ⟨rfl, rfl⟩⟩
          · go_wp2
            go_ret
            exact ⟨rfl, HB12.out⟩
          · go_wp2
            go_ret
            exact ⟨rfl, HB12.out⟩
          · have hne : (a == x) = false := by simp; omega
            go_wp2
            go_ret
            exact ⟨rfl, HB12.out⟩
          · have hne : (a == x) = false := by simp; omega
            by_cases hby : b = y'
            · subst hby
              go_wp2
              go_ret
              exact ⟨rfl, HB12.out⟩
            · have hne2 : (b == y') = false := by simpa using hby
              go_wp2
              go_ret
              exact ⟨rfl, HB12.out⟩
        · have hge : x' ≤ x := by omega
          go_wp2_with fail
          refine (mtAwake_any w4 (hh.below (bthen hbW hb4))).mono ?_
          rintro e w9 ⟨rfl, hb9⟩
          go_wp2
          go_ret
          exact ⟨rfl, bthen (bthen hbW hb4) hb9⟩
      · rw [decide_eq_false hok2]
        go_wp2_with fail
        refine (mtAwake_any w4 (hh.below (bthen hbW hb4))).mono ?_
        rintro e w9 ⟨rfl, hb9⟩
        go_wp2
        go_ret
        exact ⟨rfl, bthen (bthen hbW hb4) hb9⟩
    · rw [decide_eq_false hok']
      go_wp2_with fail
      refine (mtAwake_any w3 (hh.below (bthen hbW hb3))).mono ?_
      rintro e w9 ⟨rfl, hb9⟩
      go_wp2
      go_ret
      exact ⟨rfl, bthen (bthen hbW hb3) hb9⟩
  · rw [decide_eq_false hok]
    go_wp2_with fail
    refine (mtAwake_any w2 (hh.below (bthen hbW hb2))).mono ?_
    rintro e w9 ⟨rfl, hb9⟩
    go_wp2
    go_ret
    exact ⟨rfl, bthen (bthen hbW hb2) hb9⟩

end Go.Proofs.YtcgmaiadipiegaaDoor

namespace Go.Proofs.YtcgmaiadipiegaaDoor.metaAgain
open Go Go.ChangeShapes Go.WideShapes Go.ChangeAt Go.RowKit
open Go.ChangeMaps (open_string shut_string)
set_option linter.unusedVariables false

theorem own : ownKnob Tryd.prog.godebug = none := by kernel_rfl

theorem laidOut : laidOutB Tryd.prog = true := by kernel_rfl

set_option maxRecDepth 100000 in
theorem lifted (os : Os) (started : os.Started) (H : Type) (enc : TypeId × Value → H) :
    ReturnsInHanded {} Tryd.checked os 7 .any (fun w args => (Rows.metaAgainSpec.pre enc Tryd.prog Tryd.f7 [] false w args ∧ laidMetH Tryd.prog laidL w) ∧ sizedMet enc Tryd.prog Tryd.f7 (OpenSpec.ofChange Rows.metaAgainSpec) false w args)
      (Rows.metaAgainSpec.post enc Tryd.prog Tryd.f7 false true false false) := by
  refine returnsInHanded_of_change_and (C := Tryd.checked) (X := fun w _ => laidMetH Tryd.prog laidL w) (fun _ _ _ hh h => h.of_heap hh) own started (by kernel_rfl) Tryd.func7
    (ChangeSpec.witness_shaped (enc := enc) (C := Tryd.checked) (os := os) (X := fun w _ => laidMetH Tryd.prog laidL w) false (World.doorLaid Tryd.prog 14 os) #[.agg #[.int .i64 0, .int .i64 0], .agg #[.int .i64 0, .int .i64 0], .int .i64 0, .int .u16 0, .int .u16 0] 8 rfl (World.shaped_of_RefB (by kernel_rfl) (by kernel_rfl)) (by kernel_rfl) (by kernel_rfl) (by kernel_rfl) (door_met os _)) ?_
  intro W base args ds gs before hval0 hW hcnd hsz0 hL _
  have hval : ∀ (j : Nat) t v, Tryd.f7.params[j]? = some t → args[j]? = some v → Value.okWide Tryd.prog W .any base t v := hval0
  have hsz : (DataW.weightsEach Tryd.prog (Tryd.f7.params.toList ++ Rows.metaAgainSpec.plain.varTypes Tryd.prog) (ds ++ gs)).all (· ≤ reachBytes) = true := hsz0
  have hW' := hW
  obtain ⟨p, q, hA0, hV, rfl, hfz, hnd⟩ := hW
  have hA : DataW.TrodAll enc Tryd.prog W 0 (fun _ => true) true Tryd.f7.params.toList args.toList ds p := hA0
  rw [Tryd.params7] at hA hval hsz
  obtain ⟨v0, vs0, d0, ds0, p0, q0, hargs, rfl, rfl, h0, r0⟩ := trodAll_cons hA
  obtain ⟨v1, vs1, d1, ds1, p1, q1, rfl, rfl, rfl, h1, r1⟩ := trodAll_cons r0
  obtain ⟨v2, vs2, d2, ds2, p2, q2, rfl, rfl, rfl, h2, r2⟩ := trodAll_cons r1
  obtain ⟨v3, vs3, d3, ds3, p3, q3, rfl, rfl, rfl, h3, r3⟩ := trodAll_cons r2
  obtain ⟨v4, vs4, d4, ds4, p4, q4, rfl, rfl, rfl, h4, r4⟩ := trodAll_cons r3
  obtain ⟨rfl, rfl, rfl⟩ := trodAll_nil r4
  obtain rfl : args = #[v0, v1, v2, v3, v4] := by cases args; simp_all
  obtain ⟨rfl, rfl⟩ := trodVars_none hV
  have k0 := h0
  have lt0 : ∀ x ∈ p0, x.block < W.heap.size := by obtain ⟨m, hm⟩ := k0; exact DataW.trod_lt m _ _ _ hm
  obtain ⟨a0, rfl, w0⟩ := open_meta (hval 0 23 v0 rfl rfl) h0
  have k1 := h1
  have lt1 : ∀ x ∈ p1, x.block < W.heap.size := by obtain ⟨m, hm⟩ := k1; exact DataW.trod_lt m _ _ _ hm
  obtain ⟨a1, rfl, w1⟩ := open_meta (hval 1 23 v1 rfl rfl) h1
  obtain ⟨a2, rfl, rfl, rfl, w2⟩ := open_int Tryd.underlying3 (hval 2 3 v2 rfl rfl) h2
  obtain ⟨a3, rfl, rfl, rfl, w3⟩ := open_int Tryd.underlying47 (hval 3 47 v3 rfl rfl) h3
  obtain ⟨a4, rfl, rfl, rfl, w4⟩ := open_int Tryd.underlying47 (hval 4 47 v4 rfl rfl) h4
  clear hA0 hval0 hsz hsz0
  refine (metaAgain_walk a0 a1 a2 a3 a4 W (half_of_laid hL) w0 w1 w2 w3 w4).mono fun e W' ⟨he, bel⟩ => ?_
  subst he
  exact ⟨_, rfl, _, _, _, [], _, [], hW', trodAll_mk1 (shut_bool Tryd.underlying4 _), (trodAll_cons_mk (Below.trod laidOut (by kernel_rfl) (of_decide_eq_true (by kernel_rfl)) k0 bel lt0) (trodAll_cons_mk (Below.trod laidOut (by kernel_rfl) (of_decide_eq_true (by kernel_rfl)) k1 bel lt1) (trodAll_cons_mk (shut_int Tryd.underlying3 w2) (trodAll_cons_mk (shut_int Tryd.underlying47 w3) (trodAll_cons_mk (shut_int Tryd.underlying47 w4) trodAll_mk0))))), rfl, bel.frame _, fun h => by cases h⟩

theorem over : Rows.MetaAgainSaid :=
  OpenClaim.holds_of_wide 7 Tryd.f7 rfl rfl rfl rfl rfl rfl rfl ⟨rfl, rfl, rfl, rfl, rfl⟩ rfl rfl rfl rfl rfl (by kernel_rfl) Tryd.func7 (by kernel_rfl)
    (of_decide_eq_true (by kernel_rfl)) (by unfold Func.isWrapper; first | (rw [if_pos (by decide +kernel)]; kernel_rfl) | (rw [if_neg (by decide +kernel)]; exact ⟨rfl, rfl⟩))
    (fun os started H enc _ => lifted os started H enc)

theorem proved : Rows.MetaAgainCardSaid :=
  Claim7.holds_tied_plain_at .later [] [.data] true (true, "ff6571c9258cc5ae1a33e9450d62fd3a3d2abbbe87473920b80c14b5ab16f570") false
    over (fun _ h => by cases h) (by kernel_rfl) (fun _ h => by cases h) metaAgain_row_tie rfl ⟨rfl, rfl⟩ (by kernel_rfl) rfl
    (fun f fn hf hfn => by
      obtain rfl : f = 7 := Option.some.inj ((show Tryd.prog.funcNamed "sapwood/sapwoodlaw06.MetaAgain" = some 7 by kernel_rfl).symm.trans hf) |>.symm
      obtain rfl : fn = Tryd.f7 := (Option.some.inj (Tryd.func7.symm.trans hfn)).symm
      exact ⟨by kernel_rfl, fun j t ht => by
        rw [Tryd.params7] at ht
        have hm : t ∈ [23, 23, 3, 47, 47] := by simpa using Array.mem_of_getElem? ht
        have hall : ([23, 23, 3, 47, 47].all fun u => !Tryd.prog.wantsStandIn u) = true := by kernel_rfl
        exact (show Tryd.prog.wantsStandIn t = false by simpa using List.all_eq_true.1 hall t hm)⟩)
    (by kernel_rfl)
#print axioms proved

end Go.Proofs.YtcgmaiadipiegaaDoor.metaAgain
