/-
  MetaBack: a meta page's bytes are decoded as it, and bytes that are decoded are just that page's, for every meta page and every string; no condition beyond the row's.
-/
import Derived.Test.YtcgmaiadipiegaaDoorMetaAwake
import Derived.Test.YtcgmaiadipiegaaDoorMetaOpen
import Derived.Test.YtcgmaiadipiegaaDoorSumLaid
import Derived.Test.YtcgmaiadipiegaaDoorTie
import Derived.Test.YtcgmaiadipiegaaDoorCards
import Derived.SevenTiedAt
namespace Go.Proofs.YtcgmaiadipiegaaDoor
open Go.RowKit Go.Sort
set_option linter.unusedVariables false

theorem dec_nil : decV [] = ⟨0, 0⟩ ∧ decE [] = 3 := by
  rcases dec_cases [] with ⟨m, _, h, _⟩ | ⟨_, h1, h2⟩
  · have := congrArg List.length h
    rw [encM_len] at this
    simp at this
  · exact ⟨h1, h2⟩

set_option maxRecDepth 100000 in
set_option maxHeartbeats 2000000 in
theorem metaBack_walk (m : MT) (b : ByteArray) (w : World) (hh : Half w) (hm : MI m) (hs : b.size ≤ 140737488351232) :
    Calls Tryd.prog 5 #[metaV m, .string b] w fun e w' => e = .returned (.bool true) ∧ Below w.heap.size w w' := by
  obtain ⟨C, F, hcv, hF⟩ := bytes_of b
  obtain ⟨x, y⟩ := m
  have henc := mtEncode_any ⟨x, y⟩
  have hx := Lib.hid hm
  unfold metaV at *
  simp only at *
  have hb0 : Below w.heap.size w (w.alloc (.cells #[.int .i64 x, .int .i64 y] 23)) := (Below.refl _ _).alloc (Nat.le_refl _) _
  clear hm
  by_cases hl : 2000 < b.size
  · go_enter Tryd.func5, Tryd.ntmps5
    go_wp2_with fail
    refine (mtAwake_any _ (hh.below hb0)).mono ?_
    rintro e w1 ⟨rfl, hb1⟩
    have hb2 := bthen hb0 hb1
    clear hb0 hb1
    go_wp2_with fail
    refine (mtAwake_any w1 (hh.below hb2)).mono ?_
    rintro e w2 ⟨rfl, hb3⟩
    go_wp2
    go_ret
    exact ⟨rfl, bthen hb2 hb3⟩
  · go_enter Tryd.func5, Tryd.ntmps5
    go_wp2_with fail
    refine (mtAwake_any _ (hh.below hb0)).mono ?_
    rintro e w1 ⟨rfl, hb1⟩
    have c0 := box_at hb1 0 (.int .i64 x) rfl
    have c1 := box_at hb1 1 (.int .i64 y) rfl
    have hbw := bthen hb0 hb1
    have hs1 := box_lt hb1
    clear hb0 hb1
    go_wp2_with fail
    refine (henc w1 hx.out (hh.below hbw)).mono ?_
    intro e w2 hpost
    by_cases hok : okM ⟨x, y⟩
    · obtain ⟨v2, rfl, ho2, hb2⟩ := menc_ok hpost hok
      obtain ⟨A2, n2, c2, rfl, hn2, hc2, hr2⟩ := ho2.named
      have hbw2 := bthen hbw hb2
      have Hn := Lib.hid hn2
      have hn3 : n2 ≤ 1000 := by rw [encM_len] at hn2; omega
      have d0 := (hb2.cell (p := ⟨w.heap.size, 0, none⟩) hs1).trans c0
      have d1 := (hb2.cell (p := ⟨w.heap.size, 1, none⟩) hs1).trans c1
      have hs2 : w.heap.size < w2.heap.size := Nat.lt_of_lt_of_le hs1 hb2.size
      clear hpost hn2 ho2 hb2 hbw hs1 c0 c1
      go_wp2_with fail
      refine (mtDecode_any A2 n2 c2 (encM ⟨x, y⟩) w2 (hh.below hbw2) hr2 Hn.out (by omega)).mono ?_
      rintro e w3 ⟨rfl, hb3⟩
      rw [(dec_enc hok).1, (dec_enc hok).2]
      unfold metaV
      have e0 := (hb3.cell (p := ⟨w.heap.size, 0, none⟩) hs2).trans d0
      have e1 := (hb3.cell (p := ⟨w.heap.size, 1, none⟩) hs2).trans d1
      have hs3 : w.heap.size < w3.heap.size := Nat.lt_of_lt_of_le hs2 hb3.size
      obtain ⟨W4, hW4⟩ : ∃ W4, W4 = w3.alloc (.cells #[.int .i64 x, .int .i64 y] 29) := ⟨_, rfl⟩
      have hbW4 : Below w.heap.size w W4 := by
        rw [hW4]
        exact bthen (bthen hbw2 hb3) ((Below.refl _ _).alloc (Nat.le_refl _) _)
      have HW4 := Lib.hid hW4
      clear hb3 d0 d1 hr2 hbw2 hW4 hs2 henc
      obtain ⟨hr5, hc5, hb5⟩ := hF W4
      rw [show W4.heap.size = w3.heap.size + 1 by rw [HW4.out]; simp] at hr5
      have hb05 := bthen hbW4 hb5
      have hhw5 := hh.below hb05
      go_wp2_with fail
      simp only [← HW4.out]
      refine (mtDecode_any _ b.size (C W4) b.data.toList (F W4) hhw5 hr5 rfl (by omega)).mono ?_
      rintro e w6 ⟨rfl, hb6⟩
      have hb06 := bthen hb05 hb6
      clear hb5 hb6 hr5 hb05
      rcases dec_cases b.data.toList with ⟨m', hok', henc', _, h1, h2⟩ | ⟨_, h1, h2⟩
      · obtain ⟨x', y'⟩ := m'
        rw [h1, h2]
        have henc2 := mtEncode_any ⟨x', y'⟩
        unfold metaV at *
        simp only at *
        have hb7 : Below w6.heap.size w6 (w6.alloc (.cells #[.int .i64 x', .int .i64 y'] 29)) := (Below.refl _ _).alloc (Nat.le_refl _) _
        have hb07 := bthen hb06 hb7
        have HE := Lib.hid henc'
        clear h1 h2 hb7 hb06 henc'
        go_wp2_with fail
        refine (henc2 _ (okM_mi hok') (hh.below hb07)).mono ?_
        intro e w8 hpost8
        obtain ⟨v8, rfl, ho8, hb8⟩ := menc_ok hpost8 hok'
        obtain ⟨A8, n8, c8, rfl, hn8, hc8, hr8⟩ := ho8.named
        have hb08 := bthen hb07 hb8
        rw [HE.out] at hn8 hr8
        have hn8' : b.size = n8 := hn8
        have cv8 := conv_str (c := c8) hr8
        rw [hn8'] at cv8
        clear hpost8 ho8 hn8 hn8' hb8 hb07 henc2
        go_wp2
        go_ret
        exact ⟨rfl, hb08⟩
      · rw [h1, h2]
        unfold metaV
        have hb7 : Below w6.heap.size w6 (w6.alloc (.cells #[.int .i64 0, .int .i64 0] 29)) := (Below.refl _ _).alloc (Nat.le_refl _) _
        have hb07 := bthen hb06 hb7
        clear h1 h2
        go_wp2
        go_ret
        exact ⟨rfl, hb07⟩
    · obtain ⟨rfl, hb2⟩ := menc_no hpost hok
      have hbw2 := bthen hbw hb2
      clear hpost hb2 hbw c0 c1
      go_wp2_with fail
      refine (mtDecode_any none 0 0 [] w2 (hh.below hbw2) (Rd.nil _ _) rfl (by omega)).mono ?_
      rintro e w3 ⟨rfl, hb3⟩
      rw [dec_nil.1, dec_nil.2]
      unfold metaV
      obtain ⟨W4, hW4⟩ : ∃ W4, W4 = w3.alloc (.cells #[.int .i64 0, .int .i64 0] 29) := ⟨_, rfl⟩
      have hbW4 : Below w.heap.size w W4 := by
        rw [hW4]
        exact bthen (bthen hbw2 hb3) ((Below.refl _ _).alloc (Nat.le_refl _) _)
      have HW4 := Lib.hid hW4
      clear hb3 hbw2 hW4 henc hok
      obtain ⟨hr5, hc5, hb5⟩ := hF W4
      rw [show W4.heap.size = w3.heap.size + 1 by rw [HW4.out]; simp] at hr5
      have hb05 := bthen hbW4 hb5
      have hhw5 := hh.below hb05
      go_wp2_with fail
      simp only [← HW4.out]
      refine (mtDecode_any _ b.size (C W4) b.data.toList (F W4) hhw5 hr5 rfl (by omega)).mono ?_
      rintro e w6 ⟨rfl, hb6⟩
      have hb06 := bthen hb05 hb6
      clear hb5 hb6 hr5 hb05
      rcases dec_cases b.data.toList with ⟨m', hok', henc', _, h1, h2⟩ | ⟨_, h1, h2⟩
      · obtain ⟨x', y'⟩ := m'
        rw [h1, h2]
        have henc2 := mtEncode_any ⟨x', y'⟩
        unfold metaV at *
        simp only at *
        have hb7 : Below w6.heap.size w6 (w6.alloc (.cells #[.int .i64 x', .int .i64 y'] 29)) := (Below.refl _ _).alloc (Nat.le_refl _) _
        have hb07 := bthen hb06 hb7
        have HE := Lib.hid henc'
        clear h1 h2 hb7 hb06 henc'
        go_wp2_with fail
        refine (henc2 _ (okM_mi hok') (hh.below hb07)).mono ?_
        intro e w8 hpost8
        obtain ⟨v8, rfl, ho8, hb8⟩ := menc_ok hpost8 hok'
        obtain ⟨A8, n8, c8, rfl, hn8, hc8, hr8⟩ := ho8.named
        have hb08 := bthen hb07 hb8
        rw [HE.out] at hn8 hr8
        have hn8' : b.size = n8 := hn8
        have cv8 := conv_str (c := c8) hr8
        rw [hn8'] at cv8
        clear hpost8 ho8 hn8 hn8' hb8 hb07 henc2
        go_wp2
        go_ret
        exact ⟨rfl, hb08⟩
      · rw [h1, h2]
        unfold metaV
        have hb7 : Below w6.heap.size w6 (w6.alloc (.cells #[.int .i64 0, .int .i64 0] 29)) := (Below.refl _ _).alloc (Nat.le_refl _) _
        have hb07 := bthen hb06 hb7
        clear h1 h2
        go_wp2
        go_ret
        exact ⟨rfl, hb07⟩

end Go.Proofs.YtcgmaiadipiegaaDoor

namespace Go.Proofs.YtcgmaiadipiegaaDoor.metaBack
open Go Go.ChangeShapes Go.WideShapes Go.ChangeAt Go.RowKit
open Go.ChangeMaps (open_string shut_string)
set_option linter.unusedVariables false

theorem own : ownKnob Tryd.prog.godebug = none := by kernel_rfl

theorem laidOut : laidOutB Tryd.prog = true := by kernel_rfl

set_option maxRecDepth 100000 in
theorem lifted (os : Os) (started : os.Started) (H : Type) (enc : TypeId × Value → H) :
    ReturnsInHanded {} Tryd.checked os 5 .any (fun w args => (Rows.metaBackSpec.pre enc Tryd.prog Tryd.f5 [] false w args ∧ laidMetH Tryd.prog laidL w) ∧ sizedMet enc Tryd.prog Tryd.f5 (OpenSpec.ofChange Rows.metaBackSpec) false w args)
      (Rows.metaBackSpec.post enc Tryd.prog Tryd.f5 false true false false) := by
  refine returnsInHanded_of_change_and (C := Tryd.checked) (X := fun w _ => laidMetH Tryd.prog laidL w) (fun _ _ _ hh h => h.of_heap hh) own started (by kernel_rfl) Tryd.func5
    (ChangeSpec.witness_shaped (enc := enc) (C := Tryd.checked) (os := os) (X := fun w _ => laidMetH Tryd.prog laidL w) false (World.doorLaid Tryd.prog 14 os) #[.agg #[.int .i64 0, .int .i64 0], .string ByteArray.empty] 8 rfl (World.shaped_of_RefB (by kernel_rfl) (by kernel_rfl)) (by kernel_rfl) (by kernel_rfl) (by kernel_rfl) (door_met os _)) ?_
  intro W base args ds gs before hval0 hW hcnd hsz0 hL _
  have hval : ∀ (j : Nat) t v, Tryd.f5.params[j]? = some t → args[j]? = some v → Value.okWide Tryd.prog W .any base t v := hval0
  have hsz : (DataW.weightsEach Tryd.prog (Tryd.f5.params.toList ++ Rows.metaBackSpec.plain.varTypes Tryd.prog) (ds ++ gs)).all (· ≤ reachBytes) = true := hsz0
  have hW' := hW
  obtain ⟨p, q, hA0, hV, rfl, hfz, hnd⟩ := hW
  have hA : DataW.TrodAll enc Tryd.prog W 0 (fun _ => true) true Tryd.f5.params.toList args.toList ds p := hA0
  rw [Tryd.params5] at hA hval hsz
  obtain ⟨v0, vs0, d0, ds0, p0, q0, hargs, rfl, rfl, h0, r0⟩ := trodAll_cons hA
  obtain ⟨v1, vs1, d1, ds1, p1, q1, rfl, rfl, rfl, h1, r1⟩ := trodAll_cons r0
  obtain ⟨rfl, rfl, rfl⟩ := trodAll_nil r1
  obtain rfl : args = #[v0, v1] := by cases args; simp_all
  obtain ⟨rfl, rfl⟩ := trodVars_none hV
  have k0 := h0
  have lt0 : ∀ x ∈ p0, x.block < W.heap.size := by obtain ⟨m, hm⟩ := k0; exact DataW.trod_lt m _ _ _ hm
  obtain ⟨a0, rfl, w0⟩ := open_meta (hval 0 23 v0 rfl rfl) h0
  obtain ⟨a1, rfl, rfl, rfl, w1⟩ := open_string Tryd.underlying9 (hval 1 9 v1 rfl rfl) h1
  have z1 : a1.data.toList.length ≤ reachBytes := sized_string hsz (j := 1) (t := 9) rfl rfl
  have y1 : a1.size ≤ 140737488351232 := z1
  clear hA0 hval0 hsz hsz0
  refine (metaBack_walk a0 a1 W (half_of_laid hL) w0 y1).mono fun e W' ⟨he, bel⟩ => ?_
  subst he
  exact ⟨_, rfl, _, _, _, [], _, [], hW', trodAll_mk1 (shut_bool Tryd.underlying4 _), (trodAll_cons_mk (Below.trod laidOut (by kernel_rfl) (of_decide_eq_true (by kernel_rfl)) k0 bel lt0) (trodAll_cons_mk (shut_string Tryd.underlying9 w1) trodAll_mk0)), rfl, bel.frame _, fun h => by cases h⟩

theorem over : Rows.MetaBackSaid :=
  OpenClaim.holds_of_wide 5 Tryd.f5 rfl rfl rfl rfl rfl rfl rfl ⟨rfl, rfl, rfl, rfl, rfl⟩ rfl rfl rfl rfl rfl (by kernel_rfl) Tryd.func5 (by kernel_rfl)
    (of_decide_eq_true (by kernel_rfl)) (by unfold Func.isWrapper; first | (rw [if_pos (by decide +kernel)]; kernel_rfl) | (rw [if_neg (by decide +kernel)]; exact ⟨rfl, rfl⟩))
    (fun os started H enc _ => lifted os started H enc)

theorem proved : Rows.MetaBackCardSaid :=
  Claim7.holds_tied_plain_at .later [] [.data] true (true, "ff6571c9258cc5ae1a33e9450d62fd3a3d2abbbe87473920b80c14b5ab16f570") false
    over (fun _ h => by cases h) (by kernel_rfl) (fun _ h => by cases h) metaBack_row_tie rfl ⟨rfl, rfl⟩ (by kernel_rfl) rfl
    (fun f fn hf hfn => by
      obtain rfl : f = 5 := Option.some.inj ((show Tryd.prog.funcNamed "sapwood/sapwoodlaw06.MetaBack" = some 5 by kernel_rfl).symm.trans hf) |>.symm
      obtain rfl : fn = Tryd.f5 := (Option.some.inj (Tryd.func5.symm.trans hfn)).symm
      exact ⟨by kernel_rfl, fun j t ht => by
        rw [Tryd.params5] at ht
        have hm : t ∈ [23, 9] := by simpa using Array.mem_of_getElem? ht
        have hall : ([23, 9].all fun u => !Tryd.prog.wantsStandIn u) = true := by kernel_rfl
        exact (show Tryd.prog.wantsStandIn t = false by simpa using List.all_eq_true.1 hall t hm)⟩)
    (by kernel_rfl)
#print axioms proved

end Go.Proofs.YtcgmaiadipiegaaDoor.metaBack
