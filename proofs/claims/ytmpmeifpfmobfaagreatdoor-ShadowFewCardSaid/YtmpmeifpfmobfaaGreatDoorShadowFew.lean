/-
  ShadowFew: a tree that is known is planned without any write, one that was changed in one place with few, and no known page is written again; for every list and every change; no condition beyond the row's.
-/
import Derived.Test.YtmpmeifpfmobfaaGreatDoorShKnown
import Derived.Test.YtmpmeifpfmobfaaGreatDoorTie
import Derived.Test.YtmpmeifpfmobfaaGreatDoorCards
import Derived.SevenTiedAt
namespace Go.Proofs.YtmpmeifpfmobfaaGreatDoor
open Go.RowKit Go.Sort
set_option linter.unusedVariables false
set_option linter.unusedSimpArgs false

def Bs (g : Nat) (o : TOp) (w : World) : Prop := w.heap[g]? = some (.cells #[.bool o.d, .string o.e.k, .string o.e.v] 60 (0, 0))
theorem Bs.next {g : Nat} {o : TOp} {w w' : World} (h : Bs g o w) (hb : Below w.heap.size w w') : Bs g o w' := (hb.block _ (lt_of_block h)).trans h
theorem Bs.c0 {g : Nat} {o : TOp} {w : World} (h : Bs g o w) : w.cell? ⟨g, 0, none⟩ = some (.bool o.d) := cell_at h 0 _ rfl
theorem Bs.c1 {g : Nat} {o : TOp} {w : World} (h : Bs g o w) : w.cell? ⟨g, 1, none⟩ = some (.string o.e.k) := cell_at h 1 _ rfl
theorem Bs.c2 {g : Nat} {o : TOp} {w : World} (h : Bs g o w) : w.cell? ⟨g, 2, none⟩ = some (.string o.e.v) := cell_at h 2 _ rfl
theorem argT_one (w : World) (a : TOp) (ha : OkT a) : ArgT (w.alloc (.cells #[.bool a.d, .string a.e.k, .string a.e.v] 60)) (some ⟨w.heap.size, 0, none⟩) 1 1 [a] :=
  ⟨rfl, Nat.le_refl _, by omega, fun _ => ⟨_, rfl, by simp, fun j u hu => new_row w _ _ j u (by simpa [pcT] using hu)⟩, fun o ho => by
    rw [List.mem_singleton.1 ho]
    exact ha⟩
theorem height_tb {w : World} {T : TO} (ht : TreeIs w T) : Calls Tryz.prog 22 #[tb T] w fun e w' => e = .returned (.int .i64 (th T : Nat)) ∧ w = w' := by
  cases T with
  | none => exact height_nil w
  | some x =>
    have := height_any (ht x rfl).at_
    rw [(ht x rfl).high] at this
    exact this
theorem th_le {w : World} {T : TO} (ht : TreeIs w T) : th T ≤ (tl T).length := by
  cases T with
  | none => exact Nat.zero_le _
  | some x => exact (ht x rfl).len

set_option maxRecDepth 100000 in
set_option maxHeartbeats 8000000 in
theorem shadowFew_walk (A : Option Addr) (n c : Nat) (l : List TOp) (a : TOp) (w : World) (hh : Half w) (ha : ArgT w A n c l) (hoa : OkT a) :
    Calls Tryz.prog 4 #[.slice A n c, topV a] w fun e w' => e = .returned (.bool true) ∧ Below w.heap.size w w' := by
  have HH := Lib.hid hh
  have HA := Lib.hid ha
  have HOA := Lib.hid hoa
  clear hh ha hoa
  have hbW : Below w.heap.size w (w.alloc (.cells #[.bool a.d, .string a.e.k, .string a.e.v] 60)) := (Below.refl _ _).alloc (Nat.le_refl _) _
  have k0 : Bs w.heap.size a (w.alloc (.cells #[.bool a.d, .string a.e.k, .string a.e.v] 60)) := heap_alloc_new w _
  unfold topV
  go_enter Tryz.func4, Tryz.ntmps4
  go_wp2_with fail
  generalize hw0 : w.alloc (.cells #[.bool a.d, .string a.e.k, .string a.e.v] 60) = w0 at *
  refine (shAwake_any w0 (HH.out.below hbW)).mono ?_
  rintro r w1 ⟨rfl, hb1⟩
  have HX1 := Lib.hid (Bs.next k0 hb1)
  have HB1 := Lib.hid (bthen hbW hb1)
  clear hbW k0 hb1 hw0
  go_wp2_with fail
  refine (fewT_any A n c l w1 (HA.out.below HB1.out)).mono ?_
  rintro r w2 ⟨hb2, few, rfl, hfew⟩
  have HX2 := Lib.hid (HX1.out.next hb2)
  have HB2 := Lib.hid (bthen HB1.out hb2)
  have x0 := HX2.out.c0
  have x1 := HX2.out.c1
  have x2 := HX2.out.c2
  clear hb2
  cases few with
  | false =>
    go_wp2_with fail
    refine (shAwake_any w2 (HH.out.below HB2.out)).mono ?_
    rintro r w3 ⟨rfl, hb3⟩
    have hb := bthen HB2.out hb3
    clear hb3
    go_wp2
    go_ret
    exact ⟨rfl, hb⟩
  | true =>
    have hl60 := hfew rfl
    rw [HA.out.len] at hl60
    clear hfew
    go_wp2_with fail
    have hbn : Below w2.heap.size w2 (w2.alloc (.cells #[.bool a.d, .string a.e.k, .string a.e.v] 60)) := (Below.refl _ _).alloc (Nat.le_refl _) _
    refine (fewT_any _ 1 1 [a] _ (argT_one w2 a HOA.out)).mono ?_
    rintro r w3 ⟨hb3, few2, rfl, _⟩
    have hb23 := bthen hbn hb3
    have HX3 := Lib.hid (HX2.out.next hb23)
    have HB3 := Lib.hid (bthen HB2.out hb23)
    clear hbn hb3 hb23 x0 x1 x2
    cases few2 with
    | false =>
      go_wp2_with fail
      refine (shAwake_any w3 (HH.out.below HB3.out)).mono ?_
      rintro r w4 ⟨rfl, hb4⟩
      have hb := bthen HB3.out hb4
      clear hb4
      go_wp2
      go_ret
      exact ⟨rfl, hb⟩
    | true =>
      go_wp2_with fail
      refine (shBuilt_any none A n c l w3 (HA.out.below HB3.out) (by omega) (TreeIs.none _) (by simp [tl])).mono ?_
      rintro r w4 ⟨T, rfl, ht, hlen, hb4, _⟩
      have hlen : (tl T).length ≤ 0 + n := hlen
      have HT4 := Lib.hid ht
      have HX4 := Lib.hid (HX3.out.next hb4)
      have HB4 := Lib.hid (bthen HB3.out hb4)
      have x0 := HX4.out.c0
      have x1 := HX4.out.c1
      have x2 := HX4.out.c2
      obtain ⟨tp, htv⟩ : ∃ tp, Value.pointer tp = tb T := ⟨_, rfl⟩
      rw [← htv]
      have HTV := Lib.hid htv
      clear hb4 htv ht
      go_wp2_with fail
      have hbn : Below w4.heap.size w4 (w4.alloc (.cells #[.bool a.d, .string a.e.k, .string a.e.v] 60)) := (Below.refl _ _).alloc (Nat.le_refl _) _
      rw [HTV.out]
      refine (shBuilt_any T _ 1 1 [a] _ (argT_one w4 a HOA.out) (by omega) (HT4.out.below hbn) (by omega)).mono ?_
      rintro r w5 ⟨T', rfl, ht', hlen', hb5, hfn⟩
      rw [← HTV.out]
      have hb45 := bthen hbn hb5
      have HT5 := Lib.hid (HT4.out.below hb45)
      obtain ⟨L, hL⟩ := HT5.out.pr
      obtain ⟨L', hL'⟩ := ht'.pr
      have hle := hL.le
      have hle' := hL'.le
      obtain ⟨k, hkk⟩ : ∃ k, k = costs L := ⟨_, rfl⟩
      have hk165 : k ≤ 165 := by omega
      have hc' : costs L' ≤ 168 := by omega
      have HK : Hid (newC [] L = k) := Lib.hid (by rw [newC_nil, hkk])
      have hkr : 0 + newC [] L ≤ 510 := by rw [HK.out]; omega
      have HAG := Lib.hid (lay_again (j := k) hL (fun k => (few_nil k).2) hkr)
      have HFN := Lib.hid (few_new hL hL' (fun k => (few_nil k).2) hkr (hfn rfl))
      obtain ⟨k', hkk'⟩ : ∃ k', k' = newC (layM [] L 0) L' := ⟨_, rfl⟩
      have hk' : k' ≤ 168 := by
        have := newC_le (layM [] L 0) L'
        omega
      have hq : k' ≤ 9 * (3 * th T + 3) := by
        rw [hkk']
        exact HFN.out
      obtain ⟨q, hqe⟩ : ∃ q, q = th T := ⟨_, rfl⟩
      have hq60 : q ≤ 60 := by
        have := th_le HT5.out
        omega
      rw [← hqe] at hq
      have HQE := Lib.hid hqe
      have HKF := Lib.hid (lay_few hL (fun k => Nat.zero_le _) (fun k => (few_nil k).2) hkr)
      have HKC := Lib.hid hkk.symm
      have HKC' := Lib.hid hkk'.symm
      have HL := Lib.hid hL
      have HL' := Lib.hid hL'
      have HTL : Hid ((tl T).length ≤ 4000) := Lib.hid (by omega)
      have HTL' : Hid ((tl T').length ≤ 4000) := Lib.hid (by omega)
      have HLL : Hid (L.length ≤ 1000) := Lib.hid (by omega)
      have HB5 := Lib.hid (bthen HB4.out hb45)
      have HH5 := Lib.hid (HH.out.below HB5.out)
      obtain ⟨tp', htv'⟩ : ∃ tp, Value.pointer tp = tb T' := ⟨_, rfl⟩
      rw [← htv']
      have HTV' := Lib.hid htv'
      clear ht' hlen' hb5 hfn hbn hb45 hL hL' hle hle' hkk hkk' hkr hqe htv' hc' x0 x1 x2 HX1 HX2 HX3 HX4 HT4 hlen
      go_wp2_with fail
      refine (ldNew_any 512 w5).mono ?_
      rintro e w6 ⟨b, rfl, hd6, hge, hb6⟩
      have HD6 := Lib.hid (show Led w6 b 512 noMark noMark noMark from hd6)
      have HB6 := Lib.hid hb6
      have HG := Lib.hid hge
      clear hd6 hb6 hge
      go_wp2_with fail
      rw [HTV.out]
      refine (planL_ok (j := 0) HL.out HB6.out HG.out (by rw [tkn_zero]; exact HD6.out) (pgIs_nil w6) few_nil HH5.out HTL.out (by rw [HK.out]; omega)).mono ?_
      intro r w7 hpo
      rw [← HTV.out]
      obtain ⟨v, g, m, R, ws, rfl, hp1, hp2, _, _, hw1, hw2, _⟩ := hpo.out
      obtain ⟨A7, c7, rfl, _, _⟩ := hw1.form
      have HPG : Hid (PgIs w7 (.pointer (some ⟨g, 0, none⟩)) (layM [] L 0)) := Lib.hid (.inr ⟨g, some m, R, rfl, hp1, hp2.symm⟩)
      have HB7 := Lib.hid hpo.bel
      have HD7 : Hid (Led w7 b 512 noMark noMark (tkn k)) := Lib.hid (by
        have := hpo.led
        rw [HK.out, Nat.zero_add] at this
        exact this)
      obtain ⟨rt, hrt⟩ : ∃ rt, rt = rootP (layM [] L 0) (tn T) := ⟨_, rfl⟩
      rw [← hrt]
      have HRT := Lib.hid hrt
      generalize ws.length = n7
      clear hpo hp1 hp2 hw1 hw2 hrt
      go_wp2_with fail
      rw [HTV.out]
      refine (planL_ok (j := k) HL.out HB7.out HG.out HD7.out HPG.out (fun k => ⟨Nat.le_trans (HKF.out k).1 (by omega), (HKF.out k).2⟩) HH5.out HTL.out (by rw [HAG.out.1]; omega)).mono ?_
      intro r w8 hpo
      rw [← HTV.out]
      obtain ⟨v, g8, m8, R8, ws8, rfl, hp1, hp2, _, _, hw1, hw2, _⟩ := hpo.out
      have hwl := wr_len HL.out hw2
      rw [HAG.out.1] at hwl
      obtain ⟨A8, c8, rfl, hc8, _⟩ := hw1.form
      rw [hwl] at hc8 ⊢
      have HQG : Hid (PgIs w8 (.pointer (some ⟨g8, 0, none⟩)) (layM [] L 0)) := Lib.hid (.inr ⟨g8, some m8, R8, rfl, hp1, by rw [hp2, HAG.out.2]⟩)
      obtain ⟨cl, hcl⟩ := HD7.out.typed
      have HPG8 := Lib.hid (HPG.out.stay hcl hpo.stp.fx.size hpo.stp.same)
      have HB8 := Lib.hid hpo.bel
      have HD8 : Hid (Led w8 b 512 noMark noMark (tkn k)) := Lib.hid (by
        have := hpo.led
        rw [HAG.out.1] at this
        exact this)
      rw [HAG.out.2, ← HRT.out]
      clear hpo hp1 hp2 hw1 hw2 hwl hcl
      go_wp2_with fail
      refine (all_any HQG.out (lay_sum HL.out (fun k => Nat.zero_le _) HLL.out)).mono ?_
      intro e w9 hall
      obtain ⟨A9, c9, rfl, hc9, hr9, hb9⟩ := lay_all hall
      rw [HKC.out] at hc9 hr9 ⊢
      have HR9 := Lib.hid hr9
      have HB9 := Lib.hid (bthen HB8.out hb9)
      have HPG9 := Lib.hid (HPG8.out.below hb9)
      have HD9 := Lib.hid (HD8.out.below hb9)
      clear hall hb9 hr9
      go_wp2_with fail
      refine (all_any HPG9.out (lay_sum HL.out (fun k => Nat.zero_le _) HLL.out)).mono ?_
      intro e w10 hall
      obtain ⟨A10, c10, rfl, hc10, hr10, hb10⟩ := lay_all hall
      rw [HKC.out] at hc10 hr10 ⊢
      have HR10 := Lib.hid hr10
      have HR910 := Lib.hid (HR9.out.below hb10)
      have HB10 := Lib.hid (bthen HB9.out hb10)
      have HPG10 := Lib.hid (HPG9.out.below hb10)
      have HD10 := Lib.hid (HD9.out.below hb10)
      clear hall hb10 hr10
      go_wp2_with fail
      refine (shSame_any HR910.out (ups_len _ _) HR10.out (ups_len _ _) (by omega) (by omega)).mono ?_
      rintro e w11 ⟨rfl, hb11⟩
      rw [decide_eq_true rfl]
      have HB11 := Lib.hid (bthen HB10.out hb11)
      have HPG11 := Lib.hid (HPG10.out.below hb11)
      have HD11 := Lib.hid (HD10.out.below hb11)
      clear hb11
      go_wp2_with fail
      rw [HTV'.out]
      refine (planL_ok (j := k) HL'.out HB11.out HG.out HD11.out HPG11.out (fun k => ⟨Nat.le_trans (HKF.out k).1 (by omega), (HKF.out k).2⟩) HH5.out HTL'.out (by rw [HKC'.out]; omega)).mono ?_
      intro r w12 hpo
      rw [← HTV'.out]
      obtain ⟨v, g12, m12, R12, ws12, rfl, hp1, hp2, _, _, hw1, hw2, _⟩ := hpo.out
      have hwl := wr_len HL'.out hw2
      have hat := wr_at HL'.out hw2
      rw [HKC'.out] at hwl
      obtain ⟨A12, c12, rfl, hc12, hr12⟩ := hw1.form
      rw [hwl] at hc12 ⊢
      obtain ⟨cl, hcl⟩ := HD11.out.typed
      have HPG12 := Lib.hid (HPG11.out.stay hcl hpo.stp.fx.size hpo.stp.same)
      have HB12 := Lib.hid hpo.bel
      have HR12 := Lib.hid hr12
      have HAT := Lib.hid hat
      have HWL := Lib.hid hwl
      generalize rootP (layM (layM [] L 0) L' k) (tn T') = rt12
      clear hpo hp1 hp2 hw1 hw2 hwl hcl hr12 hat
      go_wp2_with fail
      rw [HTV.out]
      refine (height_tb (HT5.out.below HB12.out)).mono ?_
      rintro r w13 ⟨rfl, rfl⟩
      rw [← HTV.out, ← HQE.out]
      go_wp2_with fail
      refine (all_any HPG12.out (lay_sum HL.out (fun k => Nat.zero_le _) HLL.out)).mono ?_
      intro e w13 hall
      obtain ⟨A13, c13, rfl, hc13, hr13, hb13⟩ := lay_all hall
      rw [HKC.out] at hc13 hr13 ⊢
      have HR13 := Lib.hid hr13
      have HRW := Lib.hid (HR12.out.below hb13)
      have HB13 := Lib.hid (HB5.out.trans ((bthen HB12.out hb13).mono HB5.out.size))
      clear hall hb13 hr13
      go_wp2
      go_loopw [113] (fun s wr => ∃ i : Nat, i ≤ k' ∧ s = .int .i64 i ∧ Below w13.heap.size w13 wr) (fun s _ => k' - (intOf s).toNat)
      case atStart => exact ⟨0, Nat.zero_le _, rfl, Below.refl _ _⟩
      case round =>
        obtain ⟨i, hi, rfl, hbr⟩ := hrel
        by_cases hlt : i < k'
        · obtain ⟨ad, x, rfl, hx, hl1, hcx⟩ := HRW.out.at_ encW (i := i) (by rw [HWL.out]; exact hlt)
          have q0 : w13.cell? (ad.add (i * 2)) = some (.int .i64 x.at_) := by
            have := hcx 0 (.int .i64 x.at_) (by omega) rfl
            rw [add_of_add] at this
            simpa using this
          have hxa := (HAT.out x (List.mem_of_getElem? hx)).1
          obtain ⟨y, hy⟩ : ∃ y, y = x.at_ := ⟨_, rfl⟩
          rw [← hy] at q0 hxa
          have HQ0 := Lib.hid q0
          clear hx hcx hy q0
          go_wp2
          go_loopw [118] (fun s wx => ∃ j : Nat, j ≤ k ∧ s = .int .i64 j ∧ Below w13.heap.size w13 wx) (fun s _ => k - (intOf s).toNat)
          case atStart => exact ⟨0, Nat.zero_le _, rfl, hbr⟩
          case round =>
            obtain ⟨j, hj, rfl, hbx⟩ := hrel
            by_cases hjt : j < k
            · obtain ⟨ad', z, rfl, hz, hl2, q1⟩ := (HR13.out.below hbx).atI (i := j) (by rw [ups_len]; exact hjt)
              rw [ups_at 0 k j hjt] at hz
              cases hz
              have q0 : wr.cell? (ad.add (i * 2)) = some (.int .i64 y) := by
                refine (hbx.cell ?_).trans HQ0.out
                rw [block_of_add]
                exact hl1
              have hl1' : ad.block < wr.heap.size := Nat.lt_of_lt_of_le hl1 hbx.size
              have hne : (y == ((0 + j + 2 : Nat) : Int)) = false := by
                have : y ≠ ((0 + j + 2 : Nat) : Int) := by omega
                simpa using this
              have HBX := Lib.hid hbx
              clear hbx hbr
              go_wp2
              go_quiet (fail)
              go_wp2
              exact ⟨⟨j + 1, by omega, by go_num, below_drewN HBX.out _⟩, by simp [intOf]; omega⟩
            · have he : j = k := by omega
              subst he
              go_wp2
              exact ⟨⟨i + 1, by omega, by go_num, hbx⟩, by simp [intOf]; omega⟩
        · have he : i = k' := by omega
          subst he
          have hbf := bthen HB13.out hbr
          clear hbr
          go_wp2
          go_ret
          exact ⟨rfl, hbf⟩

end Go.Proofs.YtmpmeifpfmobfaaGreatDoor

namespace Go.Proofs.YtmpmeifpfmobfaaGreatDoor.shadowFew
open Go Go.ChangeShapes Go.WideShapes Go.ChangeAt Go.RowKit
open Go.ChangeMaps (open_string shut_string)
set_option linter.unusedVariables false

theorem own : ownKnob Tryz.prog.godebug = none := by kernel_rfl

theorem laidOut : laidOutB Tryz.prog = true := by kernel_rfl

set_option maxRecDepth 100000 in
theorem lifted (os : Os) (started : os.Started) (H : Type) (enc : TypeId × Value → H) :
    ReturnsInHanded {} Tryz.checked os 4 .any (fun w args => (Rows.shadowFewSpec.pre enc Tryz.prog Tryz.f4 [] false w args ∧ laidMetH Tryz.prog laidL w) ∧ sizedMet enc Tryz.prog Tryz.f4 (OpenSpec.ofChange Rows.shadowFewSpec) false w args)
      (Rows.shadowFewSpec.post enc Tryz.prog Tryz.f4 false true false false) := by
  refine returnsInHanded_of_change_and (C := Tryz.checked) (X := fun w _ => laidMetH Tryz.prog laidL w) (fun _ _ _ hh h => h.of_heap hh) own started (by kernel_rfl) Tryz.func4
    (ChangeSpec.witness_shaped (enc := enc) (C := Tryz.checked) (os := os) (X := fun w _ => laidMetH Tryz.prog laidL w) false (World.doorLaid Tryz.prog 14 os) #[.slice none 0 0, .agg #[.bool false, .string ByteArray.empty, .string ByteArray.empty]] 8 rfl (World.shaped_of_RefB (by kernel_rfl) (by kernel_rfl)) (by kernel_rfl) (by kernel_rfl) (by kernel_rfl) (door_met os _)) ?_
  intro W base args ds gs before hval0 hW hcnd hsz0 hL _
  have hval : ∀ (j : Nat) t v, Tryz.f4.params[j]? = some t → args[j]? = some v → Value.okWide Tryz.prog W .any base t v := hval0
  have hsz : (DataW.weightsEach Tryz.prog (Tryz.f4.params.toList ++ Rows.shadowFewSpec.plain.varTypes Tryz.prog) (ds ++ gs)).all (· ≤ reachBytes) = true := hsz0
  have hW' := hW
  obtain ⟨p, q, hA0, hV, rfl, hfz, hnd⟩ := hW
  have hA : DataW.TrodAll enc Tryz.prog W 0 (fun _ => true) true Tryz.f4.params.toList args.toList ds p := hA0
  rw [Tryz.params4] at hA hval hsz
  obtain ⟨v0, vs0, d0, ds0, p0, q0, hargs, rfl, rfl, h0, r0⟩ := trodAll_cons hA
  obtain ⟨v1, vs1, d1, ds1, p1, q1, rfl, rfl, rfl, h1, r1⟩ := trodAll_cons r0
  obtain ⟨rfl, rfl, rfl⟩ := trodAll_nil r1
  obtain rfl : args = #[v0, v1] := by cases args; simp_all
  obtain ⟨rfl, rfl⟩ := trodVars_none hV
  have k0 := h0
  have lt0 : ∀ x ∈ p0, x.block < W.heap.size := by obtain ⟨m, hm⟩ := k0; exact DataW.trod_lt m _ _ _ hm
  obtain ⟨A0, n0, c0, rfl⟩ := okWide_slice Tryz.underlying22 (hval 0 22 v0 rfl rfl)
  obtain ⟨l0, w0⟩ := open_tops h0 (fun m hm => of_decide_eq_true (List.all_eq_true.1 hsz _ (DataW.weights_mem_each (j := 0) (t := 22) rfl rfl m hm)))
  have k1 := h1
  have lt1 : ∀ x ∈ p1, x.block < W.heap.size := by obtain ⟨m, hm⟩ := k1; exact DataW.trod_lt m _ _ _ hm
  obtain ⟨a1, rfl, w1⟩ := open_top (hval 1 60 v1 rfl rfl) h1 (fun m hm => of_decide_eq_true (List.all_eq_true.1 hsz _ (DataW.weights_mem_each (j := 1) (t := 60) rfl rfl m hm)))
  clear hA0 hval0 hsz hsz0
  refine (shadowFew_walk A0 n0 c0 l0 a1 W (half_of_laid hL) w0 w1).mono fun e W' ⟨he, bel⟩ => ?_
  subst he
  exact ⟨_, rfl, _, _, _, [], _, [], hW', trodAll_mk1 (shut_bool Tryz.underlying4 _), (trodAll_cons_mk (Below.trod laidOut (by kernel_rfl) (of_decide_eq_true (by kernel_rfl)) k0 bel lt0) (trodAll_cons_mk (Below.trod laidOut (by kernel_rfl) (of_decide_eq_true (by kernel_rfl)) k1 bel lt1) trodAll_mk0)), rfl, bel.frame _, fun h => by cases h⟩

theorem over : Rows.ShadowFewSaid :=
  OpenClaim.holds_of_wide 4 Tryz.f4 rfl rfl rfl rfl rfl rfl rfl ⟨rfl, rfl, rfl, rfl, rfl⟩ rfl rfl rfl rfl rfl (by kernel_rfl) Tryz.func4 (by kernel_rfl)
    (of_decide_eq_true (by kernel_rfl)) (by unfold Func.isWrapper; first | (rw [if_pos (by decide +kernel)]; kernel_rfl) | (rw [if_neg (by decide +kernel)]; exact ⟨rfl, rfl⟩))
    (fun os started H enc _ => lifted os started H enc)

theorem proved : Rows.ShadowFewCardSaid :=
  Claim7.holds_tied_plain_at .later [] [.data] true (true, "1a050d4e79ea44ac8259af8edcd1acaf85ecd57fc3629b5714598d0c6a657e50") false
    over (fun _ h => by cases h) (by kernel_rfl) (fun _ h => by cases h) shadowFew_row_tie rfl ⟨rfl, rfl⟩ (by kernel_rfl) rfl
    (fun f fn hf hfn => by
      obtain rfl : f = 4 := Option.some.inj ((show Tryz.prog.funcNamed "sapwood/sapwoodlaw14.ShadowFew" = some 4 by kernel_rfl).symm.trans hf) |>.symm
      obtain rfl : fn = Tryz.f4 := (Option.some.inj (Tryz.func4.symm.trans hfn)).symm
      exact ⟨by kernel_rfl, fun j t ht => by
        rw [Tryz.params4] at ht
        have hm : t ∈ [22, 60] := by simpa using Array.mem_of_getElem? ht
        have hall : ([22, 60].all fun u => !Tryz.prog.wantsStandIn u) = true := by kernel_rfl
        exact (show Tryz.prog.wantsStandIn t = false by simpa using List.all_eq_true.1 hall t hm)⟩)
    (by kernel_rfl)
#print axioms proved

end Go.Proofs.YtmpmeifpfmobfaaGreatDoor.shadowFew
