/-
  MetaPair: of two meta pages on their places the newer one stands first, and on the wrong ones there are none, for every two meta pages; no condition beyond the row's.
-/
import Derived.Test.YtcgmaiadipiegaaDoorMetaNewC
import Derived.Test.YtcgmaiadipiegaaDoorMetaTools
import Derived.Test.YtcgmaiadipiegaaDoorMetaAwake
import Derived.Test.YtcgmaiadipiegaaDoorSumLaid
import Derived.Test.YtcgmaiadipiegaaDoorTie
import Derived.Test.YtcgmaiadipiegaaDoorCards
import Derived.SevenTiedAt
namespace Go.Proofs.YtcgmaiadipiegaaDoor
open Go.RowKit Go.Sort
set_option linter.unusedVariables false
set_option linter.unusedSimpArgs false

theorem pick_yes1 {s : Int} {m : MT} (h : okM m) (hs : slotI m.e = s) : pickM s (encM m) = [m] := by
  rw [pickM, (decM_iff (encM m) m).2 ⟨h, rfl⟩]
  simp [hs]
theorem pick_no1 {s : Int} {m : MT} (h : okM m) (hs : slotI m.e ≠ s) : pickM s (encM m) = [] := by
  rw [pickM, (decM_iff (encM m) m).2 ⟨h, rfl⟩]
  simp [hs]
theorem new_places {a b : MT} (ha : okM a) (hb : okM b) (h0 : slotI a.e = 0) (h1 : slotI b.e = 1) : newM (encM a) (encM b) = (if a.e < b.e then [b, a] else [a, b]) ∧ newM (encM b) (encM a) = [] := by
  refine ⟨?_, ?_⟩
  · rw [newM, pick_yes1 ha h0, pick_yes1 hb h1]
    rfl
  · rw [newM, pick_no1 hb (by omega), pick_no1 ha (by omega)]
    rfl
/-- A list of two, cell by cell. -/
theorem own_cells {w : World} {base : Nat} {v : Value} {p q : MT} (h : OwnL pcM 29 2 w base v [p, q]) :
    ∃ g cap, v = .slice (some ⟨g, 0, none⟩) 2 cap ∧ 2 ≤ cap ∧ g < w.heap.size ∧ ∀ w', Below w.heap.size w w' → w'.cell? ⟨g, 0, none⟩ = some (.int .i64 p.e) ∧ w'.cell? ⟨g, 1, none⟩ = some (.int .i64 p.r) ∧ w'.cell? ⟨g, 2, none⟩ = some (.int .i64 q.e) ∧ w'.cell? ⟨g, 3, none⟩ = some (.int .i64 q.r) := by
  rcases h.2 with ⟨_, h0⟩ | ⟨g, cap, cur, hv, hg, hz, hc, hmx, hcs, htk⟩
  · cases h0
  have htk' : cur.toList.take 4 = [.int .i64 p.e, .int .i64 p.r, .int .i64 q.e, .int .i64 q.r] := htk
  have hat : ∀ j, j < 4 → cur[j]? = ([.int .i64 p.e, .int .i64 p.r, .int .i64 q.e, .int .i64 q.r] : List Value)[j]? := fun j hj => by
    rw [← htk', List.getElem?_take_of_lt hj]
    simp
  refine ⟨g, cap, hv, hc, lt_of_block hz, fun w' hb => ?_⟩
  have hz' := (hb.block g (lt_of_block hz)).trans hz
  exact ⟨(cell_of_block hz' 0).trans (hat 0 (by omega)), (cell_of_block hz' 1).trans (hat 1 (by omega)), (cell_of_block hz' 2).trans (hat 2 (by omega)), (cell_of_block hz' 3).trans (hat 3 (by omega))⟩

set_option maxRecDepth 100000 in
set_option maxHeartbeats 4000000 in
theorem metaPair_walk (o n : MT) (w : World) (hh : Half w) (ho : MI o) (hn : MI n) :
    Calls Tryd.prog 10 #[metaV o, metaV n] w fun e w' => e = .returned (.bool true) ∧ Below w.heap.size w w' := by
  obtain ⟨x, y⟩ := o
  obtain ⟨x', y'⟩ := n
  have henc := mtEncode_any ⟨x, y⟩
  have henc' := mtEncode_any ⟨x', y'⟩
  have hri := mtRefRight_any ⟨x, y⟩
  have hri' := mtRefRight_any ⟨x', y'⟩
  have HO := Lib.hid ho
  have HN := Lib.hid hn
  have hx1 := ho.1.1
  have hx2 := ho.1.2
  have hx1' := hn.1.1
  have hx2' := hn.1.2
  unfold metaV at *
  simp only at *
  obtain ⟨W, hW, hbW, hsW, hcW⟩ := two_boxes w x y x' y' 23
  have HW := Lib.hid hW
  have HS := Lib.hid hsW
  have HC := Lib.hid hcW
  clear hW hsW hcW ho hn
  go_enter Tryd.func10, Tryd.ntmps10
  go_wp2_with fail
  rw [← HW.out]
  refine (mtAwake_any W (hh.below hbW)).mono ?_
  rintro e w1 ⟨rfl, hb1⟩
  obtain ⟨c0, c1, c2, c3⟩ := HC.out w1 hb1
  go_wp2_with fail
  refine (hri w1 HO.out).mono ?_
  rintro e w2 ⟨rfl, hb2⟩
  have hb2 := bthen hb1 hb2
  clear c0 c1 c2 c3 hb1
  by_cases hok : okM ⟨x, y⟩
  · rw [decide_eq_true hok]
    obtain ⟨c0, c1, c2, c3⟩ := HC.out w2 hb2
    go_wp2_with fail
    refine (hri' w2 HN.out).mono ?_
    rintro e w3 ⟨rfl, hb3⟩
    have hb3 := bthen hb2 hb3
    clear c0 c1 c2 c3 hb2
    by_cases hok' : okM ⟨x', y'⟩
    · rw [decide_eq_true hok']
      obtain ⟨c0, c1, c2, c3⟩ := HC.out w3 hb3
      have hp : 1 ≤ x := hok.1.1
      have hp' : 1 ≤ x' := hok'.1.1
      have hq : x ≤ 1073741824 := hok.1.2
      have hq' : x' ≤ 1073741824 := hok'.1.2
      have hm : Int.tmod x 2 = x % 2 := Int.tmod_eq_emod_of_nonneg (by omega)
      have hm' : Int.tmod x' 2 = x' % 2 := Int.tmod_eq_emod_of_nonneg (by omega)
      by_cases hev : x % 2 = 0
      · rw [hev] at hm
        have HEV := Lib.hid hev
        clear hev
        by_cases hod : x' % 2 = 1
        · rw [hod] at hm'
          have HOD := Lib.hid hod
          clear hod
          go_wp2_with fail
          refine (henc w3 HO.out (hh.below (bthen hbW hb3))).mono ?_
          intro e w4 hpost
          obtain ⟨v4, rfl, ho4, hb4⟩ := menc_ok hpost hok
          obtain ⟨A4, n4, c4, rfl, hn4, hc4, hr4⟩ := ho4.named
          have hn4' : n4 = 256 := by rw [← hn4]; exact encM_len _
          subst hn4'
          have HL4 := Lib.hid hn4
          have hb04 := bthen hb3 hb4
          clear c0 c1 c2 c3 hpost ho4 henc hn4 hm hm' hri hri' hb4 hb3
          obtain ⟨c0, c1, c2, c3⟩ := HC.out w4 hb04
          go_wp2_with fail
          refine (henc' w4 HN.out (hh.below (bthen hbW hb04))).mono ?_
          intro e w5 hpost
          obtain ⟨v5, rfl, ho5, hb5⟩ := menc_ok hpost hok'
          obtain ⟨A5, n5, c5, rfl, hn5, hc5, hr5⟩ := ho5.named
          have hn5' : n5 = 256 := by rw [← hn5]; exact encM_len _
          subst hn5'
          have HL5 := Lib.hid hn5
          have hb05 := bthen hb04 hb5
          have hr45 := hr4.below hb5
          clear c0 c1 c2 c3 hpost ho5 henc' hn5 hb5 hb04 hr4
          have hnew := new_places hok hok' (show slotI x = 0 from if_pos HEV.out) (show slotI x' = 1 from if_neg (by rw [HOD.out]; decide))
          obtain ⟨hnew1, hnew2⟩ := hnew
          go_wp2_with fail
          refine (mtNewest_any A4 A5 256 c4 256 c5 _ _ w5 (hh.below (bthen hbW hb05)) hr45 HL4.out hr5 HL5.out (by omega) (by omega)).mono ?_
          rintro e w6 ⟨v6, rfl, ho6, hb6⟩
          rw [hnew1] at ho6
          have HO6 := Lib.hid ho6
          have hb06 := bthen hb05 hb6
          have hr46 := hr45.below hb6
          have hr56 := hr5.below hb6
          clear hb05 hb6 hr45 hr5 ho6 hnew1
          go_wp2_with fail
          refine (mtNewest_any A5 A4 256 c5 256 c4 _ _ w6 (hh.below (bthen hbW hb06)) hr56 HL5.out hr46 HL4.out (by omega) (by omega)).mono ?_
          rintro e w7 ⟨v7, rfl, ho7, hb7⟩
          rw [hnew2] at ho7
          obtain ⟨A7, c7, rfl, hc7, hl7⟩ : ∃ A c, v7 = .slice A 0 c ∧ 0 ≤ c ∧ Ls pcM w7 A [] := ho7.form
          have hb07 := bthen hb06 hb7
          have hbw7 := bthen hbW hb07
          have HB7 := Lib.hid hb7
          clear ho7 hl7 hb06 hb7 hr46 hr56 hnew2
          obtain ⟨c0, c1, c2, c3⟩ := HC.out w7 hb07
          have hne : x ≠ x' := fun e => by have h1 := HEV.out; have h2 := HOD.out; omega
          by_cases hlt : x < x'
          · have HQ : Hid (OwnL pcM 29 2 w6 w5.heap.size v6 [⟨x', y'⟩, ⟨x, y⟩]) := by
              have h := HO6.out
              rw [if_pos (show (⟨x, y⟩ : MT).e < (⟨x', y'⟩ : MT).e from hlt)] at h
              exact h
            obtain ⟨g, cap, rfl, hcap, hgl, hcell⟩ := own_cells HQ.out
            obtain ⟨k0, k1, k2, k3⟩ := hcell w7 HB7.out
            simp only at k0 k1 k2 k3
            have e1 : (x' == x) = false := by simp; omega
            have e2 : (x == x') = false := by simp; omega
            clear HO6 HQ hcell
            go_wp2
            go_quiet (fail)
            go_wp2
            go_ret
            exact ⟨rfl, below_drewN hbw7 _⟩
          · have hlt' : x' < x := by omega
            have HQ : Hid (OwnL pcM 29 2 w6 w5.heap.size v6 [⟨x, y⟩, ⟨x', y'⟩]) := by
              have h := HO6.out
              rw [if_neg (show ¬ (⟨x, y⟩ : MT).e < (⟨x', y'⟩ : MT).e from hlt)] at h
              exact h
            obtain ⟨g, cap, rfl, hcap, hgl, hcell⟩ := own_cells HQ.out
            obtain ⟨k0, k1, k2, k3⟩ := hcell w7 HB7.out
            simp only at k0 k1 k2 k3
            have e1 : (x' == x) = false := by simp; omega
            have e2 : (x == x') = false := by simp; omega
            clear HO6 HQ hcell
            go_wp2
            go_quiet (fail)
            go_wp2
            go_ret
            exact ⟨rfl, below_drewN hbw7 _⟩
        · have hz : x' % 2 = 0 := by omega
          rw [hz] at hm'
          clear hod hz
          go_wp2_with fail
          refine (mtAwake_any w3 (hh.below (bthen hbW hb3))).mono ?_
          rintro e w9 ⟨rfl, hb9⟩
          go_wp2
          go_ret
          exact ⟨rfl, bthen (bthen hbW hb3) hb9⟩
      · have hz : x % 2 = 1 := by omega
        rw [hz] at hm
        clear hev hz hm'
        go_wp2_with fail
        refine (mtAwake_any w3 (hh.below (bthen hbW hb3))).mono ?_
        rintro e w9 ⟨rfl, hb9⟩
        go_wp2
        go_ret
        exact ⟨rfl, bthen (bthen hbW hb3) hb9⟩
    · rw [decide_eq_false hok']
      go_wp2_with fail
      refine (mtAwake_any w3 (hh.below (bthen hbW hb3))).mono ?_
      rintro e w9 ⟨rfl, hb9⟩
      go_wp2
      go_ret
      exact ⟨rfl, bthen (bthen hbW hb3) hb9⟩
  · rw [decide_eq_false hok]
    go_wp2_with fail
    refine (mtAwake_any w2 (hh.below (bthen hbW hb2))).mono ?_
    rintro e w9 ⟨rfl, hb9⟩
    go_wp2
    go_ret
    exact ⟨rfl, bthen (bthen hbW hb2) hb9⟩

end Go.Proofs.YtcgmaiadipiegaaDoor

namespace Go.Proofs.YtcgmaiadipiegaaDoor.metaPair
open Go Go.ChangeShapes Go.WideShapes Go.ChangeAt Go.RowKit
open Go.ChangeMaps (open_string shut_string)
set_option linter.unusedVariables false

theorem own : ownKnob Tryd.prog.godebug = none := by kernel_rfl

theorem laidOut : laidOutB Tryd.prog = true := by kernel_rfl

set_option maxRecDepth 100000 in
theorem lifted (os : Os) (started : os.Started) (H : Type) (enc : TypeId × Value → H) :
    ReturnsInHanded {} Tryd.checked os 10 .any (fun w args => (Rows.metaPairSpec.pre enc Tryd.prog Tryd.f10 [] false w args ∧ laidMetH Tryd.prog laidL w) ∧ sizedMet enc Tryd.prog Tryd.f10 (OpenSpec.ofChange Rows.metaPairSpec) false w args)
      (Rows.metaPairSpec.post enc Tryd.prog Tryd.f10 false true false false) := by
  refine returnsInHanded_of_change_and (C := Tryd.checked) (X := fun w _ => laidMetH Tryd.prog laidL w) (fun _ _ _ hh h => h.of_heap hh) own started (by kernel_rfl) Tryd.func10
    (ChangeSpec.witness_shaped (enc := enc) (C := Tryd.checked) (os := os) (X := fun w _ => laidMetH Tryd.prog laidL w) false (World.doorLaid Tryd.prog 14 os) #[.agg #[.int .i64 0, .int .i64 0], .agg #[.int .i64 0, .int .i64 0]] 8 rfl (World.shaped_of_RefB (by kernel_rfl) (by kernel_rfl)) (by kernel_rfl) (by kernel_rfl) (by kernel_rfl) (door_met os _)) ?_
  intro W base args ds gs before hval0 hW hcnd hsz0 hL _
  have hval : ∀ (j : Nat) t v, Tryd.f10.params[j]? = some t → args[j]? = some v → Value.okWide Tryd.prog W .any base t v := hval0
  have hsz : (DataW.weightsEach Tryd.prog (Tryd.f10.params.toList ++ Rows.metaPairSpec.plain.varTypes Tryd.prog) (ds ++ gs)).all (· ≤ reachBytes) = true := hsz0
  have hW' := hW
  obtain ⟨p, q, hA0, hV, rfl, hfz, hnd⟩ := hW
  have hA : DataW.TrodAll enc Tryd.prog W 0 (fun _ => true) true Tryd.f10.params.toList args.toList ds p := hA0
  rw [Tryd.params10] at hA hval hsz
  obtain ⟨v0, vs0, d0, ds0, p0, q0, hargs, rfl, rfl, h0, r0⟩ := trodAll_cons hA
  obtain ⟨v1, vs1, d1, ds1, p1, q1, rfl, rfl, rfl, h1, r1⟩ := trodAll_cons r0
  obtain ⟨rfl, rfl, rfl⟩ := trodAll_nil r1
  obtain rfl : args = #[v0, v1] := by cases args; simp_all
  obtain ⟨rfl, rfl⟩ := trodVars_none hV
  have k0 := h0
  have lt0 : ∀ x ∈ p0, x.block < W.heap.size := by obtain ⟨m, hm⟩ := k0; exact DataW.trod_lt m _ _ _ hm
  obtain ⟨a0, rfl, w0⟩ := open_meta (hval 0 23 v0 rfl rfl) h0
  have k1 := h1
  have lt1 : ∀ x ∈ p1, x.block < W.heap.size := by obtain ⟨m, hm⟩ := k1; exact DataW.trod_lt m _ _ _ hm
  obtain ⟨a1, rfl, w1⟩ := open_meta (hval 1 23 v1 rfl rfl) h1
  clear hA0 hval0 hsz hsz0
  refine (metaPair_walk a0 a1 W (half_of_laid hL) w0 w1).mono fun e W' ⟨he, bel⟩ => ?_
  subst he
  exact ⟨_, rfl, _, _, _, [], _, [], hW', trodAll_mk1 (shut_bool Tryd.underlying4 _), (trodAll_cons_mk (Below.trod laidOut (by kernel_rfl) (of_decide_eq_true (by kernel_rfl)) k0 bel lt0) (trodAll_cons_mk (Below.trod laidOut (by kernel_rfl) (of_decide_eq_true (by kernel_rfl)) k1 bel lt1) trodAll_mk0)), rfl, bel.frame _, fun h => by cases h⟩

theorem over : Rows.MetaPairSaid :=
  OpenClaim.holds_of_wide 10 Tryd.f10 rfl rfl rfl rfl rfl rfl rfl ⟨rfl, rfl, rfl, rfl, rfl⟩ rfl rfl rfl rfl rfl (by kernel_rfl) Tryd.func10 (by kernel_rfl)
    (of_decide_eq_true (by kernel_rfl)) (by unfold Func.isWrapper; first | (rw [if_pos (by decide +kernel)]; kernel_rfl) | (rw [if_neg (by decide +kernel)]; exact ⟨rfl, rfl⟩))
    (fun os started H enc _ => lifted os started H enc)

theorem proved : Rows.MetaPairCardSaid :=
  Claim7.holds_tied_plain_at .later [] [.data] true (true, "ff6571c9258cc5ae1a33e9450d62fd3a3d2abbbe87473920b80c14b5ab16f570") false
    over (fun _ h => by cases h) (by kernel_rfl) (fun _ h => by cases h) metaPair_row_tie rfl ⟨rfl, rfl⟩ (by kernel_rfl) rfl
    (fun f fn hf hfn => by
      obtain rfl : f = 10 := Option.some.inj ((show Tryd.prog.funcNamed "sapwood/sapwoodlaw06.MetaPair" = some 10 by kernel_rfl).symm.trans hf) |>.symm
      obtain rfl : fn = Tryd.f10 := (Option.some.inj (Tryd.func10.symm.trans hfn)).symm
      exact ⟨by kernel_rfl, fun j t ht => by
        rw [Tryd.params10] at ht
        have hm : t ∈ [23, 23] := by simpa using Array.mem_of_getElem? ht
        have hall : ([23, 23].all fun u => !Tryd.prog.wantsStandIn u) = true := by kernel_rfl
        exact (show Tryd.prog.wantsStandIn t = false by simpa using List.all_eq_true.1 hall t hm)⟩)
    (by kernel_rfl)
#print axioms proved

end Go.Proofs.YtcgmaiadipiegaaDoor.metaPair
