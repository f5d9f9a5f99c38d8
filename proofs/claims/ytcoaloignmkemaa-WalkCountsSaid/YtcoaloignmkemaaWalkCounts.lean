/-
  WalkCounts: of any tree, between any two keys, there are as many entries as the document says, and the first ones are those that it says; for every list, keys and number; no condition beyond the row's.
-/
import Derived.Test.YtcoaloignmkemaaWalkHelp
import Derived.BigQuiet
namespace Go.Proofs.Ytcoaloignmkemaa
open Go.RowKit Go.Sort Go.ChangeShapes Go.WideShapes
set_option linter.unusedVariables false
set_option linter.unusedSimpArgs false

set_option maxRecDepth 100000 in
set_option maxHeartbeats 4000000 in
theorem walkCounts_walk (A : Option Addr) (n c : Nat) (l : List Ent) (a b : ByteArray) (most : Int) (w : World) (ha : Arg w A n c l) (hka : a.size ≤ 140737488351232) (hkb : b.size ≤ 140737488351232) (hm : (Lit.int .i64 most).wf = true) :
    Calls Try.prog 5 #[.slice A n c, .string a, .string b, .int .i64 most] w fun r w' => r = .returned (.bool true) ∧ Below w.heap.size w w' := by
  have HA := Lib.hid ha
  clear ha hm
  go_enter Try.func5, Try.ntmps5
  go_wp2_with fail
  refine (wkAwake_any w).mono ?_
  rintro r w1 ⟨rfl, hb1⟩
  have HA1 := Lib.hid (show Arg w1 A n c l from ⟨HA.out.len, HA.out.cap, HA.out.small, HA.out.es.below hb1, HA.out.strs⟩)
  have HB1 := Lib.hid hb1
  clear hb1
  go_wp2_with fail
  refine (wkBuilt_any A n c l w1 HA1.out).mono ?_
  rintro r w2 ⟨T, v, ⟨q, rfl⟩, ht, ho, hl, hb2⟩
  obtain ⟨A2, c2, rfl, hc2, hes⟩ := ho.form
  have HB2 := Lib.hid (bthen HB1.out hb2)
  have HT := Lib.hid ht
  have HES := Lib.hid hes
  obtain ⟨m, hmm⟩ : ∃ m, (tl T).length = m := ⟨_, rfl⟩
  rw [hmm] at hl hc2 ⊢
  have HM := Lib.hid hmm
  obtain ⟨pt, hpt⟩ : ∃ pt, tb T = .pointer pt := ⟨_, rfl⟩
  rw [hpt]
  have HP := Lib.hid hpt
  clear ht ho hes hb2 hmm hpt
  cases q with
  | false =>
    go_wp2
    go_ret
    exact ⟨rfl, HB2.out⟩
  | true =>
    by_cases hbig : 2000 < a.size + b.size
    · go_wp2
      go_ret
      exact ⟨rfl, HB2.out⟩
    · go_wp2_with fail
      refine (refFrom_any A2 m c2 (tl T) a w2 HES.out HM.out (by omega)).mono ?_
      rintro r w3 ⟨v3, rfl, ho3, hb3⟩
      obtain ⟨A3, c3, rfl, hc3, hes3⟩ := ho3.form
      have HB3 := Lib.hid (bthen HB2.out hb3)
      have HT3 := Lib.hid (HT.out.below hb3)
      have HESl := Lib.hid (HES.out.below hb3)
      have hfl : ((tl T).filter (ge a)).length ≤ m := by rw [← HM.out]; exact List.length_filter_le _ _
      obtain ⟨xs, hxs⟩ : ∃ xs, (tl T).filter (ge a) = xs := ⟨_, rfl⟩
      rw [hxs] at hc3 hes3 hfl ⊢
      have HXS := Lib.hid hxs
      have HES3 := Lib.hid hes3
      obtain ⟨x, hx⟩ : ∃ x, xs.length = x := ⟨_, rfl⟩
      rw [hx] at hc3 hfl ⊢
      have HX := Lib.hid hx
      clear ho3 hb3 hxs hes3 hx
      go_wp2_with fail
      refine (first_any A3 x c3 most w3 hc3 (by omega)).mono ?_
      rintro r w4 ⟨rfl, rfl⟩
      go_wp2_with fail
      refine Calls.mono (by have := take_any HT3.out a most (by rw [HM.out]; omega); rw [HP.out] at this; exact this) ?_
      rintro r w5 ⟨v5, rfl, ho5, hb5⟩
      rw [HXS.out] at ho5
      obtain ⟨A5, c5, rfl, hc5, hss5⟩ := ho5.form
      have hlen : (ks (xs.take most.toNat)).length = min most.toNat x := by
        rw [ks, List.length_map, List.length_take, HX.out]
      rw [hlen] at hc5 ⊢
      have HB5 := Lib.hid (bthen HB3.out hb5)
      have HT5 := Lib.hid (HT3.out.below hb5)
      have HES5 := Lib.hid (HES3.out.below hb5)
      have HESl5 := Lib.hid (HESl.out.below hb5)
      have HSS := Lib.hid hss5
      have HLEN := Lib.hid hlen
      obtain ⟨k, hk⟩ : ∃ k, min most.toNat x = k := ⟨_, rfl⟩
      have hkx : k ≤ x := by omega
      have HKM : Hid (k ≤ most.toNat) := Lib.hid (by omega)
      rw [hk] at HLEN hc5 ⊢
      clear ho5 hb5 hss5 hlen hk
      go_wp2
      go_loopw [49] (fun s49 wr => ∃ i : Nat, i ≤ k ∧ s49 = .int .i64 (i : Int) ∧ Below w5.heap.size w5 wr) (fun s49 _ => k - (intOf s49).toNat)
      case atStart => exact ⟨0, Nat.zero_le _, rfl, Below.refl _ _⟩
      case round =>
        obtain ⟨i, hi, rfl, hbw⟩ := hrel
        by_cases hlt : i < k
        · obtain ⟨ad, y, rfl, hy, hadl, hcy⟩ := (HSS.out.below hbw).at_ (i := i) (by rw [HLEN.out]; exact hlt)
          obtain ⟨ad2, e, rfl, he, hadl2, h1, h2⟩ := (HES5.out.below hbw).at_ (i := i) (by rw [HX.out]; omega)
          have hye : y = e.k := by
            simp only [ks, List.getElem?_map] at hy
            rw [List.getElem?_take_of_lt (by have := HKM.out; omega), he] at hy
            exact (Option.some.inj hy).symm
          subst hye
          clear hy he
          go_wp2
          go_quiet (fail)
          go_wp2
          exact ⟨⟨i + 1, by omega, by go_num, below_drewN hbw _⟩, by simp [intOf]; omega⟩
        · have he : i = k := by omega
          subst he
          have HBr := Lib.hid hbw
          clear hbw
          go_wp2_with fail
          refine Calls.mono (by have := count_any (HT5.out.below HBr.out) a b (by rw [HM.out]; omega); rw [HP.out] at this; exact this) ?_
          rintro r w6 ⟨rfl, hb6⟩
          have HB6 := Lib.hid (bthen (bthen HB5.out HBr.out) hb6)
          have HES6 := Lib.hid ((HESl5.out.below HBr.out).below hb6)
          clear hb6
          go_wp2_with fail
          refine (refCount_any A2 m c2 (tl T) a b w6 HES6.out HM.out (by omega)).mono ?_
          rintro r w7 ⟨rfl, rfl⟩
          go_wp2
          go_ret
          exact ⟨rfl, HB6.out⟩

end Go.Proofs.Ytcoaloignmkemaa

namespace Go.Proofs.Ytcoaloignmkemaa.walkCounts
open Go.ChangeShapes Go.WideShapes Go.ChangeAt Go.RowKit
open Go.ChangeMaps (open_string shut_string)
set_option linter.unusedVariables false

theorem own : ownKnob Try.prog.godebug = none := by kernel_rfl
theorem laidOut : laidOutB Try.prog = true := by kernel_rfl

set_option maxRecDepth 100000 in
theorem lifted (os : Os) (started : os.Started) (H : Type) (enc : TypeId × Value → H) :
    ReturnsInHanded {} Try.checked os 5 .any (Rows.walkCountsSpec.pre6 enc Try.prog Try.f5 Rows.walkCountsRow.domain false) (Rows.walkCountsSpec.post enc Try.prog Try.f5 false true false false) := by
  refine returnsInHanded_of_change_sized (C := Try.checked) own started (by kernel_rfl) Try.func5
    (ChangeSpec.witness6 (enc := enc) (C := Try.checked) false ⟨#[], #[.slice none 0 0, .string ByteArray.empty, .string ByteArray.empty, .int .i64 0], []⟩ 8 (by kernel_rfl) (by kernel_rfl) (by kernel_rfl) (by kernel_rfl)) ?_
  intro W base args ds gs before hval0 hW hcnd hsz0 _
  have hval : ∀ (j : Nat) t v, Try.f5.params[j]? = some t → args[j]? = some v → Value.okWide Try.prog W .any base t v := hval0
  have hsz : (DataW.weightsEach Try.prog (Try.f5.params.toList ++ Rows.walkCountsSpec.plain.varTypes Try.prog) (ds ++ gs)).all (· ≤ reachBytes) = true := hsz0
  have hW' := hW
  obtain ⟨p, q, hA0, hV, rfl, hfz, hnd⟩ := hW
  have hA : DataW.TrodAll enc Try.prog W 0 (fun _ => true) true Try.f5.params.toList args.toList ds p := hA0
  rw [Try.params5] at hA hval hsz
  obtain ⟨v0, vs0, d0, ds0, p0, q0, hargs, rfl, rfl, h0, r0⟩ := trodAll_cons hA
  obtain ⟨v1, vs1, d1, ds1, p1, q1, rfl, rfl, rfl, h1, r1⟩ := trodAll_cons r0
  obtain ⟨v2, vs2, d2, ds2, p2, q2, rfl, rfl, rfl, h2, r2⟩ := trodAll_cons r1
  obtain ⟨v3, vs3, d3, ds3, p3, q3, rfl, rfl, rfl, h3, r3⟩ := trodAll_cons r2
  obtain ⟨rfl, rfl, rfl⟩ := trodAll_nil r3
  obtain rfl : args = #[v0, v1, v2, v3] := by cases args; simp_all
  obtain ⟨rfl, rfl⟩ := trodVars_none hV
  obtain ⟨A0, n0, c0, rfl⟩ := okWide_slice Try.underlying22 (hval 0 22 v0 rfl rfl)
  have k0 := h0
  have lt0 : ∀ x ∈ p0, x.block < W.heap.size := by obtain ⟨m, hm⟩ := k0; exact DataW.trod_lt m _ _ _ hm
  obtain ⟨l0, w0⟩ := open_ents h0 (fun m hm => of_decide_eq_true (List.all_eq_true.1 hsz _ (DataW.weights_mem_each (j := 0) (t := 22) rfl rfl m hm)))
  obtain ⟨a1, rfl, rfl, rfl, w1⟩ := open_string Try.underlying9 (hval 1 9 v1 rfl rfl) h1
  obtain ⟨a2, rfl, rfl, rfl, w2⟩ := open_string Try.underlying9 (hval 2 9 v2 rfl rfl) h2
  obtain ⟨a3, rfl, rfl, rfl, w3⟩ := open_int Try.underlying3 (hval 3 3 v3 rfl rfl) h3
  have z1 : a1.data.toList.length ≤ reachBytes := sized_string hsz (j := 1) (t := 9) rfl rfl
  have y1 : a1.size ≤ 140737488351232 := z1
  have z2 : a2.data.toList.length ≤ reachBytes := sized_string hsz (j := 2) (t := 9) rfl rfl
  have y2 : a2.size ≤ 140737488351232 := z2
  clear hA0 hval0 hsz hsz0
  refine (walkCounts_walk A0 n0 c0 l0 a1 a2 a3 W w0 y1 y2 w3).mono fun e W' ⟨he, bel⟩ => ?_
  subst he
  exact ⟨_, rfl, _, _, _, [], _, [], hW', trodAll_mk1 (shut_bool Try.underlying4 _), (trodAll_cons_mk (Below.trod laidOut (by kernel_rfl) (of_decide_eq_true (by kernel_rfl)) k0 bel lt0) (trodAll_cons_mk (shut_string Try.underlying9 w1) (trodAll_cons_mk (shut_string Try.underlying9 w2) (trodAll_cons_mk (shut_int Try.underlying3 w3) trodAll_mk0)))), rfl, bel.frame _, fun h => by cases h⟩

theorem over : Rows.walkCountsRow.holds Try.pinned (OpenSpec.ofChange Rows.walkCountsSpec) :=
  OpenClaim.holds_of_wide 5 Try.f5 rfl rfl rfl rfl rfl rfl rfl ⟨rfl, rfl, rfl, rfl, rfl⟩ rfl rfl rfl rfl rfl (by kernel_rfl) Try.func5 (by kernel_rfl)
    (of_decide_eq_true (by kernel_rfl)) (by unfold Func.isWrapper; first | (rw [if_pos (by decide +kernel)]; kernel_rfl) | (rw [if_neg (by decide +kernel)]; exact ⟨rfl, rfl⟩))
    (fun os started H enc _ => lifted os started H enc)

theorem proved : Rows.WalkCountsSaid := over
#print axioms proved

end Go.Proofs.Ytcoaloignmkemaa.walkCounts
