/-
  CellOnce: of many who load a word, and then each swap what they loaded for a number of their own, just the first one succeeds; for every list and every first word; no condition beyond the row's.
-/
import Derived.Test.YthalghjnnfohaaaCellHelp
namespace Go.Proofs.Ythalghjnnfohaaa
open Go.RowKit Go.Sort Go.ChangeShapes Go.WideShapes
set_option linter.unusedVariables false
set_option linter.unusedSimpArgs false

theorem one_err : errW ([] : List Int).length.succ 0 = 0 := rfl
theorem one_get (y : Int) : getW 0 [y] 0 = y := rfl
theorem one_set (y x : Int) : setW [y] 0 x = [x] := rfl
theorem one_swap (y f : Int) : swapW [y] 0 f = decide (y = f) := by
  unfold swapW inW
  simp
theorem one_yes (y x : Int) : casW [y] 0 y x = [x] ∧ ∀ c, changeW [y] 0 y c = c + 1 := by
  unfold casW changeW
  rw [one_swap, decide_eq_true rfl]
  exact ⟨rfl, fun _ => rfl⟩
theorem one_no {y f : Int} (x : Int) (h : y ≠ f) : casW [y] 0 f x = [y] ∧ ∀ c, changeW [y] 0 f c = c := by
  unfold casW changeW
  rw [one_swap, decide_eq_false h]
  exact ⟨rfl, fun _ => rfl⟩
/-- The memory behind k swaps. -/
def OnceAt (b g : Nat) (l : List Int) (f : Int) (k : Nat) (w : World) : Prop := ∃ y c, MemI w b g (([y] : List Int).map (.int .i64)) (1 + k) c ∧ (k = 0 → y = f ∧ c = 0) ∧ (0 < k → l[0]? = some y ∧ c = 1)

set_option maxRecDepth 100000 in
set_option maxHeartbeats 3000000 in
theorem cellOnce_walk (A : Option Addr) (m c : Nat) (l : List Int) (f : Int) (w : World) (ha : ArgI w A m c l) (hf : (Lit.int .i64 f).wf = true) :
    Calls Try.prog 4 #[.slice A m c, .int .i64 f] w fun e w' => e = .returned (.bool true) ∧ Below w.heap.size w w' := by
  obtain ⟨hlen, hcap, hsm, hls, hok⟩ := ha
  have HL := Lib.hid hlen
  have HLS := Lib.hid hls
  clear hlen hls hok hf
  go_enter Try.func4, Try.ntmps4
  go_wp2_with fail
  refine (cellAwake_any w).mono ?_
  rintro e w1 ⟨rfl, hb1⟩
  by_cases hm : 300 < m
  · go_wp2_with fail
    refine (cellAwake_any _).mono ?_
    rintro e w3 ⟨rfl, hb3⟩
    go_wp2
    go_ret
    exact ⟨rfl, bthen hb1 hb3⟩
  have hw1 := hb1.size
  have HB1 := Lib.hid hb1
  clear hb1
  go_wp2_with fail
  refine (newI_any 1 w1).mono ?_
  rintro e w2 ⟨b, g, rfl, hm2, hof, hb2⟩
  have HM2 := Lib.hid (show MemI w2 b g (([0] : List Int).map (.int .i64)) 0 0 from hm2)
  have HB2 := Lib.hid (bthen HB1.out hb2)
  have HO := Lib.hid (fun i h => Nat.le_trans hw1 (hof i h))
  clear hm2 hb2 hof HB1
  go_wp2_with fail
  refine (storeI HM2.out 0 f (by omega)).mono ?_
  rw [show errW [(0 : Int)].length 0 = 0 from rfl, one_set, show stepW [(0 : Int)].length 0 0 = 1 from rfl]
  rintro e w3 ⟨rfl, hm3, hk3⟩
  have HM3 := Lib.hid hm3
  have HB3 := Lib.hid (Keep.base HB2.out HB2.out.size (hk3.mono fun i _ h => HO.out i h))
  clear hm3 hk3 HM2 HB2
  go_wp2
  go_loopw [31] (fun i wr => ∃ k : Nat, k ≤ m ∧ i = .int .i64 k ∧ wr = w3 ∧ Hid (∀ j x, j < k → l[j]? = some x → x ≠ f)) (fun i _ => m - (intOf i).toNat)
  case atStart => exact ⟨0, Nat.zero_le _, rfl, rfl, Lib.hid fun j x h => by omega⟩
  case round =>
    obtain ⟨k, hk, rfl, rfl, HA⟩ := hrel
    by_cases hlt : k < m
    · obtain ⟨ad, x, rfl, hx, hl, g0⟩ := (HLS.out.below HB3.out).atI (i := k) (by rw [HL.out]; exact hlt)
      have HX := Lib.hid hx
      clear hx
      by_cases hxf : x = f
      · subst hxf
        go_wp2
        go_ret
        exact ⟨rfl, HB3.out⟩
      · have HN := Lib.hid hxf
        go_wp2
        refine ⟨⟨k + 1, by omega, by go_num, by trivial, Lib.hid fun j y hj hy => ?_⟩, by simp [intOf]; omega⟩
        rcases Nat.lt_or_ge j k with h | h
        · exact HA.out j y h hy
        · have : j = k := by omega
          subst this
          rw [HX.out] at hy
          cases hy
          exact HN.out
    · have he : k = m := by omega
      subst he
      go_wp2
      have HS := Lib.hid (show OnceAt b g l f 0 wr from ⟨f, 0, HM3.out, fun _ => ⟨rfl, rfl⟩, fun h => by omega⟩)
      clear HM3
      go_loopw [43] (fun i wz => ∃ j : Nat, j ≤ k ∧ i = .int .i64 j ∧ Hid (OnceAt b g l f j wz) ∧ Hid (Below w.heap.size w wz)) (fun i _ => k - (intOf i).toNat)
      case atStart => exact ⟨0, Nat.zero_le _, rfl, HS, HB3⟩
      case round =>
        obtain ⟨j, hj, rfl, HT, HB⟩ := hrel
        clear HS
        obtain ⟨y, ch, hmem, hz, hp⟩ := HT.out
        have HMM := Lib.hid hmem
        have HZ := Lib.hid hz
        have HP := Lib.hid hp
        clear HT hmem hz hp
        by_cases hlt2 : j < k
        · obtain ⟨ad, x, rfl, hx, hl, g0⟩ := (HLS.out.below HB.out).atI (i := j) (by rw [HL.out]; exact hlt2)
          have HX := Lib.hid hx
          clear hx
          by_cases hj0 : j = 0
          · subst hj0
            obtain ⟨rfl, rfl⟩ := HZ.out rfl
            rw [show ad.add 0 = ad by simp [Addr.add]] at g0
            go_wp2_with fail
            refine (casI HMM.out 0 y x (by omega) (by omega)).mono ?_
            rw [show errW [y].length 0 = 0 from rfl, one_swap, decide_eq_true (rfl : y = y), (one_yes y x).1, (one_yes y x).2, show stepW [y].length 0 (1 + 0) = 2 from rfl]
            rintro e w4 ⟨rfl, hm4, hk4⟩
            have HM4 := Lib.hid hm4
            have HB4 := Lib.hid (Keep.base HB.out HB.out.size (hk4.mono fun i _ h => HO.out i h))
            clear hm4 hk4
            go_wp2
            exact ⟨⟨1, by omega, by go_num, Lib.hid ⟨x, 1, HM4.out, fun h => by omega, fun _ => ⟨HX.out, rfl⟩⟩, HB4⟩, by simp [intOf]; omega⟩
          · obtain ⟨hy, rfl⟩ := HP.out (by omega)
            have hne : y ≠ f := HA.out 0 y (by omega) hy
            have HY := Lib.hid hy
            have HNE := Lib.hid hne
            clear hy hne
            go_wp2_with fail
            refine (casI HMM.out 0 f x (by omega) (by omega)).mono ?_
            rw [show errW [y].length 0 = 0 from rfl, one_swap, decide_eq_false HNE.out, (one_no x HNE.out).1, (one_no x HNE.out).2, show stepW [y].length 0 (1 + j) = 1 + (j + 1) from rfl]
            rintro e w4 ⟨rfl, hm4, hk4⟩
            have HM4 := Lib.hid hm4
            have HB4 := Lib.hid (Keep.base HB.out HB.out.size (hk4.mono fun i _ h => HO.out i h))
            clear hm4 hk4
            go_wp2
            exact ⟨⟨j + 1, by omega, by go_num, Lib.hid ⟨y, 1, HM4.out, fun h => by omega, fun _ => ⟨HY.out, rfl⟩⟩, HB4⟩, by simp [intOf]; omega⟩
        · have he : j = k := by omega
          subst he
          by_cases hj0 : j = 0
          · subst hj0
            obtain ⟨rfl, rfl⟩ := HZ.out rfl
            go_wp2_with fail
            refine (loadI HMM.out 0 (by omega)).mono ?_
            rw [one_get, show errW [y].length 0 = 0 from rfl]
            rintro e w4 ⟨rfl, hm4, hk4⟩
            have HB4 := Lib.hid (Keep.base HB.out HB.out.size (hk4.mono fun i _ h => HO.out i h))
            clear hm4 hk4
            go_wp2
            go_ret
            exact ⟨rfl, HB4.out⟩
          · obtain ⟨hy, rfl⟩ := HP.out (by omega)
            have HY := Lib.hid hy
            clear hy
            go_wp2_with fail
            refine (loadI HMM.out 0 (by omega)).mono ?_
            rw [one_get, show errW [y].length 0 = 0 from rfl]
            rintro e w4 ⟨rfl, hm4, hk4⟩
            have HM4 := Lib.hid hm4
            have HB4 := Lib.hid (Keep.base HB.out HB.out.size (hk4.mono fun i _ h => HO.out i h))
            clear hm4 hk4
            obtain ⟨ad, x, rfl, hx, hl, g0⟩ := (HLS.out.below HB4.out).atI (i := 0) (by rw [HL.out]; omega)
            rw [HY.out] at hx
            cases hx
            rw [show ad.add 0 = ad by simp [Addr.add]] at g0
            have hj1 : 0 < j := by omega
            have hd : decide ((j : Int) = 0) = false := decide_eq_false (by omega)
            go_wp2_with fail
            refine (changesI_any HM4.out.c2).mono ?_
            rintro e w5 ⟨rfl, rfl⟩
            go_wp2
            go_ret
            exact ⟨rfl, HB4.out⟩

end Go.Proofs.Ythalghjnnfohaaa

namespace Go.Proofs.Ythalghjnnfohaaa.cellOnce
open Go.ChangeShapes Go.WideShapes Go.ChangeAt Go.RowKit
open Go.ChangeMaps (open_string shut_string)
set_option linter.unusedVariables false

theorem own : ownKnob Try.prog.godebug = none := by kernel_rfl
theorem laidOut : laidOutB Try.prog = true := by kernel_rfl

set_option maxRecDepth 100000 in
theorem lifted (os : Os) (started : os.Started) (H : Type) (enc : TypeId × Value → H) :
    ReturnsInHanded {} Try.checked os 4 .any (Rows.cellOnceSpec.pre6 enc Try.prog Try.f4 Rows.cellOnceRow.domain false) (Rows.cellOnceSpec.post enc Try.prog Try.f4 false true false false) := by
  refine returnsInHanded_of_change_sized (C := Try.checked) own started (by kernel_rfl) Try.func4
    (ChangeSpec.witness6 (enc := enc) (C := Try.checked) false ⟨#[], #[.slice none 0 0, .int .i64 0], []⟩ 8 (by kernel_rfl) (by kernel_rfl) (by kernel_rfl) (by kernel_rfl)) ?_
  intro W base args ds gs before hval0 hW hcnd hsz0 _
  have hval : ∀ (j : Nat) t v, Try.f4.params[j]? = some t → args[j]? = some v → Value.okWide Try.prog W .any base t v := hval0
  have hsz : (DataW.weightsEach Try.prog (Try.f4.params.toList ++ Rows.cellOnceSpec.plain.varTypes Try.prog) (ds ++ gs)).all (· ≤ reachBytes) = true := hsz0
  have hW' := hW
  obtain ⟨p, q, hA0, hV, rfl, hfz, hnd⟩ := hW
  have hA : DataW.TrodAll enc Try.prog W 0 (fun _ => true) true Try.f4.params.toList args.toList ds p := hA0
  rw [Try.params4] at hA hval hsz
  obtain ⟨v0, vs0, d0, ds0, p0, q0, hargs, rfl, rfl, h0, r0⟩ := trodAll_cons hA
  obtain ⟨v1, vs1, d1, ds1, p1, q1, rfl, rfl, rfl, h1, r1⟩ := trodAll_cons r0
  obtain ⟨rfl, rfl, rfl⟩ := trodAll_nil r1
  obtain rfl : args = #[v0, v1] := by cases args; simp_all
  obtain ⟨rfl, rfl⟩ := trodVars_none hV
  obtain ⟨A0, n0, c0, rfl⟩ := okWide_slice Try.underlying42 (hval 0 42 v0 rfl rfl)
  have k0 := h0
  have lt0 : ∀ x ∈ p0, x.block < W.heap.size := by obtain ⟨m, hm⟩ := k0; exact DataW.trod_lt m _ _ _ hm
  obtain ⟨l0, w0⟩ := open_ints h0 (fun m hm => of_decide_eq_true (List.all_eq_true.1 hsz _ (DataW.weights_mem_each (j := 0) (t := 42) rfl rfl m hm)))
  obtain ⟨a1, rfl, rfl, rfl, w1⟩ := open_int Try.underlying3 (hval 1 3 v1 rfl rfl) h1
  clear hA0 hval0 hsz hsz0
  refine (cellOnce_walk A0 n0 c0 l0 a1 W w0 w1).mono fun e W' ⟨he, bel⟩ => ?_
  subst he
  exact ⟨_, rfl, _, _, _, [], _, [], hW', trodAll_mk1 (shut_bool Try.underlying4 _), (trodAll_cons_mk (Below.trod laidOut (by kernel_rfl) (of_decide_eq_true (by kernel_rfl)) k0 bel lt0) (trodAll_cons_mk (shut_int Try.underlying3 w1) trodAll_mk0)), rfl, bel.frame _, fun h => by cases h⟩

theorem over : Rows.cellOnceRow.holds Try.pinned (OpenSpec.ofChange Rows.cellOnceSpec) :=
  OpenClaim.holds_of_wide 4 Try.f4 rfl rfl rfl rfl rfl rfl rfl ⟨rfl, rfl, rfl, rfl, rfl⟩ rfl rfl rfl rfl rfl (by kernel_rfl) Try.func4 (by kernel_rfl)
    (of_decide_eq_true (by kernel_rfl)) (by unfold Func.isWrapper; first | (rw [if_pos (by decide +kernel)]; kernel_rfl) | (rw [if_neg (by decide +kernel)]; exact ⟨rfl, rfl⟩))
    (fun os started H enc _ => lifted os started H enc)

theorem proved : Rows.CellOnceSaid := over
#print axioms proved

end Go.Proofs.Ythalghjnnfohaaa.cellOnce
