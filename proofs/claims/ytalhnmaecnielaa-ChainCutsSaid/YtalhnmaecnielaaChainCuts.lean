/-
  ChainCuts: any value is cut into the pieces that the document says, and any pieces are joined, or not, as it says, for every string, slice and int; no condition beyond the row's.
-/
import Derived.Test.YtalhnmaecnielaaChainRef
namespace Go.Proofs.Ytalhnmaecnielaa
open Go.RowKit
set_option linter.unusedVariables false

set_option maxHeartbeats 1600000 in
set_option maxRecDepth 100000 in
theorem chainCuts_walk (s : ByteArray) (A : Option Addr) (n c : Nat) (l : List ByteArray) (z : Int) (w : World) (hs : s.size ≤ 140737488351232) (ha : ArgS w A n c l) (hz : (Lit.int .i64 z).wf = true) :
    Calls Try.prog 3 #[.string s, .slice A n c, .int .i64 z] w fun e w' => e = .returned (.bool true) ∧ Below w.heap.size w w' := by
  obtain ⟨hlen, hcap, hsm, hes, hstr⟩ := ha
  have Hl := Lib.hid hlen
  have HS := Lib.hid hstr
  clear hlen hstr
  go_enter Try.func3, Try.ntmps3
  go_wp2_with fail
  refine (chAwake_any w).mono ?_
  rintro e w1 ⟨rfl, hb1⟩
  by_cases h5 : 5000 < s.size
  · go_wp2_with fail
    refine (chAwake_any w1).mono ?_
    rintro e w2 ⟨rfl, hb2⟩
    go_wp2
    go_ret
    exact ⟨rfl, bthen hb1 hb2⟩
  go_wp2_with fail
  refine (chFew_any A n c l w1 (hes.below hb1) Hl.out hsm HS.out).mono ?_
  rintro e w2 ⟨rfl, rfl⟩
  by_cases hf : ChFew l
  · rw [decide_eq_true hf]
    have hn : n ≤ 20 := by have := hf.1; rw [Hl.out] at this; exact this
    have HF := Lib.hid hf.2
    clear hf
    go_wp2_with fail
    refine (chJoin_any A n c z l w1 (hes.below hb1) Hl.out hsm HS.out).mono ?_
    rintro e w2 ⟨rfl, hb2⟩
    have hb02 := bthen hb1 hb2
    obtain ⟨x, hx⟩ : ∃ x, joinS l z = x := ⟨_, rfl⟩
    obtain ⟨f, hfe⟩ : ∃ f, joinE l z = f := ⟨_, rfl⟩
    rw [hx, hfe]
    have HX := Lib.hid hx
    have HFE := Lib.hid hfe
    clear hx hfe hb1 hb2
    go_wp2_with fail
    refine (chRefJoin_any A n c z l w2 (hes.below hb02) Hl.out hsm HF.out).mono ?_
    rintro e w3 ⟨rfl, hb3⟩
    rw [HX.out, HFE.out]
    have hb03 := bthen hb02 hb3
    clear hb02 hb3
    go_wp2_with fail
    refine (chCut_any s w3 hs).mono ?_
    rintro e w4 ⟨v, rfl, hown, hb4⟩
    have hb04 := bthen hb03 hb4
    obtain ⟨B, d, rfl, hd, hss⟩ := hown.form
    have HSS := Lib.hid hss
    clear hown hss hb03 hb4
    go_wp2_with fail
    refine (chRefCut_any s w4 hs).mono ?_
    rintro e w5 ⟨B2, d2, rfl, hd2, hss2, hb5⟩
    have hb05 := bthen hb04 hb5
    have HSS2 := Lib.hid hss2
    have hss5 := Lib.hid (HSS.out.below hb5)
    have hp := pages_le s
    rw [← cutL_length] at hp
    have HP := Lib.hid (cutL_length s).symm
    obtain ⟨q, hq⟩ : ∃ q, (cutL s).length = q := ⟨_, rfl⟩
    rw [hq] at hp hd hd2 ⊢
    have HQ := Lib.hid hq
    clear hss2 hq hb04 hb5
    go_wp2_with fail
    refine (chSame_any B B2 q d d2 (cutL s) w5 hss5.out HSS2.out HQ.out (by omega)).mono ?_
    rintro e w6 ⟨rfl, hb6⟩
    have hb06 := bthen hb05 hb6
    clear hb05 hb6
    go_wp2_with fail
    refine (chPages_any s w6 hs).mono ?_
    rintro e w7 ⟨rfl, rfl⟩
    rw [HP.out, HQ.out]
    go_wp2_with fail
    refine (chRefCut_any s w6 hs).mono ?_
    rintro e w7 ⟨B3, d3, rfl, hd3, hss3, hb7⟩
    rw [HQ.out] at hd3 ⊢
    have hb07 := bthen hb06 hb7
    have hq : (x.toList == x.toList) = true := by rw [same_eq]; simp
    clear hss3 hb06 hb7
    go_wp2
    go_ret
    exact ⟨rfl, hb07⟩
  · rw [decide_eq_false hf]
    go_wp2_with fail
    refine (chAwake_any w1).mono ?_
    rintro e w3 ⟨rfl, hb3⟩
    go_wp2
    go_ret
    exact ⟨rfl, bthen hb1 hb3⟩

end Go.Proofs.Ytalhnmaecnielaa

namespace Go.Proofs.Ytalhnmaecnielaa.chainCuts
open Go.ChangeShapes Go.WideShapes Go.ChangeAt Go.RowKit
open Go.ChangeMaps (open_string shut_string)
set_option linter.unusedVariables false

theorem own : ownKnob Try.prog.godebug = none := by kernel_rfl
theorem laidOut : laidOutB Try.prog = true := by kernel_rfl

set_option maxRecDepth 100000 in
theorem lifted (os : Os) (started : os.Started) (H : Type) (enc : TypeId × Value → H) :
    ReturnsInHanded {} Try.checked os 3 .any (Rows.chainCutsSpec.pre6 enc Try.prog Try.f3 Rows.chainCutsRow.domain false) (Rows.chainCutsSpec.post enc Try.prog Try.f3 false true false false) := by
  refine returnsInHanded_of_change_sized (C := Try.checked) own started (by kernel_rfl) Try.func3
    (ChangeSpec.witness6 (enc := enc) (C := Try.checked) false ⟨#[], #[.string ByteArray.empty, .slice none 0 0, .int .i64 0], []⟩ 8 (by kernel_rfl) (by kernel_rfl) (by kernel_rfl) (by kernel_rfl)) ?_
  intro W base args ds gs before hval0 hW hcnd hsz0 _
  have hval : ∀ (j : Nat) t v, Try.f3.params[j]? = some t → args[j]? = some v → Value.okWide Try.prog W .any base t v := hval0
  have hsz : (DataW.weightsEach Try.prog (Try.f3.params.toList ++ Rows.chainCutsSpec.plain.varTypes Try.prog) (ds ++ gs)).all (· ≤ reachBytes) = true := hsz0
  have hW' := hW
  obtain ⟨p, q, hA0, hV, rfl, hfz, hnd⟩ := hW
  have hA : DataW.TrodAll enc Try.prog W 0 (fun _ => true) true Try.f3.params.toList args.toList ds p := hA0
  rw [Try.params3] at hA hval hsz
  obtain ⟨v0, vs0, d0, ds0, p0, q0, hargs, rfl, rfl, h0, r0⟩ := trodAll_cons hA
  obtain ⟨v1, vs1, d1, ds1, p1, q1, rfl, rfl, rfl, h1, r1⟩ := trodAll_cons r0
  obtain ⟨v2, vs2, d2, ds2, p2, q2, rfl, rfl, rfl, h2, r2⟩ := trodAll_cons r1
  obtain ⟨rfl, rfl, rfl⟩ := trodAll_nil r2
  obtain rfl : args = #[v0, v1, v2] := by cases args; simp_all
  obtain ⟨rfl, rfl⟩ := trodVars_none hV
  obtain ⟨a0, rfl, rfl, rfl, w0⟩ := open_string Try.underlying9 (hval 0 9 v0 rfl rfl) h0
  obtain ⟨A1, n1, c1, rfl⟩ := okWide_slice Try.underlying22 (hval 1 22 v1 rfl rfl)
  have k1 := h1
  have lt1 : ∀ x ∈ p1, x.block < W.heap.size := by obtain ⟨m, hm⟩ := k1; exact DataW.trod_lt m _ _ _ hm
  obtain ⟨l1, w1⟩ := open_strs h1 (fun m hm => of_decide_eq_true (List.all_eq_true.1 hsz _ (DataW.weights_mem_each (j := 1) (t := 22) rfl rfl m hm)))
  obtain ⟨a2, rfl, rfl, rfl, w2⟩ := open_int Try.underlying3 (hval 2 3 v2 rfl rfl) h2
  have z0 : a0.data.toList.length ≤ reachBytes := sized_string hsz (j := 0) (t := 9) rfl rfl
  have y0 : a0.size ≤ 140737488351232 := z0
  clear hA0 hval0 hsz hsz0
  refine (chainCuts_walk a0 A1 n1 c1 l1 a2 W y0 w1 w2).mono fun e W' ⟨he, bel⟩ => ?_
  subst he
  exact ⟨_, rfl, _, _, _, [], _, [], hW', trodAll_mk1 (shut_bool Try.underlying4 _), (trodAll_cons_mk (shut_string Try.underlying9 w0) (trodAll_cons_mk (Below.trod laidOut (by kernel_rfl) (of_decide_eq_true (by kernel_rfl)) k1 bel lt1) (trodAll_cons_mk (shut_int Try.underlying3 w2) trodAll_mk0))), rfl, bel.frame _, fun h => by cases h⟩

theorem over : Rows.chainCutsRow.holds Try.pinned (OpenSpec.ofChange Rows.chainCutsSpec) :=
  OpenClaim.holds_of_wide 3 Try.f3 rfl rfl rfl rfl rfl rfl rfl ⟨rfl, rfl, rfl, rfl, rfl⟩ rfl rfl rfl rfl rfl (by kernel_rfl) Try.func3 (by kernel_rfl)
    (of_decide_eq_true (by kernel_rfl)) (by unfold Func.isWrapper; first | (rw [if_pos (by decide +kernel)]; kernel_rfl) | (rw [if_neg (by decide +kernel)]; exact ⟨rfl, rfl⟩))
    (fun os started H enc _ => lifted os started H enc)

theorem proved : Rows.ChainCutsSaid := over
#print axioms proved

end Go.Proofs.Ytalhnmaecnielaa.chainCuts
