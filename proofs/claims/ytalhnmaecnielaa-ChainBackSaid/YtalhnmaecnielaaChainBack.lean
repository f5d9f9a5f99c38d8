/-
  ChainBack: what is cut is joined as it was, and with another size, or a piece fewer, it is not, for every string and int; no condition beyond the row's.
-/
import Derived.Test.YtalhnmaecnielaaChainRef
namespace Go.Proofs.Ytalhnmaecnielaa
open Go.RowKit
set_option linter.unusedVariables false

theorem join_cut {s : ByteArray} (h : Long s.size) : joinS (cutL s) s.size = s ∧ joinE (cutL s) s.size = 0 := by
  have hf := cut_fit h
  have h2 : (cutL s).length ≤ 2 := by rw [cutL_length]; exact pages_le s
  exact ⟨(if_pos ⟨h, h2, hf.1⟩).trans hf.2, (if_pos ⟨h, h2⟩).trans (if_pos hf.1)⟩
theorem join_less {s : ByteArray} (h : Long s.size) : joinE ((cutL s).take ((cutL s).length - 1)) s.size = 3 := by
  have hf := cut_fit h
  have h2 : (cutL s).length ≤ 2 := by rw [cutL_length]; exact pages_le s
  have hl : ((cutL s).take ((cutL s).length - 1)).length = (cutL s).length - 1 := by rw [List.length_take]; omega
  refine (if_pos ⟨h, by omega⟩).trans (if_neg fun hn => ?_)
  have h3 := hn.1
  have h4 := hf.1.1
  rw [hl] at h3
  have := h.1
  omega
theorem join_other {s : ByteArray} (h : Long s.size) (z : Int) : joinE (cutL s) z = 0 ↔ z = s.size := by
  constructor
  · intro he
    unfold joinE at he
    by_cases hz : Long z ∧ (cutL s).length ≤ 2
    · rw [if_pos hz] at he
      by_cases hf : Fit (cutL s) z
      · have := (cut_cat hz.1 hf).2
        rw [(cut_fit h).2] at this
        exact this.symm
      · rw [if_neg hf] at he
        cases he
    · rw [if_neg hz] at he
      cases he
  · rintro rfl
    exact (join_cut h).2

set_option maxHeartbeats 1600000 in
set_option maxRecDepth 100000 in
theorem chainBack_walk (s : ByteArray) (z : Int) (w : World) (hs : s.size ≤ 140737488351232) (hz : (Lit.int .i64 z).wf = true) :
    Calls Try.prog 4 #[.string s, .int .i64 z] w fun e w' => e = .returned (.bool true) ∧ Below w.heap.size w w' := by
  go_enter Try.func4, Try.ntmps4
  go_wp2_with fail
  refine (chAwake_any w).mono ?_
  rintro e w1 ⟨rfl, hb1⟩
  by_cases h5 : 5000 < s.size
  · go_wp2_with fail
    refine (chAwake_any w1).mono ?_
    rintro e w2 ⟨rfl, hb2⟩
    go_wp2
    go_ret
    exact ⟨rfl, bthen hb1 hb2⟩
  go_wp2_with fail
  refine (chCut_any s w1 hs).mono ?_
  rintro e w2 ⟨v, rfl, hown, hb2⟩
  have hb02 := bthen hb1 hb2
  obtain ⟨B, d, rfl, hd, hss⟩ := hown.form
  have HSS := Lib.hid hss
  have hp := pages_le s
  rw [← cutL_length] at hp
  have HP := Lib.hid (cutL_length s).symm
  obtain ⟨q, hq⟩ : ∃ q, (cutL s).length = q := ⟨_, rfl⟩
  rw [hq] at hp hd ⊢
  have HQ := Lib.hid hq
  clear hown hss hb1 hb2 hq
  go_wp2_with fail
  refine (chPages_any s w2 hs).mono ?_
  rintro e w3 ⟨rfl, rfl⟩
  rw [HP.out, HQ.out]
  by_cases hl : Long s.size
  · have hq0 : q ≠ 0 := by
      have := (cut_fit hl).1.1
      rw [HQ.out] at this
      have := hl.1
      omega
    have HSZ := Lib.hid (show ∀ x ∈ cutL s, x.size ≤ 140737488351232 from fun x hx => by
      have hf := (cut_fit hl).1
      have := hl.2
      rcases fit_cases hl hf with ⟨a, ha, h1, h2⟩ | ⟨a, b, ha, h1, h2, h3⟩
      · rw [ha] at hx
        simp only [List.mem_singleton] at hx
        subst hx
        omega
      · rw [ha] at hx
        simp only [List.mem_cons, List.not_mem_nil, or_false] at hx
        rcases hx with rfl | rfl <;> omega)
    have HL := Lib.hid hl
    clear hl
    go_wp2_with fail
    refine (chJoin_any B q d s.size (cutL s) w2 HSS.out HQ.out (by omega) HSZ.out).mono ?_
    rintro e w3 ⟨rfl, hb3⟩
    rw [(join_cut HL.out).1, (join_cut HL.out).2]
    have hb03 := bthen hb02 hb3
    have HSS3 := Lib.hid (HSS.out.below hb3)
    clear hb02 hb3
    go_wp2_with fail
    refine (chJoin_any B (q - 1) d s.size ((cutL s).take (q - 1)) w3 (HSS3.out.take _) (by rw [List.length_take, HQ.out]; omega) (by omega) (fun x hx => HSZ.out x (List.mem_of_mem_take hx))).mono ?_
    rintro e w4 ⟨rfl, hb4⟩
    have hle := join_less HL.out
    rw [HQ.out] at hle
    rw [hle]
    generalize joinS ((cutL s).take (q - 1)) s.size = x4
    have hb04 := bthen hb03 hb4
    have HSS4 := Lib.hid (HSS3.out.below hb4)
    clear hb03 hb4 hle
    go_wp2_with fail
    refine (chJoin_any B q d z (cutL s) w4 HSS4.out HQ.out (by omega) HSZ.out).mono ?_
    rintro e w5 ⟨rfl, hb5⟩
    have hio := join_other HL.out z
    generalize joinS (cutL s) z = x5
    obtain ⟨f, hfe⟩ : ∃ f, joinE (cutL s) z = f := ⟨_, rfl⟩
    rw [hfe] at hio ⊢
    have hb05 := bthen hb04 hb5
    have hq : (s.toList == s.toList) = true := by rw [same_eq]; simp
    clear hfe hb04 hb5
    by_cases hz2 : z = s.size
    · have hf0 := hio.2 hz2
      subst hf0
      subst hz2
      clear hio
      go_wp2
      go_ret
      exact ⟨rfl, hb05⟩
    · have hf0 : f ≠ 0 := fun h => hz2 (hio.1 h)
      clear hio
      have HE := Lib.hid (show ((f == 0) == (z == (s.size : Int))) = true by rw [beq_eq_false_iff_ne.2 hf0, beq_eq_false_iff_ne.2 hz2]; rfl)
      go_wp2
      go_ret
      exact ⟨congrArg (fun b => Ending.returned (Value.bool b)) HE.out, hb05⟩
  · have hq0 : q = 0 := by
      rw [← HQ.out, cutL_none hl]
      rfl
    subst hq0
    have hor : s.size ≤ 24 ∨ 400 < s.size := by
      unfold Long at hl
      omega
    clear hl
    rcases hor with h | h
    · go_wp2
      go_ret
      exact ⟨rfl, hb02⟩
    · have HE := Lib.hid (show (decide ((s.size : Int) ≤ 24) || decide (400 < (s.size : Int))) = true by
        have : (400 : Int) < s.size := by omega
        simp [this])
      go_wp2
      go_ret
      exact ⟨congrArg (fun b => Ending.returned (Value.bool b)) HE.out, hb02⟩

end Go.Proofs.Ytalhnmaecnielaa

namespace Go.Proofs.Ytalhnmaecnielaa.chainBack
open Go.ChangeShapes Go.WideShapes Go.ChangeAt Go.RowKit
open Go.ChangeMaps (open_string shut_string)
set_option linter.unusedVariables false

theorem own : ownKnob Try.prog.godebug = none := by kernel_rfl
theorem laidOut : laidOutB Try.prog = true := by kernel_rfl

set_option maxRecDepth 100000 in
theorem lifted (os : Os) (started : os.Started) (H : Type) (enc : TypeId × Value → H) :
    ReturnsInHanded {} Try.checked os 4 .any (Rows.chainBackSpec.pre6 enc Try.prog Try.f4 Rows.chainBackRow.domain false) (Rows.chainBackSpec.post enc Try.prog Try.f4 false true false false) := by
  refine returnsInHanded_of_change_sized (C := Try.checked) own started (by kernel_rfl) Try.func4
    (ChangeSpec.witness6 (enc := enc) (C := Try.checked) false ⟨#[], #[.string ByteArray.empty, .int .i64 0], []⟩ 8 (by kernel_rfl) (by kernel_rfl) (by kernel_rfl) (by kernel_rfl)) ?_
  intro W base args ds gs before hval0 hW hcnd hsz0 _
  have hval : ∀ (j : Nat) t v, Try.f4.params[j]? = some t → args[j]? = some v → Value.okWide Try.prog W .any base t v := hval0
  have hsz : (DataW.weightsEach Try.prog (Try.f4.params.toList ++ Rows.chainBackSpec.plain.varTypes Try.prog) (ds ++ gs)).all (· ≤ reachBytes) = true := hsz0
  have hW' := hW
  obtain ⟨p, q, hA0, hV, rfl, hfz, hnd⟩ := hW
  have hA : DataW.TrodAll enc Try.prog W 0 (fun _ => true) true Try.f4.params.toList args.toList ds p := hA0
  rw [Try.params4] at hA hval hsz
  obtain ⟨v0, vs0, d0, ds0, p0, q0, hargs, rfl, rfl, h0, r0⟩ := trodAll_cons hA
  obtain ⟨v1, vs1, d1, ds1, p1, q1, rfl, rfl, rfl, h1, r1⟩ := trodAll_cons r0
  obtain ⟨rfl, rfl, rfl⟩ := trodAll_nil r1
  obtain rfl : args = #[v0, v1] := by cases args; simp_all
  obtain ⟨rfl, rfl⟩ := trodVars_none hV
  obtain ⟨a0, rfl, rfl, rfl, w0⟩ := open_string Try.underlying9 (hval 0 9 v0 rfl rfl) h0
  obtain ⟨a1, rfl, rfl, rfl, w1⟩ := open_int Try.underlying3 (hval 1 3 v1 rfl rfl) h1
  have z0 : a0.data.toList.length ≤ reachBytes := sized_string hsz (j := 0) (t := 9) rfl rfl
  have y0 : a0.size ≤ 140737488351232 := z0
  clear hA0 hval0 hsz hsz0
  simp only [List.append_nil] at hW'
  refine (chainBack_walk a0 a1 W y0 w1).mono fun e W' ⟨he, bel⟩ => ?_
  subst he
  exact ⟨_, rfl, _, _, _, [], [], [], hW', trodAll_mk1 (shut_bool Try.underlying4 _), (trodAll_cons_mk (shut_string Try.underlying9 w0) (trodAll_cons_mk (shut_int Try.underlying3 w1) trodAll_mk0)), rfl, bel.frame _, fun h => by cases h⟩

theorem over : Rows.chainBackRow.holds Try.pinned (OpenSpec.ofChange Rows.chainBackSpec) :=
  OpenClaim.holds_of_wide 4 Try.f4 rfl rfl rfl rfl rfl rfl rfl ⟨rfl, rfl, rfl, rfl, rfl⟩ rfl rfl rfl rfl rfl (by kernel_rfl) Try.func4 (by kernel_rfl)
    (of_decide_eq_true (by kernel_rfl)) (by unfold Func.isWrapper; first | (rw [if_pos (by decide +kernel)]; kernel_rfl) | (rw [if_neg (by decide +kernel)]; exact ⟨rfl, rfl⟩))
    (fun os started H enc _ => lifted os started H enc)

theorem proved : Rows.ChainBackSaid := over
#print axioms proved

end Go.Proofs.Ytalhnmaecnielaa.chainBack
