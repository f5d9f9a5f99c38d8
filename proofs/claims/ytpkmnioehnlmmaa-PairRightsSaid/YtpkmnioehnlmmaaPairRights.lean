/-
  PairRights: any text is a valid key, or value, or not, as the document says, and any entries rise or not, for every string and slice; no condition beyond the row's.
-/
import Derived.Test.YtpkmnioehnlmmaaPairAwake
import Derived.Test.YtpkmnioehnlmmaaPairOpen
namespace Go.Proofs.Ytpkmnioehnlmmaa
open Go.RowKit
set_option linter.unusedVariables false

set_option maxHeartbeats 800000 in
theorem pairRights_walk (s : ByteArray) (A : Option Addr) (n c : Nat) (l : List Ent) (w : World) (hs : s.size ≤ 140737488351232) (ha : Arg w A n c l) :
    Calls Try.prog 3 #[.string s, .slice A n c] w fun e w' => e = .returned (.bool true) ∧ Below w.heap.size w w' := by
  obtain ⟨hlen, hcap, hsm, hes, hstr⟩ := ha
  have Hl := Lib.hid hlen
  have HS := Lib.hid hstr
  clear hlen hstr
  go_enter Try.func3, Try.ntmps3
  go_wp2_with fail
  refine (awake_any w).mono ?_
  rintro e w1 ⟨rfl, hb1⟩
  go_wp2_with fail
  refine (few_any A n c l w1 (hes.below hb1) Hl.out hsm HS.out).mono ?_
  rintro e w2 ⟨rfl, hb2⟩
  have hb02 := bthen hb1 hb2
  clear hb1 hb2
  by_cases hf : Few l
  · rw [decide_eq_true hf]
    have hn : n ≤ 300 := by have := hf.1; rw [Hl.out] at this; exact this
    go_wp2_with fail
    refine (key_any s w2 hs).mono ?_
    rintro e w3 ⟨rfl, rfl⟩
    generalize hkn : keyNo s = kn
    have HK := Lib.hid hkn
    clear hkn
    go_wp2_with fail
    refine (refKey_any s w2 hs).mono ?_
    rintro e w3 ⟨rfl, rfl⟩
    rw [HK.out]
    go_wp2_with fail
    refine (value_any s w2 hs).mono ?_
    rintro e w3 ⟨rfl, rfl⟩
    generalize hvn : valNo s = vn
    have HV := Lib.hid hvn
    clear hvn
    go_wp2_with fail
    refine (refValue_any s w2 hs).mono ?_
    rintro e w3 ⟨rfl, rfl⟩
    rw [HV.out]
    go_wp2_with fail
    refine (rise_any A n c l w2 (hes.below hb02) Hl.out (by omega)).mono ?_
    rintro e w3 ⟨rfl, hb3⟩
    have hb03 := bthen hb02 hb3
    generalize hso : decide (Sorted l) = so
    have HSO := Lib.hid hso
    clear hso hb02 hb3
    go_wp2_with fail
    refine (refRise_any A n c l w3 (hes.below hb03) Hl.out (by omega)).mono ?_
    rintro e w4 ⟨rfl, hb4⟩
    rw [HSO.out]
    have hb04 := bthen hb03 hb4
    cases so <;> (go_wp2; go_ret; exact ⟨rfl, hb04⟩)
  · rw [decide_eq_false hf]
    go_wp2_with fail
    refine (awake_any w2).mono ?_
    rintro e w3 ⟨rfl, hb3⟩
    go_wp2
    go_ret
    exact ⟨rfl, bthen hb02 hb3⟩

end Go.Proofs.Ytpkmnioehnlmmaa

namespace Go.Proofs.Ytpkmnioehnlmmaa.pairRights
open Go.ChangeShapes Go.WideShapes Go.ChangeAt Go.RowKit
open Go.ChangeMaps (open_string shut_string)
set_option linter.unusedVariables false

theorem own : ownKnob Try.prog.godebug = none := by kernel_rfl
theorem laidOut : laidOutB Try.prog = true := by kernel_rfl

set_option maxRecDepth 100000 in
theorem lifted (os : Os) (started : os.Started) (H : Type) (enc : TypeId × Value → H) :
    ReturnsInHanded {} Try.checked os 3 .any (Rows.pairRightsSpec.pre6 enc Try.prog Try.f3 Rows.pairRightsRow.domain false) (Rows.pairRightsSpec.post enc Try.prog Try.f3 false true false false) := by
  refine returnsInHanded_of_change_sized (C := Try.checked) own started (by kernel_rfl) Try.func3
    (ChangeSpec.witness6 (enc := enc) (C := Try.checked) false ⟨#[], #[.string ByteArray.empty, .slice none 0 0], []⟩ 8 (by kernel_rfl) (by kernel_rfl) (by kernel_rfl) (by kernel_rfl)) ?_
  intro W base args ds gs before hval0 hW hcnd hsz0 _
  have hval : ∀ (j : Nat) t v, Try.f3.params[j]? = some t → args[j]? = some v → Value.okWide Try.prog W .any base t v := hval0
  have hsz : (DataW.weightsEach Try.prog (Try.f3.params.toList ++ Rows.pairRightsSpec.plain.varTypes Try.prog) (ds ++ gs)).all (· ≤ reachBytes) = true := hsz0
  have hW' := hW
  obtain ⟨p, q, hA0, hV, rfl, hfz, hnd⟩ := hW
  have hA : DataW.TrodAll enc Try.prog W 0 (fun _ => true) true Try.f3.params.toList args.toList ds p := hA0
  rw [Try.params3] at hA hval hsz
  obtain ⟨v0, vs0, d0, ds0, p0, q0, hargs, rfl, rfl, h0, r0⟩ := trodAll_cons hA
  obtain ⟨v1, vs1, d1, ds1, p1, q1, rfl, rfl, rfl, h1, r1⟩ := trodAll_cons r0
  obtain ⟨rfl, rfl, rfl⟩ := trodAll_nil r1
  obtain rfl : args = #[v0, v1] := by cases args; simp_all
  obtain ⟨rfl, rfl⟩ := trodVars_none hV
  obtain ⟨a0, rfl, rfl, rfl, w0⟩ := open_string Try.underlying9 (hval 0 9 v0 rfl rfl) h0
  obtain ⟨A1, n1, c1, rfl⟩ := okWide_slice Try.underlying22 (hval 1 22 v1 rfl rfl)
  have k1 := h1
  have lt1 : ∀ x ∈ p1, x.block < W.heap.size := by obtain ⟨m, hm⟩ := k1; exact DataW.trod_lt m _ _ _ hm
  obtain ⟨l1, w1⟩ := open_ents h1 (fun m hm => of_decide_eq_true (List.all_eq_true.1 hsz _ (DataW.weights_mem_each (j := 1) (t := 22) rfl rfl m hm)))
  have z0 : a0.data.toList.length ≤ reachBytes := sized_string hsz (j := 0) (t := 9) rfl rfl
  have y0 : a0.size ≤ 140737488351232 := z0
  clear hA0 hval0 hsz hsz0
  refine (pairRights_walk a0 A1 n1 c1 l1 W y0 w1).mono fun e W' ⟨he, bel⟩ => ?_
  subst he
  exact ⟨_, rfl, _, _, _, [], _, [], hW', trodAll_mk1 (shut_bool Try.underlying4 _), (trodAll_cons_mk (shut_string Try.underlying9 w0) (trodAll_cons_mk (Below.trod laidOut (by kernel_rfl) (of_decide_eq_true (by kernel_rfl)) k1 bel lt1) trodAll_mk0)), rfl, bel.frame _, fun h => by cases h⟩

theorem over : Rows.pairRightsRow.holds Try.pinned (OpenSpec.ofChange Rows.pairRightsSpec) :=
  OpenClaim.holds_of_wide 3 Try.f3 rfl rfl rfl rfl rfl rfl rfl ⟨rfl, rfl, rfl, rfl, rfl⟩ rfl rfl rfl rfl rfl (by kernel_rfl) Try.func3 (by kernel_rfl)
    (of_decide_eq_true (by kernel_rfl)) (by unfold Func.isWrapper; first | (rw [if_pos (by decide +kernel)]; kernel_rfl) | (rw [if_neg (by decide +kernel)]; exact ⟨rfl, rfl⟩))
    (fun os started H enc _ => lifted os started H enc)

theorem proved : Rows.PairRightsSaid := over
#print axioms proved

end Go.Proofs.Ytpkmnioehnlmmaa.pairRights
