/-
  The law FixWidth answers true for every two numbers: those that are alike in their lowest bits are laid alike, others are not; no conditions.
-/
import Derived.Test.YtpobnifjgajgkaaFixConv
import Derived.ProofKit
import Derived.OpenShut
import Derived.Carry
namespace Go.Proofs.Ytpobnifjgajgkaa
open Go.RowKit Go.Sort
set_option linter.unusedVariables false

theorem b8_eq (x y : Int) : b8 x = b8 y ↔ x % 256 = y % 256 := by
  constructor
  · intro h
    have := congrArg u8 h
    rw [u8_b8, u8_b8] at this
    injection this
  · intro h
    unfold b8
    rw [h]
theorem be16_eq (x y : Int) : be16 x = be16 y ↔ x % 65536 = y % 65536 := by
  simp only [be16, List.cons.injEq, b8_eq, and_true]
  omega
theorem be32_eq (x y : Int) : be32 x = be32 y ↔ x % 4294967296 = y % 4294967296 := by
  simp only [be32, List.cons.injEq, b8_eq, and_true]
  omega
theorem wrap_mod (x : Int) : wrap64 x % 18446744073709551616 = x % 18446744073709551616 := by
  unfold wrap64
  omega
theorem e16_of (x y : Int) : (be16 x == be16 y) = (bits .and .i64 (wrap64 (x - y)) 65535 == 0) := by
  rw [and65535, Bool.eq_iff_iff, beq_iff_eq, beq_iff_eq, be16_eq]
  have := wrap_mod (x - y)
  omega
theorem e32_of (x y : Int) : (be32 x == be32 y) = (bits .and .i64 (wrap64 (x - y)) 4294967295 == 0) := by
  rw [and32, Bool.eq_iff_iff, beq_iff_eq, beq_iff_eq, be32_eq]
  have := wrap_mod (x - y)
  omega

set_option maxHeartbeats 400000 in
theorem fixWidth_walk (a0 a1 : Int) (w0 : (Lit.int .i64 a0).wf = true) (w1 : (Lit.int .i64 a1).wf = true) (w : World) :
    Calls Try.prog 9 #[.int .i64 a0, .int .i64 a1] w fun e w' => e = .returned (.bool true) ∧ Below w.heap.size w w' := by
  have hx : -9223372036854775808 ≤ a0 ∧ a0 ≤ 9223372036854775807 := by simpa [Lit.wf, IntKind.min, IntKind.max, IntKind.signed, IntKind.bits] using w0
  have hy : -9223372036854775808 ≤ a1 ∧ a1 ≤ 9223372036854775807 := by simpa [Lit.wf, IntKind.min, IntKind.max, IntKind.signed, IntKind.bits] using w1
  clear w0 w1
  go_enter Try.func9, Try.ntmps9
  go_wp2_with fail
  refine (awake_any _).mono ?_
  rintro x w1 ⟨rfl, hb1⟩
  go_wp2_with fail
  refine wp_region_segs [([0, 3, 7, 10], 1), ([2], 4), ([5, 6], 8), ([9], 11)] [12, 13, 14, 15] (by kernel_rfl) (by kernel_rfl) (by kernel_rfl) (by kernel_rfl) (by intro c a d v w h; cases d <;> exact h) ?_
  refine wpSegs_more ?_
  simp only [pick, List.getElem?_cons_zero, List.getElem?_cons_succ]
  repeat (first | go_big_quiet_step (fail) | quiet_step (fail))
  refine wpQuiet_nil ?_
  refine wpOp_heavy rfl (by rfl) (fun K hK => ?_)
  go_simp
  refine (put16_any none 0 0 [] a0 _ (Rd.nil _ _) rfl (by omega) hx.1 hx.2).mono ?_
  rintro x w2 ⟨rfl, hown2, hb2⟩
  have cv2 : ∀ d os, (convert 23 9 (.slice (some ⟨w1.heap.size, 0, none⟩) 2 2)).run Try.prog (grow (redrawn w2 d) os) = .ok (.string ⟨(be16 a0).toArray⟩) (grow (redrawn w2 d) os) := conv_later hown2
  refine hK _ _ hb2 ?_
  clear hK K
  refine wpSegs_more ?_
  simp only [pick, List.getElem?_cons_zero, List.getElem?_cons_succ]
  repeat (first | go_big_quiet_step (fail) | quiet_step (fail))
  refine wpQuiet_nil ?_
  refine wpOp_heavy rfl (by rfl) (fun K hK => ?_)
  go_simp
  refine (put16_any none 0 0 [] a1 _ (Rd.nil _ _) rfl (by omega) hy.1 hy.2).mono ?_
  rintro x w3 ⟨rfl, hown3, hb3⟩
  have cv3 : ∀ d os, (convert 23 9 (.slice (some ⟨w2.heap.size, 0, none⟩) 2 2)).run Try.prog (grow (redrawn w3 d) os) = .ok (.string ⟨(be16 a1).toArray⟩) (grow (redrawn w3 d) os) := conv_later hown3
  refine hK _ _ hb3 ?_
  clear hK K
  refine wpSegs_more ?_
  simp only [pick, List.getElem?_cons_zero, List.getElem?_cons_succ]
  repeat (first | go_big_quiet_step (fail) | quiet_step (fail))
  refine wpQuiet_nil ?_
  refine wpOp_heavy rfl (by rfl) (fun K hK => ?_)
  go_simp
  refine (put32_any none 0 0 [] a0 _ (Rd.nil _ _) rfl (by omega) hx.1 hx.2).mono ?_
  rintro x w4 ⟨rfl, hown4, hb4⟩
  have cv4 : ∀ d os, (convert 23 9 (.slice (some ⟨w3.heap.size, 0, none⟩) 4 4)).run Try.prog (grow (redrawn w4 d) os) = .ok (.string ⟨(be32 a0).toArray⟩) (grow (redrawn w4 d) os) := conv_later hown4
  refine hK _ _ hb4 ?_
  clear hK K
  refine wpSegs_more ?_
  simp only [pick, List.getElem?_cons_zero, List.getElem?_cons_succ]
  repeat (first | go_big_quiet_step (fail) | quiet_step (fail))
  refine wpQuiet_nil ?_
  refine wpOp_heavy rfl (by rfl) (fun K hK => ?_)
  go_simp
  refine (put32_any none 0 0 [] a1 _ (Rd.nil _ _) rfl (by omega) hy.1 hy.2).mono ?_
  rintro x w5 ⟨rfl, hown5, hb5⟩
  have cv5 : ∀ d os, (convert 23 9 (.slice (some ⟨w4.heap.size, 0, none⟩) 4 4)).run Try.prog (grow (redrawn w5 d) os) = .ok (.string ⟨(be32 a1).toArray⟩) (grow (redrawn w5 d) os) := conv_later hown5
  refine hK _ _ hb5 ?_
  clear hK K
  refine wpSegs_last ?_
  simp only [pick, List.getElem?_cons_zero, List.getElem?_cons_succ]
  repeat (first | go_big_quiet_step (fail) | quiet_step (fail))
  refine wpQuiet_nil ?_
  clear cv2 cv3 cv4 cv5
  have e16 : (be16 a0 == be16 a1) = (bits BinOp.and IntKind.i64 (wrap64 (a0 - a1)) 65535 == 0) := e16_of a0 a1
  have e32 : (be32 a0 == be32 a1) = (bits BinOp.and IntKind.i64 (wrap64 (a0 - a1)) 4294967295 == 0) := e32_of a0 a1
  go_wp2
  go_ret
  refine ⟨rfl, ?_⟩
  have h1 := hb1.size
  have h2 := hb2.size
  have h3 := hb3.size
  have h4 := hb4.size
  simp at h2
  exact hb1.drew.trans ((hb2.mono (by simpa using h1)).trans ((hb3.mono (by omega)).trans ((hb4.mono (by omega)).trans (hb5.mono (by omega)))))

end Go.Proofs.Ytpobnifjgajgkaa

namespace Go.Proofs.Ytpobnifjgajgkaa.fixWidth
open Go.ChangeShapes Go.WideShapes Go.ChangeAt Go.RowKit
set_option linter.unusedVariables false

theorem own : ownKnob Try.prog.godebug = none := by kernel_rfl

set_option maxRecDepth 100000 in
theorem lifted (os : Os) (started : os.Started) (H : Type) (enc : TypeId × Value → H) :
    ReturnsInHanded {} Try.checked os 9 .any (Rows.fixWidthSpec.pre6 enc Try.prog Try.f9 Rows.fixWidthRow.domain false) (Rows.fixWidthSpec.post enc Try.prog Try.f9 false true false false) := by
  refine returnsInHanded_of_change (C := Try.checked) own started (by kernel_rfl) Try.func9
    (ChangeSpec.witness6 (enc := enc) (C := Try.checked) false ⟨#[], #[.int .i64 0, .int .i64 0], []⟩ 8 (by kernel_rfl) (by kernel_rfl) (by kernel_rfl) (by kernel_rfl)) ?_
  intro W base args ds gs before hval0 hW hcnd _
  have hval : ∀ (j : Nat) t v, Try.f9.params[j]? = some t → args[j]? = some v → Value.okWide Try.prog W .any base t v := hval0
  have hW' := hW
  obtain ⟨p, q, hA0, hV, rfl, hfz, hnd⟩ := hW
  have hA : DataW.TrodAll enc Try.prog W 0 (fun _ => true) true Try.f9.params.toList args.toList ds p := hA0
  rw [Try.params9] at hA hval
  obtain ⟨v0, vs0, d0, ds0, p0, q0, hargs, rfl, rfl, h0, r0⟩ := trodAll_cons hA
  obtain ⟨v1, vs1, d1, ds1, p1, q1, rfl, rfl, rfl, h1, r1⟩ := trodAll_cons r0
  obtain ⟨rfl, rfl, rfl⟩ := trodAll_nil r1
  obtain rfl : args = #[v0, v1] := by cases args; simp_all
  obtain ⟨rfl, rfl⟩ := trodVars_none hV
  obtain ⟨a0, rfl, rfl, rfl, w0⟩ := open_int Try.underlying3 (hval 0 3 v0 rfl rfl) h0
  obtain ⟨a1, rfl, rfl, rfl, w1⟩ := open_int Try.underlying3 (hval 1 3 v1 rfl rfl) h1
  clear hA0 hval0
  simp only [List.append_nil] at hW'
  refine (fixWidth_walk a0 a1 w0 w1 W).mono fun e W' ⟨he, bel⟩ => ?_
  subst he
  exact ⟨_, rfl, _, _, _, [], [], [], hW', trodAll_mk1 (shut_bool Try.underlying4 _), (trodAll_cons_mk (shut_int Try.underlying3 w0) (trodAll_cons_mk (shut_int Try.underlying3 w1) trodAll_mk0)), rfl, bel.frame _, fun h => by cases h⟩

theorem over : Rows.fixWidthRow.holds Try.pinned (OpenSpec.ofChange Rows.fixWidthSpec) :=
  OpenClaim.holds_of_wide 9 Try.f9 rfl rfl rfl rfl rfl rfl rfl ⟨rfl, rfl, rfl, rfl, rfl⟩ rfl rfl rfl rfl rfl (by kernel_rfl) Try.func9 (by kernel_rfl)
    (of_decide_eq_true (by kernel_rfl)) (by unfold Func.isWrapper; first | (rw [if_pos (by decide +kernel)]; kernel_rfl) | (rw [if_neg (by decide +kernel)]; exact ⟨rfl, rfl⟩))
    (fun os started H enc _ => lifted os started H enc)

theorem proved : Rows.FixWidthSaid := over
#print axioms proved

end Go.Proofs.Ytpobnifjgajgkaa.fixWidth
