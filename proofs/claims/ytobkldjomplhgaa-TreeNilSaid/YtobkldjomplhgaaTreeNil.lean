/-
  TreeNil: the nil tree is the tree of no entries; for every key; no condition beyond the row's.
-/
import Derived.Test.YtobkldjomplhgaaTreeTools
import Derived.Test.YtobkldjomplhgaaTreeNodes
namespace Go.Proofs.Ytobkldjomplhgaa
open Go.RowKit Go.Sort Go.ChangeShapes Go.WideShapes
set_option linter.unusedVariables false
set_option linter.unusedSimpArgs false

theorem nodes_nil (w : World) : Calls Try.prog 22 #[.pointer none, .pointer none] w fun r w' => r = .returned (.tuple #[.int .i64 0, .int .i64 0]) ∧ Below w.heap.size w w' := by
  refine (nodes_two (T := none) (U := none) (TreeIs.none w) (TreeIs.none w) (by simp [tl])).mono ?_
  rintro r w' ⟨bs, rfl, hn, hm, hl, hb⟩
  have : bs = [] := List.eq_nil_iff_forall_not_mem.2 fun x hx => by
    have := (hm x).1 hx
    simp [tids] at this
  subst this
  exact ⟨rfl, hb⟩
theorem del_nil (w : World) (key : ByteArray) : Calls Try.prog 19 #[.pointer none, .string key] w fun r w' => r = .returned (.tuple #[.pointer none, .bool false]) ∧ Below w.heap.size w w' := by
  refine (del_any (T := none) (key := key) (TreeIs.none w) ((TreeIs.none w).low (by simp [tl]))).mono ?_
  rintro r w' ⟨T', rfl, ht, hb, hd, hf, hsame⟩
  have hT := hsame rfl
  subst hT
  exact ⟨rfl, hb⟩

set_option maxRecDepth 100000 in
set_option maxHeartbeats 4000000 in
theorem treeNil_walk (key : ByteArray) (w : World) (hk : key.size ≤ 140737488351232) :
    Calls Try.prog 8 #[.string key] w fun r w' => r = .returned (.bool true) ∧ Below w.heap.size w w' := by
  have henn := eql_nil_nil
  go_enter Try.func8, Try.ntmps8
  go_wp2_with fail
  refine (trAwake_any w).mono ?_
  rintro r w1 ⟨rfl, hb1⟩
  go_wp2_with fail
  refine (get_nil w1 key).mono ?_
  rintro r w2 ⟨rfl, hb2⟩
  have HB2 := Lib.hid (bthen hb1 hb2)
  clear hb1 hb2
  unfold lookV
  go_wp2_with fail
  refine (del_nil w2 key).mono ?_
  rintro r w3 ⟨rfl, hb3⟩
  have HB3 := Lib.hid (bthen HB2.out hb3)
  clear hb3
  go_wp2_with fail
  refine (nodes_nil w3).mono ?_
  rintro r w4 ⟨rfl, hb4⟩
  have HB4 := Lib.hid (bthen HB3.out hb4)
  clear hb4
  go_wp2_with fail
  refine (path_nil w4 key).mono ?_
  rintro r w5 ⟨rfl, rfl⟩
  go_wp2_with fail
  refine (items_nil w4).mono ?_
  rintro r w5 ⟨v, rfl, ho, hb5⟩
  obtain ⟨A', c', rfl, hc, _⟩ := ho.form
  have HB5 := Lib.hid (bthen HB4.out hb5)
  clear ho hb5
  rw [List.length_nil] at hc ⊢
  go_wp2_with fail
  refine (right_nil w5).mono ?_
  rintro r w6 ⟨rfl, hb6⟩
  have HB6 := Lib.hid (bthen HB5.out hb6)
  clear hb6
  go_wp2
  go_ret
  exact ⟨rfl, HB6.out⟩

end Go.Proofs.Ytobkldjomplhgaa

namespace Go.Proofs.Ytobkldjomplhgaa.treeNil
open Go.ChangeShapes Go.WideShapes Go.ChangeAt Go.RowKit
open Go.ChangeMaps (open_string shut_string)
set_option linter.unusedVariables false

theorem own : ownKnob Try.prog.godebug = none := by kernel_rfl
theorem laidOut : laidOutB Try.prog = true := by kernel_rfl

set_option maxRecDepth 100000 in
theorem lifted (os : Os) (started : os.Started) (H : Type) (enc : TypeId × Value → H) :
    ReturnsInHanded {} Try.checked os 8 .any (Rows.treeNilSpec.pre6 enc Try.prog Try.f8 Rows.treeNilRow.domain false) (Rows.treeNilSpec.post enc Try.prog Try.f8 false true false false) := by
  refine returnsInHanded_of_change_sized (C := Try.checked) own started (by kernel_rfl) Try.func8
    (ChangeSpec.witness6 (enc := enc) (C := Try.checked) false ⟨#[], #[.string ByteArray.empty], []⟩ 8 (by kernel_rfl) (by kernel_rfl) (by kernel_rfl) (by kernel_rfl)) ?_
  intro W base args ds gs before hval0 hW hcnd hsz0 _
  have hval : ∀ (j : Nat) t v, Try.f8.params[j]? = some t → args[j]? = some v → Value.okWide Try.prog W .any base t v := hval0
  have hsz : (DataW.weightsEach Try.prog (Try.f8.params.toList ++ Rows.treeNilSpec.plain.varTypes Try.prog) (ds ++ gs)).all (· ≤ reachBytes) = true := hsz0
  have hW' := hW
  obtain ⟨p, q, hA0, hV, rfl, hfz, hnd⟩ := hW
  have hA : DataW.TrodAll enc Try.prog W 0 (fun _ => true) true Try.f8.params.toList args.toList ds p := hA0
  rw [Try.params8] at hA hval hsz
  obtain ⟨v0, vs0, d0, ds0, p0, q0, hargs, rfl, rfl, h0, r0⟩ := trodAll_cons hA
  obtain ⟨rfl, rfl, rfl⟩ := trodAll_nil r0
  obtain rfl : args = #[v0] := by cases args; simp_all
  obtain ⟨rfl, rfl⟩ := trodVars_none hV
  obtain ⟨a0, rfl, rfl, rfl, w0⟩ := open_string Try.underlying9 (hval 0 9 v0 rfl rfl) h0
  have z0 : a0.data.toList.length ≤ reachBytes := sized_string hsz (j := 0) (t := 9) rfl rfl
  have y0 : a0.size ≤ 140737488351232 := z0
  clear hA0 hval0 hsz hsz0
  simp only [List.append_nil] at hW'
  refine (treeNil_walk a0 W y0).mono fun e W' ⟨he, bel⟩ => ?_
  subst he
  exact ⟨_, rfl, _, _, _, [], [], [], hW', trodAll_mk1 (shut_bool Try.underlying4 _), (trodAll_cons_mk (shut_string Try.underlying9 w0) trodAll_mk0), rfl, bel.frame _, fun h => by cases h⟩

theorem over : Rows.treeNilRow.holds Try.pinned (OpenSpec.ofChange Rows.treeNilSpec) :=
  OpenClaim.holds_of_wide 8 Try.f8 rfl rfl rfl rfl rfl rfl rfl ⟨rfl, rfl, rfl, rfl, rfl⟩ rfl rfl rfl rfl rfl (by kernel_rfl) Try.func8 (by kernel_rfl)
    (of_decide_eq_true (by kernel_rfl)) (by unfold Func.isWrapper; first | (rw [if_pos (by decide +kernel)]; kernel_rfl) | (rw [if_neg (by decide +kernel)]; exact ⟨rfl, rfl⟩))
    (fun os started H enc _ => lifted os started H enc)

theorem proved : Rows.TreeNilSaid := over
#print axioms proved

end Go.Proofs.Ytobkldjomplhgaa.treeNil
