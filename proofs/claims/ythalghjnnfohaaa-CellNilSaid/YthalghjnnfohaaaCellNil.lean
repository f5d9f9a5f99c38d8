/-
  CellNil: a nil memory, and the zero one, have no word; for every call, and both; no condition beyond the row's.
-/
import Derived.Test.YthalghjnnfohaaaCellHelp
namespace Go.Proofs.Ythalghjnnfohaaa
open Go.RowKit Go.Sort Go.ChangeShapes Go.WideShapes
set_option linter.unusedVariables false
set_option linter.unusedSimpArgs false

set_option maxRecDepth 100000 in
set_option maxHeartbeats 2000000 in
theorem cellNil_walk (o : COp) (z : Bool) (w : World) (ho : OkC o) :
    Calls Try.prog 6 #[copV o, .bool z] w fun e w' => e = .returned (.bool true) ∧ Below w.heap.size w w' := by
  obtain ⟨ok, oi, oo, ox⟩ := o
  unfold copV
  simp only
  clear ho
  have hb0 : Below w.heap.size w (w.alloc (.cells #[.int .i64 ok, .int .i64 oi, .int .i64 oo, .int .i64 ox] 29)) := (Below.refl _ _).alloc (Nat.le_refl _) _
  go_enter Try.func6, Try.ntmps6
  go_wp2_with fail
  refine (cellAwake_any _).mono ?_
  rintro e w1 ⟨rfl, hb1⟩
  have c0 := box_at hb1 0 (.int .i64 ok) rfl
  have c1 := box_at hb1 1 (.int .i64 oi) rfl
  have c2 := box_at hb1 2 (.int .i64 oo) rfl
  have c3 := box_at hb1 3 (.int .i64 ox) rfl
  have hs1 := box_lt hb1
  have HB := Lib.hid (bthen hb0 hb1)
  clear hb0 hb1
  cases z
  · have HN : ∀ w, Hid (NoWord w (.pointer none) oi) := fun w => Lib.hid (.inl rfl)
    go_wp2_with fail
    refine (loadI_no (HN w1).out).mono ?_
    rintro e w2 ⟨rfl, rfl⟩
    go_wp2_with fail
    refine (casI_no oo ox (HN w2).out).mono ?_
    rintro e w3 ⟨rfl, rfl⟩
    go_wp2_with fail
    refine (storeI_no ox (HN w3).out).mono ?_
    rintro e w4 ⟨rfl, rfl⟩
    go_wp2_with fail
    refine (stepsI_nil w4).mono ?_
    rintro e w5 ⟨rfl, rfl⟩
    go_wp2_with fail
    refine (changesI_nil w5).mono ?_
    rintro e w6 ⟨rfl, rfl⟩
    go_wp2
    go_ret
    exact ⟨rfl, HB.out⟩
  · obtain ⟨wa, hwa⟩ : ∃ wa, wa = w1.alloc (.cells #[.slice none 0 0, .int .i64 0, .int .i64 0] 55) := ⟨_, rfl⟩
    have hba : Below w1.heap.size w1 wa := by rw [hwa]; exact (Below.refl _ _).alloc (Nat.le_refl _) _
    have d0 : wa.cell? ⟨w1.heap.size, 0, none⟩ = some (.slice none 0 0) := by rw [hwa, World.cell?_alloc_mark]; rfl
    have d1 : wa.cell? ⟨w1.heap.size, 1, none⟩ = some (.int .i64 0) := by rw [hwa, World.cell?_alloc_mark]; rfl
    have d2 : wa.cell? ⟨w1.heap.size, 2, none⟩ = some (.int .i64 0) := by rw [hwa, World.cell?_alloc_mark]; rfl
    have HN := Lib.hid (show NoWord wa (.pointer (some ⟨w1.heap.size, 0, none⟩)) oi from .inr ⟨_, _, _, _, rfl, d0, by omega⟩)
    have HD1 := Lib.hid d1
    have HD2 := Lib.hid d2
    have HWA := Lib.hid hwa
    have HB2 := Lib.hid (bthen HB.out hba)
    have e1 := (hba.cell (p := ⟨w.heap.size, 1, none⟩) hs1).trans c1
    have e2 := (hba.cell (p := ⟨w.heap.size, 2, none⟩) hs1).trans c2
    have e3 := (hba.cell (p := ⟨w.heap.size, 3, none⟩) hs1).trans c3
    have HE1 := Lib.hid e1
    have HE2 := Lib.hid e2
    have HE3 := Lib.hid e3
    clear d0 d1 d2 hwa hba e1 e2 e3
    go_wp2_with fail
    rw [← HWA.out]
    have e1 := HE1.out
    have e2 := HE2.out
    have e3 := HE3.out
    refine (loadI_no HN.out).mono ?_
    rintro e w2 ⟨rfl, rfl⟩
    go_wp2_with fail
    refine (casI_no oo ox HN.out).mono ?_
    rintro e w3 ⟨rfl, rfl⟩
    go_wp2_with fail
    refine (storeI_no ox HN.out).mono ?_
    rintro e w4 ⟨rfl, rfl⟩
    go_wp2_with fail
    refine (stepsI_any HD1.out).mono ?_
    rintro e w5 ⟨rfl, rfl⟩
    go_wp2_with fail
    refine (changesI_any HD2.out).mono ?_
    rintro e w6 ⟨rfl, rfl⟩
    go_wp2
    go_ret
    exact ⟨rfl, HB2.out⟩

end Go.Proofs.Ythalghjnnfohaaa

namespace Go.Proofs.Ythalghjnnfohaaa.cellNil
open Go.ChangeShapes Go.WideShapes Go.ChangeAt Go.RowKit
open Go.ChangeMaps (open_string shut_string)
set_option linter.unusedVariables false

theorem own : ownKnob Try.prog.godebug = none := by kernel_rfl
theorem laidOut : laidOutB Try.prog = true := by kernel_rfl

set_option maxRecDepth 100000 in
theorem lifted (os : Os) (started : os.Started) (H : Type) (enc : TypeId × Value → H) :
    ReturnsInHanded {} Try.checked os 6 .any (Rows.cellNilSpec.pre6 enc Try.prog Try.f6 Rows.cellNilRow.domain false) (Rows.cellNilSpec.post enc Try.prog Try.f6 false true false false) := by
  refine returnsInHanded_of_change_sized (C := Try.checked) own started (by kernel_rfl) Try.func6
    (ChangeSpec.witness6 (enc := enc) (C := Try.checked) false ⟨#[], #[.agg #[.int .i64 0, .int .i64 0, .int .i64 0, .int .i64 0], .bool false], []⟩ 8 (by kernel_rfl) (by kernel_rfl) (by kernel_rfl) (by kernel_rfl)) ?_
  intro W base args ds gs before hval0 hW hcnd hsz0 _
  have hval : ∀ (j : Nat) t v, Try.f6.params[j]? = some t → args[j]? = some v → Value.okWide Try.prog W .any base t v := hval0
  have hsz : (DataW.weightsEach Try.prog (Try.f6.params.toList ++ Rows.cellNilSpec.plain.varTypes Try.prog) (ds ++ gs)).all (· ≤ reachBytes) = true := hsz0
  have hW' := hW
  obtain ⟨p, q, hA0, hV, rfl, hfz, hnd⟩ := hW
  have hA : DataW.TrodAll enc Try.prog W 0 (fun _ => true) true Try.f6.params.toList args.toList ds p := hA0
  rw [Try.params6] at hA hval hsz
  obtain ⟨v0, vs0, d0, ds0, p0, q0, hargs, rfl, rfl, h0, r0⟩ := trodAll_cons hA
  obtain ⟨v1, vs1, d1, ds1, p1, q1, rfl, rfl, rfl, h1, r1⟩ := trodAll_cons r0
  obtain ⟨rfl, rfl, rfl⟩ := trodAll_nil r1
  obtain rfl : args = #[v0, v1] := by cases args; simp_all
  obtain ⟨rfl, rfl⟩ := trodVars_none hV
  have k0 := h0
  have lt0 : ∀ x ∈ p0, x.block < W.heap.size := by obtain ⟨m, hm⟩ := k0; exact DataW.trod_lt m _ _ _ hm
  obtain ⟨a0, rfl, w0⟩ := open_cop (hval 0 29 v0 rfl rfl) h0 (fun m hm => of_decide_eq_true (List.all_eq_true.1 hsz _ (DataW.weights_mem_each (j := 0) (t := 29) rfl rfl m hm)))
  obtain ⟨a1, rfl, rfl, rfl⟩ := open_bool Try.underlying4 (hval 1 4 v1 rfl rfl) h1
  clear hA0 hval0 hsz hsz0
  refine (cellNil_walk a0 a1 W w0).mono fun e W' ⟨he, bel⟩ => ?_
  subst he
  exact ⟨_, rfl, _, _, _, [], _, [], hW', trodAll_mk1 (shut_bool Try.underlying4 _), (trodAll_cons_mk (Below.trod laidOut (by kernel_rfl) (of_decide_eq_true (by kernel_rfl)) k0 bel lt0) (trodAll_cons_mk (shut_bool Try.underlying4 _) trodAll_mk0)), rfl, bel.frame _, fun h => by cases h⟩

theorem over : Rows.cellNilRow.holds Try.pinned (OpenSpec.ofChange Rows.cellNilSpec) :=
  OpenClaim.holds_of_wide 6 Try.f6 rfl rfl rfl rfl rfl rfl rfl ⟨rfl, rfl, rfl, rfl, rfl⟩ rfl rfl rfl rfl rfl (by kernel_rfl) Try.func6 (by kernel_rfl)
    (of_decide_eq_true (by kernel_rfl)) (by unfold Func.isWrapper; first | (rw [if_pos (by decide +kernel)]; kernel_rfl) | (rw [if_neg (by decide +kernel)]; exact ⟨rfl, rfl⟩))
    (fun os started H enc _ => lifted os started H enc)

theorem proved : Rows.CellNilSaid := over
#print axioms proved

end Go.Proofs.Ythalghjnnfohaaa.cellNil
