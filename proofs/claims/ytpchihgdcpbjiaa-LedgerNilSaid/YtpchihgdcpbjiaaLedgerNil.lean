/-
  LedgerNil: a nil ledger, and the zero one, have no page; for every call; no condition beyond the row's.
-/
import Derived.Test.YtpchihgdcpbjiaaLedHelp
namespace Go.Proofs.Ytpchihgdcpbjiaa
open Go.RowKit Go.Sort Go.ChangeShapes Go.WideShapes
set_option linter.unusedVariables false
set_option linter.unusedSimpArgs false

/-- The box of the call that came in. -/
def BoxO (w : World) (g : Nat) (o : LOp) : Prop := w.heap[g]? = some (.cells #[.int .i64 o.kind, .slice o.A o.n o.c, .slice o.B o.m o.d] 31 (0, 0))
theorem BoxO.below {w w' : World} {g : Nat} {o : LOp} (h : BoxO w g o) (hb : Below w.heap.size w w') : BoxO w' g o := (hb.block g (lt_of_block h)).trans h
theorem BoxO.keep {w w' : World} {g : Nat} {o : LOp} {F : Nat → Prop} (h : BoxO w g o) (hk : Keep F w w') (hn : ¬ F g) : BoxO w' g o := (hk.block g (lt_of_block h) hn).trans h
theorem memB_zero (l : List Int) : memB 0 l = noMark := by
  funext i
  simp [memB, noMark]
theorem box_zero : Box zled 0 noMark noMark noMark := ⟨zled_size, by simp [zled], fun i hi => (zled_at hi).1, fun i hi => (zled_at hi).2.1, fun i hi => (zled_at hi).2.2⟩

set_option maxRecDepth 100000 in
set_option maxHeartbeats 4000000 in
theorem ledgerNil_walk (o : LOp) (z : Bool) (w : World) (ho : OkL w o) :
    Calls Try.prog 6 #[lopV o, .bool z] w fun e w' => e = .returned (.bool true) ∧ Below w.heap.size w w' := by
  obtain ⟨hk, hA, hB⟩ := ho
  have HOK := Lib.hid (show OkL w o from ⟨hk, hA, hB⟩)
  have hn1 := hA.bd
  have hn2 := hB.bd
  clear hk hA hB
  obtain ⟨ok, oA, on, oc, ol, oB, om, od, orr⟩ := o
  simp only at hn1 hn2
  unfold lopV
  go_enter Try.func6, Try.ntmps6
  go_wp2_with fail
  refine (ldAwake_any _).mono ?_
  rintro e w1 ⟨rfl, hb1⟩
  have hbw : Below w.heap.size w w1 := ((Below.refl _ _).alloc (Nat.le_refl _) _).trans (hb1.mono (by simp))
  have hbx : BoxO w1 w.heap.size ⟨ok, oA, on, oc, ol, oB, om, od, orr⟩ := BoxO.below (heap_alloc_new w _) hb1
  clear hb1
  have HBW := Lib.hid hbw
  have HBX := Lib.hid hbx
  have c0 := cell_at hbx 0 _ rfl
  have c1 := cell_at hbx 1 _ rfl
  have c2 := cell_at hbx 2 _ rfl
  have hlw : w.heap.size < w1.heap.size := lt_of_block hbx
  clear hbw hbx
  go_wp2_with fail
  refine (ldFew_any _ _ _ [⟨ok, oA, on, oc, ol, oB, om, od, orr⟩] _ (argL_one (HOK.out.below HBW.out))).mono ?_
  rintro e w2 ⟨hb2, f, rfl, _⟩
  have hb12 : Below w1.heap.size w1 w2 := ((Below.refl _ _).alloc (Nat.le_refl _) _).trans (hb2.mono (by simp))
  have HB2 := Lib.hid (bthen HBW.out hb12)
  have HX2 := Lib.hid (HBX.out.below hb12)
  clear hb2 hb12 HBW HBX c0 c1 c2 hlw
  cases f
  · go_wp2_with fail
    refine (ldAwake_any _).mono ?_
    rintro e w3 ⟨rfl, hb3⟩
    go_wp2
    go_ret
    exact ⟨rfl, bthen HB2.out hb3⟩
  have c0 := cell_at HX2.out 0 _ rfl
  have c1 := cell_at HX2.out 1 _ rfl
  have c2 := cell_at HX2.out 2 _ rfl
  have HO2 := Lib.hid (HOK.out.below HB2.out)
  cases z
  · go_wp2_with fail
    refine (ldCommit_nil _ _).mono ?_
    rintro e w3 ⟨rfl, rfl⟩
    go_wp2_with fail
    refine (ldReset_nil _ _ _).mono ?_
    rintro e w3 ⟨rfl, rfl⟩
    go_wp2_with fail
    refine (ldAbort_nil _).mono ?_
    rintro e w3 ⟨rfl, rfl⟩
    go_wp2_with fail
    refine (ldTake_nil _).mono ?_
    rintro e w3 ⟨rfl, rfl⟩
    go_wp2_with fail
    refine (ldCnt_nil _).mono ?_
    rintro e w3 ⟨rfl, rfl⟩
    go_wp2_with fail
    refine (ldIn_nil _ _).mono ?_
    rintro e w3 ⟨rfl, rfl⟩
    go_wp2_with fail
    refine (ldIn_nil _ _).mono ?_
    rintro e w3 ⟨rfl, rfl⟩
    go_wp2
    go_ret
    exact ⟨rfl, HB2.out⟩
  · have hz := (zero_of_info zinfo).1
    have hbz := Lib.hid box_zero
    generalize zled = Z at hz hbz
    obtain ⟨w3, hw3⟩ : ∃ w3, w3 = w2.alloc (.cells Z 50) := ⟨_, rfl⟩
    have hb3 : Below w2.heap.size w2 w3 := by rw [hw3]; exact (Below.refl _ _).alloc (Nat.le_refl _) _
    have HD3 := Lib.hid (show Led w3 w2.heap.size 0 noMark noMark noMark by rw [hw3]; exact led_new hbz.out (by omega))
    have HB3 := Lib.hid (bthen HB2.out hb3)
    have HX3 := Lib.hid (HX2.out.below hb3)
    have HO3 := Lib.hid (HO2.out.below hb3)
    have HG := Lib.hid (show (∀ i, i = w2.heap.size → w.heap.size ≤ i) ∧ ¬ w.heap.size = w2.heap.size from ⟨by rintro i rfl; exact HB2.out.size, by have := lt_of_block HX2.out; omega⟩)
    have HW3 := Lib.hid hw3
    have d1 := cell_at HX3.out 1 _ rfl
    rw [hw3] at d1
    clear hw3 hb3 hbz c0 c1 c2
    go_wp2_with fail
    rw [← HW3.out]
    refine (ldCommit_any HD3.out HO3.out.fst).mono ?_
    rw [memB_zero]
    rintro e w4 ⟨rfl, hd4, hk4⟩
    have HD4 := Lib.hid hd4
    have HB4 := Lib.hid (HB3.out.trans (hk4.below HB3.out.size HG.out.1))
    have HX4 := Lib.hid (HX3.out.keep hk4 HG.out.2)
    have HO4 := Lib.hid (HOK.out.below HB4.out)
    clear hd4 hk4 d1 HD3 HB3 HX3 HO3 HX2 HB2 HO2
    have c0 := cell_at HX4.out 0 _ rfl
    have c1 := cell_at HX4.out 1 _ rfl
    have c2 := cell_at HX4.out 2 _ rfl
    go_wp2_with fail
    refine (ldReset_any HD4.out HO4.out.fst HO4.out.snd).mono ?_
    rw [memB_zero, memB_zero]
    rintro e w5 ⟨rfl, hd5, hk5⟩
    have HD5 := Lib.hid hd5
    have HB5 := Lib.hid (HB4.out.trans (hk5.below HB4.out.size HG.out.1))
    have HX5 := Lib.hid (HX4.out.keep hk5 HG.out.2)
    clear hd5 hk5 c0 c1 c2 HD4 HB4 HX4 HO4
    go_wp2_with fail
    refine (ldAbort_any HD5.out).mono ?_
    rintro e w6 ⟨rfl, hd6, hk6⟩
    have HD6 := Lib.hid hd6
    have HB6 := Lib.hid (HB5.out.trans (hk6.below HB5.out.size HG.out.1))
    have HX6 := Lib.hid (HX5.out.keep hk6 HG.out.2)
    clear hd6 hk6 HD5 HB5 HX5
    have c0 := cell_at HX6.out 0 _ rfl
    go_wp2_with fail
    refine (ldTake_any HD6.out).mono ?_
    unfold TakePost
    rw [show least (fr noMark noMark noMark) 0 = none from rfl]
    rintro e w7 ⟨rfl, rfl⟩
    go_wp2_with fail
    refine (ldCnt_any HD6.out).mono ?_
    rw [show cnt (fr noMark noMark noMark) 0 = 0 from rfl]
    rintro e w7 ⟨rfl, rfl⟩
    go_wp2_with fail
    refine (ldIn_any HD6.out _).mono ?_
    rw [show inUse 0 noMark noMark noMark 0 = false from rfl]
    rintro e w7 ⟨rfl, rfl⟩
    go_wp2_with fail
    refine (ldIn_any HD6.out _).mono ?_
    rw [show inUse 0 noMark noMark noMark ok = false by simp [inUse]; omega]
    rintro e w7 ⟨rfl, rfl⟩
    go_wp2
    go_ret
    exact ⟨rfl, HB6.out⟩

end Go.Proofs.Ytpchihgdcpbjiaa

namespace Go.Proofs.Ytpchihgdcpbjiaa.ledgerNil
open Go.ChangeShapes Go.WideShapes Go.ChangeAt Go.RowKit
open Go.ChangeMaps (open_string shut_string)
set_option linter.unusedVariables false

theorem own : ownKnob Try.prog.godebug = none := by kernel_rfl
theorem laidOut : laidOutB Try.prog = true := by kernel_rfl

set_option maxRecDepth 100000 in
theorem lifted (os : Os) (started : os.Started) (H : Type) (enc : TypeId × Value → H) :
    ReturnsInHanded {} Try.checked os 6 .any (Rows.ledgerNilSpec.pre6 enc Try.prog Try.f6 Rows.ledgerNilRow.domain false) (Rows.ledgerNilSpec.post enc Try.prog Try.f6 false true false false) := by
  refine returnsInHanded_of_change_sized (C := Try.checked) own started (by kernel_rfl) Try.func6
    (ChangeSpec.witness6 (enc := enc) (C := Try.checked) false ⟨#[], #[.agg #[.int .i64 0, .slice none 0 0, .slice none 0 0], .bool false], []⟩ 8 (by kernel_rfl) (by kernel_rfl) (by kernel_rfl) (by kernel_rfl)) ?_
  intro W base args ds gs before hval0 hW hcnd hsz0 _
  have hval : ∀ (j : Nat) t v, Try.f6.params[j]? = some t → args[j]? = some v → Value.okWide Try.prog W .any base t v := hval0
  have hsz : (DataW.weightsEach Try.prog (Try.f6.params.toList ++ Rows.ledgerNilSpec.plain.varTypes Try.prog) (ds ++ gs)).all (· ≤ reachBytes) = true := hsz0
  have hW' := hW
  obtain ⟨p, q, hA0, hV, rfl, hfz, hnd⟩ := hW
  have hA : DataW.TrodAll enc Try.prog W 0 (fun _ => true) true Try.f6.params.toList args.toList ds p := hA0
  rw [Try.params6] at hA hval hsz
  obtain ⟨v0, vs0, d0, ds0, p0, q0, hargs, rfl, rfl, h0, r0⟩ := trodAll_cons hA
  obtain ⟨v1, vs1, d1, ds1, p1, q1, rfl, rfl, rfl, h1, r1⟩ := trodAll_cons r0
  obtain ⟨rfl, rfl, rfl⟩ := trodAll_nil r1
  obtain rfl : args = #[v0, v1] := by cases args; simp_all
  obtain ⟨rfl, rfl⟩ := trodVars_none hV
  have k0 := h0
  have lt0 : ∀ x ∈ p0, x.block < W.heap.size := by obtain ⟨m, hm⟩ := k0; exact DataW.trod_lt m _ _ _ hm
  obtain ⟨a0, rfl, w0⟩ := open_lop (hval 0 31 v0 rfl rfl) h0 (fun m hm => of_decide_eq_true (List.all_eq_true.1 hsz _ (DataW.weights_mem_each (j := 0) (t := 31) rfl rfl m hm)))
  obtain ⟨a1, rfl, rfl, rfl⟩ := open_bool Try.underlying4 (hval 1 4 v1 rfl rfl) h1
  clear hA0 hval0 hsz hsz0
  refine (ledgerNil_walk a0 a1 W w0).mono fun e W' ⟨he, bel⟩ => ?_
  subst he
  exact ⟨_, rfl, _, _, _, [], _, [], hW', trodAll_mk1 (shut_bool Try.underlying4 _), (trodAll_cons_mk (Below.trod laidOut (by kernel_rfl) (of_decide_eq_true (by kernel_rfl)) k0 bel lt0) (trodAll_cons_mk (shut_bool Try.underlying4 _) trodAll_mk0)), rfl, bel.frame _, fun h => by cases h⟩

theorem over : Rows.ledgerNilRow.holds Try.pinned (OpenSpec.ofChange Rows.ledgerNilSpec) :=
  OpenClaim.holds_of_wide 6 Try.f6 rfl rfl rfl rfl rfl rfl rfl ⟨rfl, rfl, rfl, rfl, rfl⟩ rfl rfl rfl rfl rfl (by kernel_rfl) Try.func6 (by kernel_rfl)
    (of_decide_eq_true (by kernel_rfl)) (by unfold Func.isWrapper; first | (rw [if_pos (by decide +kernel)]; kernel_rfl) | (rw [if_neg (by decide +kernel)]; exact ⟨rfl, rfl⟩))
    (fun os started H enc _ => lifted os started H enc)

theorem proved : Rows.LedgerNilSaid := over
#print axioms proved

end Go.Proofs.Ytpchihgdcpbjiaa.ledgerNil
