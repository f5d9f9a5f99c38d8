/-
  CursorNil: a nil cursor, the zero one, and one in a nil tree, stand nowhere; for every key and number; no condition beyond the row's.
-/
import Derived.Test.YtkooaechcbopnaaCurHelp
import Derived.SizedLaws
import Derived.ProofKit
import Derived.Lib.SmallJoins
namespace Go.Proofs.Ytkooaechcbopnaa
open Go.RowKit Go.Sort Go.ChangeShapes Go.WideShapes Rt
set_option linter.unusedVariables false
set_option linter.unusedSimpArgs false

/-- A cursor without a tree. -/
def Dead (base : Nat) (cv : Value) (w : World) : Prop := base ≤ w.heap.size ∧ (cv = .pointer none ∨ ∃ w0 b, cv = pb b ∧ Cur w0 none b none w ∧ base ≤ b)
def DeadPost (base : Nat) (cv : Value) (w : World) (e : Ending) (w' : World) : Prop := e = .returned (.bool false) ∧ Dead base cv w' ∧ Below base w w' ∧ ∀ k, k < w.heap.size → cv ≠ pb k → w'.heap[k]? = w.heap[k]?
section
variable {base : Nat} {cv : Value} {w : World}
theorem dead_nil {w' : World} (h : Dead base (.pointer none) w) (hb : Below w.heap.size w w') : Dead base (.pointer none) w' ∧ Below base w w' ∧ ∀ k, k < w.heap.size → Value.pointer none ≠ pb k → w'.heap[k]? = w.heap[k]? := ⟨⟨Nat.le_trans h.1 hb.size, .inl rfl⟩, hb.mono h.1, fun k hk _ => hb.block k hk⟩
theorem dead_cur {w' w0 : World} {b : Nat} (h : base ≤ w.heap.size) (hbase : base ≤ b) (hm : Mv b w w') (hc : Cur w0 none b none w') : Dead base (pb b) w' ∧ Below base w w' ∧ ∀ k, k < w.heap.size → pb b ≠ pb k → w'.heap[k]? = w.heap[k]? :=
  ⟨⟨Nat.le_trans h hm.fx.size, .inr ⟨w0, b, rfl, hc, hbase⟩⟩, Mv.below' hm h hbase, fun k hk hn => hm.same k hk fun e => hn (by rw [e])⟩
theorem dead_first (h : Dead base cv w) : Calls Try.prog 12 #[cv] w (DeadPost base cv w) := by
  obtain ⟨hw, rfl | ⟨w0, b, rfl, hc, hb⟩⟩ := h
  · refine (curFirst_nil w).mono ?_
    rintro e w' ⟨rfl, hbw⟩
    exact ⟨rfl, dead_nil ⟨hw, .inl rfl⟩ hbw⟩
  · refine (curFirst_any hc).mono ?_
    rintro e w' ⟨rfl, hm, hc'⟩
    exact ⟨rfl, dead_cur hw hb hm hc'⟩
theorem dead_last (h : Dead base cv w) : Calls Try.prog 14 #[cv] w (DeadPost base cv w) := by
  obtain ⟨hw, rfl | ⟨w0, b, rfl, hc, hb⟩⟩ := h
  · refine (curLast_nil w).mono ?_
    rintro e w' ⟨rfl, hbw⟩
    exact ⟨rfl, dead_nil ⟨hw, .inl rfl⟩ hbw⟩
  · refine (curLast_any hc).mono ?_
    rintro e w' ⟨rfl, hm, hc'⟩
    exact ⟨rfl, dead_cur hw hb hm hc'⟩
theorem dead_seek (h : Dead base cv w) (key : ByteArray) : Calls Try.prog 15 #[cv, .string key] w (DeadPost base cv w) := by
  obtain ⟨hw, rfl | ⟨w0, b, rfl, hc, hb⟩⟩ := h
  · refine (curSeek_nil w key).mono ?_
    rintro e w' ⟨rfl, hbw⟩
    exact ⟨rfl, dead_nil ⟨hw, .inl rfl⟩ hbw⟩
  · refine (curSeek_any hc key).mono ?_
    rintro e w' ⟨rfl, hm, hc'⟩
    exact ⟨rfl, dead_cur hw hb hm hc'⟩
theorem dead_next (h : Dead base cv w) : Calls Try.prog 17 #[cv] w (DeadPost base cv w) := by
  obtain ⟨hw, rfl | ⟨w0, b, rfl, hc, hb⟩⟩ := h
  · refine (curNext_nil w).mono ?_
    rintro e w' ⟨rfl, hbw⟩
    exact ⟨rfl, dead_nil ⟨hw, .inl rfl⟩ hbw⟩
  · refine (curNext_any hc).mono ?_
    rintro e w' ⟨rfl, hm, hc'⟩
    exact ⟨rfl, dead_cur hw hb hm hc'⟩
theorem dead_prev (h : Dead base cv w) : Calls Try.prog 19 #[cv] w (DeadPost base cv w) := by
  obtain ⟨hw, rfl | ⟨w0, b, rfl, hc, hb⟩⟩ := h
  · refine (curPrev_nil w).mono ?_
    rintro e w' ⟨rfl, hbw⟩
    exact ⟨rfl, dead_nil ⟨hw, .inl rfl⟩ hbw⟩
  · refine (curPrev_any hc).mono ?_
    rintro e w' ⟨rfl, hm, hc'⟩
    exact ⟨rfl, dead_cur hw hb hm hc'⟩
theorem dead_entry (h : Dead base cv w) : Calls Try.prog 20 #[cv] w fun e w' => e = .returned (.tuple #[.agg #[.string ⟨#[]⟩, .string ⟨#[]⟩], .bool false]) ∧ Dead base cv w' ∧ Below base w w' := by
  obtain ⟨hw, rfl | ⟨w0, b, rfl, hc, hb⟩⟩ := h
  · refine (curEntry_nil w).mono ?_
    rintro e w' ⟨rfl, hbw⟩
    exact ⟨rfl, (dead_nil ⟨hw, .inl rfl⟩ hbw).1, hbw.mono hw⟩
  · refine (curEntry_any hc).mono ?_
    rintro e w' ⟨rfl, hbw⟩
    exact ⟨rfl, ⟨Nat.le_trans hw hbw.size, .inr ⟨w0, b, rfl, hc.below hbw, hb⟩⟩, hbw.mono hw⟩
theorem Dead.below {w' : World} (h : Dead base cv w) (hb : Below w.heap.size w w') : Dead base cv w' := by
  obtain ⟨hw, rfl | ⟨w0, b, rfl, hc, hbb⟩⟩ := h
  · exact ⟨Nat.le_trans hw hb.size, .inl rfl⟩
  · exact ⟨Nat.le_trans hw hb.size, .inr ⟨w0, b, rfl, hc.below hb, hbb⟩⟩
theorem Dead.lt (h : Dead base cv w) : cv ≠ pb w.heap.size := fun e => by
  obtain ⟨_, rfl | ⟨w0, b, rfl, hc, _⟩⟩ := h
  · cases e
  · have := hc.lt
    cases e
    omega
theorem Dead.new {w0 : World} (h : base ≤ w0.heap.size) : Dead base (pb w0.heap.size) (w0.alloc (.cells #[.pointer none, .string ⟨#[]⟩] 53)) :=
  ⟨Nat.le_trans h (by simp), .inr ⟨w0, w0.heap.size, rfl, Cur.new (T := none) (TreeIs.none w0) (Below.refl _ _), h⟩⟩
end

set_option maxRecDepth 100000 in
set_option maxHeartbeats 8000000 in
theorem cursorNil_walk (key : ByteArray) (y0 : Int) (w : World) (hk : key.size ≤ 140737488351232) (hy : (Lit.int .u8 y0).wf = true) :
    Calls Try.prog 6 #[.string key, .int .u8 y0] w fun e w' => e = .returned (.bool true) ∧ Below w.heap.size w w' := by
  obtain ⟨y, hy2, rfl⟩ := byte_of hy
  clear hy
  obtain ⟨n, hn⟩ : ∃ n, n = y % 3 := ⟨_, rfl⟩
  have hn3 : n = 0 ∨ n = 1 ∨ n = 2 := by omega
  have hyt : (y : Int).tmod 3 = (n : Int) := by rw [Int.tmod_eq_emod_of_nonneg (by omega)]; omega
  clear hn
  go_enter Try.func6, Try.ntmps6
  go_wp2_with fail
  refine (cuAwake_any w).mono ?_
  rintro e w1 ⟨rfl, hb1⟩
  have HB1 := Lib.hid hb1
  clear hb1
  rcases hn3 with rfl | rfl | rfl
  · go_wp2_with fail
    obtain ⟨cv, hcv⟩ : ∃ cv, cv = Value.pointer none := ⟨_, rfl⟩
    have HD : Hid (Dead w.heap.size cv (w1)) := Lib.hid (by rw [hcv]; exact ⟨HB1.out.size, .inl rfl⟩)
    have HB : Hid (Below w.heap.size w (w1)) := Lib.hid (HB1.out)
    rw [← hcv]
    obtain ⟨w2, hw2⟩ : ∃ w2, w1 = w2 := ⟨_, rfl⟩
    rw [hw2] at HD HB ⊢
    clear hcv hw2 HB1
    refine (dead_entry HD.out).mono ?_
    rintro e w3 ⟨rfl, hd3, hb3⟩
    have hz := heap_alloc_new w3 (.cells #[.string ⟨#[]⟩, .string ⟨#[]⟩] 39)
    have ha : Below w3.heap.size w3 (w3.alloc (.cells #[.string ⟨#[]⟩, .string ⟨#[]⟩] 39)) := (Below.refl _ _).alloc (Nat.le_refl _) _
    obtain ⟨w4, hw4⟩ : ∃ w4, w3.alloc (.cells #[.string ⟨#[]⟩, .string ⟨#[]⟩] 39) = w4 := ⟨_, rfl⟩
    rw [hw4] at ha hz
    have HD4 := Lib.hid (hd3.below ha)
    have HB4 := Lib.hid ((HB.out.trans hb3).trans (ha.mono hd3.1))
    have HX4 := Lib.hid hz
    have HN : Hid (cv ≠ pb w3.heap.size) := Lib.hid hd3.lt
    have HW4 := Lib.hid hw4
    clear hd3 hb3 ha hz hw4 HD HB
    go_wp2_with fail
    rw [HW4.out]
    refine (dead_first HD4.out).mono ?_
    rintro e w5 ⟨rfl, hd, hb, hs⟩
    have HX5 := Lib.hid ((hs _ (at_lt HX4.out) HN.out).trans HX4.out)
    have HD5 := Lib.hid hd
    have HB5 := Lib.hid (HB4.out.trans hb)
    clear hd hb hs
    go_wp2_with fail
    refine (dead_last HD5.out).mono ?_
    rintro e w6 ⟨rfl, hd, hb, hs⟩
    have HX6 := Lib.hid ((hs _ (at_lt HX5.out) HN.out).trans HX5.out)
    have HD6 := Lib.hid hd
    have HB6 := Lib.hid (HB5.out.trans hb)
    clear hd hb hs
    go_wp2_with fail
    refine (dead_seek HD6.out key).mono ?_
    rintro e w7 ⟨rfl, hd, hb, hs⟩
    have HX7 := Lib.hid ((hs _ (at_lt HX6.out) HN.out).trans HX6.out)
    have HD7 := Lib.hid hd
    have HB7 := Lib.hid (HB6.out.trans hb)
    clear hd hb hs
    go_wp2_with fail
    refine (dead_next HD7.out).mono ?_
    rintro e w8 ⟨rfl, hd, hb, hs⟩
    have HX8 := Lib.hid ((hs _ (at_lt HX7.out) HN.out).trans HX7.out)
    have HD8 := Lib.hid hd
    have HB8 := Lib.hid (HB7.out.trans hb)
    clear hd hb hs
    go_wp2_with fail
    refine (dead_prev HD8.out).mono ?_
    rintro e w9 ⟨rfl, hd, hb, hs⟩
    have HX9 := Lib.hid ((hs _ (at_lt HX8.out) HN.out).trans HX8.out)
    have HD9 := Lib.hid hd
    have HB9 := Lib.hid (HB8.out.trans hb)
    clear hd hb hs
    have q0 := cell_row HX9.out 0 _ rfl
    have q1 := cell_row HX9.out 1 _ rfl
    have heq := eql_same ⟨#[]⟩ ⟨#[]⟩ w9
    go_wp2
    go_ret
    exact ⟨rfl, HB9.out⟩
  · go_wp2_with fail
    obtain ⟨cv, hcv⟩ : ∃ cv, cv = Value.pointer (some ⟨w1.heap.size, 0, none⟩) := ⟨_, rfl⟩
    have HD : Hid (Dead w.heap.size cv (w1.alloc (.cells #[.pointer none, .string ⟨#[]⟩] 53))) := Lib.hid (by rw [hcv]; exact Dead.new HB1.out.size)
    have HB : Hid (Below w.heap.size w (w1.alloc (.cells #[.pointer none, .string ⟨#[]⟩] 53))) := Lib.hid (HB1.out.alloc HB1.out.size _)
    rw [← hcv]
    obtain ⟨w2, hw2⟩ : ∃ w2, w1.alloc (.cells #[.pointer none, .string ⟨#[]⟩] 53) = w2 := ⟨_, rfl⟩
    rw [hw2] at HD HB ⊢
    clear hcv hw2 HB1
    refine (dead_entry HD.out).mono ?_
    rintro e w3 ⟨rfl, hd3, hb3⟩
    have hz := heap_alloc_new w3 (.cells #[.string ⟨#[]⟩, .string ⟨#[]⟩] 39)
    have ha : Below w3.heap.size w3 (w3.alloc (.cells #[.string ⟨#[]⟩, .string ⟨#[]⟩] 39)) := (Below.refl _ _).alloc (Nat.le_refl _) _
    obtain ⟨w4, hw4⟩ : ∃ w4, w3.alloc (.cells #[.string ⟨#[]⟩, .string ⟨#[]⟩] 39) = w4 := ⟨_, rfl⟩
    rw [hw4] at ha hz
    have HD4 := Lib.hid (hd3.below ha)
    have HB4 := Lib.hid ((HB.out.trans hb3).trans (ha.mono hd3.1))
    have HX4 := Lib.hid hz
    have HN : Hid (cv ≠ pb w3.heap.size) := Lib.hid hd3.lt
    have HW4 := Lib.hid hw4
    clear hd3 hb3 ha hz hw4 HD HB
    go_wp2_with fail
    rw [HW4.out]
    refine (dead_first HD4.out).mono ?_
    rintro e w5 ⟨rfl, hd, hb, hs⟩
    have HX5 := Lib.hid ((hs _ (at_lt HX4.out) HN.out).trans HX4.out)
    have HD5 := Lib.hid hd
    have HB5 := Lib.hid (HB4.out.trans hb)
    clear hd hb hs
    go_wp2_with fail
    refine (dead_last HD5.out).mono ?_
    rintro e w6 ⟨rfl, hd, hb, hs⟩
    have HX6 := Lib.hid ((hs _ (at_lt HX5.out) HN.out).trans HX5.out)
    have HD6 := Lib.hid hd
    have HB6 := Lib.hid (HB5.out.trans hb)
    clear hd hb hs
    go_wp2_with fail
    refine (dead_seek HD6.out key).mono ?_
    rintro e w7 ⟨rfl, hd, hb, hs⟩
    have HX7 := Lib.hid ((hs _ (at_lt HX6.out) HN.out).trans HX6.out)
    have HD7 := Lib.hid hd
    have HB7 := Lib.hid (HB6.out.trans hb)
    clear hd hb hs
    go_wp2_with fail
    refine (dead_next HD7.out).mono ?_
    rintro e w8 ⟨rfl, hd, hb, hs⟩
    have HX8 := Lib.hid ((hs _ (at_lt HX7.out) HN.out).trans HX7.out)
    have HD8 := Lib.hid hd
    have HB8 := Lib.hid (HB7.out.trans hb)
    clear hd hb hs
    go_wp2_with fail
    refine (dead_prev HD8.out).mono ?_
    rintro e w9 ⟨rfl, hd, hb, hs⟩
    have HX9 := Lib.hid ((hs _ (at_lt HX8.out) HN.out).trans HX8.out)
    have HD9 := Lib.hid hd
    have HB9 := Lib.hid (HB8.out.trans hb)
    clear hd hb hs
    have q0 := cell_row HX9.out 0 _ rfl
    have q1 := cell_row HX9.out 1 _ rfl
    have heq := eql_same ⟨#[]⟩ ⟨#[]⟩ w9
    go_wp2
    go_ret
    exact ⟨rfl, HB9.out⟩
  · go_wp2_with fail
    refine (curNew_any w1 none).mono ?_
    rintro e w2 ⟨rfl, rfl⟩
    go_wp2_with fail
    obtain ⟨cv, hcv⟩ : ∃ cv, cv = pb w1.heap.size := ⟨_, rfl⟩
    have HD : Hid (Dead w.heap.size cv (w1.alloc (.cells #[.pointer none, .string ⟨#[]⟩] 53))) := Lib.hid (by rw [hcv]; exact Dead.new HB1.out.size)
    have HB : Hid (Below w.heap.size w (w1.alloc (.cells #[.pointer none, .string ⟨#[]⟩] 53))) := Lib.hid (HB1.out.alloc HB1.out.size _)
    rw [← hcv]
    obtain ⟨w2, hw2⟩ : ∃ w2, w1.alloc (.cells #[.pointer none, .string ⟨#[]⟩] 53) = w2 := ⟨_, rfl⟩
    rw [hw2] at HD HB ⊢
    clear hcv hw2 HB1
    refine (dead_entry HD.out).mono ?_
    rintro e w3 ⟨rfl, hd3, hb3⟩
    have hz := heap_alloc_new w3 (.cells #[.string ⟨#[]⟩, .string ⟨#[]⟩] 39)
    have ha : Below w3.heap.size w3 (w3.alloc (.cells #[.string ⟨#[]⟩, .string ⟨#[]⟩] 39)) := (Below.refl _ _).alloc (Nat.le_refl _) _
    obtain ⟨w4, hw4⟩ : ∃ w4, w3.alloc (.cells #[.string ⟨#[]⟩, .string ⟨#[]⟩] 39) = w4 := ⟨_, rfl⟩
    rw [hw4] at ha hz
    have HD4 := Lib.hid (hd3.below ha)
    have HB4 := Lib.hid ((HB.out.trans hb3).trans (ha.mono hd3.1))
    have HX4 := Lib.hid hz
    have HN : Hid (cv ≠ pb w3.heap.size) := Lib.hid hd3.lt
    have HW4 := Lib.hid hw4
    clear hd3 hb3 ha hz hw4 HD HB
    go_wp2_with fail
    rw [HW4.out]
    refine (dead_first HD4.out).mono ?_
    rintro e w5 ⟨rfl, hd, hb, hs⟩
    have HX5 := Lib.hid ((hs _ (at_lt HX4.out) HN.out).trans HX4.out)
    have HD5 := Lib.hid hd
    have HB5 := Lib.hid (HB4.out.trans hb)
    clear hd hb hs
    go_wp2_with fail
    refine (dead_last HD5.out).mono ?_
    rintro e w6 ⟨rfl, hd, hb, hs⟩
    have HX6 := Lib.hid ((hs _ (at_lt HX5.out) HN.out).trans HX5.out)
    have HD6 := Lib.hid hd
    have HB6 := Lib.hid (HB5.out.trans hb)
    clear hd hb hs
    go_wp2_with fail
    refine (dead_seek HD6.out key).mono ?_
    rintro e w7 ⟨rfl, hd, hb, hs⟩
    have HX7 := Lib.hid ((hs _ (at_lt HX6.out) HN.out).trans HX6.out)
    have HD7 := Lib.hid hd
    have HB7 := Lib.hid (HB6.out.trans hb)
    clear hd hb hs
    go_wp2_with fail
    refine (dead_next HD7.out).mono ?_
    rintro e w8 ⟨rfl, hd, hb, hs⟩
    have HX8 := Lib.hid ((hs _ (at_lt HX7.out) HN.out).trans HX7.out)
    have HD8 := Lib.hid hd
    have HB8 := Lib.hid (HB7.out.trans hb)
    clear hd hb hs
    go_wp2_with fail
    refine (dead_prev HD8.out).mono ?_
    rintro e w9 ⟨rfl, hd, hb, hs⟩
    have HX9 := Lib.hid ((hs _ (at_lt HX8.out) HN.out).trans HX8.out)
    have HD9 := Lib.hid hd
    have HB9 := Lib.hid (HB8.out.trans hb)
    clear hd hb hs
    have q0 := cell_row HX9.out 0 _ rfl
    have q1 := cell_row HX9.out 1 _ rfl
    have heq := eql_same ⟨#[]⟩ ⟨#[]⟩ w9
    go_wp2
    go_ret
    exact ⟨rfl, HB9.out⟩

end Go.Proofs.Ytkooaechcbopnaa


namespace Go.Proofs.Ytkooaechcbopnaa.cursorNil
open Go.ChangeShapes Go.WideShapes Go.ChangeAt Go.RowKit
open Go.ChangeMaps (open_string shut_string)
set_option linter.unusedVariables false

theorem own : ownKnob Try.prog.godebug = none := by kernel_rfl
theorem laidOut : laidOutB Try.prog = true := by kernel_rfl

set_option maxRecDepth 100000 in
theorem lifted (os : Os) (started : os.Started) (H : Type) (enc : TypeId × Value → H) :
    ReturnsInHanded {} Try.checked os 6 .any (Rows.cursorNilSpec.pre6 enc Try.prog Try.f6 Rows.cursorNilRow.domain false) (Rows.cursorNilSpec.post enc Try.prog Try.f6 false true false false) := by
  refine returnsInHanded_of_change_sized (C := Try.checked) own started (by kernel_rfl) Try.func6
    (ChangeSpec.witness6 (enc := enc) (C := Try.checked) false ⟨#[], #[.string ByteArray.empty, .int .u8 0], []⟩ 8 (by kernel_rfl) (by kernel_rfl) (by kernel_rfl) (by kernel_rfl)) ?_
  intro W base args ds gs before hval0 hW hcnd hsz0 _
  have hval : ∀ (j : Nat) t v, Try.f6.params[j]? = some t → args[j]? = some v → Value.okWide Try.prog W .any base t v := hval0
  have hsz : (DataW.weightsEach Try.prog (Try.f6.params.toList ++ Rows.cursorNilSpec.plain.varTypes Try.prog) (ds ++ gs)).all (· ≤ reachBytes) = true := hsz0
  have hW' := hW
  obtain ⟨p, q, hA0, hV, rfl, hfz, hnd⟩ := hW
  have hA : DataW.TrodAll enc Try.prog W 0 (fun _ => true) true Try.f6.params.toList args.toList ds p := hA0
  rw [Try.params6] at hA hval hsz
  obtain ⟨v0, vs0, d0, ds0, p0, q0, hargs, rfl, rfl, h0, r0⟩ := trodAll_cons hA
  obtain ⟨v1, vs1, d1, ds1, p1, q1, rfl, rfl, rfl, h1, r1⟩ := trodAll_cons r0
  obtain ⟨rfl, rfl, rfl⟩ := trodAll_nil r1
  obtain rfl : args = #[v0, v1] := by cases args; simp_all
  obtain ⟨rfl, rfl⟩ := trodVars_none hV
  obtain ⟨a0, rfl, rfl, rfl, w0⟩ := open_string Try.underlying9 (hval 0 9 v0 rfl rfl) h0
  obtain ⟨a1, rfl, rfl, rfl, w1⟩ := open_int Try.underlying5 (hval 1 5 v1 rfl rfl) h1
  have z0 : a0.data.toList.length ≤ reachBytes := sized_string hsz (j := 0) (t := 9) rfl rfl
  have y0 : a0.size ≤ 140737488351232 := z0
  clear hA0 hval0 hsz hsz0
  simp only [List.append_nil] at hW'
  refine (cursorNil_walk a0 a1 W y0 w1).mono fun e W' ⟨he, bel⟩ => ?_
  subst he
  exact ⟨_, rfl, _, _, _, [], [], [], hW', trodAll_mk1 (shut_bool Try.underlying4 _), (trodAll_cons_mk (shut_string Try.underlying9 w0) (trodAll_cons_mk (shut_int Try.underlying5 w1) trodAll_mk0)), rfl, bel.frame _, fun h => by cases h⟩

theorem over : Rows.cursorNilRow.holds Try.pinned (OpenSpec.ofChange Rows.cursorNilSpec) :=
  OpenClaim.holds_of_wide 6 Try.f6 rfl rfl rfl rfl rfl rfl rfl ⟨rfl, rfl, rfl, rfl, rfl⟩ rfl rfl rfl rfl rfl (by kernel_rfl) Try.func6 (by kernel_rfl)
    (of_decide_eq_true (by kernel_rfl)) (by unfold Func.isWrapper; first | (rw [if_pos (by decide +kernel)]; kernel_rfl) | (rw [if_neg (by decide +kernel)]; exact ⟨rfl, rfl⟩))
    (fun os started H enc _ => lifted os started H enc)

theorem proved : Rows.CursorNilSaid := over
#print axioms proved

end Go.Proofs.Ytkooaechcbopnaa.cursorNil
