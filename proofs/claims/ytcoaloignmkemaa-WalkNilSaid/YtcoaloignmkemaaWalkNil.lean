/-
  WalkNil: of a nil tree nothing is yielded; for every two keys and every number; no condition beyond the row's.
-/
import Derived.Test.YtcoaloignmkemaaWalkHelp
namespace Go.Proofs.Ytcoaloignmkemaa
open Go.RowKit Go.Sort Go.Shelf Go.ChangeShapes Go.WideShapes Rt
set_option linter.unusedVariables false
set_option linter.unusedSimpArgs false
attribute [local go_sem] Oper.semAt_some wide_fn wide_depth

/-- A loop over what yields nothing. -/
theorem wpIn_range_none {α : Type} {P : Program} {ps : Array Tmp} {assign body : Code} {w : World} {encs : α → Array Value} {g : Operand} {Q : Exit → Act → World → Prop} {a : Act} {gf : Nat} {lb : Array Value} {K : BS} (hg : a.eval g = .func (.func gf) #[] lb) (eg : ∀ args w, (callFunc gf args).run P w = .ok (.enter gf args) w)
    (hps : ∀ x, (encs x).size = ps.size) (hseq : ∀ W, Below w.heap.size w W → Gives P gf lb encs ([] : List α) K W) (hK : ∀ k, K k → k < w.heap.size)
    (hdone : ∀ D W', Below w.heap.size w W' → w.heap.size ≤ D → W'.heap[D]? = some (.deferred (some [])) → Q .normal { a with defers := mk D :: a.defers } W') :
    (Code.rangeFunc g ps assign body).wpIn Fence.wide 0 P Q a w :=
  wpIn_range hg eg hps hseq (T := fun _ => False) (fun k hk => hk.elim) hK (fun _ T W => ∀ k, ¬ T k) (fun _ _ _ _ => False) (fun s T A B h q => h) (fun c s T A B h q => h) (fun k h => h)
    (fun l pre x T1 W hx => by have := hx.length_le; simp at this) (fun D T' W' _ hst hD _ hh => hdone D W' (hst.below (Nat.le_refl _) fun k hk => hk.elim) hD hh) (fun _ _ _ _ _ _ _ h => h.elim)
theorem from_none {W w0 : World} {bn bk : Nat} {key : ByteArray} (hb : Below w0.heap.size w0 W) (hbn : W.cell? ⟨bn, 0, none⟩ = some (.pointer none)) (hbk : W.cell? ⟨bk, 0, none⟩ = some (.string key)) :
    Gives Try.prog 27 #[pb bn, pb bk] encE [] (Kf w0.heap.size bn bk) W := from_gives (T0 := none) (TreeIs.none w0) key hb hbn hbk
theorem backFrom_none {W w0 : World} {bn bk : Nat} {key : ByteArray} (hb : Below w0.heap.size w0 W) (hbn : W.cell? ⟨bn, 0, none⟩ = some (.pointer none)) (hbk : W.cell? ⟨bk, 0, none⟩ = some (.string key)) :
    Gives Try.prog 30 #[pb bn, pb bk] encE [] (Kf w0.heap.size bn bk) W := backFrom_gives (T0 := none) (TreeIs.none w0) key hb hbn hbk
/-- What was laid ahead of a loop, and the marks so far. -/
structure Held (w : World) (Ds : List Nat) (W : World) : Prop where
  box : Boxed W w.heap.size 4 (.bool false)
  below : Below w.heap.size w W
  nd : Ds.Nodup
  ds : ∀ D ∈ Ds, w.heap.size < D ∧ W.heap[D]? = some (.deferred (some []))
theorem Held.next {w W W' : World} {Ds : List Nat} (h : Held w Ds W) (hb : Below W.heap.size W W') : Held w Ds W' :=
  ⟨(hb.block _ h.box.lt).trans h.box, bthen h.below hb, h.nd, fun D hD => ⟨(h.ds D hD).1, (hb.block _ (Array.getElem?_eq_some_iff.1 (h.ds D hD).2).1).trans (h.ds D hD).2⟩⟩
theorem Held.mark {w W0 W' : World} {Ds : List Nat} (h : Held w Ds W0) (hb : Below W0.heap.size W0 W') {D : Nat} (hD : W0.heap.size ≤ D) (hh : W'.heap[D]? = some (.deferred (some []))) : Held w (D :: Ds) W' := by
  have h' := h.next hb
  refine ⟨h'.box, h'.below, List.nodup_cons.2 ⟨fun hm => ?_, h.nd⟩, fun E hE => ?_⟩
  · have := (Array.getElem?_eq_some_iff.1 (h.ds D hm).2).1
    omega
  · rcases List.mem_cons.1 hE with rfl | hE
    · exact ⟨by have := h.box.lt; omega, hh⟩
    · exact h'.ds E hE

set_option maxRecDepth 100000 in
set_option maxHeartbeats 8000000 in
theorem walkNil_walk (a b : ByteArray) (most : Int) (w : World) (hka : a.size ≤ 140737488351232) (hkb : b.size ≤ 140737488351232) (hm : (Lit.int .i64 most).wf = true) :
    Calls Try.prog 7 #[.string a, .string b, .int .i64 most] w fun r w' => r = .returned (.bool true) ∧ Below w.heap.size w w' := by
  clear hka hkb hm
  refine callsIn_wide (n := 0).1 (callsIn_of_wp_marks Try.func7 rfl trivial ?_ rfl)
  simp only [Try.ntmps7, List.size_toArray, List.length_cons, List.length_nil, Nat.reduceAdd, Nat.reduceSub, Array.replicate_succ, Array.replicate_zero, List.push_toArray, List.append_toArray, List.nil_append, List.cons_append]
  have h0 : Held w [] (w.alloc (.cells #[.bool false] 4)) := ⟨Boxed.new w _ _, (Below.refl _ _).alloc (Nat.le_refl _) _, List.nodup_nil, fun D hD => by cases hD⟩
  gi_wp2_with fail
  refine CallsIn.mono (callsIn_wide.2 (wkAwake_any _)) ?_
  rintro r w1 ⟨rfl, hb1⟩
  have H1 := Lib.hid (h0.next hb1)
  clear h0 hb1
  gi_wp2_with fail
  refine CallsIn.mono (callsIn_wide.2 (all_made w1 none)) ?_
  rintro r w2 ⟨rfl, rfl⟩
  have hb2 := boxed2_below w1 (.pointer none) ByteArray.empty
  have hs2 := boxed2_size w1 (.pointer none) ByteArray.empty
  have hBn := boxed2_n w1 (.pointer none) ByteArray.empty
  have hBk := boxed2_k w1 (.pointer none) ByteArray.empty
  obtain ⟨w2, hw2⟩ : ∃ w2, boxed2 w1 (.pointer none) ByteArray.empty = w2 := ⟨_, rfl⟩
  rw [hw2] at hb2 hs2 hBn hBk ⊢
  have H2 := Lib.hid (H1.out.next hb2)
  have HS2 := Lib.hid hs2
  have HBn := Lib.hid hBn
  have HBk := Lib.hid hBk
  clear hw2 hb2 hs2 hBn hBk H1
  gi_wp2_with fail
  refine wpIn_range_none (gf := 27) (lb := #[pb w1.heap.size, pb (w1.heap.size + 1)]) rfl (enters_of Try.func27 (by kernel_rfl) rfl) (encs := encE) (fun _ => rfl)
    (fun W hb => from_none (w0 := w) (key := ByteArray.empty) (H2.out.below.trans (hb.mono H2.out.below.size)) (cell_row ((hb.block _ (by have := HS2.out; omega)).trans HBn.out) 0 _ rfl) (cell_row ((hb.block _ (by have := HS2.out; omega)).trans HBk.out) 0 _ rfl))
    (fun k hk => by have := HS2.out; have := H2.out.below.size; rcases hk with hk | rfl | rfl <;> omega) ?_
  intro D1 W1 hb3 hD1 hh1
  have H3 := Lib.hid (H2.out.mark hb3 hD1 hh1)
  clear hb3 hD1 hh1 H2 HS2 HBn HBk
  gi_wp2_with fail
  refine CallsIn.mono (callsIn_wide.2 (from_made W1 none a)) ?_
  rintro r v2 ⟨rfl, rfl⟩
  have hb2 := boxed2_below W1 (.pointer none) a
  have hs2 := boxed2_size W1 (.pointer none) a
  have hBn := boxed2_n W1 (.pointer none) a
  have hBk := boxed2_k W1 (.pointer none) a
  obtain ⟨v2, hw2⟩ : ∃ v2, boxed2 W1 (.pointer none) a = v2 := ⟨_, rfl⟩
  rw [hw2] at hb2 hs2 hBn hBk ⊢
  have HX := Lib.hid (H3.out.next hb2)
  have HS2 := Lib.hid hs2
  have HBn := Lib.hid hBn
  have HBk := Lib.hid hBk
  clear hw2 hb2 hs2 hBn hBk H3
  gi_wp2_with fail
  refine wpIn_range_none (gf := 27) (lb := #[pb W1.heap.size, pb (W1.heap.size + 1)]) rfl (enters_of Try.func27 (by kernel_rfl) rfl) (encs := encE) (fun _ => rfl)
    (fun W hb => from_none (w0 := w) (key := a) (HX.out.below.trans (hb.mono HX.out.below.size)) (cell_row ((hb.block _ (by have := HS2.out; omega)).trans HBn.out) 0 _ rfl) (cell_row ((hb.block _ (by have := HS2.out; omega)).trans HBk.out) 0 _ rfl))
    (fun k hk => by have := HS2.out; have := HX.out.below.size; rcases hk with hk | rfl | rfl <;> omega) ?_
  intro D2 x2 hb3 hD1 hh1
  have H2m := Lib.hid (HX.out.mark hb3 hD1 hh1)
  clear hb3 hD1 hh1 HX HS2 HBn HBk
  gi_wp2_with fail
  refine CallsIn.mono (callsIn_wide.2 (back_made (T := none) (TreeIs.none x2))) ?_
  rintro r v3 ⟨q, rfl, rfl⟩
  have hb2 := boxed2_below (x2.drewN q) (.pointer none) ByteArray.empty
  have hs2 := boxed2_size (x2.drewN q) (.pointer none) ByteArray.empty
  have hBn := boxed2_n (x2.drewN q) (.pointer none) ByteArray.empty
  have hBk := boxed2_k (x2.drewN q) (.pointer none) ByteArray.empty
  obtain ⟨v3, hw2⟩ : ∃ v3, boxed2 (x2.drewN q) (.pointer none) ByteArray.empty = v3 := ⟨_, rfl⟩
  rw [show boxed2 (x2.drewN q) (tb none) (hiOf none) = v3 from hw2]
  rw [hw2] at hb2 hs2 hBn hBk
  have hb2 := bthen (below_drewN (Below.refl _ x2) q) hb2
  rw [show (x2.drewN q).heap.size = x2.heap.size from rfl] at hs2 hBn hBk
  have HX := Lib.hid (H2m.out.next hb2)
  have HS2 := Lib.hid hs2
  have HBn := Lib.hid hBn
  have HBk := Lib.hid hBk
  clear hw2 hb2 hs2 hBn hBk H2m
  gi_wp2_with fail
  refine wpIn_range_none (gf := 30) (lb := #[pb x2.heap.size, pb (x2.heap.size + 1)]) rfl (enters_of Try.func30 (by kernel_rfl) rfl) (encs := encE) (fun _ => rfl)
    (fun W hb => backFrom_none (w0 := w) (key := ByteArray.empty) (HX.out.below.trans (hb.mono HX.out.below.size)) (cell_row ((hb.block _ (by have := HS2.out; omega)).trans HBn.out) 0 _ rfl) (cell_row ((hb.block _ (by have := HS2.out; omega)).trans HBk.out) 0 _ rfl))
    (fun k hk => by have := HS2.out; have := HX.out.below.size; rcases hk with hk | rfl | rfl <;> omega) ?_
  intro D3 x3 hb3 hD1 hh1
  have H3m := Lib.hid (HX.out.mark hb3 hD1 hh1)
  clear hb3 hD1 hh1 HX HS2 HBn HBk
  gi_wp2_with fail
  refine CallsIn.mono (callsIn_wide.2 (backFrom_made x3 none a)) ?_
  rintro r v4 ⟨rfl, rfl⟩
  have hb2 := boxed2_below x3 (.pointer none) a
  have hs2 := boxed2_size x3 (.pointer none) a
  have hBn := boxed2_n x3 (.pointer none) a
  have hBk := boxed2_k x3 (.pointer none) a
  obtain ⟨v4, hw2⟩ : ∃ v4, boxed2 x3 (.pointer none) a = v4 := ⟨_, rfl⟩
  rw [hw2] at hb2 hs2 hBn hBk ⊢
  have HX := Lib.hid (H3m.out.next hb2)
  have HS2 := Lib.hid hs2
  have HBn := Lib.hid hBn
  have HBk := Lib.hid hBk
  clear hw2 hb2 hs2 hBn hBk H3m
  gi_wp2_with fail
  refine wpIn_range_none (gf := 30) (lb := #[pb x3.heap.size, pb (x3.heap.size + 1)]) rfl (enters_of Try.func30 (by kernel_rfl) rfl) (encs := encE) (fun _ => rfl)
    (fun W hb => backFrom_none (w0 := w) (key := a) (HX.out.below.trans (hb.mono HX.out.below.size)) (cell_row ((hb.block _ (by have := HS2.out; omega)).trans HBn.out) 0 _ rfl) (cell_row ((hb.block _ (by have := HS2.out; omega)).trans HBk.out) 0 _ rfl))
    (fun k hk => by have := HS2.out; have := HX.out.below.size; rcases hk with hk | rfl | rfl <;> omega) ?_
  intro D4 x4 hb3 hD1 hh1
  have H4m := Lib.hid (HX.out.mark hb3 hD1 hh1)
  clear hb3 hD1 hh1 HX HS2 HBn HBk
  gi_wp2_with fail
  refine CallsIn.mono (callsIn_wide.2 (count_any (T0 := none) (TreeIs.none x4) a b (Nat.zero_le _))) ?_
  rintro r x5 ⟨rfl, hb5⟩
  rw [show cnt a b (tl none) = 0 from rfl]
  have H5 := Lib.hid (H4m.out.next hb5)
  clear hb5 H4m
  gi_wp2_with fail
  refine CallsIn.mono (callsIn_wide.2 (take_any (T0 := none) (TreeIs.none x5) a most (Nat.zero_le _))) ?_
  rintro r x6 ⟨v, rfl, ho, hb6⟩
  rw [show (tl none).filter (ge a) = [] from rfl, List.take_nil] at ho
  obtain ⟨A, c, rfl, hc, _⟩ := ho.form
  rw [show (ks []).length = 0 from rfl] at hc ⊢
  have H6 := Lib.hid (H5.out.next hb6)
  have hcx := H6.out.box.cell
  have hfx := H6.out.box.frozen
  clear hb6 ho H5
  gi_wp2_with fail
  refine leaves_marks [D4, D3, D2, D1] _ H6.out.nd (fun E hE => ?_) fun w' hs => ?_
  · rw [Below.heap_setCell _ _ _ E (by have := (H6.out.ds E hE).1; show E ≠ w.heap.size; omega)]
    exact (H6.out.ds E hE).2
  · have hbx : Boxed w' w.heap.size 4 (.bool true) := (hs.2 _ fun hm => by have := (H6.out.ds _ hm).1; omega).trans (H6.out.box.set _)
    have hcx := hbx.cell
    refine ⟨.bool true, ?_, rfl, (H6.out.below.setCell (p := ⟨w.heap.size, 0, none⟩) (Nat.le_refl _) _).trans ((shut_below hs fun E hE => by have := (H6.out.ds E hE).1; omega).mono (Nat.le_refl _))⟩
    simp [results, Try.f7, go_sem, hcx]

end Go.Proofs.Ytcoaloignmkemaa

namespace Go.Proofs.Ytcoaloignmkemaa.walkNil
open Go.ChangeShapes Go.WideShapes Go.ChangeAt Go.RowKit
open Go.ChangeMaps (open_string shut_string)
set_option linter.unusedVariables false

theorem own : ownKnob Try.prog.godebug = none := by kernel_rfl
theorem laidOut : laidOutB Try.prog = true := by kernel_rfl

set_option maxRecDepth 100000 in
theorem lifted (os : Os) (started : os.Started) (H : Type) (enc : TypeId × Value → H) :
    ReturnsInHanded {} Try.checked os 7 .any (Rows.walkNilSpec.pre6 enc Try.prog Try.f7 Rows.walkNilRow.domain false) (Rows.walkNilSpec.post enc Try.prog Try.f7 false true false false) := by
  refine returnsInHanded_of_change_sized (C := Try.checked) own started (by kernel_rfl) Try.func7
    (ChangeSpec.witness6 (enc := enc) (C := Try.checked) false ⟨#[], #[.string ByteArray.empty, .string ByteArray.empty, .int .i64 0], []⟩ 8 (by kernel_rfl) (by kernel_rfl) (by kernel_rfl) (by kernel_rfl)) ?_
  intro W base args ds gs before hval0 hW hcnd hsz0 _
  have hval : ∀ (j : Nat) t v, Try.f7.params[j]? = some t → args[j]? = some v → Value.okWide Try.prog W .any base t v := hval0
  have hsz : (DataW.weightsEach Try.prog (Try.f7.params.toList ++ Rows.walkNilSpec.plain.varTypes Try.prog) (ds ++ gs)).all (· ≤ reachBytes) = true := hsz0
  have hW' := hW
  obtain ⟨p, q, hA0, hV, rfl, hfz, hnd⟩ := hW
  have hA : DataW.TrodAll enc Try.prog W 0 (fun _ => true) true Try.f7.params.toList args.toList ds p := hA0
  rw [Try.params7] at hA hval hsz
  obtain ⟨v0, vs0, d0, ds0, p0, q0, hargs, rfl, rfl, h0, r0⟩ := trodAll_cons hA
  obtain ⟨v1, vs1, d1, ds1, p1, q1, rfl, rfl, rfl, h1, r1⟩ := trodAll_cons r0
  obtain ⟨v2, vs2, d2, ds2, p2, q2, rfl, rfl, rfl, h2, r2⟩ := trodAll_cons r1
  obtain ⟨rfl, rfl, rfl⟩ := trodAll_nil r2
  obtain rfl : args = #[v0, v1, v2] := by cases args; simp_all
  obtain ⟨rfl, rfl⟩ := trodVars_none hV
  obtain ⟨a0, rfl, rfl, rfl, w0⟩ := open_string Try.underlying9 (hval 0 9 v0 rfl rfl) h0
  obtain ⟨a1, rfl, rfl, rfl, w1⟩ := open_string Try.underlying9 (hval 1 9 v1 rfl rfl) h1
  obtain ⟨a2, rfl, rfl, rfl, w2⟩ := open_int Try.underlying3 (hval 2 3 v2 rfl rfl) h2
  have z0 : a0.data.toList.length ≤ reachBytes := sized_string hsz (j := 0) (t := 9) rfl rfl
  have y0 : a0.size ≤ 140737488351232 := z0
  have z1 : a1.data.toList.length ≤ reachBytes := sized_string hsz (j := 1) (t := 9) rfl rfl
  have y1 : a1.size ≤ 140737488351232 := z1
  clear hA0 hval0 hsz hsz0
  simp only [List.append_nil] at hW'
  refine (walkNil_walk a0 a1 a2 W y0 y1 w2).mono fun e W' ⟨he, bel⟩ => ?_
  subst he
  exact ⟨_, rfl, _, _, _, [], [], [], hW', trodAll_mk1 (shut_bool Try.underlying4 _), (trodAll_cons_mk (shut_string Try.underlying9 w0) (trodAll_cons_mk (shut_string Try.underlying9 w1) (trodAll_cons_mk (shut_int Try.underlying3 w2) trodAll_mk0))), rfl, bel.frame _, fun h => by cases h⟩

theorem over : Rows.walkNilRow.holds Try.pinned (OpenSpec.ofChange Rows.walkNilSpec) :=
  OpenClaim.holds_of_wide 7 Try.f7 rfl rfl rfl rfl rfl rfl rfl ⟨rfl, rfl, rfl, rfl, rfl⟩ rfl rfl rfl rfl rfl (by kernel_rfl) Try.func7 (by kernel_rfl)
    (of_decide_eq_true (by kernel_rfl)) (by unfold Func.isWrapper; first | (rw [if_pos (by decide +kernel)]; kernel_rfl) | (rw [if_neg (by decide +kernel)]; exact ⟨rfl, rfl⟩))
    (fun os started H enc _ => lifted os started H enc)

theorem proved : Rows.WalkNilSaid := over
#print axioms proved

end Go.Proofs.Ytcoaloignmkemaa.walkNil
