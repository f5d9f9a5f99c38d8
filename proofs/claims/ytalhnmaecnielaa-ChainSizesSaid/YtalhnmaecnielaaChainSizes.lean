/-
  ChainSizes: a value's pieces have together as many bytes as it has, and values of one size are cut at the same places, for every two strings; no condition beyond the row's.
-/
import Derived.Test.YtalhnmaecnielaaChainRef
import Derived.Test.YtalhnmaecnielaaDrawn
namespace Go.Proofs.Ytalhnmaecnielaa
open Go.RowKit Go.Sort
set_option linter.unusedVariables false

/-- The bytes of the first pieces together, of a value of n bytes. -/
def tot (n j : Nat) : Nat := if j = 0 then 0 else if j = 1 then min n 240 else n
/-- The size of a piece. -/
theorem cut_sizes {s x : ByteArray} {i : Nat} (h : (cutL s)[i]? = some x) : tot s.size i + x.size = tot s.size (i + 1) ∧ s.size ≤ 400 := by
  by_cases hl : Long s.size
  · have hf := (cut_fit hl).1
    have h1 := hl.1
    have h2 := hl.2
    rcases fit_cases hl hf with ⟨a, ha, h3, h4⟩ | ⟨a, b, ha, h3, h4, h5⟩
    · rw [ha] at h
      match i, h with
      | 0, h =>
        simp only [List.getElem?_cons_zero, Option.some.injEq] at h
        subst h
        unfold tot
        exact ⟨by simp; omega, by omega⟩
      | i + 1, h => simp at h
    · rw [ha] at h
      match i, h with
      | 0, h =>
        simp only [List.getElem?_cons_zero, Option.some.injEq] at h
        subst h
        unfold tot
        exact ⟨by simp; omega, by omega⟩
      | 1, h =>
        simp only [List.getElem?_cons_succ, List.getElem?_cons_zero, Option.some.injEq] at h
        subst h
        unfold tot
        exact ⟨by simp; omega, by omega⟩
      | i + 2, h => simp at h
  · rw [cutL_none hl] at h
    simp at h
theorem tot_all {s : ByteArray} {q : Nat} (hq : (cutL s).length = q) (h0 : q ≠ 0) : tot s.size q = s.size := by
  by_cases hl : Long s.size
  · have h1 := (cut_fit hl).1.1
    have h2 := hl.1
    have h3 := hl.2
    rw [hq] at h1
    unfold tot
    rw [if_neg h0]
    by_cases h4 : q = 1
    · rw [if_pos h4]
      omega
    · rw [if_neg h4]
  · rw [cutL_none hl] at hq
    exact absurd hq.symm h0
theorem pages_same {s t : ByteArray} (h : s.size = t.size) : (cutL s).length = (cutL t).length := by
  rw [cutL_length, cutL_length]
  unfold pagesN
  rw [h]

set_option maxHeartbeats 1600000 in
set_option maxRecDepth 100000 in
theorem chainSizes_in (a b : ByteArray) (k : Nat) (w : World) (hs : a.size ≤ 5000) (ht : b.size ≤ 5000) (hk : min (a.size : Int) b.size = k) (hka : k ≤ a.size) (hkb : k ≤ b.size) :
    Calls Try.prog 6 #[.string a, .string b] w fun e w' => e = .returned (.bool true) ∧ Below w.heap.size w w' := by
  go_enter Try.func6, Try.ntmps6
  go_wp2_with fail
  refine (chAwake_any w).mono ?_
  rintro e w1 ⟨rfl, hb1⟩
  go_wp2
  have hea : (a.extract 0 k).size = k := by rw [ByteArray.size_extract]; omega
  have heb : (b.extract 0 k).size = k := by rw [ByteArray.size_extract]; omega
  have hpq := pages_same (hea.trans heb.symm)
  refine wp_region_segs [([0, 1, 2, 4, 5, 6], 3), ([], 7)] [8, 9] (by kernel_rfl) (by kernel_rfl) (by kernel_rfl) (by kernel_rfl) (by intro c a d v w h; cases d <;> exact h) ?_
  refine wpSegs_more ?_
  simp only [pick, List.getElem?_cons_zero, List.getElem?_cons_succ]
  repeat (first | go_big_quiet_step (fail) | quiet_step (fail))
  refine wpQuiet_nil ?_
  refine wpOp_heavy rfl (by rfl) (fun K hK => ?_)
  obtain ⟨ea, hxa⟩ : ∃ ea, ea = a.extract 0 k := ⟨_, rfl⟩
  obtain ⟨eb, hxb⟩ : ∃ eb, eb = b.extract 0 k := ⟨_, rfl⟩
  rw [← hxa] at hea hpq
  rw [← hxb] at heb hpq
  go_simp
  rw [← hxa, ← hxb]
  have HPQ := Lib.hid hpq
  clear hxa hxb hpq
  refine (chCut_any ea w1.drew (by omega)).mono ?_
  rintro e w2 ⟨v, rfl, hown, hb2⟩
  obtain ⟨A, c, rfl, hc, hss⟩ := hown.form
  obtain ⟨q, hq⟩ : ∃ q, (cutL ea).length = q := ⟨_, rfl⟩
  rw [hq] at hc ⊢
  have hp := pages_le ea
  rw [← cutL_length, hq] at hp
  have HQ := Lib.hid hq
  have HSS := Lib.hid hss
  have hb1d : Below w.heap.size w w1.drew := hb1.drew
  have hb02 := bthen hb1d hb2
  clear hown hss hq hb1 hb1d
  refine hK _ _ hb2 ?_
  clear hK K hb2
  refine wpSegs_more ?_
  simp only [pick]
  refine wpQuiet_nil ?_
  refine wpOp_heavy rfl (by rfl) (fun K hK => ?_)
  go_simp
  refine (chCut_any eb w2 (by omega)).mono ?_
  rintro e w3 ⟨v, rfl, hown, hb3⟩
  obtain ⟨B, d, rfl, hd, hss⟩ := hown.form
  rw [← HPQ.out, HQ.out] at hd ⊢
  have HTT := Lib.hid hss
  have HQ2 := Lib.hid (HPQ.out.symm.trans HQ.out)
  have hb03 := bthen hb02 hb3
  have HS3 := Lib.hid (HSS.out.below hb3)
  clear hown hss hb02
  refine hK _ _ hb3 ?_
  clear hK K hb3 HSS
  refine wpSegs_last ?_
  simp only [pick, List.getElem?_cons_zero, List.getElem?_cons_succ]
  repeat (first | go_big_quiet_step (fail) | quiet_step (fail))
  refine wpQuiet_nil ?_
  go_wp2
  simp only [show decide (5000 < (a.size : Int)) = false from decide_eq_false (by omega), show decide (5000 < (b.size : Int)) = false from decide_eq_false (by omega)]
  go_loopw [8, 43] (fun z i wr => ∃ j : Nat, j ≤ q ∧ i = .int .i64 j ∧ z = .int .i64 (tot k j : Nat) ∧ Below w3.heap.size w3 wr) (fun _ i _ => q - (intOf i).toNat)
  case atStart => exact ⟨0, Nat.zero_le _, rfl, rfl, Below.refl _ _⟩
  case round =>
    obtain ⟨j, hj, rfl, rfl, hbr⟩ := hrel
    by_cases hlt : j < q
    · obtain ⟨ad, x, rfl, hx, hl, h1⟩ := (HS3.out.below hbr).at_ (i := j) (by rw [HQ.out]; exact hlt)
      obtain ⟨ad2, x2, rfl, hx2, hl2, h12⟩ := (HTT.out.below hbr).at_ (i := j) (by rw [HQ2.out]; exact hlt)
      obtain ⟨e1, e2⟩ := cut_sizes hx
      obtain ⟨e3, _⟩ := cut_sizes hx2
      rw [hea] at e1 e2
      rw [heb] at e3
      have hxx : x.size = x2.size := by omega
      have ht1 : tot k (j + 1) ≤ 400 := by
        unfold tot
        split
        · omega
        · split <;> omega
      have E1 := Lib.hid e1
      have hx4 : x.size ≤ 400 := by omega
      have hx5 : x2.size ≤ 400 := by omega
      have ht2 : tot k j ≤ 400 := by omega
      obtain ⟨t, htt⟩ : ∃ t, tot k j = t := ⟨_, rfl⟩
      rw [htt] at ht2 ⊢
      have HT := Lib.hid htt
      clear hx hx2 e1 e3 ht1 htt
      go_wp2
      go_quiet (fail)
      have h1' : (wr.drewN nq).cell? (ad.add j) = some (.string x) := h1
      go_wp2
      refine ⟨⟨j + 1, by omega, by go_num, ?_, below_drewN hbr _⟩, by simp [intOf]; omega⟩
      rw [← E1.out, HT.out, Int.natCast_add, hxx]
    · have he : j = q := by omega
      subst he
      have hbe := bthen hb03 hbr
      by_cases h0 : j = 0
      · subst h0
        go_wp2
        go_ret
        exact ⟨rfl, hbe⟩
      · have hta := tot_all HQ.out h0
        rw [hea] at hta
        rw [hta]
        clear hta
        go_wp2
        go_ret
        exact ⟨rfl, hbe⟩

set_option maxHeartbeats 800000 in
set_option maxRecDepth 100000 in
theorem chainSizes_walk (a b : ByteArray) (w : World) (hs : a.size ≤ 140737488351232) (ht : b.size ≤ 140737488351232) :
    Calls Try.prog 6 #[.string a, .string b] w fun e w' => e = .returned (.bool true) ∧ Below w.heap.size w w' := by
  by_cases h1 : 5000 < a.size
  · go_enter Try.func6, Try.ntmps6
    go_wp2_with fail
    refine (chAwake_any w).mono ?_
    rintro e w1 ⟨rfl, hb1⟩
    go_wp2_with fail
    refine (chAwake_any w1).mono ?_
    rintro e w2 ⟨rfl, hb2⟩
    go_wp2
    go_ret
    exact ⟨rfl, bthen hb1 hb2⟩
  by_cases h2 : 5000 < b.size
  · go_enter Try.func6, Try.ntmps6
    go_wp2_with fail
    refine (chAwake_any w).mono ?_
    rintro e w1 ⟨rfl, hb1⟩
    go_wp2_with fail
    refine (chAwake_any w1).mono ?_
    rintro e w2 ⟨rfl, hb2⟩
    go_wp2
    go_ret
    exact ⟨rfl, bthen hb1 hb2⟩
  exact chainSizes_in a b (min a.size b.size) w (by omega) (by omega) (by omega) (by omega) (by omega)

end Go.Proofs.Ytalhnmaecnielaa

namespace Go.Proofs.Ytalhnmaecnielaa.chainSizes
open Go.ChangeShapes Go.WideShapes Go.ChangeAt Go.RowKit
open Go.ChangeMaps (open_string shut_string)
set_option linter.unusedVariables false

theorem own : ownKnob Try.prog.godebug = none := by kernel_rfl
theorem laidOut : laidOutB Try.prog = true := by kernel_rfl

set_option maxRecDepth 100000 in
theorem lifted (os : Os) (started : os.Started) (H : Type) (enc : TypeId × Value → H) :
    ReturnsInHanded {} Try.checked os 6 .any (Rows.chainSizesSpec.pre6 enc Try.prog Try.f6 Rows.chainSizesRow.domain false) (Rows.chainSizesSpec.post enc Try.prog Try.f6 false true false false) := by
  refine returnsInHanded_of_change_sized (C := Try.checked) own started (by kernel_rfl) Try.func6
    (ChangeSpec.witness6 (enc := enc) (C := Try.checked) false ⟨#[], #[.string ByteArray.empty, .string ByteArray.empty], []⟩ 8 (by kernel_rfl) (by kernel_rfl) (by kernel_rfl) (by kernel_rfl)) ?_
  intro W base args ds gs before hval0 hW hcnd hsz0 _
  have hval : ∀ (j : Nat) t v, Try.f6.params[j]? = some t → args[j]? = some v → Value.okWide Try.prog W .any base t v := hval0
  have hsz : (DataW.weightsEach Try.prog (Try.f6.params.toList ++ Rows.chainSizesSpec.plain.varTypes Try.prog) (ds ++ gs)).all (· ≤ reachBytes) = true := hsz0
  have hW' := hW
  obtain ⟨p, q, hA0, hV, rfl, hfz, hnd⟩ := hW
  have hA : DataW.TrodAll enc Try.prog W 0 (fun _ => true) true Try.f6.params.toList args.toList ds p := hA0
  rw [Try.params6] at hA hval hsz
  obtain ⟨v0, vs0, d0, ds0, p0, q0, hargs, rfl, rfl, h0, r0⟩ := trodAll_cons hA
  obtain ⟨v1, vs1, d1, ds1, p1, q1, rfl, rfl, rfl, h1, r1⟩ := trodAll_cons r0
  obtain ⟨rfl, rfl, rfl⟩ := trodAll_nil r1
  obtain rfl : args = #[v0, v1] := by cases args; simp_all
  obtain ⟨rfl, rfl⟩ := trodVars_none hV
  obtain ⟨a0, rfl, rfl, rfl, w0⟩ := open_string Try.underlying9 (hval 0 9 v0 rfl rfl) h0
  obtain ⟨a1, rfl, rfl, rfl, w1⟩ := open_string Try.underlying9 (hval 1 9 v1 rfl rfl) h1
  have z0 : a0.data.toList.length ≤ reachBytes := sized_string hsz (j := 0) (t := 9) rfl rfl
  have y0 : a0.size ≤ 140737488351232 := z0
  have z1 : a1.data.toList.length ≤ reachBytes := sized_string hsz (j := 1) (t := 9) rfl rfl
  have y1 : a1.size ≤ 140737488351232 := z1
  clear hA0 hval0 hsz hsz0
  simp only [List.append_nil] at hW'
  refine (chainSizes_walk a0 a1 W y0 y1).mono fun e W' ⟨he, bel⟩ => ?_
  subst he
  exact ⟨_, rfl, _, _, _, [], [], [], hW', trodAll_mk1 (shut_bool Try.underlying4 _), (trodAll_cons_mk (shut_string Try.underlying9 w0) (trodAll_cons_mk (shut_string Try.underlying9 w1) trodAll_mk0)), rfl, bel.frame _, fun h => by cases h⟩

theorem over : Rows.chainSizesRow.holds Try.pinned (OpenSpec.ofChange Rows.chainSizesSpec) :=
  OpenClaim.holds_of_wide 6 Try.f6 rfl rfl rfl rfl rfl rfl rfl ⟨rfl, rfl, rfl, rfl, rfl⟩ rfl rfl rfl rfl rfl (by kernel_rfl) Try.func6 (by kernel_rfl)
    (of_decide_eq_true (by kernel_rfl)) (by unfold Func.isWrapper; first | (rw [if_pos (by decide +kernel)]; kernel_rfl) | (rw [if_neg (by decide +kernel)]; exact ⟨rfl, rfl⟩))
    (fun os started H enc _ => lifted os started H enc)

theorem proved : Rows.ChainSizesSaid := over
#print axioms proved

end Go.Proofs.Ytalhnmaecnielaa.chainSizes
