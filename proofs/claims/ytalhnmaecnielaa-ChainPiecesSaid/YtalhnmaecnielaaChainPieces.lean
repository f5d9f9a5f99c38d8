/-
  ChainPieces: each piece but the last one is full, none is empty, and pieces that are joined are cut so, for every string, slice and int; no condition beyond the row's.
-/
import Derived.Test.YtalhnmaecnielaaChainRef
namespace Go.Proofs.Ytalhnmaecnielaa
open Go.RowKit
set_option linter.unusedVariables false

theorem join_cases (l : List ByteArray) (z : Int) : (joinE l z = 0 ∧ Long z ∧ Fit l z ∧ joinS l z = cat l) ∨ (joinE l z ≠ 0 ∧ joinS l z = ByteArray.empty) := by
  unfold joinE joinS
  by_cases hz : Long z ∧ l.length ≤ 2
  · rw [if_pos hz]
    by_cases hf : Fit l z
    · rw [if_pos hf, if_pos ⟨hz.1, hz.2, hf⟩]
      exact .inl ⟨rfl, hz.1, hf, rfl⟩
    · rw [if_neg hf, if_neg fun h => hf h.2.2]
      exact .inr ⟨by decide, rfl⟩
  · rw [if_neg hz, if_neg fun h => hz ⟨h.1, h.2.1⟩]
    exact .inr ⟨by decide, rfl⟩

/-- What each piece is. -/
theorem piece_size {s x : ByteArray} {i : Nat} (h : (cutL s)[i]? = some x) : 1 ≤ x.size ∧ x.size ≤ 240 ∧ (i + 1 < (cutL s).length → x.size = 240) := by
  by_cases hl : Long s.size
  · have hf := (cut_fit hl).1
    have h1 := hl.1
    have h2 := hl.2
    rcases fit_cases hl hf with ⟨a, ha, h3, h4⟩ | ⟨a, b, ha, h3, h4, h5⟩
    · rw [ha] at h ⊢
      match i, h with
      | 0, h =>
        simp only [List.getElem?_cons_zero, Option.some.injEq] at h
        subst h
        exact ⟨by omega, by omega, fun h => by simp at h⟩
      | i + 1, h => simp at h
    · rw [ha] at h ⊢
      match i, h with
      | 0, h =>
        simp only [List.getElem?_cons_zero, Option.some.injEq] at h
        subst h
        exact ⟨by omega, by omega, fun _ => h3⟩
      | 1, h =>
        simp only [List.getElem?_cons_succ, List.getElem?_cons_zero, Option.some.injEq] at h
        subst h
        exact ⟨by omega, by omega, fun h => by simp at h⟩
      | i + 2, h => simp at h
  · rw [cutL_none hl] at h
    simp at h

set_option maxHeartbeats 1600000 in
set_option maxRecDepth 100000 in
theorem chainPieces_walk (s : ByteArray) (A : Option Addr) (n c : Nat) (l : List ByteArray) (z : Int) (w : World) (hs : s.size ≤ 140737488351232) (ha : ArgS w A n c l) (hz : (Lit.int .i64 z).wf = true) :
    Calls Try.prog 5 #[.string s, .slice A n c, .int .i64 z] w fun e w' => e = .returned (.bool true) ∧ Below w.heap.size w w' := by
  obtain ⟨hlen, hcap, hsm, hes, hstr⟩ := ha
  have Hl := Lib.hid hlen
  have HS := Lib.hid hstr
  clear hlen hstr
  go_enter Try.func5, Try.ntmps5
  go_wp2_with fail
  refine (chAwake_any w).mono ?_
  rintro e w1 ⟨rfl, hb1⟩
  by_cases h5 : 5000 < s.size
  · go_wp2_with fail
    refine (chAwake_any w1).mono ?_
    rintro e w2 ⟨rfl, hb2⟩
    go_wp2
    go_ret
    exact ⟨rfl, bthen hb1 hb2⟩
  go_wp2_with fail
  refine (chFew_any A n c l w1 (hes.below hb1) Hl.out hsm HS.out).mono ?_
  rintro e w2 ⟨rfl, rfl⟩
  by_cases hf : ChFew l
  · rw [decide_eq_true hf]
    have hn : n ≤ 20 := by have := hf.1; rw [Hl.out] at this; exact this
    clear hf
    go_wp2_with fail
    refine (chCut_any s w1 hs).mono ?_
    rintro e w2 ⟨v, rfl, hown, hb2⟩
    have hb02 := bthen hb1 hb2
    obtain ⟨B, d, rfl, hd, hss⟩ := hown.form
    have HSS := Lib.hid hss
    have hp := pages_le s
    rw [← cutL_length] at hp
    obtain ⟨q, hq⟩ : ∃ q, (cutL s).length = q := ⟨_, rfl⟩
    rw [hq] at hp hd ⊢
    have HQ := Lib.hid hq
    clear hown hss hb1 hb2 hq
    go_wp2
    simp only [show decide (5000 < (s.size : Int)) = false from decide_eq_false (by omega)]
    go_loopw [28] (fun i wr => ∃ k : Nat, k ≤ q ∧ i = .int .i64 k ∧ wr = w2) (fun i _ => q - (intOf i).toNat)
    case atStart => exact ⟨0, Nat.zero_le _, rfl, rfl⟩
    case round =>
      obtain ⟨k, hk, rfl, rfl⟩ := hrel
      by_cases hlt : k < q
      · obtain ⟨ad, x, rfl, hx, hl, h1⟩ := HSS.out.at_ (i := k) (by rw [HQ.out]; exact hlt)
        obtain ⟨hx1, hx2, hx3⟩ := piece_size hx
        rw [HQ.out] at hx3
        clear hx
        by_cases hk1 : k + 1 < q
        · have hx4 := hx3 hk1
          clear hx3
          go_wp2
          exact ⟨⟨k + 1, by omega, by go_num, by trivial⟩, by simp [intOf]; omega⟩
        · clear hx3
          go_wp2
          exact ⟨⟨k + 1, by omega, by go_num, by trivial⟩, by simp [intOf]; omega⟩
      · have he : k = q := by omega
        subst he
        go_wp2_with fail
        refine (chJoin_any A n c z l wr (hes.below hb02) Hl.out hsm HS.out).mono ?_
        rintro e w3 ⟨rfl, hb3⟩
        have hb03 := bthen hb02 hb3
        have hjc := join_cases l z
        generalize hx : joinS l z = x at hjc ⊢
        generalize hfe : joinE l z = f at hjc ⊢
        clear hx hfe hb02 hb3
        rcases hjc with ⟨rfl, hlz, hfz, hxc⟩ | ⟨hf0, hxe⟩
        · obtain ⟨h1, h2⟩ := cut_cat hlz hfz
          rw [← hxc] at h1 h2
          have H1 := Lib.hid h1
          have hx4 : x.size ≤ 140737488351232 := by have := hlz.2; omega
          have H2 := Lib.hid h2
          clear hxc hlz hfz h1
          subst h2
          go_wp2_with fail
          refine (chCut_any x w3 hx4).mono ?_
          rintro e w4 ⟨v, rfl, hown, hb4⟩
          have hb04 := bthen hb03 hb4
          rw [H1.out] at hown
          obtain ⟨B2, d2, rfl, hd2, hss2⟩ := hown.form
          rw [Hl.out] at hd2 ⊢
          have HSS2 := Lib.hid hss2
          clear hown hss2 hb03 hb4
          go_wp2_with fail
          refine (chSame_any B2 A n d2 c l w4 HSS2.out (hes.below hb04) Hl.out (by omega)).mono ?_
          rintro e w5 ⟨rfl, hb5⟩
          have hb05 := bthen hb04 hb5
          go_wp2
          go_ret
          exact ⟨rfl, hb05⟩
        · subst hxe
          have hq0 : (ByteArray.empty.toList == ([] : List UInt8)) = true := by rw [empty_eq]; rfl
          go_wp2
          go_ret
          exact ⟨rfl, hb03⟩
  · rw [decide_eq_false hf]
    go_wp2_with fail
    refine (chAwake_any w1).mono ?_
    rintro e w3 ⟨rfl, hb3⟩
    go_wp2
    go_ret
    exact ⟨rfl, bthen hb1 hb3⟩

end Go.Proofs.Ytalhnmaecnielaa

namespace Go.Proofs.Ytalhnmaecnielaa.chainPieces
open Go.ChangeShapes Go.WideShapes Go.ChangeAt Go.RowKit
open Go.ChangeMaps (open_string shut_string)
set_option linter.unusedVariables false

theorem own : ownKnob Try.prog.godebug = none := by kernel_rfl
theorem laidOut : laidOutB Try.prog = true := by kernel_rfl

set_option maxRecDepth 100000 in
theorem lifted (os : Os) (started : os.Started) (H : Type) (enc : TypeId × Value → H) :
    ReturnsInHanded {} Try.checked os 5 .any (Rows.chainPiecesSpec.pre6 enc Try.prog Try.f5 Rows.chainPiecesRow.domain false) (Rows.chainPiecesSpec.post enc Try.prog Try.f5 false true false false) := by
  refine returnsInHanded_of_change_sized (C := Try.checked) own started (by kernel_rfl) Try.func5
    (ChangeSpec.witness6 (enc := enc) (C := Try.checked) false ⟨#[], #[.string ByteArray.empty, .slice none 0 0, .int .i64 0], []⟩ 8 (by kernel_rfl) (by kernel_rfl) (by kernel_rfl) (by kernel_rfl)) ?_
  intro W base args ds gs before hval0 hW hcnd hsz0 _
  have hval : ∀ (j : Nat) t v, Try.f5.params[j]? = some t → args[j]? = some v → Value.okWide Try.prog W .any base t v := hval0
  have hsz : (DataW.weightsEach Try.prog (Try.f5.params.toList ++ Rows.chainPiecesSpec.plain.varTypes Try.prog) (ds ++ gs)).all (· ≤ reachBytes) = true := hsz0
  have hW' := hW
  obtain ⟨p, q, hA0, hV, rfl, hfz, hnd⟩ := hW
  have hA : DataW.TrodAll enc Try.prog W 0 (fun _ => true) true Try.f5.params.toList args.toList ds p := hA0
  rw [Try.params5] at hA hval hsz
  obtain ⟨v0, vs0, d0, ds0, p0, q0, hargs, rfl, rfl, h0, r0⟩ := trodAll_cons hA
  obtain ⟨v1, vs1, d1, ds1, p1, q1, rfl, rfl, rfl, h1, r1⟩ := trodAll_cons r0
  obtain ⟨v2, vs2, d2, ds2, p2, q2, rfl, rfl, rfl, h2, r2⟩ := trodAll_cons r1
  obtain ⟨rfl, rfl, rfl⟩ := trodAll_nil r2
  obtain rfl : args = #[v0, v1, v2] := by cases args; simp_all
  obtain ⟨rfl, rfl⟩ := trodVars_none hV
  obtain ⟨a0, rfl, rfl, rfl, w0⟩ := open_string Try.underlying9 (hval 0 9 v0 rfl rfl) h0
  obtain ⟨A1, n1, c1, rfl⟩ := okWide_slice Try.underlying22 (hval 1 22 v1 rfl rfl)
  have k1 := h1
  have lt1 : ∀ x ∈ p1, x.block < W.heap.size := by obtain ⟨m, hm⟩ := k1; exact DataW.trod_lt m _ _ _ hm
  obtain ⟨l1, w1⟩ := open_strs h1 (fun m hm => of_decide_eq_true (List.all_eq_true.1 hsz _ (DataW.weights_mem_each (j := 1) (t := 22) rfl rfl m hm)))
  obtain ⟨a2, rfl, rfl, rfl, w2⟩ := open_int Try.underlying3 (hval 2 3 v2 rfl rfl) h2
  have z0 : a0.data.toList.length ≤ reachBytes := sized_string hsz (j := 0) (t := 9) rfl rfl
  have y0 : a0.size ≤ 140737488351232 := z0
  clear hA0 hval0 hsz hsz0
  refine (chainPieces_walk a0 A1 n1 c1 l1 a2 W y0 w1 w2).mono fun e W' ⟨he, bel⟩ => ?_
  subst he
  exact ⟨_, rfl, _, _, _, [], _, [], hW', trodAll_mk1 (shut_bool Try.underlying4 _), (trodAll_cons_mk (shut_string Try.underlying9 w0) (trodAll_cons_mk (Below.trod laidOut (by kernel_rfl) (of_decide_eq_true (by kernel_rfl)) k1 bel lt1) (trodAll_cons_mk (shut_int Try.underlying3 w2) trodAll_mk0))), rfl, bel.frame _, fun h => by cases h⟩

theorem over : Rows.chainPiecesRow.holds Try.pinned (OpenSpec.ofChange Rows.chainPiecesSpec) :=
  OpenClaim.holds_of_wide 5 Try.f5 rfl rfl rfl rfl rfl rfl rfl ⟨rfl, rfl, rfl, rfl, rfl⟩ rfl rfl rfl rfl rfl (by kernel_rfl) Try.func5 (by kernel_rfl)
    (of_decide_eq_true (by kernel_rfl)) (by unfold Func.isWrapper; first | (rw [if_pos (by decide +kernel)]; kernel_rfl) | (rw [if_neg (by decide +kernel)]; exact ⟨rfl, rfl⟩))
    (fun os started H enc _ => lifted os started H enc)

theorem proved : Rows.ChainPiecesSaid := over
#print axioms proved

end Go.Proofs.Ytalhnmaecnielaa.chainPieces
