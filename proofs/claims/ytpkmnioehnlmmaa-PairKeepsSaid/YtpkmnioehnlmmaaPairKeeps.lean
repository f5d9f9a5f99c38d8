/-
  PairKeeps: what goes in stays as it is, its spare room too, and what comes out is a list of its own, for every list and entry; no condition beyond the row's.
-/
import Derived.Test.YtpkmnioehnlmmaaPairAwake
import Derived.Test.YtpkmnioehnlmmaaPairBuilt
import Derived.Test.YtpkmnioehnlmmaaPairOpen
import Derived.Test.YtpkmnioehnlmmaaPairRoom
namespace Go.Proofs.Ytpkmnioehnlmmaa
open Go.RowKit
set_option linter.unusedVariables false

set_option maxRecDepth 100000 in
set_option maxHeartbeats 4000000 in
theorem pairKeeps_walk (A : Option Addr) (n c : Nat) (l : List Ent) (x : Ent) (w : World) (ha : Arg w A n c l) (hx : ArgE x) :
    Calls Try.prog 7 #[.slice A n c, .agg #[.string x.k, .string x.v]] w fun e w' => e = .returned (.bool true) ∧ Below w.heap.size w w' := by
  obtain ⟨hlen, hcap, hsm, hes, hstr⟩ := ha
  obtain ⟨hxk, hxv⟩ := hx
  have Hl := Lib.hid hlen
  have HS := Lib.hid hstr
  clear hlen hstr
  go_enter Try.func7, Try.ntmps7
  go_wp2_with fail
  refine (awake_any _).mono ?_
  rintro e w1 ⟨rfl, hb1⟩
  have hb0 : Below w.heap.size w (w.alloc (.cells #[.string x.k, .string x.v] 30)) := (Below.refl _ _).alloc (Nat.le_refl _) _
  have hbx := (Box.new w x 30).below hb1
  have hb01 := bthen hb0 hb1
  have Hbx := Lib.hid hbx
  generalize hge : w.heap.size = g at hbx Hbx ⊢
  clear hb0 hb1 hbx
  rw [hge] at hb01
  go_wp2_with fail
  refine (few_any A n c l w1 (hes.below (by rw [hge]; exact hb01)) Hl.out hsm HS.out).mono ?_
  rintro e w2 ⟨rfl, hb2⟩
  have hb02 : Below w.heap.size w w2 := bthen (by rw [hge]; exact hb01) hb2
  have hes2 := hes.below hb02
  have hbx := Hbx.out.below hb2
  clear Hbx hb2 hb01 hes w1
  have Hge := Lib.hid hge
  clear hge
  obtain ⟨hg2, q0, q1⟩ := hbx
  by_cases hf : Few l
  case neg =>
    rw [decide_eq_false hf]
    go_wp2_with fail
    refine (awake_any w2).mono ?_
    rintro e w3 ⟨rfl, hb3⟩
    go_wp2
    go_ret
    exact ⟨rfl, bthen hb02 hb3⟩
  rw [decide_eq_true hf]
  have hn : n ≤ 300 := by have := hf.1; rw [Hl.out] at this; exact this
  by_cases hx2 : 2000 < x.k.size + x.v.size
  case pos =>
    go_wp2_with fail
    refine (awake_any w2).mono ?_
    rintro e w3 ⟨rfl, hb3⟩
    go_wp2
    go_ret
    exact ⟨rfl, bthen hb02 hb3⟩
  go_wp2_with fail
  refine (built_any A n c l w2 hes2 Hl.out hn).mono ?_
  rintro e w3 ⟨v, rfl, hown, hb3⟩
  have hs := sorted_builtOf l
  have hlen : (builtOf l).length ≤ 300 := by
    have := builtOf_len_take l l.length
    rw [List.take_length, Hl.out] at this
    omega
  have hb03 := bthen hb02 hb3
  have hbx := (show Box w2 g x from ⟨hg2, q0, q1⟩).below hb3
  obtain ⟨B, d, rfl, hd, hesb⟩ := hown.form
  generalize builtOf l = a at *
  obtain ⟨m, hm⟩ : ∃ m, a.length = m := ⟨_, rfl⟩
  rw [hm] at hd hlen ⊢
  have Hm := Lib.hid hm
  obtain ⟨z, hz⟩ : ∃ z, z = m + 3 := ⟨_, rfl⟩
  have hzi : (m : Int) + 3 = (z : Int) := by omega
  have hmk : ∀ w : World, (Instr.makeSlice 22 (.int .i64 (m : Int)) (.int .i64 ((m : Int) + 3))).run Try.prog w =
      .ok (.slice (some ⟨w.heap.size, 0, none⟩) m z) (w.alloc (.cells (List.replicate (z * 2) (.string ByteArray.empty)).toArray 30)) := by
    intro w
    rw [hzi]
    exact run_make_room m z (by omega) (by omega) w
  obtain ⟨Z, hZ⟩ : ∃ Z, Z = (List.replicate (z * 2) (Value.string ByteArray.empty)).toArray := ⟨_, rfl⟩
  obtain ⟨Y, hY⟩ : ∃ Y, Y = (ecells a ++ List.replicate 6 (Value.string ByteArray.empty)).toArray := ⟨_, rfl⟩
  rw [← hZ] at hmk
  have hroom0 := heap_alloc_new w3 (.cells Z 30)
  have hbm : Below w3.heap.size w3 (w3.alloc (.cells Z 30)) := (Below.refl _ _).alloc (Nat.le_refl _) _
  have hcp := run_copy_ents 3 (c := z) (d := d) hroom0 (hesb.below hbm) hm (by rw [hZ]; simp; omega)
  have hdr : (ecells a ++ Z.toList.drop (m * 2)).toArray = Y := by
    rw [hY, hZ]
    simp only [List.drop_replicate]
    rw [show z * 2 - m * 2 = 6 by omega]
  rw [hdr] at hcp
  have hroom1 := setRow_heap _ w3.heap.size _ Y 30 _ hroom0
  have hb34 := below_setRow hbm (Nat.le_refl _) Y
  have HC := Lib.hid hcp
  have HY := Lib.hid hY
  have hz1 : z ≤ m + 3 := by omega
  have hz2 : m + 3 ≤ z := by omega
  have Hbx := Lib.hid hbx
  have Hzi := Lib.hid hzi
  generalize hw4 : (w3.alloc (.cells Z 30)).setRow w3.heap.size Y = w4 at *
  have HR1 := Lib.hid hroom1
  have HB34 := Lib.hid hb34
  have HW4 := Lib.hid hw4
  clear hm hb02 hb3 hes2 hg2 q0 q1 hbx hf hcp hroom0 hroom1 hbm hb34 hdr hz hzi hown hZ hY hw4
  have hcp := HC.out
  have hb04 := bthen hb03 HB34.out
  have hes4 : Es w4 (some ⟨w3.heap.size, 0, none⟩) a := es_block (rest := List.replicate 6 (Value.string ByteArray.empty)) (by rw [← HY.out]; exact HR1.out)
  have hesb4 := hesb.below HB34.out
  obtain ⟨hg4, q0, q1⟩ := Hbx.out.below HB34.out
  have hR4 : w3.heap.size < w4.heap.size := lt_of_block HR1.out
  have hRw : w.heap.size ≤ w3.heap.size := hb03.size
  have hBR : ∀ ad, B = some ad → a.length = 0 ∨ ad.block < w3.heap.size := fun ad e => by
    rcases Nat.eq_zero_or_pos a.length with h0 | h0
    · exact .inl h0
    · obtain ⟨ad', e', hlt, _⟩ := hesb h0
      rw [e] at e'
      cases e'
      exact .inr hlt
  have HBR := Lib.hid hBR
  clear hBR HC
  go_wp2_with fail
  generalize w3.heap.size = R at *
  clear hcp hmk HW4 hesb HB34 hb03 Hbx
  refine (with_any _ m z a x w4 hes4 Hm.out (by omega) (by omega)).mono ?_
  rintro e w5 ⟨i1, f1, v1, rfl, hp1, hown1, hb5⟩
  have hl1 := hp1.wth_len
  rw [Hm.out] at hl1
  generalize wth a x i1 f1 = a1 at *
  obtain ⟨A1, c1, rfl, hc1, hes1⟩ := hown1.form
  obtain ⟨m1, hm1⟩ : ∃ m1, a1.length = m1 := ⟨_, rfl⟩
  rw [hm1] at hc1 hl1 hown1 ⊢
  have hm1b : m1 ≤ 301 := by rw [hl1]; split <;> omega
  have hx1 := XR.of_own hown1 hm1
  have hge1 := hown1.obk_ge
  obtain ⟨hg5, q0_5, q1_5⟩ := (show Box w4 g x from ⟨hg4, q0, q1⟩).below hb5
  have HG1 := Lib.hid hge1
  clear hp1 hl1 hes1 hown1 hm1 hge1
  have hb45 : Below w4.heap.size w4 w5 := hb5
  clear hb5 q0 q1
  have q0 := q0_5
  have q1 := q1_5
  clear q0_5 q1_5
  go_wp2_with fail
  refine (without_any _ m z a x.k w5 (hes4.below hb45) Hm.out (by omega) (by omega)).mono ?_
  rintro e w6 ⟨i2, f2, v2, rfl, hp2, hown2, hb6⟩
  have hl2 := hp2.wout_len
  rw [Hm.out] at hl2
  generalize wout a i2 f2 = a2 at *
  obtain ⟨A2, c2, rfl, hc2, hes2⟩ := hown2.form
  obtain ⟨m2, hm2⟩ : ∃ m2, a2.length = m2 := ⟨_, rfl⟩
  rw [hm2] at hc2 hl2 hown2 ⊢
  have hm2b : m2 ≤ 301 := by rw [hl2]; split <;> omega
  have hx2' := XR.of_own hown2 hm2
  have hge2 := hown2.obk_ge
  have hb46 := bthen hb45 hb6
  replace hx1 := hx1.below hb6
  obtain ⟨hg6, q0_6, q1_6⟩ := (show Box w5 g x from ⟨hg5, q0, q1⟩).below hb6
  have HG2 := Lib.hid (fun g h => Nat.le_trans hb45.size (hge2 g h))
  clear hp2 hl2 hes2 hown2 hm2 hge2 q0 q1 hb6 hb45
  go_wp2_with fail
  generalize x.k ++ (⟨#[120]⟩ : ByteArray) = kx
  refine (without_any _ m z a kx w6 (hes4.below hb46) Hm.out (by omega) (by omega)).mono ?_
  rintro e w7 ⟨i3, f3, v3, rfl, hp3, hown3, hb7⟩
  have hl3 := hp3.wout_len
  rw [Hm.out] at hl3
  generalize wout a i3 f3 = a3 at *
  obtain ⟨A3, c3, rfl, hc3, hes3⟩ := hown3.form
  obtain ⟨m3, hm3⟩ : ∃ m3, a3.length = m3 := ⟨_, rfl⟩
  rw [hm3] at hc3 hl3 hown3 ⊢
  have hm3b : m3 ≤ 301 := by rw [hl3]; split <;> omega
  have hx3' := XR.of_own hown3 hm3
  have hge3 := hown3.obk_ge
  have hb47 := bthen hb46 hb7
  replace hx1 := hx1.below hb7
  replace hx2' := hx2'.below hb7
  have HG3 := Lib.hid (fun g h => Nat.le_trans hb46.size (hge3 g h))
  have HR7 : Hid (w7.heap[R]? = some (.cells (ecells a ++ List.replicate 6 (Value.string ByteArray.empty)).toArray 30 (0, 0))) := by
    have := (hb47.block R hR4).trans HR1.out
    rw [HY.out] at this
    exact this
  have HX1 := Lib.hid hx1
  have HX2 := Lib.hid hx2'
  have HX3 := Lib.hid hx3'
  have hw47 := hb47.size
  have HB47 := Lib.hid hb47
  clear hp3 hl3 hes3 hown3 hm3 hge3 q0_6 q1_6 hb7 hb46 hx1 hx2' hx3' hb47
  have hq := neq_same ByteArray.empty ByteArray.empty
  have hz3 : z = m + 3 := by omega
  subst hz3
  go_wp2
  simp only [show decide ((2000 : Int) < (x.k.size : Int) + (x.v.size : Int)) = false from decide_eq_false (by omega)]
  go_loop [13] (fun i => ∃ k : Nat, m ≤ k ∧ k ≤ m + 3 ∧ i = .int .i64 k) (fun i => m + 3 - (intOf i).toNat)
  case atStart => exact ⟨m, Nat.le_refl _, by omega, rfl⟩
  case round =>
    obtain ⟨k, hk1, hk2, rfl⟩ := hrel
    by_cases hlt : k < m + 3
    · have r0 : w7.cell? ⟨R, k * 2, none⟩ = some (.string ByteArray.empty) := room_cell HR7.out (by rw [Hm.out]; omega) (by rw [Hm.out]; omega)
      have r1 : w7.cell? ⟨R, k * 2 + 1, none⟩ = some (.string ByteArray.empty) := room_cell HR7.out (by rw [Hm.out]; omega) (by rw [Hm.out]; omega)
      go_wp2
      exact ⟨⟨k + 1, by omega, by omega, by go_num⟩, by simp [intOf]; omega⟩
    have HKP : Hid (Kp w4 w7 A1 A2 A3 m1 m2 m3) := Lib.hid ⟨HX1.out, HX2.out, HX3.out, HB47.out⟩
    clear HX1 HX2 HX3 HB47 hk1 hk2
    go_wp2
    go_loopw [85] (fun i wq => ∃ j : Nat, j ≤ m1 ∧ i = .int .i64 j ∧ Hid (Kp w4 wq A1 A2 A3 m1 m2 m3)) (fun i _ => m1 - (intOf i).toNat)
    case atStart => exact ⟨0, Nat.zero_le _, rfl, HKP⟩
    case round =>
      obtain ⟨j, hj, rfl, HKQ⟩ := hrel
      by_cases hlt : j < m1
      · obtain ⟨gq, rfl, hgl, hcs⟩ := HKQ.out.1 (by omega)
        have hgge : w4.heap.size ≤ gq := HG1.out gq rfl
        obtain ⟨⟨u, hu⟩, hfr⟩ := hcs (j * 2 + 1) (by omega)
        clear hcs
        go_wp2
        exact ⟨⟨j + 1, by omega, by go_num, Lib.hid (HKQ.out.set (p := ⟨gq, j * 2 + 1, none⟩) hgge _)⟩, by simp [intOf]; omega⟩
      have HKP := HKQ
      clear HKQ
      go_wp2
      go_loopw [95] (fun i wq => ∃ j : Nat, j ≤ m2 ∧ i = .int .i64 j ∧ Hid (Kp w4 wq A1 A2 A3 m1 m2 m3)) (fun i _ => m2 - (intOf i).toNat)
      case atStart => exact ⟨0, Nat.zero_le _, rfl, HKP⟩
      case round =>
        obtain ⟨j, hj, rfl, HKQ⟩ := hrel
        by_cases hlt : j < m2
        · obtain ⟨gq, rfl, hgl, hcs⟩ := HKQ.out.2.1 (by omega)
          have hgge : w4.heap.size ≤ gq := HG2.out gq rfl
          obtain ⟨⟨u, hu⟩, hfr⟩ := hcs (j * 2) (by omega)
          clear hcs
          go_wp2
          exact ⟨⟨j + 1, by omega, by go_num, Lib.hid (HKQ.out.set (p := ⟨gq, j * 2, none⟩) hgge _)⟩, by simp [intOf]; omega⟩
        have HKP := HKQ
        clear HKQ
        go_wp2
        go_loopw [105] (fun i wq => ∃ j : Nat, j ≤ m3 ∧ i = .int .i64 j ∧ Hid (Kp w4 wq A1 A2 A3 m1 m2 m3)) (fun i _ => m3 - (intOf i).toNat)
        case atStart => exact ⟨0, Nat.zero_le _, rfl, HKP⟩
        case round =>
          obtain ⟨j, hj, rfl, HKQ⟩ := hrel
          by_cases hlt : j < m3
          · obtain ⟨gq, rfl, hgl, hcs⟩ := HKQ.out.2.2.1 (by omega)
            have hgge : w4.heap.size ≤ gq := HG3.out gq rfl
            obtain ⟨⟨u, hu⟩, hfr⟩ := hcs (j * 2 + 1) (by omega)
            clear hcs
            go_wp2
            exact ⟨⟨j + 1, by omega, by go_num, Lib.hid (HKQ.out.set (p := ⟨gq, j * 2 + 1, none⟩) hgge _)⟩, by simp [intOf]; omega⟩
          have HKP := HKQ
          clear HKQ
          have hbe := HKP.out.2.2.2
          go_wp2_with fail
          refine (same_any _ B m (m + 3) d a wr (hes4.below hbe) (hesb4.below hbe) Hm.out (by omega)).mono ?_
          rintro e w8 ⟨rfl, hb8⟩
          have hbl := bthen hb04 (bthen hbe hb8)
          clear hb8 hbe
          go_wp2
          go_ret
          exact ⟨rfl, hbl⟩


end Go.Proofs.Ytpkmnioehnlmmaa

namespace Go.Proofs.Ytpkmnioehnlmmaa.pairKeeps
open Go.ChangeShapes Go.WideShapes Go.ChangeAt Go.RowKit
open Go.ChangeMaps (open_string shut_string)
set_option linter.unusedVariables false

theorem own : ownKnob Try.prog.godebug = none := by kernel_rfl
theorem laidOut : laidOutB Try.prog = true := by kernel_rfl

set_option maxRecDepth 100000 in
theorem lifted (os : Os) (started : os.Started) (H : Type) (enc : TypeId × Value → H) :
    ReturnsInHanded {} Try.checked os 7 .any (Rows.pairKeepsSpec.pre6 enc Try.prog Try.f7 Rows.pairKeepsRow.domain false) (Rows.pairKeepsSpec.post enc Try.prog Try.f7 false true false false) := by
  refine returnsInHanded_of_change_sized (C := Try.checked) own started (by kernel_rfl) Try.func7
    (ChangeSpec.witness6 (enc := enc) (C := Try.checked) false ⟨#[], #[.slice none 0 0, .agg #[.string ByteArray.empty, .string ByteArray.empty]], []⟩ 8 (by kernel_rfl) (by kernel_rfl) (by kernel_rfl) (by kernel_rfl)) ?_
  intro W base args ds gs before hval0 hW hcnd hsz0 _
  have hval : ∀ (j : Nat) t v, Try.f7.params[j]? = some t → args[j]? = some v → Value.okWide Try.prog W .any base t v := hval0
  have hsz : (DataW.weightsEach Try.prog (Try.f7.params.toList ++ Rows.pairKeepsSpec.plain.varTypes Try.prog) (ds ++ gs)).all (· ≤ reachBytes) = true := hsz0
  have hW' := hW
  obtain ⟨p, q, hA0, hV, rfl, hfz, hnd⟩ := hW
  have hA : DataW.TrodAll enc Try.prog W 0 (fun _ => true) true Try.f7.params.toList args.toList ds p := hA0
  rw [Try.params7] at hA hval hsz
  obtain ⟨v0, vs0, d0, ds0, p0, q0, hargs, rfl, rfl, h0, r0⟩ := trodAll_cons hA
  obtain ⟨v1, vs1, d1, ds1, p1, q1, rfl, rfl, rfl, h1, r1⟩ := trodAll_cons r0
  obtain ⟨rfl, rfl, rfl⟩ := trodAll_nil r1
  obtain rfl : args = #[v0, v1] := by cases args; simp_all
  obtain ⟨rfl, rfl⟩ := trodVars_none hV
  obtain ⟨A0, n0, c0, rfl⟩ := okWide_slice Try.underlying22 (hval 0 22 v0 rfl rfl)
  have k0 := h0
  have lt0 : ∀ x ∈ p0, x.block < W.heap.size := by obtain ⟨m, hm⟩ := k0; exact DataW.trod_lt m _ _ _ hm
  obtain ⟨l0, w0⟩ := open_ents h0 (fun m hm => of_decide_eq_true (List.all_eq_true.1 hsz _ (DataW.weights_mem_each (j := 0) (t := 22) rfl rfl m hm)))
  have k1 := h1
  have lt1 : ∀ x ∈ p1, x.block < W.heap.size := by obtain ⟨m, hm⟩ := k1; exact DataW.trod_lt m _ _ _ hm
  obtain ⟨a1, rfl, w1⟩ := open_ent (hval 1 30 v1 rfl rfl) h1 (fun m hm => of_decide_eq_true (List.all_eq_true.1 hsz _ (DataW.weights_mem_each (j := 1) (t := 30) rfl rfl m hm)))
  clear hA0 hval0 hsz hsz0
  refine (pairKeeps_walk A0 n0 c0 l0 a1 W w0 w1).mono fun e W' ⟨he, bel⟩ => ?_
  subst he
  exact ⟨_, rfl, _, _, _, [], _, [], hW', trodAll_mk1 (shut_bool Try.underlying4 _), (trodAll_cons_mk (Below.trod laidOut (by kernel_rfl) (of_decide_eq_true (by kernel_rfl)) k0 bel lt0) (trodAll_cons_mk (Below.trod laidOut (by kernel_rfl) (of_decide_eq_true (by kernel_rfl)) k1 bel lt1) trodAll_mk0)), rfl, bel.frame _, fun h => by cases h⟩

theorem over : Rows.pairKeepsRow.holds Try.pinned (OpenSpec.ofChange Rows.pairKeepsSpec) :=
  OpenClaim.holds_of_wide 7 Try.f7 rfl rfl rfl rfl rfl rfl rfl ⟨rfl, rfl, rfl, rfl, rfl⟩ rfl rfl rfl rfl rfl (by kernel_rfl) Try.func7 (by kernel_rfl)
    (of_decide_eq_true (by kernel_rfl)) (by unfold Func.isWrapper; first | (rw [if_pos (by decide +kernel)]; kernel_rfl) | (rw [if_neg (by decide +kernel)]; exact ⟨rfl, rfl⟩))
    (fun os started H enc _ => lifted os started H enc)

theorem proved : Rows.PairKeepsSaid := over
#print axioms proved

end Go.Proofs.Ytpkmnioehnlmmaa.pairKeeps
