/-
  PairTakes: what is put in is found and nothing else changes, and taken out it is as if it had never been there, for every list and entry; no condition beyond the row's.
-/
import Derived.Test.YtpkmnioehnlmmaaPairAwake
import Derived.Test.YtpkmnioehnlmmaaPairBuilt
import Derived.Test.YtpkmnioehnlmmaaPairOpen
import Derived.Test.YtpkmnioehnlmmaaDrawn
namespace Go.Proofs.Ytpkmnioehnlmmaa
open Go.RowKit Go.Sort
set_option linter.unusedVariables false

set_option maxRecDepth 100000 in
set_option maxHeartbeats 4000000 in
theorem pairTakes_walk (A : Option Addr) (n c : Nat) (l : List Ent) (x : Ent) (w : World) (ha : Arg w A n c l) (hx : ArgE x) :
    Calls Try.prog 6 #[.slice A n c, .agg #[.string x.k, .string x.v]] w fun e w' => e = .returned (.bool true) ∧ Below w.heap.size w w' := by
  obtain ⟨hlen, hcap, hsm, hes, hstr⟩ := ha
  obtain ⟨hxk, hxv⟩ := hx
  have Hl := Lib.hid hlen
  have HS := Lib.hid hstr
  clear hlen hstr
  go_enter Try.func6, Try.ntmps6
  go_wp2_with fail
  refine (awake_any _).mono ?_
  rintro e w1 ⟨rfl, hb1⟩
  have hb0 : Below w.heap.size w (w.alloc (.cells #[.string x.k, .string x.v] 30)) := (Below.refl _ _).alloc (Nat.le_refl _) _
  have hbx := (Box.new w x 30).below hb1
  have hb01 := bthen hb0 hb1
  have Hbx := Lib.hid hbx
  generalize hge : w.heap.size = g at hbx Hbx ⊢
  clear hb0 hb1 hbx
  rw [hge] at hb01
  go_wp2_with fail
  refine (few_any A n c l w1 (hes.below (by rw [hge]; exact hb01)) Hl.out hsm HS.out).mono ?_
  rintro e w2 ⟨rfl, hb2⟩
  have hb02 : Below w.heap.size w w2 := bthen (by rw [hge]; exact hb01) hb2
  have hes2 := hes.below hb02
  have hbx := Hbx.out.below hb2
  clear Hbx hb2 hb01 hes w1
  have Hge := Lib.hid hge
  clear hge
  obtain ⟨hg2, q0, q1⟩ := hbx
  by_cases hf : Few l
  case neg =>
    rw [decide_eq_false hf]
    go_wp2_with fail
    refine (awake_any w2).mono ?_
    rintro e w3 ⟨rfl, hb3⟩
    go_wp2
    go_ret
    exact ⟨rfl, bthen hb02 hb3⟩
  rw [decide_eq_true hf]
  have hn : n ≤ 300 := by have := hf.1; rw [Hl.out] at this; exact this
  by_cases hx2 : 2000 < x.k.size + x.v.size
  case pos =>
    go_wp2_with fail
    refine (awake_any w2).mono ?_
    rintro e w3 ⟨rfl, hb3⟩
    go_wp2
    go_ret
    exact ⟨rfl, bthen hb02 hb3⟩
  go_wp2_with fail
  refine (built_any A n c l w2 hes2 Hl.out hn).mono ?_
  rintro e w3 ⟨v, rfl, hown, hb3⟩
  have hs := sorted_builtOf l
  have hlen : (builtOf l).length ≤ 300 := by
    have := builtOf_len_take l l.length
    rw [List.take_length, Hl.out] at this
    omega
  have hb03 := bthen hb02 hb3
  have hbx := (show Box w2 g x from ⟨hg2, q0, q1⟩).below hb3
  obtain ⟨B, d, rfl, hd, hesb⟩ := hown.form
  generalize builtOf l = a at *
  obtain ⟨m, hm⟩ : ∃ m, a.length = m := ⟨_, rfl⟩
  rw [hm] at hd hlen ⊢
  have Hm := Lib.hid hm
  have Hbx := Lib.hid hbx
  obtain ⟨_, q03, q13⟩ := hbx
  clear hm hown hb02 hb3 hes2 hg2 q0 q1 hf
  go_wp2_with fail
  refine (without_any B m d a x.k w3 hesb Hm.out hd (by omega)).mono ?_
  rintro e w4 ⟨i1, f1, v1, rfl, hp1, hown1, hb4⟩
  rw [hp1.wout hs] at hown1
  have HO1 := Lib.hid hown1
  obtain ⟨_, q04, q14⟩ := Hbx.out.below hb4
  clear hp1 hown1 q03 q13
  go_wp2_with fail
  refine (with_any B m d a x w4 (hesb.below hb4) Hm.out hd (by omega)).mono ?_
  rintro e w5 ⟨i2, f2, v2, rfl, hp2, hown2, hb5⟩
  rw [hp2.wth hs] at hown2
  have hb35 := bthen hb4 hb5
  replace HO1 := Lib.hid (HO1.out.below hb5)
  have hlp := put_len a x hs
  rw [Hm.out] at hlp
  have hs2 := sorted_put hs x
  obtain ⟨A2, c2, e2, hc2, hE2⟩ := hown2.form
  obtain ⟨m2, hm2⟩ : ∃ m2, (put a x).length = m2 := ⟨_, rfl⟩
  rw [hm2] at e2 hc2 hlp
  subst e2
  have Hm2 := Lib.hid hm2
  obtain ⟨_, q05, q15⟩ := Hbx.out.below hb35
  clear hp2 hown2 hb4 hb5 hm2 q04 q14
  go_wp2_with fail
  refine (find_any A2 m2 c2 (put a x) x.k w5 hE2 Hm2.out (by omega)).mono ?_
  rintro e w6 ⟨i, f, rfl, hp3, hb6⟩
  have hft : f = true := (hp3.mem hs2).2 ⟨x, mem_put.2 (.inl rfl), rfl⟩
  subst hft
  obtain ⟨z, hz, hzk⟩ := hp3.found.1 rfl
  have hzx : z = x := by
    rcases mem_put.1 (List.mem_of_getElem? hz) with h | ⟨_, h⟩
    · exact h
    · exact absurd hzk h
  subst hzx
  have him : i < m2 := by have := hp3.lt; rw [Hm2.out] at this; exact this
  have HP3 := Lib.hid hp3
  have Hz := Lib.hid hz
  have hb36 := bthen hb35 hb6
  replace HO1 := Lib.hid (HO1.out.below hb6)
  replace hE2 := hE2.below hb6
  obtain ⟨_, q06, q16⟩ := Hbx.out.below hb36
  clear hp3 hz hzk hb35 hb6 q05 q15
  go_wp2_with fail
  refine (without_any A2 m2 c2 (put a z) z.k w6 hE2 Hm2.out hc2 (by omega)).mono ?_
  rintro e w7 ⟨i4, f4, v4, rfl, hp4, hown4, hb7⟩
  obtain ⟨rfl, rfl⟩ := hp4.unique hs2 HP3.out
  rw [hp4.wout hs2, del_put] at hown4
  have hb37 := bthen hb36 hb7
  replace HO1 := Lib.hid (HO1.out.below hb7)
  replace hE2 := hE2.below hb7
  obtain ⟨A4, c4, e4, hc4, hE4⟩ := hown4.form
  obtain ⟨m4, hm4⟩ : ∃ m4, (del a z.k).length = m4 := ⟨_, rfl⟩
  obtain ⟨A1, c1, e1, hc1, hE1⟩ := HO1.out.form
  rw [hm4] at e4 hc4 e1 hc1
  subst e4 e1
  have hdl : m4 ≤ m := by
    have := hp4.wout_len
    rw [hp4.wout hs2, del_put, hm4, Hm2.out] at this
    simp only [if_true] at this
    omega
  have Hm4 := Lib.hid hm4
  have hs4 := sorted_del hs z.k
  obtain ⟨_, q07, q17⟩ := Hbx.out.below hb37
  clear hp4 hown4 hb36 hb7 hm4 HO1 HP3 q06 q16
  go_wp2_with fail
  refine (find_any A4 m4 c4 (del a z.k) z.k w7 hE4 Hm4.out (by omega)).mono ?_
  rintro e w8 ⟨i5, f5, rfl, hp5, hb8⟩
  have hff : f5 = false := by
    cases f5 with
    | false => rfl
    | true =>
      obtain ⟨y, hy, hyk⟩ := (hp5.mem hs4).1 rfl
      exact absurd hyk (mem_del.1 hy).2
  subst hff
  have hb38 := bthen hb37 hb8
  replace hE1 := hE1.below hb8
  replace hE2 := hE2.below hb8
  replace hE4 := hE4.below hb8
  obtain ⟨hg8, q08, q18⟩ := Hbx.out.below hb38
  clear hp5 hb37 hb8 q07 q17
  go_wp2
  refine wp_region_segs [([0, 1, 2, 3, 4, 5, 6, 7, 8, 9, 10, 11, 12, 13, 14, 15, 16, 17, 18, 19, 20, 21, 22, 23, 24], 25), ([26, 27, 28, 29, 31], 30), ([], 32)] [33, 34] (by kernel_rfl) (by kernel_rfl) (by kernel_rfl) (by kernel_rfl) (by intro c a d v w h; cases d <;> exact h) ?_
  have b8d : Below w8.heap.size w8 w8.drew := (Below.refl _ _).drew
  replace hb38 := bthen hb38 b8d
  replace hE1 := hE1.below b8d
  replace hE2 := hE2.below b8d
  replace hE4 := hE4.below b8d
  clear b8d q08 q18 hg8
  generalize w8.drew = w9 at *
  obtain ⟨hg9, q0, q1⟩ := Hbx.out.below hb38
  obtain ⟨ad2, z2, e2, hz2, hl2, r0, r1⟩ := hE2.at_ (i := i4) (by rw [Hm2.out]; exact him)
  subst e2
  obtain rfl : z = z2 := Option.some.inj (Hz.out.symm.trans hz2)
  clear hz2
  have Q0 : ∀ d os, (grow (redrawn w9 d) os).cell? ⟨g, 0, none⟩ = some (.string z.k) := fun d os => ((below_regrown w9 d os).cell (p := ⟨g, 0, none⟩) hg9).trans q0
  have Q1 : ∀ d os, (grow (redrawn w9 d) os).cell? ⟨g, 1, none⟩ = some (.string z.v) := fun d os => ((below_regrown w9 d os).cell (p := ⟨g, 1, none⟩) hg9).trans q1
  have R0 : ∀ d os, (grow (redrawn w9 d) os).cell? (ad2.add (i4 * 2)) = some (.string z.k) := fun d os => ((below_regrown w9 d os).cell (by rw [block_of_add]; exact hl2)).trans r0
  have R1 : ∀ d os, (grow (redrawn w9 d) os).cell? ⟨(ad2.add (i4 * 2)).block, (ad2.add (i4 * 2)).off + 1, none⟩ = some (.string z.v) := fun d os => ((below_regrown w9 d os).cell (by rw [block_of_add]; exact hl2)).trans r1
  have hq := eql_same z.k z.v
  have hd1 : decide ((i4 : Int) < (m2 : Int)) = true := decide_eq_true (by omega)
  refine wpSegs_more ?_
  simp only [pick, List.getElem?_cons_zero, List.getElem?_cons_succ]
  repeat (first | go_big_quiet_step (fail) | quiet_step (fail))
  refine wpQuiet_nil ?_
  refine wpOp_heavy rfl (by rfl) (fun K hK => ?_)
  go_simp
  refine (same_any A4 A1 m4 c4 c1 (del a z.k) w9 hE4 hE1 Hm4.out (by omega)).mono ?_
  rintro e w10 ⟨rfl, hb10⟩
  refine hK _ _ hb10 ?_
  clear hK K
  replace hb38 := bthen hb38 hb10
  replace hE1 := hE1.below hb10
  replace hE2 := hE2.below hb10
  clear Q0 Q1 R0 R1 q0 q1 r0 r1 hb10 hq hd1 hg9 hl2
  obtain ⟨hg9, q0, q1⟩ := Hbx.out.below hb38
  have Q0 : ∀ d os, (grow (redrawn w10 d) os).cell? ⟨g, 0, none⟩ = some (.string z.k) := fun d os => ((below_regrown w10 d os).cell (p := ⟨g, 0, none⟩) hg9).trans q0
  have Q1 : ∀ d os, (grow (redrawn w10 d) os).cell? ⟨g, 1, none⟩ = some (.string z.v) := fun d os => ((below_regrown w10 d os).cell (p := ⟨g, 1, none⟩) hg9).trans q1
  refine wpSegs_more ?_
  simp only [pick, List.getElem?_cons_zero, List.getElem?_cons_succ]
  repeat (first | go_big_quiet_step (fail) | quiet_step (fail))
  refine wpQuiet_nil ?_
  refine wpOp_heavy rfl (by rfl) (fun K hK => ?_)
  go_simp
  refine (with_any A1 m4 c1 (del a z.k) z w10 hE1 Hm4.out hc1 (by omega)).mono ?_
  rintro e w11 ⟨i6, f6, v6, rfl, hp6, hown6, hb11⟩
  rw [hp6.wth hs4, put_del] at hown6
  obtain ⟨A6, c6, e6, hc6, hE6⟩ := hown6.form
  rw [Hm2.out] at e6
  subst e6
  refine hK _ _ hb11 ?_
  clear hK K Q0 Q1 q0 q1 hp6 hown6 hc6
  replace hb38 := bthen hb38 hb11
  replace hE2 := hE2.below hb11
  clear hb11
  refine wpSegs_more ?_
  simp only [pick]
  refine wpQuiet_nil ?_
  refine wpOp_heavy rfl (by rfl) (fun K hK => ?_)
  go_simp
  refine (same_any A6 (some ad2) m2 c6 c2 (put a z) w11 hE6 hE2 Hm2.out (by omega)).mono ?_
  rintro e w12 ⟨rfl, hb12⟩
  refine hK _ _ hb12 ?_
  clear hK K
  have hbe := bthen hb03 (bthen hb38 hb12)
  clear hb38 hb12
  refine wpSegs_last ?_
  simp only [pick, List.getElem?_cons_zero, List.getElem?_cons_succ]
  repeat (first | go_big_quiet_step (fail) | quiet_step (fail))
  refine wpQuiet_nil ?_
  go_wp2
  go_ret
  exact ⟨rfl, hbe⟩


end Go.Proofs.Ytpkmnioehnlmmaa

namespace Go.Proofs.Ytpkmnioehnlmmaa.pairTakes
open Go.ChangeShapes Go.WideShapes Go.ChangeAt Go.RowKit
open Go.ChangeMaps (open_string shut_string)
set_option linter.unusedVariables false

theorem own : ownKnob Try.prog.godebug = none := by kernel_rfl
theorem laidOut : laidOutB Try.prog = true := by kernel_rfl

set_option maxRecDepth 100000 in
theorem lifted (os : Os) (started : os.Started) (H : Type) (enc : TypeId × Value → H) :
    ReturnsInHanded {} Try.checked os 6 .any (Rows.pairTakesSpec.pre6 enc Try.prog Try.f6 Rows.pairTakesRow.domain false) (Rows.pairTakesSpec.post enc Try.prog Try.f6 false true false false) := by
  refine returnsInHanded_of_change_sized (C := Try.checked) own started (by kernel_rfl) Try.func6
    (ChangeSpec.witness6 (enc := enc) (C := Try.checked) false ⟨#[], #[.slice none 0 0, .agg #[.string ByteArray.empty, .string ByteArray.empty]], []⟩ 8 (by kernel_rfl) (by kernel_rfl) (by kernel_rfl) (by kernel_rfl)) ?_
  intro W base args ds gs before hval0 hW hcnd hsz0 _
  have hval : ∀ (j : Nat) t v, Try.f6.params[j]? = some t → args[j]? = some v → Value.okWide Try.prog W .any base t v := hval0
  have hsz : (DataW.weightsEach Try.prog (Try.f6.params.toList ++ Rows.pairTakesSpec.plain.varTypes Try.prog) (ds ++ gs)).all (· ≤ reachBytes) = true := hsz0
  have hW' := hW
  obtain ⟨p, q, hA0, hV, rfl, hfz, hnd⟩ := hW
  have hA : DataW.TrodAll enc Try.prog W 0 (fun _ => true) true Try.f6.params.toList args.toList ds p := hA0
  rw [Try.params6] at hA hval hsz
  obtain ⟨v0, vs0, d0, ds0, p0, q0, hargs, rfl, rfl, h0, r0⟩ := trodAll_cons hA
  obtain ⟨v1, vs1, d1, ds1, p1, q1, rfl, rfl, rfl, h1, r1⟩ := trodAll_cons r0
  obtain ⟨rfl, rfl, rfl⟩ := trodAll_nil r1
  obtain rfl : args = #[v0, v1] := by cases args; simp_all
  obtain ⟨rfl, rfl⟩ := trodVars_none hV
  obtain ⟨A0, n0, c0, rfl⟩ := okWide_slice Try.underlying22 (hval 0 22 v0 rfl rfl)
  have k0 := h0
  have lt0 : ∀ x ∈ p0, x.block < W.heap.size := by obtain ⟨m, hm⟩ := k0; exact DataW.trod_lt m _ _ _ hm
  obtain ⟨l0, w0⟩ := open_ents h0 (fun m hm => of_decide_eq_true (List.all_eq_true.1 hsz _ (DataW.weights_mem_each (j := 0) (t := 22) rfl rfl m hm)))
  have k1 := h1
  have lt1 : ∀ x ∈ p1, x.block < W.heap.size := by obtain ⟨m, hm⟩ := k1; exact DataW.trod_lt m _ _ _ hm
  obtain ⟨a1, rfl, w1⟩ := open_ent (hval 1 30 v1 rfl rfl) h1 (fun m hm => of_decide_eq_true (List.all_eq_true.1 hsz _ (DataW.weights_mem_each (j := 1) (t := 30) rfl rfl m hm)))
  clear hA0 hval0 hsz hsz0
  refine (pairTakes_walk A0 n0 c0 l0 a1 W w0 w1).mono fun e W' ⟨he, bel⟩ => ?_
  subst he
  exact ⟨_, rfl, _, _, _, [], _, [], hW', trodAll_mk1 (shut_bool Try.underlying4 _), (trodAll_cons_mk (Below.trod laidOut (by kernel_rfl) (of_decide_eq_true (by kernel_rfl)) k0 bel lt0) (trodAll_cons_mk (Below.trod laidOut (by kernel_rfl) (of_decide_eq_true (by kernel_rfl)) k1 bel lt1) trodAll_mk0)), rfl, bel.frame _, fun h => by cases h⟩

theorem over : Rows.pairTakesRow.holds Try.pinned (OpenSpec.ofChange Rows.pairTakesSpec) :=
  OpenClaim.holds_of_wide 6 Try.f6 rfl rfl rfl rfl rfl rfl rfl ⟨rfl, rfl, rfl, rfl, rfl⟩ rfl rfl rfl rfl rfl (by kernel_rfl) Try.func6 (by kernel_rfl)
    (of_decide_eq_true (by kernel_rfl)) (by unfold Func.isWrapper; first | (rw [if_pos (by decide +kernel)]; kernel_rfl) | (rw [if_neg (by decide +kernel)]; exact ⟨rfl, rfl⟩))
    (fun os started H enc _ => lifted os started H enc)

theorem proved : Rows.PairTakesSaid := over
#print axioms proved

end Go.Proofs.Ytpkmnioehnlmmaa.pairTakes
