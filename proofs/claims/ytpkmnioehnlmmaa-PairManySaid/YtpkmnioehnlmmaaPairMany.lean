/-
  PairMany: each key of a sorted list is found at its place, and lengths rise or fall by one, or stay, for every list and entry; no condition beyond the row's.
-/
import Derived.Test.YtpkmnioehnlmmaaPairAwake
import Derived.Test.YtpkmnioehnlmmaaPairBuilt
import Derived.Test.YtpkmnioehnlmmaaPairOpen
namespace Go.Proofs.Ytpkmnioehnlmmaa
open Go.RowKit
set_option linter.unusedVariables false

set_option maxRecDepth 100000 in
set_option maxHeartbeats 4000000 in
theorem pairMany_walk (A : Option Addr) (n c : Nat) (l : List Ent) (x : Ent) (w : World) (ha : Arg w A n c l) (hx : ArgE x) :
    Calls Try.prog 8 #[.slice A n c, .agg #[.string x.k, .string x.v]] w fun e w' => e = .returned (.bool true) ∧ Below w.heap.size w w' := by
  obtain ⟨hlen, hcap, hsm, hes, hstr⟩ := ha
  obtain ⟨hxk, hxv⟩ := hx
  have Hl := Lib.hid hlen
  have HS := Lib.hid hstr
  clear hlen hstr
  go_enter Try.func8, Try.ntmps8
  go_wp2_with fail
  refine (awake_any _).mono ?_
  rintro e w1 ⟨rfl, hb1⟩
  have hb0 : Below w.heap.size w (w.alloc (.cells #[.string x.k, .string x.v] 30)) := (Below.refl _ _).alloc (Nat.le_refl _) _
  have hbx := (Box.new w x 30).below hb1
  have hb01 := bthen hb0 hb1
  have Hbx := Lib.hid hbx
  generalize hge : w.heap.size = g at hbx Hbx ⊢
  clear hb0 hb1 hbx
  rw [hge] at hb01
  go_wp2_with fail
  refine (few_any A n c l w1 (hes.below (by rw [hge]; exact hb01)) Hl.out hsm HS.out).mono ?_
  rintro e w2 ⟨rfl, hb2⟩
  have hb02 : Below w.heap.size w w2 := bthen (by rw [hge]; exact hb01) hb2
  have hes2 := hes.below hb02
  have hbx := Hbx.out.below hb2
  clear Hbx hb2 hb01 hes w1
  have Hge := Lib.hid hge
  clear hge
  obtain ⟨hg2, q0, q1⟩ := hbx
  by_cases hf : Few l
  case neg =>
    rw [decide_eq_false hf]
    go_wp2_with fail
    refine (awake_any w2).mono ?_
    rintro e w3 ⟨rfl, hb3⟩
    go_wp2
    go_ret
    exact ⟨rfl, bthen hb02 hb3⟩
  rw [decide_eq_true hf]
  have hn : n ≤ 300 := by have := hf.1; rw [Hl.out] at this; exact this
  by_cases hx2 : 2000 < x.k.size + x.v.size
  case pos =>
    go_wp2_with fail
    refine (awake_any w2).mono ?_
    rintro e w3 ⟨rfl, hb3⟩
    go_wp2
    go_ret
    exact ⟨rfl, bthen hb02 hb3⟩
  go_wp2_with fail
  refine (built_any A n c l w2 hes2 Hl.out hn).mono ?_
  rintro e w3 ⟨v, rfl, hown, hb3⟩
  have hs := sorted_builtOf l
  have hlen : (builtOf l).length ≤ 300 := by
    have := builtOf_len_take l l.length
    rw [List.take_length, Hl.out] at this
    omega
  have hb03 := bthen hb02 hb3
  have hbx := (show Box w2 g x from ⟨hg2, q0, q1⟩).below hb3
  obtain ⟨B, d, rfl, hd, hesb⟩ := hown.form
  generalize builtOf l = a at *
  obtain ⟨m, hm⟩ : ∃ m, a.length = m := ⟨_, rfl⟩
  rw [hm] at hd hlen ⊢
  have Hm := Lib.hid hm
  have Hbx := Lib.hid hbx
  clear hm hown hb02 hb3 hes2 hg2 q0 q1 hbx hf
  go_wp2
  go_loopw [36] (fun i wr => ∃ k : Nat, k ≤ m ∧ i = .int .i64 k ∧ Below w3.heap.size w3 wr) (fun i _ => m - (intOf i).toNat)
  case atStart => exact ⟨0, Nat.zero_le _, rfl, Below.refl _ _⟩
  case round =>
    obtain ⟨k, hk, rfl, hbr⟩ := hrel
    by_cases hlt : k < m
    · obtain ⟨ad, y, rfl, hy, hl, h1, h2⟩ := (hesb.below hbr).at_ (i := k) (by rw [Hm.out]; exact hlt)
      have HP := Lib.hid (place_self hs hy)
      clear hy
      go_wp2_with fail
      refine (find_any _ m d a y.k wr (hesb.below hbr) Hm.out (by omega)).mono ?_
      rintro e w4 ⟨i, f, rfl, hp, hb4⟩
      obtain ⟨rfl, rfl⟩ := hp.unique hs HP.out
      clear hp
      have hb5 := bthen hbr hb4
      go_wp2
      exact ⟨⟨i + 1, by omega, by go_num, hb5⟩, by simp [intOf]; omega⟩
    · have he : k = m := by omega
      subst he
      obtain ⟨hg3, q0, q1⟩ := Hbx.out.below hbr
      go_wp2_with fail
      refine (find_any B k d a x.k wr (hesb.below hbr) Hm.out (by omega)).mono ?_
      rintro e w4 ⟨i, f, rfl, hp, hb4⟩
      have hb34 := bthen hbr hb4
      obtain ⟨hg4, q0, q1⟩ := Hbx.out.below hb34
      have HP := Lib.hid hp
      clear hp hb4 hbr hlt hg3
      go_wp2_with fail
      refine (with_any B k d a x w4 (hesb.below hb34) Hm.out hd (by omega)).mono ?_
      rintro e w5 ⟨i2, f2, v2, rfl, hp2, hown2, hb5⟩
      obtain ⟨rfl, rfl⟩ := hp2.unique hs HP.out
      have hl2 := hp2.wth_len
      rw [Hm.out] at hl2
      rw [hp2.wth hs] at hown2 hl2
      have hb35 := bthen hb34 hb5
      obtain ⟨hg5, q0, q1⟩ := Hbx.out.below hb35
      obtain ⟨B2, d2, rfl, hd2, hes2⟩ := hown2.form
      have hs2 := sorted_put hs x
      generalize put a x = a2 at *
      obtain ⟨m2, hm2⟩ : ∃ m2, a2.length = m2 := ⟨_, rfl⟩
      rw [hm2] at hd2 hl2 ⊢
      have Hm2 := Lib.hid hm2
      have Hl2 := Lib.hid hl2
      have hb2le : m2 ≤ 301 := by rw [hl2]; split <;> omega
      clear hp2 hown2 hb34 hm2 hl2 hg4
      go_wp2_with fail
      refine (without_any B k d a x.k w5 (hesb.below hb35) Hm.out hd (by omega)).mono ?_
      rintro e w6 ⟨i3, f3, v3, rfl, hp3, hown3, hb6⟩
      obtain ⟨rfl, rfl⟩ := hp3.unique hs HP.out
      have hl3 := hp3.wout_len
      rw [Hm.out] at hl3
      rw [hp3.wout hs] at hown3 hl3
      have hb36 := bthen hb35 hb6
      obtain ⟨B3, d3, rfl, hd3, hes3⟩ := hown3.form
      have hs3 := sorted_del hs x.k
      generalize del a x.k = a3 at *
      obtain ⟨m3, hm3⟩ : ∃ m3, a3.length = m3 := ⟨_, rfl⟩
      rw [hm3] at hd3 hl3 ⊢
      have Hm3 := Lib.hid hm3
      have hb3le : m3 ≤ 301 := by rw [hl3]; split <;> omega
      have Hl3 := Lib.hid hl3
      have hlt3 : f3 = true → i3 < k := fun e => by subst e; have := hp3.lt; rw [Hm.out] at this; exact this
      have HT := Lib.hid hlt3
      replace hes2 := hes2.below hb6
      clear hp3 hown3 hb35 hm3 hl3 hg5 hlt3 HP Hbx hb6 q0 q1
      have hl2' := Hl2.out
      have hl3' := Hl3.out
      clear Hl2 Hl3
      cases f3 with
      | false =>
        simp only [Bool.false_eq_true, if_false] at hl2' hl3'
        subst hl2' hl3'
        go_wp2_with fail
        refine (rise_any B2 _ d2 a2 w6 hes2 Hm2.out (by omega)).mono ?_
        rintro e w7 ⟨rfl, hb7⟩
        rw [decide_eq_true hs2]
        have hb37 := bthen hb36 hb7
        replace hes3 := hes3.below hb7
        clear hb36 hb7
        go_wp2_with fail
        refine (rise_any B3 _ d3 a3 w7 hes3 Hm3.out (by omega)).mono ?_
        rintro e w8 ⟨rfl, hb8⟩
        rw [decide_eq_true hs3]
        have hbe := bthen hb03 (bthen hb37 hb8)
        clear hb37 hb8
        go_wp2
        go_ret
        exact ⟨rfl, hbe⟩
      | true =>
        have hkp := HT.out rfl
        obtain ⟨k', rfl⟩ : ∃ k', k = k' + 1 := ⟨k - 1, by omega⟩
        simp only [if_true, Nat.add_zero, Nat.add_sub_cancel] at hl2' hl3'
        subst hl2' hl3'
        go_wp2_with fail
        refine (rise_any B2 _ d2 a2 w6 hes2 Hm2.out (by omega)).mono ?_
        rintro e w7 ⟨rfl, hb7⟩
        rw [decide_eq_true hs2]
        have hb37 := bthen hb36 hb7
        replace hes3 := hes3.below hb7
        clear hb36 hb7
        go_wp2_with fail
        refine (rise_any B3 _ d3 a3 w7 hes3 Hm3.out (by omega)).mono ?_
        rintro e w8 ⟨rfl, hb8⟩
        rw [decide_eq_true hs3]
        have hbe := bthen hb03 (bthen hb37 hb8)
        clear hb37 hb8
        go_wp2
        go_ret
        exact ⟨rfl, hbe⟩


end Go.Proofs.Ytpkmnioehnlmmaa

namespace Go.Proofs.Ytpkmnioehnlmmaa.pairMany
open Go.ChangeShapes Go.WideShapes Go.ChangeAt Go.RowKit
open Go.ChangeMaps (open_string shut_string)
set_option linter.unusedVariables false

theorem own : ownKnob Try.prog.godebug = none := by kernel_rfl
theorem laidOut : laidOutB Try.prog = true := by kernel_rfl

set_option maxRecDepth 100000 in
theorem lifted (os : Os) (started : os.Started) (H : Type) (enc : TypeId × Value → H) :
    ReturnsInHanded {} Try.checked os 8 .any (Rows.pairManySpec.pre6 enc Try.prog Try.f8 Rows.pairManyRow.domain false) (Rows.pairManySpec.post enc Try.prog Try.f8 false true false false) := by
  refine returnsInHanded_of_change_sized (C := Try.checked) own started (by kernel_rfl) Try.func8
    (ChangeSpec.witness6 (enc := enc) (C := Try.checked) false ⟨#[], #[.slice none 0 0, .agg #[.string ByteArray.empty, .string ByteArray.empty]], []⟩ 8 (by kernel_rfl) (by kernel_rfl) (by kernel_rfl) (by kernel_rfl)) ?_
  intro W base args ds gs before hval0 hW hcnd hsz0 _
  have hval : ∀ (j : Nat) t v, Try.f8.params[j]? = some t → args[j]? = some v → Value.okWide Try.prog W .any base t v := hval0
  have hsz : (DataW.weightsEach Try.prog (Try.f8.params.toList ++ Rows.pairManySpec.plain.varTypes Try.prog) (ds ++ gs)).all (· ≤ reachBytes) = true := hsz0
  have hW' := hW
  obtain ⟨p, q, hA0, hV, rfl, hfz, hnd⟩ := hW
  have hA : DataW.TrodAll enc Try.prog W 0 (fun _ => true) true Try.f8.params.toList args.toList ds p := hA0
  rw [Try.params8] at hA hval hsz
  obtain ⟨v0, vs0, d0, ds0, p0, q0, hargs, rfl, rfl, h0, r0⟩ := trodAll_cons hA
  obtain ⟨v1, vs1, d1, ds1, p1, q1, rfl, rfl, rfl, h1, r1⟩ := trodAll_cons r0
  obtain ⟨rfl, rfl, rfl⟩ := trodAll_nil r1
  obtain rfl : args = #[v0, v1] := by cases args; simp_all
  obtain ⟨rfl, rfl⟩ := trodVars_none hV
  obtain ⟨A0, n0, c0, rfl⟩ := okWide_slice Try.underlying22 (hval 0 22 v0 rfl rfl)
  have k0 := h0
  have lt0 : ∀ x ∈ p0, x.block < W.heap.size := by obtain ⟨m, hm⟩ := k0; exact DataW.trod_lt m _ _ _ hm
  obtain ⟨l0, w0⟩ := open_ents h0 (fun m hm => of_decide_eq_true (List.all_eq_true.1 hsz _ (DataW.weights_mem_each (j := 0) (t := 22) rfl rfl m hm)))
  have k1 := h1
  have lt1 : ∀ x ∈ p1, x.block < W.heap.size := by obtain ⟨m, hm⟩ := k1; exact DataW.trod_lt m _ _ _ hm
  obtain ⟨a1, rfl, w1⟩ := open_ent (hval 1 30 v1 rfl rfl) h1 (fun m hm => of_decide_eq_true (List.all_eq_true.1 hsz _ (DataW.weights_mem_each (j := 1) (t := 30) rfl rfl m hm)))
  clear hA0 hval0 hsz hsz0
  refine (pairMany_walk A0 n0 c0 l0 a1 W w0 w1).mono fun e W' ⟨he, bel⟩ => ?_
  subst he
  exact ⟨_, rfl, _, _, _, [], _, [], hW', trodAll_mk1 (shut_bool Try.underlying4 _), (trodAll_cons_mk (Below.trod laidOut (by kernel_rfl) (of_decide_eq_true (by kernel_rfl)) k0 bel lt0) (trodAll_cons_mk (Below.trod laidOut (by kernel_rfl) (of_decide_eq_true (by kernel_rfl)) k1 bel lt1) trodAll_mk0)), rfl, bel.frame _, fun h => by cases h⟩

theorem over : Rows.pairManyRow.holds Try.pinned (OpenSpec.ofChange Rows.pairManySpec) :=
  OpenClaim.holds_of_wide 8 Try.f8 rfl rfl rfl rfl rfl rfl rfl ⟨rfl, rfl, rfl, rfl, rfl⟩ rfl rfl rfl rfl rfl (by kernel_rfl) Try.func8 (by kernel_rfl)
    (of_decide_eq_true (by kernel_rfl)) (by unfold Func.isWrapper; first | (rw [if_pos (by decide +kernel)]; kernel_rfl) | (rw [if_neg (by decide +kernel)]; exact ⟨rfl, rfl⟩))
    (fun os started H enc _ => lifted os started H enc)

theorem proved : Rows.PairManySaid := over
#print axioms proved

end Go.Proofs.Ytpkmnioehnlmmaa.pairMany
