/-
  PairLists: of any list whose keys rise any key's place, and the lists with an entry and without a key, are the document's, for every list, entry and key; no condition beyond the row's.
-/
import Derived.Test.YtpkmnioehnlmmaaPairAwake
import Derived.Test.YtpkmnioehnlmmaaPairRef
import Derived.Test.YtpkmnioehnlmmaaPairOpen
namespace Go.Proofs.Ytpkmnioehnlmmaa
open Go.RowKit
set_option linter.unusedVariables false

set_option maxRecDepth 100000 in
set_option maxHeartbeats 4000000 in
theorem pairLists_walk (A : Option Addr) (n c : Nat) (l : List Ent) (x : Ent) (key : ByteArray) (w : World) (ha : Arg w A n c l) (hx : ArgE x) (hkey : key.size ≤ 140737488351232) :
    Calls Try.prog 4 #[.slice A n c, .agg #[.string x.k, .string x.v], .string key] w fun e w' => e = .returned (.bool true) ∧ Below w.heap.size w w' := by
  obtain ⟨hlen, hcap, hsm, hes, hstr⟩ := ha
  obtain ⟨hxk, hxv⟩ := hx
  have Hl := Lib.hid hlen
  have HS := Lib.hid hstr
  clear hlen hstr
  go_enter Try.func4, Try.ntmps4
  go_wp2_with fail
  refine (awake_any _).mono ?_
  rintro e w1 ⟨rfl, hb1⟩
  have hb0 : Below w.heap.size w (w.alloc (.cells #[.string x.k, .string x.v] 30)) := (Below.refl _ _).alloc (Nat.le_refl _) _
  have hbx := (Box.new w x 30).below hb1
  have hb01 := bthen hb0 hb1
  have Hbx := Lib.hid hbx
  generalize hge : w.heap.size = g at hbx Hbx ⊢
  clear hb0 hb1 hbx
  rw [hge] at hb01
  go_wp2_with fail
  refine (few_any A n c l w1 (hes.below (by rw [hge]; exact hb01)) Hl.out hsm HS.out).mono ?_
  rintro e w2 ⟨rfl, hb2⟩
  have hb02 : Below w.heap.size w w2 := bthen (by rw [hge]; exact hb01) hb2
  have hes2 := hes.below hb02
  have hbx := Hbx.out.below hb2
  clear Hbx hb2 hb01 hes w1
  have Hge := Lib.hid hge
  clear hge
  have Hbx := Lib.hid hbx
  obtain ⟨hg2, q0, q1⟩ := hbx
  by_cases hf : Few l
  case neg =>
    rw [decide_eq_false hf]
    go_wp2_with fail
    refine (awake_any w2).mono ?_
    rintro e w3 ⟨rfl, hb3⟩
    go_wp2
    go_ret
    exact ⟨rfl, bthen hb02 hb3⟩
  rw [decide_eq_true hf]
  have hn : n ≤ 300 := by have := hf.1; rw [Hl.out] at this; exact this
  by_cases hx2 : 2000 < x.k.size + x.v.size + key.size
  case pos =>
    go_wp2_with fail
    refine (awake_any w2).mono ?_
    rintro e w3 ⟨rfl, hb3⟩
    go_wp2
    go_ret
    exact ⟨rfl, bthen hb02 hb3⟩
  go_wp2_with fail
  refine (find_any A n c l key w2 hes2 Hl.out (by omega)).mono ?_
  rintro e w3 ⟨i1, f1, rfl, hp1, hb3⟩
  obtain ⟨_, q03, q13⟩ := Hbx.out.below hb3
  have HP1 := Lib.hid hp1
  clear hp1 q0 q1 hf
  go_wp2_with fail
  refine (with_any A n c l x w3 (hes2.below hb3) Hl.out hcap (by omega)).mono ?_
  rintro e w4 ⟨i2, f2, v2, rfl, hp2, hown2, hb4⟩
  have hb24 := bthen hb3 hb4
  have HP2 := Lib.hid hp2
  have HO2 := Lib.hid hown2
  clear hp2 hown2 hb3 hb4 q03 q13
  go_wp2_with fail
  refine (without_any A n c l key w4 (hes2.below hb24) Hl.out hcap (by omega)).mono ?_
  rintro e w5 ⟨i3, f3, v3, rfl, hp3, hown3, hb5⟩
  have hb25 := bthen hb24 hb5
  have HP3 := Lib.hid hp3
  have HO3 := Lib.hid hown3
  replace HO2 := Lib.hid (HO2.out.below hb5)
  clear hp3 hown3 hb24 hb5
  go_wp2_with fail
  refine (refRise_any A n c l w5 (hes2.below hb25) Hl.out (by omega)).mono ?_
  rintro e w6 ⟨rfl, hb6⟩
  have hb26 := bthen hb25 hb6
  replace HO2 := Lib.hid (HO2.out.below hb6)
  replace HO3 := Lib.hid (HO3.out.below hb6)
  clear hb25 hb6
  by_cases hs : Sorted l
  case neg =>
    rw [decide_eq_false hs]
    go_wp2
    go_ret
    exact ⟨rfl, bthen hb02 hb26⟩
  rw [decide_eq_true hs]
  go_wp2_with fail
  refine (refFind_any A n c l key w6 hs (hes2.below hb26) Hl.out (by omega)).mono ?_
  rintro e w7 ⟨i4, f4, rfl, hp4, hb7⟩
  obtain ⟨rfl, rfl⟩ := hp4.unique hs HP1.out
  obtain ⟨rfl, rfl⟩ := hp4.unique hs HP3.out
  have hb27 := bthen hb26 hb7
  have ho2 := HO2.out.below hb7
  rw [HP2.out.wth hs] at ho2
  have ho3 := HO3.out.below hb7
  rw [hp4.wout hs] at ho3
  have hfl : decide ((del l key).length < l.length) = f4 := by
    have h1 := hp4.wout_len
    rw [hp4.wout hs] at h1
    rw [h1]
    cases f4 with
    | false => simp
    | true => have := hp4.lt; simp; omega
  obtain ⟨_, q07, q17⟩ := Hbx.out.below hb27
  have HFL := Lib.hid hfl
  replace HO2 := Lib.hid ho2
  replace HO3 := Lib.hid ho3
  clear hfl ho2 ho3 hp4 hb26 hb7 HP1 HP2 HP3
  go_wp2_with fail
  refine (refOut_any A n c l key w7 hs (hes2.below hb27) Hl.out hn).mono ?_
  rintro e w8 ⟨v5, rfl, hown5, hb8⟩
  rw [HFL.out]
  have hb28 := bthen hb27 hb8
  obtain ⟨_, q08, q18⟩ := Hbx.out.below hb28
  obtain ⟨A2, c2, e2, hc2, hE2⟩ := (HO2.out.below hb8).form
  obtain ⟨A3, c3, e3, hc3, hE3⟩ := (HO3.out.below hb8).form
  obtain ⟨A5, c5, e5, hc5, hE5⟩ := hown5.form
  subst e2 e3 e5
  clear HO2 HO3 hown5 q07 q17 hb27 hb8 HFL
  have hput := put_len l x hs
  have hdel := del_len l key
  rw [Hl.out] at hput hdel
  obtain ⟨m2, hm2⟩ : ∃ m2, (put l x).length = m2 := ⟨_, rfl⟩
  obtain ⟨m3, hm3⟩ : ∃ m3, (del l key).length = m3 := ⟨_, rfl⟩
  rw [hm2] at hput hc2 ⊢
  rw [hm3] at hdel hc3 hc5 ⊢
  have Hm2 := Lib.hid hm2
  have Hm3 := Lib.hid hm3
  clear hm2 hm3
  have hes8 := hes2.below hb28
  have hb08 := bthen hb02 hb28
  clear hb28 hb02
  cases f4 <;> (
    go_wp2_with fail
    refine (refWith_any A n c l x w8 hs hes8 Hl.out hn).mono ?_
    rintro e w9 ⟨v6, rfl, hown6, hb9⟩
    obtain ⟨A6, c6, e6, hc6, hE6⟩ := hown6.form
    rw [Hm2.out] at e6
    subst e6
    clear hown6 hc6
    go_wp2_with fail
    refine (same_any A2 A6 m2 c2 c6 (put l x) w9 (hE2.below hb9) hE6 Hm2.out (by omega)).mono ?_
    rintro e w10 ⟨rfl, hb10⟩
    have hb810 := bthen hb9 hb10
    clear hb9 hb10
    go_wp2_with fail
    refine (same_any A3 A5 m3 c3 c5 (del l key) w10 (hE3.below hb810) (hE5.below hb810) Hm3.out (by omega)).mono ?_
    rintro e w11 ⟨rfl, hb11⟩
    have hbe := bthen hb08 (bthen hb810 hb11)
    clear hb810 hb11
    go_wp2
    go_ret
    exact ⟨rfl, hbe⟩)

end Go.Proofs.Ytpkmnioehnlmmaa

namespace Go.Proofs.Ytpkmnioehnlmmaa.pairLists
open Go.ChangeShapes Go.WideShapes Go.ChangeAt Go.RowKit
open Go.ChangeMaps (open_string shut_string)
set_option linter.unusedVariables false

theorem own : ownKnob Try.prog.godebug = none := by kernel_rfl
theorem laidOut : laidOutB Try.prog = true := by kernel_rfl

set_option maxRecDepth 100000 in
theorem lifted (os : Os) (started : os.Started) (H : Type) (enc : TypeId × Value → H) :
    ReturnsInHanded {} Try.checked os 4 .any (Rows.pairListsSpec.pre6 enc Try.prog Try.f4 Rows.pairListsRow.domain false) (Rows.pairListsSpec.post enc Try.prog Try.f4 false true false false) := by
  refine returnsInHanded_of_change_sized (C := Try.checked) own started (by kernel_rfl) Try.func4
    (ChangeSpec.witness6 (enc := enc) (C := Try.checked) false ⟨#[], #[.slice none 0 0, .agg #[.string ByteArray.empty, .string ByteArray.empty], .string ByteArray.empty], []⟩ 8 (by kernel_rfl) (by kernel_rfl) (by kernel_rfl) (by kernel_rfl)) ?_
  intro W base args ds gs before hval0 hW hcnd hsz0 _
  have hval : ∀ (j : Nat) t v, Try.f4.params[j]? = some t → args[j]? = some v → Value.okWide Try.prog W .any base t v := hval0
  have hsz : (DataW.weightsEach Try.prog (Try.f4.params.toList ++ Rows.pairListsSpec.plain.varTypes Try.prog) (ds ++ gs)).all (· ≤ reachBytes) = true := hsz0
  have hW' := hW
  obtain ⟨p, q, hA0, hV, rfl, hfz, hnd⟩ := hW
  have hA : DataW.TrodAll enc Try.prog W 0 (fun _ => true) true Try.f4.params.toList args.toList ds p := hA0
  rw [Try.params4] at hA hval hsz
  obtain ⟨v0, vs0, d0, ds0, p0, q0, hargs, rfl, rfl, h0, r0⟩ := trodAll_cons hA
  obtain ⟨v1, vs1, d1, ds1, p1, q1, rfl, rfl, rfl, h1, r1⟩ := trodAll_cons r0
  obtain ⟨v2, vs2, d2, ds2, p2, q2, rfl, rfl, rfl, h2, r2⟩ := trodAll_cons r1
  obtain ⟨rfl, rfl, rfl⟩ := trodAll_nil r2
  obtain rfl : args = #[v0, v1, v2] := by cases args; simp_all
  obtain ⟨rfl, rfl⟩ := trodVars_none hV
  obtain ⟨A0, n0, c0, rfl⟩ := okWide_slice Try.underlying22 (hval 0 22 v0 rfl rfl)
  have k0 := h0
  have lt0 : ∀ x ∈ p0, x.block < W.heap.size := by obtain ⟨m, hm⟩ := k0; exact DataW.trod_lt m _ _ _ hm
  obtain ⟨l0, w0⟩ := open_ents h0 (fun m hm => of_decide_eq_true (List.all_eq_true.1 hsz _ (DataW.weights_mem_each (j := 0) (t := 22) rfl rfl m hm)))
  have k1 := h1
  have lt1 : ∀ x ∈ p1, x.block < W.heap.size := by obtain ⟨m, hm⟩ := k1; exact DataW.trod_lt m _ _ _ hm
  obtain ⟨a1, rfl, w1⟩ := open_ent (hval 1 30 v1 rfl rfl) h1 (fun m hm => of_decide_eq_true (List.all_eq_true.1 hsz _ (DataW.weights_mem_each (j := 1) (t := 30) rfl rfl m hm)))
  obtain ⟨a2, rfl, rfl, rfl, w2⟩ := open_string Try.underlying9 (hval 2 9 v2 rfl rfl) h2
  have z2 : a2.data.toList.length ≤ reachBytes := sized_string hsz (j := 2) (t := 9) rfl rfl
  have y2 : a2.size ≤ 140737488351232 := z2
  clear hA0 hval0 hsz hsz0
  refine (pairLists_walk A0 n0 c0 l0 a1 a2 W w0 w1 y2).mono fun e W' ⟨he, bel⟩ => ?_
  subst he
  exact ⟨_, rfl, _, _, _, [], _, [], hW', trodAll_mk1 (shut_bool Try.underlying4 _), (trodAll_cons_mk (Below.trod laidOut (by kernel_rfl) (of_decide_eq_true (by kernel_rfl)) k0 bel lt0) (trodAll_cons_mk (Below.trod laidOut (by kernel_rfl) (of_decide_eq_true (by kernel_rfl)) k1 bel lt1) (trodAll_cons_mk (shut_string Try.underlying9 w2) trodAll_mk0))), rfl, bel.frame _, fun h => by cases h⟩

theorem over : Rows.pairListsRow.holds Try.pinned (OpenSpec.ofChange Rows.pairListsSpec) :=
  OpenClaim.holds_of_wide 4 Try.f4 rfl rfl rfl rfl rfl rfl rfl ⟨rfl, rfl, rfl, rfl, rfl⟩ rfl rfl rfl rfl rfl (by kernel_rfl) Try.func4 (by kernel_rfl)
    (of_decide_eq_true (by kernel_rfl)) (by unfold Func.isWrapper; first | (rw [if_pos (by decide +kernel)]; kernel_rfl) | (rw [if_neg (by decide +kernel)]; exact ⟨rfl, rfl⟩))
    (fun os started H enc _ => lifted os started H enc)

theorem proved : Rows.PairListsSaid := over
#print axioms proved

end Go.Proofs.Ytpkmnioehnlmmaa.pairLists
