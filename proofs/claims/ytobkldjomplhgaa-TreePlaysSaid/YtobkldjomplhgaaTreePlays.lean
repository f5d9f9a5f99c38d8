/-
  TreePlays: whatever is put and taken, the tree's entries are the document's, it can be, and each key has the value that it says; for every script and key; no condition beyond the row's.
-/
import Derived.Test.YtobkldjomplhgaaTreeDoes
namespace Go.Proofs.Ytobkldjomplhgaa
open Go.RowKit Go.Sort Go.ChangeShapes Go.WideShapes
set_option linter.unusedVariables false
set_option linter.unusedSimpArgs false

/-- What stands after some calls. -/
structure PlayAt (w wr : World) (k : Nat) (T : TO) (A : Option Addr) (n c : Nat) : Prop where
  tr : TreeIs wr T
  es : Es wr A (tl T)
  len : (tl T).length = n
  cap : n ≤ c
  few : n ≤ k
  below : Below w.heap.size w wr
theorem PlayAt.next {w wr wq : World} {k : Nat} {T : TO} {A : Option Addr} {n c : Nat} (h : PlayAt w wr k T A n c) (hb : Below wr.heap.size wr wq) : PlayAt w wq k T A n c := ⟨h.tr.below hb, h.es.below hb, h.len, h.cap, h.few, bthen h.below hb⟩

set_option maxRecDepth 100000 in
set_option maxHeartbeats 4000000 in
theorem treePlays_walk (A : Option Addr) (n c : Nat) (l : List TOp) (key : ByteArray) (w : World) (ha : ArgT w A n c l) (hkey : key.size ≤ 140737488351232) :
    Calls Try.prog 3 #[.slice A n c, .string key] w fun r w' => r = .returned (.bool true) ∧ Below w.heap.size w w' := by
  have HA := Lib.hid ha
  clear ha
  go_enter Try.func3, Try.ntmps3
  go_wp2_with fail
  refine (trAwake_any w).mono ?_
  rintro r w1 ⟨rfl, hb1⟩
  have HB1 := Lib.hid hb1
  clear hb1
  go_wp2_with fail
  refine (fewT_any A n c l w1 (HA.out.below HB1.out)).mono ?_
  rintro r w2 ⟨hb2, few, rfl, hfew⟩
  have HB2 := Lib.hid (bthen HB1.out hb2)
  clear hb2
  cases few with
  | false =>
    go_wp2_with fail
    refine (trAwake_any w2).mono ?_
    rintro r w3 ⟨rfl, hb3⟩
    have hb := bthen HB2.out hb3
    clear hb3
    go_wp2
    go_ret
    exact ⟨rfl, hb⟩
  | true =>
    have hl200 := hfew rfl
    rw [HA.out.len] at hl200
    clear hfew
    by_cases hbig : 2000 < key.size
    · go_wp2_with fail
      refine (trAwake_any w2).mono ?_
      rintro r w3 ⟨rfl, hb3⟩
      have hb := bthen HB2.out hb3
      clear hb3
      go_wp2
      go_ret
      exact ⟨rfl, hb⟩
    · have HA2 := Lib.hid (HA.out.below HB2.out)
      go_wp2
      go_loopw [5, 6, 7, 31] (fun s5 s6 s7 s31 wr => ∃ k T A' n' c', k ≤ n ∧ s31 = .int .i64 (k : Nat) ∧ s5 = tb T ∧ s6 = .slice A' n' c' ∧ s7 = .bool true ∧ Below w2.heap.size w2 wr ∧ Hid (PlayAt w wr k T A' n' c')) (fun _ _ _ s31 _ => n - (intOf s31).toNat)
      case atStart => exact ⟨0, none, none, 0, 0, Nat.zero_le _, rfl, rfl, rfl, rfl, Below.refl _ _, Lib.hid ⟨TreeIs.none _, Es.nil _ _, rfl, Nat.le_refl _, Nat.le_refl _, HB2.out⟩⟩
      case round =>
        obtain ⟨k, T, A', n', c', hk, rfl, rfl, rfl, rfl, hbr, HP⟩ := hrel
        by_cases hlt : k < n
        · obtain ⟨ad, o, rfl, ho, hl, q0, q1, q2⟩ := (HA2.out.ls.below hbr).top_at (i := k) (by rw [HA2.out.len]; exact hlt)
          have hok := HA2.out.ok o (List.mem_of_getElem? ho)
          have hfew := HP.out.few
          have hplen := play_len HP.out.tr.sorted o
          have HBR := Lib.hid hbr
          obtain ⟨tp, htv⟩ : ∃ tp, Value.pointer tp = tb T := ⟨_, rfl⟩
          rw [← htv]
          have HTV := Lib.hid htv
          clear ho hbr htv
          go_wp2_with fail
          rw [HTV.out]
          refine (does_any (o := o) HP.out.tr HP.out.es HP.out.len HP.out.cap (by omega) hok).mono ?_
          rintro r w5 ⟨T2, A2, n2, c2, rfl, ht2, hl2, hes2, hn2, hc2, hb2⟩
          have hn2k : n2 ≤ k + 1 := by
            rw [← hn2, hl2]
            have := HP.out.len
            omega
          have HP2 : Hid (PlayAt w w5 (k + 1) T2 A2 n2 c2) := Lib.hid ⟨ht2, hes2, hn2, hc2, hn2k, bthen HP.out.below hb2⟩
          have HBR2 := Lib.hid (bthen HBR.out hb2)
          obtain ⟨tp2, htv2⟩ : ∃ tp2, Value.pointer tp2 = tb T2 := ⟨_, rfl⟩
          rw [← htv2]
          have HTV2 := Lib.hid htv2
          clear ht2 hl2 hes2 hb2 htv2 hplen q0 q1 q2
          go_wp2_with fail
          rw [HTV2.out]
          refine (right_tree HP2.out.tr).mono ?_
          rintro r w6 ⟨rfl, hb6⟩
          rw [← HTV2.out]
          have HP6 := Lib.hid (HP2.out.next hb6)
          have HBR6 := Lib.hid (bthen HBR2.out hb6)
          clear hb6
          go_wp2_with fail
          rw [HTV2.out]
          refine (items_any HP6.out.tr (by rw [hn2]; omega)).mono ?_
          rintro r w7 ⟨v7, rfl, ho7, hb7⟩
          rw [← HTV2.out]
          obtain ⟨A7, c7, rfl, hc7, hes7⟩ := ho7.form
          rw [hn2] at hc7 ⊢
          have HES7 := Lib.hid hes7
          have HP7 := Lib.hid (HP6.out.next hb7)
          have HBR7 := Lib.hid (bthen HBR6.out hb7)
          clear ho7 hes7 hb7
          go_wp2_with fail
          refine (same_any A7 A2 n2 c7 c2 (tl T2) w7 HES7.out HP7.out.es hn2 (by omega)).mono ?_
          rintro r w8 ⟨rfl, hb8⟩
          have HP8 := Lib.hid (HP7.out.next hb8)
          have hbr8 := bthen HBR7.out hb8
          clear hb8
          go_wp2
          exact ⟨⟨k + 1, T2, A2, n2, c2, by omega, by go_num, HTV2.out, rfl, rfl, hbr8, HP8⟩, by simp [intOf]; omega⟩
        · have he : k = n := by omega
          subst he
          have hfew := HP.out.few
          have hlow : Low T := HP.out.tr.low (by rw [HP.out.len]; omega)
          have HS := Lib.hid HP.out.tr.sorted
          have HLN := Lib.hid HP.out.len
          obtain ⟨tp, htv⟩ : ∃ tp, Value.pointer tp = tb T := ⟨_, rfl⟩
          rw [← htv]
          have HTV := Lib.hid htv
          clear hbr htv
          go_wp2
          go_loopw [62] (fun s62 wq => ∃ j : Nat, j ≤ n' ∧ s62 = .int .i64 (j : Nat) ∧ Hid (PlayAt w wq k T A' n' c')) (fun s62 _ => n' - (intOf s62).toNat)
          case atStart => exact ⟨0, Nat.zero_le _, rfl, HP⟩
          case round =>
            obtain ⟨j, hj, rfl, HQ⟩ := hrel
            by_cases hlt2 : j < n'
            · obtain ⟨ad, x, rfl, hx, hl, q0, q1⟩ := HQ.out.es.at_ (i := j) (by rw [HLN.out]; exact hlt2)
              have HX := Lib.hid hx
              have HLK := Lib.hid (look_some HS.out (List.mem_of_getElem? hx))
              clear hx
              go_wp2_with fail
              rw [HTV.out]
              refine (get_any HQ.out.tr hlow).mono ?_
              rintro r w5 ⟨rfl, hb5⟩
              rw [← HTV.out, HLK.out]
              unfold lookV
              simp only [Option.getD_some, Option.isSome_some]
              have HQ5 := Lib.hid (HQ.out.next hb5)
              obtain ⟨ad2, y, e2, hy, hl2, r0, r1⟩ := HQ5.out.es.at_ (i := j) (by rw [HLN.out]; exact hlt2)
              cases e2
              rw [HX.out] at hy
              cases hy
              have hsm := same_eq x.v x.v
              rw [decide_eq_true rfl] at hsm
              clear hb5 q0 q1
              go_wp2
              exact ⟨⟨j + 1, by omega, by go_num, HQ5⟩, by simp [intOf]; omega⟩
            · obtain ⟨o, ho⟩ : ∃ o, o = look (tl T) key := ⟨_, rfl⟩
              have HO := Lib.hid ho
              clear ho
              go_wp2_with fail
              rw [HTV.out]
              refine (get_any HQ.out.tr hlow).mono ?_
              rintro r w5 ⟨rfl, hb5⟩
              rw [← HTV.out, ← HO.out]
              unfold lookV
              obtain ⟨ov, hov⟩ : ∃ ov, ov = o.getD ByteArray.empty := ⟨_, rfl⟩
              obtain ⟨ob, hob⟩ : ∃ ob, ob = o.isSome := ⟨_, rfl⟩
              rw [← hov, ← hob]
              have HOV := Lib.hid hov
              have HOB := Lib.hid hob
              have HQ5 := Lib.hid (HQ.out.next hb5)
              clear hb5 hov hob
              go_wp2_with fail
              refine (refGet_any A' n' c' (tl T) key w5 HS.out HQ5.out.es HLN.out (by omega)).mono ?_
              rintro r w6 ⟨rfl, hb6⟩
              rw [← HO.out]
              unfold lookV
              rw [← HOV.out, ← HOB.out]
              have hsm := same_eq ov ov
              rw [decide_eq_true rfl] at hsm
              have hb := bthen HQ5.out.below hb6
              clear hb6
              go_wp2
              go_ret
              exact ⟨rfl, hb⟩

end Go.Proofs.Ytobkldjomplhgaa

namespace Go.Proofs.Ytobkldjomplhgaa.treePlays
open Go.ChangeShapes Go.WideShapes Go.ChangeAt Go.RowKit
open Go.ChangeMaps (open_string shut_string)
set_option linter.unusedVariables false

theorem own : ownKnob Try.prog.godebug = none := by kernel_rfl
theorem laidOut : laidOutB Try.prog = true := by kernel_rfl

set_option maxRecDepth 100000 in
theorem lifted (os : Os) (started : os.Started) (H : Type) (enc : TypeId × Value → H) :
    ReturnsInHanded {} Try.checked os 3 .any (Rows.treePlaysSpec.pre6 enc Try.prog Try.f3 Rows.treePlaysRow.domain false) (Rows.treePlaysSpec.post enc Try.prog Try.f3 false true false false) := by
  refine returnsInHanded_of_change_sized (C := Try.checked) own started (by kernel_rfl) Try.func3
    (ChangeSpec.witness6 (enc := enc) (C := Try.checked) false ⟨#[], #[.slice none 0 0, .string ByteArray.empty], []⟩ 8 (by kernel_rfl) (by kernel_rfl) (by kernel_rfl) (by kernel_rfl)) ?_
  intro W base args ds gs before hval0 hW hcnd hsz0 _
  have hval : ∀ (j : Nat) t v, Try.f3.params[j]? = some t → args[j]? = some v → Value.okWide Try.prog W .any base t v := hval0
  have hsz : (DataW.weightsEach Try.prog (Try.f3.params.toList ++ Rows.treePlaysSpec.plain.varTypes Try.prog) (ds ++ gs)).all (· ≤ reachBytes) = true := hsz0
  have hW' := hW
  obtain ⟨p, q, hA0, hV, rfl, hfz, hnd⟩ := hW
  have hA : DataW.TrodAll enc Try.prog W 0 (fun _ => true) true Try.f3.params.toList args.toList ds p := hA0
  rw [Try.params3] at hA hval hsz
  obtain ⟨v0, vs0, d0, ds0, p0, q0, hargs, rfl, rfl, h0, r0⟩ := trodAll_cons hA
  obtain ⟨v1, vs1, d1, ds1, p1, q1, rfl, rfl, rfl, h1, r1⟩ := trodAll_cons r0
  obtain ⟨rfl, rfl, rfl⟩ := trodAll_nil r1
  obtain rfl : args = #[v0, v1] := by cases args; simp_all
  obtain ⟨rfl, rfl⟩ := trodVars_none hV
  obtain ⟨A0, n0, c0, rfl⟩ := okWide_slice Try.underlying22 (hval 0 22 v0 rfl rfl)
  have k0 := h0
  have lt0 : ∀ x ∈ p0, x.block < W.heap.size := by obtain ⟨m, hm⟩ := k0; exact DataW.trod_lt m _ _ _ hm
  obtain ⟨l0, w0⟩ := open_tops h0 (fun m hm => of_decide_eq_true (List.all_eq_true.1 hsz _ (DataW.weights_mem_each (j := 0) (t := 22) rfl rfl m hm)))
  obtain ⟨a1, rfl, rfl, rfl, w1⟩ := open_string Try.underlying9 (hval 1 9 v1 rfl rfl) h1
  have z1 : a1.data.toList.length ≤ reachBytes := sized_string hsz (j := 1) (t := 9) rfl rfl
  have y1 : a1.size ≤ 140737488351232 := z1
  clear hA0 hval0 hsz hsz0
  refine (treePlays_walk A0 n0 c0 l0 a1 W w0 y1).mono fun e W' ⟨he, bel⟩ => ?_
  subst he
  exact ⟨_, rfl, _, _, _, [], _, [], hW', trodAll_mk1 (shut_bool Try.underlying4 _), (trodAll_cons_mk (Below.trod laidOut (by kernel_rfl) (of_decide_eq_true (by kernel_rfl)) k0 bel lt0) (trodAll_cons_mk (shut_string Try.underlying9 w1) trodAll_mk0)), rfl, bel.frame _, fun h => by cases h⟩

theorem over : Rows.treePlaysRow.holds Try.pinned (OpenSpec.ofChange Rows.treePlaysSpec) :=
  OpenClaim.holds_of_wide 3 Try.f3 rfl rfl rfl rfl rfl rfl rfl ⟨rfl, rfl, rfl, rfl, rfl⟩ rfl rfl rfl rfl rfl (by kernel_rfl) Try.func3 (by kernel_rfl)
    (of_decide_eq_true (by kernel_rfl)) (by unfold Func.isWrapper; first | (rw [if_pos (by decide +kernel)]; kernel_rfl) | (rw [if_neg (by decide +kernel)]; exact ⟨rfl, rfl⟩))
    (fun os started H enc _ => lifted os started H enc)

theorem proved : Rows.TreePlaysSaid := over
#print axioms proved

end Go.Proofs.Ytobkldjomplhgaa.treePlays
