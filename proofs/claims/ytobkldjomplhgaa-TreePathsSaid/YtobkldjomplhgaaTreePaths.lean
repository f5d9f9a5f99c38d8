/-
  TreePaths: a path goes from the root to a leaf, through kids; a key that there is stands in that leaf; and the height is small; for every script and key; no condition beyond the row's.
-/
import Derived.Test.YtobkldjomplhgaaTreeRefs
namespace Go.Proofs.Ytobkldjomplhgaa
open Go.RowKit Go.Sort Go.ChangeShapes Go.WideShapes
set_option linter.unusedVariables false
set_option linter.unusedSimpArgs false

/-- A step of a way. -/
theorem Way.at_ {w : World} {key : ByteArray} : ∀ {h : Nat} {s : ST} {ps : List ST}, Way w key h s ps → Tr w h s → ∀ i, i + 1 < ps.length → ∃ p k ks j h', ps[i]? = some p ∧ ps[i + 1]? = some k ∧ Tr w (h' + 1) p ∧ KidsOf w h' p ks ∧ Kid ks key j ∧ ks[j]? = some k
  | 0, s, ps, hp, t, i, hi => by
    rw [show ps = [s] from hp] at hi
    simp at hi
  | h + 1, s, ps, ⟨ks, j, k, r, hk, hj, hkj, e, hr⟩, t, 0, hi => by
    subst e
    exact ⟨s, k, ks, j, h, rfl, hr.head, t, hk, hj, hkj⟩
  | h + 1, s, ps, ⟨ks, j, k, r, hk, hj, hkj, e, hr⟩, t, i + 1, hi => by
    subst e
    have := Way.at_ hr (hk.all k (List.mem_of_getElem? hkj)).1 i (by simpa using hi)
    simpa using this
/-- Half-way in the search for the kid. -/
def Far (L : List (Nat × NR)) (key : ByteArray) (k : Nat) (v : Value) : Prop := (k = 0 ∧ v = .int .i64 (-1)) ∨ (1 ≤ k ∧ ∃ a : Nat, v = .int .i64 (a : Int) ∧ a < k ∧ KidTo L key k a)
theorem Far.next {L : List (Nat × NR)} {key : ByteArray} {k : Nat} {v : Value} {x : Nat × NR} (h : Far L key k v) (hx : L[k]? = some x) (hn : k = 0 ∨ ¬ kl key x.2.lo) : Far L key (k + 1) (.int .i64 (k : Int)) :=
  .inr ⟨by omega, k, rfl, Nat.lt_succ_self _, ⟨.inl (Nat.lt_succ_self _), by
    rcases hn with h0 | h0
    · exact .inl h0
    · exact .inr fun y hy => by rw [hx] at hy; cases hy; exact h0, fun j y h1 h2 _ => absurd h2 (by omega)⟩⟩
theorem Far.stay {L : List (Nat × NR)} {key : ByteArray} {k : Nat} {v : Value} {x : Nat × NR} (h : Far L key k v) (hx : L[k]? = some x) (h0 : k ≠ 0) (hd : kl key x.2.lo) : Far L key (k + 1) v := by
  rcases h with ⟨h1, _⟩ | ⟨h1, a, hv, ha, hk⟩
  · exact absurd h1 h0
  · refine .inr ⟨by omega, a, hv, by omega, ⟨.inl (by omega), hk.le, fun j y h2 h3 hy => ?_⟩⟩
    rcases Nat.lt_or_ge j k with h4 | h4
    · exact hk.gt j y h2 h4 hy
    · obtain rfl : j = k := by omega
      rw [hx] at hy
      cases hy
      exact hd

set_option maxRecDepth 100000 in
set_option maxHeartbeats 4000000 in
theorem treePaths_walk (A : Option Addr) (n c : Nat) (l : List TOp) (key : ByteArray) (w : World) (ha : ArgT w A n c l) (hkey : key.size ≤ 140737488351232) :
    Calls Try.prog 6 #[.slice A n c, .string key] w fun r w' => r = .returned (.bool true) ∧ Below w.heap.size w w' := by
  have HA := Lib.hid ha
  clear ha
  go_enter Try.func6, Try.ntmps6
  go_wp2_with fail
  refine (trAwake_any w).mono ?_
  rintro r w1 ⟨rfl, hb1⟩
  have HB1 := Lib.hid hb1
  clear hb1
  go_wp2_with fail
  refine (fewT_any A n c l w1 (HA.out.below HB1.out)).mono ?_
  rintro r w2 ⟨hb2, few, rfl, hfew⟩
  have HB2 := Lib.hid (bthen HB1.out hb2)
  clear hb2
  cases few with
  | false =>
    go_wp2_with fail
    refine (trAwake_any w2).mono ?_
    rintro r w3 ⟨rfl, hb3⟩
    have hb := bthen HB2.out hb3
    clear hb3
    go_wp2
    go_ret
    exact ⟨rfl, hb⟩
  | true =>
    have hl200 := hfew rfl
    rw [HA.out.len] at hl200
    clear hfew
    by_cases hbig : 2000 < key.size
    · go_wp2_with fail
      refine (trAwake_any w2).mono ?_
      rintro r w3 ⟨rfl, hb3⟩
      have hb := bthen HB2.out hb3
      clear hb3
      go_wp2
      go_ret
      exact ⟨rfl, hb⟩
    · go_wp2_with fail
      refine (built_any A n c l w2 (HA.out.below HB2.out) (by omega)).mono ?_
      rintro r w3 ⟨T, rfl, ht, _, hlen, hb3⟩
      have hlow : Low T := ht.low (by omega)
      have HT3 := Lib.hid ht
      have HB3 := Lib.hid (bthen HB2.out hb3)
      clear ht hb3
      cases T with
      | none =>
        rw [show tb none = Value.pointer none from rfl]
        go_wp2_with fail
        refine (path_nil w3 key).mono ?_
        rintro r w4 ⟨rfl, rfl⟩
        go_wp2_with fail
        refine (height_nil w3).mono ?_
        rintro r w4 ⟨rfl, rfl⟩
        go_wp2_with fail
        refine (height_nil w3).mono ?_
        rintro r w4 ⟨rfl, rfl⟩
        go_wp2_with fail
        refine (items_nil w3).mono ?_
        rintro r w4 ⟨v4, rfl, ho4, hb4⟩
        obtain ⟨A4, c4, rfl, _, _⟩ := ho4.form
        have HB4 := Lib.hid (bthen HB3.out hb4)
        clear ho4 hb4
        simp only [List.length_nil]
        go_wp2_with fail
        refine (refHeight_any 0 w4 (by omega)).mono ?_
        rintro r w5 ⟨h, rfl, hp, rfl⟩
        clear hp
        go_wp2
        go_loopw [7] (fun s7 wr => s7 = .int .i64 1 ∧ Below w.heap.size w wr) (fun _ _ => 0)
        case atStart => exact ⟨rfl, HB4.out⟩
        case round =>
          obtain ⟨rfl, hbw⟩ := hrel
          go_wp2_with fail
          refine (get_nil wr key).mono ?_
          rintro r w6 ⟨rfl, hb6⟩
          have hb := bthen hbw hb6
          clear hb6 hbw
          unfold lookV
          simp only [Option.getD_none, Option.isSome_none]
          go_wp2
          go_ret
          exact ⟨rfl, hb⟩
      | some x =>
        obtain ⟨h, s⟩ := x
        have hh : h ≤ 90000 := hlow (h, s) rfl
        have HTR := Lib.hid (show Tr w3 h s from HT3.out (h, s) rfl)
        have hsl : s.l.length ≤ n := hlen
        rw [show tb (some (h, s)) = pn s.b from rfl]
        clear hlow hlen
        go_wp2_with fail
        refine (path_tr HTR.out hh).mono ?_
        rintro r w4 ⟨v4, ps, rfl, ho4, hwy, hb4⟩
        obtain ⟨Ap, cp, rfl, hcp, hlsp⟩ := ho4.form
        have hln := hwy.length
        rw [ptrS_len, hln] at hcp ⊢
        have hhd := hwy.head
        obtain ⟨ad, x, rfl, hx, hadl, hcx⟩ := Ls.node_at hlsp (i := 0) (by rw [nbs_len, hln]; omega)
        rw [nbs_at hhd] at hx
        cases hx
        have hcx : w4.cell? ad = some (pn s.b) := by simpa [Addr.add] using hcx
        have HWY := Lib.hid hwy
        have HLN := Lib.hid hln
        have HT4 := Lib.hid (HTR.out.below hb4)
        have HB34 := Lib.hid hb4
        have HLSP := Lib.hid hlsp
        have HB4 := Lib.hid (bthen HB3.out hb4)
        have hHI : s.N.h = h + 1 := HTR.out.high
        have hpos : (0 : Int) < (h : Int) + 1 := by omega
        have hq := neq_ptr_same ⟨s.b, 0, none⟩
        clear ho4 hwy hln hhd hlsp hb4
        go_wp2_with fail
        refine (height_any HT4.out.at_).mono ?_
        rintro r w5 ⟨rfl, rfl⟩
        rw [hHI]
        go_wp2_with fail
        refine (height_any HT4.out.at_).mono ?_
        rintro r w5 ⟨rfl, rfl⟩
        rw [hHI]
        go_wp2_with fail
        refine (items_tr h w4 s HT4.out (by omega)).mono ?_
        rintro r w5 ⟨v5, rfl, ho5, hb5⟩
        obtain ⟨A5, c5, rfl, _, _⟩ := ho5.form
        obtain ⟨m, hm⟩ : ∃ m, s.l.length = m := ⟨_, rfl⟩
        rw [hm] at hsl ⊢
        have HM := Lib.hid hm
        have HB45 := Lib.hid hb5
        have HB5 := Lib.hid (bthen HB4.out hb5)
        clear ho5 hb5 hcx hm
        go_wp2_with fail
        refine (refHeight_any m w5 (by omega)).mono ?_
        rintro r w6 ⟨q, rfl, hp, rfl⟩
        have hhq : h + 1 ≤ q := HiPost.le (T := some (h, s)) HT3.out (by rw [show (tl (some (h, s))).length = m from HM.out]; exact hp)
        have hng : ¬ (q : Int) < (h : Int) + 1 := by omega
        clear hp hq
        go_wp2
        go_loopw [7] (fun s7 wr => ∃ j1 : Nat, 1 ≤ j1 ∧ j1 ≤ h + 1 ∧ s7 = .int .i64 (j1 : Int) ∧ Below w4.heap.size w4 wr ∧ Below w.heap.size w wr) (fun s7 _ => h + 2 - (intOf s7).toNat)
        case atStart => exact ⟨1, Nat.le_refl _, by omega, rfl, HB45.out, HB5.out⟩
        case round =>
          obtain ⟨j1, hj1, hj2, rfl, hb4r, hbw⟩ := hrel
          obtain ⟨j, hjj⟩ : ∃ j, j1 = j + 1 := ⟨j1 - 1, by omega⟩
          have hij : (j1 : Int) - 1 = (j : Int) := by omega
          have hj : j ≤ h := by omega
          have HJJ := Lib.hid hjj
          clear hjj
          by_cases hlt : j < h
          · have hj1lt : j1 < h + 1 := by rw [HJJ.out]; omega
            obtain ⟨p, k, ks, a, h', hp, hk, tp, hks, hkid, hka⟩ := HWY.out.at_ HTR.out j (by rw [HLN.out]; omega)
            obtain ⟨ad1, x1, e1, hx1, hadl1, hc1⟩ := Ls.node_at (HLSP.out.below hb4r) (i := j) (by rw [nbs_len, HLN.out]; omega)
            cases e1
            rw [nbs_at hp] at hx1
            cases hx1
            have hb3r := bthen HB34.out hb4r
            obtain ⟨nk, hnk⟩ : ∃ nk, ks.length = nk := ⟨_, rfl⟩
            have h2 := hks.two
            have h6 := hks.six
            rw [hnk] at h2 h6
            have HTP := Lib.hid (tp.at_.below hb3r)
            have HKS := Lib.hid hks
            have HKSL := Lib.hid (hks.ls.below hb3r)
            have HNK := Lib.hid hnk
            have HKID := Lib.hid hkid
            have HKA := Lib.hid hka
            have HKJ := Lib.hid hk
            have HB4R := Lib.hid hb4r
            have HB3R := Lib.hid hb3r
            have HBW := Lib.hid hbw
            clear hp hk tp hks hkid hka hnk hb4r hb3r hbw
            go_wp2_with fail
            refine (kids_any HTP.out HKSL.out (by rw [HKS.out.br.kn, ptrS_len, nbs_len]) (by rw [HKS.out.br.kn, nbs_len, HNK.out]; omega)).mono ?_
            rintro r w7 ⟨v7, rfl, ho7, hb7⟩
            obtain ⟨A7, c7, rfl, hc7, hls7⟩ := ho7.form
            rw [ptrS_len, HNK.out] at hc7 ⊢
            have HLS7 := Lib.hid hls7
            have HALL7 := Lib.hid (show All w7 (nbs ks) from (all_of HKS.out.all).below (bthen HB3R.out hb7))
            have HB47 := Lib.hid (bthen HB4R.out hb7)
            have HBW7 := Lib.hid (bthen HBW.out hb7)
            clear ho7 hls7 hb7 hc1
            go_wp2
            go_loopw [9, 75] (fun s9 s75 wq => ∃ k : Nat, k ≤ nk ∧ s75 = .int .i64 (k : Int) ∧ Hid (Far (nbs ks) key k s9) ∧ Below w7.heap.size w7 wq) (fun _ s75 _ => nk - (intOf s75).toNat)
            case atStart => exact ⟨0, Nat.zero_le _, rfl, Lib.hid (.inl ⟨rfl, rfl⟩), Below.refl _ _⟩
            case round =>
              obtain ⟨i, hi, rfl, HF, hbq⟩ := hrel
              by_cases hlt2 : i < nk
              · obtain ⟨ad2, x2, rfl, hx2, hadl2, hc2⟩ := (HLS7.out.below hbq).node_at (i := i) (by rw [nbs_len, HNK.out]; exact hlt2)
                have hN := (HALL7.out.at_ hx2).below hbq
                have HX2 := Lib.hid hx2
                clear hx2
                go_wp2_with fail
                refine (ends_any hN).mono ?_
                rintro e w8 ⟨rfl, nq, rfl⟩
                have HBQ := Lib.hid (below_drewN hbq nq)
                clear hbq hN hc2
                by_cases hz : i = 0
                · have HFN := Lib.hid (HF.out.next HX2.out (.inl hz))
                  subst hz
                  go_wp2
                  exact ⟨⟨0 + 1, by omega, by go_num, HFN, HBQ.out⟩, by simp [intOf]; omega⟩
                · have hz' : ¬ (i : Int) = 0 := by omega
                  have hlo := less_eq x2.2.lo key
                  have hsm := same_eq x2.2.lo key
                  by_cases hd : kl key x2.2.lo
                  · rw [decide_eq_false (kl_asymm hd)] at hlo
                    rw [decide_eq_false (fun e : x2.2.lo = key => kl_irrefl key (by rw [e] at hd; exact hd))] at hsm
                    have HFN := Lib.hid (HF.out.stay HX2.out hz hd)
                    go_wp2
                    exact ⟨⟨i + 1, by omega, by go_num, HFN, HBQ.out⟩, by simp [intOf]; omega⟩
                  · have HFN := Lib.hid (HF.out.next HX2.out (.inr hd))
                    by_cases hk2 : kl x2.2.lo key
                    · rw [decide_eq_true hk2] at hlo
                      go_wp2
                      exact ⟨⟨i + 1, by omega, by go_num, HFN, HBQ.out⟩, by simp [intOf]; omega⟩
                    · rw [decide_eq_false hk2] at hlo
                      rw [decide_eq_true (kl_tri hk2 hd)] at hsm
                      go_wp2
                      exact ⟨⟨i + 1, by omega, by go_num, HFN, HBQ.out⟩, by simp [intOf]; omega⟩
              · have he : i = nk := by omega
                subst he
                rcases HF.out with ⟨h0, _⟩ | ⟨_, a', hv, ha', hkt⟩
                · omega
                have haa : a' = a := by
                  rw [← HNK.out] at hkt
                  exact (hkt.done rfl (by rw [HNK.out]; omega)).unique HKID.out
                subst haa
                subst hv
                obtain ⟨ad3, x3, rfl, hx3, hadl3, hc3⟩ := (HLS7.out.below hbq).node_at (i := a') (by rw [nbs_len, HNK.out]; exact ha')
                rw [nbs_at HKA.out] at hx3
                cases hx3
                obtain ⟨ad4, x4, e4, hx4, hadl4, hc4⟩ := Ls.node_at (HLSP.out.below (bthen HB47.out hbq)) (i := j1) (by rw [nbs_len, HLN.out]; omega)
                cases e4
                rw [HJJ.out, nbs_at HKJ.out] at hx4
                cases hx4
                have hq := neq_ptr_same ⟨k.b, 0, none⟩
                have hneg : decide ((a' : Int) < 0) = false := decide_eq_false (by omega)
                have hbf := bthen HBW7.out hbq
                have hbf4 := bthen HB47.out hbq
                go_wp2
                go_quiet (fail)
                go_wp2
                exact ⟨⟨j1 + 1, by omega, by omega, by go_num, below_drewN hbf4 _, below_drewN hbf _⟩, by simp [intOf]; omega⟩
          · have he : j = h := by omega
            subst he
            have hjj : j1 = j + 1 := HJJ.out
            subst hjj
            obtain ⟨k, hk, tk, hlk⟩ := HWY.out.last HTR.out
            obtain ⟨ad1, x1, e1, hx1, hadl1, hc1⟩ := Ls.node_at (HLSP.out.below hb4r) (i := j) (by rw [nbs_len, HLN.out]; omega)
            cases e1
            rw [nbs_at hk] at hx1
            cases hx1
            obtain ⟨hN, hL, hE, hok, hid⟩ := tk.below (bthen HB34.out hb4r)
            have hlen := okLeaf_len hok
            have HN := Lib.hid hN
            have HL := Lib.hid hL
            have HE := Lib.hid hE
            have HS := Lib.hid (okLeaf_sorted hok)
            have HLK := Lib.hid hlk
            have HTR2 := Lib.hid (HTR.out.below (bthen HB34.out hb4r))
            have HLSR := Lib.hid (HLSP.out.below hb4r)
            have HKJ := Lib.hid hk
            clear hk tk hlk hN hL hE hok hid hc1 hb4r
            obtain ⟨o, ho⟩ : ∃ o, o = look s.l key := ⟨_, rfl⟩
            have HO := Lib.hid ho
            clear ho
            go_wp2_with fail
            refine (get_tr HTR2.out hh).mono ?_
            rintro r w6 ⟨rfl, hb6⟩
            rw [← HO.out]
            unfold lookV
            obtain ⟨ov, hov⟩ : ∃ ov, ov = o.getD ByteArray.empty := ⟨_, rfl⟩
            obtain ⟨ob, hob⟩ : ∃ ob, ob = o.isSome := ⟨_, rfl⟩
            rw [← hov, ← hob]
            obtain ⟨ad2, x2, e2, hx2, hadl2, hc2⟩ := Ls.node_at (HLSR.out.below hb6) (i := j) (by rw [nbs_len, HLN.out]; omega)
            cases e2
            rw [nbs_at HKJ.out] at hx2
            cases hx2
            have HN6 := Lib.hid (HN.out.below hb6)
            have HE6 := Lib.hid (HE.out.below hb6)
            have HLS6 := Lib.hid (HLSR.out.below hb6)
            have HB6 := Lib.hid (bthen hbw hb6)
            have HOV := Lib.hid hov
            have HOB := Lib.hid hob
            have hne : ¬ (j : Int) + 1 = 0 := by omega
            clear hb6 hbw hov hob
            go_wp2_with fail
            refine (entries_any HN6.out HE6.out HL.out.en.symm (by rw [HL.out.en]; omega)).mono ?_
            rintro r w7 ⟨v7, rfl, ho7, hb7⟩
            obtain ⟨A7, c7, rfl, hc7, hes7⟩ := ho7.form
            obtain ⟨m7, hm7⟩ : ∃ m7, k.l.length = m7 := ⟨_, rfl⟩
            rw [hm7] at hc7 hlen ⊢
            have HM7 := Lib.hid hm7
            have HES7 := Lib.hid hes7
            have HB67 := Lib.hid hb7
            have HB7 := Lib.hid (bthen HB6.out hb7)
            clear ho7 hes7 hb7 hm7 hc2
            go_wp2_with fail
            refine (refGet_any A7 m7 c7 k.l key w7 HS.out HES7.out HM7.out (by omega)).mono ?_
            rintro r w8 ⟨rfl, hb8⟩
            rw [HLK.out, ← HO.out]
            unfold lookV
            rw [← HOV.out, ← HOB.out]
            have hb68 := bthen HB67.out hb8
            obtain ⟨ad3, x3, e3, hx3, hadl3, hc3⟩ := Ls.node_at (HLS6.out.below hb68) (i := j) (by rw [nbs_len, HLN.out]; omega)
            cases e3
            rw [nbs_at HKJ.out] at hx3
            cases hx3
            have HN8 := Lib.hid (HN6.out.below hb68)
            have HB8 := Lib.hid (bthen HB7.out hb8)
            have hsm := same_eq ov ov
            rw [decide_eq_true rfl] at hsm
            clear hb8 hb68
            go_wp2_with fail
            refine (kids_any HN8.out (Ls.nil (f := pcP) _ _) (by rw [HL.out.kn]; rfl) (by rw [HL.out.kn]; omega)).mono ?_
            rintro r w9 ⟨v9, rfl, ho9, hb9⟩
            obtain ⟨A9, c9, rfl, _, _⟩ := ho9.form
            have hb := bthen HB8.out hb9
            clear ho9 hb9
            simp only [List.length_nil]
            go_wp2
            go_ret
            exact ⟨rfl, hb⟩

end Go.Proofs.Ytobkldjomplhgaa

namespace Go.Proofs.Ytobkldjomplhgaa.treePaths
open Go.ChangeShapes Go.WideShapes Go.ChangeAt Go.RowKit
open Go.ChangeMaps (open_string shut_string)
set_option linter.unusedVariables false

theorem own : ownKnob Try.prog.godebug = none := by kernel_rfl
theorem laidOut : laidOutB Try.prog = true := by kernel_rfl

set_option maxRecDepth 100000 in
theorem lifted (os : Os) (started : os.Started) (H : Type) (enc : TypeId × Value → H) :
    ReturnsInHanded {} Try.checked os 6 .any (Rows.treePathsSpec.pre6 enc Try.prog Try.f6 Rows.treePathsRow.domain false) (Rows.treePathsSpec.post enc Try.prog Try.f6 false true false false) := by
  refine returnsInHanded_of_change_sized (C := Try.checked) own started (by kernel_rfl) Try.func6
    (ChangeSpec.witness6 (enc := enc) (C := Try.checked) false ⟨#[], #[.slice none 0 0, .string ByteArray.empty], []⟩ 8 (by kernel_rfl) (by kernel_rfl) (by kernel_rfl) (by kernel_rfl)) ?_
  intro W base args ds gs before hval0 hW hcnd hsz0 _
  have hval : ∀ (j : Nat) t v, Try.f6.params[j]? = some t → args[j]? = some v → Value.okWide Try.prog W .any base t v := hval0
  have hsz : (DataW.weightsEach Try.prog (Try.f6.params.toList ++ Rows.treePathsSpec.plain.varTypes Try.prog) (ds ++ gs)).all (· ≤ reachBytes) = true := hsz0
  have hW' := hW
  obtain ⟨p, q, hA0, hV, rfl, hfz, hnd⟩ := hW
  have hA : DataW.TrodAll enc Try.prog W 0 (fun _ => true) true Try.f6.params.toList args.toList ds p := hA0
  rw [Try.params6] at hA hval hsz
  obtain ⟨v0, vs0, d0, ds0, p0, q0, hargs, rfl, rfl, h0, r0⟩ := trodAll_cons hA
  obtain ⟨v1, vs1, d1, ds1, p1, q1, rfl, rfl, rfl, h1, r1⟩ := trodAll_cons r0
  obtain ⟨rfl, rfl, rfl⟩ := trodAll_nil r1
  obtain rfl : args = #[v0, v1] := by cases args; simp_all
  obtain ⟨rfl, rfl⟩ := trodVars_none hV
  obtain ⟨A0, n0, c0, rfl⟩ := okWide_slice Try.underlying22 (hval 0 22 v0 rfl rfl)
  have k0 := h0
  have lt0 : ∀ x ∈ p0, x.block < W.heap.size := by obtain ⟨m, hm⟩ := k0; exact DataW.trod_lt m _ _ _ hm
  obtain ⟨l0, w0⟩ := open_tops h0 (fun m hm => of_decide_eq_true (List.all_eq_true.1 hsz _ (DataW.weights_mem_each (j := 0) (t := 22) rfl rfl m hm)))
  obtain ⟨a1, rfl, rfl, rfl, w1⟩ := open_string Try.underlying9 (hval 1 9 v1 rfl rfl) h1
  have z1 : a1.data.toList.length ≤ reachBytes := sized_string hsz (j := 1) (t := 9) rfl rfl
  have y1 : a1.size ≤ 140737488351232 := z1
  clear hA0 hval0 hsz hsz0
  refine (treePaths_walk A0 n0 c0 l0 a1 W w0 y1).mono fun e W' ⟨he, bel⟩ => ?_
  subst he
  exact ⟨_, rfl, _, _, _, [], _, [], hW', trodAll_mk1 (shut_bool Try.underlying4 _), (trodAll_cons_mk (Below.trod laidOut (by kernel_rfl) (of_decide_eq_true (by kernel_rfl)) k0 bel lt0) (trodAll_cons_mk (shut_string Try.underlying9 w1) trodAll_mk0)), rfl, bel.frame _, fun h => by cases h⟩

theorem over : Rows.treePathsRow.holds Try.pinned (OpenSpec.ofChange Rows.treePathsSpec) :=
  OpenClaim.holds_of_wide 6 Try.f6 rfl rfl rfl rfl rfl rfl rfl ⟨rfl, rfl, rfl, rfl, rfl⟩ rfl rfl rfl rfl rfl (by kernel_rfl) Try.func6 (by kernel_rfl)
    (of_decide_eq_true (by kernel_rfl)) (by unfold Func.isWrapper; first | (rw [if_pos (by decide +kernel)]; kernel_rfl) | (rw [if_neg (by decide +kernel)]; exact ⟨rfl, rfl⟩))
    (fun os started H enc _ => lifted os started H enc)

theorem proved : Rows.TreePathsSaid := over
#print axioms proved

end Go.Proofs.Ytobkldjomplhgaa.treePaths
