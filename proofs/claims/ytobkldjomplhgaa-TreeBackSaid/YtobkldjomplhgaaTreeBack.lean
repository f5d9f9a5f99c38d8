/-
  TreeBack: what is put and taken again leaves the entries as they were; a tree that nothing changes is itself; for every script and entry; no condition beyond the row's.
-/
import Derived.Test.YtobkldjomplhgaaTreeTools
namespace Go.Proofs.Ytobkldjomplhgaa
open Go.RowKit Go.Sort Go.ChangeShapes Go.WideShapes
set_option linter.unusedVariables false
set_option linter.unusedSimpArgs false

set_option maxRecDepth 100000 in
set_option maxHeartbeats 4000000 in
theorem treeBack_walk (A : Option Addr) (n c : Nat) (l : List TOp) (e : Ent) (w : World) (ha : ArgT w A n c l) (he : ArgE e) :
    Calls Try.prog 9 #[.slice A n c, .agg #[.string e.k, .string e.v]] w fun r w' => r = .returned (.bool true) ∧ Below w.heap.size w w' := by
  have HA := Lib.hid ha
  have hkey := he.key
  have hval := he.val
  clear ha he
  have hb0 : Below w.heap.size w (w.alloc (.cells #[.string e.k, .string e.v] 30)) := (Below.refl _ _).alloc (Nat.le_refl _) _
  have hbx := heap_alloc_new w (.cells #[.string e.k, .string e.v] 30)
  go_enter Try.func9, Try.ntmps9
  go_wp2_with fail
  generalize hw0 : w.alloc (.cells #[.string e.k, .string e.v] 30) = w0 at *
  refine (trAwake_any w0).mono ?_
  rintro r w1 ⟨rfl, hb1⟩
  have HX1 := Lib.hid ((hb1.block _ (lt_of_block hbx)).trans hbx)
  have HB1 := Lib.hid (bthen hb0 hb1)
  clear hb0 hbx hb1 hw0
  go_wp2_with fail
  refine (fewT_any A n c l w1 (HA.out.below HB1.out)).mono ?_
  rintro r w2 ⟨hb2, few, rfl, hfew⟩
  have HX2 := Lib.hid ((hb2.block _ (lt_of_block HX1.out)).trans HX1.out)
  have HB2 := Lib.hid (bthen HB1.out hb2)
  have c0 := cell_at HX2.out 0 _ rfl
  have c1 := cell_at HX2.out 1 _ rfl
  clear hb2
  cases few with
  | false =>
    go_wp2_with fail
    refine (trAwake_any w2).mono ?_
    rintro r w3 ⟨rfl, hb3⟩
    have hb := bthen HB2.out hb3
    clear hb3
    go_wp2
    go_ret
    exact ⟨rfl, hb⟩
  | true =>
    have hl200 := hfew rfl
    rw [HA.out.len] at hl200
    clear hfew
    by_cases hbig : 2000 < e.k.size + e.v.size
    · go_wp2_with fail
      refine (trAwake_any w2).mono ?_
      rintro r w3 ⟨rfl, hb3⟩
      have hb := bthen HB2.out hb3
      clear hb3
      go_wp2
      go_ret
      exact ⟨rfl, hb⟩
    · go_wp2_with fail
      refine (built_any A n c l w2 (HA.out.below HB2.out) (by omega)).mono ?_
      rintro r w3 ⟨T, rfl, ht, hpl, hlen, hb3⟩
      -- ARMS
      have HPL := Lib.hid hpl
      have HT3 := Lib.hid ht
      have HX3 := Lib.hid ((hb3.block _ (lt_of_block HX2.out)).trans HX2.out)
      have HB3 := Lib.hid (bthen HB2.out hb3)
      have hlow : Low T := ht.low (by omega)
      have d0 := cell_at HX3.out 0 _ rfl
      obtain ⟨tp, htv⟩ : ∃ tp, Value.pointer tp = tb T := ⟨_, rfl⟩
      rw [← htv]
      have HTV := Lib.hid htv
      clear c0 c1 hb3 hpl ht htv
      go_wp2_with fail
      rw [HTV.out]
      refine (get_any HT3.out hlow).mono ?_
      rintro r w4 ⟨rfl, hb4⟩
      rw [← HTV.out]
      have HT4 := Lib.hid (HT3.out.below hb4)
      have HX4 := Lib.hid ((hb4.block _ (lt_of_block HX3.out)).trans HX3.out)
      have HB4 := Lib.hid (bthen HB3.out hb4)
      have e0 := cell_at HX4.out 0 _ rfl
      have e1 := cell_at HX4.out 1 _ rfl
      obtain ⟨o, ho⟩ : ∃ o, o = look (tl T) e.k := ⟨_, rfl⟩
      rw [← ho]
      have HO := Lib.hid ho
      unfold lookV
      obtain ⟨ov, hov⟩ : ∃ ov, ov = o.getD ByteArray.empty := ⟨_, rfl⟩
      obtain ⟨ob, hob⟩ : ∃ ob, ob = o.isSome := ⟨_, rfl⟩
      rw [← hov, ← hob]
      have HOV := Lib.hid hov
      have HOB := Lib.hid hob
      clear d0 hb4 ho hov hob
      go_wp2_with fail
      rw [HTV.out]
      refine (put_any HT4.out hlow hkey hval).mono ?_
      rintro r w5 ⟨T', rfl, ht5, hb5, hno, hyes⟩
      rw [← HTV.out]
      have HT5 := Lib.hid ht5
      have HTo5 := Lib.hid (HT4.out.below hb5)
      have HX5 := Lib.hid ((hb5.block _ (lt_of_block HX4.out)).trans HX4.out)
      have HB5 := Lib.hid (bthen HB4.out hb5)
      have f0 := cell_at HX5.out 0 _ rfl
      have HLT := Lib.hid (treeIs_lt HT4.out)
      clear e0 e1 hb5 ht5
      by_cases hok : okE e = true
      · obtain ⟨hput, _, hcase⟩ := hyes hok
        rw [okE_err hok]
        have HPUT := Lib.hid hput
        have HCASE := Lib.hid hcase
        have HOK := Lib.hid hok
        have hle' : (tl T').length ≤ 201 := by
          rw [hput]
          rcases put_length HT5.out.sorted e with h | h
          · rcases put_length HT4.out.sorted e with h' | h' <;> omega
          · rcases put_length HT4.out.sorted e with h' | h' <;> omega
        have hlow' : Low T' := HT5.out.low (by omega)
        have HLK := Lib.hid (show look (tl T') e.k = some e.v by rw [hput]; exact look_put HT4.out.sorted e)
        obtain ⟨tp', htv'⟩ : ∃ tp', Value.pointer tp' = tb T' := ⟨_, rfl⟩
        rw [← htv']
        have HTV' := Lib.hid htv'
        clear hno hyes hput hcase hok htv'
        go_wp2_with fail
        rw [HTV'.out]
        refine (del_any HT5.out hlow').mono ?_
        rintro r w6 ⟨T2, rfl, ht6, hb6, hdel, _, _⟩
        rw [← HTV'.out, HLK.out, Option.isSome_some]
        have HT6 := Lib.hid ht6
        have HT56 := Lib.hid (HT5.out.below hb6)
        have HTo6 := Lib.hid (HTo5.out.below hb6)
        have HX6 := Lib.hid ((hb6.block _ (lt_of_block HX5.out)).trans HX5.out)
        have HB6 := Lib.hid (bthen HB5.out hb6)
        have HDEL := Lib.hid (show tl T2 = del (put (tl T) e) e.k by rw [hdel, HPUT.out])
        have hle2 : (tl T2).length ≤ 201 := by
          rw [hdel]
          exact Nat.le_trans (del_length _ HT5.out.sorted) hle'
        have hlow2 : Low T2 := HT6.out.low (by omega)
        obtain ⟨tp2, htv2⟩ : ∃ tp2, Value.pointer tp2 = tb T2 := ⟨_, rfl⟩
        rw [← htv2]
        have HTV2 := Lib.hid htv2
        have g0 := cell_at HX6.out 0 _ rfl
        have g1 := cell_at HX6.out 1 _ rfl
        clear f0 hb6 ht6 hdel htv2
        cases o with
        | none =>
          have hob : ob = false := HOB.out
          have hov : ov = ByteArray.empty := HOV.out
          subst hob hov
          go_wp2_with fail
          rw [HTV'.out]
          refine (put_any HT56.out hlow' hkey hval).mono ?_
          rintro r w8 ⟨T4, rfl, ht8, hb8, _, hyes8⟩
          obtain ⟨_, _, hcase8⟩ := hyes8 HOK.out
          have h48 : T4 = T' := by
            rcases hcase8 with ⟨_, h⟩ | ⟨h, _⟩
            · exact h
            · exact absurd HLK.out h
          subst h48
          rw [← HTV'.out, okE_err HOK.out]
          have HT8 := Lib.hid (HT6.out.below hb8)
          have HTm8 := Lib.hid (HT56.out.below hb8)
          have HTo8 := Lib.hid (HTo6.out.below hb8)
          have HX8 := Lib.hid ((hb8.block _ (lt_of_block HX6.out)).trans HX6.out)
          have HB8 := Lib.hid (bthen HB6.out hb8)
          have HE3 := Lib.hid (show tl T2 = tl T from (HDEL.out.trans (del_back HT4.out.sorted HO.out.symm)))
          clear g0 g1 hb8 hyes8 hcase8 ht8
          go_wp2_with fail
          rw [HTV2.out]
          refine (items_any HT8.out (by rw [HE3.out]; omega)).mono ?_
          rintro r w9 ⟨v9, rfl, ho9, hb9⟩
          rw [← HTV2.out]
          obtain ⟨A9, c9, rfl, hc9, hes9⟩ := ho9.form
          rw [HE3.out] at hc9 hes9 ⊢
          have HES9 := Lib.hid hes9
          have HTm9 := Lib.hid (HTm8.out.below hb9)
          have HTo9 := Lib.hid (HTo8.out.below hb9)
          have HX9 := Lib.hid ((hb9.block _ (lt_of_block HX8.out)).trans HX8.out)
          have HB9 := Lib.hid (bthen HB8.out hb9)
          clear ho9 hes9 hb9
          go_wp2_with fail
          rw [HTV.out]
          refine (items_any HTo9.out (by omega)).mono ?_
          rintro r wa ⟨va, rfl, hoa, hba⟩
          rw [← HTV.out]
          obtain ⟨Aa, ca, rfl, hca, hesa⟩ := hoa.form
          have HESa := Lib.hid hesa
          have HES9a := Lib.hid (HES9.out.below hba)
          have HTma := Lib.hid (HTm9.out.below hba)
          have HToa := Lib.hid (HTo9.out.below hba)
          have HXa := Lib.hid ((hba.block _ (lt_of_block HX9.out)).trans HX9.out)
          have HBa := Lib.hid (bthen HB9.out hba)
          obtain ⟨q, hq⟩ : ∃ q, (tl T).length = q := ⟨_, rfl⟩
          rw [hq] at hc9 hca hlen ⊢
          have HQ := Lib.hid hq
          clear hoa hesa hba hq
          go_wp2_with fail
          refine (same_any A9 Aa q c9 ca (tl T) wa HES9a.out HESa.out HQ.out (by omega)).mono ?_
          rintro r wb ⟨rfl, hbb⟩
          have HTmb := Lib.hid (HTma.out.below hbb)
          have HTob := Lib.hid (HToa.out.below hbb)
          have HXb := Lib.hid ((hbb.block _ (lt_of_block HXa.out)).trans HXa.out)
          have hb := bthen HBa.out hbb
          have k1 := cell_at HXb.out 1 _ rfl
          have hq1 : (binOp .eql 25 (.pointer tp') (.pointer tp')).run Try.prog wb = .ok (.bool true) wb := by rw [HTV'.out]; exact eql_tb_same _ wb
          have hq2 : (binOp .eql 25 (.pointer tp') (.pointer tp)).run Try.prog wb = .ok (.bool false) wb := by
            rcases HCASE.out with ⟨h, _⟩ | ⟨_, x, rfl, hx⟩
            · rw [← HO.out] at h
              cases h
            · rw [HTV'.out, HTV.out]
              exact eql_tb_new HTob.out HTmb.out HLT.out hx
          clear hbb
          go_wp2
          go_ret
          exact ⟨rfl, hb⟩
        | some v0 =>
          have hob : ob = true := HOB.out
          have hov : ov = v0 := HOV.out
          subst hob hov
          by_cases hv0 : ov = e.v
          · skip
            subst hv0
            have hmem := look_mem HO.out.symm
            have hok3 : okE ⟨e.k, e.v⟩ = true := HT4.out.okE _ hmem
            have hsmall := okE_small hok3
            have HOK3 := Lib.hid hok3
            clear hmem hok3
            go_wp2_with fail
            rw [HTV2.out]
            refine (put_any (e := ⟨e.k, e.v⟩) HT6.out hlow2 hsmall.1 hsmall.2).mono ?_
            rintro r w7 ⟨T3, rfl, ht7, hb7, _, hyes7⟩
            obtain ⟨hput3, _, _⟩ := hyes7 HOK3.out
            rw [← HTV2.out, okE_err HOK3.out]
            have HT7 := Lib.hid ht7
            have HT57 := Lib.hid (HT56.out.below hb7)
            have HTo7 := Lib.hid (HTo6.out.below hb7)
            have HX7 := Lib.hid ((hb7.block _ (lt_of_block HX6.out)).trans HX6.out)
            have HB7 := Lib.hid (bthen HB6.out hb7)
            have HP3 := Lib.hid (show tl T3 = tl T by rw [hput3, HDEL.out]; exact put_back HT4.out.sorted HO.out.symm)
            obtain ⟨tp3, htv3⟩ : ∃ tp3, Value.pointer tp3 = tb T3 := ⟨_, rfl⟩
            rw [← htv3]
            have HTV3 := Lib.hid htv3
            have i0 := cell_at HX7.out 0 _ rfl
            have i1 := cell_at HX7.out 1 _ rfl
            clear g0 g1 hb7 ht7 hyes7 hput3 htv3
            go_wp2_with fail
            rw [HTV'.out]
            refine (put_any HT57.out hlow' hkey hval).mono ?_
            rintro r w8 ⟨T4, rfl, ht8, hb8, _, hyes8⟩
            obtain ⟨_, _, hcase8⟩ := hyes8 HOK.out
            have h48 : T4 = T' := by
              rcases hcase8 with ⟨_, h⟩ | ⟨h, _⟩
              · exact h
              · exact absurd HLK.out h
            subst h48
            rw [← HTV'.out, okE_err HOK.out]
            have HT8 := Lib.hid (HT7.out.below hb8)
            have HTm8 := Lib.hid (HT57.out.below hb8)
            have HTo8 := Lib.hid (HTo7.out.below hb8)
            have HX8 := Lib.hid ((hb8.block _ (lt_of_block HX7.out)).trans HX7.out)
            have HB8 := Lib.hid (bthen HB7.out hb8)
            have HE3 := Lib.hid (show tl T3 = tl T from HP3.out)
            clear i0 i1 hb8 hyes8 hcase8 ht8
            go_wp2_with fail
            rw [HTV3.out]
            refine (items_any HT8.out (by rw [HE3.out]; omega)).mono ?_
            rintro r w9 ⟨v9, rfl, ho9, hb9⟩
            rw [← HTV3.out]
            obtain ⟨A9, c9, rfl, hc9, hes9⟩ := ho9.form
            rw [HE3.out] at hc9 hes9 ⊢
            have HES9 := Lib.hid hes9
            have HTm9 := Lib.hid (HTm8.out.below hb9)
            have HTo9 := Lib.hid (HTo8.out.below hb9)
            have HX9 := Lib.hid ((hb9.block _ (lt_of_block HX8.out)).trans HX8.out)
            have HB9 := Lib.hid (bthen HB8.out hb9)
            clear ho9 hes9 hb9
            go_wp2_with fail
            rw [HTV.out]
            refine (items_any HTo9.out (by omega)).mono ?_
            rintro r wa ⟨va, rfl, hoa, hba⟩
            rw [← HTV.out]
            obtain ⟨Aa, ca, rfl, hca, hesa⟩ := hoa.form
            have HESa := Lib.hid hesa
            have HES9a := Lib.hid (HES9.out.below hba)
            have HTma := Lib.hid (HTm9.out.below hba)
            have HToa := Lib.hid (HTo9.out.below hba)
            have HXa := Lib.hid ((hba.block _ (lt_of_block HX9.out)).trans HX9.out)
            have HBa := Lib.hid (bthen HB9.out hba)
            obtain ⟨q, hq⟩ : ∃ q, (tl T).length = q := ⟨_, rfl⟩
            rw [hq] at hc9 hca hlen ⊢
            have HQ := Lib.hid hq
            clear hoa hesa hba hq
            go_wp2_with fail
            refine (same_any A9 Aa q c9 ca (tl T) wa HES9a.out HESa.out HQ.out (by omega)).mono ?_
            rintro r wb ⟨rfl, hbb⟩
            have HTmb := Lib.hid (HTma.out.below hbb)
            have HTob := Lib.hid (HToa.out.below hbb)
            have HXb := Lib.hid ((hbb.block _ (lt_of_block HXa.out)).trans HXa.out)
            have hb := bthen HBa.out hbb
            have k1 := cell_at HXb.out 1 _ rfl
            have hq1 : (binOp .eql 25 (.pointer tp') (.pointer tp')).run Try.prog wb = .ok (.bool true) wb := by rw [HTV'.out]; exact eql_tb_same _ wb
            have hq2 : (binOp .eql 25 (.pointer tp') (.pointer tp)).run Try.prog wb = .ok (.bool true) wb := by
              rcases HCASE.out with ⟨_, h⟩ | ⟨h, _⟩
              · rw [HTV'.out, HTV.out, h]
                exact eql_tb_same _ wb
              · exact absurd (by rw [← HO.out]) h
            have hsm : (e.v.toList == e.v.toList) = true := by simp
            clear hbb
            go_wp2
            go_ret
            exact ⟨rfl, hb⟩
          · skip
            have HNE := Lib.hid hv0
            clear hv0
            have hmem := look_mem HO.out.symm
            have hok3 : okE ⟨e.k, ov⟩ = true := HT4.out.okE _ hmem
            have hsmall := okE_small hok3
            have HOK3 := Lib.hid hok3
            clear hmem hok3
            go_wp2_with fail
            rw [HTV2.out]
            refine (put_any (e := ⟨e.k, ov⟩) HT6.out hlow2 hsmall.1 hsmall.2).mono ?_
            rintro r w7 ⟨T3, rfl, ht7, hb7, _, hyes7⟩
            obtain ⟨hput3, _, _⟩ := hyes7 HOK3.out
            rw [← HTV2.out, okE_err HOK3.out]
            have HT7 := Lib.hid ht7
            have HT57 := Lib.hid (HT56.out.below hb7)
            have HTo7 := Lib.hid (HTo6.out.below hb7)
            have HX7 := Lib.hid ((hb7.block _ (lt_of_block HX6.out)).trans HX6.out)
            have HB7 := Lib.hid (bthen HB6.out hb7)
            have HP3 := Lib.hid (show tl T3 = tl T by rw [hput3, HDEL.out]; exact put_back HT4.out.sorted HO.out.symm)
            obtain ⟨tp3, htv3⟩ : ∃ tp3, Value.pointer tp3 = tb T3 := ⟨_, rfl⟩
            rw [← htv3]
            have HTV3 := Lib.hid htv3
            have i0 := cell_at HX7.out 0 _ rfl
            have i1 := cell_at HX7.out 1 _ rfl
            clear g0 g1 hb7 ht7 hyes7 hput3 htv3
            go_wp2_with fail
            rw [HTV'.out]
            refine (put_any HT57.out hlow' hkey hval).mono ?_
            rintro r w8 ⟨T4, rfl, ht8, hb8, _, hyes8⟩
            obtain ⟨_, _, hcase8⟩ := hyes8 HOK.out
            have h48 : T4 = T' := by
              rcases hcase8 with ⟨_, h⟩ | ⟨h, _⟩
              · exact h
              · exact absurd HLK.out h
            subst h48
            rw [← HTV'.out, okE_err HOK.out]
            have HT8 := Lib.hid (HT7.out.below hb8)
            have HTm8 := Lib.hid (HT57.out.below hb8)
            have HTo8 := Lib.hid (HTo7.out.below hb8)
            have HX8 := Lib.hid ((hb8.block _ (lt_of_block HX7.out)).trans HX7.out)
            have HB8 := Lib.hid (bthen HB7.out hb8)
            have HE3 := Lib.hid (show tl T3 = tl T from HP3.out)
            clear i0 i1 hb8 hyes8 hcase8 ht8
            go_wp2_with fail
            rw [HTV3.out]
            refine (items_any HT8.out (by rw [HE3.out]; omega)).mono ?_
            rintro r w9 ⟨v9, rfl, ho9, hb9⟩
            rw [← HTV3.out]
            obtain ⟨A9, c9, rfl, hc9, hes9⟩ := ho9.form
            rw [HE3.out] at hc9 hes9 ⊢
            have HES9 := Lib.hid hes9
            have HTm9 := Lib.hid (HTm8.out.below hb9)
            have HTo9 := Lib.hid (HTo8.out.below hb9)
            have HX9 := Lib.hid ((hb9.block _ (lt_of_block HX8.out)).trans HX8.out)
            have HB9 := Lib.hid (bthen HB8.out hb9)
            clear ho9 hes9 hb9
            go_wp2_with fail
            rw [HTV.out]
            refine (items_any HTo9.out (by omega)).mono ?_
            rintro r wa ⟨va, rfl, hoa, hba⟩
            rw [← HTV.out]
            obtain ⟨Aa, ca, rfl, hca, hesa⟩ := hoa.form
            have HESa := Lib.hid hesa
            have HES9a := Lib.hid (HES9.out.below hba)
            have HTma := Lib.hid (HTm9.out.below hba)
            have HToa := Lib.hid (HTo9.out.below hba)
            have HXa := Lib.hid ((hba.block _ (lt_of_block HX9.out)).trans HX9.out)
            have HBa := Lib.hid (bthen HB9.out hba)
            obtain ⟨q, hq⟩ : ∃ q, (tl T).length = q := ⟨_, rfl⟩
            rw [hq] at hc9 hca hlen ⊢
            have HQ := Lib.hid hq
            clear hoa hesa hba hq
            go_wp2_with fail
            refine (same_any A9 Aa q c9 ca (tl T) wa HES9a.out HESa.out HQ.out (by omega)).mono ?_
            rintro r wb ⟨rfl, hbb⟩
            have HTmb := Lib.hid (HTma.out.below hbb)
            have HTob := Lib.hid (HToa.out.below hbb)
            have HXb := Lib.hid ((hbb.block _ (lt_of_block HXa.out)).trans HXa.out)
            have hb := bthen HBa.out hbb
            have k1 := cell_at HXb.out 1 _ rfl
            have hq1 : (binOp .eql 25 (.pointer tp') (.pointer tp')).run Try.prog wb = .ok (.bool true) wb := by rw [HTV'.out]; exact eql_tb_same _ wb
            have hq2 : (binOp .eql 25 (.pointer tp') (.pointer tp)).run Try.prog wb = .ok (.bool false) wb := by
              rcases HCASE.out with ⟨h, _⟩ | ⟨_, x, rfl, hx⟩
              · rw [← HO.out] at h
                exact absurd (Option.some.inj h) HNE.out
              · rw [HTV'.out, HTV.out]
                exact eql_tb_new HTob.out HTmb.out HLT.out hx
            have hsm : (ov.toList == e.v.toList) = false := by
              rw [same_eq, decide_eq_false HNE.out]
            clear hbb
            go_wp2
            go_ret
            exact ⟨rfl, hb⟩
      · have hT := hno (by simpa using hok)
        subst hT
        have hz := okE_no hok
        rw [show tb none = Value.pointer none from rfl]
        have hb := HB5.out
        clear hno hyes hok
        go_wp2
        go_ret
        exact ⟨rfl, hb⟩

end Go.Proofs.Ytobkldjomplhgaa

namespace Go.Proofs.Ytobkldjomplhgaa.treeBack
open Go.ChangeShapes Go.WideShapes Go.ChangeAt Go.RowKit
open Go.ChangeMaps (open_string shut_string)
set_option linter.unusedVariables false

theorem own : ownKnob Try.prog.godebug = none := by kernel_rfl
theorem laidOut : laidOutB Try.prog = true := by kernel_rfl

set_option maxRecDepth 100000 in
theorem lifted (os : Os) (started : os.Started) (H : Type) (enc : TypeId × Value → H) :
    ReturnsInHanded {} Try.checked os 9 .any (Rows.treeBackSpec.pre6 enc Try.prog Try.f9 Rows.treeBackRow.domain false) (Rows.treeBackSpec.post enc Try.prog Try.f9 false true false false) := by
  refine returnsInHanded_of_change_sized (C := Try.checked) own started (by kernel_rfl) Try.func9
    (ChangeSpec.witness6 (enc := enc) (C := Try.checked) false ⟨#[], #[.slice none 0 0, .agg #[.string ByteArray.empty, .string ByteArray.empty]], []⟩ 8 (by kernel_rfl) (by kernel_rfl) (by kernel_rfl) (by kernel_rfl)) ?_
  intro W base args ds gs before hval0 hW hcnd hsz0 _
  have hval : ∀ (j : Nat) t v, Try.f9.params[j]? = some t → args[j]? = some v → Value.okWide Try.prog W .any base t v := hval0
  have hsz : (DataW.weightsEach Try.prog (Try.f9.params.toList ++ Rows.treeBackSpec.plain.varTypes Try.prog) (ds ++ gs)).all (· ≤ reachBytes) = true := hsz0
  have hW' := hW
  obtain ⟨p, q, hA0, hV, rfl, hfz, hnd⟩ := hW
  have hA : DataW.TrodAll enc Try.prog W 0 (fun _ => true) true Try.f9.params.toList args.toList ds p := hA0
  rw [Try.params9] at hA hval hsz
  obtain ⟨v0, vs0, d0, ds0, p0, q0, hargs, rfl, rfl, h0, r0⟩ := trodAll_cons hA
  obtain ⟨v1, vs1, d1, ds1, p1, q1, rfl, rfl, rfl, h1, r1⟩ := trodAll_cons r0
  obtain ⟨rfl, rfl, rfl⟩ := trodAll_nil r1
  obtain rfl : args = #[v0, v1] := by cases args; simp_all
  obtain ⟨rfl, rfl⟩ := trodVars_none hV
  obtain ⟨A0, n0, c0, rfl⟩ := okWide_slice Try.underlying22 (hval 0 22 v0 rfl rfl)
  have k0 := h0
  have lt0 : ∀ x ∈ p0, x.block < W.heap.size := by obtain ⟨m, hm⟩ := k0; exact DataW.trod_lt m _ _ _ hm
  obtain ⟨l0, w0⟩ := open_tops h0 (fun m hm => of_decide_eq_true (List.all_eq_true.1 hsz _ (DataW.weights_mem_each (j := 0) (t := 22) rfl rfl m hm)))
  have k1 := h1
  have lt1 : ∀ x ∈ p1, x.block < W.heap.size := by obtain ⟨m, hm⟩ := k1; exact DataW.trod_lt m _ _ _ hm
  obtain ⟨a1, rfl, w1⟩ := open_ent (hval 1 30 v1 rfl rfl) h1 (fun m hm => of_decide_eq_true (List.all_eq_true.1 hsz _ (DataW.weights_mem_each (j := 1) (t := 30) rfl rfl m hm)))
  clear hA0 hval0 hsz hsz0
  refine (treeBack_walk A0 n0 c0 l0 a1 W w0 w1).mono fun e W' ⟨he, bel⟩ => ?_
  subst he
  exact ⟨_, rfl, _, _, _, [], _, [], hW', trodAll_mk1 (shut_bool Try.underlying4 _), (trodAll_cons_mk (Below.trod laidOut (by kernel_rfl) (of_decide_eq_true (by kernel_rfl)) k0 bel lt0) (trodAll_cons_mk (Below.trod laidOut (by kernel_rfl) (of_decide_eq_true (by kernel_rfl)) k1 bel lt1) trodAll_mk0)), rfl, bel.frame _, fun h => by cases h⟩

theorem over : Rows.treeBackRow.holds Try.pinned (OpenSpec.ofChange Rows.treeBackSpec) :=
  OpenClaim.holds_of_wide 9 Try.f9 rfl rfl rfl rfl rfl rfl rfl ⟨rfl, rfl, rfl, rfl, rfl⟩ rfl rfl rfl rfl rfl (by kernel_rfl) Try.func9 (by kernel_rfl)
    (of_decide_eq_true (by kernel_rfl)) (by unfold Func.isWrapper; first | (rw [if_pos (by decide +kernel)]; kernel_rfl) | (rw [if_neg (by decide +kernel)]; exact ⟨rfl, rfl⟩))
    (fun os started H enc _ => lifted os started H enc)

theorem proved : Rows.TreeBackSaid := over
#print axioms proved

end Go.Proofs.Ytobkldjomplhgaa.treeBack
