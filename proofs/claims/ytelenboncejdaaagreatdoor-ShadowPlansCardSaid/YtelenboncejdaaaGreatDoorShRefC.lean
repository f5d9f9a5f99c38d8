/-
  The contract of the reference's All; conditions: what is known can be read, few numbers.
-/
import Derived.Test.YtelenboncejdaaaGreatDoorShRefAll
namespace Go.Proofs.YtelenboncejdaaaGreatDoor
open Go.RowKit Go.Sort
set_option linter.unusedVariables false
set_option linter.unusedSimpArgs false

set_option maxHeartbeats 8000000 in
set_option maxRecDepth 100000 in
theorem refAll_any {w : World} {A : Option Addr} {n c : Nat} {K : List KN} (ha : ArgK w A n K) (hn : n ≤ 10000) (hsum : ∀ k ≤ n, (allK (K.take k)).length ≤ 100000) (hlen : ∀ x ∈ K, x.l.length ≤ 1000) :
    Calls Tryz.prog 35 #[.slice A n c] w fun e w' => ∃ v, e = .returned v ∧ OwnI w' w.heap.size v (allK K) ∧ Below w.heap.size w w' := by
  have HA := Lib.hid ha
  have HSUM := Lib.hid hsum
  have HLEN := Lib.hid hlen
  clear ha hsum hlen
  go_enter Tryz.func35, Tryz.ntmps35
  go_wp2
  go_loopw [3, 11] (fun s3 s11 wr => ∃ (i : Nat) (v : Value), i ≤ n ∧ s11 = .int .i64 i ∧ v = s3 ∧ Hid (OwnI wr w.heap.size v (allK (K.take i))) ∧ Below w.heap.size w wr) (fun _ s11 _ => n - (intOf s11).toNat)
  case atStart => exact ⟨0, _, Nat.zero_le _, rfl, rfl, Lib.hid (OwnL.nil_ _ _ _), Below.refl _ _⟩
  case round =>
    obtain ⟨i, v, hi, rfl, rfl, HO, hbw⟩ := hrel
    by_cases hlt : i < n
    · obtain ⟨ad, x, rfl, hx, hl1, hcx⟩ := (HA.out.below hbw).ls.at_ encKn (i := i) (by rw [HA.out.len]; exact hlt)
      have hxm := List.mem_of_getElem? hx
      have q1 : wr.cell? ⟨(ad.add (i * 2)).block, (ad.add (i * 2)).off + 1, none⟩ = some (.slice x.A x.l.length x.c) := hcx 1 _ (by omega) rfl
      obtain ⟨m, hm⟩ : ∃ m, x.l.length = m := ⟨_, rfl⟩
      rw [hm] at q1
      have hm1 : m ≤ 1000 := by rw [← hm]; exact HLEN.out x hxm
      have hadlt : (ad.add (i * 2)).block < w.heap.size := by
        obtain ⟨a, e, h1, _⟩ := HA.out.ls (by rw [HA.out.len]; omega)
        cases e
        rw [block_of_add]
        exact h1
      have HM := Lib.hid hm
      have HX := Lib.hid (allK_snoc hx)
      have HQ1 : Hid (∀ W : World, Below w.heap.size w W → W.cell? ⟨(ad.add (i * 2)).block, (ad.add (i * 2)).off + 1, none⟩ = some (.slice x.A m x.c)) := Lib.hid (fun W hW => by
        have h1 := hbw.cell (p := ⟨(ad.add (i * 2)).block, (ad.add (i * 2)).off + 1, none⟩) hadlt
        have h2 := hW.cell (p := ⟨(ad.add (i * 2)).block, (ad.add (i * 2)).off + 1, none⟩) hadlt
        rw [h2, ← h1]
        exact q1)
      have HRX := Lib.hid (HA.out.rows x hxm)
      have HB0 := Lib.hid hbw
      have hN0 := (HSUM.out i (by omega))
      clear hx hcx hxm hm hbw hadlt
      go_wp2
      go_loopw [3, 20] (fun s3 s20 wx => ∃ (j : Nat) (v : Value), j ≤ m ∧ s20 = .int .i64 j ∧ v = s3 ∧ Hid (OwnI wx w.heap.size v (insA (allK (K.take i)) (x.l.take j))) ∧ Below w.heap.size w wx) (fun _ s20 _ => m - (intOf s20).toNat)
      case atStart => exact ⟨0, v, Nat.zero_le _, rfl, rfl, HO, HB0.out⟩
      case round =>
        clear HO
        obtain ⟨j, v, hj, rfl, rfl, HO, hbx⟩ := hrel
        by_cases hjt : j < m
        · obtain ⟨ad', z, hA', hz, hl2, q2⟩ := (HRX.out.below hbx).atI (i := j) (by rw [HM.out]; exact hjt)
          have q1 := HQ1.out _ hbx
          rw [hA'] at q1
          obtain ⟨B, cb, rfl, hcb, hrb⟩ := HO.out.form
          obtain ⟨out, hout⟩ : ∃ out, out = insA (allK (K.take i)) (x.l.take j) := ⟨_, rfl⟩
          have HNX := Lib.hid (insA_snoc (allK (K.take i)) hz)
          have hol : out.length ≤ 101000 := by
            rw [hout]
            have h1 := insA_len (x.l.take j) (allK (K.take i))
            rw [List.length_take] at h1
            omega
          rw [← hout] at HO HNX hrb hcb ⊢
          obtain ⟨no, hno⟩ : ∃ no, out.length = no := ⟨_, rfl⟩
          rw [hno] at hcb hol HO ⊢
          have HNO := Lib.hid hno
          have HRB := Lib.hid hrb
          have HBX := Lib.hid hbx
          have HOUT := Lib.hid hout
          clear hz hbx hrb hno hout hA'
          go_wp2
          go_loopw [7] (fun s7 wy => ∃ k : Nat, k ≤ no ∧ s7 = .int .i64 k ∧ Hid (∀ i y, i < k → out[i]? = some y → y < z) ∧ Below wr.heap.size wr wy) (fun s7 _ => no - (intOf s7).toNat)
          case atStart => exact ⟨0, Nat.zero_le _, rfl, Lib.hid (fun i y h => by omega), Below.refl _ _⟩
          case round =>
            obtain ⟨k, hk, rfl, HLT, hby⟩ := hrel
            have HBY := Lib.hid hby
            have HBW := Lib.hid (bthen HBX.out hby)
            have HOY := Lib.hid (HO.out.below hby)
            by_cases hkn : k < no
            · obtain ⟨aB, y, hB', hy, hlB, qB⟩ := (HRB.out.below hby).atI (i := k) (by rw [HNO.out]; exact hkn)
              subst hB'
              have HY := Lib.hid hy
              by_cases hyz : y < z
              · have HLT2 : Hid (∀ i u, i < k + 1 → out[i]? = some u → u < z) := Lib.hid (fun i u hi hu => by
                  rcases Nat.lt_or_ge i k with h | h
                  · exact HLT.out i u h hu
                  · have : i = k := by omega
                    subst this
                    rw [HY.out] at hu
                    cases hu
                    exact hyz)
                clear hy hby
                go_wp2
                exact ⟨⟨k + 1, by omega, by go_num, HLT2, HBY.out⟩, by simp [intOf]; omega⟩
              · have HLOW : Hid (lowN out z = k) := Lib.hid (lowN_of HLT.out (by rw [HNO.out]; omega) fun u hu => by
                  rw [HY.out] at hu
                  cases hu
                  exact hyz)
                by_cases hye : y = z
                · subst hye
                  have HI : Hid (insN out y = out) := Lib.hid (by rw [insN, HLOW.out, if_pos HY.out])
                  clear hy hby
                  go_wp2
                  exact ⟨⟨j + 1, _, by omega, by go_num, rfl, by rw [HNX.out, HI.out]; exact HOY, HBW.out⟩, by simp [intOf]; omega⟩
                · have hyb : (y == z) = false := by simpa using hye
                  have HI : Hid (insN out z = out.take k ++ [z] ++ out.drop k) := Lib.hid (by rw [insN, HLOW.out, if_neg (by rw [HY.out]; simpa using hye)])
                  clear hy hby
                  obtain ⟨v1, w7, hr1, ho1, hg1⟩ := run_append_ls ienc 38 3 38 _ _ ⟨_, Tryz.underlying38, rfl⟩ intInfo rfl (by omega) (by omega) (OwnL.nil_ 3 wr wr.heap.size : OwnI wr wr.heap.size (.slice none 0 0) []) k cb ((HRB.out.below HBY.out).take_ k) (by rw [List.length_take, HNO.out]; omega) (by simp; omega) (Nat.le_refl _)
                  obtain ⟨A1, c1, hv1, _, _⟩ := ho1.form
                  generalize ([] ++ out.take k).length = n1 at hv1
                  subst hv1
                  have hb67 : Below wr.heap.size wr w7 := (Below.refl _ _).grown hg1 (Nat.le_refl _) (fun q hq => by cases hq)
                  have hbz : Below wr.heap.size wr (w7.alloc (.cells #[.int .i64 z] 3)) := hb67.alloc hb67.size _
                  obtain ⟨v2, w8, hr2, ho2, hg2⟩ := run_append_one ienc 38 3 38 _ _ ⟨_, Tryz.underlying38, rfl⟩ intInfo rfl (by omega) (by omega) (by omega) ho1 z (by simp; omega) hb67.size
                  obtain ⟨A2, c2, hv2, _, _⟩ := ho2.form
                  generalize ([] ++ out.take k ++ [z]).length = n2 at hv2
                  subst hv2
                  have hb68 : Below wr.heap.size wr w8 := hbz.grown hg2 hbz.size (fun q hq => ho1.at_block q hq)
                  obtain ⟨v3, w9, hr3, ho3, hg3⟩ := run_append_ls ienc 38 3 38 _ _ ⟨_, Tryz.underlying38, rfl⟩ intInfo rfl (by omega) (by omega) ho2 (no - k) (cb - k) (((HRB.out.below HBY.out).below hb68).cut ienc (k := k) (c := cb) (by rw [HNO.out]; exact hcb)) (by rw [List.length_drop, HNO.out]) (by simp; omega) hb68.size
                  obtain ⟨A3, c3, hv3, _, _⟩ := ho3.form
                  generalize ([] ++ out.take k ++ [z] ++ out.drop k).length = n3 at hv3
                  subst hv3
                  have hb69 : Below wr.heap.size wr w9 := hb68.grown hg3 hb68.size (fun q hq => ho2.at_block q hq)
                  have HB9 := Lib.hid (bthen HBW.out hb69)
                  have HO9 : Hid (OwnI w9 w.heap.size (.slice A3 n3 c3) (insA (allK (K.take i)) (x.l.take (j + 1)))) := Lib.hid (by
                    rw [HNX.out, HI.out]
                    rw [List.nil_append] at ho3
                    exact ho3.mono HBW.out.size)
                  rw [if_neg (by omega), Option.map_some, Nat.mul_one] at hr3
                  have HR1 := Lib.hid hr1
                  have HR2 := Lib.hid hr2
                  have HR3 := Lib.hid hr3
                  clear hr1 ho1 hg1 hb67 hbz hr2 ho2 hg2 hb68 hr3 ho3 hg3 hb69
                  go_wp2_with (at_builtin; first | refine wpList_append_ran rfl (.tmp 57) (.tmp 60) 38 rfl _ _ _ _ rfl rfl HR1.out ?_ | refine wpList_append_ran rfl (.tmp 62) (.tmp 64) 38 rfl _ _ _ _ rfl rfl HR2.out ?_ | refine wpList_append_ran rfl (.tmp 66) (.tmp 69) 38 rfl _ _ _ _ rfl rfl HR3.out ?_)
                  exact ⟨⟨j + 1, _, by omega, by go_num, rfl, HO9, HB9.out⟩, by simp [intOf]; omega⟩
            · have he : k = no := by omega
              subst he
              have HLOW : Hid (lowN out z = k) := Lib.hid (lowN_of HLT.out (by rw [HNO.out]; omega) fun u hu => by
                rw [List.getElem?_eq_none (by rw [HNO.out]; omega)] at hu
                cases hu)
              have HI : Hid (insN out z = out.take k ++ [z] ++ out.drop k) := Lib.hid (by rw [insN, HLOW.out, if_neg (by rw [List.getElem?_eq_none (by rw [HNO.out]; omega)]; simp)])
              clear hby
              obtain ⟨v1, w7, hr1, ho1, hg1⟩ := run_append_ls ienc 38 3 38 _ _ ⟨_, Tryz.underlying38, rfl⟩ intInfo rfl (by omega) (by omega) (OwnL.nil_ 3 wr wr.heap.size : OwnI wr wr.heap.size (.slice none 0 0) []) k cb ((HRB.out.below HBY.out).take_ k) (by rw [List.length_take, HNO.out]; omega) (by simp; omega) (Nat.le_refl _)
              obtain ⟨A1, c1, hv1, _, _⟩ := ho1.form
              generalize ([] ++ out.take k).length = n1 at hv1
              subst hv1
              have hb67 : Below wr.heap.size wr w7 := (Below.refl _ _).grown hg1 (Nat.le_refl _) (fun q hq => by cases hq)
              have hbz : Below wr.heap.size wr (w7.alloc (.cells #[.int .i64 z] 3)) := hb67.alloc hb67.size _
              obtain ⟨v2, w8, hr2, ho2, hg2⟩ := run_append_one ienc 38 3 38 _ _ ⟨_, Tryz.underlying38, rfl⟩ intInfo rfl (by omega) (by omega) (by omega) ho1 z (by simp; omega) hb67.size
              obtain ⟨A2, c2, hv2, _, _⟩ := ho2.form
              generalize ([] ++ out.take k ++ [z]).length = n2 at hv2
              subst hv2
              have hb68 : Below wr.heap.size wr w8 := hbz.grown hg2 hbz.size (fun q hq => ho1.at_block q hq)
              obtain ⟨v3, w9, hr3, ho3, hg3⟩ := run_append_ls ienc 38 3 38 _ _ ⟨_, Tryz.underlying38, rfl⟩ intInfo rfl (by omega) (by omega) ho2 (k - k) (cb - k) (((HRB.out.below HBY.out).below hb68).cut ienc (k := k) (c := cb) (by rw [HNO.out]; exact hcb)) (by rw [List.length_drop, HNO.out]) (by simp; omega) hb68.size
              obtain ⟨A3, c3, hv3, _, _⟩ := ho3.form
              generalize ([] ++ out.take k ++ [z] ++ out.drop k).length = n3 at hv3
              subst hv3
              have hb69 : Below wr.heap.size wr w9 := hb68.grown hg3 hb68.size (fun q hq => ho2.at_block q hq)
              have HB9 := Lib.hid (bthen HBW.out hb69)
              have HO9 : Hid (OwnI w9 w.heap.size (.slice A3 n3 c3) (insA (allK (K.take i)) (x.l.take (j + 1)))) := Lib.hid (by
                rw [HNX.out, HI.out]
                rw [List.nil_append] at ho3
                exact ho3.mono HBW.out.size)
              by_cases hck : cb = k
              · rw [if_pos hck, Nat.sub_self] at hr3
                subst hck
                rw [Nat.sub_self] at hr3
                have HR1 := Lib.hid hr1
                have HR2 := Lib.hid hr2
                have HR3 := Lib.hid hr3
                clear hr1 ho1 hg1 hb67 hbz hr2 ho2 hg2 hb68 hr3 ho3 hg3 hb69
                go_wp2_with (at_builtin; first | refine wpList_append_ran rfl (.tmp 57) (.tmp 60) 38 rfl _ _ _ _ rfl rfl HR1.out ?_ | refine wpList_append_ran rfl (.tmp 62) (.tmp 64) 38 rfl _ _ _ _ rfl rfl HR2.out ?_ | refine wpList_append_ran rfl (.tmp 66) (.tmp 69) 38 rfl _ _ _ _ rfl rfl HR3.out ?_)
                exact ⟨⟨j + 1, _, by omega, by go_num, rfl, HO9, HB9.out⟩, by simp [intOf]; omega⟩
              · rw [if_neg hck, Nat.sub_self] at hr3
                rcases B with _ | aB
                · rw [Option.map_none] at hr3
                  have HR1 := Lib.hid hr1
                  have HR2 := Lib.hid hr2
                  have HR3 := Lib.hid hr3
                  clear hr1 ho1 hg1 hb67 hbz hr2 ho2 hg2 hb68 hr3 ho3 hg3 hb69
                  go_wp2_with (at_builtin; first | refine wpList_append_ran rfl (.tmp 57) (.tmp 60) 38 rfl _ _ _ _ rfl rfl HR1.out ?_ | refine wpList_append_ran rfl (.tmp 62) (.tmp 64) 38 rfl _ _ _ _ rfl rfl HR2.out ?_ | refine wpList_append_ran rfl (.tmp 66) (.tmp 69) 38 rfl _ _ _ _ rfl rfl HR3.out ?_)
                  exact ⟨⟨j + 1, _, by omega, by go_num, rfl, HO9, HB9.out⟩, by simp [intOf]; omega⟩
                · rw [Option.map_some, Nat.mul_one] at hr3
                  have HR1 := Lib.hid hr1
                  have HR2 := Lib.hid hr2
                  have HR3 := Lib.hid hr3
                  clear hr1 ho1 hg1 hb67 hbz hr2 ho2 hg2 hb68 hr3 ho3 hg3 hb69
                  go_wp2_with (at_builtin; first | refine wpList_append_ran rfl (.tmp 57) (.tmp 60) 38 rfl _ _ _ _ rfl rfl HR1.out ?_ | refine wpList_append_ran rfl (.tmp 62) (.tmp 64) 38 rfl _ _ _ _ rfl rfl HR2.out ?_ | refine wpList_append_ran rfl (.tmp 66) (.tmp 69) 38 rfl _ _ _ _ rfl rfl HR3.out ?_)
                  exact ⟨⟨j + 1, _, by omega, by go_num, rfl, HO9, HB9.out⟩, by simp [intOf]; omega⟩
        · have he : j = m := by omega
          subst he
          rw [List.take_of_length_le (l := x.l) (by rw [HM.out]; exact Nat.le_refl _), ← HX.out] at HO
          go_wp2
          exact ⟨⟨i + 1, _, by omega, by go_num, rfl, HO, hbx⟩, by simp [intOf]; omega⟩
    · have he : i = n := by omega
      subst he
      rw [List.take_of_length_le (by rw [HA.out.len]; exact Nat.le_refl _)] at HO
      go_wp2
      go_ret
      exact ⟨v, rfl, HO.out, hbw⟩

end Go.Proofs.YtelenboncejdaaaGreatDoor
